import PyProof.Rows.All
import Wide.All
import OpenK.AllK
import Wide.FinOn
import HandS.Codes
import HandS.Conv
import HandS.Evl
import HandS.ForMost
import HandS.IsInst
import HandS.SetFor
import HandS.TupAny
import HandS.Wide
import PySem.Challenge.RW_behindexits_k04_rings_judged
set_option Elab.async false
set_option linter.all false
set_option maxRecDepth 100000
set_option maxHeartbeats 4000000
namespace Bx
open PySem PySem.Spec PyProof.Rows L2
example (K : PySem.W.Frag) : PySem.W.kitOne K (.type "bool") (.type "int") = some true := by rfl
example (K : PySem.W.Frag) : PySem.W.kitOne K (.type "NoneType") (.type "int") = some false := by rfl
example (K : PySem.W.Frag) : PySem.W.kitOne K (.type "list") (.type "tuple") = some false := by rfl
example (K : PySem.W.Frag) : PySem.W.kitAny K (.type "dict") [.type "list", .type "tuple"] = some false := by rfl
section
variable {X : Cx}
def rCatS (K : PySem.W.Frag) : R2 := fun x y H Q => ∃ l b xs zs, x = .ref l ∧ y = .ref b ∧ SqL K H l xs ∧ SqL K H b zs ∧ xs.length + zs.length ≤ sizeLine ∧ ∀ p, H p = none → Q (.ref p) (upd H p (.lst (xs ++ zs)))
theorem op_catS : OpR X (binaryOp .Add) (rCatS X.K) := by
  intro pins s σ H x y v u Q I rx ry h
  obtain ⟨l, b, xs, zs, rfl, rfl, hH, hB, hz, q⟩ := h
  cases rx
  cases ry
  obtain ⟨its, r, ⟨⟨cls, dd, data, sl⟩, n, ho, hc, hdd, hd⟩, _⟩ := I.list hH
  obtain ⟨its2, r2, ⟨⟨cls2, dd2, data2, sl2⟩, n2, ho2, hc2, hdd2, hd2⟩, _⟩ := I.list hB
  simp only at hc hd hdd hc2 hd2 hdd2
  subst hc hd hdd hc2 hd2 hdd2
  have e1 := r.length
  have e2 := r2.length
  have e : its.toArray ++ its2.toArray = (its ++ its2).toArray := by simp
  refine concat_meets ⟨_, ho, rfl⟩ ⟨_, ho2, rfl⟩ noFill_list_add seq_list_add PySem.F.slot_list_add PySem.F.entry_list_add (PySem.F.args_list_add_2 _ _) (list_addW l b its.toArray its2.toArray n n2 none none sl sl2 (by simp; omega)) ⟨ho, ho2, ?_⟩
  rw [e]
  exact ⟨.ref _, _, I.lnew (t' := s.toks) (r.append r2) (by rw [List.length_append]; omega), rfl, q _ I.fresh⟩

/-! len(set(t)), t a tuple of ints -/
def tLenSetT (K : PySem.W.Frag) (ta : TE) : TE := fun σ H Q => ta σ H fun x H1 => ∃ (l : Addr) (ns : List Int), x = .ref l ∧ SqT K H1 l (ns.map V.int) ∧ ns.length ≤ 1000 ∧
  ∀ out : List Int, out.Nodup → (∀ k, k ∈ out ↔ k ∈ ns) → Q (.int (out.length : Nat)) H1
theorem pe_lenSetT {a : Expr} {ta : TE} {p p2 q pos : Pos} (hm : X.mg "len" = none) (hm2 : X.mg "set" = none) (ha : PE X a ta) (hg : Gl X "len" := by rfl) (hg2 : Gl X "set" := by rfl) (hc : X.calm = true := by rfl)
    (na : starEach [a] X.env = (false, eval a X.env) :: starEach [] X.env := by rfl) : PE X (.Call (.Name "len" p) [.Call (.Name "set" p2) [a] [] q] [] pos) (tLenSetT X.K ta) := by
  refine ⟨fun pins s σ H Q I h => ?_⟩
  refine Call_ (ld_blt I hg hm boot_len ?_)
  refine PyProof.Rows.callWith_builtin1 (PyProof.Rows.args_cons ?_ rfl) rfl rfl
  refine Call_ (ld_blt I hg2 hm2 boot_set ?_)
  refine PyProof.Rows.callWith_type1 (PyProof.Rows.args_cons (thn (ha.run pins s σ H _ I h) fun v s1 ⟨x, H1, I1, r1, q1⟩ => PyProof.Rows.args_nil ?_) na) na rfl
  obtain ⟨l, ns, rfl, hq, hl, q1⟩ := q1
  cases r1
  obtain ⟨its, rv, pt, hz⟩ := I1.tuple hq
  have hi : IntsAre its.toArray.toList ns := ints_of_vals rv
  have hd := I1.ok.hd hc
  refine call_set_tupI ns hd (show s1.heap.IsTuple l its.toArray from pt) hi (by unfold scanBound; omega) fun h' tk c R1 hcn k => ?_
  refine PyProof.Rows.args_nil ?_
  obtain ⟨o, es, ep, t, ho, hex, hdt, g, nd, hm2, hb, hf, hn, hr, hl2⟩ := R1
  have I2 : Inv X pins σ H1 { s1 with heap := h', toks := tk } := I1.kept fun b o e => k b o e
  have hlen : es.size = (es.toList.map keyOf).length := by rw [List.length_map, Array.length_toList]
  refine call_len_set ho hex hdt hf (by rw [hn]; omega) ⟨.int ((es.toList.map keyOf).length : Nat), H1, I2.tok _, ⟨_, by rw [← hlen]⟩, q1 _ nd fun j => ?_⟩
  rw [← hm2 j, decide_eq_true_eq]
end
section
variable {prog : Program} {w : World} {A : Around} {E : Value → Shared → Prop} {s : Shared}
theorem fm_congr {α β : Type} {f g : α → Option β} : ∀ {l : List α}, (∀ m ∈ l, f m = g m) → l.filterMap f = l.filterMap g
  | [], _ => rfl
  | a :: l, h => by
    rw [List.filterMap_cons, List.filterMap_cons, h a List.mem_cons_self, fm_congr fun m hm => h m (List.mem_cons_of_mem _ hm)]
theorem rev_applied {A : Around} {E : Value → Shared → Prop} {s : Shared} {sl : Addr} {vs : Value} {n : Nat} {Q : Int × Int × Nat → Shared → Prop} (hs : s.heap.IsSliceOf sl .none .none vs) (ps : IsPart vs (some (-1))) (h : Q (((n : Nat) : Int) - 1, -1, n) s) :
    wpAny (model prog w) A (Builtin.Slice.sliceApplied (.ref sl) (pure ((n : Nat) : Int))) Q E s := by
  obtain ⟨os, hos, hcs, hds⟩ := id hs
  unfold Builtin.Slice.sliceApplied Builtin.Slice.sliceFields
  refine wpAny_bind (wpAny_bind (wpAny_field hos hds (x := .none) rfl (wpAny_bind (wpAny_field hos hds (x := .none) rfl (wpAny_bind (wpAny_field hos hds (x := vs) rfl (wpAny_pure ?_)))))))
  refine wpAny_bind (HT.slicePart_ ps ?_)
  show wpAny _ _ (if ((-1 : Int) == 0) = true then _ else _) _ _ s
  rw [if_neg (by decide)]
  refine wpAny_bind (slicePart_none (wpAny_bind (slicePart_none (wpAny_bind (wpAny_pure ?_)))))
  have ea : Builtin.Slice.sliceAdjust none none (-1) ((n : Nat) : Int) = (((n : Nat) : Int) - 1, -1) := by
    unfold Builtin.Slice.sliceAdjust
    simp
  have ep : Builtin.Slice.slicePlaces (((n : Nat) : Int) - 1) (-1) (-1) = n := by
    unfold Builtin.Slice.slicePlaces
    have h1 : ¬ ((-1 : Int) > 0) := by decide
    have h2 : (- -1 : Int) = 1 := by decide
    simp only [h1, if_false, h2, Int.ediv_one]
    split <;> omega
  show wpAny _ _ (match Builtin.Slice.sliceAdjust none none (-1) ((n : Nat) : Int) with | (lo, hi) => pure (lo, (-1 : Int), Builtin.Slice.slicePlaces lo hi (-1))) _ _ s
  rw [ea]
  show wpAny _ _ (pure (((n : Nat) : Int) - 1, (-1 : Int), Builtin.Slice.slicePlaces (((n : Nat) : Int) - 1) (-1) (-1))) _ _ s
  rw [ep]
  exact wpAny_pure h
theorem rev_pick (items : Array Value) : ((List.range items.size).filterMap fun (m : Nat) => items[(((items.size : Nat) : Int) - 1 + (m : Int) * (-1)).toNat]?).toArray = items.toList.reverse.toArray := by
  have e : ((List.range items.size).filterMap fun (m : Nat) => items[(((items.size : Nat) : Int) - 1 + (m : Int) * (-1)).toNat]?) = ((List.range items.size).map fun k => items.size - 1 - k).filterMap (items[·]?) := by
    rw [List.filterMap_map]
    refine fm_congr fun m hm => ?_
    have := List.mem_range.mp hm
    show items[(((items.size : Nat) : Int) - 1 + (m : Int) * (-1)).toNat]? = items[items.size - 1 - m]?
    rw [show (((items.size : Nat) : Int) - 1 + (m : Int) * (-1)).toNat = items.size - 1 - m by omega]
  rw [e, PySem.W.krv_range, List.filterMap_reverse, PySem.W.krv_all]
theorem getItem_tuple_rev {t sl : Addr} {items : Array Value} {vs : Value} {Q : Value → Shared → Prop} (ht : IsTup s.heap t items) (hs : s.heap.IsSliceOf sl .none .none vs) (ps : IsPart vs (some (-1)))
    (h : Q (.ref s.heap.objs.size) { s with heap := s.heap.push { cls := .type "tuple", data := .seq items.toList.reverse.toArray } })
    (hsz : items.size ≤ sizeLine) : wpAny (model prog w) A (getItem (.ref t) (.ref sl)) Q E s := by
  have htake : sizeOk (.seq items.toList.reverse.toArray) := by
    show items.toList.reverse.toArray.size ≤ sizeLine
    rw [List.size_toArray, List.length_reverse, Array.length_toList]
    exact hsz
  obtain ⟨os, hos, hcs, hds⟩ := id hs
  have hTs : s.TypeIs (.ref sl) "slice" := ⟨os, hos, hcs⟩
  unfold getItem
  try with_reducible refine wpAny_holding ?_
  first | refine wpAny_bind (wpAny_pure ?_) | skip
  refine wpAny_bind (wpAny_sequenceKey ht.typeIs (by decide) ?_)
  refine wpAny_bind (wpAny_callSpecial?_slot (name := Str.ofString "__getitem__") ht.typeIs PyProof.Rows.slot_tuple_getitem
    (wpAny_call_entry PyProof.Rows.slot_tuple_getitem ht.typeIs entry_tuple_getitem ?_ (args_tuple_getitem _ _)))
  show wpAny _ _ (Builtin.Tuple.tupleItemsOf (.ref t) >>= _) _ _ s
  refine wpAny_bind (tupleItemsOf_ ht ?_)
  refine wpAny_bind (wpAny_typeOf hTs ?_)
  rw [if_pos (by decide)]
  refine wpAny_bind (rev_applied hs ps ?_)
  have hno : ¬ (((((items.size : Nat) : Int) - 1) == 0 && (-1 : Int) == 1 && items.size == items.size) = true) := by
    intro q
    rw [Bool.and_eq_true, Bool.and_eq_true] at q
    exact absurd q.1.2 (by decide)
  show wpAny _ _ (if ((((items.size : Nat) : Int) - 1) == 0 && (-1 : Int) == 1 && items.size == items.size) = true then _ else _) _ _ s
  rw [if_neg hno, rev_pick]
  first
    | exact wpAny_bind (m := Builtin.Tuple.tupleExact _) (wpAny_newObj_type (wpAny_pure ⟨_, rfl, wpAny_pure h⟩) htake)
    | exact wpAny_bind (m := Builtin.Tuple.tupleExact _) (wpAny_newObj_type (wpAny_bind (wpAny_pure (wpAny_pure ⟨_, rfl, wpAny_pure h⟩))) htake)
    | exact wpAny_bind (wpAny_bind (m := Builtin.Tuple.tupleExact _) (wpAny_newObj_type (wpAny_pure (wpAny_pure ⟨_, rfl, wpAny_pure h⟩)) htake))
    | exact wpAny_bind (wpAny_bind (m := Builtin.Tuple.tupleExact _) (wpAny_newObj_type (wpAny_pure ⟨_, rfl, wpAny_pure h⟩) htake))
end
section
variable {X : Cx}
def tRevT (K : PySem.W.Frag) (te : TE) : TE := fun σ H Q => te σ H fun x H1 => ∃ a xs, x = .ref a ∧ SqT K H1 a xs ∧ ∀ p, H1 p = none → Q (.ref p) (upd H1 p (.tup xs.reverse))
theorem pe_revT {e : Expr} {te : TE} {k : Nat} {p1 p2 p3 pos : Pos} (he : PE X e te) : PE X (.Subscript e (.Slice none none (some (.UnaryOp .USub (.Constant (.int 1) k p1) p2)) p3) pos) (tRevT X.K te) := by
  refine ⟨fun pins s σ H Q I h => ?_⟩
  refine Subscript_ (thn (he.run pins s σ H _ I h) fun v s1 ⟨x, H1, I1, r1, q1⟩ => ?_)
  obtain ⟨a, xs, ex, hx, q⟩ := q1
  subst ex
  cases r1
  have hst : PO X (some (.UnaryOp .USub (.Constant (.int 1) k p1) p2)) (tPart (tUn (rU fun i => .int (-i)) (tC (.int 1)))) := po_some (pe_un un_neg pe_int)
  refine wpAny_Slice (thn (po_none.run pins s1 σ H1 (fun o H2 => o = none ∧ H2 = H1) I1 ⟨rfl, rfl⟩) fun vl s2 ⟨l, H2, I2, pl, el, e2⟩ => ?_)
  subst el e2
  refine thn (po_none.run pins s2 σ H2 (fun o H3 => o = none ∧ H3 = H2) I2 ⟨rfl, rfl⟩) fun vu s3 ⟨u, H3, I3, pu, eu, e3⟩ => ?_
  subst eu e3
  refine thn (hst.run pins s3 σ H3 (fun o H4 => o = some (-1) ∧ H4 = H3) I3 ⟨1, rfl, -1, rfl, rfl, rfl⟩) fun vs s4 ⟨o, H4, I4, ps, eo, e4⟩ => ?_
  subst eo e4
  cases pl
  cases pu
  have I5 : Inv X pins σ H4 { s4 with heap := s4.heap.push { cls := .type "slice", data := .fields #[Value.none, Value.none, vs] } } := I4.kept (t' := s4.toks) fun b ob q => Heap.get?_push_of_some _ q
  obtain ⟨its, r, ht, hz⟩ := I5.tuple hx
  have hlen := r.length
  show wpAny (model X.prog X.w) X.A (subscriptTail e (.Slice none none (some (.UnaryOp .USub (.Constant (.int 1) k p1) p2)) p3) (.ref a) (.ref s4.heap.objs.size)) (EP X pins σ Q) X.xe { s4 with heap := s4.heap.push { cls := .type "slice", data := .fields #[Value.none, Value.none, vs] } }
  refine tail_any (ops := [.ref a, .ref s4.heap.objs.size]) ht.typeIs (PyProof.Rows.slot_tuple_getitem.lookup) ?_ (by with_unfolding_all rfl)
  refine getItem_tuple_rev ht (Heap.IsSliceOf.new _ Value.none Value.none vs) ps ?_ (by rw [List.size_toArray]; omega)
  refine ⟨.ref _, _, I5.laid (t' := s4.toks) (o := .tup xs.reverse) (fun b ob q => Heap.get?_push_of_some _ q) (Nat.le_refl _) ?_, rfl, q _ (I5.hok.fresh (Nat.le_refl _))⟩
  exact ⟨by rw [List.length_reverse]; exact hz, _, r.reverse, ⟨_, Heap.get?_push_size _ rfl, rfl, 0, rfl⟩⟩
end
end Bx

namespace Bx
open PySem PySem.Spec PyProof.Rows L2
/-! ### what stays -/
theorem Same.new {H : Hp} {p : Addr} {o : HO} (h : H p = none) : Same H (upd H p o) := fun a u e => by
  rw [upd_ne (ne_of_none e h)]
  exact e
theorem Same.mut {H H' : Hp} {p : Addr} {o : HO} (e : Same H H') (h : H p = none) : Same H (upd H' p o) := fun a u ha => by
  rw [upd_ne (ne_of_none ha h)]
  exact e a u ha
theorem Same.seqT {K : PySem.W.Frag} {H H' : Hp} {a : Addr} {xs : List V} (e : Same H H') (h : SqT K H a xs) : SqT K H' a xs := by
  rcases h with (h | ⟨o, h⟩) | h
  · exact .inl (.inl (e _ _ h))
  · exact .inl (.inr ⟨o, e _ _ h⟩)
  · exact .inr h
theorem Same.ty {K : PySem.W.Frag} {H H' : Hp} {v : V} {t : Value} (e : Same H H') (h : TyX K H v t) : TyX K H' v t := by
  cases h with
  | base b =>
    cases b with
    | non => exact .base .non
    | bl x => exact .base (.bl x)
    | int i => exact .base (.int i)
    | str x => exact .base (.str x)
    | flt x => exact .base (.flt x)
    | lst q => exact .base (.lst (e _ _ q))
    | frz q => exact .base (.frz (e _ _ q))
    | tup q => exact .base (.tup (e _ _ q))
    | dK q => exact .base (.dK (e _ _ q))
    | dT q => exact .base (.dT (e _ _ q))
    | ins q cl ha hn htk hm => exact .base (.ins (e _ _ q) cl ha hn htk hm)
  | byt b => exact .byt b
  | set q => exact .set (e _ _ q)
  | kList a b => exact .kList a b
  | kTuple a b => exact .kTuple a b
  | kDict a b => exact .kDict a b
  | fTuple q => exact .fTuple (e _ _ q)
  | fDict q => exact .fDict (e _ _ q)
theorem tyT {K : PySem.W.Frag} {H : Hp} {a : Addr} {xs : List V} (h : SqT K H a xs) : TyX K H (.ref a) (.type "tuple") := by
  rcases h with (h | ⟨o, h⟩) | ⟨o, its, n, hk, hc, _⟩
  · exact .base (.tup h)
  · exact .fTuple h
  · exact .kTuple hk hc
theorem tyL {K : PySem.W.Frag} {H : Hp} {a : Addr} {xs : List V} (h : SqL K H a xs) : TyX K H (.ref a) (.type "list") := by
  rcases h with (h | ⟨o, h⟩) | ⟨o, its, n, hk, hc, _⟩
  · exact .base (.lst h)
  · exact .base (.frz h)
  · exact .kList hk hc
/-- .. all but the one at l -/
def But (l : Addr) (H H' : Hp) : Prop := ∀ b o, H b = some o → b ≠ l → H' b = some o
theorem But.refl (l : Addr) (H : Hp) : But l H H := fun _ _ h _ => h
theorem But.trans {l : Addr} {H H1 H2 : Hp} (a : But l H H1) (b : But l H1 H2) : But l H H2 := fun c o h n => b c o (a c o h n) n
theorem But.of {l : Addr} {H H' : Hp} (a : Same H H') : But l H H' := fun c o h _ => a c o h
theorem But.upd {l : Addr} {H : Hp} {o : HO} : But l H (upd H l o) := fun c u h n => by
  rw [upd_ne n]
  exact h
theorem But.seq {K : PySem.W.Frag} {l : Addr} {H H' : Hp} {a : Addr} {xs : List V} (e : But l H H') (n : a ≠ l) (h : SqL K H a xs) : SqL K H' a xs := by
  rcases h with (h | ⟨o, h⟩) | h
  · exact .inl (.inl (e _ _ h n))
  · exact .inl (.inr ⟨o, e _ _ h n⟩)
  · exact .inr h
theorem But.seqT {K : PySem.W.Frag} {l : Addr} {H H' : Hp} {a : Addr} {xs : List V} (e : But l H H') (n : a ≠ l) (h : SqT K H a xs) : SqT K H' a xs := by
  rcases h with (h | ⟨o, h⟩) | h
  · exact .inl (.inl (e _ _ h n))
  · exact .inl (.inr ⟨o, e _ _ h n⟩)
  · exact .inr h
theorem But.free {l : Addr} {H H' : Hp} (e : But l H H') {p : Addr} (n : p ≠ l) (h : H' p = Option.none) : H p = Option.none := by
  cases q : H p with
  | none => rfl
  | some o =>
    rw [e p o q n] at h
    cases h
/-! ### tuples of any kind: what a sum, a slice is -/
section
variable {X : Cx}
def rCatU (K : PySem.W.Frag) : R2 := fun x y H Q => ∃ a b xs ys, x = .ref a ∧ y = .ref b ∧ SqT K H a xs ∧ SqT K H b ys ∧ xs.length + ys.length ≤ sizeLine ∧ ∀ c H', Same H H' → SqT K H' c (xs ++ ys) → Q (.ref c) H'
theorem op_catU : OpR X (binaryOp .Add) (rCatU X.K) := by
  intro pins s σ H x y v u Q I rx ry h
  obtain ⟨a, b, xs, ys, ex, ey, ha, hb, hz, q⟩ := h
  refine op_catA pins s σ H x y v u Q I rx ry ⟨a, b, xs, ys, ex, ey, ha, hb, hz, fun e => ?_, fun _ e => ?_, fun _ _ p hp => ?_⟩
  · subst e
    exact q b H (Same.refl H) hb
  · subst e
    exact q a H (Same.refl H) (by rw [List.append_nil]; exact ha)
  · exact q p _ (Same.new hp) (.inl (.inl upd_same))
def rSlU (K : PySem.W.Frag) : V → Option Int → Option Int → Hp → VK → Prop := fun x lo hi H Q => ∃ a xs, x = .ref a ∧ SqT K H a xs ∧ ∀ c H', Same H H' → SqT K H' c (cutV xs lo hi) → Q (.ref c) H'
theorem sl_tupU : SlR X (rSlU X.K) := by
  intro pins s σ H x v vl vu lo hi sl Q I rx hs pl pu h
  obtain ⟨a, xs, ex, hx, q⟩ := h
  refine sl_tupA pins s σ H x v vl vu lo hi sl Q I rx hs pl pu ⟨a, xs, ex, hx, fun hw => ?_, fun _ p hp => ?_⟩
  · refine q a H (Same.refl H) ?_
    unfold cutV
    rw [hw.1, hw.2, List.drop_zero, Nat.sub_zero, List.take_length]
    exact hx
  · exact q p _ (Same.new hp) (.inl (.inl upd_same))
end
/-! ### a loop over enumerate of a list -/
theorem for_enumL {K : PySem.W.Frag} {a : Addr} {xs : List V} {g : TG} {tb : TS} {D : Ends} {σ : L2.St} {H : Hp} (Pv : Nat → L2.St → Hp → Prop) (h0 : Pv 0 σ H) (hq : ∀ i σ H, Pv i σ H → SqL K H a xs)
    (hs : ∀ (i : Nat) (x : V) (T : Addr) (σ : L2.St) (H : Hp), xs[i]? = some x → Pv i σ H → H T = none → g (.ref T) σ (upd H T (.tup [.int (i : Nat), x])) fun σ2 H2 => tb { D with nx := Pv (i + 1), ct := Pv (i + 1), bk := D.nx } σ2 H2) (hd : ∀ σ H, Pv xs.length σ H → D.nx σ H) :
    ∃ W : Nat → Nat → L2.St → Hp → Prop, (∃ m, W 0 m σ H) ∧ ∀ i m σ H, W i m σ H →
      ((Ite K a).stop i H ∧ D.nx σ H) ∨ ((Ite K a).go i H ∧ ∃ N : L2.St → Hp → Prop, (∀ σ' H', N σ' H' → ∃ m', m' < m ∧ W (i + 1) m' σ' H') ∧ ∀ v H', (Ite K a).yld i H v H' → g v σ H' fun σ2 H2 => tb { D with nx := N, ct := N, bk := D.nx } σ2 H2) := by
  refine ⟨fun i m σ H => m = xs.length - i ∧ i ≤ xs.length ∧ Pv i σ H, ⟨xs.length, rfl, Nat.zero_le _, h0⟩, ?_⟩
  rintro i m σ H ⟨rfl, hi, p⟩
  have qx := hq i σ H p
  by_cases hlt : i < xs.length
  · have hx : xs[i]? = some xs[i] := List.getElem?_eq_getElem hlt
    refine .inr ⟨⟨xs, _, qx, hx⟩, Pv (i + 1), fun σ' H' p' => ⟨xs.length - (i + 1), by omega, rfl, hlt, p'⟩, fun v H' y => ?_⟩
    obtain ⟨T, x', rfl, hT, rfl, f1⟩ := y
    exact hs i x' T σ H (f1 xs qx) p hT
  · have e : i = xs.length := by omega
    subst e
    exact .inl ⟨⟨xs, qx, Nat.le_refl _⟩, hd σ H p⟩
end Bx

namespace Bx
open PySem PySem.Spec PyProof.Rows L2
theorem lay_ints : ∀ is : List Int, PyData.canLayAll0 (is.map PyData.int) = true
  | [] => by simp [PyData.canLayAll0]
  | i :: is => by simp [PyData.canLayAll0, PyData.canLay0, lay_ints is]
theorem dep_ints : ∀ is : List Int, PyData.depthAll (is.map PyData.int) ≤ 1
  | [] => by simp [PyData.depthAll]
  | i :: is => by
    have := dep_ints is
    simp [PyData.depthAll, PyData.depth]
    omega
theorem shaped_ints (is : List Int) : SeqAt.shaped (.list (is.map PyData.int)) = true := by
  unfold SeqAt.shaped
  rw [Bool.and_eq_true, decide_eq_true_eq]
  refine ⟨by simp [PyData.canLay0, lay_ints], ?_⟩
  have := dep_ints is
  simp [PyData.depth]
  omega
theorem lay_strs : ∀ {is : List Str}, (∀ x ∈ is, PyData.strOk x = true) → PyData.canLayAll0 (is.map PyData.str) = true
  | [], _ => by simp [PyData.canLayAll0]
  | i :: is, h => by simp [PyData.canLayAll0, PyData.canLay0, lay_strs fun x hx => h x (List.mem_cons_of_mem _ hx), h i List.mem_cons_self]
theorem dep_strs : ∀ is : List Str, PyData.depthAll (is.map PyData.str) ≤ 1
  | [] => by simp [PyData.depthAll]
  | i :: is => by
    have := dep_strs is
    simp [PyData.depthAll, PyData.depth]
    omega
theorem shaped_strs {is : List Str} (h : ∀ x ∈ is, PyData.strOk x = true) : SeqAt.shaped (.list (is.map PyData.str)) = true := by
  unfold SeqAt.shaped
  rw [Bool.and_eq_true, decide_eq_true_eq]
  refine ⟨by simp [PyData.canLay0, lay_strs h], ?_⟩
  have := dep_strs is
  simp [PyData.depth]
  omega
theorem dp_ints {K : PySem.W.Frag} {H : Hp} : ∀ is : List Int, DpAll K H (is.map V.int) (is.map PyData.int)
  | [] => .nil
  | i :: is => .cons (.int i) (dp_ints is)
theorem dp_strs {K : PySem.W.Frag} {H : Hp} : ∀ is : List Str, DpAll K H (is.map V.str) (is.map PyData.str)
  | [] => .nil
  | i :: is => .cons (.str i) (dp_strs is)
theorem eqv_strs : ∀ {xs ys : List Str}, PyData.eqvAll (xs.map PyData.str) (ys.map PyData.str) = true ↔ xs = ys
  | [], [] => by simp [PyData.eqvAll]
  | [], _ :: _ => by simp [PyData.eqvAll]
  | _ :: _, [] => by simp [PyData.eqvAll]
  | x :: xs, y :: ys => by
    have e := @eqv_strs xs ys
    simp [PyData.eqvAll, PyData.eqv, e]
theorem eqv_ints : ∀ {xs ys : List Int}, PyData.eqvAll (xs.map PyData.int) (ys.map PyData.int) = true ↔ xs = ys
  | [], [] => by simp [PyData.eqvAll]
  | [], _ :: _ => by simp [PyData.eqvAll]
  | _ :: _, [] => by simp [PyData.eqvAll]
  | x :: xs, y :: ys => by
    have e := @eqv_ints xs ys
    simp [PyData.eqvAll, PyData.eqv, e]
theorem But.tupW {K : PySem.W.Frag} {l : Addr} {ws : List V} {H H' : Hp} {a : Addr} {xs : List V} (hw : H l = some (.lst ws)) (e : But l H H') (h : SqT K H a xs) : SqT K H' a xs := by
  rcases h with (h | ⟨o, h⟩) | h
  · exact .inl (.inl (e _ _ h (ne_of h hw (by intro q; cases q))))
  · exact .inl (.inr ⟨o, e _ _ h (ne_of h hw (by intro q; cases q))⟩)
  · exact .inr h
theorem at_lastI {is : List Int} (h : is ≠ []) : ∃ a, a ∈ is ∧ atI (is.map V.int) (-1) = some (.int a) ∧ is[is.length - 1]? = some a := by
  obtain ⟨init, a, rfl⟩ : ∃ init a, is = init ++ [a] := ⟨is.dropLast, is.getLast h, (List.dropLast_concat_getLast h).symm⟩
  refine ⟨a, by simp, ?_, by simp⟩
  rw [List.map_append]
  exact atI_last _ _
theorem flat_ints (is : List Int) : (is.map V.int).all flatV = true := by
  rw [List.all_eq_true]
  intro x hx
  obtain ⟨i, _, rfl⟩ := List.mem_map.mp hx
  rfl
theorem inV_ints {i : Int} {is : List Int} : inV (.int i) (is.map V.int) = decide (i ∈ is) := by
  unfold inV
  rw [Bool.eq_iff_iff, List.any_eq_true, decide_eq_true_eq]
  constructor
  · rintro ⟨x, hx, e⟩
    obtain ⟨j, hj, rfl⟩ := List.mem_map.mp hx
    have : j = i := by simpa [eqV] using e
    exact this ▸ hj
  · intro h
    exact ⟨.int i, List.mem_map_of_mem h, by simp [eqV]⟩
theorem But.mut {l : Addr} {H H' : Hp} {p : Addr} {o : HO} (e : But l H H') (h : H p = Option.none) : But l H (L2.upd H' p o) := fun a u ha n => by
  rw [upd_ne (ne_of_none ha h)]
  exact e a u ha n
theorem But.lst {l : Addr} {H H' : Hp} {a : Addr} {o : HO} (e : But l H H') (h : H a = some o) (n : a ≠ l) : H' a = some o := e a o h n
/-! the same rules by the frame's own K (within a comprehension) -/
section
variable {X : Cx} (K : PySem.W.Frag)
theorem ixLK (h : X.K = K := by rfl) : IxR X (rIxL K) := by subst h; exact ix_list
theorem ixTK (h : X.K = K := by rfl) : IxR X (rIxT K) := by subst h; exact ix_tup
theorem inK (h : X.K = K := by rfl) : OpR X (compareOp .In) (rIn K false) := by subst h; exact op_in_seq
theorem notInK (h : X.K = K := by rfl) : OpR X (compareOp .NotIn) (rIn K true) := by subst h; exact op_notIn_seq
theorem isiK (h : X.K = K := by rfl) : CallR X (.builtin "isinstance") (rIsi K) := by subst h; exact call_isi
theorem lenK (h : X.K = K := by rfl) : CallR X (.builtin "len") (Evl.rLenS K) := by subst h; exact call_len_seq
end
end Bx

namespace K4
open PySem L2 Bx
def top (i : Nat) : Stmt := PySem.Challenge.pw_behindexits_k04_rings_judged.main.body.getD i (.Pass ⟨0, 0, 0, 0⟩)
abbrev s_NoLiterals_init : Stmt := inClass (top 2) 0
abbrev N_NoLiterals_init : List Str := ["self", "at"]
theorem sc_NoLiterals_init : FnScope N_NoLiterals_init ["self", "at"] (C8.fnScope s_NoLiterals_init) := ⟨rfl, rfl, rfl, by decide +kernel, rfl, by decide +kernel, by decide +kernel⟩
abbrev s_is_number : Stmt := top 4
abbrev N_is_number : List Str := ["thing"]
theorem sc_is_number : FnScope N_is_number ["thing"] (C8.fnScope s_is_number) := ⟨rfl, rfl, rfl, by decide +kernel, rfl, by decide +kernel, by decide +kernel⟩
abbrev s_is_literal : Stmt := top 5
abbrev N_is_literal : List Str := ["thing", "left", "right", "number"]
theorem sc_is_literal : FnScope N_is_literal ["thing"] (C8.fnScope s_is_literal) := ⟨rfl, rfl, rfl, by decide +kernel, rfl, by decide +kernel, by decide +kernel⟩
abbrev s_check_literals : Stmt := top 8
abbrev N_check_literals : List Str := ["literals", "at", "literal"]
theorem sc_check_literals : FnScope N_check_literals ["literals"] (C8.fnScope s_check_literals) := ⟨rfl, rfl, rfl, by decide +kernel, rfl, by decide +kernel, by decide +kernel⟩
abbrev s_is_ring : Stmt := top 9
abbrev N_is_ring : List Str := ["literals", "indices", "index"]
theorem sc_is_ring : FnScope N_is_ring ["literals", "indices"] (C8.fnScope s_is_ring) := ⟨rfl, rfl, rfl, by decide +kernel, rfl, by decide +kernel, by decide +kernel⟩
abbrev s_are_indices : Stmt := top 10
abbrev N_are_indices : List Str := ["indices", "many", "index"]
theorem sc_are_indices : FnScope N_are_indices ["indices", "many"] (C8.fnScope s_are_indices) := ⟨rfl, rfl, rfl, by decide +kernel, rfl, by decide +kernel, by decide +kernel⟩
abbrev s_goes_round : Stmt := top 11
abbrev N_goes_round : List Str := ["literals", "total", "last", "left", "right", "number"]
theorem sc_goes_round : FnScope N_goes_round ["literals"] (C8.fnScope s_goes_round) := ⟨rfl, rfl, rfl, by decide +kernel, rfl, by decide +kernel, by decide +kernel⟩
abbrev s_l_well : Stmt := top 13
abbrev N_l_well : List Str := ["_law_cell"]
theorem sc_l_well : FnScope N_l_well ["_law_cell"] (C8.fnScope s_l_well) := ⟨rfl, rfl, rfl, by decide +kernel, rfl, by decide +kernel, by decide +kernel⟩
abbrev s_l_draw : Stmt := top 14
abbrev N_l_draw : List Str := ["_law_well_here", "_law_base", "_law_digit", "_law_number"]
theorem sc_l_draw : FnScope N_l_draw ["_law_well_here", "_law_base"] (C8.fnScope s_l_draw) := ⟨rfl, rfl, rfl, by decide +kernel, rfl, by decide +kernel, by decide +kernel⟩
abbrev s_l_one : Stmt := top 15
abbrev N_l_one : List Str := ["_law_well_here", "_law_some"]
theorem sc_l_one : FnScope N_l_one ["_law_well_here", "_law_some"] (C8.fnScope s_l_one) := ⟨rfl, rfl, rfl, by decide +kernel, rfl, by decide +kernel, by decide +kernel⟩
abbrev s_l_is_integer : Stmt := top 16
abbrev N_l_is_integer : List Str := ["_law_told"]
theorem sc_l_is_integer : FnScope N_l_is_integer ["_law_told"] (C8.fnScope s_l_is_integer) := ⟨rfl, rfl, rfl, by decide +kernel, rfl, by decide +kernel, by decide +kernel⟩
abbrev s_l_due : Stmt := top 17
abbrev N_l_due : List Str := ["_law_literals", "_law_indices", "_law_k", "_law_ends", "_law_begins", "_law_at"]
theorem sc_l_due : FnScope N_l_due ["_law_literals", "_law_indices"] (C8.fnScope s_l_due) := ⟨rfl, rfl, rfl, by decide +kernel, rfl, by decide +kernel, by decide +kernel⟩
abbrev s_l_chained : Stmt := top 18
abbrev N_l_chained : List Str := ["_law_well_here", "_law_literals", "_law_row", "_law_k", "_law_term", "_law_after", "_law_at"]
theorem sc_l_chained : FnScope N_l_chained ["_law_well_here", "_law_literals"] (C8.fnScope s_l_chained) := ⟨rfl, rfl, rfl, by decide +kernel, rfl, by decide +kernel, by decide +kernel⟩
abbrev s_l_spoiled : Stmt := top 19
abbrev N_l_spoiled : List Str := ["_law_well_here", "_law_row", "_law_many", "_law_w", "_law_at"]
theorem sc_l_spoiled : FnScope N_l_spoiled ["_law_well_here", "_law_row", "_law_many"] (C8.fnScope s_l_spoiled) := ⟨rfl, rfl, rfl, by decide +kernel, rfl, by decide +kernel, by decide +kernel⟩
abbrev s_law : Stmt := top 20
abbrev N_law : List Str := ["_law_script", "_law_cell", "_law_well_here", "_law_terms", "_law_literals", "_law_k", "_law_row"]
theorem sc_law : FnScope N_law ["_law_script"] (C8.fnScope s_law) := ⟨rfl, rfl, rfl, by decide +kernel, rfl, by decide +kernel, by decide +kernel⟩
structure Txt (mg : Str → Option Value) : Prop where
  c_MOST_LITERALS : ∃ u, mg "MOST_LITERALS" = some u ∧ RelV (.int 300) u
  z_isinstance : mg "isinstance" = none
  z_len : mg "len" = none
  z_int : mg "int" = none
  z_bool : mg "bool" = none
  z_tuple : mg "tuple" = none
  z_list : mg "list" = none
  z_str : mg "str" = none
  z_set : mg "set" = none
  z_sum : mg "sum" = none
  z_range : mg "range" = none
  z_enumerate : mg "enumerate" = none
end K4

namespace K4
open PySem L2 Bx
section
variable {P : Program} {w : World} {K : PySem.W.Frag} {mg : Str → Option Value} {base : Heap}
/-- is it a whole number: any value whose class is known -/
def spNum (K : PySem.W.Frag) : Sp := fun vs H Q _ => ∃ (v : V) (t : Value) (a c : Bool), vs = [v] ∧ TyX K H v t ∧ PySem.W.kitOne K t (.type "int") = some a ∧ PySem.W.kitOne K t (.type "bool") = some c ∧ Q (.bl (a && !c)) H
theorem ok_is_number {f : Addr} {fd : FuncData} (F : C8.Def K mg "is_number" s_is_number f fd) (b : Binds K fd ["thing"] []) (T : Txt mg) : C8.Cal P w K mg base 1 "is_number" (spNum K) [] := by
  refine C8.cal0 F b .nil sc_is_number (fun vs H Q E h => ?_) (fun cdv A outer s H vs Q E hr h => ?_)
  · obtain ⟨v, t, a, c, rfl, _⟩ := h
    rfl
  · obtain ⟨v, t, a, c, rfl, ty, ka, kc, k⟩ := h
    refine ⟨_, (pss_one (ps_ret (pe_and (pe_callB call_isi (by rfl) T.z_isinstance (by decide +kernel) (pa_cons (pv 0) (pa_cons (pe_bltn (v := .ty "int") (by rfl) T.z_int (by decide +kernel) rfl) pa_nil))) (pe_one (pe_not (pe_callB call_isi (by rfl) T.z_isinstance (by decide +kernel) (pa_cons (pv 0) (pa_cons (pe_bltn (v := .ty "bool") (by rfl) T.z_bool (by decide +kernel) rfl) pa_nil)))))))), ?_⟩
    refine ⟨_, rfl, _, _, _, _, _, rfl, .ty _, ty, ka, _, rfl, ?_⟩
    cases a with
    | false => exact iteF k
    | true => exact iteT ⟨_, rfl, _, _, _, _, _, rfl, .ty _, ty, kc, _, rfl, k⟩
theorem ok_l_is_integer {f : Addr} {fd : FuncData} (F : C8.Def K mg "_law_is_integer" s_l_is_integer f fd) (b : Binds K fd ["_law_told"] []) (T : Txt mg) : C8.Cal P w K mg base 1 "_law_is_integer" (spNum K) [] := by
  refine C8.cal0 F b .nil sc_l_is_integer (fun vs H Q E h => ?_) (fun cdv A outer s H vs Q E hr h => ?_)
  · obtain ⟨v, t, a, c, rfl, _⟩ := h
    rfl
  · obtain ⟨v, t, a, c, rfl, ty, ka, kc, k⟩ := h
    refine ⟨_, (pss_one (ps_ret (pe_and (pe_callB call_isi (by rfl) T.z_isinstance (by decide +kernel) (pa_cons (pv 0) (pa_cons (pe_bltn (v := .ty "int") (by rfl) T.z_int (by decide +kernel) rfl) pa_nil))) (pe_one (pe_not (pe_callB call_isi (by rfl) T.z_isinstance (by decide +kernel) (pa_cons (pv 0) (pa_cons (pe_bltn (v := .ty "bool") (by rfl) T.z_bool (by decide +kernel) rfl) pa_nil)))))))), ?_⟩
    refine ⟨_, rfl, _, _, _, _, _, rfl, .ty _, ty, ka, _, rfl, ?_⟩
    cases a with
    | false => exact iteF k
    | true => exact iteT ⟨_, rfl, _, _, _, _, _, rfl, .ty _, ty, kc, _, rfl, k⟩
/-- is it a literal: here only of good ones -/
def spLitG (K : PySem.W.Frag) : Sp := fun vs H Q _ => ∃ (p : Addr) (l r : Str) (n : Int), vs = [.ref p] ∧ SqT K H p [.str l, .str r, .int n] ∧ Q (.bl true) H
theorem ok_is_literal {f : Addr} {fd : FuncData} (F : C8.Def K mg "is_literal" s_is_literal f fd) (b : Binds K fd ["thing"] []) (T : Txt mg) (K_is_number : C8.Cal P w K mg base 1 "is_number" (spNum K) []) : C8.Cal P w K mg base 2 "is_literal" (spLitG K) [] := by
  refine C8.cal0 F b .nil sc_is_literal (fun vs H Q E h => ?_) (fun cdv A outer s H vs Q E hr h => ?_)
  · obtain ⟨p, l, r, n, rfl, _⟩ := h
    rfl
  · obtain ⟨p, l, r, n, rfl, hp, k⟩ := h
    refine ⟨_, (pss_cons (ps_if (PW.pt (pw_or (pt_not (pt_val (pe_callB call_isi (by rfl) T.z_isinstance (by decide +kernel) (pa_cons (pv 0) (pa_cons (pe_bltn (v := .ty "tuple") (by rfl) T.z_tuple (by decide +kernel) rfl) pa_nil))))) (pw_or1 (pt_cmpR op_ne (pe_callB call_len_seq (by rfl) T.z_len (by decide +kernel) (pa_cons (pv 0) pa_nil)) pe_int (nomark _))))) (pss_one (ps_ret pe_bl)) pss_nil)
    (pss_cons (ps_asg (pv 0) (pg_tup (by rfl) (pgs_cons (pg_name (i := 1) sc_is_literal.nd rfl (Or.inl rfl)) (pgs_cons (pg_name (i := 2) sc_is_literal.nd rfl (Or.inl rfl)) (pgs_cons (pg_name (i := 3) sc_is_literal.nd rfl (Or.inl rfl)) pgs_nil)))))
    (pss_one (ps_ret (pe_and (pe_callB call_isi (by rfl) T.z_isinstance (by decide +kernel) (pa_cons (pv 1) (pa_cons (pe_bltn (v := .ty "str") (by rfl) T.z_str (by decide +kernel) rfl) pa_nil))) (pe_and (pe_callB call_isi (by rfl) T.z_isinstance (by decide +kernel) (pa_cons (pv 2) (pa_cons (pe_bltn (v := .ty "str") (by rfl) T.z_str (by decide +kernel) rfl) pa_nil))) (pe_one (C8.pe_c K_is_number hr (by decide) (by rfl) (pa_cons (pv 3) pa_nil))))))))), ?_⟩
    refine ⟨_, rfl, _, _, _, _, true, rfl, .ty _, tyT hp, rfl, _, rfl, ?_⟩
    refine iteF ?_
    refine ⟨_, rfl, p, _, rfl, .inr hp, rfl, _, rfl, ?_⟩
    refine iteF ?_
    refine ⟨_, rfl, p, _, rfl, hp, rfl, _, _, rfl, _, _, rfl, _, _, rfl, rfl, ?_⟩
    refine ⟨_, rfl, _, _, _, _, true, rfl, .ty _, .base (.str l), rfl, _, rfl, ?_⟩
    refine iteT ⟨_, rfl, _, _, _, _, true, rfl, .ty _, .base (.str r), rfl, _, rfl, ?_⟩
    refine iteT ⟨_, rfl, _, _, true, false, rfl, .base (.int n), rfl, rfl, ?_⟩
    exact k
/-- literals at ts -/
def LitsAt (K : PySem.W.Frag) (H : Hp) (ts : List Addr) (lits : List (Str × Str × Int)) : Prop :=
  ts.length = lits.length ∧ ∀ (j : Nat) (q : Str × Str × Int), lits[j]? = some q → ∃ t, ts[j]? = some t ∧ SqT K H t [.str q.1, .str q.2.1, .int q.2.2]
theorem LitsAt.mono {H H' : Hp} {ts : List Addr} {lits : List (Str × Str × Int)} (e : Same H H') (h : LitsAt K H ts lits) : LitsAt K H' ts lits :=
  ⟨h.1, fun j q hj => (h.2 j q hj).imp fun t z => ⟨z.1, Same.seqT e z.2⟩⟩
def spChkG (K : PySem.W.Frag) : Sp := fun vs H Q _ => ∃ (p : Addr) (ts : List Addr) (lits : List (Str × Str × Int)), vs = [.ref p] ∧ SqL K H p (ts.map V.ref) ∧ LitsAt K H ts lits ∧ lits.length ≤ 300 ∧ ∀ H', Same H H' → Q .non H'
theorem ok_check_literals {f : Addr} {fd : FuncData} (F : C8.Def K mg "check_literals" s_check_literals f fd) (b : Binds K fd ["literals"] []) (T : Txt mg) (K_is_literal : C8.Cal P w K mg base 2 "is_literal" (spLitG K) []) : C8.Cal P w K mg base 3 "check_literals" (spChkG K) [] := by
  refine C8.cal0 F b .nil sc_check_literals (fun vs H Q E h => ?_) (fun cdv A outer s H vs Q E hr h => ?_)
  · obtain ⟨p, ts, lits, rfl, _⟩ := h
    rfl
  · obtain ⟨p, ts, lits, rfl, hp, hL, hl, k⟩ := h
    refine ⟨_, (pss_cons (ps_if (PW.pt (pw_or (pt_not (pt_val (pe_callB call_isiT (by rfl) T.z_isinstance (by decide +kernel) (pa_cons (pv 0) (pa_cons (pe_tup (pa_cons (pe_bltn (v := .ty "list") (by rfl) T.z_list (by decide +kernel) rfl) (pa_cons (pe_bltn (v := .ty "tuple") (by rfl) T.z_tuple (by decide +kernel) rfl) pa_nil))) pa_nil))))) (pw_or1 (pt_cmpR op_gt (pe_callB call_len_seq (by rfl) T.z_len (by decide +kernel) (pa_cons (pv 0) pa_nil)) (C8.pe_gc (by rfl) T.c_MOST_LITERALS) (nomark _))))) (pss_one ps_never) pss_nil)
    (pss_one (ps_for PassesOwn.never rfl (pi_enum (by rfl) T.z_enumerate (pa_cons (pv 0) pa_nil)) (pg_tup (by rfl) (pgs_cons (pg_name (i := 1) sc_check_literals.nd rfl (Or.inl rfl)) (pgs_cons (pg_name (i := 2) sc_check_literals.nd rfl (Or.inl rfl)) pgs_nil)))
    (pss_one (ps_if (pt_not (pt_val (C8.pe_c K_is_literal hr (by decide) (by rfl) (pa_cons (pv 2) pa_nil)))) (pss_one ps_never) pss_nil))))), ?_⟩
    refine ⟨_, rfl, (by show 2 ≤ sizeLine; decide), fun p1 n1 => ?_⟩
    have s1 : Same H (upd H p1 (.tup [.ty "list", .ty "tuple"])) := Same.new n1
    have hp1 := s1.seq hp
    refine ⟨_, p1, _, _, _, true, rfl, upd_same, .cons (.ty _) (.cons (.ty _) .nil), tyL hp1, rfl, _, rfl, ?_⟩
    refine iteF ?_
    refine ⟨_, rfl, p, _, rfl, .inl hp1, _, _, rfl, rfl, _, rfl, ?_⟩
    have e300 : decide ((300 : Int) < ((ts.map V.ref).length : Nat)) = false := decide_eq_false (by rw [List.length_map, hL.1]; omega)
    rw [e300]
    refine iteF ?_
    refine ⟨_, rfl, p, _, rfl, hp1, for_enumL (xs := ts.map V.ref) (fun i σ H' => ∃ v1 v2, σ = [some (.ref p), v1, v2] ∧ Same H H') ⟨none, none, rfl, s1⟩ (fun i σ H' ⟨_, _, _, e⟩ => e.seq hp) ?_ ?_⟩
    · rintro i x q σ H' hx ⟨v1, v2, rfl, e⟩ hq
      rw [List.getElem?_map] at hx
      obtain ⟨t, ht, rfl⟩ := Option.map_eq_some_iff.mp hx
      have hi : i < lits.length := by
        rw [← hL.1]
        exact (List.getElem?_eq_some_iff.mp ht).1
      obtain ⟨t', ht', hs⟩ := hL.2 i _ (List.getElem?_eq_getElem hi)
      have et : t' = t := Option.some.inj (ht'.symm.trans ht)
      subst et
      have e2 : Same H (upd H' q (.tup [.int (i : Nat), .ref t'])) := e.trans (Same.new hq)
      refine ⟨q, _, rfl, .inl (.inl upd_same), rfl, _, _, rfl, _, _, rfl, rfl, ?_⟩
      refine ⟨_, rfl, t', _, _, _, rfl, Same.seqT e2 hs, _, rfl, ?_⟩
      exact iteF ⟨_, _, rfl, e2⟩
    · rintro σ H' ⟨v1, v2, rfl, e⟩
      exact k H' e
end
end K4

namespace K4
open PySem L2 Bx
theorem lg {n : Nat} (h : n < 2 ^ 64) : n.log2 < 9000 := Nat.lt_trans (PySem.Flt.log2_lt_of (by decide) h) (by decide)
def WellAt (H : Hp) (l : Addr) : Prop := ∃ x y z : Int, H l = some (.lst [.int x, .int y, .int z])
section
variable {P : Program} {w : World} {K : PySem.W.Frag} {mg : Str → Option Value} {base : Heap}
def spWell : Sp := fun vs H Q _ => ∃ (c : Int), vs = [.int c] ∧ ∀ p H', H p = none → Same H H' → WellAt H' p → Q (.ref p) H'
theorem ok_l_well {f : Addr} {fd : FuncData} (F : C8.Def K mg "_law_well" s_l_well f fd) (b : Binds K fd ["_law_cell"] []) (T : Txt mg) : C8.Cal P w K mg base 1 "_law_well" spWell [] := by
  refine C8.cal0 F b .nil sc_l_well (fun vs H Q E h => ?_) (fun cdv A outer s H vs Q E hr h => ?_)
  · obtain ⟨c, rfl, _⟩ := h
    rfl
  · obtain ⟨c, rfl, k⟩ := h
    refine ⟨_, (pss_one (ps_ret (pe_lst (pa_cons (pe_op op_mul (pv 0) (pe_callTy call_int1 (by rfl) T.z_int (by decide +kernel) (pa_cons (pe_cmpR op_ge (pv 0) (pe_op op_pow pe_int pe_int) (nomark _)) pa_nil))) (pa_cons (pe_op op_mod (pe_callTy call_int1 (by rfl) T.z_int (by decide +kernel) (pa_cons (pv 0) pa_nil)) pe_int) (pa_cons pe_int pa_nil)))))), ?_⟩
    refine ⟨_, rfl, _, rfl, _, _, rfl, rfl, ⟨by decide, by decide, by decide⟩, _, _, rfl, rfl, .inr ⟨_, rfl, _, _, rfl, rfl, .inr ⟨by split <;> decide, by split <;> decide⟩, _, rfl, .inl ⟨_, rfl, _, _, rfl, rfl, (by show (0 : Int) < 2147483587; decide), (by show 3 ≤ sizeLine; decide), fun p hp => ?_⟩⟩⟩
    exact k p _ hp (Same.new hp) ⟨_, _, _, upd_same⟩
def spDraw : Sp := fun vs H Q _ => ∃ (l : Addr) (b : Int), vs = [.ref l, .int b] ∧ WellAt H l ∧ 0 < b ∧ b.natAbs.log2 < 9000 ∧ ∀ (r : Int) (H' : Hp), 0 ≤ r → r < b → WellAt H' l → But l H H' → Q (.int r) H'
theorem ok_l_draw {f : Addr} {fd : FuncData} (F : C8.Def K mg "_law_draw" s_l_draw f fd) (b : Binds K fd ["_law_well_here", "_law_base"] []) (T : Txt mg) : C8.Cal P w K mg base 1 "_law_draw" spDraw [] := by
  refine C8.cal0 F b .nil sc_l_draw (fun vs H Q E h => ?_) (fun cdv A outer s H vs Q E hr h => ?_)
  · obtain ⟨l, b, rfl, _⟩ := h
    rfl
  · obtain ⟨l, b, rfl, ⟨x, y, z, hW⟩, hb, hlg, k⟩ := h
    refine ⟨_, (pss_cons (ps_if (pt_cmpR op_gt (pe_ix ix_list (pv 0) pe_int (fun _ _ => rfl)) pe_int (nomark _)) (pss_cons (ps_set (i := 2) sc_l_draw.nd rfl (Or.inl rfl) (pe_op op_mod (pe_callTy call_int1 (by rfl) T.z_int (by decide +kernel) (pa_cons (pe_ix ix_list (pv 0) pe_int (fun _ _ => rfl)) pa_nil)) (pv 1)))
    (pss_cons (ps_asg (pe_op op_fdivW (pe_ix ix_list (pv 0) pe_int (fun _ _ => rfl)) (pv 1)) (pg_sub (pv 0) pe_int set_list))
    (pss_one (ps_ret (pv 2))))) pss_nil)
    (pss_cons (ps_asg (pe_op op_add (pe_ix ix_list (pv 0) pe_int (fun _ _ => rfl)) pe_int) (pg_sub (pv 0) pe_int set_list))
    (pss_cons (ps_set (i := 3) sc_l_draw.nd rfl (Or.inl rfl) (pe_op op_mod (pe_callTy call_int1 (by rfl) T.z_int (by decide +kernel) (pa_cons (pe_op op_mul (pe_callTy call_int1 (by rfl) T.z_int (by decide +kernel) (pa_cons (pe_op op_add (pe_op op_add (pe_ix ix_list (pv 0) pe_int (fun _ _ => rfl)) (pe_op op_mul pe_int (pe_ix ix_list (pv 0) pe_int (fun _ _ => rfl)))) pe_int) pa_nil)) pe_int) pa_nil)) pe_int))
    (pss_cons (ps_set (i := 3) sc_l_draw.nd rfl (Or.inl rfl) (pe_op op_mod (pe_callTy call_int1 (by rfl) T.z_int (by decide +kernel) (pa_cons (pe_op op_mul (pv 3) (pe_op op_add (pe_op op_fdiv (pv 3) pe_int) pe_int)) pa_nil)) pe_int))
    (pss_one (ps_ret (pe_op op_mod (pe_op op_fdiv (pe_op op_mod (pe_callTy call_int1 (by rfl) T.z_int (by decide +kernel) (pa_cons (pe_op op_mul (pv 3) (pe_op op_add (pe_op op_fdiv (pv 3) pe_int) pe_int)) pa_nil)) pe_int) pe_int) (pv 1)))))))), ?_⟩
    refine ⟨_, rfl, l, _, _, _, rfl, rfl, SqL.of hW, rfl, _, _, rfl, rfl, _, rfl, ?_⟩
    refine ite2 (fun hx => ?_) (fun hx => ?_)
    · refine ⟨_, rfl, l, _, _, _, rfl, rfl, SqL.of hW, rfl, .inl ⟨_, rfl, _, rfl, _, _, rfl, rfl, hb, ?_⟩⟩
      refine ⟨_, rfl, l, _, _, _, rfl, rfl, SqL.of hW, rfl, _, rfl, _, _, rfl, rfl, ⟨hb, hlg⟩, _, rfl, l, _, _, _, rfl, rfl, hW, rfl, ?_⟩
      refine ⟨_, rfl, ?_⟩
      exact k _ _ (Int.emod_nonneg _ (by omega)) (Int.emod_lt_of_pos _ hb) ⟨_, _, _, upd_same⟩ But.upd
    · refine ⟨_, rfl, l, _, _, _, rfl, rfl, SqL.of hW, rfl, _, _, rfl, rfl, _, rfl, l, _, _, _, rfl, rfl, hW, rfl, ?_⟩
      refine ⟨_, rfl, l, _, _, _, rfl, rfl, SqL.of upd_same, rfl, _, rfl, l, _, _, _, rfl, rfl, SqL.of upd_same, rfl, _, _, rfl, rfl, .inl ⟨by decide, by decide⟩, _, _, rfl, rfl, _, _, rfl, rfl, .inl ⟨_, rfl, _, _, rfl, rfl, .inr ⟨by decide, by decide⟩, .inl ⟨_, rfl, _, _, rfl, rfl, (by show (0 : Int) < 2147483647; decide), ?_⟩⟩⟩
      generalize hn : ((y + 6131 * (z + 1) + 17) * 48271) % 2147483647 = n
      have n0 : 0 ≤ n := by omega
      have n1 : n < 2147483647 := by omega
      refine ⟨_, rfl, _, rfl, _, _, rfl, rfl, ⟨by decide, by decide⟩, _, _, rfl, rfl, _, _, rfl, rfl, .inl ⟨by omega, by omega⟩, .inl ⟨_, rfl, _, _, rfl, rfl, (by show (0 : Int) < 2147483647; decide), ?_⟩⟩
      generalize hm : (n * (n / 1013 + 69621)) % 2147483647 = m
      have m0 : 0 ≤ m := by rw [← hm]; exact Int.emod_nonneg _ (by decide)
      have m1 : m < 2147483647 := by rw [← hm]; exact Int.emod_lt_of_pos _ (by decide)
      refine ⟨_, rfl, _, rfl, _, _, rfl, rfl, ⟨by decide, by decide⟩, _, _, rfl, rfl, _, _, rfl, rfl, .inl ⟨by omega, by omega⟩, .inl ⟨_, rfl, _, _, rfl, rfl, (by show (0 : Int) < 2147483399; decide), _, _, rfl, rfl, ⟨by decide, by decide⟩, _, rfl, _, _, rfl, rfl, hb, ?_⟩⟩
      exact k _ _ (Int.emod_nonneg _ (by omega)) (Int.emod_lt_of_pos _ hb) ⟨_, _, _, upd_same⟩ But.upd
def spOne (K : PySem.W.Frag) : Sp := fun vs H Q _ => ∃ (l p : Addr) (xs : List V), vs = [.ref l, .ref p] ∧ WellAt H l ∧ p ≠ l ∧ SqL K H p xs ∧ 0 < xs.length ∧ xs.length < 100000 ∧ ∀ (v : V) (H' : Hp), v ∈ xs → WellAt H' l → But l H H' → Q v H'
theorem ok_l_one {f : Addr} {fd : FuncData} (F : C8.Def K mg "_law_one" s_l_one f fd) (b : Binds K fd ["_law_well_here", "_law_some"] []) (T : Txt mg) (K_l_draw : C8.Cal P w K mg base 1 "_law_draw" spDraw []) : C8.Cal P w K mg base 2 "_law_one" (spOne K) [] := by
  refine C8.cal0 F b .nil sc_l_one (fun vs H Q E h => ?_) (fun cdv A outer s H vs Q E hr h => ?_)
  · obtain ⟨l, p, xs, rfl, _⟩ := h
    rfl
  · obtain ⟨l, p, xs, rfl, hW, hpl, hp, h0, h1, k⟩ := h
    refine ⟨_, (pss_one (ps_ret (pe_ix ix_list (pv 1) (C8.pe_c K_l_draw hr (by decide) (by rfl) (pa_cons (pv 0) (pa_cons (pe_callB call_len_seq (by rfl) T.z_len (by decide +kernel) (pa_cons (pv 1) pa_nil)) pa_nil))) (fun _ _ => rfl)))), ?_⟩
    refine ⟨_, rfl, _, rfl, _, rfl, p, _, rfl, .inl hp, l, _, rfl, hW, by omega, lg (by omega), fun r H' r0 r1 W' B' => ?_⟩
    obtain ⟨j, rfl⟩ : ∃ j : Nat, r = (j : Int) := ⟨r.toNat, by omega⟩
    have hj : j < xs.length := by omega
    refine ⟨p, _, _, _, rfl, rfl, B'.seq hpl hp, atI_nat (List.getElem?_eq_getElem hj), ?_⟩
    exact k _ _ (List.getElem_mem hj) W' B'
end
end K4

namespace K4
open PySem L2 Bx
section
variable {P : Program} {w : World} {K : PySem.W.Frag} {mg : Str → Option Value} {base : Heap}
theorem LitsAt.but {l : Addr} {ws : List V} {H H' : Hp} {ts : List Addr} {lits : List (Str × Str × Int)} (hw : H l = some (.lst ws)) (e : But l H H') (h : LitsAt K H ts lits) : LitsAt K H' ts lits :=
  ⟨h.1, fun j q hj => (h.2 j q hj).imp fun t z => ⟨z.1, But.tupW hw e z.2⟩⟩
/-- the literal at a place -/
theorem LitsAt.at {H : Hp} {ts : List Addr} {lits : List (Str × Str × Int)} (h : LitsAt K H ts lits) {i : Int} (h0 : 0 ≤ i) (h1 : i < (lits.length : Int)) :
    ∃ t q, atI (ts.map V.ref) i = some (.ref t) ∧ lits[i.toNat]? = some q ∧ SqT K H t [.str q.1, .str q.2.1, .int q.2.2] := by
  obtain ⟨j, rfl⟩ : ∃ j : Nat, i = (j : Int) := ⟨i.toNat, by omega⟩
  have hj : j < lits.length := by omega
  obtain ⟨t, ht, hs⟩ := h.2 j _ (List.getElem?_eq_getElem hj)
  exact ⟨t, _, atI_nat (by rw [List.getElem?_map, ht]; rfl), List.getElem?_eq_getElem hj, hs⟩
/-- whole numbers from 0 to below n -/
def InR (n : Nat) (is : List Int) : Prop := ∀ i ∈ is, 0 ≤ i ∧ i < (n : Int)
def spChained (K : PySem.W.Frag) : Sp := fun vs H Q _ => ∃ (l p : Addr) (ts : List Addr) (lits : List (Str × Str × Int)), vs = [.ref l, .ref p] ∧ WellAt H l ∧ p ≠ l ∧ SqL K H p (ts.map V.ref) ∧ LitsAt K H ts lits ∧ 0 < lits.length ∧ lits.length ≤ 300 ∧
  ∀ (q : Addr) (is : List Int) (H' : Hp), SqT K H' q (is.map V.int) → is ≠ [] → is.length ≤ 7 → InR lits.length is → WellAt H' l → But l H H' → Q (.ref q) H'
theorem ok_l_chained {f : Addr} {fd : FuncData} (F : C8.Def K mg "_law_chained" s_l_chained f fd) (b : Binds K fd ["_law_well_here", "_law_literals"] []) (T : Txt mg) (K_l_draw : C8.Cal P w K mg base 1 "_law_draw" spDraw []) (K_l_one : C8.Cal P w K mg base 2 "_law_one" (spOne K) []) :
    C8.Cal P w K mg base 3 "_law_chained" (spChained K) [] := by
  refine C8.cal0 F b .nil sc_l_chained (fun vs H Q E h => ?_) (fun cdv A outer s H vs Q E hr h => ?_)
  · obtain ⟨l, p, ts, lits, rfl, _⟩ := h
    rfl
  · obtain ⟨l, p, ts, lits, rfl, hW, hpl, hp, hL, h0, h300, k⟩ := h
    refine ⟨_, (pss_cons (ps_set (i := 2) sc_l_chained.nd rfl (Or.inr rfl) (pe_lst (pa_cons (C8.pe_c K_l_draw hr (by decide) (by rfl) (pa_cons (pv 0) (pa_cons (pe_callB call_len_seq (by rfl) T.z_len (by decide +kernel) (pa_cons (pv 1) pa_nil)) pa_nil))) pa_nil)))
    (pss_cons (ps_for PassesOwn.never rfl (pi_range1 (by rfl) T.z_range (pa_cons pe_int pa_nil)) (pg_name (i := 3) sc_l_chained.nd rfl (Or.inl rfl))
    (pss_cons (ps_set (i := 4) sc_l_chained.nd rfl (Or.inr rfl) (pe_ix ix_tup (pe_ix ix_list (pv 1) (pe_ix ix_list (pv 2) (pe_un un_neg pe_int) (fun _ _ => rfl)) (fun _ _ => rfl)) pe_int (fun _ _ => rfl)))
    (pss_cons (ps_setLc (i := 5) (own := [("_law_at", 6)]) (g := gName 6) rfl sc_l_chained.nd rfl rfl (sw_true rfl rfl rfl (by decide +kernel)) (pi_range1 (by rfl) T.z_range (pa_cons (pe_callB call_len_seq (by rfl) T.z_len (by decide +kernel) (pa_cons (pv 1) pa_nil)) pa_nil)) (blkOk_by (own := [("_law_at", 6)]) (N := N_l_chained) (sc := C8.fnScope s_l_chained) (by decide +kernel)) (fun _ _ _ _ _ => (pg_name (i := 6) sc_l_chained.nd rfl (Or.inl rfl))) (fun _ _ _ _ _ => (pts_one (PW.pt (pw_and (pt_cmpR op_eq (pe_ix (ixTK K) (pe_ix (ixLK K) (pv 1) (pv 6) (fun _ _ => rfl)) pe_int (fun _ _ => rfl)) (pv 4) (nomark _)) (pw_and1 (pt_cmpR (notInK K) (pv 6) (pv 2) (by rfl))))))) (fun _ _ _ _ _ => (pv 6)))
    (pss_one (ps_if (PW.pt (pw_and (pt_cmpR op_ne (pv 4) (pe_ix ix_tup (pe_ix ix_list (pv 1) (pe_ix ix_list (pv 2) pe_int (fun _ _ => rfl)) (fun _ _ => rfl)) pe_int (fun _ _ => rfl)) (nomark _)) (pw_and1 (pt_cmpR (op_neD hr.units) (pv 5) (pe_lst pa_nil) (nomark _))))) (pss_one (ps_expr (pe_bm PySem.F.plainAttrs_list PySem.F.slot_list_append PySem.F.type_list_append mt_append (pv 2) (pa_cons (C8.pe_c K_l_one hr (by decide) (by rfl) (pa_cons (pv 0) (pa_cons (pv 5) pa_nil))) pa_nil)))) pss_nil)))))
    (pss_one (ps_ret (pe_callTy call_tuple_of (by rfl) T.z_tuple (by decide +kernel) (pa_cons (pv 2) pa_nil)))))), ?_⟩
    have hlen : ((ts.map V.ref).length : Int) = (lits.length : Int) := by rw [List.length_map, hL.1]
    -- row = [draw(..)]
    refine ⟨_, rfl, _, rfl, p, _, rfl, .inl hp, l, _, rfl, hW, by omega, lg (by omega), fun r H1 r0 r1 W1 B1 => ?_⟩
    refine ⟨(by show 1 ≤ sizeLine; decide), fun row nrow => ?_⟩
    have nrl : row ≠ l := fun e => by
      obtain ⟨x, y, z, hw⟩ := W1
      rw [e, hw] at nrow
      cases nrow
    have nr0 : H row = none := B1.free nrl nrow
    obtain ⟨wx, wy, wz, hW0⟩ := id hW
    have W2 : ∀ {H' : Hp} {o : HO}, WellAt H' l → WellAt (upd H' row o) l := fun {H' o} W => by
      obtain ⟨x, y, z, hw⟩ := W
      exact ⟨x, y, z, by rw [upd_ne nrl.symm]; exact hw⟩
    refine ⟨6, rfl, by decide, by decide, for_range (lo := 0) (n := 6) (fun i σ H' => ∃ (is : List Int) (v3 v4 v5 v6 : Option V), σ = [some (.ref l), some (.ref p), some (.ref row), v3, v4, v5, v6] ∧
      H' row = some (.lst (is.map V.int)) ∧ is ≠ [] ∧ is.length ≤ i + 1 ∧ InR lits.length is ∧ WellAt H' l ∧ But l H H')
      ⟨[r], none, none, none, none, rfl, upd_same, by simp, by simp, fun i hi => by simp at hi; omega, W2 W1, B1.mut nr0⟩ ?_ ?_⟩
    · rintro i σ H2 hi ⟨is, v3, v4, v5, v6, rfl, hrow, hne, hil, hin, W, B⟩
      have hp2 := B.seq hpl hp
      have hL2 := hL.but hW0 B
      obtain ⟨a, ha, hal, _⟩ := at_lastI hne
      obtain ⟨t, q, hat, hq, hs⟩ := hL2.at (hin a ha).1 (hin a ha).2
      -- term = literals[row[-1]][1]
      refine ⟨_, rfl, _, rfl, _, rfl, row, _, _, _, rfl, rfl, SqL.of hrow, hal, p, _, _, _, rfl, rfl, hp2, hat, t, _, _, _, rfl, rfl, hs, rfl, ?_⟩
      -- after = [..]
      refine ⟨_, rfl, p, _, rfl, .inl hp2, _, rfl, (by rw [hlen]; omega), (by rw [hlen]; omega), fun D hD => lc_range (lo := 0) (n := (((ts.map V.ref).length : Nat) : Int).toNat) (fun j H' => Same H2 H' ∧ ∃ acc : List Int, H' D = some (.lst (acc.map V.int)) ∧ acc.length ≤ j ∧ InR lits.length acc) ⟨Same.new hD, [], upd_same, Nat.zero_le _, fun _ h => by cases h⟩ ?_ ?_⟩
      · rintro j H3 hj ⟨S3, acc, hacc, hjl, hjr⟩
        have hj2 : j < lits.length := by omega
        obtain ⟨t', q', hat', hq', hs'⟩ := (hL2.mono S3).at (i := 0 + (j : Int)) (by omega) (by omega)
        refine ⟨rfl, ?_⟩
        refine ⟨_, rfl, _, rfl, p, _, _, _, rfl, rfl, S3.seq hp2, hat', t', _, _, _, rfl, rfl, hs', rfl, _, rfl, rfl, _, rfl, ?_⟩
        refine ite2 (fun _ => ?_) (fun _ => iteF ⟨S3, acc, hacc, by omega, hjr⟩)
        refine ⟨_, rfl, _, rfl, row, _, rfl, .inl (SqL.of (S3 _ _ hrow)), rfl, flat_ints _, _, rfl, ?_⟩
        refine ite2 (fun _ => ?_) (fun _ => ⟨S3, acc, hacc, by omega, hjr⟩)
        refine ⟨_, rfl, acc.map V.int, hacc, ?_, Same.mut S3 hD, acc ++ [0 + (j : Int)], ?_, ?_, ?_⟩
        · rw [List.length_map]
          exact Nat.lt_of_le_of_lt (show acc.length ≤ 1000 by omega) (by decide)
        · rw [upd_same, List.map_append]
          rfl
        · rw [List.length_append]
          simp
          omega
        · intro x hx
          rcases List.mem_append.mp hx with h | h
          · exact hjr x h
          · have e : x = 0 + (j : Int) := by simpa using h
            omega
      · rintro H3 ⟨S3, acc, hacc, hjl, hjr⟩
        have hrow3 := S3 _ _ hrow
        have hp3 := S3.seq hp2
        have hL3 := hL2.mono S3
        have B3 : But l H H3 := B.trans (But.of S3)
        obtain ⟨x3, y3, z3, hw3⟩ := id W
        have W3 : WellAt H3 l := ⟨x3, y3, z3, S3 _ _ hw3⟩
        have nDl : D ≠ l := fun e => by
          rw [e, hw3] at hD
          cases hD
        have nDr : D ≠ row := fun e => by
          rw [e, hrow] at hD
          cases hD
        obtain ⟨b0, is', eis⟩ : ∃ b0 is', is = b0 :: is' := List.exists_cons_of_ne_nil hne
        have hb0 : b0 ∈ is := by rw [eis]; exact List.mem_cons_self
        have hat0 : atI (is.map V.int) 0 = some (.int b0) := by rw [eis]; exact atI_nat (j := 0) rfl
        obtain ⟨t', q', hat', hq', hs'⟩ := hL3.at (hin b0 hb0).1 (hin b0 hb0).2
        refine ⟨_, rfl, _, rfl, _, rfl, row, _, _, _, rfl, rfl, SqL.of hrow3, hat0, p, _, _, _, rfl, rfl, hp3, hat', t', _, _, _, rfl, rfl, hs', rfl, rfl, _, rfl, ?_⟩
        refine ite2 (fun _ => ?_) (fun _ => iteF ⟨is, _, _, _, _, rfl, hrow3, hne, by omega, hin, W3, B3⟩)
        refine ⟨_, rfl, Nat.zero_le _, fun e he => ?_⟩
        have S4 : Same H3 (upd H3 e (.lst [])) := Same.new he
        refine ⟨.list (acc.map PyData.int), .list [], .lst (SqL.of (S4 _ _ hacc)) (dp_ints acc), .lst (SqL.of upd_same) .nil, shaped_ints acc, rfl, _, rfl, ?_⟩
        have W4 : WellAt (upd H3 e (.lst [])) l := by
          obtain ⟨x, y, z, hw⟩ := W3
          exact ⟨x, y, z, S4 _ _ hw⟩
        refine ite2 (fun hx => ?_) (fun _ => ⟨is, _, _, _, _, rfl, S4 _ _ hrow3, hne, by omega, hin, W4, B3.trans (But.of S4)⟩)
        have hacc0 : 0 < acc.length := by
          cases acc with
          | nil => simp [PyData.eqv, PyData.eqvAll] at hx
          | cons _ _ => simp
        refine ⟨_, rfl, .inl ⟨rfl, _, .inl (.inl (S4 _ _ hrow3))⟩, _, rfl, _, rfl, l, D, _, rfl, W4, nDl, SqL.of (S4 _ _ hacc), by rw [List.length_map]; exact hacc0, by rw [List.length_map]; omega, fun v H5 hv W5 B5 => ?_⟩
        obtain ⟨c, hc, rfl⟩ := List.mem_map.mp hv
        have hrow5 := B5 _ _ (S4 _ _ hrow3) nrl
        refine ⟨row, _, _, rfl, rfl, hrow5, ?_, is ++ [c], _, _, _, _, rfl, ?_, by simp, ?_, ?_, W2 W5, ((B3.trans (But.of S4)).trans B5).mut nr0⟩
        · rw [List.length_map]
          exact Nat.lt_of_le_of_lt (show is.length ≤ 1000 by omega) (by decide)
        · rw [upd_same, List.map_append]
          rfl
        · rw [List.length_append]
          simp
          omega
        · intro x hx
          rcases List.mem_append.mp hx with h | h
          · exact hin x h
          · have e : x = c := by simpa using h
            subst e
            exact hjr x hc
    · rintro σ H2 ⟨is, v3, v4, v5, v6, rfl, hrow, hne, hil, hin, W, B⟩
      refine ⟨_, rfl, row, _, rfl, .inl ⟨SqL.of hrow, fun q hq => ?_⟩⟩
      have S5 : Same H2 (upd H2 q (.tup (is.map V.int))) := Same.new hq
      obtain ⟨x, y, z, hw⟩ := W
      exact k q is _ (SqT.of upd_same) hne (by omega) hin ⟨x, y, z, S5 _ _ hw⟩ (B.trans (But.of S5))
end
end K4

namespace K4
open PySem L2 Bx
theorem WellAt.same {H H' : Hp} {l : Addr} (S : Same H H') (W : WellAt H l) : WellAt H' l := by
  obtain ⟨x, y, z, hw⟩ := W
  exact ⟨x, y, z, S _ _ hw⟩
theorem WellAt.ne {H : Hp} {l p : Addr} (W : WellAt H l) (h : H p = none) : p ≠ l := fun e => by
  obtain ⟨x, y, z, hw⟩ := W
  rw [e, hw] at h
  cases h
/-- an item of what is judged; what is judged -/
def ElV (K : PySem.W.Frag) (H : Hp) (x : V) : Prop := (∃ i, x = .int i) ∨ (∃ b, x = .bl b) ∨ x = .non ∨ (∃ s, x = .str s) ∨ ∃ p ys, x = .ref p ∧ SqT K H p ys
def IxV (K : PySem.W.Frag) (l : Addr) (H : Hp) (v : V) : Prop :=
  (∃ b ix, v = .ref b ∧ SqT K H b ix ∧ ix.length ≤ 20 ∧ ∀ x ∈ ix, ElV K H x) ∨ v = .non ∨ (∃ i, v = .int i) ∨ (∃ s, v = .str s) ∨ (∃ p xs, v = .ref p ∧ p ≠ l ∧ H p = some (.lst xs)) ∨ ∃ p kvs, v = .ref p ∧ p ≠ l ∧ H p = some (.dK kvs)
section
variable {P : Program} {w : World} {K : PySem.W.Frag} {mg : Str → Option Value} {base : Heap}
theorem ElV.same {H H' : Hp} {x : V} (S : Same H H') (h : ElV K H x) : ElV K H' x := by
  rcases h with h | h | h | h | ⟨p, ys, e, h⟩
  · exact .inl h
  · exact .inr (.inl h)
  · exact .inr (.inr (.inl h))
  · exact .inr (.inr (.inr (.inl h)))
  · exact .inr (.inr (.inr (.inr ⟨p, ys, e, Same.seqT S h⟩)))
theorem IxV.same {l : Addr} {H H' : Hp} {x : V} (S : Same H H') (h : IxV K l H x) : IxV K l H' x := by
  rcases h with ⟨b, ix, e, h, hl, ha⟩ | h | h | h | ⟨p, xs, e, n, h⟩ | ⟨p, xs, e, n, h⟩
  · exact .inl ⟨b, ix, e, Same.seqT S h, hl, fun x hx => (ha x hx).same S⟩
  · exact .inr (.inl h)
  · exact .inr (.inr (.inl h))
  · exact .inr (.inr (.inr (.inl h)))
  · exact .inr (.inr (.inr (.inr (.inl ⟨p, xs, e, n, S _ _ h⟩))))
  · exact .inr (.inr (.inr (.inr (.inr ⟨p, xs, e, n, S _ _ h⟩))))
theorem ElV.but {l : Addr} {ws : List V} {H H' : Hp} {x : V} (hw : H l = some (.lst ws)) (S : But l H H') (h : ElV K H x) : ElV K H' x := by
  rcases h with h | h | h | h | ⟨p, ys, e, h⟩
  · exact .inl h
  · exact .inr (.inl h)
  · exact .inr (.inr (.inl h))
  · exact .inr (.inr (.inr (.inl h)))
  · exact .inr (.inr (.inr (.inr ⟨p, ys, e, But.tupW hw S h⟩)))
theorem IxV.but {l : Addr} {ws : List V} {H H' : Hp} {x : V} (hw : H l = some (.lst ws)) (S : But l H H') (h : IxV K l H x) : IxV K l H' x := by
  rcases h with ⟨b, ix, e, h, hl, ha⟩ | h | h | h | ⟨p, xs, e, n, h⟩ | ⟨p, xs, e, n, h⟩
  · exact .inl ⟨b, ix, e, But.tupW hw S h, hl, fun x hx => (ha x hx).but hw S⟩
  · exact .inr (.inl h)
  · exact .inr (.inr (.inl h))
  · exact .inr (.inr (.inr (.inl h)))
  · exact .inr (.inr (.inr (.inr (.inl ⟨p, xs, e, n, S _ _ h n⟩))))
  · exact .inr (.inr (.inr (.inr (.inr ⟨p, xs, e, n, S _ _ h n⟩))))
theorem ix_tupI {l : Addr} {H : Hp} {b : Addr} {ix : List V} (h : SqT K H b ix) (hl : ix.length ≤ 20) (ha : ∀ x ∈ ix, ElV K H x) : IxV K l H (.ref b) := .inl ⟨b, ix, rfl, h, hl, ha⟩
theorem el_ints {H : Hp} {is : List Int} : ∀ x ∈ is.map V.int, ElV K H x := fun x hx => by
  obtain ⟨i, _, rfl⟩ := List.mem_map.mp hx
  exact .inl ⟨i, rfl⟩
theorem cut_mem {xs : List V} {lo hi : Option Int} {x : V} (h : x ∈ cutV xs lo hi) : x ∈ xs := by
  unfold cutV at h
  exact List.mem_of_mem_drop (List.mem_of_mem_take h)
theorem cut_len {xs : List V} {lo hi : Option Int} : (cutV xs lo hi).length ≤ xs.length := by
  unfold cutV
  rw [List.length_take, List.length_drop]
  omega
theorem sz {n : Nat} (h : n ≤ 1000) : n ≤ sizeLine := Nat.le_trans h (by decide)
def spSpoiled (K : PySem.W.Frag) : Sp := fun vs H Q _ => ∃ (l q : Addr) (is : List Int) (m : Int), vs = [.ref l, .ref q, .int m] ∧ WellAt H l ∧ SqT K H q (is.map V.int) ∧ is ≠ [] ∧ is.length ≤ 7 ∧ 0 ≤ m ∧ m ≤ 300 ∧
  ∀ (v : V) (H' : Hp), IxV K l H' v → WellAt H' l → But l H H' → Q v H'
theorem ok_l_spoiled {f : Addr} {fd : FuncData} (F : C8.Def K mg "_law_spoiled" s_l_spoiled f fd) (b : Binds K fd ["_law_well_here", "_law_row", "_law_many"] []) (T : Txt mg) (K_l_draw : C8.Cal P w K mg base 1 "_law_draw" spDraw []) (K_l_one : C8.Cal P w K mg base 2 "_law_one" (spOne K) []) :
    C8.Cal P w K mg base 3 "_law_spoiled" (spSpoiled K) [] := by
  refine C8.cal0 F b .nil sc_l_spoiled (fun vs H Q E h => ?_) (fun cdv A outer s H vs Q E hr h => ?_)
  · obtain ⟨l, q, is, m, rfl, _⟩ := h
    rfl
  · obtain ⟨l, q, is, m, rfl, hW, hq, hne, hl7, m0, m1, k⟩ := h
    refine ⟨_, (pss_cons (ps_par (i := 3) (j := 4) (by rfl) sc_l_spoiled.nd rfl rfl (by decide) rfl rfl (pa_cons (C8.pe_c K_l_draw hr (by decide) (by rfl) (pa_cons (pv 0) (pa_cons pe_int pa_nil))) (pa_cons (C8.pe_c K_l_draw hr (by decide) (by rfl) (pa_cons (pv 0) (pa_cons (pe_callB call_len_seq (by rfl) T.z_len (by decide +kernel) (pa_cons (pv 1) pa_nil)) pa_nil))) pa_nil)) (by rfl))
    (pss_cons (ps_if (pt_cmpR op_eq (pv 3) pe_int (nomark _)) (pss_one (ps_ret (pe_op op_catU (pe_op op_catU (pe_slice sl_tupU (pv 1) po_none (po_some (pv 4))) (pe_tup (pa_cons (pe_op op_sub (C8.pe_c K_l_draw hr (by decide) (by rfl) (pa_cons (pv 0) (pa_cons (pe_op op_add (pv 2) pe_int) pa_nil))) pe_int) pa_nil))) (pe_slice sl_tupU (pv 1) (po_some (pe_op op_add (pv 4) pe_int)) po_none)))) pss_nil)
    (pss_cons (ps_if (pt_cmpR op_eq (pv 3) pe_int (nomark _)) (pss_one (ps_ret (pe_op op_catU (pe_slice sl_tupU (pv 1) po_none (po_some (pv 4))) (pe_slice sl_tupU (pv 1) (po_some (pe_op op_add (pv 4) pe_int)) po_none)))) pss_nil)
    (pss_cons (ps_if (pt_cmpR op_eq (pv 3) pe_int (nomark _)) (pss_one (ps_ret (pe_op op_catU (pv 1) (pe_tup (pa_cons (pe_ix ix_tup (pv 1) (pv 4) (fun _ _ => rfl)) pa_nil))))) pss_nil)
    (pss_cons (ps_if (pt_cmpR op_eq (pv 3) pe_int (nomark _)) (pss_one (ps_ret (pe_revT (pv 1)))) pss_nil)
    (pss_cons (ps_if (pt_cmpR op_eq (pv 3) pe_int (nomark _)) (pss_one (ps_ret (C8.pe_c K_l_one hr (by decide) (by rfl) (pa_cons (pv 0) (pa_cons (pe_lst (pa_cons (pe_callTy call_list_of (by rfl) T.z_list (by decide +kernel) (pa_cons (pv 1) pa_nil)) (pa_cons pe_non (pa_cons (pe_tup pa_nil) (pa_cons pe_str (pa_cons (pe_op op_catU (pv 1) (pe_tup (pa_cons pe_bl pa_nil))) (pa_cons (pe_tup (pa_cons pe_non pa_nil)) (pa_cons pe_int (pa_cons pe_dnewK (pa_cons (pe_tup (pa_cons pe_str pa_nil)) (pa_cons (pe_tup (pa_cons (pe_tup (pa_cons pe_int pa_nil)) pa_nil)) (pa_cons (pe_op op_catU (pv 1) (pe_tup (pa_cons (pv 2) pa_nil))) pa_nil)))))))))))) pa_nil))))) pss_nil)
    (pss_one (ps_ret (pe_op op_catU (pe_slice sl_tupU (pv 1) (po_some (pv 4)) po_none) (pe_slice sl_tupU (pv 1) po_none (po_some (pv 4)))))))))))), ?_⟩
    obtain ⟨wx, wy, wz, hW0⟩ := id hW
    have hpos : 0 < is.length := List.length_pos_iff.mpr hne
    have hlm : (is.map V.int).length = is.length := List.length_map ..
    refine ⟨_, rfl, l, 9, rfl, hW, by decide, by decide, fun u H1 u0 u1 W1 B1 => ⟨_, rfl, _, rfl, q, _, rfl, .inr (But.tupW hW0 B1 hq), l, _, rfl, W1, by omega, lg (by omega), fun at_ H2 a0 a1 W2 B2' => ⟨_, _, rfl, ?_⟩⟩⟩
    have B2 : But l H H2 := B1.trans B2'
    have hq2 : SqT K H2 q (is.map V.int) := But.tupW hW0 B2 hq
    obtain ⟨j, rfl⟩ : ∃ j : Nat, at_ = (j : Int) := ⟨at_.toNat, by omega⟩
    have hj : j < is.length := by omega
    refine ⟨_, rfl, rfl, _, rfl, ?_⟩
    refine ite2 (fun _ => ?_) (fun _ => ?_)
    · refine ⟨_, rfl, _, rfl, _, rfl, q, _, rfl, hq2, fun c1 H3 S3 h3 => ?_⟩
      refine ⟨_, rfl, _, rfl, _, _, rfl, rfl, l, _, rfl, W2.same S3, by omega, lg (by omega), fun d H4 d0 d1 W4 B4 => ⟨_, _, rfl, rfl, sz (by simp), fun t nt => ?_⟩⟩
      obtain ⟨vx, vy, vz, hW3⟩ := W2.same S3
      have S5 : Same H4 (upd H4 t (.tup [.int (d - 1)])) := Same.new nt
      refine ⟨c1, t, _, _, rfl, rfl, Same.seqT S5 (But.tupW hW3 B4 h3), SqT.of upd_same, sz ?_, fun c2 H5 S6 h5 => ?_⟩
      · have := cut_len (xs := is.map V.int) (lo := none) (hi := some (j : Int))
        simp
        omega
      · refine ⟨_, rfl, _, rfl, _, _, rfl, rfl, _, rfl, q, _, rfl, Same.seqT (S5.trans S6) (But.tupW hW3 B4 (Same.seqT S3 hq2)), fun c3 H6 S7 h6 => ⟨c2, c3, _, _, rfl, rfl, Same.seqT S7 h5, h6, sz ?_, fun c4 H7 S8 h7 => ?_⟩⟩
        · have := cut_len (xs := is.map V.int) (lo := none) (hi := some (j : Int))
          have := cut_len (xs := is.map V.int) (lo := some ((j : Int) + 1)) (hi := none)
          simp
          omega
        · refine k _ _ (ix_tupI h7 ?_ fun x hx => ?_) (W4.same (((S5.trans S6).trans S7).trans S8)) (((B2.trans (But.of S3)).trans B4).trans (But.of (((S5.trans S6).trans S7).trans S8)))
          · have := cut_len (xs := is.map V.int) (lo := none) (hi := some (j : Int))
            have := cut_len (xs := is.map V.int) (lo := some ((j : Int) + 1)) (hi := none)
            simp
            omega
          · rcases List.mem_append.mp hx with h | h
            · rcases List.mem_append.mp h with h | h
              · exact el_ints x (cut_mem h)
              · exact .inl ⟨d - 1, by simpa using h⟩
            · exact el_ints x (cut_mem h)
    refine ⟨_, rfl, rfl, _, rfl, ?_⟩
    refine ite2 (fun _ => ?_) (fun _ => ?_)
    · refine ⟨_, rfl, _, rfl, _, rfl, q, _, rfl, hq2, fun c1 H3 S3 h3 => ?_⟩
      refine ⟨_, rfl, _, rfl, _, _, rfl, rfl, _, rfl, q, _, rfl, Same.seqT S3 hq2, fun c3 H6 S7 h6 => ⟨c1, c3, _, _, rfl, rfl, Same.seqT S7 h3, h6, sz ?_, fun c4 H7 S8 h7 => ?_⟩⟩
      · have := cut_len (xs := is.map V.int) (lo := none) (hi := some (j : Int))
        have := cut_len (xs := is.map V.int) (lo := some ((j : Int) + 1)) (hi := none)
        omega
      · refine k _ _ (ix_tupI h7 ?_ fun x hx => ?_) (W2.same ((S3.trans S7).trans S8)) (B2.trans (But.of ((S3.trans S7).trans S8)))
        · have := cut_len (xs := is.map V.int) (lo := none) (hi := some (j : Int))
          have := cut_len (xs := is.map V.int) (lo := some ((j : Int) + 1)) (hi := none)
          rw [List.length_append]
          omega
        · rcases List.mem_append.mp hx with h | h
          · exact el_ints x (cut_mem h)
          · exact el_ints x (cut_mem h)
    refine ⟨_, rfl, rfl, _, rfl, ?_⟩
    refine ite2 (fun _ => ?_) (fun _ => ?_)
    · refine ⟨_, rfl, _, rfl, _, rfl, q, _, _, _, rfl, rfl, hq2, atI_nat (List.getElem?_eq_getElem (by omega)), sz (by simp), fun t nt => ?_⟩
      have S5 := Same.new (o := HO.tup [(is.map V.int)[j]'(by omega)]) nt
      refine ⟨q, t, _, _, rfl, rfl, Same.seqT S5 hq2, SqT.of upd_same, sz ?_, fun c2 H5 S6 h5 => ?_⟩
      · simp
        omega
      · refine k _ _ (ix_tupI h5 ?_ fun x hx => ?_) (W2.same (S5.trans S6)) (B2.trans (But.of (S5.trans S6)))
        · simp
          omega
        · rcases List.mem_append.mp hx with h | h
          · exact el_ints x h
          · exact el_ints x (by
              have e : x = (is.map V.int)[j]'(by omega) := by simpa using h
              rw [e]
              exact List.getElem_mem _)
    refine ⟨_, rfl, rfl, _, rfl, ?_⟩
    refine ite2 (fun _ => ?_) (fun _ => ?_)
    · refine ⟨_, rfl, q, _, rfl, hq2, fun p hp => ?_⟩
      have S5 := Same.new (o := HO.tup (is.map V.int).reverse) hp
      refine k _ _ (ix_tupI (SqT.of upd_same) ?_ fun x hx => ?_) (W2.same S5) (B2.trans (But.of S5))
      · rw [List.length_reverse]
        omega
      · exact el_ints x (List.mem_reverse.mp hx)
    refine ⟨_, rfl, rfl, _, rfl, ?_⟩
    refine ite2 (fun _ => ?_) (fun _ => ?_)
    · -- one of eleven things
      refine ⟨_, rfl, _, rfl, q, _, rfl, .inr hq2, fun p1 n1 => ?_⟩
      have S1 := Same.new (o := HO.lst (is.map V.int)) n1
      refine ⟨sz (by simp), fun p2 n2 => ?_⟩
      have S2 := Same.new (o := HO.tup []) n2
      refine ⟨_, rfl, sz (by simp), fun p3 n3 => ?_⟩
      have S3 := Same.new (o := HO.tup [.bl true]) n3
      refine ⟨q, p3, _, _, rfl, rfl, Same.seqT ((S1.trans S2).trans S3) hq2, SqT.of upd_same, sz (by simp; omega), fun p4 H4 S4 h4 => ?_⟩
      refine ⟨sz (by simp), fun p5 n5 => ?_⟩
      have S5 := Same.new (o := HO.tup [.non]) n5
      refine fun p6 n6 => ?_
      have S6 := Same.new (o := HO.dK []) n6
      refine ⟨sz (by simp), fun p7 n7 => ?_⟩
      have S7 := Same.new (o := HO.tup [.str "0"]) n7
      refine ⟨sz (by simp), fun p8 n8 => ⟨sz (by simp), fun p9 n9 => ?_⟩⟩
      have S8 := Same.new (o := HO.tup [.int 0]) n8
      have S9 := Same.new (o := HO.tup [.ref p8]) n9
      refine ⟨_, rfl, _, rfl, sz (by simp), fun p10 n10 => ?_⟩
      have S10 := Same.new (o := HO.tup [.int m]) n10
      have S4' := (((S1.trans S2).trans S3).trans S4)
      have S9' := (((S4'.trans S5).trans S6).trans S7).trans (S8.trans S9)
      refine ⟨q, p10, _, _, rfl, rfl, Same.seqT (S9'.trans S10) hq2, SqT.of upd_same, sz (by simp; omega), fun p11 H11 S11 h11 => ?_⟩
      refine ⟨sz (by simp), fun p12 n12 => ?_⟩
      have S12 := Same.new (o := HO.lst [.ref p1, .non, .ref p2, .str "0", .ref p4, .ref p5, .int 0, .ref p6, .ref p7, .ref p9, .ref p11]) n12
      have SE := ((S9'.trans S10).trans S11).trans S12
      have WE := W2.same SE
      refine ⟨l, p12, _, rfl, WE, (W2.same ((S9'.trans S10).trans S11)).ne n12, SqL.of upd_same, by simp, by simp, fun v H' hv W' B' => ?_⟩
      obtain ⟨ex, ey, ez, hWE⟩ := id WE
      refine k v H' (IxV.but hWE B' ?_) W' ((B2.trans (But.of SE)).trans B')
      simp only [List.mem_cons, List.not_mem_nil, or_false] at hv
      have T9 := (S9.trans S10).trans (S11.trans S12)
      have T6 := (S7.trans S8).trans T9
      have T5 := S6.trans T6
      have T4 := S5.trans T5
      have T2 := (S3.trans S4).trans T4
      rcases hv with rfl | rfl | rfl | rfl | rfl | rfl | rfl | rfl | rfl | rfl | rfl
      · exact .inr (.inr (.inr (.inr (.inl ⟨p1, is.map V.int, rfl, W2.ne n1, (S2.trans T2) _ _ upd_same⟩))))
      · exact .inr (.inl rfl)
      · exact ix_tupI (SqT.of (T2 _ _ upd_same)) (by simp) (fun x hx => by cases hx)
      · exact .inr (.inr (.inr (.inl ⟨_, rfl⟩)))
      · refine ix_tupI (Same.seqT T4 h4) (by simp; omega) fun x hx => ?_
        rcases List.mem_append.mp hx with h | h
        · exact el_ints x h
        · exact .inr (.inl ⟨true, by simpa using h⟩)
      · exact ix_tupI (SqT.of (T5 _ _ upd_same)) (by simp) (fun x hx => .inr (.inr (.inl (by simpa using hx))))
      · exact .inr (.inr (.inl ⟨_, rfl⟩))
      · exact .inr (.inr (.inr (.inr (.inr ⟨p6, [], rfl, (W2.same (S4'.trans S5)).ne n6, T6 _ _ upd_same⟩))))
      · exact ix_tupI (SqT.of ((S8.trans T9) _ _ upd_same)) (by simp) (fun x hx => .inr (.inr (.inr (.inl ⟨_, by simpa using hx⟩))))
      · refine ix_tupI (SqT.of ((S10.trans (S11.trans S12)) _ _ upd_same)) (by simp) fun x hx => .inr (.inr (.inr (.inr ⟨p8, [.int 0], by simpa using hx, SqT.of (T9 _ _ upd_same)⟩)))
      · refine ix_tupI (Same.seqT S12 h11) (by simp; omega) fun x hx => ?_
        rcases List.mem_append.mp hx with h | h
        · exact el_ints x h
        · exact .inl ⟨m, by simpa using h⟩
    · refine ⟨_, rfl, _, rfl, _, rfl, q, _, rfl, hq2, fun c1 H3 S3 h3 => ?_⟩
      refine ⟨_, rfl, _, rfl, _, rfl, q, _, rfl, Same.seqT S3 hq2, fun c3 H6 S7 h6 => ⟨c1, c3, _, _, rfl, rfl, Same.seqT S7 h3, h6, sz ?_, fun c4 H7 S8 h7 => ?_⟩⟩
      · have := cut_len (xs := is.map V.int) (lo := some (j : Int)) (hi := none)
        have := cut_len (xs := is.map V.int) (lo := none) (hi := some (j : Int))
        omega
      · refine k _ _ (ix_tupI h7 ?_ fun x hx => ?_) (W2.same ((S3.trans S7).trans S8)) (B2.trans (But.of ((S3.trans S7).trans S8)))
        · have := cut_len (xs := is.map V.int) (lo := some (j : Int)) (hi := none)
          have := cut_len (xs := is.map V.int) (lo := none) (hi := some (j : Int))
          rw [List.length_append]
          omega
        · rcases List.mem_append.mp hx with h | h
          · exact el_ints x (cut_mem h)
          · exact el_ints x (cut_mem h)
end
end K4

namespace K4
open PySem L2 Bx
theorem nodup_le : ∀ {out is : List Int}, out.Nodup → (∀ k ∈ out, k ∈ is) → out.length ≤ is.length
  | [], _, _, _ => Nat.zero_le _
  | a :: o, is, nd, h => by
    have ha : a ∈ is := h a List.mem_cons_self
    have hn := List.nodup_cons.mp nd
    have e : o.length ≤ (is.erase a).length := nodup_le hn.2 fun k hk => (List.mem_erase_of_ne (fun q => hn.1 (by rw [← q]; exact hk))).mpr (h k (List.mem_cons_of_mem _ hk))
    have e2 : (is.erase a).length = is.length - 1 := List.length_erase_of_mem ha
    have hp : 0 < is.length := List.length_pos_of_mem ha
    rw [List.length_cons]
    omega
theorem nodup_set {out is : List Int} (nd : out.Nodup) (h : ∀ k, k ∈ out ↔ k ∈ is) : out.length < is.length ↔ ¬ is.Nodup := by
  constructor
  · intro hl n2
    have := nodup_le n2 (out := is) (is := out) fun k hk => (h k).mpr hk
    omega
  · intro hn
    rw [List.nodup_iff_count] at hn
    obtain ⟨a, ha⟩ : ∃ a, ¬ List.count a is ≤ 1 := Classical.not_forall.mp hn
    have hm : a ∈ is := List.count_pos_iff.mp (by omega)
    have hm2 : a ∈ is.erase a := List.count_pos_iff.mp (by rw [List.count_erase_self]; omega)
    have e : out.length ≤ (is.erase a).length := nodup_le nd fun k hk => by
      by_cases q : k = a
      · rw [q]
        exact hm2
      · exact (List.mem_erase_of_ne q).mpr ((h k).mp hk)
    have e2 : (is.erase a).length = is.length - 1 := List.length_erase_of_mem hm
    have hp : 0 < is.length := List.length_pos_of_mem hm
    omega
section
variable (f g : Int → Str)
theorem rot_aux (z : Str) : ∀ (l : List Int) (a : Int), (f a :: l.map f = l.map g ++ [z]) ↔ ((∀ j, j < l.length → g (l.getD j 0) = f ((a :: l).getD j 0)) ∧ z = f ((a :: l).getD l.length 0))
  | [], a => by simp [eq_comm]
  | b :: l, a => by
    have ih := rot_aux z l b
    have e : (f a :: (b :: l).map f = (b :: l).map g ++ [z]) ↔ (f a = g b ∧ f b :: l.map f = l.map g ++ [z]) := by simp
    rw [e, ih]
    constructor
    · rintro ⟨h1, h2, h3⟩
      refine ⟨fun j hj => ?_, by simpa using h3⟩
      cases j with
      | zero => simpa using h1.symm
      | succ j => simpa using h2 j (by simpa using hj)
    · rintro ⟨h1, h2⟩
      refine ⟨by simpa using (h1 0 (by simp)).symm, fun j hj => ?_, by simpa using h2⟩
      simpa using h1 (j + 1) (by simpa using hj)
theorem rot_iff {is : List Int} (hne : is ≠ []) : is.map f = (is.map g).drop 1 ++ (is.map g).take 1 ↔ ∀ j, j < is.length → g (is.getD j 0) = f (is.getD (if j = 0 then is.length - 1 else j - 1) 0) := by
  obtain ⟨a, l, rfl⟩ := List.exists_cons_of_ne_nil hne
  have e : ((a :: l).map f = ((a :: l).map g).drop 1 ++ ((a :: l).map g).take 1) ↔ (f a :: l.map f = l.map g ++ [g a]) := by simp
  rw [e, rot_aux]
  constructor
  · rintro ⟨h1, h2⟩ j hj
    cases j with
    | zero => simpa using h2
    | succ j => simpa using h1 j (by simpa using hj)
  · intro h
    refine ⟨fun j hj => ?_, ?_⟩
    · have := h (j + 1) (by simpa using hj)
      simpa using this
    · have := h 0 (by simp)
      simpa using this
end
def lt (lits : List (Str × Str × Int)) (i : Int) : Str := (lits.getD i.toNat ("", "", 0)).1
def rt (lits : List (Str × Str × Int)) (i : Int) : Str := (lits.getD i.toNat ("", "", 0)).2.1
def nb (lits : List (Str × Str × Int)) (i : Int) : Int := (lits.getD i.toNat ("", "", 0)).2.2
def Ring (lits : List (Str × Str × Int)) (ix : List V) : Prop :=
  ∃ is : List Int, ix = is.map V.int ∧ is ≠ [] ∧ InR lits.length is ∧ is.Nodup ∧ is.map (rt lits) = (is.map (lt lits)).drop 1 ++ (is.map (lt lits)).take 1 ∧ (is.map (nb lits)).sum < 0
theorem int_map_inj : ∀ {xs ys : List Int}, xs.map V.int = ys.map V.int → xs = ys
  | [], [], _ => rfl
  | [], _ :: _, h => by cases h
  | _ :: _, [], h => by cases h
  | x :: xs, y :: ys, h => by
    rw [List.map_cons, List.map_cons] at h
    injection h with h1 h2
    injection h1 with h1
    rw [h1, int_map_inj h2]
theorem Ring.iff {lits : List (Str × Str × Int)} {is : List Int} : Ring lits (is.map V.int) ↔ is ≠ [] ∧ InR lits.length is ∧ is.Nodup ∧ is.map (rt lits) = (is.map (lt lits)).drop 1 ++ (is.map (lt lits)).take 1 ∧ (is.map (nb lits)).sum < 0 := by
  constructor
  · rintro ⟨js, e, h⟩
    rw [int_map_inj e]
    exact h
  · intro h
    exact ⟨is, rfl, h⟩
theorem at_lt {lits : List (Str × Str × Int)} {i : Int} {q : Str × Str × Int} (h : lits[i.toNat]? = some q) : lt lits i = q.1 ∧ rt lits i = q.2.1 ∧ nb lits i = q.2.2 := by
  unfold lt rt nb
  rw [List.getD_eq_getElem?_getD, h]
  exact ⟨rfl, rfl, rfl⟩
theorem take_snoc {α : Type} {xs : List α} {i : Nat} {x : α} (h : xs[i]? = some x) : xs.take (i + 1) = xs.take i ++ [x] := by
  rw [List.take_succ, h]
  rfl
theorem cut_to {xs : List V} {k : Nat} (h : k ≤ xs.length) : cutV xs none (some (k : Int)) = xs.take k := by
  unfold cutV
  rw [HT.sIx_none, HT.sIx_nat, List.drop_zero, Nat.sub_zero, Nat.min_eq_left h]
theorem cut_from {xs : List V} {k : Nat} (h : k ≤ xs.length) : cutV xs (some (k : Int)) none = xs.drop k := by
  unfold cutV
  rw [HT.sIx_nat, HT.sIx_none, Nat.min_eq_left h, List.take_of_length_le (by rw [List.length_drop]; omega)]
theorem set_le {out is : List Int} (nd : out.Nodup) (h : ∀ k, k ∈ out ↔ k ∈ is) : out.length ≤ is.length := nodup_le nd fun k hk => (h k).mp hk
theorem at_get {ts : List Addr} {a : Int} {t : Addr} (h0 : 0 ≤ a) (h : atI (ts.map V.ref) a = some (.ref t)) : ts.getD a.toNat 0 = t := by
  unfold atI ixN at h
  rw [if_pos h0] at h
  by_cases h1 : a < (((ts.map V.ref).length : Nat) : Int)
  · rw [if_pos h1] at h
    have h2 : (ts.map V.ref)[a.toNat]? = some (.ref t) := h
    rw [List.getElem?_map] at h2
    obtain ⟨u, hu, e⟩ := Option.map_eq_some_iff.mp h2
    injection e with e
    rw [List.getD_eq_getElem?_getD, hu, ← e]
    rfl
  · rw [if_neg h1] at h
    cases h
theorem at_lastR {ts : List Addr} {t : Addr} {n : Nat} (hn : ts.length = n) (h0 : 0 < n) (h : ts[n - 1]? = some t) : atI (ts.map V.ref) (-1) = some (.ref t) := by
  unfold atI ixN
  rw [if_neg (by decide), if_pos (by rw [List.length_map]; omega)]
  have e : ((-1 : Int) + (((ts.map V.ref).length : Nat) : Int)).toNat = n - 1 := by rw [List.length_map]; omega
  show (ts.map V.ref)[((-1 : Int) + (((ts.map V.ref).length : Nat) : Int)).toNat]? = _
  rw [e, List.getElem?_map, h]
  rfl
end K4

namespace K4
open PySem L2 Bx
section
variable {P : Program} {w : World} {K : PySem.W.Frag} {mg : Str → Option Value} {base : Heap}
theorem ElV.kind {H : Hp} {x : V} (h : ElV K H x) : (∃ i, x = .int i) ∨ ((∀ i, x ≠ .int i) ∧ ∃ t a c, TyX K H x t ∧ PySem.W.kitOne K t (.type "int") = some a ∧ PySem.W.kitOne K t (.type "bool") = some c ∧ (a && !c) = false) := by
  rcases h with h | ⟨b, rfl⟩ | rfl | ⟨s, rfl⟩ | ⟨p, ys, rfl, h⟩
  · exact .inl h
  · exact .inr ⟨fun i e => (by cases e), _, true, true, .base (.bl b), rfl, rfl, rfl⟩
  · exact .inr ⟨fun i e => (by cases e), _, false, false, .base .non, rfl, rfl, rfl⟩
  · exact .inr ⟨fun i e => (by cases e), _, false, false, .base (.str s), rfl, rfl, rfl⟩
  · exact .inr ⟨fun i e => (by cases e), _, false, false, tyT h, rfl, rfl, rfl⟩
def LitOk (lits : List (Str × Str × Int)) : Prop := ∀ q ∈ lits, PyData.strOk q.1 = true ∧ PyData.strOk q.2.1 = true
def spRing (K : PySem.W.Frag) : Sp := fun vs H Q _ => ∃ (p : Addr) (ts : List Addr) (lits : List (Str × Str × Int)) (v : V), vs = [.ref p, v] ∧ SqL K H p (ts.map V.ref) ∧ LitsAt K H ts lits ∧ lits.length ≤ 300 ∧ LitOk lits ∧
  ((∃ c ix, v = .ref c ∧ SqT K H c ix ∧ ix.length ≤ 20 ∧ (∀ x ∈ ix, ElV K H x) ∧ ∀ (b : Bool) (H' : Hp), Same H H' → (b = true ↔ Ring lits ix) → Q (.bl b) H') ∨
   (∃ t, TyX K H v t ∧ PySem.W.kitOne K t (.type "tuple") = some false ∧ ∀ H', Same H H' → Q (.bl false) H'))
theorem strOk_at {lits : List (Str × Str × Int)} (h : LitOk lits) (i : Int) : PyData.strOk (lt lits i) = true ∧ PyData.strOk (rt lits i) = true := by
  unfold lt rt
  rw [List.getD_eq_getElem?_getD]
  cases e : lits[i.toNat]? with
  | none => exact ⟨by decide +kernel, by decide +kernel⟩
  | some q => exact h q (List.mem_of_getElem? e)
theorem ok_l_due {f : Addr} {fd : FuncData} (F : C8.Def K mg "_law_due" s_l_due f fd) (b : Binds K fd ["_law_literals", "_law_indices"] []) (T : Txt mg) (K_l_is_integer : C8.Cal P w K mg base 1 "_law_is_integer" (spNum K) []) :
    C8.Cal P w K mg base 4 "_law_due" (spRing K) [] := by
  refine C8.cal0 F b .nil sc_l_due (fun vs H Q E h => ?_) (fun cdv A outer s H vs Q E hr h => ?_)
  · obtain ⟨p, ts, lits, v, rfl, _⟩ := h
    rfl
  · obtain ⟨p, ts, lits, v, rfl, hp, hL, h300, hok, h⟩ := h
    refine ⟨_, (pss_cons (ps_if (PW.pt (pw_or (pt_not (pt_val (pe_callB call_isi (by rfl) T.z_isinstance (by decide +kernel) (pa_cons (pv 1) (pa_cons (pe_bltn (v := .ty "tuple") (by rfl) T.z_tuple (by decide +kernel) rfl) pa_nil))))) (pw_or1 (pt_cmpR op_eq (pe_callB call_len_seq (by rfl) T.z_len (by decide +kernel) (pa_cons (pv 1) pa_nil)) pe_int (nomark _))))) (pss_one (ps_ret pe_bl)) pss_nil)
    (pss_cons (ps_for PassesOwn.never rfl (pi_range1 (by rfl) T.z_range (pa_cons (pe_callB call_len_seq (by rfl) T.z_len (by decide +kernel) (pa_cons (pv 1) pa_nil)) pa_nil)) (pg_name (i := 2) sc_l_due.nd rfl (Or.inl rfl))
    (pss_one (ps_if (PW.pt (pw_or (pt_not (pt_val (C8.pe_c K_l_is_integer hr (by decide) (by rfl) (pa_cons (pe_ix ix_tup (pv 1) (pv 2) (fun _ _ => rfl)) pa_nil)))) (pw_or (pt_not (pt_chain op_le op_lt pe_int (pe_ix ix_tup (pv 1) (pv 2) (fun _ _ => rfl)) (pe_callB call_len_seq (by rfl) T.z_len (by decide +kernel) (pa_cons (pv 0) pa_nil)))) (pw_or1 (pt_cmpR op_in_seq (pe_ix ix_tup (pv 1) (pv 2) (fun _ _ => rfl)) (pe_slice sl_tupU (pv 1) po_none (po_some (pv 2))) (by rfl)))))) (pss_one (ps_ret pe_bl)) pss_nil)))
    (pss_cons (ps_setLc (i := 3) (own := [("_law_at", 5)]) (g := gName 5) (tt := tYes) rfl sc_l_due.nd rfl rfl (sw_true rfl rfl rfl (by decide +kernel)) (pi_tup (pv 1)) (blkOk_by (own := [("_law_at", 5)]) (N := N_l_due) (sc := C8.fnScope s_l_due) (by decide +kernel)) (fun _ _ _ _ _ => (pg_name (i := 5) sc_l_due.nd rfl (Or.inl rfl))) (fun _ _ _ _ _ => pts_nil) (fun _ _ _ _ _ => (pe_ix (ixTK K) (pe_ix (ixLK K) (pv 0) (pv 5) (fun _ _ => rfl)) pe_int (fun _ _ => rfl))))
    (pss_cons (ps_setLc (i := 4) (own := [("_law_at", 5)]) (g := gName 5) (tt := tYes) rfl sc_l_due.nd rfl rfl (sw_true rfl rfl rfl (by decide +kernel)) (pi_tup (pv 1)) (blkOk_by (own := [("_law_at", 5)]) (N := N_l_due) (sc := C8.fnScope s_l_due) (by decide +kernel)) (fun _ _ _ _ _ => (pg_name (i := 5) sc_l_due.nd rfl (Or.inl rfl))) (fun _ _ _ _ _ => pts_nil) (fun _ _ _ _ _ => (pe_ix (ixTK K) (pe_ix (ixLK K) (pv 0) (pv 5) (fun _ _ => rfl)) pe_int (fun _ _ => rfl))))
    (pss_one (ps_ret (pe_and (pe_cmpR (op_eqD hr.units) (pv 3) (pe_op op_cat (pe_slice sl_list (pv 4) (po_some pe_int) po_none) (pe_slice sl_list (pv 4) po_none (po_some pe_int))) (nomark _)) (pe_one (pe_cmpR op_lt (pe_callB (cr_sum rfl) (by rfl) T.z_sum (by decide +kernel) (pa_cons (pe_lc (own := [("_law_at", 5)]) (g := gName 5) (tt := tYes) rfl sc_l_due.nd (pi_tup (pv 1)) (blkOk_by (own := [("_law_at", 5)]) (N := N_l_due) (sc := C8.fnScope s_l_due) (by decide +kernel)) (fun _ _ _ _ _ => (pg_name (i := 5) sc_l_due.nd rfl (Or.inl rfl))) (fun _ _ _ _ _ => pts_nil) (fun _ _ _ _ _ => (pe_ix (ixTK K) (pe_ix (ixLK K) (pv 0) (pv 5) (fun _ _ => rfl)) pe_int (fun _ _ => rfl)))) pa_nil)) pe_int (nomark _)))))))))), ?_⟩
    rcases h with ⟨c, ix, rfl, hc, h20, hel, k⟩ | ⟨t, ty, kt, k⟩
    rotate_left
    · refine ⟨_, rfl, _, _, t, _, false, rfl, .ty _, ty, kt, _, rfl, ?_⟩
      exact iteT (iteT (k H (Same.refl H)))
    refine ⟨_, rfl, _, _, _, _, true, rfl, .ty _, tyT hc, rfl, _, rfl, ?_⟩
    refine iteF ?_
    refine ⟨_, rfl, c, _, rfl, .inr hc, rfl, _, rfl, ?_⟩
    refine ite2 (fun h0 => ?_) (fun h0 => ?_)
    · have e0 : ix = [] := by
        have := of_decide_eq_true h0
        injection this with this
        exact List.length_eq_zero_iff.mp (by omega)
      refine k false H (Same.refl H) ⟨fun h => (by cases h), fun ⟨is, e, hne, _⟩ => ?_⟩
      rw [e0] at e
      exact absurd (List.map_eq_nil_iff.mp e.symm) hne
    have hne : ix ≠ [] := fun e => h0 (by rw [e]; rfl)
    have hpl : ((ts.map V.ref).length : Int) = (lits.length : Int) := by rw [List.length_map, hL.1]
    -- for k in range(len(indices))
    refine ⟨_, rfl, c, _, rfl, .inr hc, _, rfl, by omega, by omega, for_range (lo := 0) (n := ((ix.length : Nat) : Int).toNat) (fun i σ H' => ∃ (v2 v3 v4 v5 : Option V), σ = [some (.ref p), some (.ref c), v2, v3, v4, v5] ∧ Same H H' ∧ ∃ is : List Int, ix.take i = is.map V.int ∧ InR lits.length is ∧ is.Nodup)
      ⟨none, none, none, none, rfl, Same.refl H, [], rfl, fun _ h => (by cases h), List.nodup_nil⟩ ?_ ?_⟩
    · rintro i σ H2 hi ⟨v2, v3, v4, v5, rfl, S, is, hti, hin, hnd⟩
      have hix : i < ix.length := by omega
      have hat : atI ix (0 + (i : Int)) = some ix[i] := by
        rw [Int.zero_add]
        exact atI_nat (List.getElem?_eq_getElem hix)
      have hc2 := Same.seqT S hc
      have hmem : ix[i] ∈ ix := List.getElem_mem hix
      rcases ((hel _ hmem).same S).kind with ⟨z, hz⟩ | ⟨hn, t, a, c', ty, ka, kc, hac⟩
      · rw [hz] at hat hmem
        refine ⟨_, rfl, _, rfl, c, _, _, _, rfl, rfl, hc2, hat, _, _, true, false, rfl, .base (.int z), rfl, rfl, _, rfl, ?_⟩
        refine iteF ?_
        refine ⟨_, rfl, _, rfl, c, _, _, _, rfl, rfl, hc2, hat, _, _, rfl, rfl, _, rfl, ?_⟩
        refine ite2 (fun hz0 => ?_) (fun hz0 => ?_)
        rotate_left
        · refine ⟨_, rfl, iteT (iteT ?_)⟩
          refine k false H2 S ⟨fun h => (by cases h), fun ⟨js, e, _, hj, _⟩ => ?_⟩
          rw [e] at hmem
          obtain ⟨y, hy, ey⟩ := List.mem_map.mp hmem
          injection ey with ey
          have := (hj y hy).1
          rw [ey] at this
          exact absurd (decide_eq_true this) hz0
        have z0 : 0 ≤ z := of_decide_eq_true hz0
        refine ⟨_, rfl, p, _, rfl, .inl (S.seq hp), _, _, rfl, rfl, _, rfl, ?_⟩
        by_cases hz1 : z < (lits.length : Int)
        rotate_left
        · have e1 : decide (z < ((ts.map V.ref).length : Int)) = false := decide_eq_false (by omega)
          rw [e1]
          refine iteT (iteT ?_)
          refine k false H2 S ⟨fun h => (by cases h), fun ⟨js, e, _, hj, _⟩ => ?_⟩
          rw [e] at hmem
          obtain ⟨y, hy, ey⟩ := List.mem_map.mp hmem
          injection ey with ey
          have := (hj y hy).2
          rw [ey] at this
          exact absurd this hz1
        have e1 : decide (z < ((ts.map V.ref).length : Int)) = true := decide_eq_true (by omega)
        rw [e1]
        refine iteF ?_
        refine ⟨_, rfl, _, rfl, c, _, _, _, rfl, rfl, hc2, hat, _, rfl, _, rfl, _, rfl, c, _, rfl, hc2, fun c1 H3 S3 h3 => ?_⟩
        rw [Int.zero_add, cut_to (by omega), hti] at h3
        refine ⟨c1, _, rfl, .inr h3, rfl, flat_ints is, _, rfl, ?_⟩
        show ite (inV (.int z) (is.map V.int) = true) _ _
        rw [inV_ints]
        have hti1 : ix.take (i + 1) = (is ++ [z]).map V.int := by
          rw [take_snoc (List.getElem?_eq_getElem hix), hti, hz, List.map_append]
          rfl
        refine ite2 (fun hzi => ?_) (fun hzi => ?_)
        · refine k false H3 (S.trans S3) ⟨fun h => (by cases h), fun ⟨js, e, _, _, hj, _⟩ => ?_⟩
          have e2 : js.take (i + 1) = is ++ [z] := by
            refine int_map_inj ?_
            rw [List.map_take, ← e, hti1]
          have hnj : (js.take (i + 1)).Nodup := hj.sublist (List.take_sublist _ _)
          rw [e2] at hnj
          exact ((List.nodup_append.mp hnj).2.2 z (of_decide_eq_true hzi) z (by simp) rfl).elim
        · have hzi' : z ∉ is := fun h => hzi (decide_eq_true h)
          refine ⟨_, _, _, _, rfl, S.trans S3, is ++ [z], hti1, fun x hx => ?_, ?_⟩
          · rcases List.mem_append.mp hx with h | h
            · exact hin x h
            · have e : x = z := by simpa using h
              rw [e]
              exact ⟨z0, hz1⟩
          · refine List.nodup_append.mpr ⟨hnd, by simp, fun x hx y hy e => ?_⟩
            have ey : y = z := by simpa using hy
            rw [e, ey] at hx
            exact hzi' hx
      · refine ⟨_, rfl, _, rfl, c, _, _, _, rfl, rfl, hc2, hat, _, t, a, c', rfl, ty, ka, kc, _, rfl, ?_⟩
        rw [hac]
        refine iteT (iteT ?_)
        refine k false H2 S ⟨fun h => (by cases h), fun ⟨js, e, _⟩ => ?_⟩
        have q : ix[i]? = (js.map V.int)[i]? := by rw [← e]
        rw [List.getElem?_eq_getElem hix, List.getElem?_map] at q
        cases e3 : js[i]? with
        | none =>
          rw [e3] at q
          cases q
        | some y' =>
          rw [e3] at q
          exact (hn y' (Option.some.inj q)).elim
    · rintro σ H2 ⟨v2, v3, v4, v5, rfl, S, is, hti, hin, hnd⟩
      have hix : ix = is.map V.int := by
        rw [← hti, List.take_of_length_le (by omega)]
      subst hix
      have hisne : is ≠ [] := fun e => hne (by rw [e]; rfl)
      have his20 : is.length ≤ 20 := by rw [List.length_map] at h20; exact h20
      have hc2 := Same.seqT S hc
      have hp2 := S.seq hp
      have hL2 := hL.mono S
      have turn : ∀ {j : Nat} {x : V} {H' : Hp}, (is.map V.int)[j]? = some x → Same H2 H' → ∃ (a : Int) (t : Addr), x = .int a ∧ is[j]? = some a ∧ atI (ts.map V.ref) a = some (.ref t) ∧ SqT K H' t [.str (lt lits a), .str (rt lits a), .int (nb lits a)] := by
        intro j x H' hx S'
        rw [List.getElem?_map] at hx
        obtain ⟨a, ha, rfl⟩ := Option.map_eq_some_iff.mp hx
        obtain ⟨t, q, hat, hq, hs⟩ := (hL2.mono S').at (hin a (List.mem_of_getElem? ha)).1 (hin a (List.mem_of_getElem? ha)).2
        obtain ⟨e1, e2, e3⟩ := at_lt hq
        exact ⟨a, t, rfl, ha, hat, by rw [e1, e2, e3]; exact hs⟩
      have szs : ∀ {n : Nat}, n ≤ 1000 → n < sizeLine := fun h => Nat.lt_of_le_of_lt h (by decide)
      -- ends = [..]
      refine ⟨_, rfl, c, rfl, ⟨_, hc2⟩, fun D1 n1 => lc_tup (xs := is.map V.int) (fun j H' => Same H2 H' ∧ H' D1 = some (.lst (((is.take j).map (rt lits)).map V.str))) ⟨Same.new n1, upd_same⟩ (fun j H' _ h => Same.seqT h.1 hc2) ?_ ?_⟩
      · rintro j x H3 hx ⟨S3, h3⟩
        obtain ⟨a, t, rfl, ha, hat, hs⟩ := turn hx S3
        refine ⟨rfl, _, rfl, _, rfl, p, _, _, _, rfl, rfl, S3.seq hp2, hat, t, _, _, _, rfl, rfl, hs, rfl, _, h3, szs (by simp; omega), Same.mut S3 n1, ?_⟩
        rw [upd_same, take_snoc ha, List.map_append, List.map_append]
        rfl
      rintro H3 ⟨S3, h3⟩
      -- begins = [..]
      have hc3 := Same.seqT S3 hc2
      refine ⟨_, rfl, c, rfl, ⟨_, hc3⟩, fun D2 n2 => lc_tup (xs := is.map V.int) (fun j H' => Same H3 H' ∧ H' D2 = some (.lst (((is.take j).map (lt lits)).map V.str))) ⟨Same.new n2, upd_same⟩ (fun j H' _ h => Same.seqT h.1 hc3) ?_ ?_⟩
      · rintro j x H4 hx ⟨S4, h4⟩
        obtain ⟨a, t, rfl, ha, hat, hs⟩ := turn hx (S3.trans S4)
        refine ⟨rfl, _, rfl, _, rfl, p, _, _, _, rfl, rfl, (S3.trans S4).seq hp2, hat, t, _, _, _, rfl, rfl, hs, rfl, _, h4, szs (by simp; omega), Same.mut S4 n2, ?_⟩
        rw [upd_same, take_snoc ha, List.map_append, List.map_append]
        rfl
      rintro H4 ⟨S4, h4⟩
      have hlen : (is.map V.int).length = is.length := List.length_map ..
      rw [hlen, List.take_length] at h3 h4
      have h34 := S4 _ _ h3
      -- return ends == begins[1:] + begins[:1] and sum(..) < 0
      have hpos : 1 ≤ ((is.map (lt lits)).map V.str).length := by
        have := List.length_pos_iff.mpr hisne
        simp
        omega
      have ec1 : cutV (((is.map (lt lits)).map V.str)) (some 1) none = ((is.map (lt lits)).drop 1).map V.str := by
        rw [List.map_drop]
        exact cut_from (k := 1) hpos
      have ec2 : cutV (((is.map (lt lits)).map V.str)) none (some 1) = ((is.map (lt lits)).take 1).map V.str := by
        rw [List.map_take]
        exact cut_to (k := 1) hpos
      refine ⟨_, rfl, _, rfl, _, rfl, D2, _, rfl, SqL.of h4, fun e1 m1 => ?_⟩
      rw [ec1]
      have T1 := Same.new (o := HO.lst (((is.map (lt lits)).drop 1).map V.str)) m1
      refine ⟨_, rfl, _, rfl, D2, _, rfl, SqL.of (T1 _ _ h4), fun e2 m2 => ?_⟩
      rw [ec2]
      have T2 := Same.new (o := HO.lst (((is.map (lt lits)).take 1).map V.str)) m2
      refine ⟨e1, e2, _, _, rfl, rfl, T2 _ _ upd_same, upd_same, sz ?_, fun e3 m3 => ?_⟩
      · simp
        omega
      rw [← List.map_append]
      have T3 := Same.new (o := HO.lst (((is.map (lt lits)).drop 1 ++ (is.map (lt lits)).take 1).map V.str)) m3
      refine ⟨.list ((is.map (rt lits)).map PyData.str), .list (((is.map (lt lits)).drop 1 ++ (is.map (lt lits)).take 1).map PyData.str), .lst (SqL.of (((T1.trans T2).trans T3) _ _ h34)) (dp_strs _), .lst (SqL.of upd_same) (dp_strs _), shaped_strs ?_, shaped_strs ?_, _, rfl, ?_⟩
      · intro x hx
        obtain ⟨a, _, rfl⟩ := List.mem_map.mp hx
        exact (strOk_at hok a).2
      · intro x hx
        rcases List.mem_append.mp hx with h | h
        · obtain ⟨a, _, rfl⟩ := List.mem_map.mp (List.mem_of_mem_drop h)
          exact (strOk_at hok a).1
        · obtain ⟨a, _, rfl⟩ := List.mem_map.mp (List.mem_of_mem_take h)
          exact (strOk_at hok a).1
      have SE := ((S.trans S3).trans S4).trans ((T1.trans T2).trans T3)
      refine ite2 (fun hq => ?_) (fun hq => ?_)
      rotate_left
      · refine k false _ SE ⟨fun h => (by cases h), fun h => ?_⟩
        exact (hq (eqv_strs.mpr (Ring.iff.mp h).2.2.2.1)).elim
      have hrot := eqv_strs.mp hq
      have hcE := Same.seqT (((S3.trans S4).trans ((T1.trans T2).trans T3))) hc2
      refine ⟨_, rfl, c, rfl, ⟨_, hcE⟩, fun D5 n5 => lc_tup (xs := is.map V.int) (fun j H' => Same _ H' ∧ H' D5 = some (.lst (((is.take j).map (nb lits)).map V.int))) ⟨Same.new n5, upd_same⟩ (fun j H' _ h => Same.seqT h.1 hcE) ?_ ?_⟩
      · rintro j x H5 hx ⟨S5, h5⟩
        obtain ⟨a, t, rfl, ha, hat, hs⟩ := turn hx (((S3.trans S4).trans ((T1.trans T2).trans T3)).trans S5)
        refine ⟨rfl, _, rfl, _, rfl, p, _, _, _, rfl, rfl, (((S3.trans S4).trans ((T1.trans T2).trans T3)).trans S5).seq hp2, hat, t, _, _, _, rfl, rfl, hs, rfl, _, h5, szs (by simp; omega), Same.mut S5 n5, ?_⟩
        rw [upd_same, take_snoc ha, List.map_append, List.map_append]
        rfl
      rintro H5 ⟨S5, h5⟩
      rw [hlen, List.take_length] at h5
      refine ⟨D5, _, rfl, SqL.of h5, _, _, rfl, rfl, ?_⟩
      refine k _ _ (SE.trans S5) ?_
      rw [decide_eq_true_eq, Ring.iff]
      exact ⟨fun h => ⟨hisne, hin, hnd, hrot, h⟩, fun h => h.2.2.2.2⟩
end
end K4

namespace K4
open PySem L2 Bx
section
variable {P : Program} {w : World} {K : PySem.W.Frag} {mg : Str → Option Value} {base : Heap}
def IsIx (m : Nat) (ix : List V) : Prop := ∃ is : List Int, ix = is.map V.int ∧ is ≠ [] ∧ InR m is ∧ is.Nodup
def spAreIx (K : PySem.W.Frag) : Sp := fun vs H Q _ => ∃ (v : V) (m : Nat), vs = [v, .int (m : Nat)] ∧
  ((∃ c ix, v = .ref c ∧ SqT K H c ix ∧ ix.length ≤ 20 ∧ (∀ x ∈ ix, ElV K H x) ∧ ∀ (b : Bool) (H' : Hp), Same H H' → (b = true ↔ IsIx m ix) → Q (.bl b) H') ∨
   (∃ t, TyX K H v t ∧ PySem.W.kitOne K t (.type "tuple") = some false ∧ ∀ H', Same H H' → Q (.bl false) H'))
theorem ok_are_indices {f : Addr} {fd : FuncData} (F : C8.Def K mg "are_indices" s_are_indices f fd) (b : Binds K fd ["indices", "many"] []) (T : Txt mg) (K_is_number : C8.Cal P w K mg base 1 "is_number" (spNum K) []) :
    C8.Cal P w K mg base 2 "are_indices" (spAreIx K) [] := by
  refine C8.cal0 F b .nil sc_are_indices (fun vs H Q E h => ?_) (fun cdv A outer s H vs Q E hr h => ?_)
  · obtain ⟨v, m, rfl, _⟩ := h
    rfl
  · obtain ⟨v, m, rfl, h⟩ := h
    refine ⟨_, (pss_cons (ps_if (PW.pt (pw_or (pt_not (pt_val (pe_callB call_isi (by rfl) T.z_isinstance (by decide +kernel) (pa_cons (pv 0) (pa_cons (pe_bltn (v := .ty "tuple") (by rfl) T.z_tuple (by decide +kernel) rfl) pa_nil))))) (pw_or1 (pt_not (pt_truth (pv 0) (by intro _; rfl)))))) (pss_one (ps_ret pe_bl)) pss_nil)
    (pss_cons (ps_for PassesOwn.never rfl (pi_tup (pv 0)) (pg_name (i := 2) sc_are_indices.nd rfl (Or.inl rfl))
    (pss_one (ps_if (PW.pt (pw_or (pt_not (pt_val (C8.pe_c K_is_number hr (by decide) (by rfl) (pa_cons (pv 2) pa_nil)))) (pw_or1 (pt_not (pt_chain op_le op_lt pe_int (pv 2) (pv 1)))))) (pss_one (ps_ret pe_bl)) pss_nil)))
    (pss_one (ps_ret (pe_cmpR op_eq (pe_lenSetT T.z_len T.z_set (pv 0)) (pe_callB call_len_seq (by rfl) T.z_len (by decide +kernel) (pa_cons (pv 0) pa_nil)) (nomark _)))))), ?_⟩
    rcases h with ⟨c, ix, rfl, hc, h20, hel, k⟩ | ⟨t, ty, kt, k⟩
    rotate_left
    · refine ⟨_, rfl, _, _, t, _, false, rfl, .ty _, ty, kt, _, rfl, ?_⟩
      exact iteT (iteT (k H (Same.refl H)))
    refine ⟨_, rfl, _, _, _, _, true, rfl, .ty _, tyT hc, rfl, _, rfl, ?_⟩
    refine iteF ?_
    refine ⟨_, rfl, !ix.isEmpty, .inr (.inl ⟨_, hc, rfl⟩), ?_⟩
    cases hem : ix.isEmpty with
    | true =>
      refine iteT ?_
      refine k false H (Same.refl H) ⟨fun h => (by cases h), fun ⟨is, e, hne, _⟩ => ?_⟩
      rw [List.isEmpty_iff.mp hem] at e
      exact absurd (List.map_eq_nil_iff.mp e.symm) hne
    | false =>
    refine iteF ?_
    have hne : ix ≠ [] := fun e => by
      rw [e] at hem
      cases hem
    -- for index in indices
    refine ⟨_, rfl, c, rfl, ⟨_, hc⟩, for_tup (xs := ix) (fun i σ H' => ∃ (v2 : Option V), σ = [some (.ref c), some (.int (m : Nat)), v2] ∧ Same H H' ∧ ∃ is : List Int, ix.take i = is.map V.int ∧ InR m is)
      ⟨none, rfl, Same.refl H, [], rfl, fun _ h => (by cases h)⟩ (fun i σ H' _ h => ?_) ?_ ?_⟩
    · obtain ⟨v2, rfl, S, _⟩ := h
      exact Same.seqT S hc
    · rintro i x σ H2 hx ⟨v2, rfl, S, is, hti, hin⟩
      have hmem : x ∈ ix := List.mem_of_getElem? hx
      rcases ((hel _ hmem).same S).kind with ⟨z, hz⟩ | ⟨hn, t, a, c', ty, ka, kc, hac⟩
      · subst hz
        refine ⟨_, rfl, _, _, true, false, rfl, .base (.int z), rfl, rfl, _, rfl, ?_⟩
        refine iteF ?_
        refine ⟨_, rfl, _, _, rfl, rfl, _, rfl, ?_⟩
        refine ite2 (fun hz0 => ?_) (fun hz0 => ?_)
        rotate_left
        · refine ⟨_, rfl, iteT ?_⟩
          refine k false H2 S ⟨fun h => (by cases h), fun ⟨js, e, _, hj, _⟩ => ?_⟩
          rw [e] at hmem
          obtain ⟨y, hy, ey⟩ := List.mem_map.mp hmem
          injection ey with ey
          have := (hj y hy).1
          rw [ey] at this
          exact absurd (decide_eq_true this) hz0
        have z0 : 0 ≤ z := of_decide_eq_true hz0
        refine ⟨_, rfl, _, _, rfl, rfl, _, rfl, ?_⟩
        by_cases hz1 : z < (m : Int)
        rotate_left
        · have e1 : decide (z < (m : Int)) = false := decide_eq_false hz1
          rw [e1]
          refine iteT ?_
          refine k false H2 S ⟨fun h => (by cases h), fun ⟨js, e, _, hj, _⟩ => ?_⟩
          rw [e] at hmem
          obtain ⟨y, hy, ey⟩ := List.mem_map.mp hmem
          injection ey with ey
          have := (hj y hy).2
          rw [ey] at this
          exact absurd this hz1
        have e1 : decide (z < (m : Int)) = true := decide_eq_true hz1
        rw [e1]
        refine iteF ?_
        refine ⟨_, rfl, S, is ++ [z], ?_, fun y hy => ?_⟩
        · rw [take_snoc hx, hti, List.map_append]
          rfl
        · rcases List.mem_append.mp hy with h | h
          · exact hin y h
          · have e : y = z := by simpa using h
            rw [e]
            exact ⟨z0, hz1⟩
      · refine ⟨_, rfl, _, t, a, c', rfl, ty, ka, kc, _, rfl, ?_⟩
        rw [hac]
        refine iteT (iteT ?_)
        refine k false H2 S ⟨fun h => (by cases h), fun ⟨js, e, _⟩ => ?_⟩
        have q := hx
        rw [e, List.getElem?_map] at q
        obtain ⟨y', _, ey⟩ := Option.map_eq_some_iff.mp q
        exact (hn y' ey.symm).elim
    · rintro σ H2 ⟨v2, rfl, S, is, hti, hin⟩
      have hix : ix = is.map V.int := by
        rw [← hti, List.take_length]
      subst hix
      have hisne : is ≠ [] := fun e => hne (by rw [e]; rfl)
      have hlen : (is.map V.int).length = is.length := List.length_map ..
      have his20 : is.length ≤ 20 := by rw [hlen] at h20; exact h20
      have hc2 := Same.seqT S hc
      refine ⟨_, rfl, c, is, rfl, hc2, by omega, fun out nd hm => ⟨_, rfl, c, _, rfl, .inr hc2, rfl, ?_⟩⟩
      refine k _ H2 S ?_
      rw [decide_eq_true_eq]
      have hns := nodup_set nd hm
      have hle := set_le nd hm
      constructor
      · intro h
        injection h with h
        rw [hlen] at h
        exact ⟨is, rfl, hisne, hin, Classical.not_not.mp fun hq => by have := hns.mpr hq; omega⟩
      · rintro ⟨js, e, _, _, hnd⟩
        rw [← int_map_inj e] at hnd
        have : ¬ out.length < is.length := fun h => hns.mp h hnd
        rw [hlen, show out.length = is.length by omega]
/-- each literal ends where the next one begins, with a sum below 0 -/
def Round (ls : List (Str × Str × Int)) : Prop := (∀ j, j < ls.length → (ls.getD j ("", "", 0)).1 = (ls.getD (if j = 0 then ls.length - 1 else j - 1) ("", "", 0)).2.1) ∧ (ls.map fun q => q.2.2).sum < 0
def spRound (K : PySem.W.Frag) : Sp := fun vs H Q _ => ∃ (p : Addr) (us : List Addr) (ls : List (Str × Str × Int)), vs = [.ref p] ∧ SqL K H p (us.map V.ref) ∧ LitsAt K H us ls ∧ ls ≠ [] ∧
  ∀ (b : Bool) (H' : Hp), Same H H' → (b = true ↔ Round ls) → Q (.bl b) H'
theorem ok_goes_round {f : Addr} {fd : FuncData} (F : C8.Def K mg "goes_round" s_goes_round f fd) (b : Binds K fd ["literals"] []) (T : Txt mg) :
    C8.Cal P w K mg base 1 "goes_round" (spRound K) [] := by
  refine C8.cal0 F b .nil sc_goes_round (fun vs H Q E h => ?_) (fun cdv A outer s H vs Q E hr h => ?_)
  · obtain ⟨p, us, ls, rfl, _⟩ := h
    rfl
  · obtain ⟨p, us, ls, rfl, hp, hL, hne, k⟩ := h
    refine ⟨_, (pss_cons (ps_set (i := 1) sc_goes_round.nd rfl (Or.inl rfl) pe_int)
    (pss_cons (ps_set (i := 2) sc_goes_round.nd rfl (Or.inl rfl) (pe_ix ix_tup (pe_ix ix_list (pv 0) (pe_un un_neg pe_int) (fun _ _ => rfl)) pe_int (fun _ _ => rfl)))
    (pss_cons (ps_for PassesOwn.never rfl (pi_list (pv 0)) (pg_tup (by rfl) (pgs_cons (pg_name (i := 3) sc_goes_round.nd rfl (Or.inl rfl)) (pgs_cons (pg_name (i := 4) sc_goes_round.nd rfl (Or.inl rfl)) (pgs_cons (pg_name (i := 5) sc_goes_round.nd rfl (Or.inl rfl)) pgs_nil))))
    (pss_cons (ps_if (pt_cmpR op_ne (pv 3) (pv 2) (nomark _)) (pss_one (ps_ret pe_bl)) pss_nil)
    (pss_cons (ps_set (i := 2) sc_goes_round.nd rfl (Or.inl rfl) (pv 4))
    (pss_one (ps_set (i := 1) sc_goes_round.nd rfl (Or.inl rfl) (pe_op op_add (pv 1) (pv 5)))))))
    (pss_one (ps_ret (pe_cmpR op_lt (pv 1) pe_int (nomark _))))))), ?_⟩
    have hul := hL.1
    have hpos : 0 < ls.length := List.length_pos_iff.mpr hne
    obtain ⟨t, ht, hs⟩ := hL.2 (ls.length - 1) _ (List.getElem?_eq_getElem (by omega))
    have hat : atI (us.map V.ref) (-1) = some (.ref t) := at_lastR hul hpos ht
    refine ⟨_, rfl, _, rfl, p, _, _, _, rfl, rfl, hp, hat, t, _, _, _, rfl, rfl, hs, rfl, ?_⟩
    refine ⟨_, rfl, p, rfl, ⟨_, hp⟩, for_list (xs := us.map V.ref) (fun i σ H' => ∃ (v3 v4 v5 : Option V), σ = [some (.ref p), some (.int ((ls.take i).map fun q => q.2.2).sum), some (.str (ls.getD (if i = 0 then ls.length - 1 else i - 1) ("", "", 0)).2.1), v3, v4, v5] ∧ Same H H' ∧
        ∀ j, j < i → (ls.getD j ("", "", 0)).1 = (ls.getD (if j = 0 then ls.length - 1 else j - 1) ("", "", 0)).2.1)
      ⟨none, none, none, ?_, Same.refl H, fun j hj => absurd hj (Nat.not_lt_zero j)⟩ (fun i σ H' _ h => ?_) ?_ ?_⟩
    · show _ = [some (V.ref p), some (V.int 0), some (V.str (ls.getD (ls.length - 1) ("", "", 0)).2.1), _, _, _]
      rw [List.getD_eq_getElem?_getD, List.getElem?_eq_getElem (by omega)]
      rfl
    · obtain ⟨v3, v4, v5, rfl, S, _⟩ := h
      exact S.seq hp
    · rintro i x σ H2 hx ⟨v3, v4, v5, rfl, S, hch⟩
      rw [List.getElem?_map] at hx
      obtain ⟨t', ht', rfl⟩ := Option.map_eq_some_iff.mp hx
      have hil : i < ls.length := by
        rw [← hul]
        exact (List.getElem?_eq_some_iff.mp ht').1
      obtain ⟨t2, ht2, hs2⟩ := hL.2 i _ (List.getElem?_eq_getElem hil)
      have et : t2 = t' := Option.some.inj (ht2.symm.trans ht')
      subst et
      have egd : ls.getD i ("", "", 0) = ls[i] := by rw [List.getD_eq_getElem?_getD, List.getElem?_eq_getElem hil]; rfl
      refine ⟨t2, _, rfl, Same.seqT S hs2, rfl, _, _, rfl, _, _, rfl, _, _, rfl, rfl, ?_⟩
      refine ⟨_, rfl, _, rfl, rfl, _, rfl, ?_⟩
      by_cases hq : ls[i].1 = (ls.getD (if i = 0 then ls.length - 1 else i - 1) ("", "", 0)).2.1
      rotate_left
      · have e2 : (!decide (V.str ls[i].1 = V.str (ls.getD (if i = 0 then ls.length - 1 else i - 1) ("", "", 0)).2.1)) = true := by
          rw [decide_eq_false (fun h => hq (by injection h))]
          rfl
        rw [e2]
        refine iteT ?_
        refine k false H2 S ⟨fun h => (by cases h), fun h => ?_⟩
        have := h.1 i hil
        rw [egd] at this
        exact (hq this).elim
      have e2 : (!decide (V.str ls[i].1 = V.str (ls.getD (if i = 0 then ls.length - 1 else i - 1) ("", "", 0)).2.1)) = false := by
        rw [decide_eq_true (congrArg V.str hq)]
        rfl
      rw [e2]
      refine iteF ?_
      refine ⟨_, rfl, _, rfl, _, rfl, _, _, rfl, rfl, ?_⟩
      refine ⟨some (.str ls[i].1), some (.str ls[i].2.1), some (.int ls[i].2.2), ?_, S, fun j hj => ?_⟩
      · have e3 : ls.getD (if i + 1 = 0 then ls.length - 1 else i + 1 - 1) ("", "", 0) = ls[i] := by
          rw [if_neg (Nat.succ_ne_zero i), Nat.add_sub_cancel]
          exact egd
        have e4 : ((ls.take (i + 1)).map fun q => q.2.2).sum = ((ls.take i).map fun q => q.2.2).sum + ls[i].2.2 := by
          rw [take_snoc (List.getElem?_eq_getElem hil), List.map_append, List.sum_append]
          simp
        rw [e3, e4]
        rfl
      · rcases Nat.lt_succ_iff_lt_or_eq.mp hj with h | h
        · exact hch j h
        · rw [h, egd]
          exact hq
    · rintro σ H2 ⟨v3, v4, v5, rfl, S, hch⟩
      rw [List.length_map, hul] at hch
      refine ⟨_, rfl, _, _, rfl, rfl, ?_⟩
      refine k _ _ S ?_
      rw [decide_eq_true_eq, List.length_map, hul, List.take_length]
      exact ⟨fun h => ⟨hch, h⟩, fun h => h.2⟩
theorem ok_is_ring {f : Addr} {fd : FuncData} (F : C8.Def K mg "is_ring" s_is_ring f fd) (b : Binds K fd ["literals", "indices"] []) (T : Txt mg) (K_are_indices : C8.Cal P w K mg base 2 "are_indices" (spAreIx K) []) (K_goes_round : C8.Cal P w K mg base 1 "goes_round" (spRound K) []) (K_check_literals : C8.Cal P w K mg base 3 "check_literals" (spChkG K) []) :
    C8.Cal P w K mg base 4 "is_ring" (spRing K) [] := by
  refine C8.cal0 F b .nil sc_is_ring (fun vs H Q E h => ?_) (fun cdv A outer s H vs Q E hr h => ?_)
  · obtain ⟨p, ts, lits, v, rfl, _⟩ := h
    rfl
  · obtain ⟨p, ts, lits, v, rfl, hp0, hL0, h300, hok, h⟩ := h
    refine ⟨_, (pss_cons (ps_expr (C8.pe_c K_check_literals hr (by decide) (by rfl) (pa_cons (pv 0) pa_nil)))
    (pss_one (ps_ret (pe_and (C8.pe_c K_are_indices hr (by decide) (by rfl) (pa_cons (pv 1) (pa_cons (pe_callB call_len_seq (by rfl) T.z_len (by decide +kernel) (pa_cons (pv 0) pa_nil)) pa_nil))) (pe_one (C8.pe_c K_goes_round hr (by decide) (by rfl) (pa_cons (pe_lc (own := [("index", 2)]) (g := gName 2) (tt := tYes) rfl sc_is_ring.nd (pi_tup (pv 1)) (blkOk_by (own := [("index", 2)]) (N := N_is_ring) (sc := C8.fnScope s_is_ring) (by decide +kernel)) (fun _ _ _ _ _ => (pg_name (i := 2) sc_is_ring.nd rfl (Or.inl rfl))) (fun _ _ _ _ _ => pts_nil) (fun _ _ _ _ _ => (pe_ix (ixLK K) (pv 0) (pv 2) (fun _ _ => rfl)))) pa_nil))))))), ?_⟩
    refine ⟨_, rfl, p, ts, lits, rfl, hp0, hL0, h300, fun H0 S0 => ?_⟩
    have hp := S0.seq hp0
    have hL := hL0.mono S0
    have hpl : (ts.map V.ref).length = lits.length := by rw [List.length_map, hL.1]
    rcases h with ⟨c, ix, rfl, hc0, h20, hel, k⟩ | ⟨t, ty, kt, k⟩
    rotate_left
    · refine ⟨_, rfl, _, rfl, p, _, rfl, .inl hp, _, _, rfl, .inr ⟨t, Same.ty S0 ty, kt, fun H1 S1 => ?_⟩⟩
      exact ⟨_, rfl, iteF (k H1 (S0.trans S1))⟩
    have hc := Same.seqT S0 hc0
    refine ⟨_, rfl, _, rfl, p, _, rfl, .inl hp, _, _, rfl, .inl ⟨c, ix, rfl, hc, h20, fun x hx => (hel x hx).same S0, fun b1 H1 S1 hb1 => ?_⟩⟩
    rw [hpl] at hb1
    cases b1 with
    | false =>
      refine ⟨_, rfl, iteF (k false H1 (S0.trans S1) ⟨fun h => (by cases h), fun ⟨is, e, h1, h2, h3, _⟩ => ?_⟩)⟩
      exact hb1.mpr ⟨is, e, h1, h2, h3⟩
    | true =>
      refine ⟨_, rfl, iteT ?_⟩
      obtain ⟨is, rfl, hisne, hin, hnd⟩ := hb1.mp rfl
      have hp1 := S1.seq hp
      have hc1 := Same.seqT S1 hc
      have hL1 := hL.mono S1
      have hlen : (is.map V.int).length = is.length := List.length_map ..
      have his20 : is.length ≤ 20 := by rw [hlen] at h20; exact h20
      have szs : ∀ {n : Nat}, n ≤ 1000 → n < sizeLine := fun h => Nat.lt_of_le_of_lt h (by decide)
      refine ⟨_, rfl, c, rfl, ⟨_, hc1⟩, fun D n1 => lc_tup (xs := is.map V.int) (fun j H' => Same H1 H' ∧ H' D = some (.lst (((is.take j).map fun a => ts.getD a.toNat 0).map V.ref))) ⟨Same.new n1, upd_same⟩ (fun j H' _ h => Same.seqT h.1 hc1) ?_ ?_⟩
      · rintro j x H3 hx ⟨S3, h3⟩
        rw [List.getElem?_map] at hx
        obtain ⟨a, ha, rfl⟩ := Option.map_eq_some_iff.mp hx
        obtain ⟨t, q, hat, hq, hs⟩ := (hL1.mono S3).at (hin a (List.mem_of_getElem? ha)).1 (hin a (List.mem_of_getElem? ha)).2
        refine ⟨rfl, _, rfl, _, rfl, p, _, _, _, rfl, rfl, S3.seq hp1, hat, _, h3, szs (by simp; omega), Same.mut S3 n1, ?_⟩
        have et : ts.getD a.toNat 0 = t := at_get (hin a (List.mem_of_getElem? ha)).1 hat
        rw [upd_same, take_snoc ha, List.map_append, List.map_append]
        show _ = some (HO.lst (_ ++ [V.ref (ts.getD a.toNat 0)]))
        rw [et]
      rintro H3 ⟨S3, h3⟩
      rw [hlen, List.take_length] at h3
      refine ⟨D, _, is.map fun a => (lt lits a, rt lits a, nb lits a), rfl, SqL.of h3, ⟨by simp, fun j q hj => ?_⟩, fun e => hisne (List.map_eq_nil_iff.mp e), fun b2 H4 S4 hb2 => k b2 H4 (((S0.trans S1).trans S3).trans S4) ?_⟩
      · rw [List.getElem?_map] at hj
        obtain ⟨a, ha, rfl⟩ := Option.map_eq_some_iff.mp hj
        obtain ⟨t, q, hat, hq, hs⟩ := (hL1.mono S3).at (hin a (List.mem_of_getElem? ha)).1 (hin a (List.mem_of_getElem? ha)).2
        obtain ⟨e1, e2, e3⟩ := at_lt hq
        refine ⟨t, ?_, ?_⟩
        · rw [List.getElem?_map, ha]
          exact congrArg some (at_get (hin a (List.mem_of_getElem? ha)).1 hat)
        · show SqT K H3 t [.str (lt lits a), .str (rt lits a), .int (nb lits a)]
          rw [e1, e2, e3]
          exact hs
      · rw [hb2, Ring.iff, rot_iff (rt lits) (lt lits) hisne]
        have eg : ∀ j, j < is.length → (is.map fun a => (lt lits a, rt lits a, nb lits a)).getD j ("", "", 0) = (lt lits (is.getD j 0), rt lits (is.getD j 0), nb lits (is.getD j 0)) := fun j hj => by
          rw [List.getD_eq_getElem?_getD, List.getD_eq_getElem?_getD, List.getElem?_map, List.getElem?_eq_getElem hj]
          rfl
        have es : ((is.map fun a => (lt lits a, rt lits a, nb lits a)).map fun q => q.2.2) = is.map (nb lits) := by
          rw [List.map_map]
          rfl
        have hpos := List.length_pos_iff.mpr hisne
        unfold Round
        rw [es, List.length_map]
        constructor
        · rintro ⟨h1, h2⟩
          refine ⟨hisne, hin, hnd, fun j hj => ?_, h2⟩
          have := h1 j hj
          rw [eg j hj, eg _ (by split <;> omega)] at this
          exact this
        · rintro ⟨_, _, _, h1, h2⟩
          refine ⟨fun j hj => ?_, h2⟩
          rw [eg j hj, eg _ (by split <;> omega)]
          exact h1 j hj
end
end K4

namespace K4
open PySem L2 Bx
section
variable {P : Program} {w : World} {K : PySem.W.Frag} {mg : Str → Option Value} {base : Heap}
theorem IxV.cases' {l : Addr} {H : Hp} {v : V} (h : IxV K l H v) : (∃ c ix, v = .ref c ∧ SqT K H c ix ∧ ix.length ≤ 20 ∧ ∀ x ∈ ix, ElV K H x) ∨ ∃ t, TyX K H v t ∧ PySem.W.kitOne K t (.type "tuple") = some false := by
  rcases h with h | rfl | ⟨i, rfl⟩ | ⟨s, rfl⟩ | ⟨p, xs, rfl, n, h⟩ | ⟨p, xs, rfl, n, h⟩
  · exact .inl h
  · exact .inr ⟨_, .base .non, rfl⟩
  · exact .inr ⟨_, .base (.int i), rfl⟩
  · exact .inr ⟨_, .base (.str s), rfl⟩
  · exact .inr ⟨_, .base (.lst h), rfl⟩
  · exact .inr ⟨_, .base (.dK h), rfl⟩
theorem LitsAt.snoc {H : Hp} {ts : List Addr} {lits : List (Str × Str × Int)} {u : Addr} {q : Str × Str × Int} (h : LitsAt K H ts lits) (hu : SqT K H u [.str q.1, .str q.2.1, .int q.2.2]) : LitsAt K H (ts ++ [u]) (lits ++ [q]) := by
  refine ⟨by simp [h.1], fun j q' hj => ?_⟩
  by_cases hl : j < lits.length
  · rw [List.getElem?_append_left hl] at hj
    rw [List.getElem?_append_left (by rw [h.1]; exact hl)]
    exact h.2 j q' hj
  · have hjl : j < (lits ++ [q]).length := (List.getElem?_eq_some_iff.mp hj).1
    have e : j = lits.length := by
      rw [List.length_append] at hjl
      simp at hjl
      omega
    subst e
    rw [List.getElem?_append_right (Nat.le_refl _)] at hj
    have e2 : q = q' := by simpa using hj
    subst e2
    exact ⟨u, by rw [List.getElem?_append_right (by rw [h.1]; exact Nat.le_refl _), h.1]; simp, hu⟩
def spLaw (K : PySem.W.Frag) : Sp := fun vs H Q _ => ∃ (a : Addr) (ns : List Int), vs = [.ref a] ∧ SqL K H a (ns.map V.int) ∧ ns.length ≤ 63 ∧ ∀ H', Q (.bl true) H'
theorem ok_law {f : Addr} {fd : FuncData} (F : C8.Fun K "law" "law" s_law f fd) (T : Txt mg)
    (K_is_ring : C8.Cal P w K mg base 4 "is_ring" (spRing K) []) (K_l_due : C8.Cal P w K mg base 4 "_law_due" (spRing K) []) (K_l_well : C8.Cal P w K mg base 1 "_law_well" spWell []) (K_l_draw : C8.Cal P w K mg base 1 "_law_draw" spDraw []) (K_l_one : C8.Cal P w K mg base 2 "_law_one" (spOne K) [])
    (K_l_chained : C8.Cal P w K mg base 3 "_law_chained" (spChained K) []) (K_l_spoiled : C8.Cal P w K mg base 3 "_law_spoiled" (spSpoiled K) []) : FnOk P w K mg base C8.CX0 5 f fd ["_law_script"] (spLaw K) := by
  refine C8.fn0 F sc_law (fun vs H Q E h => ?_) (fun cdv A outer s H vs Q E hr h => ?_)
  · obtain ⟨a, ns, rfl, _⟩ := h
    rfl
  · obtain ⟨a, ns, rfl, hS, hlen, k⟩ := h
    refine ⟨_, (pss_cons (ps_for PassesOwn.never rfl (pi_list (pe_slice sl_list (pe_op op_catS (pv 0) (pe_lst (pa_cons pe_int pa_nil))) po_none (po_some pe_int))) (pg_name (i := 1) sc_law.nd rfl (Or.inl rfl))
    (pss_cons (ps_set (i := 2) sc_law.nd rfl (Or.inl rfl) (C8.pe_c K_l_well hr (by decide) (by rfl) (pa_cons (pv 1) pa_nil)))
    (pss_cons (ps_set (i := 3) sc_law.nd rfl (Or.inl rfl) (pe_lst (pa_cons pe_str (pa_cons pe_str (pa_cons pe_str (pa_cons pe_str pa_nil))))))
    (pss_cons (ps_set (i := 4) sc_law.nd rfl (Or.inl rfl) (pe_lst pa_nil))
    (pss_cons (ps_for PassesOwn.never rfl (pi_range1 (by rfl) T.z_range (pa_cons (pe_op op_add pe_int (C8.pe_c K_l_draw hr (by decide) (by rfl) (pa_cons (pv 2) (pa_cons pe_int pa_nil)))) pa_nil)) (pg_name (i := 5) sc_law.nd rfl (Or.inl rfl))
    (pss_one (ps_expr (pe_bm PySem.F.plainAttrs_list PySem.F.slot_list_append PySem.F.type_list_append mt_append (pv 4) (pa_cons (pe_tup (pa_cons (C8.pe_c K_l_one hr (by decide) (by rfl) (pa_cons (pv 2) (pa_cons (pv 3) pa_nil))) (pa_cons (C8.pe_c K_l_one hr (by decide) (by rfl) (pa_cons (pv 2) (pa_cons (pv 3) pa_nil))) (pa_cons (pe_op op_sub (C8.pe_c K_l_draw hr (by decide) (by rfl) (pa_cons (pv 2) (pa_cons pe_int pa_nil))) pe_int) pa_nil)))) pa_nil)))))
    (pss_cons (ps_set (i := 6) sc_law.nd rfl (Or.inl rfl) (C8.pe_c K_l_spoiled hr (by decide) (by rfl) (pa_cons (pv 2) (pa_cons (C8.pe_c K_l_chained hr (by decide) (by rfl) (pa_cons (pv 2) (pa_cons (pv 4) pa_nil))) (pa_cons (pe_callB call_len_seq (by rfl) T.z_len (by decide +kernel) (pa_cons (pv 4) pa_nil)) pa_nil)))))
    (pss_one (ps_if (pt_cmpR op_ne (C8.pe_c K_is_ring hr (by decide) (by rfl) (pa_cons (pe_callTy call_list_of (by rfl) T.z_list (by decide +kernel) (pa_cons (pv 4) pa_nil)) (pa_cons (pv 6) pa_nil))) (C8.pe_c K_l_due hr (by decide) (by rfl) (pa_cons (pv 4) (pa_cons (pv 6) pa_nil))) (nomark _)) (pss_one (ps_ret pe_bl)) pss_nil))))))))
    (pss_one (ps_ret pe_bl))), ?_⟩
    refine ⟨_, rfl, sz (by simp), fun z nz => ⟨a, z, _, _, rfl, rfl, (Same.new nz).seq hS, SqL.of upd_same, sz (by simp; omega), fun y ny => ⟨_, rfl, y, _, rfl, SqL.of upd_same, fun t nt => ⟨t, rfl, ⟨_, SqL.of upd_same⟩, ?_⟩⟩⟩⟩
    generalize hcs : cutV (ns.map V.int ++ [.int 0]) none (some 40) = cs
    have hint : ∀ x ∈ cs, ∃ c, x = V.int c := fun x hx => by
      rw [← hcs] at hx
      rcases List.mem_append.mp (cut_mem hx) with h | h
      · obtain ⟨c, _, rfl⟩ := List.mem_map.mp h
        exact ⟨c, rfl⟩
      · exact ⟨0, by simpa using h⟩
    refine for_list (xs := cs) (fun i σ H' => ∃ (v1 v2 v3 v4 v5 v6 : Option V), σ = [some (.ref a), v1, v2, v3, v4, v5, v6] ∧ H' t = some (.lst cs)) ⟨none, none, none, none, none, none, rfl, upd_same⟩ (fun i σ H' _ h => ?_) ?_ ?_
    · obtain ⟨_, _, _, _, _, _, _, h⟩ := h
      exact SqL.of h
    · rintro i x σ H0 hx ⟨v1, v2, v3, v4, v5, v6, rfl, ht⟩
      obtain ⟨cc, rfl⟩ := hint x (List.mem_of_getElem? hx)
      -- well, terms, literals
      refine ⟨_, rfl, cc, rfl, fun l H1 nl S1 W1 => ?_⟩
      refine ⟨sz (by simp), fun tm ntm => ?_⟩
      have S2 := Same.new (o := HO.lst [.str "", .str "p", .str "q", .str "rr"]) ntm
      have W2 := W1.same S2
      have ntml : tm ≠ l := W1.ne ntm
      have htm : (upd H1 tm (.lst [.str "", .str "p", .str "q", .str "rr"])) tm = some (.lst [.str "", .str "p", .str "q", .str "rr"]) := upd_same
      have B02 : But l H0 (upd H1 tm (.lst [.str "", .str "p", .str "q", .str "rr"])) := But.of (S1.trans S2)
      generalize upd H1 tm (.lst [.str "", .str "p", .str "q", .str "rr"]) = H2 at *
      refine ⟨Nat.zero_le _, fun p np => ?_⟩
      have S3 := Same.new (o := HO.lst []) np
      have npl : p ≠ l := W2.ne np
      refine ⟨_, rfl, l, 8, rfl, W2.same S3, by decide, by decide, fun r H3 r0 r1 W3 B3 => ⟨_, _, rfl, rfl, _, rfl, by omega, by omega, ?_⟩⟩
      refine for_range (lo := 0) (n := (1 + r).toNat) (fun j σ H' => ∃ (v5 v6 : Option V) (ts : List Addr) (lits : List (Str × Str × Int)), σ = [some (.ref a), some (.int cc), some (.ref l), some (.ref tm), some (.ref p), v5, v6] ∧ H' p = some (.lst (ts.map V.ref)) ∧ LitsAt K H' ts lits ∧ lits.length = j ∧ LitOk lits ∧ WellAt H' l ∧ But l H2 H')
        ⟨v5, v6, [], [], rfl, B3 _ _ upd_same npl, ⟨rfl, fun j q h => (by cases h)⟩, rfl, fun q h => (by cases h), W3, (But.of S3).trans B3⟩ ?_ ?_
      · rintro j σ H4 hj ⟨v5, v6, ts, lits, rfl, hp, hL, hlj, hok, W4, B4⟩
        have htm4 := B4 _ _ htm ntml
        refine ⟨_, rfl, .inl ⟨rfl, _, .inl (.inl hp)⟩, _, rfl, _, rfl, l, tm, _, rfl, W4, ntml, SqL.of htm4, by simp, by simp, fun u1 Ha h1 Wa Ba => ?_⟩
        refine ⟨_, rfl, _, rfl, l, tm, _, rfl, Wa, ntml, SqL.of (Ba _ _ htm4 ntml), by simp, by simp, fun u2 Hb h2 Wb Bb => ?_⟩
        refine ⟨_, rfl, l, 4, rfl, Wb, by decide, by decide, fun r4 Hc r40 r41 Wc Bc => ⟨_, _, rfl, rfl, sz (by simp), fun u nu => ?_⟩⟩
        have ok4 : ∀ x ∈ ([.str "", .str "p", .str "q", .str "rr"] : List V), ∃ s : Str, x = .str s ∧ PyData.strOk s = true := fun x hx => by
          simp only [List.mem_cons, List.not_mem_nil, or_false] at hx
          rcases hx with rfl | rfl | rfl | rfl <;> exact ⟨_, rfl, by decide +kernel⟩
        obtain ⟨s1, rfl, o1⟩ := ok4 u1 h1
        obtain ⟨s2, rfl, o2⟩ := ok4 u2 h2
        have Bac := (Ba.trans Bb).trans Bc
        have hpc := Bac _ _ hp npl
        have Su := Same.new (o := HO.tup [.str s1, .str s2, .int (r4 - 2)]) nu
        obtain ⟨wx, wy, wz, hw4⟩ := id W4
        have hLu : LitsAt K (upd Hc u (.tup [.str s1, .str s2, .int (r4 - 2)])) (ts ++ [u]) (lits ++ [(s1, s2, r4 - 2)]) := ((hL.but hw4 Bac).mono Su).snoc (SqT.of upd_same)
        have hpu := Su _ _ hpc
        refine ⟨p, _, _, rfl, rfl, hpu, ?_, _, _, ts ++ [u], lits ++ [(s1, s2, r4 - 2)], rfl, ?_, hLu.but hpu But.upd, ?_, ?_, ?_, ?_⟩
        · rw [List.length_map, hL.1]
          exact Nat.lt_of_le_of_lt (show lits.length ≤ 1000 by omega) (by decide)
        · rw [upd_same, List.map_append]
          rfl
        · rw [List.length_append]
          simp
          exact hlj
        · intro q hq
          rcases List.mem_append.mp hq with h | h
          · exact hok q h
          · have e : q = (s1, s2, r4 - 2) := by simpa using h
            rw [e]
            exact ⟨o1, o2⟩
        · obtain ⟨x, y, z, hw⟩ := Wc.same Su
          exact ⟨x, y, z, by rw [upd_ne npl.symm]; exact hw⟩
        · exact ((B4.trans Bac).trans (But.of Su)).mut np
      · rintro σ H4 ⟨v5, v6, ts, lits, rfl, hp, hL, hlj, hok, W4, B4⟩
        have hl300 : lits.length ≤ 300 := by omega
        refine ⟨_, rfl, _, rfl, _, rfl, l, p, ts, lits, rfl, W4, npl, SqL.of hp, hL, by omega, hl300, fun q is H5 hq hne h7 hin W5 B5 => ?_⟩
        have hp5 := B5 _ _ hp npl
        refine ⟨_, rfl, p, _, rfl, .inl (SqL.of hp5), l, q, is, _, rfl, W5, hq, hne, h7, by omega, by rw [List.length_map, hL.1]; omega, fun v H6 hv W6 B6 => ?_⟩
        obtain ⟨wx, wy, wz, hw4⟩ := id W4
        have B46 := B5.trans B6
        have hp6 := B46 _ _ hp npl
        have hL6 := hL.but hw4 B46
        have fin : ∀ {H9 : Hp}, Same H6 H9 → H9 t = some (.lst cs) := fun {H9} S => S _ _ ((((B02.trans B4).trans B46)) _ _ ht fun e => by
          rw [e, nl] at ht
          cases ht)
        refine ⟨_, rfl, p, _, rfl, .inl (SqL.of hp6), fun y2 ny2 => ?_⟩
        have S7 := Same.new (o := HO.lst (ts.map V.ref)) ny2
        refine ⟨_, rfl, y2, ts, lits, _, rfl, SqL.of upd_same, hL6.mono S7, hl300, hok, ?_⟩
        rcases hv.cases' with ⟨c, ix, rfl, hc, h20, hel⟩ | ⟨ty, h1, h2⟩
        · refine .inl ⟨c, ix, rfl, Same.seqT S7 hc, h20, fun x hx => (hel x hx).same S7, fun b1 H8 S8 hb1 => ?_⟩
          have S78 := S7.trans S8
          refine ⟨_, rfl, _, rfl, p, ts, lits, _, rfl, SqL.of (S78 _ _ hp6), hL6.mono S78, hl300, hok, .inl ⟨c, ix, rfl, Same.seqT S78 hc, h20, fun x hx => (hel x hx).same S78, fun b2 H9 S9 hb2 => ?_⟩⟩
          have eb : b1 = b2 := Bool.eq_iff_iff.mpr (hb1.trans hb2.symm)
          subst eb
          refine ⟨rfl, _, rfl, iteNS rfl ?_⟩
          exact ⟨_, _, _, _, _, _, rfl, fin (S78.trans S9)⟩
        · refine .inr ⟨ty, Same.ty S7 h1, h2, fun H8 S8 => ?_⟩
          have S78 := S7.trans S8
          refine ⟨_, rfl, _, rfl, p, ts, lits, _, rfl, SqL.of (S78 _ _ hp6), hL6.mono S78, hl300, hok, .inr ⟨ty, Same.ty S78 h1, h2, fun H9 S9 => ?_⟩⟩
          refine ⟨rfl, _, rfl, iteNS rfl ?_⟩
          exact ⟨_, _, _, _, _, _, rfl, fin (S78.trans S9)⟩
    · rintro σ H0 _
      exact k H0
end
end K4

namespace K4
open PySem L2 Bx
theorem all_mk {l : PySem.W.OpenLaw} {w : World} {K : PySem.W.Frag} {h : Heap} {mg : Str → Option Value} {fa f0 f1 f2 f3 f4 f5 f6 f7 f8 f9 f10 f11 f12 f13  : Addr} (X : K.In h) (G : h.Ns mainGlobals mg) (hfa : mg "law" = some (.ref fa))
    {od0 an0 od1 an1 od2 an2 od3 an3 od4 an4 od5 an5 od6 an6 od7 an7 od8 an8 od9 an9 od10 an10 od11 an11 od12 an12 od13 an13 : Option Addr} {sl0 sl1 sl2 sl3 sl4 sl5 sl6 sl7 sl8 sl9 sl10 sl11 sl12 sl13 : Array (Option Value)} {oc0 kV0 dc0 pm0 cd0 ct0 oc1 kV1 dc1 pm1 cd1 ct1 oc2 kV2 dc2 pm2 cd2 ct2 oc3 kV3 dc3 pm3 cd3 ct3 oc4 kV4 dc4 pm4 cd4 ct4 oc5 kV5 dc5 pm5 cd5 ct5 oc6 kV6 dc6 pm6 cd6 ct6 oc7 kV7 dc7 pm7 cd7 ct7 oc8 kV8 dc8 pm8 cd8 ct8 oc9 kV9 dc9 pm9 cd9 ct9 oc10 kV10 dc10 pm10 cd10 ct10 oc11 kV11 dc11 pm11 cd11 ct11 oc12 kV12 dc12 pm12 cd12 ct12 oc13 kV13 dc13 pm13 cd13 ct13 : Value}
    (a0 : PySem.W.nsIn K mainGlobals "is_number" = some (some (.ref f0))) (l0 : K.lookup f0 = some ⟨oc0, od0, .func (PySem.W.fnOf "is_number" "is_number" (C8.fnArgs s_is_number) (C8.fnBody s_is_number) (C8.fnScope s_is_number) .none kV0 dc0 pm0 an0 cd0 ct0), sl0⟩) (c0 : PySem.W.codeIn K cd0 "is_number" = true) (k0 : PySem.W.keepIn K (.ref f0) = true)
    (a1 : PySem.W.nsIn K mainGlobals "is_literal" = some (some (.ref f1))) (l1 : K.lookup f1 = some ⟨oc1, od1, .func (PySem.W.fnOf "is_literal" "is_literal" (C8.fnArgs s_is_literal) (C8.fnBody s_is_literal) (C8.fnScope s_is_literal) .none kV1 dc1 pm1 an1 cd1 ct1), sl1⟩) (c1 : PySem.W.codeIn K cd1 "is_literal" = true) (k1 : PySem.W.keepIn K (.ref f1) = true)
    (a2 : PySem.W.nsIn K mainGlobals "check_literals" = some (some (.ref f2))) (l2 : K.lookup f2 = some ⟨oc2, od2, .func (PySem.W.fnOf "check_literals" "check_literals" (C8.fnArgs s_check_literals) (C8.fnBody s_check_literals) (C8.fnScope s_check_literals) .none kV2 dc2 pm2 an2 cd2 ct2), sl2⟩) (c2 : PySem.W.codeIn K cd2 "check_literals" = true) (k2 : PySem.W.keepIn K (.ref f2) = true)
    (a3 : PySem.W.nsIn K mainGlobals "are_indices" = some (some (.ref f3))) (l3 : K.lookup f3 = some ⟨oc3, od3, .func (PySem.W.fnOf "are_indices" "are_indices" (C8.fnArgs s_are_indices) (C8.fnBody s_are_indices) (C8.fnScope s_are_indices) .none kV3 dc3 pm3 an3 cd3 ct3), sl3⟩) (c3 : PySem.W.codeIn K cd3 "are_indices" = true) (k3 : PySem.W.keepIn K (.ref f3) = true)
    (a4 : PySem.W.nsIn K mainGlobals "goes_round" = some (some (.ref f4))) (l4 : K.lookup f4 = some ⟨oc4, od4, .func (PySem.W.fnOf "goes_round" "goes_round" (C8.fnArgs s_goes_round) (C8.fnBody s_goes_round) (C8.fnScope s_goes_round) .none kV4 dc4 pm4 an4 cd4 ct4), sl4⟩) (c4 : PySem.W.codeIn K cd4 "goes_round" = true) (k4 : PySem.W.keepIn K (.ref f4) = true)
    (a5 : PySem.W.nsIn K mainGlobals "is_ring" = some (some (.ref f5))) (l5 : K.lookup f5 = some ⟨oc5, od5, .func (PySem.W.fnOf "is_ring" "is_ring" (C8.fnArgs s_is_ring) (C8.fnBody s_is_ring) (C8.fnScope s_is_ring) .none kV5 dc5 pm5 an5 cd5 ct5), sl5⟩) (c5 : PySem.W.codeIn K cd5 "is_ring" = true) (k5 : PySem.W.keepIn K (.ref f5) = true)
    (a6 : PySem.W.nsIn K mainGlobals "_law_well" = some (some (.ref f6))) (l6 : K.lookup f6 = some ⟨oc6, od6, .func (PySem.W.fnOf "_law_well" "_law_well" (C8.fnArgs s_l_well) (C8.fnBody s_l_well) (C8.fnScope s_l_well) .none kV6 dc6 pm6 an6 cd6 ct6), sl6⟩) (c6 : PySem.W.codeIn K cd6 "_law_well" = true) (k6 : PySem.W.keepIn K (.ref f6) = true)
    (a7 : PySem.W.nsIn K mainGlobals "_law_draw" = some (some (.ref f7))) (l7 : K.lookup f7 = some ⟨oc7, od7, .func (PySem.W.fnOf "_law_draw" "_law_draw" (C8.fnArgs s_l_draw) (C8.fnBody s_l_draw) (C8.fnScope s_l_draw) .none kV7 dc7 pm7 an7 cd7 ct7), sl7⟩) (c7 : PySem.W.codeIn K cd7 "_law_draw" = true) (k7 : PySem.W.keepIn K (.ref f7) = true)
    (a8 : PySem.W.nsIn K mainGlobals "_law_one" = some (some (.ref f8))) (l8 : K.lookup f8 = some ⟨oc8, od8, .func (PySem.W.fnOf "_law_one" "_law_one" (C8.fnArgs s_l_one) (C8.fnBody s_l_one) (C8.fnScope s_l_one) .none kV8 dc8 pm8 an8 cd8 ct8), sl8⟩) (c8 : PySem.W.codeIn K cd8 "_law_one" = true) (k8 : PySem.W.keepIn K (.ref f8) = true)
    (a9 : PySem.W.nsIn K mainGlobals "_law_is_integer" = some (some (.ref f9))) (l9 : K.lookup f9 = some ⟨oc9, od9, .func (PySem.W.fnOf "_law_is_integer" "_law_is_integer" (C8.fnArgs s_l_is_integer) (C8.fnBody s_l_is_integer) (C8.fnScope s_l_is_integer) .none kV9 dc9 pm9 an9 cd9 ct9), sl9⟩) (c9 : PySem.W.codeIn K cd9 "_law_is_integer" = true) (k9 : PySem.W.keepIn K (.ref f9) = true)
    (a10 : PySem.W.nsIn K mainGlobals "_law_due" = some (some (.ref f10))) (l10 : K.lookup f10 = some ⟨oc10, od10, .func (PySem.W.fnOf "_law_due" "_law_due" (C8.fnArgs s_l_due) (C8.fnBody s_l_due) (C8.fnScope s_l_due) .none kV10 dc10 pm10 an10 cd10 ct10), sl10⟩) (c10 : PySem.W.codeIn K cd10 "_law_due" = true) (k10 : PySem.W.keepIn K (.ref f10) = true)
    (a11 : PySem.W.nsIn K mainGlobals "_law_chained" = some (some (.ref f11))) (l11 : K.lookup f11 = some ⟨oc11, od11, .func (PySem.W.fnOf "_law_chained" "_law_chained" (C8.fnArgs s_l_chained) (C8.fnBody s_l_chained) (C8.fnScope s_l_chained) .none kV11 dc11 pm11 an11 cd11 ct11), sl11⟩) (c11 : PySem.W.codeIn K cd11 "_law_chained" = true) (k11 : PySem.W.keepIn K (.ref f11) = true)
    (a12 : PySem.W.nsIn K mainGlobals "_law_spoiled" = some (some (.ref f12))) (l12 : K.lookup f12 = some ⟨oc12, od12, .func (PySem.W.fnOf "_law_spoiled" "_law_spoiled" (C8.fnArgs s_l_spoiled) (C8.fnBody s_l_spoiled) (C8.fnScope s_l_spoiled) .none kV12 dc12 pm12 an12 cd12 ct12), sl12⟩) (c12 : PySem.W.codeIn K cd12 "_law_spoiled" = true) (k12 : PySem.W.keepIn K (.ref f12) = true)
    (a13 : PySem.W.nsIn K mainGlobals "law" = some (some (.ref f13))) (l13 : K.lookup f13 = some ⟨oc13, od13, .func (PySem.W.fnOf "law" "law" (C8.fnArgs s_law) (C8.fnBody s_law) (C8.fnScope s_law) .none kV13 dc13 pm13 an13 cd13 ct13), sl13⟩) (c13 : PySem.W.codeIn K cd13 "law" = true) (k13 : PySem.W.keepIn K (.ref f13) = true)
    {tk_MOST_LITERALS : Tok} (m_MOST_LITERALS : PySem.W.nsIn K mainGlobals "MOST_LITERALS" = some (some (.int 300 tk_MOST_LITERALS)))
    (y_isinstance : PySem.W.nsIn K mainGlobals "isinstance" = some none)
    (y_len : PySem.W.nsIn K mainGlobals "len" = some none)
    (y_int : PySem.W.nsIn K mainGlobals "int" = some none)
    (y_bool : PySem.W.nsIn K mainGlobals "bool" = some none)
    (y_tuple : PySem.W.nsIn K mainGlobals "tuple" = some none)
    (y_list : PySem.W.nsIn K mainGlobals "list" = some none)
    (y_str : PySem.W.nsIn K mainGlobals "str" = some none)
    (y_set : PySem.W.nsIn K mainGlobals "set" = some none)
    (y_sum : PySem.W.nsIn K mainGlobals "sum" = some none)
    (y_range : PySem.W.nsIn K mainGlobals "range" = some none)
    (y_enumerate : PySem.W.nsIn K mainGlobals "enumerate" = some none)
    : ∃ fd : FuncData, (∀ (s : Shared) (v : Value), BindsTo s fd ⟨[v], []⟩ [("_law_script", v)]) ∧ ∀ base : Heap, K.In base → base.Ns mainGlobals mg → FnOk l.prog w K mg base C8.CX0 5 fa fd ["_law_script"] (spLaw K) := by
  have e := hfa.symm.trans (PySem.W.mg_of X G a13)
  cases e
  have T : Txt mg := { c_MOST_LITERALS := ⟨_, PySem.W.mg_of X G m_MOST_LITERALS, _, rfl⟩, z_isinstance := PySem.W.mg_none_of X G y_isinstance, z_len := PySem.W.mg_none_of X G y_len, z_int := PySem.W.mg_none_of X G y_int, z_bool := PySem.W.mg_none_of X G y_bool, z_tuple := PySem.W.mg_none_of X G y_tuple, z_list := PySem.W.mg_none_of X G y_list, z_str := PySem.W.mg_none_of X G y_str, z_set := PySem.W.mg_none_of X G y_set, z_sum := PySem.W.mg_none_of X G y_sum, z_range := PySem.W.mg_none_of X G y_range, z_enumerate := PySem.W.mg_none_of X G y_enumerate }
  have F0 : C8.Fun K "is_number" "is_number" s_is_number f0 _ := ⟨⟨_, _, _, _, _, _, _, _, _, _, rfl, l0, c0⟩⟩
  have D0 : C8.Def K mg "is_number" s_is_number f0 _ := ⟨F0, PySem.W.mg_of X G a0, k0⟩
  have b0 : Binds K _ ["thing"] [] := C8.Fun.binds F0 rfl fun _ _ _ _ _ _ us hl => match us, hl with | [_], _ => rfl
  have F1 : C8.Fun K "is_literal" "is_literal" s_is_literal f1 _ := ⟨⟨_, _, _, _, _, _, _, _, _, _, rfl, l1, c1⟩⟩
  have D1 : C8.Def K mg "is_literal" s_is_literal f1 _ := ⟨F1, PySem.W.mg_of X G a1, k1⟩
  have b1 : Binds K _ ["thing"] [] := C8.Fun.binds F1 rfl fun _ _ _ _ _ _ us hl => match us, hl with | [_], _ => rfl
  have F2 : C8.Fun K "check_literals" "check_literals" s_check_literals f2 _ := ⟨⟨_, _, _, _, _, _, _, _, _, _, rfl, l2, c2⟩⟩
  have D2 : C8.Def K mg "check_literals" s_check_literals f2 _ := ⟨F2, PySem.W.mg_of X G a2, k2⟩
  have b2 : Binds K _ ["literals"] [] := C8.Fun.binds F2 rfl fun _ _ _ _ _ _ us hl => match us, hl with | [_], _ => rfl
  have F3 : C8.Fun K "are_indices" "are_indices" s_are_indices f3 _ := ⟨⟨_, _, _, _, _, _, _, _, _, _, rfl, l3, c3⟩⟩
  have D3 : C8.Def K mg "are_indices" s_are_indices f3 _ := ⟨F3, PySem.W.mg_of X G a3, k3⟩
  have b3 : Binds K _ ["indices", "many"] [] := C8.Fun.binds F3 rfl fun _ _ _ _ _ _ us hl => match us, hl with | [_, _], _ => rfl
  have F4 : C8.Fun K "goes_round" "goes_round" s_goes_round f4 _ := ⟨⟨_, _, _, _, _, _, _, _, _, _, rfl, l4, c4⟩⟩
  have D4 : C8.Def K mg "goes_round" s_goes_round f4 _ := ⟨F4, PySem.W.mg_of X G a4, k4⟩
  have b4 : Binds K _ ["literals"] [] := C8.Fun.binds F4 rfl fun _ _ _ _ _ _ us hl => match us, hl with | [_], _ => rfl
  have F5 : C8.Fun K "is_ring" "is_ring" s_is_ring f5 _ := ⟨⟨_, _, _, _, _, _, _, _, _, _, rfl, l5, c5⟩⟩
  have D5 : C8.Def K mg "is_ring" s_is_ring f5 _ := ⟨F5, PySem.W.mg_of X G a5, k5⟩
  have b5 : Binds K _ ["literals", "indices"] [] := C8.Fun.binds F5 rfl fun _ _ _ _ _ _ us hl => match us, hl with | [_, _], _ => rfl
  have F6 : C8.Fun K "_law_well" "_law_well" s_l_well f6 _ := ⟨⟨_, _, _, _, _, _, _, _, _, _, rfl, l6, c6⟩⟩
  have D6 : C8.Def K mg "_law_well" s_l_well f6 _ := ⟨F6, PySem.W.mg_of X G a6, k6⟩
  have b6 : Binds K _ ["_law_cell"] [] := C8.Fun.binds F6 rfl fun _ _ _ _ _ _ us hl => match us, hl with | [_], _ => rfl
  have F7 : C8.Fun K "_law_draw" "_law_draw" s_l_draw f7 _ := ⟨⟨_, _, _, _, _, _, _, _, _, _, rfl, l7, c7⟩⟩
  have D7 : C8.Def K mg "_law_draw" s_l_draw f7 _ := ⟨F7, PySem.W.mg_of X G a7, k7⟩
  have b7 : Binds K _ ["_law_well_here", "_law_base"] [] := C8.Fun.binds F7 rfl fun _ _ _ _ _ _ us hl => match us, hl with | [_, _], _ => rfl
  have F8 : C8.Fun K "_law_one" "_law_one" s_l_one f8 _ := ⟨⟨_, _, _, _, _, _, _, _, _, _, rfl, l8, c8⟩⟩
  have D8 : C8.Def K mg "_law_one" s_l_one f8 _ := ⟨F8, PySem.W.mg_of X G a8, k8⟩
  have b8 : Binds K _ ["_law_well_here", "_law_some"] [] := C8.Fun.binds F8 rfl fun _ _ _ _ _ _ us hl => match us, hl with | [_, _], _ => rfl
  have F9 : C8.Fun K "_law_is_integer" "_law_is_integer" s_l_is_integer f9 _ := ⟨⟨_, _, _, _, _, _, _, _, _, _, rfl, l9, c9⟩⟩
  have D9 : C8.Def K mg "_law_is_integer" s_l_is_integer f9 _ := ⟨F9, PySem.W.mg_of X G a9, k9⟩
  have b9 : Binds K _ ["_law_told"] [] := C8.Fun.binds F9 rfl fun _ _ _ _ _ _ us hl => match us, hl with | [_], _ => rfl
  have F10 : C8.Fun K "_law_due" "_law_due" s_l_due f10 _ := ⟨⟨_, _, _, _, _, _, _, _, _, _, rfl, l10, c10⟩⟩
  have D10 : C8.Def K mg "_law_due" s_l_due f10 _ := ⟨F10, PySem.W.mg_of X G a10, k10⟩
  have b10 : Binds K _ ["_law_literals", "_law_indices"] [] := C8.Fun.binds F10 rfl fun _ _ _ _ _ _ us hl => match us, hl with | [_, _], _ => rfl
  have F11 : C8.Fun K "_law_chained" "_law_chained" s_l_chained f11 _ := ⟨⟨_, _, _, _, _, _, _, _, _, _, rfl, l11, c11⟩⟩
  have D11 : C8.Def K mg "_law_chained" s_l_chained f11 _ := ⟨F11, PySem.W.mg_of X G a11, k11⟩
  have b11 : Binds K _ ["_law_well_here", "_law_literals"] [] := C8.Fun.binds F11 rfl fun _ _ _ _ _ _ us hl => match us, hl with | [_, _], _ => rfl
  have F12 : C8.Fun K "_law_spoiled" "_law_spoiled" s_l_spoiled f12 _ := ⟨⟨_, _, _, _, _, _, _, _, _, _, rfl, l12, c12⟩⟩
  have D12 : C8.Def K mg "_law_spoiled" s_l_spoiled f12 _ := ⟨F12, PySem.W.mg_of X G a12, k12⟩
  have b12 : Binds K _ ["_law_well_here", "_law_row", "_law_many"] [] := C8.Fun.binds F12 rfl fun _ _ _ _ _ _ us hl => match us, hl with | [_, _, _], _ => rfl
  have F13 : C8.Fun K "law" "law" s_law fa _ := ⟨⟨_, _, _, _, _, _, _, _, _, _, rfl, l13, c13⟩⟩
  refine ⟨PySem.W.fnOf "law" "law" (C8.fnArgs s_law) (C8.fnBody s_law) (C8.fnScope s_law) .none kV13 dc13 pm13 an13 cd13 ct13, fun s v => .of_eq rfl, fun base _ _ => ?_⟩
  have Q_is_number : C8.Cal l.prog w K mg base 1 "is_number" (spNum K) [] := ok_is_number D0 b0 T 
  have Q_is_literal : C8.Cal l.prog w K mg base 2 "is_literal" (spLitG K) [] := ok_is_literal D1 b1 T Q_is_number
  have Q_check_literals : C8.Cal l.prog w K mg base 3 "check_literals" (spChkG K) [] := ok_check_literals D2 b2 T Q_is_literal
  have Q_are_indices : C8.Cal l.prog w K mg base 2 "are_indices" (spAreIx K) [] := ok_are_indices D3 b3 T Q_is_number
  have Q_goes_round : C8.Cal l.prog w K mg base 1 "goes_round" (spRound K) [] := ok_goes_round D4 b4 T 
  have Q_is_ring : C8.Cal l.prog w K mg base 4 "is_ring" (spRing K) [] := ok_is_ring D5 b5 T Q_are_indices Q_goes_round Q_check_literals
  have Q_l_well : C8.Cal l.prog w K mg base 1 "_law_well" spWell [] := ok_l_well D6 b6 T 
  have Q_l_draw : C8.Cal l.prog w K mg base 1 "_law_draw" spDraw [] := ok_l_draw D7 b7 T 
  have Q_l_one : C8.Cal l.prog w K mg base 2 "_law_one" (spOne K) [] := ok_l_one D8 b8 T Q_l_draw
  have Q_l_is_integer : C8.Cal l.prog w K mg base 1 "_law_is_integer" (spNum K) [] := ok_l_is_integer D9 b9 T 
  have Q_l_due : C8.Cal l.prog w K mg base 4 "_law_due" (spRing K) [] := ok_l_due D10 b10 T Q_l_is_integer
  have Q_l_chained : C8.Cal l.prog w K mg base 3 "_law_chained" (spChained K) [] := ok_l_chained D11 b11 T Q_l_draw Q_l_one
  have Q_l_spoiled : C8.Cal l.prog w K mg base 3 "_law_spoiled" (spSpoiled K) [] := ok_l_spoiled D12 b12 T Q_l_draw Q_l_one
  exact ok_law F13 T Q_is_ring Q_l_due Q_l_well Q_l_draw Q_l_one Q_l_chained Q_l_spoiled
theorem walk {l : PySem.W.OpenLaw} {q : Program} {loose : List Str} {XP : (Str → Option Value) → Heap → Prop} {YP : World → Heap → Prop} {d : DefRec} {K : Params → PySem.W.Frag} (hn : l.most = some 63) (hdf : d.params.defaults = [])
    (hY : ∀ (w : World) (h : Heap), YP w h → (K w.params).In h)
    (F : ∀ (w : World) (mg : Str → Option Value) (fa : Addr) (h : Heap), (K w.params).In h → h.Ns mainGlobals mg → mg d.name = some (.ref fa) →
      ∃ fd : FuncData, (∀ (s : Shared) (u : Value), BindsTo s fd ⟨[u], []⟩ [("_law_script", u)]) ∧ ∀ base : Heap, (K w.params).In base → base.Ns mainGlobals mg → FnOk l.prog w (K w.params) mg base C8.CX0 5 fa fd ["_law_script"] (spLaw (K w.params))) :
    PySem.W.WalkO q loose XP YP l.row.toRowW d [] (fun f vs => PySem.call f vs) :=
  L2.walk_of (n := 63) (k := 5) (x := "_law_script") (CX := fun _ => C8.CX0) (sp := fun w => spLaw (K w.params)) hn (by decide) hdf ⟨rfl, by decide, by decide⟩ hY F (fun _ _ a ns hl _ hS => ⟨a, ns, rfl, hS, hl, fun _ => rfl⟩) fun _ _ _ _ _ z => z
end K4
open PySem PySem.W PyProof.Rows
set_option maxRecDepth 100000 in
set_option maxHeartbeats 0 in
theorem PySem.Challenge.cw_behindexits_k04_rings_judged_holds : PySem.Challenge.rw_behindexits_k04_rings_judged.Holds := by
  w_on; o_law; k_head; (case hw => w_witness2)
  k_fill
  refine K4.walk (l := PySem.Challenge.rw_behindexits_k04_rings_judged) rfl rfl (fun w h Y => PySem.W.kIn_of Y) ?F
  case F =>
    intro w mg fa h KX G hmg
    refine' K4.all_mk KX G hmg ?a0 ?l0 ?c0 ?k0 ?a1 ?l1 ?c1 ?k1 ?a2 ?l2 ?c2 ?k2 ?a3 ?l3 ?c3 ?k3 ?a4 ?l4 ?c4 ?k4 ?a5 ?l5 ?c5 ?k5 ?a6 ?l6 ?c6 ?k6 ?a7 ?l7 ?c7 ?k7 ?a8 ?l8 ?c8 ?k8 ?a9 ?l9 ?c9 ?k9 ?a10 ?l10 ?c10 ?k10 ?a11 ?l11 ?c11 ?k11 ?a12 ?l12 ?c12 ?k12 ?a13 ?l13 ?c13 ?k13 ?m_MOST_LITERALS ?y_isinstance ?y_len ?y_int ?y_bool ?y_tuple ?y_list ?y_str ?y_set ?y_sum ?y_range ?y_enumerate
    (case a0 => k_is); (case l0 => k_is); (case c0 => k_is); (case k0 => k_is)
    (case a1 => k_is); (case l1 => k_is); (case c1 => k_is); (case k1 => k_is)
    (case a2 => k_is); (case l2 => k_is); (case c2 => k_is); (case k2 => k_is)
    (case a3 => k_is); (case l3 => k_is); (case c3 => k_is); (case k3 => k_is)
    (case a4 => k_is); (case l4 => k_is); (case c4 => k_is); (case k4 => k_is)
    (case a5 => k_is); (case l5 => k_is); (case c5 => k_is); (case k5 => k_is)
    (case a6 => k_is); (case l6 => k_is); (case c6 => k_is); (case k6 => k_is)
    (case a7 => k_is); (case l7 => k_is); (case c7 => k_is); (case k7 => k_is)
    (case a8 => k_is); (case l8 => k_is); (case c8 => k_is); (case k8 => k_is)
    (case a9 => k_is); (case l9 => k_is); (case c9 => k_is); (case k9 => k_is)
    (case a10 => k_is); (case l10 => k_is); (case c10 => k_is); (case k10 => k_is)
    (case a11 => k_is); (case l11 => k_is); (case c11 => k_is); (case k11 => k_is)
    (case a12 => k_is); (case l12 => k_is); (case c12 => k_is); (case k12 => k_is)
    (case a13 => k_is); (case l13 => k_is); (case c13 => k_is); (case k13 => k_is)
    (case m_MOST_LITERALS => k_is); (case y_isinstance => k_is); (case y_len => k_is); (case y_int => k_is)
    (case y_bool => k_is); (case y_tuple => k_is); (case y_list => k_is); (case y_str => k_is)
    (case y_set => k_is); (case y_sum => k_is); (case y_range => k_is); (case y_enumerate => k_is)

