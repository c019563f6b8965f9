import PyProof.Rows.All
import Wide.All
import OpenK.AllK
import Wide.FinOn
import HandS.Codes
import HandS.Conv
import HandS.Deep
import HandS.Dict
import HandS.DictComp
import HandS.Evl
import HandS.ForMost
import HandS.IsInst
import HandS.SetFor
import HandS.Style
import HandS.TupAny
import HandS.Wide
import PySem.Challenge.RW_behindexits_k02_long_rings
set_option Elab.async false
set_option linter.all false
set_option maxRecDepth 100000
set_option maxHeartbeats 4000000
namespace Bx
open PySem PySem.Spec PyProof.Rows L2
example (K : PySem.W.Frag) : PySem.W.kitOne K (.type "bool") (.type "int") = some true := by rfl
example (K : PySem.W.Frag) : PySem.W.kitOne K (.type "NoneType") (.type "int") = some false := by rfl
example (K : PySem.W.Frag) : PySem.W.kitOne K (.type "list") (.type "tuple") = some false := by rfl
example (K : PySem.W.Frag) : PySem.W.kitAny K (.type "dict") [.type "list", .type "tuple"] = some false := by rfl
section
variable {X : Cx}
def rCatS (K : PySem.W.Frag) : R2 := fun x y H Q => ∃ l b xs zs, x = .ref l ∧ y = .ref b ∧ SqL K H l xs ∧ SqL K H b zs ∧ xs.length + zs.length ≤ sizeLine ∧ ∀ p, H p = none → Q (.ref p) (upd H p (.lst (xs ++ zs)))
theorem op_catS : OpR X (binaryOp .Add) (rCatS X.K) := by
  intro pins s σ H x y v u Q I rx ry h
  obtain ⟨l, b, xs, zs, rfl, rfl, hH, hB, hz, q⟩ := h
  cases rx
  cases ry
  obtain ⟨its, r, ⟨⟨cls, dd, data, sl⟩, n, ho, hc, hdd, hd⟩, _⟩ := I.list hH
  obtain ⟨its2, r2, ⟨⟨cls2, dd2, data2, sl2⟩, n2, ho2, hc2, hdd2, hd2⟩, _⟩ := I.list hB
  simp only at hc hd hdd hc2 hd2 hdd2
  subst hc hd hdd hc2 hd2 hdd2
  have e1 := r.length
  have e2 := r2.length
  have e : its.toArray ++ its2.toArray = (its ++ its2).toArray := by simp
  refine concat_meets ⟨_, ho, rfl⟩ ⟨_, ho2, rfl⟩ noFill_list_add seq_list_add PySem.F.slot_list_add PySem.F.entry_list_add (PySem.F.args_list_add_2 _ _) (list_addW l b its.toArray its2.toArray n n2 none none sl sl2 (by simp; omega)) ⟨ho, ho2, ?_⟩
  rw [e]
  exact ⟨.ref _, _, I.lnew (t' := s.toks) (r.append r2) (by rw [List.length_append]; omega), rfl, q _ I.fresh⟩

/-! len(set(t)), t a tuple of ints -/
def tLenSetT (K : PySem.W.Frag) (ta : TE) : TE := fun σ H Q => ta σ H fun x H1 => ∃ (l : Addr) (ns : List Int), x = .ref l ∧ SqT K H1 l (ns.map V.int) ∧ ns.length ≤ 1000 ∧
  ∀ out : List Int, out.Nodup → (∀ k, k ∈ out ↔ k ∈ ns) → Q (.int (out.length : Nat)) H1
theorem pe_lenSetT {a : Expr} {ta : TE} {p p2 q pos : Pos} (hm : X.mg "len" = none) (hm2 : X.mg "set" = none) (ha : PE X a ta) (hg : Gl X "len" := by rfl) (hg2 : Gl X "set" := by rfl) (hc : X.calm = true := by rfl)
    (na : starEach [a] X.env = (false, eval a X.env) :: starEach [] X.env := by rfl) : PE X (.Call (.Name "len" p) [.Call (.Name "set" p2) [a] [] q] [] pos) (tLenSetT X.K ta) := by
  refine ⟨fun pins s σ H Q I h => ?_⟩
  refine Call_ (ld_blt I hg hm boot_len ?_)
  refine PyProof.Rows.callWith_builtin1 (PyProof.Rows.args_cons ?_ rfl) rfl rfl
  refine Call_ (ld_blt I hg2 hm2 boot_set ?_)
  refine PyProof.Rows.callWith_type1 (PyProof.Rows.args_cons (thn (ha.run pins s σ H _ I h) fun v s1 ⟨x, H1, I1, r1, q1⟩ => PyProof.Rows.args_nil ?_) na) na rfl
  obtain ⟨l, ns, rfl, hq, hl, q1⟩ := q1
  cases r1
  obtain ⟨its, rv, pt, hz⟩ := I1.tuple hq
  have hi : IntsAre its.toArray.toList ns := ints_of_vals rv
  have hd := I1.ok.hd hc
  refine call_set_tupI ns hd (show s1.heap.IsTuple l its.toArray from pt) hi (by unfold scanBound; omega) fun h' tk c R1 hcn k => ?_
  refine PyProof.Rows.args_nil ?_
  obtain ⟨o, es, ep, t, ho, hex, hdt, g, nd, hm2, hb, hf, hn, hr, hl2⟩ := R1
  have I2 : Inv X pins σ H1 { s1 with heap := h', toks := tk } := I1.kept fun b o e => k b o e
  have hlen : es.size = (es.toList.map keyOf).length := by rw [List.length_map, Array.length_toList]
  refine call_len_set ho hex hdt hf (by rw [hn]; omega) ⟨.int ((es.toList.map keyOf).length : Nat), H1, I2.tok _, ⟨_, by rw [← hlen]⟩, q1 _ nd fun j => ?_⟩
  rw [← hm2 j, decide_eq_true_eq]
end
section
variable {prog : Program} {w : World} {A : Around} {E : Value → Shared → Prop} {s : Shared}
theorem fm_congr {α β : Type} {f g : α → Option β} : ∀ {l : List α}, (∀ m ∈ l, f m = g m) → l.filterMap f = l.filterMap g
  | [], _ => rfl
  | a :: l, h => by
    rw [List.filterMap_cons, List.filterMap_cons, h a List.mem_cons_self, fm_congr fun m hm => h m (List.mem_cons_of_mem _ hm)]
theorem rev_applied {A : Around} {E : Value → Shared → Prop} {s : Shared} {sl : Addr} {vs : Value} {n : Nat} {Q : Int × Int × Nat → Shared → Prop} (hs : s.heap.IsSliceOf sl .none .none vs) (ps : IsPart vs (some (-1))) (h : Q (((n : Nat) : Int) - 1, -1, n) s) :
    wpAny (model prog w) A (Builtin.Slice.sliceApplied (.ref sl) (pure ((n : Nat) : Int))) Q E s := by
  obtain ⟨os, hos, hcs, hds⟩ := id hs
  unfold Builtin.Slice.sliceApplied Builtin.Slice.sliceFields
  refine wpAny_bind (wpAny_bind (wpAny_field hos hds (x := .none) rfl (wpAny_bind (wpAny_field hos hds (x := .none) rfl (wpAny_bind (wpAny_field hos hds (x := vs) rfl (wpAny_pure ?_)))))))
  refine wpAny_bind (HT.slicePart_ ps ?_)
  show wpAny _ _ (if ((-1 : Int) == 0) = true then _ else _) _ _ s
  rw [if_neg (by decide)]
  refine wpAny_bind (slicePart_none (wpAny_bind (slicePart_none (wpAny_bind (wpAny_pure ?_)))))
  have ea : Builtin.Slice.sliceAdjust none none (-1) ((n : Nat) : Int) = (((n : Nat) : Int) - 1, -1) := by
    unfold Builtin.Slice.sliceAdjust
    simp
  have ep : Builtin.Slice.slicePlaces (((n : Nat) : Int) - 1) (-1) (-1) = n := by
    unfold Builtin.Slice.slicePlaces
    have h1 : ¬ ((-1 : Int) > 0) := by decide
    have h2 : (- -1 : Int) = 1 := by decide
    simp only [h1, if_false, h2, Int.ediv_one]
    split <;> omega
  show wpAny _ _ (match Builtin.Slice.sliceAdjust none none (-1) ((n : Nat) : Int) with | (lo, hi) => pure (lo, (-1 : Int), Builtin.Slice.slicePlaces lo hi (-1))) _ _ s
  rw [ea]
  show wpAny _ _ (pure (((n : Nat) : Int) - 1, (-1 : Int), Builtin.Slice.slicePlaces (((n : Nat) : Int) - 1) (-1) (-1))) _ _ s
  rw [ep]
  exact wpAny_pure h
theorem rev_pick (items : Array Value) : ((List.range items.size).filterMap fun (m : Nat) => items[(((items.size : Nat) : Int) - 1 + (m : Int) * (-1)).toNat]?).toArray = items.toList.reverse.toArray := by
  have e : ((List.range items.size).filterMap fun (m : Nat) => items[(((items.size : Nat) : Int) - 1 + (m : Int) * (-1)).toNat]?) = ((List.range items.size).map fun k => items.size - 1 - k).filterMap (items[·]?) := by
    rw [List.filterMap_map]
    refine fm_congr fun m hm => ?_
    have := List.mem_range.mp hm
    show items[(((items.size : Nat) : Int) - 1 + (m : Int) * (-1)).toNat]? = items[items.size - 1 - m]?
    rw [show (((items.size : Nat) : Int) - 1 + (m : Int) * (-1)).toNat = items.size - 1 - m by omega]
  rw [e, PySem.W.krv_range, List.filterMap_reverse, PySem.W.krv_all]
theorem getItem_tuple_rev {t sl : Addr} {items : Array Value} {vs : Value} {Q : Value → Shared → Prop} (ht : IsTup s.heap t items) (hs : s.heap.IsSliceOf sl .none .none vs) (ps : IsPart vs (some (-1)))
    (h : Q (.ref s.heap.objs.size) { s with heap := s.heap.push { cls := .type "tuple", data := .seq items.toList.reverse.toArray } })
    (hsz : items.size ≤ sizeLine) : wpAny (model prog w) A (getItem (.ref t) (.ref sl)) Q E s := by
  have htake : sizeOk (.seq items.toList.reverse.toArray) := by
    show items.toList.reverse.toArray.size ≤ sizeLine
    rw [List.size_toArray, List.length_reverse, Array.length_toList]
    exact hsz
  obtain ⟨os, hos, hcs, hds⟩ := id hs
  have hTs : s.TypeIs (.ref sl) "slice" := ⟨os, hos, hcs⟩
  unfold getItem
  try with_reducible refine wpAny_holding ?_
  first | refine wpAny_bind (wpAny_pure ?_) | skip
  refine wpAny_bind (wpAny_sequenceKey ht.typeIs (by decide) ?_)
  refine wpAny_bind (wpAny_callSpecial?_slot (name := Str.ofString "__getitem__") ht.typeIs PyProof.Rows.slot_tuple_getitem
    (wpAny_call_entry PyProof.Rows.slot_tuple_getitem ht.typeIs entry_tuple_getitem ?_ (args_tuple_getitem _ _)))
  show wpAny _ _ (Builtin.Tuple.tupleItemsOf (.ref t) >>= _) _ _ s
  refine wpAny_bind (tupleItemsOf_ ht ?_)
  refine wpAny_bind (wpAny_typeOf hTs ?_)
  rw [if_pos (by decide)]
  refine wpAny_bind (rev_applied hs ps ?_)
  have hno : ¬ (((((items.size : Nat) : Int) - 1) == 0 && (-1 : Int) == 1 && items.size == items.size) = true) := by
    intro q
    rw [Bool.and_eq_true, Bool.and_eq_true] at q
    exact absurd q.1.2 (by decide)
  show wpAny _ _ (if ((((items.size : Nat) : Int) - 1) == 0 && (-1 : Int) == 1 && items.size == items.size) = true then _ else _) _ _ s
  rw [if_neg hno, rev_pick]
  first
    | exact wpAny_bind (m := Builtin.Tuple.tupleExact _) (wpAny_newObj_type (wpAny_pure ⟨_, rfl, wpAny_pure h⟩) htake)
    | exact wpAny_bind (m := Builtin.Tuple.tupleExact _) (wpAny_newObj_type (wpAny_bind (wpAny_pure (wpAny_pure ⟨_, rfl, wpAny_pure h⟩))) htake)
    | exact wpAny_bind (wpAny_bind (m := Builtin.Tuple.tupleExact _) (wpAny_newObj_type (wpAny_pure (wpAny_pure ⟨_, rfl, wpAny_pure h⟩)) htake))
    | exact wpAny_bind (wpAny_bind (m := Builtin.Tuple.tupleExact _) (wpAny_newObj_type (wpAny_pure ⟨_, rfl, wpAny_pure h⟩) htake))
end
section
variable {X : Cx}
def tRevT (K : PySem.W.Frag) (te : TE) : TE := fun σ H Q => te σ H fun x H1 => ∃ a xs, x = .ref a ∧ SqT K H1 a xs ∧ ∀ p, H1 p = none → Q (.ref p) (upd H1 p (.tup xs.reverse))
theorem pe_revT {e : Expr} {te : TE} {k : Nat} {p1 p2 p3 pos : Pos} (he : PE X e te) : PE X (.Subscript e (.Slice none none (some (.UnaryOp .USub (.Constant (.int 1) k p1) p2)) p3) pos) (tRevT X.K te) := by
  refine ⟨fun pins s σ H Q I h => ?_⟩
  refine Subscript_ (thn (he.run pins s σ H _ I h) fun v s1 ⟨x, H1, I1, r1, q1⟩ => ?_)
  obtain ⟨a, xs, ex, hx, q⟩ := q1
  subst ex
  cases r1
  have hst : PO X (some (.UnaryOp .USub (.Constant (.int 1) k p1) p2)) (tPart (tUn (rU fun i => .int (-i)) (tC (.int 1)))) := po_some (pe_un un_neg pe_int)
  refine wpAny_Slice (thn (po_none.run pins s1 σ H1 (fun o H2 => o = none ∧ H2 = H1) I1 ⟨rfl, rfl⟩) fun vl s2 ⟨l, H2, I2, pl, el, e2⟩ => ?_)
  subst el e2
  refine thn (po_none.run pins s2 σ H2 (fun o H3 => o = none ∧ H3 = H2) I2 ⟨rfl, rfl⟩) fun vu s3 ⟨u, H3, I3, pu, eu, e3⟩ => ?_
  subst eu e3
  refine thn (hst.run pins s3 σ H3 (fun o H4 => o = some (-1) ∧ H4 = H3) I3 ⟨1, rfl, -1, rfl, rfl, rfl⟩) fun vs s4 ⟨o, H4, I4, ps, eo, e4⟩ => ?_
  subst eo e4
  cases pl
  cases pu
  have I5 : Inv X pins σ H4 { s4 with heap := s4.heap.push { cls := .type "slice", data := .fields #[Value.none, Value.none, vs] } } := I4.kept (t' := s4.toks) fun b ob q => Heap.get?_push_of_some _ q
  obtain ⟨its, r, ht, hz⟩ := I5.tuple hx
  have hlen := r.length
  show wpAny (model X.prog X.w) X.A (subscriptTail e (.Slice none none (some (.UnaryOp .USub (.Constant (.int 1) k p1) p2)) p3) (.ref a) (.ref s4.heap.objs.size)) (EP X pins σ Q) X.xe { s4 with heap := s4.heap.push { cls := .type "slice", data := .fields #[Value.none, Value.none, vs] } }
  refine tail_any (ops := [.ref a, .ref s4.heap.objs.size]) ht.typeIs (PyProof.Rows.slot_tuple_getitem.lookup) ?_ (by with_unfolding_all rfl)
  refine getItem_tuple_rev ht (Heap.IsSliceOf.new _ Value.none Value.none vs) ps ?_ (by rw [List.size_toArray]; omega)
  refine ⟨.ref _, _, I5.laid (t' := s4.toks) (o := .tup xs.reverse) (fun b ob q => Heap.get?_push_of_some _ q) (Nat.le_refl _) ?_, rfl, q _ (I5.hok.fresh (Nat.le_refl _))⟩
  exact ⟨by rw [List.length_reverse]; exact hz, _, r.reverse, ⟨_, Heap.get?_push_size _ rfl, rfl, 0, rfl⟩⟩
end
end Bx

namespace Bx
open PySem PySem.Spec PyProof.Rows L2
/-! ### what stays -/
theorem Same.new {H : Hp} {p : Addr} {o : HO} (h : H p = none) : Same H (upd H p o) := fun a u e => by
  rw [upd_ne (ne_of_none e h)]
  exact e
theorem Same.mut {H H' : Hp} {p : Addr} {o : HO} (e : Same H H') (h : H p = none) : Same H (upd H' p o) := fun a u ha => by
  rw [upd_ne (ne_of_none ha h)]
  exact e a u ha
theorem Same.seqT {K : PySem.W.Frag} {H H' : Hp} {a : Addr} {xs : List V} (e : Same H H') (h : SqT K H a xs) : SqT K H' a xs := by
  rcases h with (h | ⟨o, h⟩) | h
  · exact .inl (.inl (e _ _ h))
  · exact .inl (.inr ⟨o, e _ _ h⟩)
  · exact .inr h
theorem Same.ty {K : PySem.W.Frag} {H H' : Hp} {v : V} {t : Value} (e : Same H H') (h : TyX K H v t) : TyX K H' v t := by
  cases h with
  | base b =>
    cases b with
    | non => exact .base .non
    | bl x => exact .base (.bl x)
    | int i => exact .base (.int i)
    | str x => exact .base (.str x)
    | flt x => exact .base (.flt x)
    | lst q => exact .base (.lst (e _ _ q))
    | frz q => exact .base (.frz (e _ _ q))
    | tup q => exact .base (.tup (e _ _ q))
    | dK q => exact .base (.dK (e _ _ q))
    | dT q => exact .base (.dT (e _ _ q))
    | ins q cl ha hn htk hm => exact .base (.ins (e _ _ q) cl ha hn htk hm)
  | byt b => exact .byt b
  | set q => exact .set (e _ _ q)
  | kList a b => exact .kList a b
  | kTuple a b => exact .kTuple a b
  | kDict a b => exact .kDict a b
  | fTuple q => exact .fTuple (e _ _ q)
  | fDict q => exact .fDict (e _ _ q)
theorem tyT {K : PySem.W.Frag} {H : Hp} {a : Addr} {xs : List V} (h : SqT K H a xs) : TyX K H (.ref a) (.type "tuple") := by
  rcases h with (h | ⟨o, h⟩) | ⟨o, its, n, hk, hc, _⟩
  · exact .base (.tup h)
  · exact .fTuple h
  · exact .kTuple hk hc
theorem tyL {K : PySem.W.Frag} {H : Hp} {a : Addr} {xs : List V} (h : SqL K H a xs) : TyX K H (.ref a) (.type "list") := by
  rcases h with (h | ⟨o, h⟩) | ⟨o, its, n, hk, hc, _⟩
  · exact .base (.lst h)
  · exact .base (.frz h)
  · exact .kList hk hc
/-- .. all but the one at l -/
def But (l : Addr) (H H' : Hp) : Prop := ∀ b o, H b = some o → b ≠ l → H' b = some o
theorem But.refl (l : Addr) (H : Hp) : But l H H := fun _ _ h _ => h
theorem But.trans {l : Addr} {H H1 H2 : Hp} (a : But l H H1) (b : But l H1 H2) : But l H H2 := fun c o h n => b c o (a c o h n) n
theorem But.of {l : Addr} {H H' : Hp} (a : Same H H') : But l H H' := fun c o h _ => a c o h
theorem But.upd {l : Addr} {H : Hp} {o : HO} : But l H (upd H l o) := fun c u h n => by
  rw [upd_ne n]
  exact h
theorem But.seq {K : PySem.W.Frag} {l : Addr} {H H' : Hp} {a : Addr} {xs : List V} (e : But l H H') (n : a ≠ l) (h : SqL K H a xs) : SqL K H' a xs := by
  rcases h with (h | ⟨o, h⟩) | h
  · exact .inl (.inl (e _ _ h n))
  · exact .inl (.inr ⟨o, e _ _ h n⟩)
  · exact .inr h
theorem But.seqT {K : PySem.W.Frag} {l : Addr} {H H' : Hp} {a : Addr} {xs : List V} (e : But l H H') (n : a ≠ l) (h : SqT K H a xs) : SqT K H' a xs := by
  rcases h with (h | ⟨o, h⟩) | h
  · exact .inl (.inl (e _ _ h n))
  · exact .inl (.inr ⟨o, e _ _ h n⟩)
  · exact .inr h
theorem But.free {l : Addr} {H H' : Hp} (e : But l H H') {p : Addr} (n : p ≠ l) (h : H' p = Option.none) : H p = Option.none := by
  cases q : H p with
  | none => rfl
  | some o =>
    rw [e p o q n] at h
    cases h
/-! ### tuples of any kind: what a sum, a slice is -/
section
variable {X : Cx}
def rCatU (K : PySem.W.Frag) : R2 := fun x y H Q => ∃ a b xs ys, x = .ref a ∧ y = .ref b ∧ SqT K H a xs ∧ SqT K H b ys ∧ xs.length + ys.length ≤ sizeLine ∧ ∀ c H', Same H H' → SqT K H' c (xs ++ ys) → Q (.ref c) H'
theorem op_catU : OpR X (binaryOp .Add) (rCatU X.K) := by
  intro pins s σ H x y v u Q I rx ry h
  obtain ⟨a, b, xs, ys, ex, ey, ha, hb, hz, q⟩ := h
  refine op_catA pins s σ H x y v u Q I rx ry ⟨a, b, xs, ys, ex, ey, ha, hb, hz, fun e => ?_, fun _ e => ?_, fun _ _ p hp => ?_⟩
  · subst e
    exact q b H (Same.refl H) hb
  · subst e
    exact q a H (Same.refl H) (by rw [List.append_nil]; exact ha)
  · exact q p _ (Same.new hp) (.inl (.inl upd_same))
def rSlU (K : PySem.W.Frag) : V → Option Int → Option Int → Hp → VK → Prop := fun x lo hi H Q => ∃ a xs, x = .ref a ∧ SqT K H a xs ∧ ∀ c H', Same H H' → SqT K H' c (cutV xs lo hi) → Q (.ref c) H'
theorem sl_tupU : SlR X (rSlU X.K) := by
  intro pins s σ H x v vl vu lo hi sl Q I rx hs pl pu h
  obtain ⟨a, xs, ex, hx, q⟩ := h
  refine sl_tupA pins s σ H x v vl vu lo hi sl Q I rx hs pl pu ⟨a, xs, ex, hx, fun hw => ?_, fun _ p hp => ?_⟩
  · refine q a H (Same.refl H) ?_
    unfold cutV
    rw [hw.1, hw.2, List.drop_zero, Nat.sub_zero, List.take_length]
    exact hx
  · exact q p _ (Same.new hp) (.inl (.inl upd_same))
end
/-! ### a loop over enumerate of a list -/
theorem for_enumL {K : PySem.W.Frag} {a : Addr} {xs : List V} {g : TG} {tb : TS} {D : Ends} {σ : L2.St} {H : Hp} (Pv : Nat → L2.St → Hp → Prop) (h0 : Pv 0 σ H) (hq : ∀ i σ H, Pv i σ H → SqL K H a xs)
    (hs : ∀ (i : Nat) (x : V) (T : Addr) (σ : L2.St) (H : Hp), xs[i]? = some x → Pv i σ H → H T = none → g (.ref T) σ (upd H T (.tup [.int (i : Nat), x])) fun σ2 H2 => tb { D with nx := Pv (i + 1), ct := Pv (i + 1), bk := D.nx } σ2 H2) (hd : ∀ σ H, Pv xs.length σ H → D.nx σ H) :
    ∃ W : Nat → Nat → L2.St → Hp → Prop, (∃ m, W 0 m σ H) ∧ ∀ i m σ H, W i m σ H →
      ((Ite K a).stop i H ∧ D.nx σ H) ∨ ((Ite K a).go i H ∧ ∃ N : L2.St → Hp → Prop, (∀ σ' H', N σ' H' → ∃ m', m' < m ∧ W (i + 1) m' σ' H') ∧ ∀ v H', (Ite K a).yld i H v H' → g v σ H' fun σ2 H2 => tb { D with nx := N, ct := N, bk := D.nx } σ2 H2) := by
  refine ⟨fun i m σ H => m = xs.length - i ∧ i ≤ xs.length ∧ Pv i σ H, ⟨xs.length, rfl, Nat.zero_le _, h0⟩, ?_⟩
  rintro i m σ H ⟨rfl, hi, p⟩
  have qx := hq i σ H p
  by_cases hlt : i < xs.length
  · have hx : xs[i]? = some xs[i] := List.getElem?_eq_getElem hlt
    refine .inr ⟨⟨xs, _, qx, hx⟩, Pv (i + 1), fun σ' H' p' => ⟨xs.length - (i + 1), by omega, rfl, hlt, p'⟩, fun v H' y => ?_⟩
    obtain ⟨T, x', rfl, hT, rfl, f1⟩ := y
    exact hs i x' T σ H (f1 xs qx) p hT
  · have e : i = xs.length := by omega
    subst e
    exact .inl ⟨⟨xs, qx, Nat.le_refl _⟩, hd σ H p⟩
end Bx

namespace Bx
open PySem PySem.Spec PyProof.Rows L2
theorem lay_ints : ∀ is : List Int, PyData.canLayAll0 (is.map PyData.int) = true
  | [] => by simp [PyData.canLayAll0]
  | i :: is => by simp [PyData.canLayAll0, PyData.canLay0, lay_ints is]
theorem dep_ints : ∀ is : List Int, PyData.depthAll (is.map PyData.int) ≤ 1
  | [] => by simp [PyData.depthAll]
  | i :: is => by
    have := dep_ints is
    simp [PyData.depthAll, PyData.depth]
    omega
theorem shaped_ints (is : List Int) : SeqAt.shaped (.list (is.map PyData.int)) = true := by
  unfold SeqAt.shaped
  rw [Bool.and_eq_true, decide_eq_true_eq]
  refine ⟨by simp [PyData.canLay0, lay_ints], ?_⟩
  have := dep_ints is
  simp [PyData.depth]
  omega
theorem lay_strs : ∀ {is : List Str}, (∀ x ∈ is, PyData.strOk x = true) → PyData.canLayAll0 (is.map PyData.str) = true
  | [], _ => by simp [PyData.canLayAll0]
  | i :: is, h => by simp [PyData.canLayAll0, PyData.canLay0, lay_strs fun x hx => h x (List.mem_cons_of_mem _ hx), h i List.mem_cons_self]
theorem dep_strs : ∀ is : List Str, PyData.depthAll (is.map PyData.str) ≤ 1
  | [] => by simp [PyData.depthAll]
  | i :: is => by
    have := dep_strs is
    simp [PyData.depthAll, PyData.depth]
    omega
theorem shaped_strs {is : List Str} (h : ∀ x ∈ is, PyData.strOk x = true) : SeqAt.shaped (.list (is.map PyData.str)) = true := by
  unfold SeqAt.shaped
  rw [Bool.and_eq_true, decide_eq_true_eq]
  refine ⟨by simp [PyData.canLay0, lay_strs h], ?_⟩
  have := dep_strs is
  simp [PyData.depth]
  omega
theorem dp_ints {K : PySem.W.Frag} {H : Hp} : ∀ is : List Int, DpAll K H (is.map V.int) (is.map PyData.int)
  | [] => .nil
  | i :: is => .cons (.int i) (dp_ints is)
theorem dp_strs {K : PySem.W.Frag} {H : Hp} : ∀ is : List Str, DpAll K H (is.map V.str) (is.map PyData.str)
  | [] => .nil
  | i :: is => .cons (.str i) (dp_strs is)
theorem eqv_strs : ∀ {xs ys : List Str}, PyData.eqvAll (xs.map PyData.str) (ys.map PyData.str) = true ↔ xs = ys
  | [], [] => by simp [PyData.eqvAll]
  | [], _ :: _ => by simp [PyData.eqvAll]
  | _ :: _, [] => by simp [PyData.eqvAll]
  | x :: xs, y :: ys => by
    have e := @eqv_strs xs ys
    simp [PyData.eqvAll, PyData.eqv, e]
theorem eqv_ints : ∀ {xs ys : List Int}, PyData.eqvAll (xs.map PyData.int) (ys.map PyData.int) = true ↔ xs = ys
  | [], [] => by simp [PyData.eqvAll]
  | [], _ :: _ => by simp [PyData.eqvAll]
  | _ :: _, [] => by simp [PyData.eqvAll]
  | x :: xs, y :: ys => by
    have e := @eqv_ints xs ys
    simp [PyData.eqvAll, PyData.eqv, e]
theorem But.tupW {K : PySem.W.Frag} {l : Addr} {ws : List V} {H H' : Hp} {a : Addr} {xs : List V} (hw : H l = some (.lst ws)) (e : But l H H') (h : SqT K H a xs) : SqT K H' a xs := by
  rcases h with (h | ⟨o, h⟩) | h
  · exact .inl (.inl (e _ _ h (ne_of h hw (by intro q; cases q))))
  · exact .inl (.inr ⟨o, e _ _ h (ne_of h hw (by intro q; cases q))⟩)
  · exact .inr h
theorem at_lastI {is : List Int} (h : is ≠ []) : ∃ a, a ∈ is ∧ atI (is.map V.int) (-1) = some (.int a) ∧ is[is.length - 1]? = some a := by
  obtain ⟨init, a, rfl⟩ : ∃ init a, is = init ++ [a] := ⟨is.dropLast, is.getLast h, (List.dropLast_concat_getLast h).symm⟩
  refine ⟨a, by simp, ?_, by simp⟩
  rw [List.map_append]
  exact atI_last _ _
theorem flat_ints (is : List Int) : (is.map V.int).all flatV = true := by
  rw [List.all_eq_true]
  intro x hx
  obtain ⟨i, _, rfl⟩ := List.mem_map.mp hx
  rfl
theorem inV_ints {i : Int} {is : List Int} : inV (.int i) (is.map V.int) = decide (i ∈ is) := by
  unfold inV
  rw [Bool.eq_iff_iff, List.any_eq_true, decide_eq_true_eq]
  constructor
  · rintro ⟨x, hx, e⟩
    obtain ⟨j, hj, rfl⟩ := List.mem_map.mp hx
    have : j = i := by simpa [eqV] using e
    exact this ▸ hj
  · intro h
    exact ⟨.int i, List.mem_map_of_mem h, by simp [eqV]⟩
theorem But.mut {l : Addr} {H H' : Hp} {p : Addr} {o : HO} (e : But l H H') (h : H p = Option.none) : But l H (L2.upd H' p o) := fun a u ha n => by
  rw [upd_ne (ne_of_none ha h)]
  exact e a u ha n
theorem But.lst {l : Addr} {H H' : Hp} {a : Addr} {o : HO} (e : But l H H') (h : H a = some o) (n : a ≠ l) : H' a = some o := e a o h n
/-! the same rules by the frame's own K (within a comprehension) -/
section
variable {X : Cx} (K : PySem.W.Frag)
theorem ixLK (h : X.K = K := by rfl) : IxR X (rIxL K) := by subst h; exact ix_list
theorem ixTK (h : X.K = K := by rfl) : IxR X (rIxT K) := by subst h; exact ix_tup
theorem inK (h : X.K = K := by rfl) : OpR X (compareOp .In) (rIn K false) := by subst h; exact op_in_seq
theorem notInK (h : X.K = K := by rfl) : OpR X (compareOp .NotIn) (rIn K true) := by subst h; exact op_notIn_seq
theorem isiK (h : X.K = K := by rfl) : CallR X (.builtin "isinstance") (rIsi K) := by subst h; exact call_isi
theorem lenK (h : X.K = K := by rfl) : CallR X (.builtin "len") (Evl.rLenS K) := by subst h; exact call_len_seq
end
end Bx

namespace Bx
open PySem PySem.Spec PyProof.Rows L2
/-! {k: v for a in A for b in B}: two clauses -/
theorem dcompTurn2_out (kx vx t0 i0 t1 i1 : Expr) (ifs0 ifs1 : List Expr) (scope : Scope) (pos : Pos) (it : Value) (acc : Addr) (env : Env) :
    compTurn (.DictComp kx vx [⟨t0, i0, ifs0, 0⟩, ⟨t1, i1, ifs1, 0⟩] scope pos) 0 it (.ref acc) env = (do
      standAt i0.pos
      match ← pyNext it with
      | none => pure (.done .next)
      | some v =>
        letOwnedTupleGo t0 it v
        assign t0 env v
        let mut ok := true
        for c in ifs0 do
          if ok then ok ← isTrue c env (eval c env)
        if ok then
          let x ← eval i1 env
          standAt i1.pos
          let x ← foldedSetIterable i1 env x
          let _ ← runOwn (.compStart (.DictComp kx vx [⟨t0, i0, ifs0, 0⟩, ⟨t1, i1, ifs1, 0⟩] scope pos) 1 (← holding [x] (pyIter x)) (.ref acc) env) env
        again (.compLoop (.DictComp kx vx [⟨t0, i0, ifs0, 0⟩, ⟨t1, i1, ifs1, 0⟩] scope pos) 0 it (.ref acc) env)) := by rfl
theorem dcompTurn2_in (kx vx t0 i0 t1 i1 : Expr) (ifs0 ifs1 : List Expr) (scope : Scope) (pos : Pos) (it : Value) (acc : Addr) (env : Env) :
    compTurn (.DictComp kx vx [⟨t0, i0, ifs0, 0⟩, ⟨t1, i1, ifs1, 0⟩] scope pos) 1 it (.ref acc) env = (do
      standAt i1.pos
      match ← pyNext it with
      | none => pure (.done .next)
      | some v =>
        letOwnedTupleGo t1 it v
        assign t1 env v
        let mut ok := true
        for c in ifs1 do
          if ok then ok ← isTrue c env (eval c env)
        if ok then
          (do
            let kv ← eval kx env
            let vv ← holding [kv] (eval vx env)
            standAt { kx.pos with endLine := vx.pos.endLine, endCol := vx.pos.endCol }
            holding [kv, vv] (dictSet acc kv vv))
        again (.compLoop (.DictComp kx vx [⟨t0, i0, ifs0, 0⟩, ⟨t1, i1, ifs1, 0⟩] scope pos) 1 it (.ref acc) env)) := by rfl

section
variable {prog : Program} {w : World} {A : Around} {R : Result → Shared → Prop} {s : Shared} {kx vx t0 i0 t1 i1 : Expr} {ifs0 ifs1 : List Expr} {scope : Scope} {pos : Pos} {it : Value} {acc : Addr} {env : Env}
theorem dcompLoop2_out (hs : ∀ x, foldedSetIterable i1 env x = pure x) (I : Nat → Shared → Prop)
    (turn : ∀ n s, I n s → wpAny (model prog w) A (pyNext it) (fun r s₁ => match r with
      | none => R (.ok .next) s₁
      | some v => wpAny (model prog w) A (letOwnedTupleGo t0 it v) (fun _ s₁' => wpAny (model prog w) A (assign t0 env v) (fun _ s₂ =>
          wpAny (model prog w) A (forIn ifs0 true fun c r => if r = true then do let ok ← isTrue c env (eval c env); pure (ForInStep.yield ok) else pure (ForInStep.yield r)) (fun ok s₃ =>
            if ok = true then wpAny (model prog w) A (eval i1 env) (fun x s₄ => wpAny (model prog w) A (pyIter x) (fun it1 s₅ =>
              codeAny (model prog w) A (.compStart (.DictComp kx vx [⟨t0, i0, ifs0, 0⟩, ⟨t1, i1, ifs1, 0⟩] scope pos) 1 it1 (.ref acc) env) (fun r s' => match r with
                | .ok _ => ∃ m, m < n ∧ I m s'
                | .error _ => False) s₅) (notedBy (model prog w) A env fun e s' => R (.error e) s') s₄) (notedBy (model prog w) A env fun e s' => R (.error e) s') s₃
            else ∃ m, m < n ∧ I m s₃) (notedBy (model prog w) A env fun e s' => R (.error e) s') s₂) (notedBy (model prog w) A env fun e s' => R (.error e) s') s₁') (notedBy (model prog w) A env fun e s' => R (.error e) s') s₁) (notedBy (model prog w) A env fun e s' => R (.error e) s') s)
    (n : Nat) (h : I n s) :
    codeAny (model prog w) A (.compLoop (.DictComp kx vx [⟨t0, i0, ifs0, 0⟩, ⟨t1, i1, ifs1, 0⟩] scope pos) 0 it (.ref acc) env) R s := by
  refine codeAny_loop rfl I (fun n s hI => ?_) n h
  show wpAny _ A ((compTurn (.DictComp kx vx [⟨t0, i0, ifs0, 0⟩, ⟨t1, i1, ifs1, 0⟩] scope pos) 0 it (.ref acc) env).onRaise (fun x => do noteFrame x env; theTreesLotGoes x)) _ _ s
  refine wpAny_noted ?_
  rw [dcompTurn2_out]
  refine wpAny_bind (wpAny_standAt (wpAny_bind (wpAny_mono (turn n s hI) (fun r s₁ h₁ => ?_) fun _ _ h' => h')))
  cases r with
  | none => exact wpAny_pure h₁
  | some v =>
    refine wpAny_bind (wpAny_mono h₁ (fun _ s₁' h₁' => ?_) fun _ _ h' => h')
    refine wpAny_bind (wpAny_mono h₁' (fun _ s₂ h₂ => wpAny_bind (wpAny_mono h₂ (fun ok s₃ h₃ => ?_) fun _ _ h' => h')) fun _ _ h' => h')
    cases ok with
    | false => exact wpAny_pure ⟨rfl, h₃⟩
    | true =>
      refine wpAny_bind (wpAny_mono h₃ (fun x s₄ h₄ => ?_) fun _ _ h' => h')
      refine wpAny_bind (wpAny_standAt (wpAny_bind (wpAny_of_eq (hs x) (wpAny_bind (wpAny_holding (wpAny_mono h₄ (fun it1 s₅ h₅ => ?_) fun _ _ h' => h'))))))
      refine wpAny_bind (wpAny_runOwn ?_)
      rw [Around.mark_none]
      refine codeAny_mono h₅ fun r s' hr => ?_
      cases r with
      | ok f =>
        first
          | exact wpAny_pure ⟨rfl, hr⟩
          | exact wpAny_bind (wpAny_pure (wpAny_pure ⟨rfl, hr⟩))
      | error e => exact hr.elim
theorem dcompLoop2_in (I : Nat → Shared → Prop)
    (turn : ∀ n s, I n s → wpAny (model prog w) A (pyNext it) (fun r s₁ => match r with
      | none => R (.ok .next) s₁
      | some v => wpAny (model prog w) A (letOwnedTupleGo t1 it v) (fun _ s₁' => wpAny (model prog w) A (assign t1 env v) (fun _ s₂ =>
          wpAny (model prog w) A (forIn ifs1 true fun c r => if r = true then do let ok ← isTrue c env (eval c env); pure (ForInStep.yield ok) else pure (ForInStep.yield r)) (fun ok s₃ =>
            if ok = true then wpAny (model prog w) A (eval kx env) (fun kv s₄ => wpAny (model prog w) A (eval vx env) (fun vv s₅ =>
              wpAny (model prog w) A (dictSet acc kv vv) (fun _ s₆ => ∃ m, m < n ∧ I m s₆) (notedBy (model prog w) A env fun e s' => R (.error e) s') s₅) (notedBy (model prog w) A env fun e s' => R (.error e) s') s₄) (notedBy (model prog w) A env fun e s' => R (.error e) s') s₃
            else ∃ m, m < n ∧ I m s₃) (notedBy (model prog w) A env fun e s' => R (.error e) s') s₂) (notedBy (model prog w) A env fun e s' => R (.error e) s') s₁') (notedBy (model prog w) A env fun e s' => R (.error e) s') s₁) (notedBy (model prog w) A env fun e s' => R (.error e) s') s)
    (n : Nat) (h : I n s) :
    codeAny (model prog w) A (.compLoop (.DictComp kx vx [⟨t0, i0, ifs0, 0⟩, ⟨t1, i1, ifs1, 0⟩] scope pos) 1 it (.ref acc) env) R s := by
  refine codeAny_loop rfl I (fun n s hI => ?_) n h
  show wpAny _ A ((compTurn (.DictComp kx vx [⟨t0, i0, ifs0, 0⟩, ⟨t1, i1, ifs1, 0⟩] scope pos) 1 it (.ref acc) env).onRaise (fun x => do noteFrame x env; theTreesLotGoes x)) _ _ s
  refine wpAny_noted ?_
  rw [dcompTurn2_in]
  refine wpAny_bind (wpAny_standAt (wpAny_bind (wpAny_mono (turn n s hI) (fun r s₁ h₁ => ?_) fun _ _ h' => h')))
  cases r with
  | none => exact wpAny_pure h₁
  | some v =>
    refine wpAny_bind (wpAny_mono h₁ (fun _ s₁' h₁' => ?_) fun _ _ h' => h')
    refine wpAny_bind (wpAny_mono h₁' (fun _ s₂ h₂ => wpAny_bind (wpAny_mono h₂ (fun ok s₃ h₃ => ?_) fun _ _ h' => h')) fun _ _ h' => h')
    cases ok with
    | false => exact wpAny_pure ⟨rfl, h₃⟩
    | true =>
      exact wpAny_bind (wpAny_bind (wpAny_mono h₃ (fun kv s₄ h₄ => wpAny_bind (wpAny_holding (wpAny_mono h₄ (fun vv s₅ h₅ => wpAny_bind (wpAny_standAt (wpAny_holding (wpAny_mono h₅ (fun _ s₆ h₆ => wpAny_pure ⟨rfl, h₆⟩) fun _ _ h' => h')))) fun _ _ h' => h'))) fun _ _ h' => h'))
theorem dcompStart1_ok (h0 : codeAny (model prog w) A (.compLoop (.DictComp kx vx [⟨t0, i0, ifs0, 0⟩, ⟨t1, i1, ifs1, 0⟩] scope pos) 1 it (.ref acc) env) R s)
    (h : wpAny (model prog w) A (pyIter it) (fun it' s' => codeAny (model prog w) A (.compLoop (.DictComp kx vx [⟨t0, i0, ifs0, 0⟩, ⟨t1, i1, ifs1, 0⟩] scope pos) 1 it' (.ref acc) env) R s')
      (notedBy (model prog w) A env fun x s' => R (.error x) s') s) :
    codeAny (model prog w) A (.compStart (.DictComp kx vx [⟨t0, i0, ifs0, 0⟩, ⟨t1, i1, ifs1, 0⟩] scope pos) 1 it (.ref acc) env) R s := by
  refine codeAny_of_tree ?_
  show wpAny _ _ ((compStart (.DictComp kx vx [⟨t0, i0, ifs0, 0⟩, ⟨t1, i1, ifs1, 0⟩] scope pos) 1 it (.ref acc) env).onRaise (fun x => do noteFrame x env; standAt theWindowsPlace)) _ _ s
  refine wpAny_notedAt ?_
  unfold compStart
  show wpAny _ _ (ask >>= _) _ _ s
  refine wpAny_bind (wpAny_askSetting (wpAny_ite ?_))
  split
  · first
      | exact wpAny_bind (wpAny_pure (wpAny_pure (And.intro rfl h0)))
      | exact wpAny_pure (And.intro rfl h0)
  · first
      | exact wpAny_bind (wpAny_rule (wpAny_bind (wpAny_standAt (wpAny_bind (wpAny_mono h (fun it' s' h' => wpAny_pure (And.intro rfl h')) fun _ _ x => x)))))
      | (refine wpAny_bind (wpAny_rule ?_); show wpAny _ _ (standAt i1.pos >>= _) _ _ s; exact wpAny_bind (wpAny_standAt (wpAny_bind (wpAny_mono h (fun it' s' h' => wpAny_pure (And.intro rfl h')) fun _ _ x => x))))
end

section
variable {X : Cx}
def tDc2 (wi : TI) (g : TG) (tt : TT) (wi1 : TI) (g1 : TG) (tt1 : TT) (tk tv : TE) (vs vs1 : List Nat) : TE := fun σ H Q => wi σ H fun J H1 => ∀ D, H1 D = none → ∃ W : Nat → Nat → Hp → Prop, (∃ m, W 0 m (upd H1 D (.dK []))) ∧ ∀ i m H, W i m H →
  (J.stop i H ∧ Q (.ref D) H) ∨ (J.go i H ∧ ∃ Nx : Hp → Prop, (∀ H', Nx H' → ∃ m', m' < m ∧ W (i + 1) m' H') ∧ ∀ x H', J.yld i H x H' → g x (wipe σ vs) H' fun σ2 H2 => wipe σ2 vs = wipe σ vs ∧ tt σ2 H2 fun b H3 =>
    if b = true then wi1 σ2 H3 fun J1 H4 => ∃ W1 : Nat → Nat → Hp → Prop, (∃ m, W1 0 m H4) ∧ ∀ j k H, W1 j k H →
      (J1.stop j H ∧ Nx H) ∨ (J1.go j H ∧ ∃ Nx1 : Hp → Prop, (∀ H', Nx1 H' → ∃ k', k' < k ∧ W1 (j + 1) k' H') ∧ ∀ x H', J1.yld j H x H' → g1 x (wipe σ2 vs1) H' fun σ3 H5 => wipe σ3 vs1 = wipe σ2 vs1 ∧ tt1 σ3 H5 fun b H6 =>
        if b = true then tk σ3 H6 fun y H7 => tv σ3 H7 fun z H8 => ∃ kvs k, y = kV k ∧ H8 D = some (.dK kvs) ∧ kvs.length < sizeLine ∧ Nx1 (upd H8 D (.dK (putK kvs k z))) else Nx1 H6)
    else Nx H3)
theorem dc2_core {pins : List (Addr × Obj)} {s : Shared} {σ : L2.St} {H : Hp} {Q : VK} {kx vx tg iter tg1 iter1 : Expr} {ifs ifs1 : List Expr} {scope : Scope} {own : List (Str × Nat)} {vs1 : List Nat} {pos pos' : Pos} {wi wi1 : TI} {g g1 : TG} {tt tt1 : TT} {tk tv : TE} {use : Option (Value → Sem Unit)} {Qf : Value → Shared → Prop}
    (hc : X.calm = true) (hN : X.N.Nodup) (I : Inv X pins σ H s) (hi : PI X tg iter wi) (ok : BlkOk X.N X.env.scope scope own) (hv : ∀ i ∈ vs1, i ∈ own.map (·.2))
    (hg : ∀ (s : Shared) (H : Hp) (C : Addr) (cl : List (Str × Addr)) (fp : List Addr), PG (X.blk s H scope (compEnvC scope cl C X.env) fp) tg g) (ht : ∀ (s : Shared) (H : Hp) (C : Addr) (cl : List (Str × Addr)) (fp : List Addr), PTs (X.blk s H scope (compEnvC scope cl C X.env) fp) ifs tt)
    (hk : ∀ (s : Shared) (H : Hp) (C : Addr) (cl : List (Str × Addr)) (fp : List Addr), PE (X.blk s H scope (compEnvC scope cl C X.env) fp) kx tk) (he : ∀ (s : Shared) (H : Hp) (C : Addr) (cl : List (Str × Addr)) (fp : List Addr), PE (X.blk s H scope (compEnvC scope cl C X.env) fp) vx tv) (hs : ∀ x, foldedSetIterable iter X.env x = pure x)
    (hi1 : ∀ (s : Shared) (H : Hp) (C : Addr) (cl : List (Str × Addr)) (fp : List Addr), PI (X.blk s H scope (compEnvC scope cl C X.env) fp) tg1 iter1 wi1)
    (hg1 : ∀ (s : Shared) (H : Hp) (C : Addr) (cl : List (Str × Addr)) (fp : List Addr), PG (X.blk s H scope (compEnvC scope cl C X.env) fp) tg1 g1)
    (ht1 : ∀ (s : Shared) (H : Hp) (C : Addr) (cl : List (Str × Addr)) (fp : List Addr), PTs (X.blk s H scope (compEnvC scope cl C X.env) fp) ifs1 tt1)
    (hs1 : ∀ env x, foldedSetIterable iter1 env x = pure x)
    (h : tDc2 wi g tt wi1 g1 tt1 tk tv (own.map (·.2)) vs1 σ H Q)
    (hback : ∀ D C s' m H', Inv X pins σ H' s' → Q (.ref D) H' → s'.heap.Ns C m → FpOk X pins H' C → compPost (model X.prog X.w) X.A X.xe use Qf (.ref D) C (.ok .next) s') :
    wpAny (model X.prog X.w) X.A (comprehension (.DictComp kx vx [⟨tg, iter, ifs, 0⟩, ⟨tg1, iter1, ifs1, 0⟩] scope pos) scope X.env pos' newDict false (eval iter X.env) use) Qf X.xe s := by
  have hcells : ∀ y ∈ scope.names, y.2 = .free → ∃ c, X.env.cells.lookup y.1 = some c := fun y hy e => by
    rcases ok.free y hy e with k | k
    · exact I.ok.has _ (.inl k)
    · exact I.ok.has _ (.inr k)
  refine wpAny_comprehension_free (use := use) rfl hs (closure_ok hcells) ok.kind (fun y hy e => by rw [ok.uniq y hy, e])
    (thn (hi.run pins s σ H _ I h) fun srcv s1 hx => thn hx fun itval s2 h2 => ?_)
  obtain ⟨it, fp, tn, J, H2, e, I2, T, st2, f2, q⟩ := h2
  subst e
  refine wpAny_newObj_type (newEnv_comp ?_)
  generalize hD : s2.heap.objs.size = D
  have hDn : H2 D = none := I2.hok.fresh (Nat.le_of_eq hD)
  obtain ⟨W, ⟨m0, w0⟩, turn⟩ := q D hDn
  -- the new list
  generalize hs3 : ({ s2 with heap := s2.heap.push { cls := .type "dict", data := .dict #[] } } : Shared) = s3
  have I3 : Inv X pins σ (upd H2 D (.dK [])) s3 := by
    rw [← hs3]
    refine I2.laid (t' := s2.toks) (fun b o e => Heap.get?_push_of_some _ e) (Nat.le_of_eq hD) ?_
    rw [← hD]
    exact dk_empty s2.heap I2.big
  have h3 : s3.heap = s2.heap.push { cls := .type "dict", data := .dict #[] } := by rw [← hs3]
  have sz : ∀ b ∈ fp, b < s2.heap.objs.size := fun b hb => by
    obtain ⟨o, e, _⟩ := T.obj _ _ st2 b hb
    exact Heap.lt_size e
  have f3 : ∀ b ∈ fp, FpOk X pins (upd H2 D (.dK [])) b ∧ b < s3.heap.objs.size := fun b hb => by
    have hlt := sz b hb
    refine ⟨⟨?_, (f2 b hb).2⟩, by rw [h3, Heap.size_push]; exact Nat.lt_succ_of_lt hlt⟩
    rw [upd_ne (by rw [← hD]; exact Nat.ne_of_lt hlt)]
    exact (f2 b hb).1
  have st3 : tn 0 s3.heap := T.keep _ _ _ st2 fun b _ o e => by rw [h3]; exact Heap.get?_push_of_some _ e
  have I4 := block_start I3 ok hN f3
  have pg := hg s3 (upd H2 D (.dK [])) s3.heap.objs.size (cellsFrom (s3.heap.objs.size + 1) scope.names (cloFrom X.env.cells scope.names [])) fp
  have pt := ht s3 (upd H2 D (.dK [])) s3.heap.objs.size (cellsFrom (s3.heap.objs.size + 1) scope.names (cloFrom X.env.cells scope.names [])) fp
  have pk := hk s3 (upd H2 D (.dK [])) s3.heap.objs.size (cellsFrom (s3.heap.objs.size + 1) scope.names (cloFrom X.env.cells scope.names [])) fp
  have pe := he s3 (upd H2 D (.dK [])) s3.heap.objs.size (cellsFrom (s3.heap.objs.size + 1) scope.names (cloFrom X.env.cells scope.names [])) fp
  have pi1 := hi1 s3 (upd H2 D (.dK [])) s3.heap.objs.size (cellsFrom (s3.heap.objs.size + 1) scope.names (cloFrom X.env.cells scope.names [])) fp
  have pg1 := hg1 s3 (upd H2 D (.dK [])) s3.heap.objs.size (cellsFrom (s3.heap.objs.size + 1) scope.names (cloFrom X.env.cells scope.names [])) fp
  have pt1 := ht1 s3 (upd H2 D (.dK [])) s3.heap.objs.size (cellsFrom (s3.heap.objs.size + 1) scope.names (cloFrom X.env.cells scope.names [])) fp
  show codeAny _ _ (.compStart (.DictComp kx vx [⟨tg, iter, ifs, 0⟩, ⟨tg1, iter1, ifs1, 0⟩] scope pos) 0 (.ref it) (.ref D) (compEnvC scope (cellsFrom (s3.heap.objs.size + 1) scope.names (cloFrom X.env.cells scope.names [])) s3.heap.objs.size X.env)) (compPost (model X.prog X.w) X.A X.xe use Qf (.ref D) s3.heap.objs.size) { s3 with heap := pushCells (s3.heap.push { cls := .type "dict", data := .dict #[] }) scope.names }
  have offp : ∀ b ∈ fp, (upd H2 D (.dK [])) b = none := fun b hb => (f3 b hb).1.1
  generalize hce : compEnvC scope (cellsFrom (s3.heap.objs.size + 1) scope.names (cloFrom X.env.cells scope.names [])) s3.heap.objs.size X.env = ce at I4 pg pt pk pe pi1 pg1 pt1 ⊢
  have cL : ce.locals = s3.heap.objs.size := by subst hce; rfl
  generalize hH3 : upd H2 D (.dK []) = H3 at I3 I4 pg pt pk pe pi1 pg1 pt1 w0 offp f3
  generalize hs4 : ({ s3 with heap := pushCells (s3.heap.push { cls := .type "dict", data := .dict #[] }) scope.names } : Shared) = s4 at I4 ⊢
  have st4 : tn 0 s4.heap := T.keep _ _ _ st3 fun b _ o e => by rw [← hs4]; exact pushCells_keeps _ _ _ _ (Heap.get?_push_of_some _ e)
  have quiet : ∀ {σ' : L2.St} {H' : Hp} {s' : Shared}, Inv (X.blk s3 H3 scope ce fp) [] σ' H' s' → (∀ b ∈ fp, H' b = none) → ∀ b ∈ fp, FpOk (X.blk s3 H3 scope ce fp) [] H' b := fun {σ' H' s'} I' hn b hb =>
    ⟨hn b hb, (I'.ok.exf b hb).1, I'.ok.exfs b hb, .inl hb, fun x c e => (I'.ok.exf b hb).2 x c e, fun p hp => absurd (show p ∈ ([] : List (Addr × Obj)) ++ [] from hp) (by simp)⟩
  have loop : codeAny (model X.prog X.w) X.A (.compLoop (.DictComp kx vx [⟨tg, iter, ifs, 0⟩, ⟨tg1, iter1, ifs1, 0⟩] scope pos) 0 (.ref it) (.ref D) ce) (compPost (model X.prog X.w) X.A X.xe use Qf (.ref D) s3.heap.objs.size) s4 := by
    refine dcompLoop2_out (hs1 ce) (fun n s' => ∃ i H', Inv (X.blk s3 H3 scope ce fp) [] (wipe σ (own.map (·.2))) H' s' ∧ tn i s'.heap ∧ (∀ b ∈ fp, H' b = none) ∧ W i n H') ?_ m0 ⟨0, H3, I4, st4, offp, w0⟩
    rintro n s5 ⟨i, H5, I5, st5, n5, w5⟩
    rcases turn i n H5 w5 with ⟨stop, qq⟩ | ⟨go, Nx, hNx, step⟩
    · have td := T.done (X.blk s3 H3 scope ce fp) rfl rfl rfl hc i [] s5 _ H5 (fun _ _ => False) I5 (quiet I5 n5) st5 stop
      refine thnF td fun r s6 ⟨hr, I6⟩ => ?_
      subst hr
      -- back in the def's context
      have I7 : Inv X pins σ H5 s6 := I3.call' (ch := fp) I6.os I6.base I6.hok I6.bare fun b hb => ⟨(f3 b hb).1.2.2.2.1, (f3 b hb).1.2.1, (f3 b hb).1.2.2.2.2.1, (f3 b hb).1.2.2.2.2.2⟩
      have nC : H5 s3.heap.objs.size = none := by
        have z : H5 ce.locals = none := I6.free
        rw [cL] at z
        exact z
      obtain ⟨m, hn, _⟩ := I6.loc
      have hn : s6.heap.Ns ce.locals m := hn
      rw [cL] at hn
      exact hback D s3.heap.objs.size s6 m H5 I7 qq hn (I3.fpOk (Nat.le_refl _) nC)
    · have ti := T.item (X.blk s3 H3 scope ce fp) rfl rfl rfl hc i [] s5 _ H5 (fun _ _ => False) I5 (quiet I5 n5) st5 go
      refine thnF ti fun r s6 ⟨u, hr, h6⟩ => ?_
      subst hr
      refine thnF h6 fun _ s7 ⟨x, H7, I7, r7, y7, st7, n7⟩ => ?_
      have I7' := I7.pinned (quiet I7 n7) (T.obj _ _ st7)
      refine thnF (pg.run _ s7 _ H7 x u _ I7' r7 (step x H7 y7)) fun _ s8 ⟨σ8, H8, I8, hw8, q8⟩ => ?_
      refine thnF (pt.run _ s8 σ8 H8 _ I8 q8) fun b s9 ⟨H9, I9, q9⟩ => ?_
      -- the turn's end, from any slots that know what the block knew at its start
      have shut : ∀ {σ9 : L2.St} {s' : Shared} {H' : Hp}, Inv (X.blk s3 H3 scope ce fp) ([] ++ pinsAt fp s7.heap) σ9 H' s' → (wipe σ (own.map (·.2))).length = σ9.length → (∀ (j : Nat) v, (wipe σ (own.map (·.2)))[j]? = some (some v) → σ9[j]? = some (some v)) → Nx H' →
          ∃ m, m < n ∧ ∃ i H', Inv (X.blk s3 H3 scope ce fp) [] (wipe σ (own.map (·.2))) H' s' ∧ tn i s'.heap ∧ (∀ b ∈ fp, H' b = none) ∧ W i m H' := fun {σ9 s' H'} I' hl hk nx => by
        obtain ⟨m', hm, w'⟩ := hNx H' nx
        have kept : ∀ b ∈ fp, ∀ o, s7.heap.get? b = some o → s'.heap.get? b = some o ∧ H' b = none := fun b hb o e =>
          let z := I'.pin (b, o) (List.mem_append_right _ (List.mem_append_right _ (mem_pinsAt hb e)))
          ⟨z.1, z.2.1⟩
        refine ⟨m', hm, i + 1, H', (I'.unpinned (pins := [])).weak hl hk, T.keep _ _ _ st7 fun b hb o e => (kept b hb o e).1, fun b hb => ?_, w'⟩
        obtain ⟨o, e, _⟩ := T.obj _ _ st7 b hb
        exact (kept b hb o e).2
      have len8 : (wipe σ (own.map (·.2))).length = σ8.length := by rw [← hw8, wipe_length]
      have know8 : ∀ (j : Nat) v, (wipe σ (own.map (·.2)))[j]? = some (some v) → σ8[j]? = some (some v) := fun j v e => by
        rw [← hw8] at e
        exact (wipe_some e).1
      have know9 : ∀ (j : Nat) v, (wipe σ (own.map (·.2)))[j]? = some (some v) → (wipe σ8 vs1)[j]? = some (some v) := fun j v e => by
        rw [← hw8] at e
        obtain ⟨e1, e2⟩ := wipe_some e
        rw [wipe_out fun z => e2 (hv j z)]
        exact e1
      cases b with
      | false =>
        simp only [Bool.false_eq_true, if_false] at q9 ⊢
        exact shut I9 len8 know8 q9
      | true =>
        simp only [if_true] at q9 ⊢
        refine thnF (pi1.run _ s9 σ8 H9 _ I9 q9) fun srcv s10 hx => thnF hx fun itval s11 h11 => ?_
        obtain ⟨it1, fp1, tn1, J1, H11, e1, I11, T1, st11, f11, W1, ⟨m1, w1⟩, turn1⟩ := h11
        subst e1
        -- the inner loop
        have quiet1 : ∀ {H' : Hp}, (∀ b ∈ fp1, H' b = none) → ∀ b ∈ fp1, FpOk (X.blk s3 H3 scope ce fp) ([] ++ pinsAt fp s7.heap) H' b := fun hn b hb => ⟨hn b hb, (f11 b hb).2⟩
        have inner : codeAny (model X.prog X.w) X.A (.compLoop (.DictComp kx vx [⟨tg, iter, ifs, 0⟩, ⟨tg1, iter1, ifs1, 0⟩] scope pos) 1 (.ref it1) (.ref D) ce)
            (fun r s' => match r with
              | .ok _ => ∃ m, m < n ∧ ∃ i H', Inv (X.blk s3 H3 scope ce fp) [] (wipe σ (own.map (·.2))) H' s' ∧ tn i s'.heap ∧ (∀ b ∈ fp, H' b = none) ∧ W i m H'
              | .error _ => False) s11 := by
          refine dcompLoop2_in (fun k s' => ∃ j H', Inv (X.blk s3 H3 scope ce fp) ([] ++ pinsAt fp s7.heap) (wipe σ8 vs1) H' s' ∧ tn1 j s'.heap ∧ (∀ b ∈ fp1, H' b = none) ∧ W1 j k H') ?_ m1 ⟨0, H11, I11.weak (wipe_length _ _) (fun j v e => (wipe_some e).1), st11, fun b hb => (f11 b hb).1, w1⟩
          rintro k s12 ⟨j, H12, I12, st12, n12, w12⟩
          rcases turn1 j k H12 w12 with ⟨stop1, nx1⟩ | ⟨go1, Nx1, hNx1, step1⟩
          · refine thnF (T1.done (X.blk s3 H3 scope ce fp) rfl rfl rfl hc j _ s12 (wipe σ8 vs1) H12 (fun _ _ => False) I12 (quiet1 n12) st12 stop1) fun r s13 ⟨hr, I13⟩ => ?_
            subst hr
            exact shut I13 (len8.trans (wipe_length σ8 vs1).symm) know9 nx1
          · refine thnF (T1.item (X.blk s3 H3 scope ce fp) rfl rfl rfl hc j _ s12 (wipe σ8 vs1) H12 (fun _ _ => False) I12 (quiet1 n12) st12 go1) fun r s13 ⟨u1, hr, h13⟩ => ?_
            subst hr
            refine thnF h13 fun _ s14 ⟨x1, H14, I14, r14, y14, st14, n14⟩ => ?_
            have I14' := I14.pinned (quiet1 n14) (T1.obj _ _ st14)
            refine thnF (pg1.run _ s14 (wipe σ8 vs1) H14 x1 u1 _ I14' r14 (step1 x1 H14 y14)) fun _ s15 ⟨σ15, H15, I15, hw15, q15⟩ => ?_
            refine thnF (pt1.run _ s15 σ15 H15 _ I15 q15) fun b1 s16 ⟨H16, I16, q16⟩ => ?_
            have shut1 : ∀ {s' : Shared} {H' : Hp}, Inv (X.blk s3 H3 scope ce fp) (([] ++ pinsAt fp s7.heap) ++ pinsAt fp1 s14.heap) σ15 H' s' → Nx1 H' → ∃ m, m < k ∧ ∃ j H', Inv (X.blk s3 H3 scope ce fp) ([] ++ pinsAt fp s7.heap) (wipe σ8 vs1) H' s' ∧ tn1 j s'.heap ∧ (∀ b ∈ fp1, H' b = none) ∧ W1 j m H' := fun {s' H'} I' nx => by
              obtain ⟨m', hm, w'⟩ := hNx1 H' nx
              have kept : ∀ b ∈ fp1, ∀ o, s14.heap.get? b = some o → s'.heap.get? b = some o ∧ H' b = none := fun b hb o e =>
                let z := I'.pin (b, o) (List.mem_append_right _ (List.mem_append_right _ (mem_pinsAt hb e)))
                ⟨z.1, z.2.1⟩
              refine ⟨m', hm, j + 1, H', I'.unpinned.weak (by rw [← hw15, wipe_length]) (fun j v e => by rw [← hw15] at e; exact (wipe_some e).1), T1.keep _ _ _ st14 fun b hb o e => (kept b hb o e).1, fun b hb => ?_, w'⟩
              obtain ⟨o, e, _⟩ := T1.obj _ _ st14 b hb
              exact (kept b hb o e).2
            cases b1 with
            | false =>
              simp only [Bool.false_eq_true, if_false] at q16 ⊢
              exact shut1 I16 q16
            | true =>
              simp only [if_true] at q16 ⊢
              refine thnF (pk.run _ s16 σ15 H16 _ I16 q16) fun z s17 ⟨yk, H17, I17, r17, q17⟩ => ?_
              refine thnF (pe.run _ s17 σ15 H17 _ I17 q17) fun z2 s18 ⟨yv, H18, I18, r18, kvs, k1, ek, hD18, hz18, nx⟩ => ?_
              subst ek
              exact d_dictSet (X := X.blk s3 H3 scope ce fp) I18 hD18 hz18 r17 r18 fun s19 I19 => shut1 I19 nx
        exact dcompStart1_ok inner (T1.self X.A 0 _ _ _ st11 inner)
  exact codeAny_compStart_dict loop (T.self X.A 0 _ _ _ st4 loop)
theorem pe_dc2 {kx vx tg iter tg1 iter1 : Expr} {ifs ifs1 : List Expr} {scope : Scope} {own : List (Str × Nat)} {vs1 : List Nat} {pos : Pos} {wi wi1 : TI} {g g1 : TG} {tt tt1 : TT} {tk tv : TE} (hc : X.calm = true) (hN : X.N.Nodup) (hi : PI X tg iter wi) (ok : BlkOk X.N X.env.scope scope own) (hv : ∀ i ∈ vs1, i ∈ own.map (·.2))
    (hg : ∀ (s : Shared) (H : Hp) (C : Addr) (cl : List (Str × Addr)) (fp : List Addr), PG (X.blk s H scope (compEnvC scope cl C X.env) fp) tg g) (ht : ∀ (s : Shared) (H : Hp) (C : Addr) (cl : List (Str × Addr)) (fp : List Addr), PTs (X.blk s H scope (compEnvC scope cl C X.env) fp) ifs tt)
    (hi1 : ∀ (s : Shared) (H : Hp) (C : Addr) (cl : List (Str × Addr)) (fp : List Addr), PI (X.blk s H scope (compEnvC scope cl C X.env) fp) tg1 iter1 wi1)
    (hg1 : ∀ (s : Shared) (H : Hp) (C : Addr) (cl : List (Str × Addr)) (fp : List Addr), PG (X.blk s H scope (compEnvC scope cl C X.env) fp) tg1 g1) (ht1 : ∀ (s : Shared) (H : Hp) (C : Addr) (cl : List (Str × Addr)) (fp : List Addr), PTs (X.blk s H scope (compEnvC scope cl C X.env) fp) ifs1 tt1)
    (hk : ∀ (s : Shared) (H : Hp) (C : Addr) (cl : List (Str × Addr)) (fp : List Addr), PE (X.blk s H scope (compEnvC scope cl C X.env) fp) kx tk) (he : ∀ (s : Shared) (H : Hp) (C : Addr) (cl : List (Str × Addr)) (fp : List Addr), PE (X.blk s H scope (compEnvC scope cl C X.env) fp) vx tv) (hs : ∀ x, foldedSetIterable iter X.env x = pure x := by intro _; rfl) (hs1 : ∀ env x, foldedSetIterable iter1 env x = pure x := by intro _ _; rfl) :
    PE X (.DictComp kx vx [⟨tg, iter, ifs, 0⟩, ⟨tg1, iter1, ifs1, 0⟩] scope pos) (tDc2 wi g tt wi1 g1 tt1 tk tv (own.map (·.2)) vs1) := by
  refine ⟨fun pins s σ H Q I h => ?_⟩
  rw [arm_eval_DictComp]
  refine dc2_core hc hN I hi ok hv hg ht hk he hs hi1 hg1 ht1 hs1 h fun D C s' m H' I' q hn f => ⟨m, hn, fun h'' sb => ?_⟩
  obtain ⟨f0, f1, f2, f3, f4, f5⟩ := f
  exact ⟨.ref D, H', I'.turned (t' := s'.toks) (fun b o hb e => (sb.2 b hb).trans e) f0 f1 f3 f4 f5, rfl, q⟩

end
section
variable {X : Cx} (K : PySem.W.Frag)
theorem pgTK {es : List Expr} {k : Nat} {pos : Pos} {t : TGs} (n : Nat) (h : PGs X es t) (hc : X.calm = true := by rfl) (hK : X.K = K := by rfl) (hn : (assignEach es X.env).length = n := by rfl) (hst : (assignEach es X.env).findIdx? (·.1) = none := by rfl) : PG X (.Tuple es k pos) (gTup K n t) := by
  subst hK
  exact pg_tup hc h hn hst
theorem piTK {tg l : Expr} {tl : TE} (hl : PE X l tl) (hK : X.K = K := by rfl) : PI X tg l (iTup K tl) := by
  subst hK
  exact pi_tup hl
theorem piLK {tg l : Expr} {tl : TE} (hl : PE X l tl) (hK : X.K = K := by rfl) : PI X tg l (iList K tl) := by
  subst hK
  exact pi_list hl
end
end Bx

/-! Lowering along literals again and again: values, or a ring. Plain mathematics. -/
namespace Bf
universe u
variable {T : Type u} [DecidableEq T]
abbrev Lit (T : Type u) := T × T × Int
/-- heights, what each was lowered by -/
structure Sta (T : Type u) where
  h : T → Int
  by_ : T → Option Nat
  low : Option T
def put {α : Type} (f : T → α) (t : T) (v : α) : T → α := fun x => if x = t then v else f x
theorem put_self {α : Type} (f : T → α) (t : T) (v : α) : put f t v t = v := if_pos rfl
theorem put_ne {α : Type} {f : T → α} {t x : T} {v : α} (h : x ≠ t) : put f t v x = f x := if_neg h
/-- one literal looked at -/
def one (s : Sta T) (at_ : Nat) (q : Lit T) : Sta T :=
  if s.h q.2.1 + q.2.2 < s.h q.1 then ⟨put s.h q.1 (s.h q.2.1 + q.2.2), put s.by_ q.1 (some at_), some q.1⟩ else s
/-- the first k literals of a pass -/
def some_ (L : List (Lit T)) (s : Sta T) : Nat → Sta T
  | 0 => s
  | k + 1 => match L[k]? with
    | some q => one (some_ L s k) k q
    | none => some_ L s k
def pass (L : List (Lit T)) (s : Sta T) : Sta T := some_ L { s with low := none } L.length
def passes (L : List (Lit T)) : Nat → Sta T
  | 0 => ⟨fun _ => 0, fun _ => none, none⟩
  | k + 1 => pass L (passes L k)
def num (L : List (Lit T)) (i : Nat) : Int := match L[i]? with
  | some q => q.2.2
  | none => 0
def tot (L : List (Lit T)) : List Nat → Int
  | [] => 0
  | i :: is => num L i + tot L is
/-- a way back along what terms were lowered by -/
inductive Pth (L : List (Lit T)) (b : T → Option Nat) : T → List Nat → T → Prop
  | nil (t : T) : Pth L b t [] t
  | cons {t r : T} {n : Int} {i : Nat} {is : List Nat} {e : T} (hb : b t = some i) (hL : L[i]? = some (t, r, n)) (p : Pth L b r is e) : Pth L b t (i :: is) e
structure Good (L : List (Lit T)) (s : Sta T) : Prop where
  own : ∀ t i, s.by_ t = some i → ∃ r n, L[i]? = some (t, r, n) ∧ s.h r + n ≤ s.h t
  root : ∀ t, s.by_ t = none → s.h t = 0
  le0 : ∀ t, s.h t ≤ 0
  ring : ∀ t is, is ≠ [] → Pth L s.by_ t is t → tot L is < 0
theorem num_at {L : List (Lit T)} {i : Nat} {q : Lit T} (h : L[i]? = some q) : num L i = q.2.2 := by
  unfold num
  rw [h]
theorem pth_le {L : List (Lit T)} {b : T → Option Nat} {h : T → Int} (own : ∀ t i, b t = some i → ∃ r n, L[i]? = some (t, r, n) ∧ h r + n ≤ h t) {t : T} {is : List Nat} {e : T} (p : Pth L b t is e) : tot L is + h e ≤ h t := by
  induction p with
  | nil t => simp [tot]
  | @cons t r n i is e hb hL p ih =>
    obtain ⟨r', n', h1, h2⟩ := own t i hb
    have e1 : (t, r, n) = (t, r', n') := Option.some.inj (hL.symm.trans h1)
    have e2 : r = r' := congrArg (fun x => x.2.1) e1
    have e3 : n = n' := congrArg (fun x => x.2.2) e1
    subst e2 e3
    have e4 : num L i = n := num_at hL
    simp only [tot]
    rw [e4]
    omega
/-- a way by the new table: an old one, or strictly lower -/
theorem pth_new {L : List (Lit T)} {s : Sta T} (G : Good L s) {l r : T} {n : Int} {i0 : Nat} (h0 : L[i0]? = some (l, r, n)) (hlt : s.h r + n < s.h l) {t : T} {is : List Nat} {e : T} (p : Pth L (put s.by_ l (some i0)) t is e) :
    (Pth L s.by_ t is e ∧ tot L is + s.h e ≤ s.h t) ∨ tot L is + s.h e < s.h t := by
  induction p with
  | nil t => exact .inl ⟨.nil t, by simp [tot]⟩
  | @cons t r' n' i is e hb hL p ih =>
    have e4 : num L i = n' := num_at hL
    simp only [tot]
    rw [e4]
    by_cases q : t = l
    · subst q
      rw [put_self] at hb
      cases hb
      have e1 : (t, r', n') = (t, r, n) := Option.some.inj (hL.symm.trans h0)
      have e2 : r' = r := congrArg (fun x => x.2.1) e1
      have e3 : n' = n := congrArg (fun x => x.2.2) e1
      subst e2 e3
      right
      rcases ih with ⟨_, h⟩ | h <;> omega
    · rw [put_ne q] at hb
      obtain ⟨r2, n2, h1, h2⟩ := G.own t i hb
      have e1 : (t, r', n') = (t, r2, n2) := Option.some.inj (hL.symm.trans h1)
      have e2 : r' = r2 := congrArg (fun x => x.2.1) e1
      have e3 : n' = n2 := congrArg (fun x => x.2.2) e1
      subst e2 e3
      rcases ih with ⟨p', h⟩ | h
      · exact .inl ⟨.cons hb hL p', by omega⟩
      · right
        omega
theorem one_good {L : List (Lit T)} {s : Sta T} (G : Good L s) {i : Nat} {q : Lit T} (hq : L[i]? = some q) : Good L (one s i q) := by
  unfold one
  split
  · rename_i hlt
    obtain ⟨l, r, n⟩ := q
    simp only at hlt hq ⊢
    refine ⟨fun t j hb => ?_, fun t hb => ?_, fun t => ?_, fun t is hne p => ?_⟩
    · by_cases e : t = l
      · subst e
        simp only [put_self] at hb ⊢
        cases hb
        refine ⟨r, n, hq, ?_⟩
        by_cases e2 : r = t
        · subst e2
          rw [put_self]
          omega
        · rw [put_ne e2]
          exact Int.le_refl _
      · simp only [put_ne e] at hb ⊢
        obtain ⟨r2, n2, h1, h2⟩ := G.own t j hb
        refine ⟨r2, n2, h1, ?_⟩
        by_cases e2 : r2 = l
        · subst e2
          rw [put_self]
          omega
        · rw [put_ne e2]
          exact h2
    · by_cases e : t = l
      · subst e
        simp only [put_self] at hb
        cases hb
      · simp only [put_ne e] at hb ⊢
        exact G.root t hb
    · by_cases e : t = l
      · subst e
        simp only [put_self]
        have := G.le0 t
        omega
      · simp only [put_ne e]
        exact G.le0 t
    · rcases pth_new G hq hlt p with ⟨p', _⟩ | h
      · exact G.ring t is hne p'
      · omega
  · exact G
theorem some_succ {L : List (Lit T)} {s : Sta T} {k : Nat} {q : Lit T} (h : L[k]? = some q) : some_ L s (k + 1) = one (some_ L s k) k q := by
  rw [some_, h]
theorem some_good {L : List (Lit T)} {s : Sta T} (G : Good L s) : ∀ k, Good L (some_ L s k)
  | 0 => G
  | k + 1 => by
    have ih := some_good G k
    unfold some_
    cases h : L[k]? with
    | none => exact ih
    | some q => exact one_good ih h
theorem good_low {L : List (Lit T)} {s : Sta T} (G : Good L s) (o : Option T) : Good L { s with low := o } := ⟨G.own, G.root, G.le0, G.ring⟩
theorem passes_good (L : List (Lit T)) : ∀ k, Good L (passes L k)
  | 0 => ⟨fun t i h => (by cases h), fun _ _ => rfl, fun _ => Int.le_refl _, fun t is hne p => by
      cases p with
      | nil => exact absurd rfl hne
      | cons hb => cases hb⟩
  | k + 1 => some_good (good_low (passes_good L k) none) _
/-! ### a pass -/
theorem one_le (s : Sta T) (i : Nat) (q : Lit T) (t : T) : (one s i q).h t ≤ s.h t := by
  unfold one
  split
  · by_cases e : t = q.1
    · subst e
      simp only [put_self]
      omega
    · simp only [put_ne e]
      exact Int.le_refl _
  · exact Int.le_refl _
theorem one_done (s : Sta T) (i : Nat) (q : Lit T) : (one s i q).h q.1 ≤ s.h q.2.1 + q.2.2 := by
  unfold one
  split
  · simp only [put_self]
    exact Int.le_refl _
  · omega
theorem some_le {L : List (Lit T)} {s : Sta T} (t : T) : ∀ k, (some_ L s k).h t ≤ s.h t
  | 0 => Int.le_refl _
  | k + 1 => by
    have ih := some_le (L := L) (s := s) t k
    unfold some_
    cases h : L[k]? with
    | none => exact ih
    | some q => exact Int.le_trans (one_le _ _ _ _) ih
theorem some_done {L : List (Lit T)} {s : Sta T} {i : Nat} {q : Lit T} (hq : L[i]? = some q) : ∀ k, i < k → (some_ L s k).h q.1 ≤ s.h q.2.1 + q.2.2
  | 0, h => absurd h (Nat.not_lt_zero i)
  | k + 1, h => by
    unfold some_
    by_cases e : i = k
    · subst e
      rw [hq]
      show (one (some_ L s i) i q).h q.1 ≤ _
      have h1 := one_done (some_ L s i) i q
      have h2 := some_le (L := L) (s := s) q.2.1 i
      omega
    · have ih := some_done (s := s) hq k (by omega)
      cases h' : L[k]? with
      | none => exact ih
      | some q' => exact Int.le_trans (one_le _ _ _ _) ih
/-- nothing lowered: all is as it was and all looked at hold -/
theorem some_none {L : List (Lit T)} {s : Sta T} (h0 : s.low = none) : ∀ k, (some_ L s k).low = none → (some_ L s k) = s ∧ ∀ i q, i < k → L[i]? = some q → s.h q.1 ≤ s.h q.2.1 + q.2.2
  | 0, _ => ⟨rfl, fun i q h => absurd h (Nat.not_lt_zero i)⟩
  | k + 1, h => by
    unfold some_ at h ⊢
    cases h' : L[k]? with
    | none =>
      rw [h'] at h
      obtain ⟨e, ih⟩ := some_none h0 k h
      refine ⟨e, fun i q hi hq => ?_⟩
      by_cases e2 : i = k
      · subst e2
        rw [h'] at hq
        cases hq
      · exact ih i q (by omega) hq
    | some q0 =>
      rw [h'] at h
      simp only at h ⊢
      have hn : (some_ L s k).low = none ∧ ¬ ((some_ L s k).h q0.2.1 + q0.2.2 < (some_ L s k).h q0.1) := by
        unfold one at h
        split at h
        · cases h
        · exact ⟨h, by assumption⟩
      obtain ⟨e, ih⟩ := some_none h0 k hn.1
      rw [e] at hn ⊢
      refine ⟨by unfold one; rw [if_neg hn.2], fun i q hi hq => ?_⟩
      by_cases e2 : i = k
      · subst e2
        rw [h'] at hq
        cases hq
        omega
      · exact ih i q (by omega) hq
/-- what was lowered last is lower, and told with what it was lowered by -/
theorem some_low {L : List (Lit T)} {s : Sta T} (h0 : s.low = none) {t : T} : ∀ k, (some_ L s k).low = some t → (some_ L s k).h t < s.h t ∧ (some_ L s k).by_ t ≠ none
  | 0, h => by
    rw [show some_ L s 0 = s from rfl, h0] at h
    cases h
  | k + 1, h => by
    unfold some_ at h ⊢
    cases h' : L[k]? with
    | none =>
      rw [h'] at h
      exact some_low h0 k h
    | some q0 =>
      rw [h'] at h
      simp only at h ⊢
      unfold one at h ⊢
      split at h
      · rename_i hlt
        rw [if_pos hlt]
        simp only at h
        cases h
        simp only [put_self]
        have := some_le (L := L) (s := s) q0.1 k
        exact ⟨by omega, by simp⟩
      · rename_i hlt
        rw [if_neg hlt]
        exact some_low h0 k h
theorem pass_le (L : List (Lit T)) (s : Sta T) (t : T) : (pass L s).h t ≤ s.h t := some_le (L := L) (s := { s with low := none }) t _
theorem pass_done {L : List (Lit T)} {s : Sta T} {i : Nat} {q : Lit T} (hq : L[i]? = some q) : (pass L s).h q.1 ≤ s.h q.2.1 + q.2.2 := some_done (s := { s with low := none }) hq _ (List.getElem?_eq_some_iff.mp hq).1
theorem passes_mono (L : List (Lit T)) (t : T) {j : Nat} : ∀ {k : Nat}, j ≤ k → (passes L k).h t ≤ (passes L j).h t
  | 0, h => by
    have e : j = 0 := by omega
    subst e
    exact Int.le_refl _
  | k + 1, h => by
    by_cases e : j = k + 1
    · subst e
      exact Int.le_refl _
    · exact Int.le_trans (pass_le _ _ _) (passes_mono L t (by omega))
/-- after as many passes as a way has steps, its end is no more above its begin than it says -/
theorem passes_way {L : List (Lit T)} {b : T → Option Nat} {t : T} {is : List Nat} {e : T} (p : Pth L b t is e) : (passes L is.length).h t ≤ tot L is := by
  induction p with
  | nil t => exact Int.le_refl _
  | @cons t r n i is e hb hL p ih =>
    have h1 := pass_done (s := passes L is.length) hL
    have e4 : num L i = n := num_at hL
    simp only [tot]
    rw [e4]
    show (pass L (passes L is.length)).h t ≤ _
    simp only at h1
    omega
/-! ### the ring -/
def nxt (L : List (Lit T)) (b : T → Option Nat) (t : T) : T := match b t with
  | some i => (match L[i]? with
    | some q => q.2.1
    | none => t)
  | none => t
def itr (L : List (Lit T)) (b : T → Option Nat) (t : T) : Nat → T
  | 0 => t
  | k + 1 => nxt L b (itr L b t k)
theorem itr_add (L : List (Lit T)) (b : T → Option Nat) (t : T) (i : Nat) : ∀ k, itr L b t (i + k) = itr L b (itr L b t i) k
  | 0 => rfl
  | k + 1 => congrArg (nxt L b) (itr_add L b t i k)
theorem nxt_at {L : List (Lit T)} {b : T → Option Nat} {t r : T} {n : Int} {i : Nat} (hb : b t = some i) (hL : L[i]? = some (t, r, n)) : nxt L b t = r := by
  unfold nxt
  rw [hb]
  show (match L[i]? with
    | some q => q.2.1
    | none => t) = r
  rw [hL]
theorem pth_itr {L : List (Lit T)} {s : Sta T} (G : Good L s) : ∀ (k : Nat) (t : T), (∀ j, j < k → s.by_ (itr L s.by_ t j) ≠ none) → ∃ is, is.length = k ∧ Pth L s.by_ t is (itr L s.by_ t k) ∧ ∀ j, j < k → is[j]? = s.by_ (itr L s.by_ t j)
  | 0, t, _ => ⟨[], rfl, .nil t, fun j h => absurd h (Nat.not_lt_zero j)⟩
  | k + 1, t, h => by
    obtain ⟨i, hi⟩ := Option.ne_none_iff_exists'.mp (h 0 (Nat.succ_pos k))
    obtain ⟨r, n, hL, _⟩ := G.own t i hi
    have en : nxt L s.by_ t = r := nxt_at hi hL
    have e : ∀ j, itr L s.by_ t (j + 1) = itr L s.by_ r j := fun j => by
      rw [Nat.add_comm, itr_add]
      show itr L s.by_ (nxt L s.by_ t) j = _
      rw [en]
    obtain ⟨is, hl, hp, ha⟩ := pth_itr G k r fun j hj => by
      rw [← e]
      exact h (j + 1) (Nat.succ_lt_succ hj)
    refine ⟨i :: is, by rw [List.length_cons, hl], ?_, fun j hj => ?_⟩
    · rw [e]
      exact .cons hi hL hp
    · cases j with
      | zero => exact hi.symm
      | succ j =>
        rw [e]
        exact ha j (by omega)
theorem nodup_map_range {f : Nat → T} {k : Nat} (h : ∀ i j, i < k → j < k → f i = f j → i = j) : ((List.range k).map f).Nodup := by
  rw [List.nodup_iff_pairwise_ne, List.pairwise_map]
  refine List.Pairwise.imp_of_mem ?_ List.nodup_range
  intro a b ha hb hne e
  exact hne (h a b (List.mem_range.mp ha) (List.mem_range.mp hb) e)
theorem len_le : ∀ {xs ys : List T}, xs.Nodup → (∀ k ∈ xs, k ∈ ys) → xs.length ≤ ys.length
  | [], _, _, _ => Nat.zero_le _
  | a :: o, ys, nd, h => by
    have ha : a ∈ ys := h a List.mem_cons_self
    have hn := List.nodup_cons.mp nd
    have e : o.length ≤ (ys.erase a).length := len_le hn.2 fun k hk => (List.mem_erase_of_ne (fun q => hn.1 (by rw [← q]; exact hk))).mpr (h k (List.mem_cons_of_mem _ hk))
    have e2 : (ys.erase a).length = ys.length - 1 := List.length_erase_of_mem ha
    have hp : 0 < ys.length := List.length_pos_of_mem ha
    rw [List.length_cons]
    omega
/-- where a pass more than there are terms still lowers, the way back from what was lowered has no end -/
theorem no_root {L : List (Lit T)} {ks : List T} (hks : ∀ q ∈ L, q.1 ∈ ks ∧ q.2.1 ∈ ks) {t : T} (hl : (passes L (ks.length + 1)).low = some t) : ∀ k, (passes L (ks.length + 1)).by_ (itr L (passes L (ks.length + 1)).by_ t k) ≠ none := by
  have G := passes_good L (ks.length + 1)
  generalize hs : passes L (ks.length + 1) = s at *
  have low : s.h t < (passes L ks.length).h t := by
    rw [← hs] at hl ⊢
    exact (some_low (s := { passes L ks.length with low := none }) rfl _ hl).1
  intro k
  induction k using Nat.strongRecOn with
  | _ k ih =>
    intro hn
    obtain ⟨is, hlen, hp, _⟩ := pth_itr G k t fun j hj => ih j hj
    -- the terms on the way are different
    have nd : ((List.range (k + 1)).map (itr L s.by_ t)).Nodup := by
      have key : ∀ i j, i < j → j < k + 1 → itr L s.by_ t i ≠ itr L s.by_ t j := fun i j hij hj e => by
        have e2 : itr L s.by_ t (i + (k - j)) = itr L s.by_ t k := by
          rw [itr_add, e, ← itr_add]
          congr 1
          omega
        exact ih (i + (k - j)) (by omega) (by rw [e2]; exact hn)
      refine nodup_map_range fun i j hi hj e => ?_
      rcases Nat.lt_trichotomy i j with h | h | h
      · exact absurd e (key i j h hj)
      · exact h
      · exact absurd e.symm (key j i h hi)
    have mem : ∀ x ∈ (List.range (k + 1)).map (itr L s.by_ t), x ∈ ks := fun x hx => by
      obtain ⟨j, hj, rfl⟩ := List.mem_map.mp hx
      have hj2 := List.mem_range.mp hj
      have src : ∀ j, j < k → itr L s.by_ t j ∈ ks ∧ itr L s.by_ t (j + 1) ∈ ks := fun j hj => by
        obtain ⟨i, hi⟩ := Option.ne_none_iff_exists'.mp (ih j hj)
        obtain ⟨r, n, hL, _⟩ := G.own _ i hi
        have hm := hks _ (List.mem_of_getElem? hL)
        refine ⟨hm.1, ?_⟩
        show nxt L s.by_ (itr L s.by_ t j) ∈ ks
        rw [nxt_at hi hL]
        exact hm.2
      cases k with
      | zero =>
        -- t itself has no root: it was lowered
        have hb : s.by_ t ≠ none := by
          rw [← hs] at hl ⊢
          exact (some_low (s := { passes L ks.length with low := none }) rfl _ hl).2
        exact absurd hn hb
      | succ k =>
        by_cases e : j = k + 1
        · subst e
          exact (src k (Nat.lt_succ_self k)).2
        · exact (src j (by omega)).1
    have hk : k + 1 ≤ ks.length := by
      have := len_le nd mem
      simpa using this
    have h1 := pth_le G.own hp
    have h2 := passes_way hp
    have h3 := passes_mono L t (show is.length ≤ ks.length by omega)
    have h4 := G.root _ hn
    omega
structure IsRing (L : List (Lit T)) (is : List Nat) (f : Nat → T) : Prop where
  ne : is ≠ []
  at_ : ∀ j, j < is.length → ∃ i n, is[j]? = some i ∧ L[i]? = some (f j, f (j + 1), n)
  back : f is.length = f 0
  inj : ∀ i j, i < is.length → j < is.length → f i = f j → i = j
  neg : tot L is < 0
theorem IsRing.nodup {L : List (Lit T)} {is : List Nat} {f : Nat → T} (R : IsRing L is f) : is.Nodup := by
  rw [List.nodup_iff_pairwise_ne, List.pairwise_iff_getElem]
  intro i j hi hj hij e
  obtain ⟨a, n, h1, h2⟩ := R.at_ i hi
  obtain ⟨b, m, h3, h4⟩ := R.at_ j hj
  rw [List.getElem?_eq_getElem hi] at h1
  rw [List.getElem?_eq_getElem hj] at h3
  have e1 : a = b := by
    have e1 := Option.some.inj h1
    have e2 := Option.some.inj h3
    rw [← e1, ← e2, e]
  subst e1
  have e2 := Option.some.inj (h2.symm.trans h4)
  have e3 : f i = f j := congrArg (fun x => x.1) e2
  have := R.inj i j hi hj e3
  omega
/-- after as many steps back as terms were lowered one stands on a ring -/
theorem on_ring {L : List (Lit T)} {s : Sta T} {bs : List T} (hbs : ∀ x, s.by_ x ≠ none → x ∈ bs) {t : T} (hn : ∀ k, s.by_ (itr L s.by_ t k) ≠ none) : ∃ d, 0 < d ∧ d ≤ bs.length ∧ itr L s.by_ t (bs.length + d) = itr L s.by_ t bs.length := by
  have h : ¬ ((List.range (bs.length + 1)).map (itr L s.by_ t)).Nodup := fun nd => by
    have := len_le nd (ys := bs) fun x hx => by
      obtain ⟨j, _, rfl⟩ := List.mem_map.mp hx
      exact hbs _ (hn j)
    simp at this
    omega
  have h2 : ∃ i j, i < j ∧ j < bs.length + 1 ∧ itr L s.by_ t i = itr L s.by_ t j := by
    refine Classical.byContradiction fun hc => h (nodup_map_range fun i j hi hj e => ?_)
    rcases Nat.lt_trichotomy i j with q | q | q
    · exact absurd ⟨i, j, q, hj, e⟩ hc
    · exact q
    · exact absurd ⟨j, i, q, hi, e.symm⟩ hc
  obtain ⟨i, j, hij, hj, e⟩ := h2
  refine ⟨j - i, by omega, by omega, ?_⟩
  have e1 : bs.length + (j - i) = j + (bs.length - i) := by omega
  have e2 : bs.length = i + (bs.length - i) := by omega
  rw [e1, itr_add, ← e, ← itr_add, ← e2]
theorem least {p : Nat → Prop} : ∀ n, p n → ∃ k, k ≤ n ∧ p k ∧ ∀ j, j < k → ¬ p j := by
  intro n
  induction n using Nat.strongRecOn with
  | _ n ih =>
    intro h
    by_cases q : ∃ j, j < n ∧ p j
    · obtain ⟨j, hj, hp⟩ := q
      obtain ⟨k, h1, h2, h3⟩ := ih j hj hp
      exact ⟨k, by omega, h2, h3⟩
    · exact ⟨n, Nat.le_refl n, h, fun j hj hp => q ⟨j, hj, hp⟩⟩
/-- the ring from where one stands: its least round -/
theorem ring_of {L : List (Lit T)} {s : Sta T} (G : Good L s) {x : T} (hn : ∀ k, s.by_ (itr L s.by_ x k) ≠ none) {c : Nat} (h0 : itr L s.by_ x (c + 1) = x) (hl : ∀ j, 0 < j → j ≤ c → itr L s.by_ x j ≠ x) {is : List Nat} (hlen : is.length = c + 1) (his : ∀ j, j ≤ c → is[j]? = s.by_ (itr L s.by_ x j)) :
    IsRing L is (itr L s.by_ x) where
  ne := fun e => by rw [e] at hlen; cases hlen
  at_ := fun j hj => by
    obtain ⟨i, hi⟩ := Option.ne_none_iff_exists'.mp (hn j)
    obtain ⟨r, n, hL, _⟩ := G.own _ i hi
    refine ⟨i, n, by rw [his j (by omega), hi], ?_⟩
    show L[i]? = some (itr L s.by_ x j, nxt L s.by_ (itr L s.by_ x j), n)
    rw [nxt_at hi hL]
    exact hL
  back := by rw [hlen]; exact h0
  inj := by
    have key : ∀ i j, i < j → j < c + 1 → itr L s.by_ x i ≠ itr L s.by_ x j := fun i j hij hj e => by
      have e2 : itr L s.by_ x (i + (c + 1 - j)) = x := by
        rw [itr_add, e, ← itr_add, show j + (c + 1 - j) = c + 1 by omega]
        exact h0
      exact hl (i + (c + 1 - j)) (by omega) (by omega) e2
    intro i j hi hj e
    rw [hlen] at hi hj
    rcases Nat.lt_trichotomy i j with q | q | q
    · exact absurd e (key i j q hj)
    · exact q
    · exact absurd e.symm (key j i q hi)
  neg := by
    obtain ⟨js, hl2, hp, ha⟩ := pth_itr G (c + 1) x fun j _ => hn j
    have e : js = is := by
      refine List.ext_getElem? fun j => ?_
      by_cases hj : j < c + 1
      · rw [ha j hj, his j (by omega)]
      · rw [List.getElem?_eq_none (by omega), List.getElem?_eq_none (by omega)]
    subst e
    rw [h0] at hp
    exact G.ring x js (fun e => by rw [e] at hl2; cases hl2) hp
end Bf

namespace Bx
open PySem PySem.Spec PyProof.Rows L2
/-! ### dicts over texts, as functions -/
def hk (ks : List Str) (h : Str → Int) : List (Key × V) := ks.map fun t => (Sum.inr t, V.int (h t))
def bk (bs : List Str) (b : Str → Option Nat) : List (Key × V) := bs.map fun t => (Sum.inr t, V.int (((b t).getD 0 : Nat) : Int))
def fk (ks : List Str) (v : Str → V) : List (Key × V) := ks.map fun t => (Sum.inr t, v t)
theorem fk_get {v : Str → V} {t : Str} : ∀ {ks : List Str}, t ∈ ks → valV (fk ks v) (Sum.inr t) = some (v t)
  | k :: ks, h => by
    by_cases e : k = t
    · subst e
      exact valV_pos rfl
    · show valV ((Sum.inr k, v k) :: fk ks v) _ = _
      rw [valV_neg (fun q => e (Sum.inr.inj q))]
      rcases List.mem_cons.mp h with q | q
      · exact absurd q.symm e
      · exact fk_get q
theorem fk_no {v : Str → V} {t : Str} : ∀ {ks : List Str}, t ∉ ks → valV (fk ks v) (Sum.inr t) = none
  | [], _ => rfl
  | k :: ks, h => by
    have e : ¬ k = t := fun q => h (q ▸ List.mem_cons_self)
    show valV ((Sum.inr k, v k) :: fk ks v) _ = _
    rw [valV_neg (fun q => e (Sum.inr.inj q))]
    exact fk_no fun q => h (List.mem_cons_of_mem _ q)
theorem fk_any {v : Str → V} {t : Str} {ks : List Str} : ((fk ks v).any fun kv => decide (kv.1 = Sum.inr t)) = decide (t ∈ ks) := by
  rw [Bool.eq_iff_iff, List.any_eq_true, decide_eq_true_eq]
  constructor
  · rintro ⟨p, hp, e⟩
    obtain ⟨k, hk, rfl⟩ := List.mem_map.mp hp
    have e := of_decide_eq_true e
    rw [← Sum.inr.inj e]
    exact hk
  · intro h
    exact ⟨(Sum.inr t, v t), List.mem_map_of_mem h, decide_eq_true rfl⟩
theorem fk_put {v : Str → V} {t : Str} {x : V} {ks : List Str} (h : t ∈ ks) : putK (fk ks v) (Sum.inr t) x = fk ks (fun k => if k = t then x else v k) := by
  unfold putK
  rw [fk_any, decide_eq_true h, if_pos rfl]
  unfold fk
  rw [List.map_map]
  refine List.map_congr_left fun k _ => ?_
  show (if (Sum.inr k : Key) = Sum.inr t then (Sum.inr k, x) else (Sum.inr k, v k)) = (Sum.inr k, if k = t then x else v k)
  by_cases e : k = t
  · rw [if_pos (congrArg Sum.inr e), if_pos e]
  · rw [if_neg (fun q => e (Sum.inr.inj q)), if_neg e]
theorem fk_new {v : Str → V} {t : Str} {x : V} {ks : List Str} (h : t ∉ ks) : putK (fk ks v) (Sum.inr t) x = fk (ks ++ [t]) (fun k => if k = t then x else v k) := by
  unfold putK
  rw [fk_any, decide_eq_false h, if_neg Bool.false_ne_true]
  unfold fk
  rw [List.map_append]
  congr 1
  · refine List.map_congr_left fun k hk => ?_
    have e : k ≠ t := fun q => h (q ▸ hk)
    simp only [if_neg e]
  · simp
theorem hk_get {h : Str → Int} {t : Str} {ks : List Str} (m : t ∈ ks) : valV (hk ks h) (Sum.inr t) = some (.int (h t)) := fk_get (v := fun t => V.int (h t)) m
theorem hk_put {h : Str → Int} {t : Str} {n : Int} {ks : List Str} (m : t ∈ ks) : putK (hk ks h) (Sum.inr t) (.int n) = hk ks (Bf.put h t n) := by
  refine (fk_put (v := fun t => V.int (h t)) m).trans ?_
  unfold fk hk
  refine List.map_congr_left fun k _ => ?_
  unfold Bf.put
  by_cases e : k = t <;> simp [e]
theorem bk_get {b : Str → Option Nat} {t : Str} {bs : List Str} {i : Nat} (m : t ∈ bs) (hb : b t = some i) : valV (bk bs b) (Sum.inr t) = some (.int (i : Nat)) := by
  refine (fk_get (v := fun t => V.int (((b t).getD 0 : Nat) : Int)) m).trans ?_
  rw [hb]
  rfl
/-- which terms have been lowered -/
def ByOk (bs : List Str) (b : Str → Option Nat) : Prop := bs.Nodup ∧ ∀ t, t ∈ bs ↔ b t ≠ none
theorem bk_put {b : Str → Option Nat} {t : Str} {i : Nat} {bs : List Str} (ok : ByOk bs b) : ∃ bs', putK (bk bs b) (Sum.inr t) (.int (i : Nat)) = bk bs' (Bf.put b t (some i)) ∧ ByOk bs' (Bf.put b t (some i)) ∧ bs'.length ≤ bs.length + 1 := by
  have ext : ∀ x, Bf.put b t (some i) x ≠ none ↔ (x = t ∨ b x ≠ none) := fun x => by
    unfold Bf.put
    by_cases e : x = t <;> simp [e]
  have eqv : ∀ (l : List Str), fk l (fun k => if k = t then V.int (i : Nat) else V.int (((b k).getD 0 : Nat) : Int)) = bk l (Bf.put b t (some i)) := fun l => by
    unfold fk bk
    refine List.map_congr_left fun k _ => ?_
    unfold Bf.put
    by_cases e : k = t <;> simp [e]
  by_cases m : t ∈ bs
  · refine ⟨bs, (fk_put (v := fun t => V.int (((b t).getD 0 : Nat) : Int)) m).trans (eqv bs), ⟨ok.1, fun x => ?_⟩, Nat.le_succ _⟩
    rw [ext, ok.2]
    constructor
    · exact .inr
    · rintro (e | h)
      · rw [e]
        exact (ok.2 t).mp m
      · exact h
  · refine ⟨bs ++ [t], (fk_new (v := fun t => V.int (((b t).getD 0 : Nat) : Int)) m).trans (eqv _), ⟨?_, fun x => ?_⟩, by simp⟩
    · refine List.nodup_append.mpr ⟨ok.1, by simp, fun x hx y hy e => ?_⟩
      have : y = t := by simpa using hy
      rw [← this, ← e] at m
      exact m hx
    · rw [ext, List.mem_append, ok.2]
      simp [or_comm]
/-! ### loops of comprehensions of two clauses, by a word of the turn and the heap -/
theorem itt_run {K : PySem.W.Frag} {a : Addr} {xs : List V} {F : V → Hp → (Hp → Prop) → Prop} {H4 : Hp} {Nx : Hp → Prop} (Pv : Nat → Hp → Prop) (h0 : Pv 0 H4) (hl : ∀ j H, j ≤ xs.length → Pv j H → SqT K H a xs)
    (hs : ∀ j x H, xs[j]? = some x → Pv j H → F x H (Pv (j + 1))) (hd : ∀ H, Pv xs.length H → Nx H) :
    ∃ W1 : Nat → Nat → Hp → Prop, (∃ m, W1 0 m H4) ∧ ∀ j k H, W1 j k H → ((Itt K a).stop j H ∧ Nx H) ∨ ((Itt K a).go j H ∧ ∃ Nx1 : Hp → Prop, (∀ H', Nx1 H' → ∃ k', k' < k ∧ W1 (j + 1) k' H') ∧ ∀ x H', (Itt K a).yld j H x H' → F x H' Nx1) := by
  refine ⟨fun j k H => k = xs.length - j ∧ j ≤ xs.length ∧ Pv j H, ⟨xs.length, rfl, Nat.zero_le _, h0⟩, ?_⟩
  rintro j k H ⟨rfl, hj, p⟩
  have q := hl j H hj p
  by_cases hlt : j < xs.length
  · refine .inr ⟨⟨xs, xs[j], q, List.getElem?_eq_getElem hlt⟩, Pv (j + 1), fun H' p' => ⟨xs.length - (j + 1), by omega, rfl, hlt, p'⟩, fun x H' y => ?_⟩
    obtain ⟨e, y⟩ := y
    subst e
    exact hs j x _ (y xs q) p
  · have e : j = xs.length := by omega
    subst e
    exact .inl ⟨⟨xs, q, Nat.le_refl _⟩, hd H p⟩
theorem itl_run {K : PySem.W.Frag} {a : Addr} {xs : List V} {F : V → Hp → (Hp → Prop) → Prop} {H4 : Hp} {Nx : Hp → Prop} (Pv : Nat → Hp → Prop) (h0 : Pv 0 H4) (hl : ∀ j H, j ≤ xs.length → Pv j H → SqL K H a xs)
    (hs : ∀ j x H, xs[j]? = some x → Pv j H → F x H (Pv (j + 1))) (hd : ∀ H, Pv xs.length H → Nx H) :
    ∃ W1 : Nat → Nat → Hp → Prop, (∃ m, W1 0 m H4) ∧ ∀ j k H, W1 j k H → ((Itl K a).stop j H ∧ Nx H) ∨ ((Itl K a).go j H ∧ ∃ Nx1 : Hp → Prop, (∀ H', Nx1 H' → ∃ k', k' < k ∧ W1 (j + 1) k' H') ∧ ∀ x H', (Itl K a).yld j H x H' → F x H' Nx1) := by
  refine ⟨fun j k H => k = xs.length - j ∧ j ≤ xs.length ∧ Pv j H, ⟨xs.length, rfl, Nat.zero_le _, h0⟩, ?_⟩
  rintro j k H ⟨rfl, hj, p⟩
  have q := hl j H hj p
  by_cases hlt : j < xs.length
  · refine .inr ⟨⟨xs, xs[j], q, List.getElem?_eq_getElem hlt⟩, Pv (j + 1), fun H' p' => ⟨xs.length - (j + 1), by omega, rfl, hlt, p'⟩, fun x H' y => ?_⟩
    obtain ⟨e, y⟩ := y
    subst e
    exact hs j x _ (y xs q) p
  · have e : j = xs.length := by omega
    subst e
    exact .inl ⟨⟨xs, q, Nat.le_refl _⟩, hd H p⟩
end Bx

namespace K2
open PySem L2 Bx
def top (i : Nat) : Stmt := PySem.Challenge.pw_behindexits_k02_long_rings.main.body.getD i (.Pass ⟨0, 0, 0, 0⟩)
abbrev s_NoLiterals_init : Stmt := inClass (top 2) 0
abbrev N_NoLiterals_init : List Str := ["self", "at"]
theorem sc_NoLiterals_init : FnScope N_NoLiterals_init ["self", "at"] (C8.fnScope s_NoLiterals_init) := ⟨rfl, rfl, rfl, by decide +kernel, rfl, by decide +kernel, by decide +kernel⟩
abbrev s_is_number : Stmt := top 4
abbrev N_is_number : List Str := ["thing"]
theorem sc_is_number : FnScope N_is_number ["thing"] (C8.fnScope s_is_number) := ⟨rfl, rfl, rfl, by decide +kernel, rfl, by decide +kernel, by decide +kernel⟩
abbrev s_is_literal : Stmt := top 5
abbrev N_is_literal : List Str := ["thing", "left", "right", "number"]
theorem sc_is_literal : FnScope N_is_literal ["thing"] (C8.fnScope s_is_literal) := ⟨rfl, rfl, rfl, by decide +kernel, rfl, by decide +kernel, by decide +kernel⟩
abbrev s_check_literals : Stmt := top 8
abbrev N_check_literals : List Str := ["literals", "at", "literal"]
theorem sc_check_literals : FnScope N_check_literals ["literals"] (C8.fnScope s_check_literals) := ⟨rfl, rfl, rfl, by decide +kernel, rfl, by decide +kernel, by decide +kernel⟩
abbrev s_solved : Stmt := top 9
abbrev N_solved : List Str := ["literals", "heights", "lowered_by", "_", "lowered", "zero", "left", "right", "number", "term"]
theorem sc_solved : FnScope N_solved ["literals"] (C8.fnScope s_solved) := ⟨rfl, rfl, rfl, by decide +kernel, rfl, by decide +kernel, by decide +kernel⟩
abbrev s_lower_once : Stmt := top 10
abbrev N_lower_once : List Str := ["literals", "heights", "lowered_by", "lowered", "at", "left", "right", "number"]
theorem sc_lower_once : FnScope N_lower_once ["literals", "heights", "lowered_by"] (C8.fnScope s_lower_once) := ⟨rfl, rfl, rfl, by decide +kernel, rfl, by decide +kernel, by decide +kernel⟩
abbrev s_ring_behind : Stmt := top 11
abbrev N_ring_behind : List Str := ["literals", "lowered_by", "term", "_", "ring", "following"]
theorem sc_ring_behind : FnScope N_ring_behind ["literals", "lowered_by", "term"] (C8.fnScope s_ring_behind) := ⟨rfl, rfl, rfl, by decide +kernel, rfl, by decide +kernel, by decide +kernel⟩
abbrev s_is_ring : Stmt := top 12
abbrev N_is_ring : List Str := ["literals", "indices", "index"]
theorem sc_is_ring : FnScope N_is_ring ["literals", "indices"] (C8.fnScope s_is_ring) := ⟨rfl, rfl, rfl, by decide +kernel, rfl, by decide +kernel, by decide +kernel⟩
abbrev s_are_indices : Stmt := top 13
abbrev N_are_indices : List Str := ["indices", "many", "index"]
theorem sc_are_indices : FnScope N_are_indices ["indices", "many"] (C8.fnScope s_are_indices) := ⟨rfl, rfl, rfl, by decide +kernel, rfl, by decide +kernel, by decide +kernel⟩
abbrev s_goes_round : Stmt := top 14
abbrev N_goes_round : List Str := ["literals", "total", "last", "left", "right", "number"]
theorem sc_goes_round : FnScope N_goes_round ["literals"] (C8.fnScope s_goes_round) := ⟨rfl, rfl, rfl, by decide +kernel, rfl, by decide +kernel, by decide +kernel⟩
abbrev s_l_well : Stmt := top 16
abbrev N_l_well : List Str := ["_law_cell"]
theorem sc_l_well : FnScope N_l_well ["_law_cell"] (C8.fnScope s_l_well) := ⟨rfl, rfl, rfl, by decide +kernel, rfl, by decide +kernel, by decide +kernel⟩
abbrev s_l_draw : Stmt := top 17
abbrev N_l_draw : List Str := ["_law_well_here", "_law_base", "_law_digit", "_law_number"]
theorem sc_l_draw : FnScope N_l_draw ["_law_well_here", "_law_base"] (C8.fnScope s_l_draw) := ⟨rfl, rfl, rfl, by decide +kernel, rfl, by decide +kernel, by decide +kernel⟩
abbrev s_l_one : Stmt := top 18
abbrev N_l_one : List Str := ["_law_well_here", "_law_some"]
theorem sc_l_one : FnScope N_l_one ["_law_well_here", "_law_some"] (C8.fnScope s_l_one) := ⟨rfl, rfl, rfl, by decide +kernel, rfl, by decide +kernel, by decide +kernel⟩
abbrev s_l_holds : Stmt := top 19
abbrev N_l_holds : List Str := ["_law_literal", "_law_found", "_law_less", "_law_more"]
theorem sc_l_holds : FnScope N_l_holds ["_law_literal", "_law_found"] (C8.fnScope s_l_holds) := ⟨rfl, rfl, rfl, by decide +kernel, rfl, by decide +kernel, by decide +kernel⟩
abbrev s_l_chain : Stmt := top 20
abbrev N_l_chain : List Str := ["_law_well_here", "_law_many", "_law_less", "_law_terms", "_law_literals", "_law_total", "_law_k", "_law_number"]
theorem sc_l_chain : FnScope N_l_chain ["_law_well_here", "_law_many", "_law_less"] (C8.fnScope s_l_chain) := ⟨rfl, rfl, rfl, by decide +kernel, rfl, by decide +kernel, by decide +kernel⟩
abbrev s_law : Stmt := top 21
abbrev N_law : List Str := ["_law_script", "_law_cell", "_law_well_here", "_law_many", "_law_less", "_law_chain_here", "_law_literals", "_law_k", "_law_left", "_law_right", "_law_at", "_law_told", "_law_due", "_law_after", "_law_one_here"]
theorem sc_law : FnScope N_law ["_law_script"] (C8.fnScope s_law) := ⟨rfl, rfl, rfl, by decide +kernel, rfl, by decide +kernel, by decide +kernel⟩
structure Txt (mg : Str → Option Value) : Prop where
  c_MOST_LITERALS : ∃ u, mg "MOST_LITERALS" = some u ∧ RelV (.int 300) u
  z_isinstance : mg "isinstance" = none
  z_len : mg "len" = none
  z_int : mg "int" = none
  z_bool : mg "bool" = none
  z_tuple : mg "tuple" = none
  z_list : mg "list" = none
  z_str : mg "str" = none
  z_set : mg "set" = none
  z_range : mg "range" = none
  z_enumerate : mg "enumerate" = none
  z_sorted : mg "sorted" = none
end K2

namespace K2
open PySem L2 Bx
section
variable {P : Program} {w : World} {K : PySem.W.Frag} {mg : Str → Option Value} {base : Heap}
/-- is it a whole number: any value whose class is known -/
def spNum (K : PySem.W.Frag) : Sp := fun vs H Q _ => ∃ (v : V) (t : Value) (a c : Bool), vs = [v] ∧ TyX K H v t ∧ PySem.W.kitOne K t (.type "int") = some a ∧ PySem.W.kitOne K t (.type "bool") = some c ∧ Q (.bl (a && !c)) H
theorem ok_is_number {f : Addr} {fd : FuncData} (F : C8.Def K mg "is_number" s_is_number f fd) (b : Binds K fd ["thing"] []) (T : Txt mg) : C8.Cal P w K mg base 1 "is_number" (spNum K) [] := by
  refine C8.cal0 F b .nil sc_is_number (fun vs H Q E h => ?_) (fun cdv A outer s H vs Q E hr h => ?_)
  · obtain ⟨v, t, a, c, rfl, _⟩ := h
    rfl
  · obtain ⟨v, t, a, c, rfl, ty, ka, kc, k⟩ := h
    refine ⟨_, (pss_one (ps_ret (pe_and (pe_callB call_isi (by rfl) T.z_isinstance (by decide +kernel) (pa_cons (pv 0) (pa_cons (pe_bltn (v := .ty "int") (by rfl) T.z_int (by decide +kernel) rfl) pa_nil))) (pe_one (pe_not (pe_callB call_isi (by rfl) T.z_isinstance (by decide +kernel) (pa_cons (pv 0) (pa_cons (pe_bltn (v := .ty "bool") (by rfl) T.z_bool (by decide +kernel) rfl) pa_nil)))))))), ?_⟩
    refine ⟨_, rfl, _, _, _, _, _, rfl, .ty _, ty, ka, _, rfl, ?_⟩
    cases a with
    | false => exact iteF k
    | true => exact iteT ⟨_, rfl, _, _, _, _, _, rfl, .ty _, ty, kc, _, rfl, k⟩
/-- is it a literal: here only of good ones -/
def spLitG (K : PySem.W.Frag) : Sp := fun vs H Q _ => ∃ (p : Addr) (l r : Str) (n : Int), vs = [.ref p] ∧ SqT K H p [.str l, .str r, .int n] ∧ Q (.bl true) H
theorem ok_is_literal {f : Addr} {fd : FuncData} (F : C8.Def K mg "is_literal" s_is_literal f fd) (b : Binds K fd ["thing"] []) (T : Txt mg) (K_is_number : C8.Cal P w K mg base 1 "is_number" (spNum K) []) : C8.Cal P w K mg base 2 "is_literal" (spLitG K) [] := by
  refine C8.cal0 F b .nil sc_is_literal (fun vs H Q E h => ?_) (fun cdv A outer s H vs Q E hr h => ?_)
  · obtain ⟨p, l, r, n, rfl, _⟩ := h
    rfl
  · obtain ⟨p, l, r, n, rfl, hp, k⟩ := h
    refine ⟨_, (pss_cons (ps_if (PW.pt (pw_or (pt_not (pt_val (pe_callB call_isi (by rfl) T.z_isinstance (by decide +kernel) (pa_cons (pv 0) (pa_cons (pe_bltn (v := .ty "tuple") (by rfl) T.z_tuple (by decide +kernel) rfl) pa_nil))))) (pw_or1 (pt_cmpR op_ne (pe_callB call_len_seq (by rfl) T.z_len (by decide +kernel) (pa_cons (pv 0) pa_nil)) pe_int (nomark _))))) (pss_one (ps_ret pe_bl)) pss_nil)
    (pss_cons (ps_asg (pv 0) (pg_tup (by rfl) (pgs_cons (pg_name (i := 1) sc_is_literal.nd rfl (Or.inl rfl)) (pgs_cons (pg_name (i := 2) sc_is_literal.nd rfl (Or.inl rfl)) (pgs_cons (pg_name (i := 3) sc_is_literal.nd rfl (Or.inl rfl)) pgs_nil)))))
    (pss_one (ps_ret (pe_and (pe_callB call_isi (by rfl) T.z_isinstance (by decide +kernel) (pa_cons (pv 1) (pa_cons (pe_bltn (v := .ty "str") (by rfl) T.z_str (by decide +kernel) rfl) pa_nil))) (pe_and (pe_callB call_isi (by rfl) T.z_isinstance (by decide +kernel) (pa_cons (pv 2) (pa_cons (pe_bltn (v := .ty "str") (by rfl) T.z_str (by decide +kernel) rfl) pa_nil))) (pe_one (C8.pe_c K_is_number hr (by decide) (by rfl) (pa_cons (pv 3) pa_nil))))))))), ?_⟩
    refine ⟨_, rfl, _, _, _, _, true, rfl, .ty _, tyT hp, rfl, _, rfl, ?_⟩
    refine iteF ?_
    refine ⟨_, rfl, p, _, rfl, .inr hp, rfl, _, rfl, ?_⟩
    refine iteF ?_
    refine ⟨_, rfl, p, _, rfl, hp, rfl, _, _, rfl, _, _, rfl, _, _, rfl, rfl, ?_⟩
    refine ⟨_, rfl, _, _, _, _, true, rfl, .ty _, .base (.str l), rfl, _, rfl, ?_⟩
    refine iteT ⟨_, rfl, _, _, _, _, true, rfl, .ty _, .base (.str r), rfl, _, rfl, ?_⟩
    refine iteT ⟨_, rfl, _, _, true, false, rfl, .base (.int n), rfl, rfl, ?_⟩
    exact k
/-- literals at ts -/
def LitsAt (K : PySem.W.Frag) (H : Hp) (ts : List Addr) (lits : List (Str × Str × Int)) : Prop :=
  ts.length = lits.length ∧ ∀ (j : Nat) (q : Str × Str × Int), lits[j]? = some q → ∃ t, ts[j]? = some t ∧ SqT K H t [.str q.1, .str q.2.1, .int q.2.2]
theorem LitsAt.mono {H H' : Hp} {ts : List Addr} {lits : List (Str × Str × Int)} (e : Same H H') (h : LitsAt K H ts lits) : LitsAt K H' ts lits :=
  ⟨h.1, fun j q hj => (h.2 j q hj).imp fun t z => ⟨z.1, Same.seqT e z.2⟩⟩
def spChkG (K : PySem.W.Frag) : Sp := fun vs H Q _ => ∃ (p : Addr) (ts : List Addr) (lits : List (Str × Str × Int)), vs = [.ref p] ∧ SqL K H p (ts.map V.ref) ∧ LitsAt K H ts lits ∧ lits.length ≤ 300 ∧ ∀ H', Same H H' → Q .non H'
theorem ok_check_literals {f : Addr} {fd : FuncData} (F : C8.Def K mg "check_literals" s_check_literals f fd) (b : Binds K fd ["literals"] []) (T : Txt mg) (K_is_literal : C8.Cal P w K mg base 2 "is_literal" (spLitG K) []) : C8.Cal P w K mg base 3 "check_literals" (spChkG K) [] := by
  refine C8.cal0 F b .nil sc_check_literals (fun vs H Q E h => ?_) (fun cdv A outer s H vs Q E hr h => ?_)
  · obtain ⟨p, ts, lits, rfl, _⟩ := h
    rfl
  · obtain ⟨p, ts, lits, rfl, hp, hL, hl, k⟩ := h
    refine ⟨_, (pss_cons (ps_if (PW.pt (pw_or (pt_not (pt_val (pe_callB call_isiT (by rfl) T.z_isinstance (by decide +kernel) (pa_cons (pv 0) (pa_cons (pe_tup (pa_cons (pe_bltn (v := .ty "list") (by rfl) T.z_list (by decide +kernel) rfl) (pa_cons (pe_bltn (v := .ty "tuple") (by rfl) T.z_tuple (by decide +kernel) rfl) pa_nil))) pa_nil))))) (pw_or1 (pt_cmpR op_gt (pe_callB call_len_seq (by rfl) T.z_len (by decide +kernel) (pa_cons (pv 0) pa_nil)) (C8.pe_gc (by rfl) T.c_MOST_LITERALS) (nomark _))))) (pss_one ps_never) pss_nil)
    (pss_one (ps_for PassesOwn.never rfl (pi_enum (by rfl) T.z_enumerate (pa_cons (pv 0) pa_nil)) (pg_tup (by rfl) (pgs_cons (pg_name (i := 1) sc_check_literals.nd rfl (Or.inl rfl)) (pgs_cons (pg_name (i := 2) sc_check_literals.nd rfl (Or.inl rfl)) pgs_nil)))
    (pss_one (ps_if (pt_not (pt_val (C8.pe_c K_is_literal hr (by decide) (by rfl) (pa_cons (pv 2) pa_nil)))) (pss_one ps_never) pss_nil))))), ?_⟩
    refine ⟨_, rfl, (by show 2 ≤ sizeLine; decide), fun p1 n1 => ?_⟩
    have s1 : Same H (upd H p1 (.tup [.ty "list", .ty "tuple"])) := Same.new n1
    have hp1 := s1.seq hp
    refine ⟨_, p1, _, _, _, true, rfl, upd_same, .cons (.ty _) (.cons (.ty _) .nil), tyL hp1, rfl, _, rfl, ?_⟩
    refine iteF ?_
    refine ⟨_, rfl, p, _, rfl, .inl hp1, _, _, rfl, rfl, _, rfl, ?_⟩
    have e300 : decide ((300 : Int) < ((ts.map V.ref).length : Nat)) = false := decide_eq_false (by rw [List.length_map, hL.1]; omega)
    rw [e300]
    refine iteF ?_
    refine ⟨_, rfl, p, _, rfl, hp1, for_enumL (xs := ts.map V.ref) (fun i σ H' => ∃ v1 v2, σ = [some (.ref p), v1, v2] ∧ Same H H') ⟨none, none, rfl, s1⟩ (fun i σ H' ⟨_, _, _, e⟩ => e.seq hp) ?_ ?_⟩
    · rintro i x q σ H' hx ⟨v1, v2, rfl, e⟩ hq
      rw [List.getElem?_map] at hx
      obtain ⟨t, ht, rfl⟩ := Option.map_eq_some_iff.mp hx
      have hi : i < lits.length := by
        rw [← hL.1]
        exact (List.getElem?_eq_some_iff.mp ht).1
      obtain ⟨t', ht', hs⟩ := hL.2 i _ (List.getElem?_eq_getElem hi)
      have et : t' = t := Option.some.inj (ht'.symm.trans ht)
      subst et
      have e2 : Same H (upd H' q (.tup [.int (i : Nat), .ref t'])) := e.trans (Same.new hq)
      refine ⟨q, _, rfl, .inl (.inl upd_same), rfl, _, _, rfl, _, _, rfl, rfl, ?_⟩
      refine ⟨_, rfl, t', _, _, _, rfl, Same.seqT e2 hs, _, rfl, ?_⟩
      exact iteF ⟨_, _, rfl, e2⟩
    · rintro σ H' ⟨v1, v2, rfl, e⟩
      exact k H' e
end
end K2

namespace K2
open PySem L2 Bx
theorem lg {n : Nat} (h : n < 2 ^ 64) : n.log2 < 9000 := Nat.lt_trans (PySem.Flt.log2_lt_of (by decide) h) (by decide)
def WellAt (H : Hp) (l : Addr) : Prop := ∃ x y z : Int, H l = some (.lst [.int x, .int y, .int z])
section
variable {P : Program} {w : World} {K : PySem.W.Frag} {mg : Str → Option Value} {base : Heap}
def spWell : Sp := fun vs H Q _ => ∃ (c : Int), vs = [.int c] ∧ ∀ p H', H p = none → Same H H' → WellAt H' p → Q (.ref p) H'
theorem ok_l_well {f : Addr} {fd : FuncData} (F : C8.Def K mg "_law_well" s_l_well f fd) (b : Binds K fd ["_law_cell"] []) (T : Txt mg) : C8.Cal P w K mg base 1 "_law_well" spWell [] := by
  refine C8.cal0 F b .nil sc_l_well (fun vs H Q E h => ?_) (fun cdv A outer s H vs Q E hr h => ?_)
  · obtain ⟨c, rfl, _⟩ := h
    rfl
  · obtain ⟨c, rfl, k⟩ := h
    refine ⟨_, (pss_one (ps_ret (pe_lst (pa_cons (pe_op op_mul (pv 0) (pe_callTy call_int1 (by rfl) T.z_int (by decide +kernel) (pa_cons (pe_cmpR op_ge (pv 0) (pe_op op_pow pe_int pe_int) (nomark _)) pa_nil))) (pa_cons (pe_op op_mod (pe_callTy call_int1 (by rfl) T.z_int (by decide +kernel) (pa_cons (pv 0) pa_nil)) pe_int) (pa_cons pe_int pa_nil)))))), ?_⟩
    refine ⟨_, rfl, _, rfl, _, _, rfl, rfl, ⟨by decide, by decide, by decide⟩, _, _, rfl, rfl, .inr ⟨_, rfl, _, _, rfl, rfl, .inr ⟨by split <;> decide, by split <;> decide⟩, _, rfl, .inl ⟨_, rfl, _, _, rfl, rfl, (by show (0 : Int) < 2147483587; decide), (by show 3 ≤ sizeLine; decide), fun p hp => ?_⟩⟩⟩
    exact k p _ hp (Same.new hp) ⟨_, _, _, upd_same⟩
def spDraw : Sp := fun vs H Q _ => ∃ (l : Addr) (b : Int), vs = [.ref l, .int b] ∧ WellAt H l ∧ 0 < b ∧ b.natAbs.log2 < 9000 ∧ ∀ (r : Int) (H' : Hp), 0 ≤ r → r < b → WellAt H' l → But l H H' → Q (.int r) H'
theorem ok_l_draw {f : Addr} {fd : FuncData} (F : C8.Def K mg "_law_draw" s_l_draw f fd) (b : Binds K fd ["_law_well_here", "_law_base"] []) (T : Txt mg) : C8.Cal P w K mg base 1 "_law_draw" spDraw [] := by
  refine C8.cal0 F b .nil sc_l_draw (fun vs H Q E h => ?_) (fun cdv A outer s H vs Q E hr h => ?_)
  · obtain ⟨l, b, rfl, _⟩ := h
    rfl
  · obtain ⟨l, b, rfl, ⟨x, y, z, hW⟩, hb, hlg, k⟩ := h
    refine ⟨_, (pss_cons (ps_if (pt_cmpR op_gt (pe_ix ix_list (pv 0) pe_int (fun _ _ => rfl)) pe_int (nomark _)) (pss_cons (ps_set (i := 2) sc_l_draw.nd rfl (Or.inl rfl) (pe_op op_mod (pe_callTy call_int1 (by rfl) T.z_int (by decide +kernel) (pa_cons (pe_ix ix_list (pv 0) pe_int (fun _ _ => rfl)) pa_nil)) (pv 1)))
    (pss_cons (ps_asg (pe_op op_fdivW (pe_ix ix_list (pv 0) pe_int (fun _ _ => rfl)) (pv 1)) (pg_sub (pv 0) pe_int set_list))
    (pss_one (ps_ret (pv 2))))) pss_nil)
    (pss_cons (ps_asg (pe_op op_add (pe_ix ix_list (pv 0) pe_int (fun _ _ => rfl)) pe_int) (pg_sub (pv 0) pe_int set_list))
    (pss_cons (ps_set (i := 3) sc_l_draw.nd rfl (Or.inl rfl) (pe_op op_mod (pe_callTy call_int1 (by rfl) T.z_int (by decide +kernel) (pa_cons (pe_op op_mul (pe_callTy call_int1 (by rfl) T.z_int (by decide +kernel) (pa_cons (pe_op op_add (pe_op op_add (pe_ix ix_list (pv 0) pe_int (fun _ _ => rfl)) (pe_op op_mul pe_int (pe_ix ix_list (pv 0) pe_int (fun _ _ => rfl)))) pe_int) pa_nil)) pe_int) pa_nil)) pe_int))
    (pss_cons (ps_set (i := 3) sc_l_draw.nd rfl (Or.inl rfl) (pe_op op_mod (pe_callTy call_int1 (by rfl) T.z_int (by decide +kernel) (pa_cons (pe_op op_mul (pv 3) (pe_op op_add (pe_op op_fdiv (pv 3) pe_int) pe_int)) pa_nil)) pe_int))
    (pss_one (ps_ret (pe_op op_mod (pe_op op_fdiv (pe_op op_mod (pe_callTy call_int1 (by rfl) T.z_int (by decide +kernel) (pa_cons (pe_op op_mul (pv 3) (pe_op op_add (pe_op op_fdiv (pv 3) pe_int) pe_int)) pa_nil)) pe_int) pe_int) (pv 1)))))))), ?_⟩
    refine ⟨_, rfl, l, _, _, _, rfl, rfl, SqL.of hW, rfl, _, _, rfl, rfl, _, rfl, ?_⟩
    refine ite2 (fun hx => ?_) (fun hx => ?_)
    · refine ⟨_, rfl, l, _, _, _, rfl, rfl, SqL.of hW, rfl, .inl ⟨_, rfl, _, rfl, _, _, rfl, rfl, hb, ?_⟩⟩
      refine ⟨_, rfl, l, _, _, _, rfl, rfl, SqL.of hW, rfl, _, rfl, _, _, rfl, rfl, ⟨hb, hlg⟩, _, rfl, l, _, _, _, rfl, rfl, hW, rfl, ?_⟩
      refine ⟨_, rfl, ?_⟩
      exact k _ _ (Int.emod_nonneg _ (by omega)) (Int.emod_lt_of_pos _ hb) ⟨_, _, _, upd_same⟩ But.upd
    · refine ⟨_, rfl, l, _, _, _, rfl, rfl, SqL.of hW, rfl, _, _, rfl, rfl, _, rfl, l, _, _, _, rfl, rfl, hW, rfl, ?_⟩
      refine ⟨_, rfl, l, _, _, _, rfl, rfl, SqL.of upd_same, rfl, _, rfl, l, _, _, _, rfl, rfl, SqL.of upd_same, rfl, _, _, rfl, rfl, .inl ⟨by decide, by decide⟩, _, _, rfl, rfl, _, _, rfl, rfl, .inl ⟨_, rfl, _, _, rfl, rfl, .inr ⟨by decide, by decide⟩, .inl ⟨_, rfl, _, _, rfl, rfl, (by show (0 : Int) < 2147483647; decide), ?_⟩⟩⟩
      generalize hn : ((y + 6131 * (z + 1) + 17) * 48271) % 2147483647 = n
      have n0 : 0 ≤ n := by omega
      have n1 : n < 2147483647 := by omega
      refine ⟨_, rfl, _, rfl, _, _, rfl, rfl, ⟨by decide, by decide⟩, _, _, rfl, rfl, _, _, rfl, rfl, .inl ⟨by omega, by omega⟩, .inl ⟨_, rfl, _, _, rfl, rfl, (by show (0 : Int) < 2147483647; decide), ?_⟩⟩
      generalize hm : (n * (n / 1013 + 69621)) % 2147483647 = m
      have m0 : 0 ≤ m := by rw [← hm]; exact Int.emod_nonneg _ (by decide)
      have m1 : m < 2147483647 := by rw [← hm]; exact Int.emod_lt_of_pos _ (by decide)
      refine ⟨_, rfl, _, rfl, _, _, rfl, rfl, ⟨by decide, by decide⟩, _, _, rfl, rfl, _, _, rfl, rfl, .inl ⟨by omega, by omega⟩, .inl ⟨_, rfl, _, _, rfl, rfl, (by show (0 : Int) < 2147483399; decide), _, _, rfl, rfl, ⟨by decide, by decide⟩, _, rfl, _, _, rfl, rfl, hb, ?_⟩⟩
      exact k _ _ (Int.emod_nonneg _ (by omega)) (Int.emod_lt_of_pos _ hb) ⟨_, _, _, upd_same⟩ But.upd
def spOne (K : PySem.W.Frag) : Sp := fun vs H Q _ => ∃ (l p : Addr) (xs : List V), vs = [.ref l, .ref p] ∧ WellAt H l ∧ p ≠ l ∧ SqL K H p xs ∧ 0 < xs.length ∧ xs.length < 100000 ∧ ∀ (v : V) (H' : Hp), v ∈ xs → WellAt H' l → But l H H' → Q v H'
theorem ok_l_one {f : Addr} {fd : FuncData} (F : C8.Def K mg "_law_one" s_l_one f fd) (b : Binds K fd ["_law_well_here", "_law_some"] []) (T : Txt mg) (K_l_draw : C8.Cal P w K mg base 1 "_law_draw" spDraw []) : C8.Cal P w K mg base 2 "_law_one" (spOne K) [] := by
  refine C8.cal0 F b .nil sc_l_one (fun vs H Q E h => ?_) (fun cdv A outer s H vs Q E hr h => ?_)
  · obtain ⟨l, p, xs, rfl, _⟩ := h
    rfl
  · obtain ⟨l, p, xs, rfl, hW, hpl, hp, h0, h1, k⟩ := h
    refine ⟨_, (pss_one (ps_ret (pe_ix ix_list (pv 1) (C8.pe_c K_l_draw hr (by decide) (by rfl) (pa_cons (pv 0) (pa_cons (pe_callB call_len_seq (by rfl) T.z_len (by decide +kernel) (pa_cons (pv 1) pa_nil)) pa_nil))) (fun _ _ => rfl)))), ?_⟩
    refine ⟨_, rfl, _, rfl, _, rfl, p, _, rfl, .inl hp, l, _, rfl, hW, by omega, lg (by omega), fun r H' r0 r1 W' B' => ?_⟩
    obtain ⟨j, rfl⟩ : ∃ j : Nat, r = (j : Int) := ⟨r.toNat, by omega⟩
    have hj : j < xs.length := by omega
    refine ⟨p, _, _, _, rfl, rfl, B'.seq hpl hp, atI_nat (List.getElem?_eq_getElem hj), ?_⟩
    exact k _ _ (List.getElem_mem hj) W' B'
end
end K2

namespace K2
open PySem L2 Bx
section
variable {P : Program} {w : World} {K : PySem.W.Frag} {mg : Str → Option Value} {base : Heap}
/-- all but two dicts -/
def But2 (x y : Addr) (H H' : Hp) : Prop := ∀ b o, H b = some o → b ≠ x → b ≠ y → H' b = some o
theorem But2.refl (x y : Addr) (H : Hp) : But2 x y H H := fun _ _ h _ _ => h
theorem But2.trans {x y : Addr} {H H1 H2 : Hp} (a : But2 x y H H1) (b : But2 x y H1 H2) : But2 x y H H2 := fun c o h n m => b c o (a c o h n m) n m
theorem But2.of {x y : Addr} {H H' : Hp} (a : Same H H') : But2 x y H H' := fun c o h _ _ => a c o h
theorem But2.seq {x y : Addr} {H H' : Hp} {k1 k2 : List (Key × V)} {a : Addr} {xs : List V} (hx : H x = some (.dK k1)) (hy : H y = some (.dK k2)) (e : But2 x y H H') (h : SqL K H a xs) : SqL K H' a xs := by
  rcases h with (h | ⟨o, h⟩) | h
  · exact .inl (.inl (e _ _ h (ne_of h hx (by intro q; cases q)) (ne_of h hy (by intro q; cases q))))
  · exact .inl (.inr ⟨o, e _ _ h (ne_of h hx (by intro q; cases q)) (ne_of h hy (by intro q; cases q))⟩)
  · exact .inr h
theorem But2.seqT {x y : Addr} {H H' : Hp} {k1 k2 : List (Key × V)} {a : Addr} {xs : List V} (hx : H x = some (.dK k1)) (hy : H y = some (.dK k2)) (e : But2 x y H H') (h : SqT K H a xs) : SqT K H' a xs := by
  rcases h with (h | ⟨o, h⟩) | h
  · exact .inl (.inl (e _ _ h (ne_of h hx (by intro q; cases q)) (ne_of h hy (by intro q; cases q))))
  · exact .inl (.inr ⟨o, e _ _ h (ne_of h hx (by intro q; cases q)) (ne_of h hy (by intro q; cases q))⟩)
  · exact .inr h
theorem LitsAt.but2 {x y : Addr} {H H' : Hp} {k1 k2 : List (Key × V)} {ts : List Addr} {lits : List (Str × Str × Int)} (hx : H x = some (.dK k1)) (hy : H y = some (.dK k2)) (e : But2 x y H H') (h : LitsAt K H ts lits) : LitsAt K H' ts lits :=
  ⟨h.1, fun j q hj => (h.2 j q hj).imp fun t z => ⟨z.1, But2.seqT hx hy e z.2⟩⟩
theorem dget_hk {H : Hp} {a : Addr} {ks : List Str} {h : Str → Int} {t : Str} (e : H a = some (.dK (hk ks h))) (m : t ∈ ks) : DGet H a (.str t) (some (.int (h t))) := by
  have := DGet.k (k := (Sum.inr t : Key)) e
  rw [hk_get m] at this
  exact this
theorem dget_bk {H : Hp} {a : Addr} {bs : List Str} {b : Str → Option Nat} {t : Str} {i : Nat} (e : H a = some (.dK (bk bs b))) (ok : ByOk bs b) (hb : b t = some i) : DGet H a (.str t) (some (.int (i : Nat))) := by
  have := DGet.k (k := (Sum.inr t : Key)) e
  rw [bk_get ((ok.2 t).mpr (by rw [hb]; exact fun q => by cases q)) hb] at this
  exact this
def lowV : Option Str → V
  | none => .non
  | some t => .str t
/-- what lower_once, ring_behind are handed -/
structure At (K : PySem.W.Frag) (H : Hp) (p hd bd : Addr) (ts : List Addr) (lits : List (Str × Str × Int)) (ks bs : List Str) (s : Bf.Sta Str) : Prop where
  hp : SqL K H p (ts.map V.ref)
  hL : LitsAt K H ts lits
  l300 : lits.length ≤ 300
  hh : H hd = some (.dK (hk ks s.h))
  hb : H bd = some (.dK (bk bs s.by_))
  ne : hd ≠ bd
  ends : ∀ q ∈ lits, q.1 ∈ ks ∧ q.2.1 ∈ ks
  ok : ByOk bs s.by_
  k1000 : ks.length ≤ 1000
  good : Bf.Good lits s
theorem At.b1000 {H : Hp} {p hd bd : Addr} {ts : List Addr} {lits : List (Str × Str × Int)} {ks bs : List Str} {s : Bf.Sta Str} (A : At K H p hd bd ts lits ks bs s) : bs.length ≤ 1000 := by
  refine Nat.le_trans (Bf.len_le A.ok.1 fun t ht => ?_) A.k1000
  obtain ⟨i, hi⟩ := Option.ne_none_iff_exists'.mp ((A.ok.2 t).mp ht)
  obtain ⟨r, n, hL, _⟩ := A.good.own t i hi
  exact (A.ends _ (List.mem_of_getElem? hL)).1
theorem szs {n : Nat} (h : n ≤ 1000) : n < sizeLine := Nat.lt_of_le_of_lt h (by decide)
theorem hk_len {ks : List Str} {h : Str → Int} : (hk ks h).length = ks.length := List.length_map ..
theorem bk_len {ks : List Str} {h : Str → Option Nat} : (bk ks h).length = ks.length := List.length_map ..
def spLower (K : PySem.W.Frag) : Sp := fun vs H Q _ => ∃ (p hd bd : Addr) (ts : List Addr) (lits : List (Str × Str × Int)) (ks bs : List Str) (s : Bf.Sta Str), vs = [.ref p, .ref hd, .ref bd] ∧ At K H p hd bd ts lits ks bs s ∧
  ∀ (bs' : List Str) (H' : Hp), But2 hd bd H H' → At K H' p hd bd ts lits ks bs' (Bf.pass lits s) → Q (lowV (Bf.pass lits s).low) H'
theorem ok_lower_once {f : Addr} {fd : FuncData} (F : C8.Def K mg "lower_once" s_lower_once f fd) (b : Binds K fd ["literals", "heights", "lowered_by"] []) (T : Txt mg) : C8.Cal P w K mg base 1 "lower_once" (spLower K) [] := by
  refine C8.cal0 F b .nil sc_lower_once (fun vs H Q E h => ?_) (fun cdv A outer s H vs Q E hr h => ?_)
  · obtain ⟨p, hd, bd, ts, lits, ks, bs, s, rfl, _⟩ := h
    rfl
  · obtain ⟨p, hd, bd, ts, lits, ks, bs, s0, rfl, W, k⟩ := h
    have hu := hu_of hr
    refine ⟨_, (pss_cons (ps_set (i := 3) sc_lower_once.nd rfl (Or.inl rfl) pe_non)
    (pss_cons (ps_for PassesOwn.never rfl (pi_enum (by rfl) T.z_enumerate (pa_cons (pv 0) pa_nil)) (pg_tup (by rfl) (pgs_cons (pg_name (i := 4) sc_lower_once.nd rfl (Or.inl rfl)) (pgs_cons (pg_tup (by rfl) (pgs_cons (pg_name (i := 5) sc_lower_once.nd rfl (Or.inl rfl)) (pgs_cons (pg_name (i := 6) sc_lower_once.nd rfl (Or.inl rfl)) (pgs_cons (pg_name (i := 7) sc_lower_once.nd rfl (Or.inl rfl)) pgs_nil)))) pgs_nil)))
    (pss_one (ps_if (pt_cmpR op_gt (pe_dget hu (pv 1) (pv 5) (fun _ _ => rfl)) (pe_op op_add (pe_dget hu (pv 1) (pv 6) (fun _ _ => rfl)) (pv 7)) (nomark _)) (pss_cons (ps_dput hu (pv 1) (pv 5) (pe_op op_add (pe_dget hu (pv 1) (pv 6) (fun _ _ => rfl)) (pv 7)) rfl)
    (pss_cons (ps_dput hu (pv 2) (pv 5) (pv 4) rfl)
    (pss_one (ps_set (i := 3) sc_lower_once.nd rfl (Or.inl rfl) (pv 5))))) pss_nil)))
    (pss_one (ps_ret (pv 3))))), ?_⟩
    refine ⟨_, rfl, p, _, rfl, W.hp, for_enumL (xs := ts.map V.ref) (fun i σ H' => ∃ (v4 v5 v6 v7 : Option V) (bs' : List Str), σ = [some (.ref p), some (.ref hd), some (.ref bd), some (lowV (Bf.some_ lits { s0 with low := none } i).low), v4, v5, v6, v7] ∧
        But2 hd bd H H' ∧ At K H' p hd bd ts lits ks bs' (Bf.some_ lits { s0 with low := none } i)) ⟨none, none, none, none, bs, rfl, But2.refl _ _ _, ⟨W.hp, W.hL, W.l300, W.hh, W.hb, W.ne, W.ends, W.ok, W.k1000, Bf.good_low W.good none⟩⟩ (fun i σ H' h => ?_) ?_ ?_⟩
    · obtain ⟨_, _, _, _, _, _, _, A'⟩ := h
      exact A'.hp
    · rintro i x q σ H1 hx ⟨v4, v5, v6, v7, bs1, rfl, B1, A1⟩ hq
      rw [List.getElem?_map] at hx
      obtain ⟨t, ht, rfl⟩ := Option.map_eq_some_iff.mp hx
      have hil : i < lits.length := by
        rw [← A1.hL.1]
        exact (List.getElem?_eq_some_iff.mp ht).1
      have hlq := List.getElem?_eq_getElem hil
      obtain ⟨t', ht', hs⟩ := A1.hL.2 i _ hlq
      have et : t' = t := Option.some.inj (ht'.symm.trans ht)
      subst et
      have em := A1.ends _ (List.mem_of_getElem? hlq)
      have estep : Bf.some_ lits { s0 with low := none } (i + 1) = Bf.one (Bf.some_ lits { s0 with low := none } i) i lits[i] := Bf.some_succ hlq
      have egood : Bf.Good lits (Bf.some_ lits { s0 with low := none } (i + 1)) := Bf.some_good (Bf.good_low W.good none) _
      rw [estep] at egood
      rw [estep]
      generalize lits[i] = ql at *
      obtain ⟨lf, rg, n⟩ := ql
      generalize Bf.some_ lits { s0 with low := none } i = s1 at *
      have S2 : Same H1 (upd H1 q (.tup [.int (i : Nat), .ref t'])) := Same.new hq
      have hh2 := S2 _ _ A1.hh
      have hb2 := S2 _ _ A1.hb
      have hs2 := Same.seqT S2 hs
      have hp2 := S2.seq A1.hp
      have hL2 := A1.hL.mono S2
      have hqt : (upd H1 q (.tup [.int (i : Nat), .ref t'])) q = some (.tup [.int (i : Nat), .ref t']) := upd_same
      have B2 : But2 hd bd H (upd H1 q (.tup [.int (i : Nat), .ref t'])) := B1.trans (But2.of S2)
      generalize upd H1 q (.tup [.int (i : Nat), .ref t']) = H2 at *
      refine ⟨q, _, rfl, SqT.of hqt, rfl, _, _, rfl, _, _, rfl, t', _, rfl, hs2, rfl, _, _, rfl, _, _, rfl, _, _, rfl, rfl, rfl, ?_⟩
      refine ⟨_, rfl, _, rfl, hd, _, rfl, dget_hk hh2 em.1, _, rfl, _, rfl, hd, _, rfl, dget_hk hh2 em.2, _, rfl, _, _, rfl, rfl, _, _, rfl, rfl, _, rfl, ?_⟩
      by_cases hlt : s1.h rg + n < s1.h lf
      · rw [decide_eq_true hlt]
        refine iteT ?_
        have eone : Bf.one s1 i (lf, rg, n) = ⟨Bf.put s1.h lf (s1.h rg + n), Bf.put s1.by_ lf (some i), some lf⟩ := if_pos hlt
        rw [eone] at egood ⊢
        obtain ⟨bs2, e2, ok2, l2⟩ := bk_put (t := lf) (i := i) A1.ok
        refine ⟨_, rfl, _, rfl, hd, _, rfl, dget_hk hh2 em.2, _, rfl, _, _, rfl, rfl, _, rfl, _, rfl, hd, _, rfl, DPut.k (k := Sum.inr lf) hh2 (szs (by rw [hk_len]; exact A1.k1000)), ?_⟩
        have e1 := hk_put (h := s1.h) (n := s1.h rg + n) em.1
        rw [e1]
        have hb3 : (upd H2 hd (.dK (hk ks (Bf.put s1.h lf (s1.h rg + n))))) bd = some (.dK (bk bs1 s1.by_)) := by
          rw [upd_ne A1.ne.symm]
          exact hb2
        refine ⟨_, rfl, _, rfl, _, rfl, bd, _, rfl, DPut.k (k := Sum.inr lf) hb3 (szs (by rw [bk_len]; exact A1.b1000)), ?_⟩
        rw [e2]
        have B3 : But2 hd bd H2 (upd (upd H2 hd (.dK (hk ks (Bf.put s1.h lf (s1.h rg + n))))) bd (.dK (bk bs2 (Bf.put s1.by_ lf (some i))))) := fun c o h n1 n2 => by
          rw [upd_ne n2, upd_ne n1]
          exact h
        refine ⟨_, rfl, some (.int (i : Nat)), some (.str lf), some (.str rg), some (.int n), bs2, rfl, B2.trans B3, ?_⟩
        exact ⟨But2.seq hh2 hb2 B3 hp2, hL2.but2 hh2 hb2 B3, A1.l300, by rw [upd_ne A1.ne, upd_same], upd_same, A1.ne, A1.ends, ok2, A1.k1000, egood⟩
      · rw [decide_eq_false hlt]
        refine iteF ?_
        have eone : Bf.one s1 i (lf, rg, n) = s1 := if_neg hlt
        rw [eone] at egood ⊢
        exact ⟨some (.int (i : Nat)), some (.str lf), some (.str rg), some (.int n), bs1, rfl, B2, hp2, hL2, A1.l300, hh2, hb2, A1.ne, A1.ends, A1.ok, A1.k1000, egood⟩
    · rintro σ H1 ⟨v4, v5, v6, v7, bs1, rfl, B1, A1⟩
      have e : (ts.map V.ref).length = lits.length := by rw [List.length_map, W.hL.1]
      refine ⟨_, rfl, ?_⟩
      rw [e] at A1 ⊢
      exact k bs1 H1 B1 A1
end
end K2

namespace K2
open PySem L2 Bx
section
variable {P : Program} {w : World} {K : PySem.W.Frag} {mg : Str → Option Value} {base : Heap}
def natV (i : Nat) : V := .int (i : Int)
def spBehind (K : PySem.W.Frag) : Sp := fun vs H Q _ => ∃ (p bd : Addr) (ts : List Addr) (lits : List (Str × Str × Int)) (bs : List Str) (s : Bf.Sta Str) (t : Str), vs = [.ref p, .ref bd, .str t] ∧ SqL K H p (ts.map V.ref) ∧ LitsAt K H ts lits ∧ H bd = some (.dK (bk bs s.by_)) ∧ ByOk bs s.by_ ∧ bs.length ≤ 1000 ∧ Bf.Good lits s ∧
  (∀ k, s.by_ (Bf.itr lits s.by_ t k) ≠ none) ∧ ∀ (c : Addr) (is : List Nat) (f : Nat → Str) (H' : Hp), Same H H' → SqT K H' c (is.map natV) → Bf.IsRing lits is f → is.length ≤ bs.length → Q (.ref c) H'
theorem ok_ring_behind {f : Addr} {fd : FuncData} (F : C8.Def K mg "ring_behind" s_ring_behind f fd) (b : Binds K fd ["literals", "lowered_by", "term"] []) (T : Txt mg) : C8.Cal P w K mg base 1 "ring_behind" (spBehind K) [] := by
  refine C8.cal0 F b .nil sc_ring_behind (fun vs H Q E h => ?_) (fun cdv A outer s H vs Q E hr h => ?_)
  · obtain ⟨p, bd, ts, lits, bs, s, t, rfl, _⟩ := h
    rfl
  · obtain ⟨p, bd, ts, lits, bs, s0, t, rfl, hp, hL, hb, hok, hb1, G, hn, k⟩ := h
    have hu := hu_of hr
    refine ⟨_, (pss_cons (ps_for PassesOwn.never rfl (pi_range1 (by rfl) T.z_range (pa_cons (pe_callB call_lenD (by rfl) T.z_len (by decide +kernel) (pa_cons (pv 1) pa_nil)) pa_nil)) (pg_name (i := 3) sc_ring_behind.nd rfl (Or.inl rfl))
    (pss_one (ps_set (i := 2) sc_ring_behind.nd rfl (Or.inl rfl) (pe_ix ix_tup (pe_ix ix_list (pv 0) (pe_dget hu (pv 1) (pv 2) (fun _ _ => rfl)) (fun _ _ => rfl)) pe_int (fun _ _ => rfl)))))
    (pss_cons (ps_set (i := 4) sc_ring_behind.nd rfl (Or.inl rfl) (pe_lst (pa_cons (pe_dget hu (pv 1) (pv 2) (fun _ _ => rfl)) pa_nil)))
    (pss_cons (ps_set (i := 5) sc_ring_behind.nd rfl (Or.inl rfl) (pe_ix ix_tup (pe_ix ix_list (pv 0) (pe_ix ix_list (pv 4) pe_int (fun _ _ => rfl)) (fun _ _ => rfl)) pe_int (fun _ _ => rfl)))
    (pss_cons (ps_while PassesOwn.never (pt_cmpR op_ne (pv 5) (pv 2) (nomark _)) (pss_cons (ps_expr (pe_bm PySem.F.plainAttrs_list PySem.F.slot_list_append PySem.F.type_list_append mt_append (pv 4) (pa_cons (pe_dget hu (pv 1) (pv 5) (fun _ _ => rfl)) pa_nil)))
    (pss_one (ps_set (i := 5) sc_ring_behind.nd rfl (Or.inl rfl) (pe_ix ix_tup (pe_ix ix_list (pv 0) (pe_ix ix_list (pv 4) (pe_un un_neg pe_int) (fun _ _ => rfl)) (fun _ _ => rfl)) pe_int (fun _ _ => rfl))))))
    (pss_one (ps_ret (pe_callTy call_tuple_of (by rfl) T.z_tuple (by decide +kernel) (pa_cons (pv 4) pa_nil)))))))), ?_⟩
    -- one step back
    have back : ∀ (x : Str), s0.by_ x ≠ none → ∃ (i : Nat) (a : Addr) (n : Int), s0.by_ x = some i ∧ (∀ H', Same H H' → DGet H' bd (.str x) (some (.int (i : Nat)))) ∧ atI (ts.map V.ref) (i : Int) = some (.ref a) ∧ ∀ H', Same H H' → SqT K H' a [.str x, .str (Bf.nxt lits s0.by_ x), .int n] := fun x hx => by
      obtain ⟨i, hi⟩ := Option.ne_none_iff_exists'.mp hx
      obtain ⟨r, n, hLi, _⟩ := G.own x i hi
      obtain ⟨a, ha, hs⟩ := hL.2 i _ hLi
      refine ⟨i, a, n, hi, fun H' S => dget_bk (S _ _ hb) hok hi, atI_nat (by rw [List.getElem?_map, ha]; rfl), fun H' S => ?_⟩
      rw [Bf.nxt_at hi hLi]
      exact Same.seqT S hs
    refine ⟨_, rfl, bd, _, rfl, hb, _, rfl, by omega, by rw [bk_len]; omega, for_range (lo := 0) (n := (((bk bs s0.by_).length : Nat) : Int).toNat) (fun i σ H' => ∃ (v3 v4 v5 : Option V), σ = [some (.ref p), some (.ref bd), some (.str (Bf.itr lits s0.by_ t i)), v3, v4, v5] ∧ H' = H) ⟨none, none, none, rfl, rfl⟩ ?_ ?_⟩
    · rintro i σ H' hi ⟨v3, v4, v5, rfl, rfl⟩
      obtain ⟨j, a, n, h1, h2, h3, h4⟩ := back _ (hn i)
      refine ⟨_, rfl, _, rfl, _, rfl, bd, _, rfl, h2 _ (Same.refl _), p, _, _, _, rfl, rfl, hp, h3, a, _, _, _, rfl, rfl, h4 _ (Same.refl _), rfl, ?_⟩
      exact ⟨_, _, _, rfl, rfl⟩
    · rintro σ H' ⟨v3, v4, v5, rfl, rfl⟩
      have el : (((bk bs s0.by_).length : Nat) : Int).toNat = bs.length := by rw [bk_len]; omega
      rw [el]
      generalize hx : Bf.itr lits s0.by_ t bs.length = x
      have hnx : ∀ k, s0.by_ (Bf.itr lits s0.by_ x k) ≠ none := fun k => by
        rw [← hx, ← Bf.itr_add]
        exact hn _
      obtain ⟨d0, hd0, hd1, hd2⟩ := Bf.on_ring (fun y hy => (hok.2 y).mpr hy) hn
      rw [Bf.itr_add, hx] at hd2
      obtain ⟨d, hdl, ⟨hdp, hdx⟩, hmin⟩ := Bf.least (p := fun d => 0 < d ∧ Bf.itr lits s0.by_ x d = x) d0 ⟨hd0, hd2⟩
      obtain ⟨j0, a0, n0, g1, g2, g3, g4⟩ := back _ (hnx 0)
      have e0 : Bf.itr lits s0.by_ x 0 = x := rfl
      rw [e0] at g1 g2 g4
      -- ring = [lowered_by[term]]
      refine ⟨_, rfl, _, rfl, bd, _, rfl, g2 _ (Same.refl _), (by show 1 ≤ sizeLine; decide), fun R nR => ?_⟩
      have S1 : Same H' (upd H' R (.lst [.int (j0 : Nat)])) := Same.new nR
      -- following = literals[ring[0]][1]
      refine ⟨_, rfl, _, rfl, R, _, _, _, rfl, rfl, SqL.of upd_same, rfl, p, _, _, _, rfl, rfl, S1.seq hp, g3, a0, _, _, _, rfl, rfl, g4 _ S1, rfl, ?_⟩
      refine ⟨fun m σ H2 => ∃ (c : Nat) (v3 : Option V), m = d - (c + 1) ∧ c + 1 ≤ d ∧ σ = [some (.ref p), some (.ref bd), some (.str x), v3, some (.ref R), some (.str (Bf.itr lits s0.by_ x (c + 1)))] ∧ Same H' H2 ∧ H2 R = some (.lst (((List.range (c + 1)).map fun j => (s0.by_ (Bf.itr lits s0.by_ x j)).getD 0).map natV)),
        ⟨_, 0, v3, rfl, hdp, rfl, S1, ?_⟩, ?_⟩
      · rw [upd_same]
        show some (HO.lst [.int (j0 : Nat)]) = some (HO.lst [natV ((s0.by_ x).getD 0)])
        rw [g1]
        rfl
      · rintro m σ H2 ⟨c, v3, rfl, hcd, rfl, S2, hR⟩
        refine ⟨_, rfl, _, rfl, rfl, _, rfl, ?_⟩
        by_cases hq : Bf.itr lits s0.by_ x (c + 1) = x
        · have e2 : (!decide (V.str (Bf.itr lits s0.by_ x (c + 1)) = V.str x)) = false := by
            rw [decide_eq_true (congrArg V.str hq)]
            rfl
          rw [e2]
          refine iteF ?_
          -- return tuple(ring)
          refine ⟨_, rfl, R, _, rfl, .inl ⟨SqL.of hR, fun q nq => ?_⟩⟩
          have hlen : ((List.range (c + 1)).map fun j => (s0.by_ (Bf.itr lits s0.by_ x j)).getD 0).length = c + 1 := by simp
          refine k q _ _ _ (S2.trans (Same.new nq)) (SqT.of upd_same) (Bf.ring_of G hnx hq (fun j h1 h2 h3 => ?_) hlen fun j hj => ?_) (by rw [hlen]; omega)
          · exact hmin j (by omega) ⟨h1, h3⟩
          · obtain ⟨i, hi⟩ := Option.ne_none_iff_exists'.mp (hnx j)
            rw [List.getElem?_map, List.getElem?_range (by omega)]
            show some ((s0.by_ (Bf.itr lits s0.by_ x j)).getD 0) = _
            rw [hi]
            rfl
        · have e2 : (!decide (V.str (Bf.itr lits s0.by_ x (c + 1)) = V.str x)) = true := by
            rw [decide_eq_false (fun h => hq (by injection h))]
            rfl
          rw [e2]
          refine iteT ?_
          have hcd2 : c + 1 < d := Nat.lt_of_le_of_ne hcd fun e => hq (by rw [e]; exact hdx)
          obtain ⟨j1, a1, n1, f1, f2, f3, f4⟩ := back _ (hnx (c + 1))
          refine ⟨fun σ H3 => ∃ v3, σ = [some (.ref p), some (.ref bd), some (.str x), v3, some (.ref R), some (.str (Bf.itr lits s0.by_ x (c + 1 + 1)))] ∧ Same H' H3 ∧ H3 R = some (.lst (((List.range (c + 1 + 1)).map fun j => (s0.by_ (Bf.itr lits s0.by_ x j)).getD 0).map natV)),
            fun σ H3 ⟨v3, e3, S3, hR3⟩ => ⟨d - (c + 1 + 1), by omega, c + 1, v3, rfl, hcd2, e3, S3, hR3⟩, ?_⟩
          refine ⟨_, rfl, .inl ⟨rfl, _, .inl (.inl hR)⟩, _, rfl, _, rfl, bd, _, rfl, f2 _ S2, R, _, _, rfl, rfl, hR, szs (by simp; omega), ?_⟩
          have S3 : Same H' (upd H2 R (.lst (((List.range (c + 1)).map fun j => (s0.by_ (Bf.itr lits s0.by_ x j)).getD 0).map natV ++ [.int (j1 : Nat)]))) := Same.mut S2 nR
          refine ⟨_, rfl, _, rfl, _, rfl, R, _, _, _, rfl, rfl, SqL.of upd_same, atI_last _ _, p, _, _, _, rfl, rfl, S3.seq hp, f3, a1, _, _, _, rfl, rfl, f4 _ S3, rfl, ?_⟩
          refine ⟨_, rfl, S3, ?_⟩
          have e3 : ((List.range (c + 1 + 1)).map fun j => (s0.by_ (Bf.itr lits s0.by_ x j)).getD 0).map natV = ((List.range (c + 1)).map fun j => (s0.by_ (Bf.itr lits s0.by_ x j)).getD 0).map natV ++ [natV j1] := by
            rw [List.range_succ (n := c + 1), List.map_append, List.map_append]
            show _ ++ [natV ((s0.by_ (Bf.itr lits s0.by_ x (c + 1))).getD 0)] = _
            rw [f1]
            rfl
          rw [upd_same, e3]
          rfl
end
end K2

namespace Bx
open PySem L2
theorem itk_run {d : Addr} {o : Obj} {kvs : List (Key × V)} {F : V → Hp → (Hp → Prop) → Prop} {H4 : Hp} {Nx : Hp → Prop} (Pv : Nat → Hp → Prop) (h0 : Pv 0 H4) (hl : ∀ j H, Pv j H → H d = some (.frz o (.dK kvs)))
    (hs : ∀ j k v H, kvs[j]? = some (k, v) → Pv j H → F (kV k) H (Pv (j + 1))) (hd : ∀ H, Pv kvs.length H → Nx H) :
    ∃ W1 : Nat → Nat → Hp → Prop, (∃ m, W1 0 m H4) ∧ ∀ j k H, W1 j k H → ((Itk d o kvs).stop j H ∧ Nx H) ∨ ((Itk d o kvs).go j H ∧ ∃ Nx1 : Hp → Prop, (∀ H', Nx1 H' → ∃ k', k' < k ∧ W1 (j + 1) k' H') ∧ ∀ x H', (Itk d o kvs).yld j H x H' → F x H' Nx1) := by
  refine ⟨fun j k H => k = kvs.length - j ∧ j ≤ kvs.length ∧ Pv j H, ⟨kvs.length, rfl, Nat.zero_le _, h0⟩, ?_⟩
  rintro j k H ⟨rfl, hj, p⟩
  have q := hl j H p
  by_cases hlt : j < kvs.length
  · refine .inr ⟨⟨q, hlt⟩, Pv (j + 1), fun H' p' => ⟨kvs.length - (j + 1), by omega, rfl, hlt, p'⟩, fun x H' y => ?_⟩
    obtain ⟨e, k, v, y, ex⟩ := y
    subst e ex
    exact hs j k v _ y p
  · have e : j = kvs.length := by omega
    subst e
    exact .inl ⟨⟨q, Nat.le_refl _⟩, hd H p⟩
/-- one key more, its value the function's -/
theorem hk_same {g : Str → Int} {t : Str} (ks : List Str) : ∃ ks', putK (hk ks g) (Sum.inr t) (.int (g t)) = hk ks' g ∧ t ∈ ks' ∧ (∀ x ∈ ks, x ∈ ks') ∧ ks'.length ≤ ks.length + 1 := by
  by_cases m : t ∈ ks
  · refine ⟨ks, (hk_put m).trans ?_, m, fun x h => h, Nat.le_succ _⟩
    congr 1
    funext x
    unfold Bf.put
    by_cases e : x = t <;> simp [e]
  · refine ⟨ks ++ [t], (fk_new (v := fun t => V.int (g t)) m).trans ?_, by simp, fun x h => by simp [h], by simp⟩
    unfold fk hk
    refine List.map_congr_left fun k _ => ?_
    by_cases e : k = t <;> simp [e]
end Bx
namespace K2
open PySem L2 Bx
section
variable {P : Program} {w : World} {K : PySem.W.Frag} {mg : Str → Option Value} {base : Heap}
def val (g : Str → Int) (t : Str) : Int := if t = "" then 0 else g t
def spSolved (K : PySem.W.Frag) : Sp := fun vs H Q _ => ∃ (p : Addr) (ts : List Addr) (lits : List (Str × Str × Int)), vs = [.ref p] ∧ SqL K H p (ts.map V.ref) ∧ LitsAt K H ts lits ∧ lits.length ≤ 300 ∧
  (∀ (r d : Addr) (ks : List Str) (g : Str → Int) (H' : Hp), Same H H' → SqT K H' r [.str "values", .ref d] → H' d = some (.dK (hk ks g)) → (∀ q ∈ lits, (q.1 = "" ∨ q.1 ∈ ks) ∧ (q.2.1 = "" ∨ q.2.1 ∈ ks)) → (∀ q ∈ lits, val g q.1 ≤ val g q.2.1 + q.2.2) → Q (.ref r) H') ∧
  (∀ (r c : Addr) (is : List Nat) (f : Nat → Str) (H' : Hp), Same H H' → SqT K H' r [.str "ring", .ref c] → SqT K H' c (is.map natV) → Bf.IsRing lits is f → is.length ≤ 1000 → Q (.ref r) H')
theorem but2_same {x y : Addr} {H H1 H2 : Hp} (a : Same H H1) (b : But2 x y H1 H2) (hx : H x = none) (hy : H y = none) : Same H H2 := fun c o h => b c o (a c o h) (ne_of_none h hx) (ne_of_none h hy)
theorem same_none {H H' : Hp} (a : Same H H') {p : Addr} (h : H' p = none) : H p = none := by
  cases q : H p with
  | none => rfl
  | some o =>
    rw [a p o q] at h
    cases h
theorem ok_solved {f : Addr} {fd : FuncData} (F : C8.Def K mg "solved" s_solved f fd) (b : Binds K fd ["literals"] []) (T : Txt mg) (K_check_literals : C8.Cal P w K mg base 3 "check_literals" (spChkG K) []) (K_lower_once : C8.Cal P w K mg base 1 "lower_once" (spLower K) []) (K_ring_behind : C8.Cal P w K mg base 1 "ring_behind" (spBehind K) []) : C8.Cal P w K mg base 4 "solved" (spSolved K) [] := by
  refine C8.cal0 F b .nil sc_solved (fun vs H Q E h => ?_) (fun cdv A outer s H vs Q E hr h => ?_)
  · obtain ⟨p, ts, lits, rfl, _⟩ := h
    rfl
  · obtain ⟨p, ts, lits, rfl, hp, hL, hl, kv, kr⟩ := h
    have hu := hu_of hr
    refine ⟨_, (pss_cons (ps_expr (C8.pe_c K_check_literals hr (by decide) (by rfl) (pa_cons (pv 0) pa_nil)))
    (pss_cons (ps_set (i := 1) sc_solved.nd rfl (Or.inr rfl) (pe_dc2 (own := [("left", 6), ("right", 7), ("number", 8), ("term", 9)]) (vs1 := [9]) rfl sc_solved.nd (pi_list (pv 0)) (blkOk_by (own := [("left", 6), ("right", 7), ("number", 8), ("term", 9)]) (N := N_solved) (sc := C8.fnScope s_solved) (by decide +kernel)) (by decide) (fun _ _ _ _ _ => (pgTK K 3 (pgs_cons (pg_name (i := 6) sc_solved.nd rfl (Or.inl rfl)) (pgs_cons (pg_name (i := 7) sc_solved.nd rfl (Or.inl rfl)) (pgs_cons (pg_name (i := 8) sc_solved.nd rfl (Or.inl rfl)) pgs_nil))))) (fun _ _ _ _ _ => pts_nil) (fun _ _ _ _ _ => ((piTK K) (pe_tup (pa_cons (pv 6) (pa_cons (pv 7) pa_nil))))) (fun _ _ _ _ _ => (pg_name (i := 9) sc_solved.nd rfl (Or.inl rfl))) (fun _ _ _ _ _ => pts_nil) (fun _ _ _ _ _ => (pv 9)) (fun _ _ _ _ _ => pe_int)))
    (pss_cons (ps_set (i := 2) sc_solved.nd rfl (Or.inl rfl) pe_dnewK)
    (pss_cons (ps_for PassesOwn.never rfl (pi_range1 (by rfl) T.z_range (pa_cons (pe_op op_add (pe_callB call_lenD (by rfl) T.z_len (by decide +kernel) (pa_cons (pv 1) pa_nil)) pe_int) pa_nil)) (pg_name (i := 3) sc_solved.nd rfl (Or.inl rfl))
    (pss_cons (ps_set (i := 4) sc_solved.nd rfl (Or.inl rfl) (C8.pe_c K_lower_once hr (by decide) (by rfl) (pa_cons (pv 0) (pa_cons (pv 1) (pa_cons (pv 2) pa_nil)))))
    (pss_one (ps_if (pt_cmpR op_isN (pv 4) pe_non (nomark _)) (pss_cons (ps_set (i := 5) sc_solved.nd rfl (Or.inr rfl) (pe_dget2 hu (pv 1) pe_str pe_int ⟨rfl, rfl, rfl, rfl⟩))
    (pss_one (ps_ret (pe_tup (pa_cons pe_str (pa_cons (pe_lock (pe_dc (own := [("term", 9)]) rfl sc_solved.nd (pi_keys (pv 1)) (blkOk_by (own := [("term", 9)]) (N := N_solved) (sc := C8.fnScope s_solved) (by decide +kernel)) (fun _ _ _ _ _ => (pg_name (i := 9) sc_solved.nd rfl (Or.inl rfl))) (fun _ _ _ _ _ => (pts_one (pt_cmpR op_ne (pv 9) pe_str (nomark _)))) (fun _ _ _ _ _ => (pv 9)) (fun _ _ _ _ _ => (pe_op op_sub (pe_dget hu (pv 1) (pv 9) (fun _ _ => rfl)) (pv 5))))) pa_nil)))))) pss_nil))))
    (pss_one (ps_ret (pe_tup (pa_cons pe_str (pa_cons (C8.pe_c K_ring_behind hr (by decide) (by rfl) (pa_cons (pv 0) (pa_cons (pv 2) (pa_cons (pv 4) pa_nil)))) pa_nil))))))))), ?_⟩
    refine ⟨_, rfl, p, ts, lits, rfl, hp, hL, hl, fun H1 S1 => ?_⟩
    have hp1 := S1.seq hp
    have hL1 := hL.mono S1
    -- heights
    refine ⟨_, rfl, p, rfl, ⟨_, hp1⟩, fun hd nhd => itl_run (xs := ts.map V.ref) (fun i H' => Same H1 H' ∧ ∃ ks, H' hd = some (.dK (hk ks fun _ => 0)) ∧ ks.length ≤ 2 * i ∧ ∀ j q, j < i → lits[j]? = some q → q.1 ∈ ks ∧ q.2.1 ∈ ks) ?_ ?_ ?_ ?_⟩
    · exact ⟨Same.new nhd, [], upd_same, Nat.zero_le _, fun j q h => absurd h (Nat.not_lt_zero j)⟩
    · rintro j H' _ ⟨B, _⟩
      exact B.seq hp1
    · rintro i x H2 hx ⟨S2, ks, hk2, hl2, hm2⟩
      rw [List.getElem?_map] at hx
      obtain ⟨t, ht, rfl⟩ := Option.map_eq_some_iff.mp hx
      have hil : i < lits.length := by
        rw [← hL.1]
        exact (List.getElem?_eq_some_iff.mp ht).1
      have hlq := List.getElem?_eq_getElem hil
      obtain ⟨t', ht', hs⟩ := hL1.2 i _ hlq
      have et : t' = t := Option.some.inj (ht'.symm.trans ht)
      subst et
      have hs2 := Same.seqT S2 hs
      generalize hq : lits[i] = q0 at *
      obtain ⟨lf, rg, n⟩ := q0
      refine ⟨t', _, rfl, hs2, rfl, _, _, rfl, _, _, rfl, _, _, rfl, rfl, rfl, ?_⟩
      refine ⟨_, rfl, _, rfl, (by show 2 ≤ sizeLine; decide), fun q nq => ?_⟩
      have n1 : H1 q = none := same_none S2 nq
      have hq2 : q ≠ hd := fun e => by rw [e, hk2] at nq; cases nq
      refine ⟨q, rfl, ⟨_, SqT.of upd_same⟩, itt_run (xs := [.str lf, .str rg]) (fun j H' => Same H1 H' ∧ H' q = some (.tup [.str lf, .str rg]) ∧ ∃ ks, H' hd = some (.dK (hk ks fun _ => 0)) ∧ ks.length ≤ 2 * i + j ∧ (∀ j q, j < i → lits[j]? = some q → q.1 ∈ ks ∧ q.2.1 ∈ ks) ∧ (0 < j → lf ∈ ks) ∧ (1 < j → rg ∈ ks)) ?_ ?_ ?_ ?_⟩
      · exact ⟨Same.mut S2 n1, upd_same, ks, by rw [upd_ne hq2.symm]; exact hk2, hl2, hm2, fun h => absurd h (Nat.not_lt_zero 0), fun h => absurd h (by omega)⟩
      · rintro j H' _ ⟨_, h, _⟩
        exact SqT.of h
      · rintro j x H3 hx ⟨S3, h3, ks3, hk3, hl3, hm3, h31, h32⟩
        have hx2 : ∃ y : Str, x = .str y ∧ (j = 0 → y = lf) ∧ (j = 1 → y = rg) ∧ j < 2 := by
          match j, hx with
          | 0, hx => exact ⟨lf, (Option.some.inj hx).symm, fun _ => rfl, fun e => (by cases e), by decide⟩
          | 1, hx => exact ⟨rg, (Option.some.inj hx).symm, fun e => (by cases e), fun _ => rfl, by decide⟩
          | j + 2, hx => cases hx
        obtain ⟨y, rfl, y0, y1, j2⟩ := hx2
        obtain ⟨ks4, e4, m4, s4, l4⟩ := hk_same (g := fun _ => 0) (t := y) ks3
        refine ⟨rfl, _, rfl, _, Sum.inr y, rfl, hk3, szs (by rw [hk_len]; omega), ?_⟩
        rw [e4]
        refine ⟨Same.mut S3 nhd, by rw [upd_ne hq2]; exact h3, ks4, upd_same, by omega, fun j q hj hq => ⟨s4 _ (hm3 j q hj hq).1, s4 _ (hm3 j q hj hq).2⟩, fun _ => ?_, fun h => ?_⟩
        · by_cases e : j = 0
          · rw [← y0 e]
            exact m4
          · exact s4 _ (h31 (by omega))
        · rw [← y1 (by omega)]
          exact m4
      · rintro H3 ⟨S3, h3, ks3, hk3, hl3, hm3, h31, h32⟩
        refine ⟨S3, ks3, hk3, by simp at hl3; omega, fun j q0 hj hq0 => ?_⟩
        by_cases e : j = i
        · subst e
          rw [hlq] at hq0
          cases hq0
          exact ⟨h31 (by simp), h32 (by simp)⟩
        · exact hm3 j q0 (by omega) hq0
    · rintro H2 ⟨S2, ks, hk2, hl2, hm2⟩
      have el : (ts.map V.ref).length = lits.length := by rw [List.length_map, hL.1]
      rw [el] at hl2 hm2
      have ends : ∀ q ∈ lits, q.1 ∈ ks ∧ q.2.1 ∈ ks := fun q hq => by
        obtain ⟨j, hj, e⟩ := List.mem_iff_getElem.mp hq
        exact hm2 j q hj (by rw [List.getElem?_eq_getElem hj, e])
      refine fun bd nbd => ?_
      have ne : hd ≠ bd := fun e => by rw [← e, hk2] at nbd; cases nbd
      have S3 : Same H1 (upd H2 bd (.dK [])) := Same.mut S2 (same_none S2 nbd)
      have hh3 : (upd H2 bd (.dK [])) hd = some (.dK (hk ks fun _ => 0)) := by rw [upd_ne ne]; exact hk2
      have hb3 : (upd H2 bd (.dK [])) bd = some (.dK []) := upd_same
      have n1bd : H1 bd = none := same_none S2 nbd
      generalize upd H2 bd (.dK []) = H3 at *
      have A0 : At K H3 p hd bd ts lits ks [] (Bf.passes lits 0) := ⟨S3.seq hp1, hL1.mono S3, hl, hh3, hb3, ne, ends, ⟨List.nodup_nil, fun t => ⟨fun h => (by cases h), fun h => absurd rfl h⟩⟩, by omega, Bf.passes_good lits 0⟩
      refine ⟨_, rfl, hd, _, rfl, hh3, _, _, rfl, rfl, _, rfl, by omega, by rw [hk_len]; omega, for_range (lo := 0) (n := ((((hk ks fun _ => 0).length : Nat) : Int) + 1).toNat) (fun i σ H' => ∃ (v3 v4 v5 : Option V) (bs : List Str), σ = [some (.ref p), some (.ref hd), some (.ref bd), v3, v4, v5, none, none, none, none] ∧ Same H1 H' ∧ At K H' p hd bd ts lits ks bs (Bf.passes lits i) ∧ (0 < i → ∃ t, v4 = some (.str t) ∧ (Bf.passes lits i).low = some t)) ?_ ?_ ?_⟩
      · exact ⟨none, none, none, [], rfl, S3, A0, fun h => absurd h (Nat.not_lt_zero 0)⟩
      · rintro i σ H4 hi ⟨v3, v4, v5, bs, rfl, S4, A4, _⟩
        refine ⟨_, rfl, _, rfl, _, rfl, p, hd, bd, ts, lits, ks, bs, _, rfl, A4, fun bs5 H5 B5 A5 => ?_⟩
        have S5 : Same H1 H5 := but2_same S4 B5 nhd n1bd
        have ep : Bf.pass lits (Bf.passes lits i) = Bf.passes lits (i + 1) := rfl
        have hlow := Bf.some_none (L := lits) (s := { Bf.passes lits i with low := none }) rfl lits.length
        rw [ep] at A5
        rw [ep]
        rw [show Bf.some_ lits { Bf.passes lits i with low := none } lits.length = Bf.passes lits (i + 1) from rfl] at hlow
        generalize Bf.passes lits (i + 1) = s6 at *
        refine ⟨_, rfl, rfl, _, rfl, ?_⟩
        cases hlw : s6.low with
        | some t => exact iteF ⟨_, some (.str t), v5, bs5, rfl, S5, A5, fun _ => ⟨t, rfl, rfl⟩⟩
        | none =>
          obtain ⟨e6, hle⟩ := hlow hlw
          refine iteT ?_
          have hz : ∃ o, DGet H5 hd (.str "") o ∧ o.getD (.int 0) = .int (s6.h "") := by
            by_cases m : ("" : Str) ∈ ks
            · exact ⟨_, dget_hk A5.hh m, rfl⟩
            · refine ⟨_, DGet.k (k := Sum.inr "") A5.hh, ?_⟩
              rw [show valV (hk ks s6.h) (Sum.inr "") = none from fk_no (v := fun t => V.int (s6.h t)) m, A5.good.root "" ?_]
              · rfl
              · cases hb : s6.by_ "" with
                | none => rfl
                | some i =>
                  obtain ⟨r, n, h1, _⟩ := A5.good.own "" i hb
                  exact absurd (ends _ (List.mem_of_getElem? h1)).1 m
          obtain ⟨o, ho, eo⟩ := hz
          refine ⟨_, rfl, hd, rfl, .inl ⟨_, .inl A5.hh⟩, o, ho, ?_⟩
          rw [eo]
          refine ⟨hd, _, A5.hh, trivial, fun od => ⟨_, rfl, hd, od, rfl, .inl ⟨_, upd_same, fun D nD => ?_⟩⟩⟩
          have neD : D ≠ hd := fun e => by rw [e, upd_same] at nD; cases nD
          have n5D : H5 D = none := by rw [upd_ne neD] at nD; exact nD
          generalize hH6 : upd H5 hd (.frz od (.dK (hk ks s6.h))) = H6 at *
          have f6 : H6 hd = some (.frz od (.dK (hk ks s6.h))) := by rw [← hH6, upd_same]
          refine itk_run (fun j H' => Same H6 H' ∧ ∃ ks', H' D = some (.dK (hk ks' fun t => s6.h t - s6.h "")) ∧ ks'.length ≤ j ∧ ∀ i x, i < j → ks[i]? = some x → x ≠ "" → x ∈ ks') ?_ ?_ ?_ ?_
          · exact ⟨Same.new nD, [], upd_same, Nat.zero_le _, fun i x h => absurd h (Nat.not_lt_zero i)⟩
          · rintro j H' ⟨S, _⟩
            exact S _ _ f6
          · rintro j k v H7 hj ⟨S7, ks7, h7, l7, m7⟩
            unfold hk at hj
            rw [List.getElem?_map] at hj
            obtain ⟨x, hx, ex⟩ := Option.map_eq_some_iff.mp hj
            have ek : k = Sum.inr x := (congrArg Prod.fst ex).symm
            subst ek
            have hjl : j < ks.length := (List.getElem?_eq_some_iff.mp hx).1
            refine ⟨rfl, _, rfl, rfl, _, rfl, ?_⟩
            by_cases e : x = ""
            · have e2 : (!decide (kV (Sum.inr x) = V.str "")) = false := by rw [e]; rfl
              rw [e2]
              refine iteF ⟨S7, ks7, h7, by omega, fun i y hi hy hne => ?_⟩
              by_cases e3 : i = j
              · subst e3
                rw [hx] at hy
                cases hy
                exact absurd e hne
              · exact m7 i y (by omega) hy hne
            · have e2 : (!decide (kV (Sum.inr x) = V.str "")) = true := by
                rw [decide_eq_false fun h => e (by injection h)]
                rfl
              rw [e2]
              obtain ⟨ks8, e8, m8, s8, l8⟩ := hk_same (g := fun t => s6.h t - s6.h "") (t := x) ks7
              refine iteT ⟨_, rfl, _, rfl, _, rfl, hd, _, rfl, .inl ⟨_, Sum.inr x, .inr ⟨od, S7 _ _ f6⟩, rfl, (hk_get (List.mem_of_getElem? hx)).symm⟩, _, rfl, _, _, rfl, rfl, _, Sum.inr x, rfl, h7, szs (by rw [hk_len]; have := A5.k1000; omega), ?_⟩
              rw [e8]
              refine ⟨Same.mut S7 nD, ks8, upd_same, by omega, fun i y hi hy hne => ?_⟩
              by_cases e3 : i = j
              · subst e3
                rw [hx] at hy
                cases hy
                exact m8
              · exact s8 _ (m7 i y (by omega) hy hne)
          · rintro H7 ⟨S7, ks7, h7, l7, m7⟩
            refine ⟨S7 _ _ f6, (by show 2 ≤ sizeLine; decide), fun R nR => ?_⟩
            have Sb : Same H5 (upd H7 hd (.dK (hk ks s6.h))) := fun c o hc => by
              by_cases e : c = hd
              · rw [e, upd_same, ← A5.hh, ← e, hc]
              · rw [upd_ne e]
                refine S7 _ _ ?_
                rw [← hH6, upd_ne e]
                exact hc
            have hD : (upd H7 hd (.dK (hk ks s6.h))) D = some (.dK (hk ks7 fun t => s6.h t - s6.h "")) := by rw [upd_ne neD]; exact h7
            rw [hk_len] at m7
            have hm : ∀ x ∈ ks, x = "" ∨ x ∈ ks7 := fun x hx => by
              obtain ⟨i, hi, e⟩ := List.mem_iff_getElem.mp hx
              by_cases e2 : x = ""
              · exact .inl e2
              · exact .inr (m7 i x hi (by rw [List.getElem?_eq_getElem hi, e]) e2)
            have hv : ∀ t, val (fun t => s6.h t - s6.h "") t = s6.h t - s6.h "" := fun t => by
              unfold val
              split
              · rename_i e
                rw [e]
                omega
              · rfl
            have SR := Same.new (o := .tup [.str "values", .ref D]) nR
            refine kv R D ks7 (fun t => s6.h t - s6.h "") _ (S1.trans (S5.trans (Sb.trans SR))) (SqT.of upd_same) (SR _ _ hD) (fun q hq => ⟨hm _ (ends q hq).1, hm _ (ends q hq).2⟩) fun q hq => ?_
            rw [hv, hv]
            obtain ⟨j, hj, e⟩ := List.mem_iff_getElem.mp hq
            have := hle j q hj (by rw [List.getElem?_eq_getElem hj, e])
            rw [e6]
            show (Bf.passes lits i).h _ - _ ≤ (Bf.passes lits i).h _ - _ + _
            have h2 : (Bf.passes lits i).h q.1 ≤ (Bf.passes lits i).h q.2.1 + q.2.2 := this
            omega
      · rintro σ H4 ⟨v3, v4, v5, bs, rfl, S4, A4, h4⟩
        have en : ((((hk ks fun _ => 0).length : Nat) : Int) + 1).toNat = ks.length + 1 := by rw [hk_len]; omega
        rw [en] at A4 h4
        obtain ⟨t, rfl, ht⟩ := h4 (Nat.succ_pos _)
        refine ⟨_, rfl, _, rfl, _, rfl, p, bd, ts, lits, bs, _, t, rfl, A4.hp, A4.hL, A4.hb, A4.ok, A4.b1000, A4.good, Bf.no_root ends ht, fun c is f H5 S5 hc R hlen => ?_⟩
        refine ⟨(by show 2 ≤ sizeLine; decide), fun q nq => ?_⟩
        have SR := Same.new (o := .tup [.str "ring", .ref c]) nq
        exact kr q c is f _ (S1.trans (S4.trans (S5.trans SR))) (SqT.of upd_same) (Same.seqT SR hc) R (by have := A4.b1000; omega)
end
end K2

namespace K2
open PySem L2 Bx
theorem nodup_le : ∀ {out is : List Int}, out.Nodup → (∀ k ∈ out, k ∈ is) → out.length ≤ is.length
  | [], _, _, _ => Nat.zero_le _
  | a :: o, is, nd, h => by
    have ha : a ∈ is := h a List.mem_cons_self
    have hn := List.nodup_cons.mp nd
    have e : o.length ≤ (is.erase a).length := nodup_le hn.2 fun k hk => (List.mem_erase_of_ne (fun q => hn.1 (by rw [← q]; exact hk))).mpr (h k (List.mem_cons_of_mem _ hk))
    have e2 : (is.erase a).length = is.length - 1 := List.length_erase_of_mem ha
    have hp : 0 < is.length := List.length_pos_of_mem ha
    rw [List.length_cons]
    omega
def lft (lits : List (Str × Str × Int)) (i : Nat) : Str := (lits.getD i ("", "", 0)).1
def rgt (lits : List (Str × Str × Int)) (i : Nat) : Str := (lits.getD i ("", "", 0)).2.1
theorem at_lit {lits : List (Str × Str × Int)} {i : Nat} {q : Str × Str × Int} (h : lits[i]? = some q) : lft lits i = q.1 ∧ rgt lits i = q.2.1 ∧ Bf.num lits i = q.2.2 := by
  unfold lft rgt
  rw [List.getD_eq_getElem?_getD, h]
  exact ⟨rfl, rfl, Bf.num_at h⟩
def prev (n j : Nat) : Nat := if j = 0 then n - 1 else j - 1
def RingN (lits : List (Str × Str × Int)) (is : List Nat) : Prop :=
  is ≠ [] ∧ (∀ j, j < is.length → lft lits (is.getD j 0) = rgt lits (is.getD (prev is.length j) 0)) ∧ Bf.tot lits is < 0
theorem tot_append (lits : List (Str × Str × Int)) : ∀ xs ys : List Nat, Bf.tot lits (xs ++ ys) = Bf.tot lits xs + Bf.tot lits ys
  | [], ys => by simp [Bf.tot]
  | x :: xs, ys => by
    show Bf.num lits x + Bf.tot lits (xs ++ ys) = Bf.num lits x + Bf.tot lits xs + Bf.tot lits ys
    rw [tot_append lits xs ys]
    omega
theorem tot_sum (lits : List (Str × Str × Int)) : ∀ is : List Nat, (is.map ((fun q : Str × Str × Int => q.2.2) ∘ fun a => (lft lits a, rgt lits a, Bf.num lits a))).sum = Bf.tot lits is
  | [] => rfl
  | a :: is => by
    rw [List.map_cons, List.sum_cons, tot_sum lits is]
    rfl
theorem take_snoc {α : Type} {xs : List α} {i : Nat} {x : α} (h : xs[i]? = some x) : xs.take (i + 1) = xs.take i ++ [x] := by
  rw [List.take_succ, h]
  rfl
theorem natV_map (is : List Nat) : is.map natV = (is.map Int.ofNat).map V.int := by
  rw [List.map_map]
  rfl
section
variable {P : Program} {w : World} {K : PySem.W.Frag} {mg : Str → Option Value} {base : Heap}
def spRing (K : PySem.W.Frag) : Sp := fun vs H Q _ => ∃ (p c : Addr) (ts : List Addr) (lits : List (Str × Str × Int)) (is : List Nat), vs = [.ref p, .ref c] ∧ SqL K H p (ts.map V.ref) ∧ LitsAt K H ts lits ∧ lits.length ≤ 300 ∧ SqT K H c (is.map natV) ∧ is.length ≤ 1000 ∧ (∀ i ∈ is, i < lits.length) ∧ is.Nodup ∧
  ∀ (b : Bool) (H' : Hp), Same H H' → (b = true ↔ RingN lits is) → Q (.bl b) H'
theorem at_lastR {ts : List Addr} {t : Addr} {n : Nat} (hn : ts.length = n) (h0 : 0 < n) (h : ts[n - 1]? = some t) : atI (ts.map V.ref) (-1) = some (.ref t) := by
  unfold atI ixN
  rw [if_neg (by decide), if_pos (by rw [List.length_map]; omega)]
  have e : ((-1 : Int) + (((ts.map V.ref).length : Nat) : Int)).toNat = n - 1 := by rw [List.length_map]; omega
  show (ts.map V.ref)[((-1 : Int) + (((ts.map V.ref).length : Nat) : Int)).toNat]? = _
  rw [e, List.getElem?_map, h]
  rfl
def spAreIx (K : PySem.W.Frag) : Sp := fun vs H Q _ => ∃ (c : Addr) (is : List Nat) (m : Nat), vs = [.ref c, .int (m : Nat)] ∧ SqT K H c (is.map natV) ∧ is.length ≤ 1000 ∧ (∀ i ∈ is, i < m) ∧ is.Nodup ∧
  ∀ (b : Bool) (H' : Hp), Same H H' → (b = true ↔ is ≠ []) → Q (.bl b) H'
theorem ok_are_indices {f : Addr} {fd : FuncData} (F : C8.Def K mg "are_indices" s_are_indices f fd) (b : Binds K fd ["indices", "many"] []) (T : Txt mg) (K_is_number : C8.Cal P w K mg base 1 "is_number" (spNum K) []) :
    C8.Cal P w K mg base 2 "are_indices" (spAreIx K) [] := by
  refine C8.cal0 F b .nil sc_are_indices (fun vs H Q E h => ?_) (fun cdv A outer s H vs Q E hr h => ?_)
  · obtain ⟨c, is, m, rfl, _⟩ := h
    rfl
  · obtain ⟨c, is, m, rfl, hc, h1000, hin, hnd, k⟩ := h
    refine ⟨_, (pss_cons (ps_if (PW.pt (pw_or (pt_not (pt_val (pe_callB call_isi (by rfl) T.z_isinstance (by decide +kernel) (pa_cons (pv 0) (pa_cons (pe_bltn (v := .ty "tuple") (by rfl) T.z_tuple (by decide +kernel) rfl) pa_nil))))) (pw_or1 (pt_not (pt_truth (pv 0) (by intro _; rfl)))))) (pss_one (ps_ret pe_bl)) pss_nil)
    (pss_cons (ps_for PassesOwn.never rfl (pi_tup (pv 0)) (pg_name (i := 2) sc_are_indices.nd rfl (Or.inl rfl))
    (pss_one (ps_if (PW.pt (pw_or (pt_not (pt_val (C8.pe_c K_is_number hr (by decide) (by rfl) (pa_cons (pv 2) pa_nil)))) (pw_or1 (pt_not (pt_chain op_le op_lt pe_int (pv 2) (pv 1)))))) (pss_one (ps_ret pe_bl)) pss_nil)))
    (pss_one (ps_ret (pe_cmpR op_eq (pe_lenSetT T.z_len T.z_set (pv 0)) (pe_callB call_len_seq (by rfl) T.z_len (by decide +kernel) (pa_cons (pv 0) pa_nil)) (nomark _)))))), ?_⟩
    refine ⟨_, rfl, _, _, _, _, true, rfl, .ty _, tyT hc, rfl, _, rfl, ?_⟩
    refine iteF ?_
    refine ⟨_, rfl, !(is.map natV).isEmpty, .inr (.inl ⟨_, hc, rfl⟩), ?_⟩
    have hlen : (is.map natV).length = is.length := List.length_map ..
    cases hem : (is.map natV).isEmpty with
    | true =>
      refine iteT ?_
      refine k false H (Same.refl H) ⟨fun h => (by cases h), fun hne => ?_⟩
      exact absurd (List.map_eq_nil_iff.mp (List.isEmpty_iff.mp hem)) hne
    | false =>
    refine iteF ?_
    have hisne : is ≠ [] := fun e => by
      rw [e] at hem
      cases hem
    refine ⟨_, rfl, c, rfl, ⟨_, hc⟩, for_tup (xs := is.map natV) (fun i σ H' => ∃ (v2 : Option V), σ = [some (.ref c), some (.int (m : Nat)), v2] ∧ Same H H')
      ⟨none, rfl, Same.refl H⟩ (fun i σ H' _ h => ?_) ?_ ?_⟩
    · obtain ⟨v2, rfl, S⟩ := h
      exact Same.seqT S hc
    · rintro i x σ H2 hx ⟨v2, rfl, S⟩
      rw [List.getElem?_map] at hx
      obtain ⟨a, ha, rfl⟩ := Option.map_eq_some_iff.mp hx
      have hal := hin a (List.mem_of_getElem? ha)
      refine ⟨_, rfl, _, _, true, false, rfl, .base (.int (a : Nat)), rfl, rfl, _, rfl, ?_⟩
      refine iteF ?_
      refine ⟨_, rfl, _, _, rfl, rfl, _, rfl, ?_⟩
      refine ite2 (fun hz0 => ?_) (fun hz0 => absurd (decide_eq_true (Int.natCast_nonneg a)) hz0)
      refine ⟨_, rfl, _, _, rfl, rfl, _, rfl, ?_⟩
      have e1 : decide ((a : Int) < (m : Int)) = true := decide_eq_true (by omega)
      rw [e1]
      refine iteF ?_
      exact ⟨_, rfl, S⟩
    · rintro σ H2 ⟨v2, rfl, S⟩
      have hc2 := Same.seqT S hc
      refine ⟨_, rfl, c, is.map Int.ofNat, rfl, by rw [← natV_map]; exact hc2, by rw [List.length_map]; exact h1000, fun out nd hm => ⟨_, rfl, c, _, rfl, .inr hc2, rfl, ?_⟩⟩
      have nd2 : (is.map Int.ofNat).Nodup := by
        rw [List.nodup_iff_pairwise_ne, List.pairwise_map]
        exact (List.nodup_iff_pairwise_ne.mp hnd).imp fun h e => h (Int.ofNat.inj e)
      have h1 := nodup_le nd2 (is := out) fun k hk => (hm k).mpr hk
      have h2 := nodup_le nd (is := is.map Int.ofNat) fun k hk => (hm k).mp hk
      rw [List.length_map] at h1 h2
      refine k _ H2 S ⟨fun _ => hisne, fun _ => decide_eq_true ?_⟩
      rw [hlen, show out.length = is.length by omega]
/-- each literal ends where the next one begins, with a sum below 0 -/
def Round (ls : List (Str × Str × Int)) : Prop := (∀ j, j < ls.length → (ls.getD j ("", "", 0)).1 = (ls.getD (if j = 0 then ls.length - 1 else j - 1) ("", "", 0)).2.1) ∧ (ls.map fun q => q.2.2).sum < 0
def spRound (K : PySem.W.Frag) : Sp := fun vs H Q _ => ∃ (p : Addr) (us : List Addr) (ls : List (Str × Str × Int)), vs = [.ref p] ∧ SqL K H p (us.map V.ref) ∧ LitsAt K H us ls ∧ ls ≠ [] ∧
  ∀ (b : Bool) (H' : Hp), Same H H' → (b = true ↔ Round ls) → Q (.bl b) H'
theorem ok_goes_round {f : Addr} {fd : FuncData} (F : C8.Def K mg "goes_round" s_goes_round f fd) (b : Binds K fd ["literals"] []) (T : Txt mg) :
    C8.Cal P w K mg base 1 "goes_round" (spRound K) [] := by
  refine C8.cal0 F b .nil sc_goes_round (fun vs H Q E h => ?_) (fun cdv A outer s H vs Q E hr h => ?_)
  · obtain ⟨p, us, ls, rfl, _⟩ := h
    rfl
  · obtain ⟨p, us, ls, rfl, hp, hL, hne, k⟩ := h
    refine ⟨_, (pss_cons (ps_set (i := 1) sc_goes_round.nd rfl (Or.inl rfl) pe_int)
    (pss_cons (ps_set (i := 2) sc_goes_round.nd rfl (Or.inl rfl) (pe_ix ix_tup (pe_ix ix_list (pv 0) (pe_un un_neg pe_int) (fun _ _ => rfl)) pe_int (fun _ _ => rfl)))
    (pss_cons (ps_for PassesOwn.never rfl (pi_list (pv 0)) (pg_tup (by rfl) (pgs_cons (pg_name (i := 3) sc_goes_round.nd rfl (Or.inl rfl)) (pgs_cons (pg_name (i := 4) sc_goes_round.nd rfl (Or.inl rfl)) (pgs_cons (pg_name (i := 5) sc_goes_round.nd rfl (Or.inl rfl)) pgs_nil))))
    (pss_cons (ps_if (pt_cmpR op_ne (pv 3) (pv 2) (nomark _)) (pss_one (ps_ret pe_bl)) pss_nil)
    (pss_cons (ps_set (i := 2) sc_goes_round.nd rfl (Or.inl rfl) (pv 4))
    (pss_one (ps_set (i := 1) sc_goes_round.nd rfl (Or.inl rfl) (pe_op op_add (pv 1) (pv 5)))))))
    (pss_one (ps_ret (pe_cmpR op_lt (pv 1) pe_int (nomark _))))))), ?_⟩
    have hul := hL.1
    have hpos : 0 < ls.length := List.length_pos_iff.mpr hne
    obtain ⟨t, ht, hs⟩ := hL.2 (ls.length - 1) _ (List.getElem?_eq_getElem (by omega))
    have hat : atI (us.map V.ref) (-1) = some (.ref t) := at_lastR hul hpos ht
    refine ⟨_, rfl, _, rfl, p, _, _, _, rfl, rfl, hp, hat, t, _, _, _, rfl, rfl, hs, rfl, ?_⟩
    refine ⟨_, rfl, p, rfl, ⟨_, hp⟩, for_list (xs := us.map V.ref) (fun i σ H' => ∃ (v3 v4 v5 : Option V), σ = [some (.ref p), some (.int ((ls.take i).map fun q => q.2.2).sum), some (.str (ls.getD (if i = 0 then ls.length - 1 else i - 1) ("", "", 0)).2.1), v3, v4, v5] ∧ Same H H' ∧
        ∀ j, j < i → (ls.getD j ("", "", 0)).1 = (ls.getD (if j = 0 then ls.length - 1 else j - 1) ("", "", 0)).2.1)
      ⟨none, none, none, ?_, Same.refl H, fun j hj => absurd hj (Nat.not_lt_zero j)⟩ (fun i σ H' _ h => ?_) ?_ ?_⟩
    · show _ = [some (V.ref p), some (V.int 0), some (V.str (ls.getD (ls.length - 1) ("", "", 0)).2.1), _, _, _]
      rw [List.getD_eq_getElem?_getD, List.getElem?_eq_getElem (by omega)]
      rfl
    · obtain ⟨v3, v4, v5, rfl, S, _⟩ := h
      exact S.seq hp
    · rintro i x σ H2 hx ⟨v3, v4, v5, rfl, S, hch⟩
      rw [List.getElem?_map] at hx
      obtain ⟨t', ht', rfl⟩ := Option.map_eq_some_iff.mp hx
      have hil : i < ls.length := by
        rw [← hul]
        exact (List.getElem?_eq_some_iff.mp ht').1
      obtain ⟨t2, ht2, hs2⟩ := hL.2 i _ (List.getElem?_eq_getElem hil)
      have et : t2 = t' := Option.some.inj (ht2.symm.trans ht')
      subst et
      have egd : ls.getD i ("", "", 0) = ls[i] := by rw [List.getD_eq_getElem?_getD, List.getElem?_eq_getElem hil]; rfl
      refine ⟨t2, _, rfl, Same.seqT S hs2, rfl, _, _, rfl, _, _, rfl, _, _, rfl, rfl, ?_⟩
      refine ⟨_, rfl, _, rfl, rfl, _, rfl, ?_⟩
      by_cases hq : ls[i].1 = (ls.getD (if i = 0 then ls.length - 1 else i - 1) ("", "", 0)).2.1
      rotate_left
      · have e2 : (!decide (V.str ls[i].1 = V.str (ls.getD (if i = 0 then ls.length - 1 else i - 1) ("", "", 0)).2.1)) = true := by
          rw [decide_eq_false (fun h => hq (by injection h))]
          rfl
        rw [e2]
        refine iteT ?_
        refine k false H2 S ⟨fun h => (by cases h), fun h => ?_⟩
        have := h.1 i hil
        rw [egd] at this
        exact (hq this).elim
      have e2 : (!decide (V.str ls[i].1 = V.str (ls.getD (if i = 0 then ls.length - 1 else i - 1) ("", "", 0)).2.1)) = false := by
        rw [decide_eq_true (congrArg V.str hq)]
        rfl
      rw [e2]
      refine iteF ?_
      refine ⟨_, rfl, _, rfl, _, rfl, _, _, rfl, rfl, ?_⟩
      refine ⟨some (.str ls[i].1), some (.str ls[i].2.1), some (.int ls[i].2.2), ?_, S, fun j hj => ?_⟩
      · have e3 : ls.getD (if i + 1 = 0 then ls.length - 1 else i + 1 - 1) ("", "", 0) = ls[i] := by
          rw [if_neg (Nat.succ_ne_zero i), Nat.add_sub_cancel]
          exact egd
        have e4 : ((ls.take (i + 1)).map fun q => q.2.2).sum = ((ls.take i).map fun q => q.2.2).sum + ls[i].2.2 := by
          rw [take_snoc (List.getElem?_eq_getElem hil), List.map_append, List.sum_append]
          simp
        rw [e3, e4]
        rfl
      · rcases Nat.lt_succ_iff_lt_or_eq.mp hj with h | h
        · exact hch j h
        · rw [h, egd]
          exact hq
    · rintro σ H2 ⟨v3, v4, v5, rfl, S, hch⟩
      rw [List.length_map, hul] at hch
      refine ⟨_, rfl, _, _, rfl, rfl, ?_⟩
      refine k _ _ S ?_
      rw [decide_eq_true_eq, List.length_map, hul, List.take_length]
      exact ⟨fun h => ⟨hch, h⟩, fun h => h.2⟩
theorem ok_is_ring {f : Addr} {fd : FuncData} (F : C8.Def K mg "is_ring" s_is_ring f fd) (b : Binds K fd ["literals", "indices"] []) (T : Txt mg) (K_are_indices : C8.Cal P w K mg base 2 "are_indices" (spAreIx K) []) (K_goes_round : C8.Cal P w K mg base 1 "goes_round" (spRound K) []) (K_check_literals : C8.Cal P w K mg base 3 "check_literals" (spChkG K) []) :
    C8.Cal P w K mg base 4 "is_ring" (spRing K) [] := by
  refine C8.cal0 F b .nil sc_is_ring (fun vs H Q E h => ?_) (fun cdv A outer s H vs Q E hr h => ?_)
  · obtain ⟨p, c, ts, lits, is, rfl, _⟩ := h
    rfl
  · obtain ⟨p, c, ts, lits, is, rfl, hp0, hL0, h300, hc0, h1000, hin, hnd, k⟩ := h
    refine ⟨_, (pss_cons (ps_expr (C8.pe_c K_check_literals hr (by decide) (by rfl) (pa_cons (pv 0) pa_nil)))
    (pss_one (ps_ret (pe_and (C8.pe_c K_are_indices hr (by decide) (by rfl) (pa_cons (pv 1) (pa_cons (pe_callB call_len_seq (by rfl) T.z_len (by decide +kernel) (pa_cons (pv 0) pa_nil)) pa_nil))) (pe_one (C8.pe_c K_goes_round hr (by decide) (by rfl) (pa_cons (pe_lc (own := [("index", 2)]) (g := gName 2) (tt := tYes) rfl sc_is_ring.nd (pi_tup (pv 1)) (blkOk_by (own := [("index", 2)]) (N := N_is_ring) (sc := C8.fnScope s_is_ring) (by decide +kernel)) (fun _ _ _ _ _ => (pg_name (i := 2) sc_is_ring.nd rfl (Or.inl rfl))) (fun _ _ _ _ _ => pts_nil) (fun _ _ _ _ _ => (pe_ix (ixLK K) (pv 0) (pv 2) (fun _ _ => rfl)))) pa_nil))))))), ?_⟩
    refine ⟨_, rfl, p, ts, lits, rfl, hp0, hL0, h300, fun H0 S0 => ?_⟩
    have hp := S0.seq hp0
    have hL := hL0.mono S0
    have hc := Same.seqT S0 hc0
    have hpl : (ts.map V.ref).length = lits.length := by rw [List.length_map, hL.1]
    refine ⟨_, rfl, _, rfl, p, _, rfl, .inl hp, c, is, _, rfl, hc, h1000, (by rw [hpl]; exact hin), hnd, fun b1 H1 S1 hb1 => ?_⟩
    cases b1 with
    | false => exact ⟨_, rfl, iteF (k false H1 (S0.trans S1) ⟨fun h => (by cases h), fun h => hb1.mpr h.1⟩)⟩
    | true =>
      refine ⟨_, rfl, iteT ?_⟩
      have hisne := hb1.mp rfl
      have hp1 := S1.seq hp
      have hc1 := Same.seqT S1 hc
      have hL1 := hL.mono S1
      have hlen : (is.map natV).length = is.length := List.length_map ..
      have szs : ∀ {n : Nat}, n ≤ 1000 → n < sizeLine := fun h => Nat.lt_of_le_of_lt h (by decide)
      have look : ∀ {a : Nat} {H' : Hp}, a ∈ is → Same H1 H' → atI (ts.map V.ref) (a : Int) = some (.ref (ts.getD a 0)) ∧ SqT K H' (ts.getD a 0) [.str (lft lits a), .str (rgt lits a), .int (Bf.num lits a)] := by
        intro a H' ha S'
        have hq := List.getElem?_eq_getElem (hin a ha)
        obtain ⟨t, ht, hs⟩ := hL1.2 a _ hq
        obtain ⟨e1, e2, e3⟩ := at_lit hq
        have et : ts.getD a 0 = t := by rw [List.getD_eq_getElem?_getD, ht]; rfl
        rw [et, e1, e2, e3]
        exact ⟨atI_nat (by rw [List.getElem?_map, ht]; rfl), Same.seqT S' hs⟩
      refine ⟨_, rfl, c, rfl, ⟨_, hc1⟩, fun D n1 => lc_tup (xs := is.map natV) (fun j H' => Same H1 H' ∧ H' D = some (.lst (((is.take j).map fun a => ts.getD a 0).map V.ref))) ⟨Same.new n1, upd_same⟩ (fun j H' _ h => Same.seqT h.1 hc1) ?_ ?_⟩
      · rintro j x H3 hx ⟨S3, h3⟩
        rw [List.getElem?_map] at hx
        obtain ⟨a, ha, rfl⟩ := Option.map_eq_some_iff.mp hx
        have hj : j < is.length := (List.getElem?_eq_some_iff.mp ha).1
        obtain ⟨hat, hs⟩ := look (List.mem_of_getElem? ha) S3
        refine ⟨rfl, _, rfl, _, rfl, p, _, _, _, rfl, rfl, S3.seq hp1, hat, _, h3, szs (by simp; omega), Same.mut S3 n1, ?_⟩
        rw [upd_same, take_snoc ha, List.map_append, List.map_append]
        rfl
      rintro H3 ⟨S3, h3⟩
      rw [hlen, List.take_length] at h3
      refine ⟨D, _, is.map fun a => (lft lits a, rgt lits a, Bf.num lits a), rfl, SqL.of h3, ⟨by simp, fun j q hj => ?_⟩, fun e => hisne (List.map_eq_nil_iff.mp e), fun b2 H4 S4 hb2 => k b2 H4 (((S0.trans S1).trans S3).trans S4) ?_⟩
      · rw [List.getElem?_map] at hj
        obtain ⟨a, ha, rfl⟩ := Option.map_eq_some_iff.mp hj
        obtain ⟨hat, hs⟩ := look (List.mem_of_getElem? ha) S3
        exact ⟨ts.getD a 0, by rw [List.getElem?_map, ha]; rfl, hs⟩
      · rw [hb2]
        have eg : ∀ j, j < is.length → (is.map fun a => (lft lits a, rgt lits a, Bf.num lits a)).getD j ("", "", 0) = (lft lits (is.getD j 0), rgt lits (is.getD j 0), Bf.num lits (is.getD j 0)) := fun j hj => by
          rw [List.getD_eq_getElem?_getD, List.getD_eq_getElem?_getD, List.getElem?_map, List.getElem?_eq_getElem hj]
          rfl
        have es : ((is.map fun a => (lft lits a, rgt lits a, Bf.num lits a)).map fun q => q.2.2).sum = Bf.tot lits is := by
          rw [List.map_map]
          exact tot_sum lits is
        have hpos := List.length_pos_iff.mpr hisne
        unfold Round RingN prev
        rw [es, List.length_map]
        constructor
        · rintro ⟨h1, h2⟩
          refine ⟨hisne, fun j hj => ?_, h2⟩
          have := h1 j hj
          rw [eg j hj, eg _ (by split <;> omega)] at this
          exact this
        · rintro ⟨_, h1, h2⟩
          refine ⟨fun j hj => ?_, h2⟩
          rw [eg j hj, eg _ (by split <;> omega)]
          exact h1 j hj
end
end K2

namespace Bf
universe u
variable {T : Type u} [DecidableEq T]
/-- m literals one behind the other around, their numbers summing to -less -/
structure Chn (tm : Nat → T) (m : Nat) (less : Int) (C : List (Lit T)) : Prop where
  pos : 0 < m
  m60 : m ≤ 60
  len : C.length = m
  inj : ∀ i j, i < m → j < m → tm i = tm j → i = j
  at_ : ∀ j, j < m → ∃ n : Int, C[j]? = some (tm j, tm ((j + 1) % m), n) ∧ -(10 ^ 53) ≤ n ∧ n ≤ 10 ^ 53
  sum : (C.map (·.2.2)).sum = -less
def pot (C : List (Lit T)) (j : Nat) : Int := ((C.take j).map (·.2.2)).sum
theorem pot_succ {C : List (Lit T)} {j : Nat} {q : Lit T} (h : C[j]? = some q) : pot C (j + 1) = pot C j + q.2.2 := by
  unfold pot
  rw [List.take_succ, h]
  simp
theorem Chn.potm {tm : Nat → T} {m : Nat} {less : Int} {C : List (Lit T)} (h : Chn tm m less C) : pot C m = -less := by
  unfold pot
  rw [List.take_of_length_le (by rw [h.len]; exact Nat.le_refl _)]
  exact h.sum
def Big : Int := 10 ^ 60
structure Mix (tm : Nat → T) (m : Nat) (less : Int) (C X L : List (Lit T)) : Prop where
  chn : Chn tm m less C
  big : ∀ q ∈ X, q.2.2 = Big
  x8 : X.length ≤ 8
  perm : L.Perm (C ++ X)
theorem tot_lb {L : List (Lit T)} {c : Int} : ∀ {is : List Nat}, (∀ i ∈ is, -c ≤ num L i) → -(c * (is.length : Int)) ≤ tot L is
  | [], _ => by simp [tot]
  | i :: is, h => by
    have ih := tot_lb (L := L) (c := c) (is := is) fun j hj => h j (List.mem_cons_of_mem _ hj)
    have h0 := h i List.mem_cons_self
    simp only [tot]
    rw [List.length_cons, Int.natCast_succ, Int.mul_add, Int.mul_one]
    omega
theorem tot_big {L : List (Lit T)} {c : Int} (hc : 0 ≤ c) {i0 : Nat} (hb : num L i0 = Big) : ∀ {is : List Nat}, i0 ∈ is → (∀ i ∈ is, -c ≤ num L i) → Big - c * (is.length : Int) ≤ tot L is
  | [], h, _ => by cases h
  | i :: is, hm, h => by
    simp only [tot]
    rw [List.length_cons, Int.natCast_succ, Int.mul_add, Int.mul_one]
    rcases List.mem_cons.mp hm with e | e
    · subst e
      have ih := tot_lb (L := L) (c := c) (is := is) fun j hj => h j (List.mem_cons_of_mem _ hj)
      rw [hb]
      omega
    · have ih := tot_big hc hb e fun j hj => h j (List.mem_cons_of_mem _ hj)
      have h0 := h i List.mem_cons_self
      omega
theorem Mix.small {tm : Nat → T} {m : Nat} {less : Int} {C X L : List (Lit T)} (M : Mix tm m less C X L) : ∀ q ∈ L, (q.2.2 = Big ∧ q ∈ X) ∨ (∃ k, k < m ∧ C[k]? = some q ∧ -(10 ^ 53) ≤ q.2.2 ∧ q.2.2 ≤ 10 ^ 53) := fun q hq => by
  rcases List.mem_append.mp (M.perm.mem_iff.mp hq) with h | h
  · obtain ⟨k, hk, e⟩ := List.mem_iff_getElem.mp h
    rw [M.chn.len] at hk
    obtain ⟨n, h1, h2⟩ := M.chn.at_ k hk
    have e2 : C[k]? = some q := by rw [List.getElem?_eq_getElem (by rw [M.chn.len]; exact hk), e]
    rw [h1] at e2
    cases e2
    exact .inr ⟨k, hk, h1, h2⟩
  · exact .inl ⟨M.big q h, h⟩
theorem Mix.len {tm : Nat → T} {m : Nat} {less : Int} {C X L : List (Lit T)} (M : Mix tm m less C X L) : L.length ≤ 68 := by
  rw [M.perm.length_eq, List.length_append, M.chn.len]
  have := M.x8
  have := M.chn.m60
  omega
structure Turn (tm : Nat → T) (m : Nat) (C L : List (Lit T)) (is : List Nat) (k0 : Nat) : Prop where
  klt : k0 < m
  len : is.length = m
  at_ : ∀ j, j < m → ∃ i, is[j]? = some i ∧ L[i]? = C[(k0 + j) % m]?
theorem Mix.turn {tm : Nat → T} {m : Nat} {less : Int} {C X L : List (Lit T)} (M : Mix tm m less C X L) {is : List Nat} {f : Nat → T} (R : IsRing L is f) : ∃ k0, Turn tm m C L is k0 := by
  have hm := M.chn.pos
  have inr : ∀ i ∈ is, i < L.length := fun i hi => by
    obtain ⟨j, hj, e⟩ := List.mem_iff_getElem.mp hi
    obtain ⟨i', n, h1, h2⟩ := R.at_ j hj
    rw [List.getElem?_eq_getElem hj, e] at h1
    cases h1
    exact (List.getElem?_eq_some_iff.mp h2).1
  have l68 : is.length ≤ 68 := by
    have := len_le R.nodup (ys := List.range L.length) fun i hi => List.mem_range.mpr (inr i hi)
    rw [List.length_range] at this
    have := M.len
    omega
  have lo : ∀ i ∈ is, -(10 ^ 53) ≤ num L i := fun i hi => by
    have hq := List.getElem?_eq_getElem (inr i hi)
    rw [num_at hq]
    rcases M.small _ (List.mem_of_getElem? hq) with ⟨h, _⟩ | ⟨_, _, _, h, _⟩
    · rw [h]
      unfold Big
      omega
    · exact h
  have nob : ∀ i ∈ is, num L i ≠ Big := fun i hi e => by
    have := tot_big (by omega) e hi lo
    have := R.neg
    unfold Big at *
    omega
  have step : ∀ j, j < is.length → ∃ i k, is[j]? = some i ∧ k < m ∧ L[i]? = C[k]? ∧ f j = tm k ∧ f (j + 1) = tm ((k + 1) % m) := fun j hj => by
    obtain ⟨i, n, h1, h2⟩ := R.at_ j hj
    have hi : i ∈ is := List.mem_of_getElem? h1
    rcases M.small _ (List.mem_of_getElem? h2) with ⟨h, _⟩ | ⟨k, hk, h, _⟩
    · exact absurd ((num_at h2).trans h) (nob i hi)
    · obtain ⟨n', h3, _⟩ := M.chn.at_ k hk
      rw [h3] at h
      have e := Option.some.inj h
      refine ⟨i, k, h1, hk, by rw [h2, h3, e], (congrArg (fun x => x.1) e).symm, (congrArg (fun x => x.2.1) e).symm⟩
  have npos : 0 < is.length := List.length_pos_iff.mpr R.ne
  obtain ⟨i0, k0, _, hk0, _, hf0, _⟩ := step 0 npos
  have all : ∀ j, j ≤ is.length → f j = tm ((k0 + j) % m) := by
    intro j
    induction j with
    | zero =>
      intro _
      rw [Nat.add_zero, Nat.mod_eq_of_lt hk0]
      exact hf0
    | succ j ih =>
      intro hj
      obtain ⟨i, k, _, hk, _, h1, h2⟩ := step j hj
      have e := M.chn.inj _ _ (Nat.mod_lt _ hm) hk ((ih (Nat.le_of_lt hj)).symm.trans h1)
      rw [h2, ← e, Nat.mod_add_mod]
      rfl
  have hn : is.length = m := by
    by_cases h : m < is.length
    · have e := R.inj 0 m npos h (by rw [hf0, all m (Nat.le_of_lt h), Nat.add_mod_right, Nat.mod_eq_of_lt hk0])
      omega
    · have e := R.back
      rw [hf0, all _ (Nat.le_refl _)] at e
      have e2 := M.chn.inj _ _ (Nat.mod_lt _ hm) hk0 e
      by_cases h2 : k0 + is.length < m
      · rw [Nat.mod_eq_of_lt h2] at e2
        omega
      · rw [Nat.mod_eq_sub_mod (by omega), Nat.mod_eq_of_lt (by omega)] at e2
        omega
  refine ⟨k0, hk0, hn, fun j hj => ?_⟩
  obtain ⟨i, k, h0, hk, h3, h1, h2⟩ := step j (by omega)
  have e := M.chn.inj _ _ (Nat.mod_lt _ hm) hk ((all j (by omega)).symm.trans h1)
  exact ⟨i, h0, by rw [h3, e]⟩
theorem tot_append' (L : List (Lit T)) : ∀ xs ys : List Nat, tot L (xs ++ ys) = tot L xs + tot L ys
  | [], ys => by simp [tot]
  | x :: xs, ys => by
    show num L x + tot L (xs ++ ys) = num L x + tot L xs + tot L ys
    rw [tot_append' L xs ys]
    omega
/-- a chain summing to 0 is no ring -/
theorem Mix.none {tm : Nat → T} {m : Nat} {C X L : List (Lit T)} (M : Mix tm m 0 C X L) {is : List Nat} {f : Nat → T} (R : IsRing L is f) : False := by
  obtain ⟨k0, t⟩ := M.turn R
  have hm := M.chn.pos
  have key : ∀ j, j ≤ m → tot L (is.take j) = pot C ((k0 + j) % m) - pot C k0 := by
    intro j
    induction j with
    | zero =>
      intro _
      rw [Nat.add_zero, Nat.mod_eq_of_lt t.klt]
      simp [tot]
    | succ j ih =>
      intro hj
      obtain ⟨i, h1, h2⟩ := t.at_ j hj
      have hk : (k0 + j) % m < m := Nat.mod_lt _ hm
      obtain ⟨n, h3, _⟩ := M.chn.at_ _ hk
      rw [h3] at h2
      have e1 : is.take (j + 1) = is.take j ++ [i] := by rw [List.take_succ, h1]; rfl
      have e2 : num L i = n := num_at h2
      have e3 := pot_succ h3
      have e4 : (k0 + (j + 1)) % m = ((k0 + j) % m + 1) % m := by rw [Nat.mod_add_mod]; rfl
      have e5 : pot C (((k0 + j) % m + 1) % m) = pot C ((k0 + j) % m + 1) := by
        by_cases h : (k0 + j) % m + 1 < m
        · rw [Nat.mod_eq_of_lt h]
        · have e : (k0 + j) % m + 1 = m := by omega
          rw [e, Nat.mod_self, M.chn.potm]
          rfl
      rw [e1, tot_append', ih (by omega), e4, e5, e3]
      simp only [tot]
      rw [e2]
      omega
  have h := key m (Nat.le_refl m)
  rw [Nat.add_mod_right, Nat.mod_eq_of_lt t.klt, List.take_of_length_le (by rw [t.len]; exact Nat.le_refl _)] at h
  have := R.neg
  omega
/-- a chain summing below 0 has no values -/
theorem Mix.novals {tm : Nat → T} {m : Nat} {less : Int} {C X L : List (Lit T)} (M : Mix tm m less C X L) (hl : 0 < less) (v : T → Int) (h : ∀ q ∈ L, v q.1 ≤ v q.2.1 + q.2.2) : False := by
  have hm := M.chn.pos
  have hC : ∀ (j : Nat) (q : Lit T), C[j]? = some q → v q.1 ≤ v q.2.1 + q.2.2 := fun j q e => h q (M.perm.mem_iff.mpr (List.mem_append_left _ (List.mem_of_getElem? e)))
  have key : ∀ j, j < m → v (tm 0) ≤ v (tm j) + pot C j := by
    intro j
    induction j with
    | zero =>
      intro _
      simp [pot]
    | succ j ih =>
      intro hj
      obtain ⟨n, h1, _⟩ := M.chn.at_ j (by omega)
      have h2 := hC _ _ h1
      have h3 := pot_succ h1
      rw [Nat.mod_eq_of_lt hj] at h2
      have := ih (by omega)
      simp only at h2 h3
      omega
  have h1 := key (m - 1) (by omega)
  obtain ⟨n, h2, _⟩ := M.chn.at_ (m - 1) (by omega)
  have h3 := hC _ _ h2
  have h4 := pot_succ h2
  rw [show m - 1 + 1 = m by omega] at h3 h4
  rw [Nat.mod_self] at h3
  rw [M.chn.potm] at h4
  simp only at h3 h4
  omega
theorem Mix.uniq {tm : Nat → T} {m : Nat} {less : Int} {C X L : List (Lit T)} (M : Mix tm m less C X L) {i j : Nat} {q : Lit T} (hi : L[i]? = some q) (hj : L[j]? = some q) (hq : q ∈ C) : i = j := by
  have nb : q.2.2 ≠ Big := fun e => by
    obtain ⟨k, hk, e2⟩ := List.mem_iff_getElem.mp hq
    rw [M.chn.len] at hk
    obtain ⟨n, h1, h2, h3⟩ := M.chn.at_ k hk
    rw [List.getElem?_eq_getElem (by rw [M.chn.len]; exact hk), e2] at h1
    have := congrArg (fun x => x.2.2) (Option.some.inj h1)
    simp only at this
    rw [e] at this
    unfold Big at this
    omega
  have pw : (C ++ X).Pairwise fun a b => a = b → a.2.2 = Big := by
    rw [List.pairwise_append]
    refine ⟨?_, ?_, fun a ha b hb e => by rw [e]; exact M.big b hb⟩
    · rw [List.pairwise_iff_getElem]
      intro i j hi hj hij e
      exfalso
      have li := hi
      have lj := hj
      rw [M.chn.len] at li lj
      obtain ⟨n, h1, _⟩ := M.chn.at_ i li
      obtain ⟨n', h2, _⟩ := M.chn.at_ j lj
      rw [List.getElem?_eq_getElem hi, e] at h1
      rw [List.getElem?_eq_getElem hj] at h2
      have e2 := Option.some.inj (h1.symm.trans h2)
      have := M.chn.inj i j li lj (congrArg (fun x => x.1) e2)
      omega
    · rw [List.pairwise_iff_getElem]
      intro i j hi hj hij e
      exact M.big _ (List.getElem_mem hi)
  have pw2 : L.Pairwise fun a b => a = b → a.2.2 = Big := (M.perm.pairwise_iff (R := fun a b => a = b → a.2.2 = Big) fun {a b} h e => by rw [← e] at h; rw [e] at h ⊢; exact h rfl).mpr pw
  rw [List.pairwise_iff_getElem] at pw2
  obtain ⟨li, ei⟩ := List.getElem?_eq_some_iff.mp hi
  obtain ⟨lj, ej⟩ := List.getElem?_eq_some_iff.mp hj
  rcases Nat.lt_trichotomy i j with h | h | h
  · exact absurd (by rw [← ei]; exact pw2 i j li lj h (ei.trans ej.symm)) nb
  · exact h
  · exact absurd (by rw [← ej]; exact pw2 j i lj li h (ej.trans ei.symm)) nb
theorem Turn.mem {tm : Nat → T} {m : Nat} {less : Int} {C X L : List (Lit T)} (M : Mix tm m less C X L) {is : List Nat} {k0 : Nat} (t : Turn tm m C L is k0) (i : Nat) : i ∈ is ↔ ∃ q, L[i]? = some q ∧ q ∈ C := by
  have hm := M.chn.pos
  constructor
  · intro hi
    obtain ⟨j, hj, e⟩ := List.mem_iff_getElem.mp hi
    rw [t.len] at hj
    obtain ⟨i', h1, h2⟩ := t.at_ j hj
    rw [List.getElem?_eq_getElem (by rw [t.len]; exact hj), e] at h1
    cases h1
    obtain ⟨n, h3, _⟩ := M.chn.at_ _ (Nat.mod_lt (k0 + j) hm)
    rw [h3] at h2
    exact ⟨_, h2, List.mem_of_getElem? h3⟩
  · rintro ⟨q, hi, hq⟩
    obtain ⟨k, hk, e⟩ := List.mem_iff_getElem.mp hq
    rw [M.chn.len] at hk
    have hk2 : C[k]? = some q := by rw [List.getElem?_eq_getElem (by rw [M.chn.len]; exact hk), e]
    -- j with (k0 + j) % m = k
    have hj : ∃ j, j < m ∧ (k0 + j) % m = k := by
      have h0 := t.klt
      by_cases h : k0 ≤ k
      · exact ⟨k - k0, by omega, by rw [show k0 + (k - k0) = k by omega, Nat.mod_eq_of_lt hk]⟩
      · refine ⟨m - k0 + k, by omega, ?_⟩
        rw [show k0 + (m - k0 + k) = k + m by omega, Nat.add_mod_right, Nat.mod_eq_of_lt hk]
    obtain ⟨j, hj, e2⟩ := hj
    obtain ⟨i', h1, h2⟩ := t.at_ j hj
    rw [e2, hk2] at h2
    have e3 := M.uniq hi h2 hq
    rw [e3]
    exact List.mem_of_getElem? h1
end Bf

namespace K2
open PySem L2 Bx
theorem ringN_of {lits : List (Str × Str × Int)} {is : List Nat} (g : Nat → Str) (ne : is ≠ []) (h : ∀ j, j < is.length → lft lits (is.getD j 0) = g j ∧ rgt lits (is.getD j 0) = g (j + 1)) (hb : g is.length = g 0) (neg : Bf.tot lits is < 0) : RingN lits is := by
  have hp : 0 < is.length := List.length_pos_iff.mpr ne
  refine ⟨ne, fun j hj => ?_, neg⟩
  rw [(h j hj).1]
  unfold prev
  split
  · rename_i e
    rw [(h _ (by omega)).2, show is.length - 1 + 1 = is.length by omega, hb, e]
  · rw [(h _ (by omega)).2, show j - 1 + 1 = j by omega]
section
variable {tm : Nat → Str} {m : Nat} {less : Int} {C X L : List (Str × Str × Int)} {is : List Nat} {k0 : Nat}
def gg (tm : Nat → Str) (m k0 : Nat) (j : Nat) : Str := tm ((k0 + j) % m)
theorem gg_per (j : Nat) : gg tm m k0 (j + m) = gg tm m k0 j := by
  unfold gg
  rw [← Nat.add_assoc, Nat.add_mod_right]
theorem turn_at (M : Bf.Mix tm m less C X L) (t : Bf.Turn tm m C L is k0) {j : Nat} (hj : j < m) : ∃ i n, is[j]? = some i ∧ L[i]? = some (gg tm m k0 j, gg tm m k0 (j + 1), n) := by
  obtain ⟨i, h1, h2⟩ := t.at_ j hj
  obtain ⟨n, h3, _⟩ := M.chn.at_ _ (Nat.mod_lt (k0 + j) M.chn.pos)
  rw [Nat.mod_add_mod] at h3
  exact ⟨i, n, h1, h2.trans h3⟩
theorem turn_lr (M : Bf.Mix tm m less C X L) (t : Bf.Turn tm m C L is k0) {j : Nat} (hj : j < m) : lft L (is.getD j 0) = gg tm m k0 j ∧ rgt L (is.getD j 0) = gg tm m k0 (j + 1) := by
  obtain ⟨i, n, h1, h2⟩ := turn_at M t hj
  have e : is.getD j 0 = i := by rw [List.getD_eq_getElem?_getD, h1]; rfl
  rw [e]
  exact ⟨(at_lit h2).1, (at_lit h2).2.1⟩
theorem turn_ne (M : Bf.Mix tm m less C X L) (t : Bf.Turn tm m C L is k0) : is ≠ [] := fun e => by
  have h1 := t.len
  have := M.chn.pos
  rw [e] at h1
  simp at h1
  omega
theorem turn_ring (M : Bf.Mix tm m less C X L) (t : Bf.Turn tm m C L is k0) (neg : Bf.tot L is < 0) : RingN L is :=
  ringN_of (gg tm m k0) (turn_ne M t) (fun j hj => turn_lr M t (by rw [← t.len]; exact hj)) (by
    rw [t.len]
    have := gg_per (tm := tm) (m := m) (k0 := k0) 0
    rwa [Nat.zero_add] at this) neg
theorem rot_getD (hm : is.length = m) {j : Nat} (hj : j < m) : (is.drop 1 ++ is.take 1).getD j 0 = is.getD ((j + 1) % m) 0 := by
  rw [List.getD_eq_getElem?_getD, List.getD_eq_getElem?_getD]
  congr 1
  by_cases h : j + 1 < m
  · rw [Nat.mod_eq_of_lt h, List.getElem?_append_left (by rw [List.length_drop]; omega), List.getElem?_drop, Nat.add_comm]
  · have e : j + 1 = m := by omega
    rw [e, Nat.mod_self, List.getElem?_append_right (by rw [List.length_drop]; omega), List.length_drop, List.getElem?_take, if_pos (by omega)]
    congr 1
    omega
theorem turn_rot (M : Bf.Mix tm m less C X L) (t : Bf.Turn tm m C L is k0) (neg : Bf.tot L is < 0) : RingN L (is.drop 1 ++ is.take 1) := by
  have hm := M.chn.pos
  have hl : (is.drop 1 ++ is.take 1).length = m := by
    rw [List.length_append, List.length_drop, List.length_take, t.len]
    omega
  refine ringN_of (fun j => gg tm m k0 (j + 1)) (fun e => ?_) (fun j hj => ?_) ?_ ?_
  · rw [e] at hl
    simp at hl
    omega
  · rw [hl] at hj
    rw [rot_getD t.len hj]
    have h := turn_lr M t (Nat.mod_lt (j + 1) hm)
    rw [h.1, h.2]
    by_cases h2 : j + 1 < m
    · rw [Nat.mod_eq_of_lt h2]
      exact ⟨rfl, rfl⟩
    · have e : j + 1 = m := by omega
      have p1 := gg_per (tm := tm) (m := m) (k0 := k0) 0
      have p2 := gg_per (tm := tm) (m := m) (k0 := k0) 1
      rw [Nat.zero_add] at p1
      rw [e, Nat.mod_self]
      refine ⟨p1.symm, ?_⟩
      rw [Nat.zero_add, ← p2, Nat.add_comm]
  · rw [hl]
    show gg tm m k0 (m + 1) = gg tm m k0 (0 + 1)
    rw [Nat.add_comm m 1, gg_per]
  · have e : is = is.take 1 ++ is.drop 1 := (List.take_append_drop 1 is).symm
    rw [tot_append]
    rw [e, tot_append] at neg
    omega
theorem turn_less (M : Bf.Mix tm m less C X L) (t : Bf.Turn tm m C L is k0) : ¬ RingN L (is.drop 1) := by
  rintro ⟨ne, h, _⟩
  have hl : (is.drop 1).length = m - 1 := by rw [List.length_drop, t.len]
  have h1 : 0 < (is.drop 1).length := List.length_pos_iff.mpr ne
  rw [hl] at h1
  have gd : ∀ j, (is.drop 1).getD j 0 = is.getD (j + 1) 0 := fun j => by
    rw [List.getD_eq_getElem?_getD, List.getD_eq_getElem?_getD, List.getElem?_drop, Nat.add_comm]
  have h0 := h 0 (by rw [hl]; omega)
  rw [hl] at h0
  unfold prev at h0
  rw [if_pos rfl, gd, gd, (turn_lr M t (j := 0 + 1) (by omega)).1, (turn_lr M t (j := m - 1 - 1 + 1) (by omega)).2, show m - 1 - 1 + 1 + 1 = 0 + m by omega, gg_per] at h0
  unfold gg at h0
  have e := M.chn.inj _ _ (Nat.mod_lt _ M.chn.pos) (Nat.mod_lt _ M.chn.pos) h0
  have hk := t.klt
  rw [show k0 + 0 = k0 from rfl, Nat.mod_eq_of_lt hk] at e
  by_cases h2 : k0 + 1 < m
  · rw [Nat.mod_eq_of_lt h2] at e
    omega
  · rw [Nat.mod_eq_sub_mod (by omega), Nat.mod_eq_of_lt (by omega)] at e
    omega
theorem turn_next (M : Bf.Mix tm m less C X L) (t : Bf.Turn tm m C L is k0) {j : Nat} (hj : j < m) : rgt L (is.getD j 0) = lft L (is.getD ((j + 1) % m) 0) := by
  rw [(turn_lr M t hj).2, (turn_lr M t (Nat.mod_lt (j + 1) M.chn.pos)).1]
  by_cases h2 : j + 1 < m
  · rw [Nat.mod_eq_of_lt h2]
  · have e : j + 1 = m := by omega
    have p1 := gg_per (tm := tm) (m := m) (k0 := k0) 0
    rw [e, Nat.mod_self, ← p1, Nat.zero_add]
end
/-- two lists in order with the same items -/
theorem eq_of_order : ∀ {xs ys : List Int}, xs.Pairwise (· < ·) → ys.Pairwise (· < ·) → (∀ x, x ∈ xs ↔ x ∈ ys) → xs = ys
  | [], [], _, _, _ => rfl
  | [], y :: ys, _, _, h => absurd ((h y).mpr List.mem_cons_self) (by simp)
  | x :: xs, [], _, _, h => absurd ((h x).mp List.mem_cons_self) (by simp)
  | x :: xs, y :: ys, p, q, h => by
    have p' := List.pairwise_cons.mp p
    have q' := List.pairwise_cons.mp q
    have e : x = y := by
      rcases List.mem_cons.mp ((h x).mp List.mem_cons_self) with e | e
      · exact e
      · rcases List.mem_cons.mp ((h y).mpr List.mem_cons_self) with e2 | e2
        · exact e2.symm
        · have := q'.1 x e
          have := p'.1 y e2
          omega
    subst e
    rw [eq_of_order p'.2 q'.2 fun z => ?_]
    constructor
    · intro hz
      rcases List.mem_cons.mp ((h z).mp (List.mem_cons_of_mem _ hz)) with e | e
      · have := p'.1 z hz
        omega
      · exact e
    · intro hz
      rcases List.mem_cons.mp ((h z).mpr (List.mem_cons_of_mem _ hz)) with e | e
      · have := q'.1 z hz
        omega
      · exact e
theorem order_of {xs : List Int} (p : xs.Pairwise (· ≤ ·)) (nd : xs.Nodup) : xs.Pairwise (· < ·) := by
  have := List.pairwise_and_iff.mpr ⟨p, List.nodup_iff_pairwise_ne.mp nd⟩
  exact this.imp fun h => by omega
end K2

namespace K2
open PySem L2 Bx
theorem WellAt.same {H H' : Hp} {l : Addr} (S : Same H H') (W : WellAt H l) : WellAt H' l := by
  obtain ⟨x, y, z, hw⟩ := W
  exact ⟨x, y, z, S _ _ hw⟩
theorem WellAt.ne {H : Hp} {l p : Addr} (W : WellAt H l) (h : H p = none) : p ≠ l := fun e => by
  obtain ⟨x, y, z, hw⟩ := W
  rw [e, hw] at h
  cases h
theorem WellAt.upd {H : Hp} {l p : Addr} {o : HO} (W : WellAt H l) (h : p ≠ l) : WellAt (upd H p o) l := by
  obtain ⟨x, y, z, hw⟩ := W
  exact ⟨x, y, z, by rw [upd_ne h.symm]; exact hw⟩
theorem sz {n : Nat} (h : n ≤ 1000) : n ≤ sizeLine := Nat.le_trans h (by decide)
def tm (k : Nat) : Str := "t" ++ toString ((0 : Int) + (k : Int))
theorem tm_inj : ∀ i, i < 60 → ∀ j, j < 60 → tm i = tm j → i = j := by decide +kernel
theorem tm_ok : ∀ i, i < 60 → PyData.strOk (tm i) = true ∧ tm i ≠ "" := by decide +kernel
theorem tm_len : ∀ i : Nat, i < 60 → (Str.ofString "t").length + (Str.ofString (toString ((0 : Int) + ((i : Nat) : Int)))).length ≤ 1000 := by decide +kernel
theorem tm_log : ∀ i : Nat, i < 60 → ((0 : Int) + ((i : Nat) : Int)).natAbs.log2 < 1920 := by decide +kernel
section
variable {P : Program} {w : World} {K : PySem.W.Frag} {mg : Str → Option Value} {base : Heap}
theorem LitsAt.but {l : Addr} {ws : List V} {H H' : Hp} {ts : List Addr} {lits : List (Str × Str × Int)} (hw : H l = some (.lst ws)) (e : But l H H') (h : LitsAt K H ts lits) : LitsAt K H' ts lits :=
  ⟨h.1, fun j q hj => (h.2 j q hj).imp fun t z => ⟨z.1, But.tupW hw e z.2⟩⟩
theorem LitsAt.snoc {H : Hp} {ts : List Addr} {lits : List (Str × Str × Int)} {u : Addr} {q : Str × Str × Int} (h : LitsAt K H ts lits) (hu : SqT K H u [.str q.1, .str q.2.1, .int q.2.2]) : LitsAt K H (ts ++ [u]) (lits ++ [q]) := by
  refine ⟨by simp [h.1], fun j q' hj => ?_⟩
  by_cases hl : j < lits.length
  · rw [List.getElem?_append_left hl] at hj
    rw [List.getElem?_append_left (by rw [h.1]; exact hl)]
    exact h.2 j q' hj
  · have hjl : j < (lits ++ [q]).length := (List.getElem?_eq_some_iff.mp hj).1
    have e : j = lits.length := by
      rw [List.length_append] at hjl
      simp at hjl
      omega
    subst e
    rw [List.getElem?_append_right (Nat.le_refl _)] at hj
    have e2 : q = q' := by simpa using hj
    subst e2
    exact ⟨u, by rw [List.getElem?_append_right (by rw [h.1]; exact Nat.le_refl _), h.1]; simp, hu⟩
def spHolds (K : PySem.W.Frag) : Sp := fun vs H Q _ => ∃ (a d : Addr) (l r : Str) (n : Int) (ks : List Str) (g : Str → Int), vs = [.ref a, .ref d] ∧ SqT K H a [.str l, .str r, .int n] ∧ H d = some (.dK (hk ks g)) ∧ (l = "" ∨ l ∈ ks) ∧ (r = "" ∨ r ∈ ks) ∧
  Q (.bl (decide (val g l ≤ val g r + n))) H
theorem ok_l_holds {f : Addr} {fd : FuncData} (F : C8.Def K mg "_law_holds" s_l_holds f fd) (b : Binds K fd ["_law_literal", "_law_found"] []) (T : Txt mg) : C8.Cal P w K mg base 1 "_law_holds" (spHolds K) [] := by
  refine C8.cal0 F b .nil sc_l_holds (fun vs H Q E h => ?_) (fun cdv A outer s H vs Q E hr h => ?_)
  · obtain ⟨a, d, l, r, n, ks, g, rfl, _⟩ := h
    rfl
  · obtain ⟨a, d, l, r, n, ks, g, rfl, ha, hd, hl, hrr, k⟩ := h
    have hu := hu_of hr
    refine ⟨_, (pss_cons (ps_set (i := 2) sc_l_holds.nd rfl (Or.inl rfl) (pe_ifExp (pt_cmpR op_eq (pe_ix ix_tup (pv 0) pe_int (fun _ _ => rfl)) pe_str (nomark _)) pe_int (pe_dget hu (pv 1) (pe_ix ix_tup (pv 0) pe_int (fun _ _ => rfl)) (fun _ _ => rfl))))
    (pss_cons (ps_set (i := 3) sc_l_holds.nd rfl (Or.inl rfl) (pe_ifExp (pt_cmpR op_eq (pe_ix ix_tup (pv 0) pe_int (fun _ _ => rfl)) pe_str (nomark _)) pe_int (pe_dget hu (pv 1) (pe_ix ix_tup (pv 0) pe_int (fun _ _ => rfl)) (fun _ _ => rfl))))
    (pss_one (ps_ret (pe_cmpR op_le (pv 2) (pe_op op_add (pv 3) (pe_ix ix_tup (pv 0) pe_int (fun _ _ => rfl))) (nomark _)))))), ?_⟩
    have look : ∀ t : Str, (t = "" ∨ t ∈ ks) → t ≠ "" → DGet H d (.str t) (some (.int (val g t))) := fun t h ne => by
      unfold val
      rw [if_neg ne]
      exact dget_hk hd (h.resolve_left ne)
    have v0 : ∀ {t : Str}, decide (V.str t = V.str "") = true → val g t = 0 := fun {t} h => by
      have e := of_decide_eq_true h
      injection e with e
      rw [e]
      exact if_pos rfl
    have v1 : ∀ {t : Str}, ¬ decide (V.str t = V.str "") = true → t ≠ "" := fun {t} h e => h (by rw [e]; rfl)
    refine ⟨_, rfl, a, _, _, _, rfl, rfl, ha, rfl, rfl, _, rfl, ?_⟩
    refine ite2 (fun h1 => ?_) (fun h1 => ?_)
    · rw [v0 h1] at k
      refine ⟨_, rfl, a, _, _, _, rfl, rfl, ha, rfl, rfl, _, rfl, ?_⟩
      refine ite2 (fun h2 => ?_) (fun h2 => ?_)
      · rw [v0 h2] at k
        exact ⟨_, rfl, _, rfl, _, rfl, a, _, _, _, rfl, rfl, ha, rfl, _, _, rfl, rfl, _, _, rfl, rfl, k⟩
      · exact ⟨_, rfl, _, rfl, a, _, _, _, rfl, rfl, ha, rfl, d, _, rfl, look r hrr (v1 h2), _, rfl, _, rfl, _, rfl, a, _, _, _, rfl, rfl, ha, rfl, _, _, rfl, rfl, _, _, rfl, rfl, k⟩
    · refine ⟨_, rfl, _, rfl, a, _, _, _, rfl, rfl, ha, rfl, d, _, rfl, look l hl (v1 h1), ?_⟩
      refine ⟨_, rfl, a, _, _, _, rfl, rfl, ha, rfl, rfl, _, rfl, ?_⟩
      refine ite2 (fun h2 => ?_) (fun h2 => ?_)
      · rw [v0 h2] at k
        exact ⟨_, rfl, _, rfl, _, rfl, a, _, _, _, rfl, rfl, ha, rfl, _, _, rfl, rfl, _, _, rfl, rfl, k⟩
      · exact ⟨_, rfl, _, rfl, a, _, _, _, rfl, rfl, ha, rfl, d, _, rfl, look r hrr (v1 h2), _, rfl, _, rfl, _, rfl, a, _, _, _, rfl, rfl, ha, rfl, _, _, rfl, rfl, _, _, rfl, rfl, k⟩
def spChain (K : PySem.W.Frag) : Sp := fun vs H Q _ => ∃ (l : Addr) (m : Nat) (less : Int), vs = [.ref l, .int (m : Int), .int less] ∧ WellAt H l ∧ 0 < m ∧ m ≤ 60 ∧ 0 ≤ less ∧ less ≤ 10 ^ 40 ∧
  ∀ (c : Addr) (ts : List Addr) (C : List (Str × Str × Int)) (H' : Hp), H' c = some (.lst (ts.map V.ref)) → c ≠ l → LitsAt K H' ts C → Bf.Chn tm m less C → WellAt H' l → But l H H' → Q (.ref c) H'
theorem ok_l_chain {f : Addr} {fd : FuncData} (F : C8.Def K mg "_law_chain" s_l_chain f fd) (b : Binds K fd ["_law_well_here", "_law_many", "_law_less"] []) (T : Txt mg) (K_l_draw : C8.Cal P w K mg base 1 "_law_draw" spDraw []) : C8.Cal P w K mg base 2 "_law_chain" (spChain K) [] := by
  refine C8.cal0 F b .nil sc_l_chain (fun vs H Q E h => ?_) (fun cdv A outer s H vs Q E hr h => ?_)
  · obtain ⟨l, m, less, rfl, _⟩ := h
    rfl
  · obtain ⟨l, m, less, rfl, hW, m0, m60, l0, l1, k⟩ := h
    refine ⟨_, (pss_cons (ps_setLc (i := 3) (own := [("_law_k", 6)]) (g := gName 6) (tt := tYes) rfl sc_l_chain.nd rfl rfl (sw_true rfl rfl rfl (by decide +kernel)) (pi_range1 (by rfl) T.z_range (pa_cons (pv 1) pa_nil)) (blkOk_by (own := [("_law_k", 6)]) (N := N_l_chain) (sc := C8.fnScope s_l_chain) (by decide +kernel)) (fun _ _ _ _ _ => (pg_name (i := 6) sc_l_chain.nd rfl (Or.inl rfl))) (fun _ _ _ _ _ => pts_nil) (fun _ _ _ _ _ => (pe_op op_add_str pe_str (pe_callTy call_str_int (by rfl) T.z_str (by decide +kernel) (pa_cons (pv 6) pa_nil)))))
    (pss_cons (ps_par (i := 4) (j := 5) (by rfl) sc_l_chain.nd rfl rfl (by decide) rfl rfl (pa_cons (pe_lst pa_nil) (pa_cons pe_int pa_nil)) (by rfl))
    (pss_cons (ps_for PassesOwn.never rfl (pi_range1 (by rfl) T.z_range (pa_cons (pe_op op_sub (pv 1) pe_int) pa_nil)) (pg_name (i := 6) sc_l_chain.nd rfl (Or.inl rfl))
    (pss_cons (ps_set (i := 7) sc_l_chain.nd rfl (Or.inl rfl) (pe_op op_sub (C8.pe_c K_l_draw hr (by decide) (by rfl) (pa_cons (pv 0) (pa_cons (pe_op op_add (pe_op op_mul pe_int (pe_op op_pow pe_int pe_int)) pe_int) pa_nil))) (pe_op op_pow pe_int pe_int)))
    (pss_cons (ps_expr (pe_bm PySem.F.plainAttrs_list PySem.F.slot_list_append PySem.F.type_list_append mt_append (pv 4) (pa_cons (pe_tup (pa_cons (pe_ix ix_list (pv 3) (pv 6) (fun _ _ => rfl)) (pa_cons (pe_ix ix_list (pv 3) (pe_op op_add (pv 6) pe_int) (fun _ _ => rfl)) (pa_cons (pv 7) pa_nil)))) pa_nil)))
    (pss_one (ps_set (i := 5) sc_l_chain.nd rfl (Or.inl rfl) (pe_op op_add (pv 5) (pv 7)))))))
    (pss_one (ps_ret (pe_op op_catS (pv 4) (pe_lst (pa_cons (pe_tup (pa_cons (pe_ix ix_list (pv 3) (pe_op op_sub (pv 1) pe_int) (fun _ _ => rfl)) (pa_cons (pe_ix ix_list (pv 3) pe_int (fun _ _ => rfl)) (pa_cons (pe_op op_sub (pe_un un_neg (pv 5)) (pv 2)) pa_nil)))) pa_nil)))))))), ?_⟩
    obtain ⟨wx, wy, wz, hW0⟩ := id hW
    refine ⟨_, rfl, _, rfl, by omega, by omega, fun D nD => lc_range (lo := 0) (n := ((m : Nat) : Int).toNat) (fun j H' => Same H H' ∧ H' D = some (.lst ((List.range j).map fun i => V.str (tm i)))) ⟨Same.new nD, upd_same⟩ ?_ ?_⟩
    · rintro j H1 hj ⟨S1, h1⟩
      have hj2 : j < 60 := by omega
      refine ⟨rfl, _, rfl, _, rfl, tm_log j hj2, _, _, rfl, rfl, sz (tm_len j hj2), _, h1, szs (by simp; omega), Same.mut S1 nD, ?_⟩
      rw [upd_same, List.range_succ, List.map_append]
      rfl
    · rintro H1 ⟨S1, h1⟩
      have en : ((m : Nat) : Int).toNat = m := by omega
      rw [en] at h1
      have nDl : D ≠ l := hW.ne nD
      refine ⟨Nat.zero_le _, fun p np => ⟨_, _, rfl, ?_⟩⟩
      have W1 := hW.same S1
      have npl : p ≠ l := W1.ne np
      have np0 : H p = none := same_none S1 np
      have npD : p ≠ D := fun e => by rw [e, h1] at np; cases np
      have htm : ∀ {i : Nat} {H' : Hp}, i < m → But l H1 H' → atI ((List.range m).map fun i => V.str (tm i)) (i : Int) = some (.str (tm i)) := fun {i H'} hi _ => atI_nat (by
        rw [List.getElem?_map, List.getElem?_range hi]
        rfl)
      refine ⟨_, rfl, _, _, rfl, rfl, _, rfl, by omega, by omega, for_range (lo := 0) (n := (((m : Nat) : Int) - 1).toNat) (fun j σ H' => ∃ (v6 v7 : Option V) (ts : List Addr) (lits : List (Str × Str × Int)) (tot : Int), σ = [some (.ref l), some (.int (m : Int)), some (.int less), some (.ref D), some (.ref p), some (.int tot), v6, v7] ∧
          H' p = some (.lst (ts.map V.ref)) ∧ LitsAt K H' ts lits ∧ lits.length = j ∧ (∀ i, i < j → ∃ n : Int, lits[i]? = some (tm i, tm (i + 1), n) ∧ -(10 ^ 51) ≤ n ∧ n ≤ 10 ^ 51) ∧ (lits.map (·.2.2)).sum = tot ∧ -(10 ^ 51 * (j : Int)) ≤ tot ∧ tot ≤ 10 ^ 51 * (j : Int) ∧ WellAt H' l ∧ But l H1 H')
        ⟨none, none, [], [], 0, rfl, upd_same, ⟨rfl, fun j q h => (by cases h)⟩, rfl, fun i h => absurd h (Nat.not_lt_zero i), rfl, by omega, by omega, W1.upd npl, But.of (Same.new np)⟩ ?_ ?_⟩
      · rintro j σ H2 hj ⟨v6, v7, ts, lits, tot, rfl, hp, hL, hlj, hat, hsum, t0, t1, W2, B2⟩
        have hD2 := B2 _ _ h1 nDl
        have hjm : j + 1 < m := by omega
        refine ⟨_, rfl, _, _, rfl, rfl, ⟨by decide, by decide, by decide⟩, _, _, rfl, rfl, .inl ⟨by decide, by decide⟩, _, _, rfl, rfl, l, _, rfl, W2, by decide, by decide, fun r H3 r0 r1 W3 B3 => ?_⟩
        refine ⟨_, _, rfl, rfl, ⟨by decide, by decide, by decide⟩, _, _, rfl, rfl, ?_⟩
        have hp3 := B3 _ _ hp npl
        have hD3 := B3 _ _ hD2 nDl
        refine ⟨_, rfl, .inl ⟨rfl, _, .inl (.inl hp3)⟩, _, rfl, _, rfl, D, _, _, _, rfl, rfl, SqL.of hD3, (by rw [Int.zero_add]; exact htm (H' := H3) (by omega) (B2.trans B3)), _, rfl, _, rfl, _, _, rfl, rfl, D, _, _, _, rfl, rfl, SqL.of hD3, (by rw [Int.zero_add, ← Int.natCast_succ]; exact htm (H' := H3) hjm (B2.trans B3)), _, rfl, (by show 3 ≤ sizeLine; decide), fun u nu => ?_⟩
        have e51 : (10 : Int) ^ Int.toNat 51 = 10 ^ 51 := rfl
        have n0 : -(10 ^ 51) ≤ (r - 10 ^ Int.toNat 51) := by omega
        have n1 : (r - 10 ^ Int.toNat 51) ≤ 10 ^ 51 := by omega
        have Su := Same.new (o := HO.tup [.str (tm j), .str (tm (j + 1)), .int (r - 10 ^ Int.toNat 51)]) nu
        obtain ⟨vx, vy, vz, hW2⟩ := id W2
        have hL3 := ((hL.but hW2 B3).mono Su).snoc (q := (tm j, tm (j + 1), (r - 10 ^ Int.toNat 51))) (SqT.of upd_same)
        have hpu := Su _ _ hp3
        have hts : ts.length = j := hL.1.trans hlj
        have Wu := W3.same Su
        obtain ⟨ux, uy, uz, hWu⟩ := id Wu
        refine ⟨p, _, _, rfl, rfl, hpu, szs (by simp; omega), ?_⟩
        refine ⟨_, rfl, _, rfl, _, _, rfl, rfl, ?_⟩
        refine ⟨some (.int (0 + (j : Int))), some (.int (r - 10 ^ Int.toNat 51)), ts ++ [u], lits ++ [(tm j, tm (j + 1), (r - 10 ^ Int.toNat 51))], tot + (r - 10 ^ Int.toNat 51), rfl, ?_, ?_, by simp; omega, fun i hi => ?_, ?_, ?_, ?_, Wu.upd npl, ((B2.trans B3).trans (But.of Su)).mut np⟩
        · rw [upd_same, List.map_append]
          rfl
        · exact hL3.but hpu (But.upd)
        · by_cases e : i = j
          · subst e
            refine ⟨(r - 10 ^ Int.toNat 51), ?_, n0, n1⟩
            rw [List.getElem?_append_right (by omega), hlj, Nat.sub_self]
            rfl
          · rw [List.getElem?_append_left (by omega)]
            exact hat i (by omega)
        · rw [List.map_append, List.sum_append, hsum]
          simp
        · rw [Int.natCast_succ, Int.mul_add, Int.mul_one]
          omega
        · rw [Int.natCast_succ, Int.mul_add, Int.mul_one]
          omega
      · rintro σ H2 ⟨v6, v7, ts, lits, tot, rfl, hp, hL, hlj, hat, hsum, t0, t1, W2, B2⟩
        have ej : (((m : Nat) : Int) - 1).toNat = m - 1 := by omega
        rw [ej] at hlj hat t0 t1
        have hD2 := B2 _ _ h1 nDl
        have hm1 : ((m : Int) - 1) = ((m - 1 : Nat) : Int) := by omega
        refine ⟨_, rfl, _, rfl, _, rfl, _, _, rfl, rfl, D, _, _, _, rfl, rfl, SqL.of hD2, (by rw [hm1]; exact htm (H' := H2) (by omega) B2), _, rfl, D, _, _, _, rfl, rfl, SqL.of hD2, htm (i := 0) (H' := H2) m0 B2, _, rfl, _, rfl, _, rfl, _, _, rfl, rfl, (by show 3 ≤ sizeLine; decide), fun u nu => ⟨(by show 1 ≤ sizeLine; decide), fun z nz => ?_⟩⟩
        have Su := Same.new (o := HO.tup [.str (tm (m - 1)), .str (tm 0), .int (-tot - less)]) nu
        have Sz := Same.new (o := HO.lst [.ref u]) nz
        have hts : ts.length = m - 1 := hL.1.trans hlj
        refine ⟨p, z, _, _, rfl, rfl, SqL.of ((Su.trans Sz) _ _ hp), SqL.of upd_same, sz (by simp; omega), fun y ny => ?_⟩
        have Sy := Same.new (o := HO.lst (ts.map V.ref ++ [.ref u])) ny
        have hL3 := (hL.mono ((Su.trans Sz).trans Sy)).snoc (q := (tm (m - 1), tm 0, -tot - less)) (Same.seqT (Sz.trans Sy) (SqT.of upd_same))
        have Wy := W2.same ((Su.trans Sz).trans Sy)
        refine k y (ts ++ [u]) _ _ (by rw [upd_same, List.map_append]; rfl) ((W2.same (Su.trans Sz)).ne ny) hL3 ⟨m0, m60, by simp; omega, fun i j hi hj => tm_inj i (by omega) j (by omega), fun j hj => ?_, ?_⟩ Wy (((But.of S1).trans B2).trans (But.of ((Su.trans Sz).trans Sy)))
        · by_cases e : j + 1 < m
          · obtain ⟨n', h2, h3, h4⟩ := hat j (by omega)
            refine ⟨n', ?_, by omega, by omega⟩
            rw [List.getElem?_append_left (by omega), Nat.mod_eq_of_lt e]
            exact h2
          · have e2 : j = m - 1 := by omega
            subst e2
            refine ⟨-tot - less, ?_, ?_, ?_⟩
            · rw [List.getElem?_append_right (by omega), hlj, Nat.sub_self, show m - 1 + 1 = m by omega, Nat.mod_self]
              rfl
            · have : (10 : Int) ^ 51 * ((m - 1 : Nat) : Int) ≤ 10 ^ 51 * 60 := Int.mul_le_mul_of_nonneg_left (by omega) (by decide)
              omega
            · have : (10 : Int) ^ 51 * ((m - 1 : Nat) : Int) ≤ 10 ^ 51 * 60 := Int.mul_le_mul_of_nonneg_left (by omega) (by decide)
              omega
        · rw [List.map_append, List.sum_append, hsum]
          simp
          omega
end
end K2

namespace Bx
open PySem L2
theorem inDK {X : Cx} (K : PySem.W.Frag) (hu : X.A.units + 65 < cLine) (h : X.K = K := by rfl) : OpR X (compareOp .In) (rInD K) := by subst h; exact op_inD hu
/-- both branches go on alike -/
theorem join {c : Prop} [Decidable c] {A B : Prop} {NX : Addr → Hp → Prop} (R : Addr → Hp → Prop) (p : Addr) (H : Hp) (hB : B = NX p H) (hr : ∀ p H, R p H → NX p H) (h0 : R p H) (h1 : c → (∀ p H, R p H → NX p H) → A) : if c then A else B := by
  split
  · rename_i h
    exact h1 h hr
  · rw [hB]
    exact hr p H h0
theorem eqv_lit (a b : Str × Str × Int) : PyData.eqv (.tuple [.str a.1, .str a.2.1, .int a.2.2]) (.tuple [.str b.1, .str b.2.1, .int b.2.2]) = decide (a = b) := by
  obtain ⟨a1, a2, a3⟩ := a
  obtain ⟨b1, b2, b3⟩ := b
  rw [Bool.eq_iff_iff, decide_eq_true_eq]
  simp [PyData.eqv, PyData.eqvAll]
def litD (a : Str × Str × Int) : PyData := .tuple [.str a.1, .str a.2.1, .int a.2.2]
theorem any_lit (q : Str × Str × Int) (C : List (Str × Str × Int)) : ((C.map litD).any fun z => PyData.eqv z (litD q)) = decide (q ∈ C) := by
  rw [Bool.eq_iff_iff, List.any_eq_true, decide_eq_true_eq]
  constructor
  · rintro ⟨z, hz, e⟩
    obtain ⟨a, ha, rfl⟩ := List.mem_map.mp hz
    have e := (eqv_lit a q).symm.trans e
    rw [← of_decide_eq_true e]
    exact ha
  · intro h
    refine ⟨litD q, List.mem_map_of_mem h, (eqv_lit q q).trans (decide_eq_true rfl)⟩
theorem lay_lit {a : Str × Str × Int} (h : PyData.strOk a.1 = true ∧ PyData.strOk a.2.1 = true) : PyData.canLay0 (litD a) = true := by
  simp [litD, PyData.canLay0, PyData.canLayAll0, h.1, h.2]
theorem shaped_lit {a : Str × Str × Int} (h : PyData.strOk a.1 = true ∧ PyData.strOk a.2.1 = true) : SeqAt.shaped (litD a) = true := by
  unfold SeqAt.shaped
  rw [Bool.and_eq_true, decide_eq_true_eq]
  refine ⟨lay_lit h, ?_⟩
  simp [litD, PyData.depth, PyData.depthAll]
theorem shaped_lits {C : List (Str × Str × Int)} (h : ∀ a ∈ C, PyData.strOk a.1 = true ∧ PyData.strOk a.2.1 = true) : SeqAt.shaped (.list (C.map litD)) = true := by
  have h1 : ∀ {C : List (Str × Str × Int)}, (∀ a ∈ C, PyData.strOk a.1 = true ∧ PyData.strOk a.2.1 = true) → PyData.canLayAll0 (C.map litD) = true := by
    intro C
    induction C with
    | nil => intro _; simp [PyData.canLayAll0]
    | cons a C ih => intro h; simp [PyData.canLayAll0, lay_lit (h a List.mem_cons_self), ih fun b hb => h b (List.mem_cons_of_mem _ hb)]
  have h2 : ∀ C : List (Str × Str × Int), PyData.depthAll (C.map litD) ≤ 3 := by
    intro C
    induction C with
    | nil => simp [PyData.depthAll]
    | cons a C ih =>
      simp [PyData.depthAll, litD, PyData.depth]
      omega
  unfold SeqAt.shaped
  rw [Bool.and_eq_true, decide_eq_true_eq]
  refine ⟨by simp [PyData.canLay0, h1 h], ?_⟩
  have := h2 C
  simp [PyData.depth]
  omega
end Bx
namespace K2
open PySem L2 Bx
theorem cut_to {xs : List V} {k : Nat} (h : k ≤ xs.length) : cutV xs none (some (k : Int)) = xs.take k := by
  unfold cutV
  rw [HT.sIx_none, HT.sIx_nat, List.drop_zero, Nat.sub_zero, Nat.min_eq_left h]
theorem cut_from {xs : List V} {k : Nat} (h : k ≤ xs.length) : cutV xs (some (k : Int)) none = xs.drop k := by
  unfold cutV
  rw [HT.sIx_nat, HT.sIx_none, Nat.min_eq_left h, List.take_of_length_le (by rw [List.length_drop]; omega)]
theorem cut_mem {xs : List V} {lo hi : Option Int} {x : V} (h : x ∈ cutV xs lo hi) : x ∈ xs := by
  unfold cutV at h
  exact List.mem_of_mem_drop (List.mem_of_mem_take h)
section
variable {K : PySem.W.Frag} {H : Hp}
theorem LitsAt.drop {ts : List Addr} {L : List (Str × Str × Int)} (h : LitsAt K H ts L) (k : Nat) : LitsAt K H (ts.drop k) (L.drop k) := by
  refine ⟨by simp [h.1], fun j q hj => ?_⟩
  rw [List.getElem?_drop] at hj ⊢
  exact h.2 _ q hj
theorem LitsAt.take {ts : List Addr} {L : List (Str × Str × Int)} (h : LitsAt K H ts L) (k : Nat) : LitsAt K H (ts.take k) (L.take k) := by
  refine ⟨by simp [h.1], fun j q hj => ?_⟩
  rw [List.getElem?_take] at hj ⊢
  split at hj
  · rename_i e
    rw [if_pos e]
    exact h.2 _ q hj
  · cases hj
theorem LitsAt.append {ts us : List Addr} {L M : List (Str × Str × Int)} (h : LitsAt K H ts L) (g : LitsAt K H us M) : LitsAt K H (ts ++ us) (L ++ M) := by
  refine ⟨by simp [h.1, g.1], fun j q hj => ?_⟩
  by_cases e : j < L.length
  · rw [List.getElem?_append_left e] at hj
    rw [List.getElem?_append_left (by rw [h.1]; exact e)]
    exact h.2 j q hj
  · rw [List.getElem?_append_right (by omega)] at hj
    rw [List.getElem?_append_right (by rw [h.1]; omega), h.1]
    exact g.2 _ q hj
theorem LitsAt.rev {ts : List Addr} {L : List (Str × Str × Int)} (h : LitsAt K H ts L) : LitsAt K H ts.reverse L.reverse := by
  refine ⟨by simp [h.1], fun j q hj => ?_⟩
  have hl := (List.getElem?_eq_some_iff.mp hj).1
  rw [List.length_reverse] at hl
  rw [List.getElem?_reverse hl] at hj
  rw [List.getElem?_reverse (by rw [h.1]; exact hl), h.1]
  exact h.2 _ q hj
theorem LitsAt.mem {ts : List Addr} {L : List (Str × Str × Int)} (h : LitsAt K H ts L) {v : V} (hv : v ∈ ts.map V.ref) : ∃ t q, v = .ref t ∧ q ∈ L ∧ SqT K H t [.str q.1, .str q.2.1, .int q.2.2] := by
  obtain ⟨t, ht, rfl⟩ := List.mem_map.mp hv
  obtain ⟨j, hj, e⟩ := List.mem_iff_getElem.mp ht
  have hq := List.getElem?_eq_getElem (l := L) (i := j) (by rw [← h.1]; exact hj)
  obtain ⟨t', h1, h2⟩ := h.2 j _ hq
  rw [List.getElem?_eq_getElem hj, e] at h1
  cases h1
  exact ⟨t, _, rfl, List.getElem_mem _, h2⟩
theorem LitsAt.dp {ts : List Addr} {L : List (Str × Str × Int)} (h : LitsAt K H ts L) : DpAll K H (ts.map V.ref) (L.map litD) := by
  induction L generalizing ts with
  | nil =>
    have : ts = [] := List.length_eq_zero_iff.mp h.1
    subst this
    exact .nil
  | cons q L ih =>
    cases ts with
    | nil => cases h.1
    | cons t ts =>
      obtain ⟨t', h1, h2⟩ := h.2 0 q rfl
      cases h1
      exact .cons (.tup h2 (.cons (.str _) (.cons (.str _) (.cons (.int _) .nil)))) (ih ⟨Nat.succ.inj h.1, fun j q' hj => h.2 (j + 1) q' hj⟩)
end
end K2

namespace K2
open PySem L2 Bx
section
variable {P : Program} {w : World} {K : PySem.W.Frag} {mg : Str → Option Value} {base : Heap}
def spLaw (K : PySem.W.Frag) : Sp := fun vs H Q _ => ∃ (a : Addr) (ns : List Int), vs = [.ref a] ∧ SqL K H a (ns.map V.int) ∧ ns.length ≤ 63 ∧ ∀ H', Q (.bl true) H'
def OkT (L : List (Str × Str × Int)) : Prop := ∀ q ∈ L, PyData.strOk q.1 = true ∧ PyData.strOk q.2.1 = true
theorem okT_chn {m : Nat} {less : Int} {C : List (Str × Str × Int)} (h : Bf.Chn tm m less C) : OkT C := fun q hq => by
  obtain ⟨j, hj, e⟩ := List.mem_iff_getElem.mp hq
  have hj2 := hj
  rw [h.len] at hj2
  obtain ⟨n, h1, _⟩ := h.at_ j hj2
  rw [List.getElem?_eq_getElem hj, e] at h1
  cases h1
  have := h.m60
  exact ⟨(tm_ok j (by omega)).1, (tm_ok _ (Nat.lt_of_lt_of_le (Nat.mod_lt _ h.pos) this)).1⟩
theorem ok_law {f : Addr} {fd : FuncData} (F : C8.Fun K "law" "law" s_law f fd) (T : Txt mg)
    (K_solved : C8.Cal P w K mg base 4 "solved" (spSolved K) []) (K_is_ring : C8.Cal P w K mg base 4 "is_ring" (spRing K) []) (K_l_well : C8.Cal P w K mg base 1 "_law_well" spWell []) (K_l_draw : C8.Cal P w K mg base 1 "_law_draw" spDraw []) (K_l_one : C8.Cal P w K mg base 2 "_law_one" (spOne K) [])
    (K_l_holds : C8.Cal P w K mg base 1 "_law_holds" (spHolds K) []) (K_l_chain : C8.Cal P w K mg base 2 "_law_chain" (spChain K) []) : FnOk P w K mg base C8.CX0 5 f fd ["_law_script"] (spLaw K) := by
  refine C8.fn0 F sc_law (fun vs H Q E h => ?_) (fun cdv A outer s H vs Q E hr h => ?_)
  · obtain ⟨a, ns, rfl, _⟩ := h
    rfl
  · obtain ⟨a, ns, rfl, hS, hlen, k⟩ := h
    have hu65 := (show (A.deeper (PyProof.Rows.envOfC "law" (C8.fnScope s_law) s.heap.objs.size f cdv)).units + 65 < cLine by have := hr.un; omega)
    refine ⟨_, (pss_cons (ps_for PassesOwn.never rfl (pi_list (pe_slice sl_list (pe_op op_catS (pv 0) (pe_lst (pa_cons pe_int pa_nil))) po_none (po_some pe_int))) (pg_name (i := 1) sc_law.nd rfl (Or.inl rfl))
    (pss_cons (ps_set (i := 2) sc_law.nd rfl (Or.inl rfl) (C8.pe_c K_l_well hr (by decide) (by rfl) (pa_cons (pv 1) pa_nil)))
    (pss_cons (ps_set (i := 3) sc_law.nd rfl (Or.inl rfl) (pe_op op_add pe_int (C8.pe_c K_l_draw hr (by decide) (by rfl) (pa_cons (pv 2) (pa_cons pe_int pa_nil)))))
    (pss_cons (ps_set (i := 4) sc_law.nd rfl (Or.inl rfl) (C8.pe_c K_l_one hr (by decide) (by rfl) (pa_cons (pv 2) (pa_cons (pe_lst (pa_cons pe_int (pa_cons pe_int (pa_cons pe_int (pa_cons (pe_op op_add pe_int (C8.pe_c K_l_draw hr (by decide) (by rfl) (pa_cons (pv 2) (pa_cons (pe_op op_pow pe_int pe_int) pa_nil)))) pa_nil))))) pa_nil))))
    (pss_cons (ps_set (i := 5) sc_law.nd rfl (Or.inr rfl) (C8.pe_c K_l_chain hr (by decide) (by rfl) (pa_cons (pv 2) (pa_cons (pv 3) (pa_cons (pv 4) pa_nil)))))
    (pss_cons (ps_set (i := 6) sc_law.nd rfl (Or.inr rfl) (pe_callTy call_list_of (by rfl) T.z_list (by decide +kernel) (pa_cons (pv 5) pa_nil)))
    (pss_cons (ps_for PassesOwn.never rfl (pi_range1 (by rfl) T.z_range (pa_cons (C8.pe_c K_l_draw hr (by decide) (by rfl) (pa_cons (pv 2) (pa_cons pe_int pa_nil))) pa_nil)) (pg_name (i := 7) sc_law.nd rfl (Or.inl rfl))
    (pss_cons (ps_set (i := 8) sc_law.nd rfl (Or.inl rfl) (pe_ix ix_tup (C8.pe_c K_l_one hr (by decide) (by rfl) (pa_cons (pv 2) (pa_cons (pv 5) pa_nil))) pe_int (fun _ _ => rfl)))
    (pss_cons (ps_set (i := 9) sc_law.nd rfl (Or.inl rfl) (pe_ix ix_tup (C8.pe_c K_l_one hr (by decide) (by rfl) (pa_cons (pv 2) (pa_cons (pe_op op_catS (pv 5) (pe_lst (pa_cons (pe_tup (pa_cons pe_str (pa_cons pe_str (pa_cons pe_int pa_nil)))) pa_nil))) pa_nil))) pe_int (fun _ _ => rfl)))
    (pss_one (ps_expr (pe_bm PySem.F.plainAttrs_list PySem.F.slot_list_append PySem.F.type_list_append mt_append (pv 6) (pa_cons (pe_tup (pa_cons (pv 8) (pa_cons (pv 9) (pa_cons (pe_op op_pow pe_int pe_int) pa_nil)))) pa_nil)))))))
    (pss_cons (ps_set (i := 10) sc_law.nd rfl (Or.inl rfl) (C8.pe_c K_l_draw hr (by decide) (by rfl) (pa_cons (pv 2) (pa_cons (pe_callB call_len_seq (by rfl) T.z_len (by decide +kernel) (pa_cons (pv 6) pa_nil)) pa_nil))))
    (pss_cons (ps_set (i := 6) sc_law.nd rfl (Or.inr rfl) (pe_op op_catS (pe_slice sl_list (pv 6) (po_some (pv 10)) po_none) (pe_slice sl_list (pv 6) po_none (po_some (pv 10)))))
    (pss_cons (ps_if (pt_cmpR op_eq (C8.pe_c K_l_draw hr (by decide) (by rfl) (pa_cons (pv 2) (pa_cons pe_int pa_nil))) pe_int (nomark _)) (pss_one (ps_set (i := 6) sc_law.nd rfl (Or.inr rfl) (pe_revL (pv 6)))) pss_nil)
    (pss_cons (ps_set (i := 11) sc_law.nd rfl (Or.inr rfl) (C8.pe_c K_solved hr (by decide) (by rfl) (pa_cons (pv 6) pa_nil)))
    (pss_one (ps_if (pt_cmpR op_eq (pv 4) pe_int (nomark _)) (pss_cons (ps_if (pt_cmpR op_ne (pe_ix ix_tup (pv 11) pe_int (fun _ _ => rfl)) pe_str (nomark _)) (pss_one (ps_ret pe_bl)) pss_nil)
    (pss_one (ps_if (pt_cmpR (op_neD hr.units) (pe_lc (own := [("_law_one_here", 14)]) (g := gName 14) rfl sc_law.nd (pi_list (pv 6)) (blkOk_by (own := [("_law_one_here", 14)]) (N := N_law) (sc := C8.fnScope s_law) (by decide +kernel)) (fun _ _ _ _ _ => (pg_name (i := 14) sc_law.nd rfl (Or.inl rfl))) (fun _ _ _ _ _ => (pts_one (pt_not (pt_val (C8.pe_c K_l_holds hr (by decide) (by rfl) (pa_cons (pv 14) (pa_cons (pe_ix (ixTK K) (pv 11) pe_int (fun _ _ => rfl)) pa_nil))))))) (fun _ _ _ _ _ => (pv 14))) (pe_lst pa_nil) (nomark _)) (pss_one (ps_ret pe_bl)) pss_nil))) (pss_cons (ps_setLc (i := 12) (own := [("_law_k", 7)]) (g := gName 7) rfl sc_law.nd rfl rfl (sw_true rfl rfl rfl (by decide +kernel)) (pi_range1 (by rfl) T.z_range (pa_cons (pe_callB call_len_seq (by rfl) T.z_len (by decide +kernel) (pa_cons (pv 6) pa_nil)) pa_nil)) (blkOk_by (own := [("_law_k", 7)]) (N := N_law) (sc := C8.fnScope s_law) (by decide +kernel)) (fun _ _ _ _ _ => (pg_name (i := 7) sc_law.nd rfl (Or.inl rfl))) (fun _ _ _ _ _ => (pts_one (pt_cmpR (inDK K hu65) (pe_ix (ixLK K) (pv 6) (pv 7) (fun _ _ => rfl)) (pv 5) (by rfl)))) (fun _ _ _ _ _ => (pv 7)))
    (pss_cons (ps_if (PW.pt (pw_or (pt_cmpR op_ne (pe_ix ix_tup (pv 11) pe_int (fun _ _ => rfl)) pe_str (nomark _)) (pw_or1 (pt_cmpR (op_neD hr.units) (pe_callB cr_sorted (by rfl) T.z_sorted (by decide +kernel) (pa_cons (pe_lc (own := [("_law_k", 7)]) (g := gName 7) (tt := tYes) rfl sc_law.nd (pi_tup (pe_ix ix_tup (pv 11) pe_int (fun _ _ => rfl))) (blkOk_by (own := [("_law_k", 7)]) (N := N_law) (sc := C8.fnScope s_law) (by decide +kernel)) (fun _ _ _ _ _ => (pg_name (i := 7) sc_law.nd rfl (Or.inl rfl))) (fun _ _ _ _ _ => pts_nil) (fun _ _ _ _ _ => (pe_callTy call_int1 (by rfl) T.z_int (by decide +kernel) (pa_cons (pv 7) pa_nil)))) pa_nil)) (pv 12) (nomark _))))) (pss_one (ps_ret pe_bl)) pss_nil)
    (pss_cons (ps_if (pt_not (pt_val (C8.pe_c K_is_ring hr (by decide) (by rfl) (pa_cons (pv 6) (pa_cons (pe_ix ix_tup (pv 11) pe_int (fun _ _ => rfl)) pa_nil))))) (pss_one (ps_ret pe_bl)) pss_nil)
    (pss_cons (ps_for PassesOwn.never rfl (pi_range1 (by rfl) T.z_range (pa_cons (pv 3) pa_nil)) (pg_name (i := 7) sc_law.nd rfl (Or.inl rfl))
    (pss_cons (ps_set (i := 13) sc_law.nd rfl (Or.inl rfl) (pe_ix ix_tup (pe_ix ix_tup (pv 11) pe_int (fun _ _ => rfl)) (pe_op op_mod (pe_callTy call_int1 (by rfl) T.z_int (by decide +kernel) (pa_cons (pe_op op_add (pv 7) pe_int) pa_nil)) (pv 3)) (fun _ _ => rfl)))
    (pss_one (ps_if (pt_cmpR op_ne (pe_ix ix_tup (pe_ix ix_list (pv 6) (pe_ix ix_tup (pe_ix ix_tup (pv 11) pe_int (fun _ _ => rfl)) (pv 7) (fun _ _ => rfl)) (fun _ _ => rfl)) pe_int (fun _ _ => rfl)) (pe_ix ix_tup (pe_ix ix_list (pv 6) (pv 13) (fun _ _ => rfl)) pe_int (fun _ _ => rfl)) (nomark _)) (pss_one (ps_ret pe_bl)) pss_nil))))
    (pss_one (ps_if (PW.pt (pw_or (pt_not (pt_val (C8.pe_c K_is_ring hr (by decide) (by rfl) (pa_cons (pv 6) (pa_cons (pe_op op_catU (pe_slice sl_tupU (pe_ix ix_tup (pv 11) pe_int (fun _ _ => rfl)) (po_some pe_int) po_none) (pe_slice sl_tupU (pe_ix ix_tup (pv 11) pe_int (fun _ _ => rfl)) po_none (po_some pe_int))) pa_nil))))) (pw_or1 (pt_val (C8.pe_c K_is_ring hr (by decide) (by rfl) (pa_cons (pv 6) (pa_cons (pe_slice sl_tupU (pe_ix ix_tup (pv 11) pe_int (fun _ _ => rfl)) (po_some pe_int) po_none) pa_nil))))))) (pss_one (ps_ret pe_bl)) pss_nil)))))))))))))))))))
    (pss_one (ps_ret pe_bl))), ?_⟩
    refine ⟨_, rfl, sz (by simp), fun z nz => ⟨a, z, _, _, rfl, rfl, (Same.new nz).seq hS, SqL.of upd_same, sz (by simp; omega), fun y ny => ⟨_, rfl, y, _, rfl, SqL.of upd_same, fun t nt => ⟨t, rfl, ⟨_, SqL.of upd_same⟩, ?_⟩⟩⟩⟩
    generalize hcs : cutV (ns.map V.int ++ [.int 0]) none (some 6) = cs
    have hint : ∀ x ∈ cs, ∃ c, x = V.int c := fun x hx => by
      rw [← hcs] at hx
      rcases List.mem_append.mp (cut_mem hx) with h | h
      · obtain ⟨c, _, rfl⟩ := List.mem_map.mp h
        exact ⟨c, rfl⟩
      · exact ⟨0, by simpa using h⟩
    refine for_list (xs := cs) (fun i σ H' => ∃ (v1 v2 v3 v4 v5 v6 v7 v8 v9 v10 v11 v12 v13 : Option V), σ = [some (.ref a), v1, v2, v3, v4, v5, v6, v7, v8, v9, v10, v11, v12, v13, none] ∧ H' t = some (.lst cs)) ⟨none, none, none, none, none, none, none, none, none, none, none, none, none, rfl, upd_same⟩ (fun i σ H' _ h => ?_) ?_ ?_
    · obtain ⟨_, _, _, _, _, _, _, _, _, _, _, _, _, _, h⟩ := h
      exact SqL.of h
    · rintro i x σ H0 hx ⟨v1, v2, v3, v4, v5, v6, v7, v8, v9, v10, v11, v12, v13, rfl, ht⟩
      obtain ⟨cc, rfl⟩ := hint x (List.mem_of_getElem? hx)
      refine ⟨_, rfl, cc, rfl, fun l H1 nl S1 W1 => ?_⟩
      have tl : t ≠ l := fun e => by
        rw [e, nl] at ht
        cases ht
      refine ⟨_, rfl, l, 60, rfl, W1, by decide, by decide, fun r H2 r0 r1 W2 B2 => ⟨_, _, rfl, rfl, ?_⟩⟩
      obtain ⟨m', rfl⟩ : ∃ m' : Nat, r = (m' : Int) := ⟨r.toNat, by omega⟩
      refine ⟨_, rfl, _, rfl, _, _, rfl, rfl, ⟨by decide, by decide, by decide⟩, l, _, rfl, W2, by decide, by decide, fun d H3 d0 d1 W3 B3 => ⟨_, _, rfl, rfl, sz (by simp), fun q nq => ?_⟩⟩
      have e40 : (10 : Int) ^ Int.toNat 40 = 10 ^ 40 := rfl
      have Sq := Same.new (o := HO.lst [.int 0, .int 1, .int 2, .int (1 + d)]) nq
      refine ⟨l, q, _, rfl, W3.same Sq, W3.ne nq, SqL.of upd_same, by simp, by simp, fun v H4 hv W4 B4 => ?_⟩
      have B04 : But l H0 H4 := (((But.of S1).trans B2).trans (B3.trans (But.of Sq))).trans B4
      obtain ⟨less, rfl, le0, le1⟩ : ∃ less : Int, v = .int less ∧ 0 ≤ less ∧ less ≤ 10 ^ 40 := by
        simp only [List.mem_cons, List.not_mem_nil, or_false] at hv
        rcases hv with rfl | rfl | rfl | rfl
        · exact ⟨_, rfl, by decide, by decide⟩
        · exact ⟨_, rfl, by decide, by decide⟩
        · exact ⟨_, rfl, by decide, by decide⟩
        · exact ⟨_, rfl, by omega, by omega⟩
      refine ⟨_, rfl, _, rfl, _, rfl, l, 1 + m', less, rfl, W4, by omega, by omega, le0, le1, fun c tc C H5 hc cl hC hch W5 B5 => ?_⟩
      generalize hm : 1 + m' = m at hch
      refine ⟨_, rfl, c, _, rfl, .inl (SqL.of hc), fun p np => ?_⟩
      have Sp := Same.new (o := HO.lst (tc.map V.ref)) np
      have W6 := W5.same Sp
      have pl : p ≠ l := W5.ne np
      have pc : p ≠ c := fun e => by rw [e, hc] at np; cases np
      have np0 := np
      refine ⟨_, rfl, l, 9, rfl, W6, by decide, by decide, fun r H7 r0' r1' W7 B7 => ⟨_, rfl, by omega, by omega, ?_⟩⟩
      refine for_range (lo := 0) (n := r.toNat) (fun j σ H' => ∃ (v7 v8 v9 : Option V) (ts : List Addr) (X : List (Str × Str × Int)), σ = [some (.ref a), some (.int cc), some (.ref l), some (.int (1 + (m' : Int))), some (.int less), some (.ref c), some (.ref p), v7, v8, v9, v10, v11, v12, v13, none] ∧
          H' p = some (.lst (ts.map V.ref)) ∧ LitsAt K H' ts (C ++ X) ∧ X.length = j ∧ (∀ q ∈ X, q.2.2 = Bf.Big) ∧ OkT X ∧ WellAt H' l ∧ But l H5 H')
        ⟨v7, v8, v9, tc, [], rfl, B7 _ _ upd_same pl, ?_, rfl, fun q h => (by cases h), fun q h => (by cases h), W7, (But.of Sp).trans B7⟩ ?_ ?_
      · rw [List.append_nil]
        obtain ⟨wx, wy, wz, hw⟩ := id W6
        exact (hC.mono Sp).but hw B7
      · rintro j σ H8 hj ⟨v7, v8, v9, ts, X, rfl, hp, hL, hxj, hbig, hok, W8, B8⟩
        have hc8 := B8 _ _ hc cl
        obtain ⟨w5x, w5y, w5z, hw5⟩ := id W5
        have hC8 := hC.but hw5 B8
        have hcl : (tc.map V.ref).length = C.length := by rw [List.length_map, hC.1]
        have hCl := hch.len
        have htc : tc.length = C.length := hC.1
        have m60 := hch.m60
        have mp := hch.pos
        have hj8 : j < 9 := by omega
        refine ⟨_, rfl, _, rfl, l, c, _, rfl, W8, cl, SqL.of hc8, by omega, by omega, fun va Ha hva Wa Ba => ?_⟩
        obtain ⟨ta, qa, rfl, hqa, hsa⟩ := hC8.mem hva
        obtain ⟨w8x, w8y, w8z, hw8⟩ := id W8
        refine ⟨ta, _, _, _, rfl, rfl, But.tupW hw8 Ba hsa, rfl, ?_⟩
        refine ⟨_, rfl, _, rfl, (by show 3 ≤ sizeLine; decide), fun u nu => ⟨(by show 1 ≤ sizeLine; decide), fun z2 nz2 => ?_⟩⟩
        have hca := Ba _ _ hc8 cl
        have Su := Same.new (o := HO.tup [.str "", .str "", .int 0]) nu
        have Sz := Same.new (o := HO.lst [.ref u]) nz2
        refine ⟨c, z2, _, _, rfl, rfl, SqL.of ((Su.trans Sz) _ _ hca), SqL.of upd_same, sz (by simp; omega), fun y2 ny2 => ?_⟩
        have Sy := Same.new (o := HO.lst (tc.map V.ref ++ [.ref u])) ny2
        have Suy := (Su.trans Sz).trans Sy
        have hWay := Wa.same Suy
        have hyl : y2 ≠ l := (Wa.same (Su.trans Sz)).ne ny2
        have hCu := ((hC8.but hw8 Ba).mono Suy).snoc (q := ("", "", 0)) (Same.seqT (Sz.trans Sy) (SqT.of upd_same))
        refine ⟨l, y2, _, rfl, hWay, hyl, SqL.of upd_same, by simp, by simp; omega, fun vb Hb hvb Wb Bb => ?_⟩
        have hvb2 : vb ∈ (tc ++ [u]).map V.ref := by rw [List.map_append]; exact hvb
        obtain ⟨tb, qb, rfl, hqb, hsb⟩ := hCu.mem hvb2
        obtain ⟨wax, way, waz, hway⟩ := id hWay
        refine ⟨tb, _, _, _, rfl, rfl, But.tupW hway Bb hsb, rfl, ?_⟩
        have Bab : But l H8 Hb := (Ba.trans (But.of Suy)).trans Bb
        have hpb := Bab _ _ hp pl
        have e60 : (10 : Int) ^ Int.toNat 60 = Bf.Big := rfl
        refine ⟨_, rfl, .inl ⟨rfl, _, .inl (.inl hpb)⟩, _, rfl, _, rfl, _, _, rfl, rfl, ⟨by decide, by decide, by decide⟩, (by show 3 ≤ sizeLine; decide), fun w2 nw => ?_⟩
        have Sw := Same.new (o := HO.tup [.str qa.1, .str qb.1, .int (10 ^ Int.toNat 60)]) nw
        have hLw := ((hL.but hw8 Bab).mono Sw).snoc (q := (qa.1, qb.1, (10 : Int) ^ Int.toNat 60)) (SqT.of upd_same)
        have hpw := Sw _ _ hpb
        have hts : ts.length = C.length + X.length := by rw [hL.1, List.length_append]
        have hokC := okT_chn hch
        refine ⟨p, _, _, rfl, rfl, hpw, szs (by simp; omega), _, _, _, ts ++ [w2], X ++ [(qa.1, qb.1, (10 : Int) ^ Int.toNat 60)], rfl, ?_, ?_, by simp; omega, fun q hq => ?_, fun q hq => ?_, (Wb.same Sw).upd pl, ?_⟩
        · rw [upd_same, List.map_append]
          rfl
        · rw [← List.append_assoc]
          exact hLw.but hpw But.upd
        · rcases List.mem_append.mp hq with h | h
          · exact hbig q h
          · have e : q = (qa.1, qb.1, (10 : Int) ^ Int.toNat 60) := by simpa using h
            rw [e]
            exact e60
        · rcases List.mem_append.mp hq with h | h
          · exact hok q h
          · have e : q = (qa.1, qb.1, (10 : Int) ^ Int.toNat 60) := by simpa using h
            rw [e]
            refine ⟨(hokC qa hqa).1, ?_⟩
            rcases List.mem_append.mp hqb with h | h
            · exact (hokC qb h).1
            · have e : qb = (("" : Str), ("" : Str), (0 : Int)) := by simpa using h
              rw [e]
              exact (by decide +kernel : PyData.strOk ("" : Str) = true)
        · have Bf := (B8.trans Bab).trans (But.of Sw)
          exact Bf.mut np
      · rintro σ H8 ⟨v7, v8, v9, ts, X, rfl, hp, hL, hxj, hbig, hok, W8, B8⟩
        have hX8 : X.length ≤ 8 := by omega
        have mix : Bf.Mix tm m less C X (C ++ X) := ⟨hch, hbig, hX8, List.Perm.refl _⟩
        have okA : OkT (C ++ X) := fun q hq => (List.mem_append.mp hq).elim (okT_chn hch q) (hok q)
        have hc8 := B8 _ _ hc cl
        obtain ⟨w5x, w5y, w5z, hw5⟩ := id W5
        have hC8 := hC.but hw5 B8
        have ht8 : H8 t = some (.lst cs) := ((B04.trans B5).trans B8) _ _ ht tl
        have hlt : (ts.map V.ref).length = (C ++ X).length := by rw [List.length_map, hL.1]
        have hl68 := mix.len
        have hpos : 0 < (C ++ X).length := by
          rw [List.length_append, hch.len]
          have := hch.pos
          omega
        refine ⟨_, rfl, _, rfl, p, _, rfl, .inl (SqL.of hp), l, _, rfl, W8, by omega, lg (by omega), fun at_ H9 a0 a1 W9 B9 => ?_⟩
        obtain ⟨ka, rfl⟩ : ∃ ka : Nat, at_ = (ka : Int) := ⟨at_.toNat, by omega⟩
        have hka : ka ≤ (ts.map V.ref).length := by omega
        have hp9 := B9 _ _ hp pl
        have hc9 := B9 _ _ hc8 cl
        have ht9 := B9 _ _ ht8 tl
        obtain ⟨w8x, w8y, w8z, hw8⟩ := id W8
        have hL9 := hL.but hw8 B9
        have hC9 := hC8.but hw8 B9
        refine ⟨_, rfl, _, rfl, _, rfl, p, _, rfl, SqL.of hp9, fun y1 n1 => ?_⟩
        have Sa := Same.new (o := HO.lst (cutV (ts.map V.ref) (some (ka : Int)) none)) n1
        refine ⟨_, rfl, _, rfl, _, rfl, p, _, rfl, SqL.of (Sa _ _ hp9), fun y2 n2 => ?_⟩
        have Sb := Same.new (o := HO.lst (cutV (ts.map V.ref) none (some (ka : Int)))) n2
        refine ⟨y1, y2, _, _, rfl, rfl, SqL.of (Sb _ _ upd_same), SqL.of upd_same, ?_, fun y3 n3 => ?_⟩
        · rw [cut_from hka, cut_to hka, List.length_drop, List.length_take]
          exact sz (by omega)
        have Sc := Same.new (o := HO.lst (cutV (ts.map V.ref) (some (ka : Int)) none ++ cutV (ts.map V.ref) none (some (ka : Int)))) n3
        have S9 := (Sa.trans Sb).trans Sc
        have W10 := W9.same S9
        have hp10 : (upd (upd (upd H9 y1 (.lst (cutV (ts.map V.ref) (some (ka : Int)) none))) y2 (.lst (cutV (ts.map V.ref) none (some (ka : Int))))) y3 (.lst (cutV (ts.map V.ref) (some (ka : Int)) none ++ cutV (ts.map V.ref) none (some (ka : Int))))) y3 = some (.lst ((ts.drop ka ++ ts.take ka).map V.ref)) := by
          rw [upd_same, cut_from hka, cut_to hka, List.map_append, List.map_drop, List.map_take]
        have hL10 := ((hL9.mono S9).drop ka).append ((hL9.mono S9).take ka)
        have hc10 := S9 _ _ hc9
        have ht10 := S9 _ _ ht9
        have hC10 := hC9.mono S9
        have n3l : y3 ≠ l := (W9.same (Sa.trans Sb)).ne n3
        generalize upd (upd (upd H9 y1 (.lst (cutV (ts.map V.ref) (some (ka : Int)) none))) y2 (.lst (cutV (ts.map V.ref) none (some (ka : Int))))) y3 (.lst (cutV (ts.map V.ref) (some (ka : Int)) none ++ cutV (ts.map V.ref) none (some (ka : Int)))) = H10 at *
        have perm1 : ((C ++ X).drop ka ++ (C ++ X).take ka).Perm (C ++ X) := List.perm_append_comm.trans (List.Perm.of_eq (List.take_append_drop ka (C ++ X)))
        have mix1 : Bf.Mix tm m less C X ((C ++ X).drop ka ++ (C ++ X).take ka) := ⟨hch, hbig, hX8, perm1⟩
        have ok1 : OkT ((C ++ X).drop ka ++ (C ++ X).take ka) := fun q hq => okA q (perm1.mem_iff.mp hq)
        generalize (C ++ X).drop ka ++ (C ++ X).take ka = L1 at *
        generalize ts.drop ka ++ ts.take ka = ts1 at *
        refine ⟨_, rfl, l, 2, rfl, W10, by decide, by decide, fun r2 H11 r20 r21 W11 B11 => ⟨rfl, _, rfl, ?_⟩⟩
        obtain ⟨w10x, w10y, w10z, hw10⟩ := id W10
        apply join (fun p H => ∃ ts L, H p = some (.lst (ts.map V.ref)) ∧ LitsAt K H ts L ∧ Bf.Mix tm m less C X L ∧ OkT L ∧ H c = some (.lst (tc.map V.ref)) ∧ LitsAt K H tc C ∧ H t = some (.lst cs)) y3 H11
        case hB => apply Eq.refl
        case h0 => exact ⟨ts1, L1, B11 _ _ hp10 n3l, hL10.but hw10 B11, mix1, ok1, B11 _ _ hc10 cl, hC10.but hw10 B11, B11 _ _ ht10 tl⟩
        case h1 =>
          intro _ kk
          refine ⟨_, rfl, y3, _, rfl, SqL.of (B11 _ _ hp10 n3l), fun y4 n4 => ?_⟩
          have Sr := Same.new (o := HO.lst (ts1.map V.ref).reverse) n4
          have hLr := ((hL10.but hw10 B11).mono Sr).rev
          exact kk y4 _ ⟨ts1.reverse, L1.reverse, by rw [upd_same, List.map_reverse], hLr, ⟨hch, hbig, hX8, (List.reverse_perm L1).trans mix1.perm⟩, fun q hq => ok1 q (List.mem_reverse.mp hq), Sr _ _ (B11 _ _ hc10 cl), (hC10.but hw10 B11).mono Sr, Sr _ _ (B11 _ _ ht10 tl)⟩
        clear hL10 hp10 mix1 ok1 hC10 hw10 B11 perm1
        rintro p7 H12 ⟨ts2, L, hp12, hL12, M, okL, hc12, hC12, ht12⟩
        have l68 := M.len
        have m60 := M.chn.m60
        have mpos := M.chn.pos
        have lts : (ts2.map V.ref).length = L.length := by rw [List.length_map, hL12.1]
        refine ⟨_, rfl, p7, ts2, L, rfl, SqL.of hp12, hL12, by omega, fun r d ks g H13 S13 hr13 hd13 hends hle => ?_, fun r rc is fR H13 S13 hr13 hc13 R hlen13 => ?_⟩
        · -- values
          by_cases hz : less = 0
          rotate_left
          · exact (M.novals (by omega) (val g) hle).elim
          refine ⟨_, rfl, rfl, _, rfl, ?_⟩
          rw [decide_eq_true (congrArg V.int hz)]
          refine iteT ?_
          refine ⟨_, rfl, r, _, _, _, rfl, rfl, hr13, rfl, rfl, _, rfl, ?_⟩
          have e1 : (!decide (V.str "values" = V.str "values")) = false := by rw [decide_eq_true rfl]; rfl
          rw [e1]
          refine iteF ?_
          have hp13 := S13 _ _ hp12
          have hL13 := hL12.mono S13
          refine ⟨_, rfl, p7, rfl, ⟨_, SqL.of hp13⟩, fun D nD => lc_list (xs := ts2.map V.ref) (fun i H' => Same H13 H' ∧ H' D = some (.lst [])) ⟨Same.new nD, upd_same⟩ (fun i H' _ h => SqL.of (h.1 _ _ hp13)) ?_ ?_⟩
          · rintro i x H14 hx ⟨S14, hD⟩
            obtain ⟨t2, q2, rfl, hq2, hs2⟩ := (hL13.mono S14).mem (List.mem_of_getElem? hx)
            refine ⟨rfl, _, rfl, _, rfl, r, _, _, _, rfl, rfl, Same.seqT S14 hr13, rfl, t2, d, _, _, _, ks, g, rfl, hs2, S14 _ _ hd13, (hends q2 hq2).1, (hends q2 hq2).2, ?_⟩
            rw [decide_eq_true (hle q2 hq2)]
            exact ⟨_, rfl, S14, hD⟩
          · rintro H14 ⟨S14, hD⟩
            refine ⟨Nat.zero_le _, fun z3 nz3 => ?_⟩
            have S15 := Same.new (o := HO.lst []) nz3
            refine ⟨.list [], .list [], .lst (SqL.of (S15 _ _ hD)) .nil, .lst (SqL.of upd_same) .nil, shaped_ints [], shaped_ints [], _, rfl, ?_⟩
            have e2 : (!PyData.eqv (.list []) (.list [])) = false := by simp [PyData.eqv, PyData.eqvAll]
            rw [e2]
            exact iteF ⟨_, _, _, _, _, _, _, _, _, _, _, _, _, rfl, S15 _ _ (S14 _ _ (S13 _ _ ht12))⟩
        · -- a ring
          have hz : less ≠ 0 := fun e => by
            subst e
            exact M.none R
          refine ⟨_, rfl, rfl, _, rfl, ?_⟩
          rw [decide_eq_false (fun h => hz (by injection h))]
          refine iteF ?_
          obtain ⟨k0, tu⟩ := M.turn R
          have hp13 := S13 _ _ hp12
          have hL13 := hL12.mono S13
          have nd := R.nodup
          have inr : ∀ i ∈ is, i < L.length := fun i hi => by
            obtain ⟨q, h1, _⟩ := (Bf.Turn.mem M tu i).mp hi
            exact (List.getElem?_eq_some_iff.mp h1).1
          have ilen := tu.len
          have imap : (is.map natV).length = m := by rw [List.length_map, ilen]
          refine ⟨_, rfl, p7, _, rfl, .inl (SqL.of hp13), _, rfl, by omega, by omega, fun D nD => lc_range (lo := 0) (n := (((ts2.map V.ref).length : Nat) : Int).toNat) (fun j H' => Same H13 H' ∧ H' D = some (.lst ((((List.range j).filter fun i => decide (i ∈ is)).map Int.ofNat).map V.int))) ⟨Same.new nD, upd_same⟩ ?_ ?_⟩
          · rintro j H14 hj ⟨S14, hD⟩
            have hjl : j < L.length := by omega
            have hq := List.getElem?_eq_getElem hjl
            obtain ⟨tq, htq, hsq⟩ := (hL13.mono S14).2 j _ hq
            have hqm : L[j] ∈ L := List.getElem_mem hjl
            have memj := Bf.Turn.mem M tu j
            generalize L[j] = q at *
            refine ⟨rfl, _, rfl, _, rfl, p7, _, _, _, rfl, rfl, SqL.of (S14 _ _ hp13), (by rw [Int.zero_add]; exact atI_nat (by rw [List.getElem?_map, htq]; rfl)), _, rfl, litD q, C.map litD, .tup hsq (.cons (.str _) (.cons (.str _) (.cons (.int _) .nil))), .lst (SqL.of (S14 _ _ (S13 _ _ hc12))) (((hC12.mono S13).mono S14).dp), shaped_lit (okL q hqm), shaped_lits (okT_chn hch), _, rfl, ?_⟩
            rw [any_lit]
            have er : (List.range (j + 1)).filter (fun i => decide (i ∈ is)) = (List.range j).filter (fun i => decide (i ∈ is)) ++ (if j ∈ is then [j] else []) := by
              rw [List.range_succ, List.filter_append]
              congr 1
              by_cases h : j ∈ is <;> simp [h]
            by_cases hqc : q ∈ C
            · have hji : j ∈ is := memj.mpr ⟨q, hq, hqc⟩
              rw [decide_eq_true hqc]
              refine iteT ⟨_, rfl, _, hD, szs ?_, Same.mut S14 nD, ?_⟩
              · have := List.length_filter_le (fun i => decide (i ∈ is)) (List.range j)
                simp at this ⊢
                omega
              · rw [upd_same, er, if_pos hji, List.map_append, List.map_append, Int.zero_add]
                rfl
            · have hji : j ∉ is := fun h => by
                obtain ⟨q', h1, h2⟩ := memj.mp h
                rw [hq] at h1
                cases h1
                exact hqc h2
              rw [decide_eq_false hqc]
              refine iteF ⟨S14, ?_⟩
              rw [er, if_neg hji, List.append_nil]
              exact hD
          · rintro H14 ⟨S14, hD⟩
            have en : (((ts2.map V.ref).length : Nat) : Int).toNat = L.length := by omega
            rw [en] at hD
            refine ⟨_, rfl, r, _, _, _, rfl, rfl, Same.seqT S14 hr13, rfl, rfl, _, rfl, ?_⟩
            have e1 : (!decide (V.str "ring" = V.str "ring")) = false := by rw [decide_eq_true rfl]; rfl
            rw [e1]
            refine iteF ?_
            have hc14 := Same.seqT S14 hc13
            have hr14 := Same.seqT S14 hr13
            refine ⟨_, rfl, r, _, _, _, rfl, rfl, hr14, rfl, rc, rfl, ⟨_, hc14⟩, fun D2 nD2 => lc_tup (xs := is.map natV) (fun i H' => Same H14 H' ∧ H' D2 = some (.lst ((is.take i).map natV))) ⟨Same.new nD2, upd_same⟩ (fun i H' _ h => Same.seqT h.1 hc14) ?_ ?_⟩
            · rintro j x H15 hx ⟨S15, hD2⟩
              rw [List.getElem?_map] at hx
              obtain ⟨i', hi', rfl⟩ := Option.map_eq_some_iff.mp hx
              refine ⟨rfl, _, rfl, .inl ⟨_, rfl, _, hD2, szs (by simp; omega), Same.mut S15 nD2, ?_⟩⟩
              rw [upd_same, take_snoc hi', List.map_append]
              rfl
            · rintro H15 ⟨S15, hD2⟩
              rw [List.take_of_length_le (by rw [imap, ilen]; exact Nat.le_refl _)] at hD2
              refine ⟨D2, is.map Int.ofNat, rfl, SqL.of (by rw [hD2, natV_map]), by rw [List.length_map]; omega, fun ns' q4 hperm hord nq4 => ⟨_, rfl, ?_⟩⟩
              have S16 := Same.new (o := HO.lst (ns'.map V.int)) nq4
              generalize hdue : ((List.range L.length).filter fun i => decide (i ∈ is)).map Int.ofNat = due at hD
              have hpw : due.Pairwise (· < ·) := by
                rw [← hdue, List.pairwise_map]
                exact ((List.pairwise_lt_range).filter _).imp fun h => Int.ofNat_lt.mpr h
              have ndI : (is.map Int.ofNat).Nodup := by
                rw [List.nodup_iff_pairwise_ne, List.pairwise_map]
                exact (List.nodup_iff_pairwise_ne.mp nd).imp fun h e => h (Int.ofNat.inj e)
              have eqd : ns' = due := eq_of_order (order_of hord (hperm.nodup_iff.mpr ndI)) hpw fun x => by
                rw [hperm.mem_iff, ← hdue, List.mem_map, List.mem_map]
                constructor
                · rintro ⟨y, hy, e⟩
                  exact ⟨y, List.mem_filter.mpr ⟨List.mem_range.mpr (inr y hy), decide_eq_true hy⟩, e⟩
                · rintro ⟨y, hy, e⟩
                  exact ⟨y, of_decide_eq_true (List.mem_filter.mp hy).2, e⟩
              refine ⟨.list (ns'.map PyData.int), .list (due.map PyData.int), .lst (SqL.of upd_same) (dp_ints ns'), .lst (SqL.of ((S15.trans S16) _ _ hD)) (dp_ints due), shaped_ints _, shaped_ints _, _, rfl, ?_⟩
              have e2 : (!PyData.eqv (.list (ns'.map PyData.int)) (.list (due.map PyData.int))) = false := by
                rw [eqd]
                simp [PyData.eqv, eqv_ints.mpr rfl]
              rw [e2]
              refine iteF ?_
              have S := (S13.trans S14).trans (S15.trans S16)
              have hpA := S _ _ hp12
              have hLA := hL12.mono S
              have hrA := Same.seqT (S15.trans S16) hr14
              have hcA := Same.seqT (S15.trans S16) hc14
              have htA := S _ _ ht12
              generalize upd H15 q4 (.lst (ns'.map V.int)) = HA at *
              have neg := R.neg
              have l1000 : is.length ≤ 1000 := by omega
              have hatC : ∀ {j : Nat} {v : Int}, v = (j : Int) → j < m → atI (is.map natV) v = some (natV (is.getD j 0)) := fun {j v} e hj => by
                subst e
                refine atI_nat ?_
                rw [List.getElem?_map, List.getD_eq_getElem?_getD, List.getElem?_eq_getElem (by omega)]
                rfl
              have hmemD : ∀ {j : Nat}, j < m → is.getD j 0 ∈ is := fun {j} hj => by
                rw [List.getD_eq_getElem?_getD, List.getElem?_eq_getElem (by omega)]
                exact List.getElem_mem _
              have look : ∀ {b : Nat} {H' : Hp}, b ∈ is → Same HA H' → ∃ (tt : Addr), atI (ts2.map V.ref) (b : Int) = some (.ref tt) ∧ SqT K H' tt [.str (lft L b), .str (rgt L b), .int (Bf.num L b)] := by
                intro b H' hb S'
                have hq := List.getElem?_eq_getElem (inr b hb)
                obtain ⟨tt, h1, h2⟩ := hLA.2 b _ hq
                obtain ⟨e1, e2, e3⟩ := at_lit hq
                refine ⟨tt, atI_nat (by rw [List.getElem?_map, h1]; rfl), ?_⟩
                rw [e1, e2, e3]
                exact Same.seqT S' h2
              -- is_ring of what was told
              refine ⟨_, rfl, _, rfl, r, _, _, _, rfl, rfl, hrA, rfl, p7, rc, ts2, L, is, rfl, SqL.of hpA, hLA, by omega, hcA, l1000, inr, nd, fun b HB SB hb => ⟨_, rfl, ?_⟩⟩
              have hbt : b = true := hb.mpr (turn_ring M tu neg)
              subst hbt
              refine iteF ?_
              refine ⟨_, rfl, _, rfl, by omega, by omega, for_range (lo := 0) (n := (1 + (m' : Int)).toNat) (fun j σ H' => ∃ (v7 v13 : Option V), σ = [some (.ref a), some (.int cc), some (.ref l), some (.int (1 + (m' : Int))), some (.int less), some (.ref c), some (.ref p7), v7, v8, v9, some (.int (ka : Int)), some (.ref r), some (.ref D), v13, none] ∧ Same HA H') ⟨v7, v13, rfl, SB⟩ ?_ ?_⟩
              · rintro j σ HC hj ⟨v7, v13, rfl, SC⟩
                have hjm : j < m := by omega
                have hrC := Same.seqT SC hrA
                have hcC := Same.seqT SC hcA
                have em : ((0 : Int) + (j : Int) + 1) % (1 + (m' : Int)) = (((j + 1) % m : Nat) : Int) := by
                  rw [show (0 : Int) + (j : Int) + 1 = ((j + 1 : Nat) : Int) by omega, show (1 : Int) + (m' : Int) = ((m : Nat) : Int) by omega, Int.natCast_emod]
                have hjm2 : (j + 1) % m < m := Nat.mod_lt _ mpos
                refine ⟨_, rfl, r, _, _, _, rfl, rfl, hrC, rfl, _, rfl, _, _, rfl, rfl, .inl ⟨_, rfl, _, rfl, _, _, rfl, rfl, (by show (0 : Int) < 1 + (m' : Int); omega), rc, _, _, _, rfl, rfl, hcC, hatC em hjm2, ?_⟩⟩
                obtain ⟨ta, h1, h2⟩ := look (hmemD hjm) SC
                obtain ⟨tb, h3, h4⟩ := look (hmemD hjm2) SC
                refine ⟨_, rfl, _, rfl, r, _, _, _, rfl, rfl, hrC, rfl, _, rfl, rc, _, _, _, rfl, rfl, hcC, hatC (by omega) hjm, p7, _, _, _, rfl, rfl, SqL.of (SC _ _ hpA), h1, ta, _, _, _, rfl, rfl, h2, rfl, ?_⟩
                refine ⟨_, rfl, _, rfl, p7, _, _, _, rfl, rfl, SqL.of (SC _ _ hpA), h3, tb, _, _, _, rfl, rfl, h4, rfl, rfl, _, rfl, ?_⟩
                have e3 : (!decide (V.str (rgt L (is.getD j 0)) = V.str (lft L (is.getD ((j + 1) % m) 0)))) = false := by
                  rw [decide_eq_true (congrArg V.str (turn_next M tu hjm))]
                  rfl
                rw [e3]
                exact iteF ⟨_, _, rfl, SC⟩
              · rintro σ HC ⟨v7, v13, rfl, SC⟩
                have hrC := Same.seqT SC hrA
                have hcC := Same.seqT SC hcA
                have h1len : 1 ≤ (is.map natV).length := by omega
                refine ⟨_, rfl, _, rfl, r, _, _, _, rfl, rfl, hrC, rfl, _, rfl, rc, _, rfl, hcC, fun c1 HD SD hc1 => ?_⟩
                refine ⟨_, rfl, r, _, _, _, rfl, rfl, Same.seqT SD hrC, rfl, _, rfl, rc, _, rfl, Same.seqT SD hcC, fun c2 HE SE hc2 => ?_⟩
                have ec1 : cutV (is.map natV) (some (1 : Int)) none = (is.drop 1).map natV := by
                  rw [show (1 : Int) = ((1 : Nat) : Int) from rfl, cut_from h1len, List.map_drop]
                have ec2 : cutV (is.map natV) none (some (1 : Int)) = (is.take 1).map natV := by
                  rw [show (1 : Int) = ((1 : Nat) : Int) from rfl, cut_to h1len, List.map_take]
                refine ⟨c1, c2, _, _, rfl, rfl, Same.seqT SE hc1, hc2, ?_, fun c3 HF SF hc3 => ?_⟩
                · rw [ec1, ec2, List.length_map, List.length_map, List.length_drop, List.length_take]
                  exact sz (by omega)
                have hc3' : SqT K HF c3 ((is.drop 1 ++ is.take 1).map natV) := by
                  rw [List.map_append, ← ec1, ← ec2]
                  exact hc3
                have permR : (is.drop 1 ++ is.take 1).Perm is := List.perm_append_comm.trans (List.Perm.of_eq (List.take_append_drop 1 is))
                have SAF := ((SC.trans SD).trans SE).trans SF
                refine ⟨p7, c3, ts2, L, _, rfl, SqL.of (SAF _ _ hpA), hLA.mono SAF, by omega, hc3', by rw [permR.length_eq]; omega, fun i hi => inr i (permR.mem_iff.mp hi), permR.nodup_iff.mpr nd, fun b HG SG hb => ⟨_, rfl, ?_⟩⟩
                have hbt : b = true := hb.mpr (turn_rot M tu neg)
                subst hbt
                refine iteF ?_
                refine ⟨_, rfl, _, rfl, r, _, _, _, rfl, rfl, Same.seqT (((SD.trans SE).trans SF).trans SG) hrC, rfl, _, rfl, rc, _, rfl, Same.seqT (((SD.trans SE).trans SF).trans SG) hcC, fun c4 HI SI hc4 => ?_⟩
                have SAI := (SAF.trans SG).trans SI
                rw [ec1] at hc4
                refine ⟨p7, c4, ts2, L, _, rfl, SqL.of (SAI _ _ hpA), hLA.mono SAI, by omega, hc4, by rw [List.length_drop]; omega, fun i hi => inr i (List.mem_of_mem_drop hi), (List.drop_sublist 1 is).nodup nd, fun b2 HJ SJ hb2 => ⟨_, rfl, ?_⟩⟩
                have hbf : b2 = false := by
                  cases b2 with
                  | false => rfl
                  | true => exact absurd (hb2.mp rfl) (turn_less M tu)
                subst hbf
                exact iteF ⟨_, _, _, _, _, _, _, _, _, _, _, _, _, rfl, SJ _ _ (SAI _ _ htA)⟩
    · rintro σ H0 _
      exact k H0
end
end K2

namespace K2
open PySem L2 Bx
theorem all_mk {l : PySem.W.OpenLaw} {w : World} {K : PySem.W.Frag} {h : Heap} {mg : Str → Option Value} {fa f0 f1 f2 f3 f4 f5 f6 f7 f8 f9 f10 f11 f12 f13 f14  : Addr} (X : K.In h) (G : h.Ns mainGlobals mg) (hfa : mg "law" = some (.ref fa))
    {od0 an0 od1 an1 od2 an2 od3 an3 od4 an4 od5 an5 od6 an6 od7 an7 od8 an8 od9 an9 od10 an10 od11 an11 od12 an12 od13 an13 od14 an14 : Option Addr} {sl0 sl1 sl2 sl3 sl4 sl5 sl6 sl7 sl8 sl9 sl10 sl11 sl12 sl13 sl14 : Array (Option Value)} {oc0 kV0 dc0 pm0 cd0 ct0 oc1 kV1 dc1 pm1 cd1 ct1 oc2 kV2 dc2 pm2 cd2 ct2 oc3 kV3 dc3 pm3 cd3 ct3 oc4 kV4 dc4 pm4 cd4 ct4 oc5 kV5 dc5 pm5 cd5 ct5 oc6 kV6 dc6 pm6 cd6 ct6 oc7 kV7 dc7 pm7 cd7 ct7 oc8 kV8 dc8 pm8 cd8 ct8 oc9 kV9 dc9 pm9 cd9 ct9 oc10 kV10 dc10 pm10 cd10 ct10 oc11 kV11 dc11 pm11 cd11 ct11 oc12 kV12 dc12 pm12 cd12 ct12 oc13 kV13 dc13 pm13 cd13 ct13 oc14 kV14 dc14 pm14 cd14 ct14 : Value}
    (a0 : PySem.W.nsIn K mainGlobals "is_number" = some (some (.ref f0))) (l0 : K.lookup f0 = some ⟨oc0, od0, .func (PySem.W.fnOf "is_number" "is_number" (C8.fnArgs s_is_number) (C8.fnBody s_is_number) (C8.fnScope s_is_number) .none kV0 dc0 pm0 an0 cd0 ct0), sl0⟩) (c0 : PySem.W.codeIn K cd0 "is_number" = true) (k0 : PySem.W.keepIn K (.ref f0) = true)
    (a1 : PySem.W.nsIn K mainGlobals "is_literal" = some (some (.ref f1))) (l1 : K.lookup f1 = some ⟨oc1, od1, .func (PySem.W.fnOf "is_literal" "is_literal" (C8.fnArgs s_is_literal) (C8.fnBody s_is_literal) (C8.fnScope s_is_literal) .none kV1 dc1 pm1 an1 cd1 ct1), sl1⟩) (c1 : PySem.W.codeIn K cd1 "is_literal" = true) (k1 : PySem.W.keepIn K (.ref f1) = true)
    (a2 : PySem.W.nsIn K mainGlobals "check_literals" = some (some (.ref f2))) (l2 : K.lookup f2 = some ⟨oc2, od2, .func (PySem.W.fnOf "check_literals" "check_literals" (C8.fnArgs s_check_literals) (C8.fnBody s_check_literals) (C8.fnScope s_check_literals) .none kV2 dc2 pm2 an2 cd2 ct2), sl2⟩) (c2 : PySem.W.codeIn K cd2 "check_literals" = true) (k2 : PySem.W.keepIn K (.ref f2) = true)
    (a3 : PySem.W.nsIn K mainGlobals "lower_once" = some (some (.ref f3))) (l3 : K.lookup f3 = some ⟨oc3, od3, .func (PySem.W.fnOf "lower_once" "lower_once" (C8.fnArgs s_lower_once) (C8.fnBody s_lower_once) (C8.fnScope s_lower_once) .none kV3 dc3 pm3 an3 cd3 ct3), sl3⟩) (c3 : PySem.W.codeIn K cd3 "lower_once" = true) (k3 : PySem.W.keepIn K (.ref f3) = true)
    (a4 : PySem.W.nsIn K mainGlobals "ring_behind" = some (some (.ref f4))) (l4 : K.lookup f4 = some ⟨oc4, od4, .func (PySem.W.fnOf "ring_behind" "ring_behind" (C8.fnArgs s_ring_behind) (C8.fnBody s_ring_behind) (C8.fnScope s_ring_behind) .none kV4 dc4 pm4 an4 cd4 ct4), sl4⟩) (c4 : PySem.W.codeIn K cd4 "ring_behind" = true) (k4 : PySem.W.keepIn K (.ref f4) = true)
    (a5 : PySem.W.nsIn K mainGlobals "solved" = some (some (.ref f5))) (l5 : K.lookup f5 = some ⟨oc5, od5, .func (PySem.W.fnOf "solved" "solved" (C8.fnArgs s_solved) (C8.fnBody s_solved) (C8.fnScope s_solved) .none kV5 dc5 pm5 an5 cd5 ct5), sl5⟩) (c5 : PySem.W.codeIn K cd5 "solved" = true) (k5 : PySem.W.keepIn K (.ref f5) = true)
    (a6 : PySem.W.nsIn K mainGlobals "are_indices" = some (some (.ref f6))) (l6 : K.lookup f6 = some ⟨oc6, od6, .func (PySem.W.fnOf "are_indices" "are_indices" (C8.fnArgs s_are_indices) (C8.fnBody s_are_indices) (C8.fnScope s_are_indices) .none kV6 dc6 pm6 an6 cd6 ct6), sl6⟩) (c6 : PySem.W.codeIn K cd6 "are_indices" = true) (k6 : PySem.W.keepIn K (.ref f6) = true)
    (a7 : PySem.W.nsIn K mainGlobals "goes_round" = some (some (.ref f7))) (l7 : K.lookup f7 = some ⟨oc7, od7, .func (PySem.W.fnOf "goes_round" "goes_round" (C8.fnArgs s_goes_round) (C8.fnBody s_goes_round) (C8.fnScope s_goes_round) .none kV7 dc7 pm7 an7 cd7 ct7), sl7⟩) (c7 : PySem.W.codeIn K cd7 "goes_round" = true) (k7 : PySem.W.keepIn K (.ref f7) = true)
    (a8 : PySem.W.nsIn K mainGlobals "is_ring" = some (some (.ref f8))) (l8 : K.lookup f8 = some ⟨oc8, od8, .func (PySem.W.fnOf "is_ring" "is_ring" (C8.fnArgs s_is_ring) (C8.fnBody s_is_ring) (C8.fnScope s_is_ring) .none kV8 dc8 pm8 an8 cd8 ct8), sl8⟩) (c8 : PySem.W.codeIn K cd8 "is_ring" = true) (k8 : PySem.W.keepIn K (.ref f8) = true)
    (a9 : PySem.W.nsIn K mainGlobals "_law_well" = some (some (.ref f9))) (l9 : K.lookup f9 = some ⟨oc9, od9, .func (PySem.W.fnOf "_law_well" "_law_well" (C8.fnArgs s_l_well) (C8.fnBody s_l_well) (C8.fnScope s_l_well) .none kV9 dc9 pm9 an9 cd9 ct9), sl9⟩) (c9 : PySem.W.codeIn K cd9 "_law_well" = true) (k9 : PySem.W.keepIn K (.ref f9) = true)
    (a10 : PySem.W.nsIn K mainGlobals "_law_draw" = some (some (.ref f10))) (l10 : K.lookup f10 = some ⟨oc10, od10, .func (PySem.W.fnOf "_law_draw" "_law_draw" (C8.fnArgs s_l_draw) (C8.fnBody s_l_draw) (C8.fnScope s_l_draw) .none kV10 dc10 pm10 an10 cd10 ct10), sl10⟩) (c10 : PySem.W.codeIn K cd10 "_law_draw" = true) (k10 : PySem.W.keepIn K (.ref f10) = true)
    (a11 : PySem.W.nsIn K mainGlobals "_law_one" = some (some (.ref f11))) (l11 : K.lookup f11 = some ⟨oc11, od11, .func (PySem.W.fnOf "_law_one" "_law_one" (C8.fnArgs s_l_one) (C8.fnBody s_l_one) (C8.fnScope s_l_one) .none kV11 dc11 pm11 an11 cd11 ct11), sl11⟩) (c11 : PySem.W.codeIn K cd11 "_law_one" = true) (k11 : PySem.W.keepIn K (.ref f11) = true)
    (a12 : PySem.W.nsIn K mainGlobals "_law_holds" = some (some (.ref f12))) (l12 : K.lookup f12 = some ⟨oc12, od12, .func (PySem.W.fnOf "_law_holds" "_law_holds" (C8.fnArgs s_l_holds) (C8.fnBody s_l_holds) (C8.fnScope s_l_holds) .none kV12 dc12 pm12 an12 cd12 ct12), sl12⟩) (c12 : PySem.W.codeIn K cd12 "_law_holds" = true) (k12 : PySem.W.keepIn K (.ref f12) = true)
    (a13 : PySem.W.nsIn K mainGlobals "_law_chain" = some (some (.ref f13))) (l13 : K.lookup f13 = some ⟨oc13, od13, .func (PySem.W.fnOf "_law_chain" "_law_chain" (C8.fnArgs s_l_chain) (C8.fnBody s_l_chain) (C8.fnScope s_l_chain) .none kV13 dc13 pm13 an13 cd13 ct13), sl13⟩) (c13 : PySem.W.codeIn K cd13 "_law_chain" = true) (k13 : PySem.W.keepIn K (.ref f13) = true)
    (a14 : PySem.W.nsIn K mainGlobals "law" = some (some (.ref f14))) (l14 : K.lookup f14 = some ⟨oc14, od14, .func (PySem.W.fnOf "law" "law" (C8.fnArgs s_law) (C8.fnBody s_law) (C8.fnScope s_law) .none kV14 dc14 pm14 an14 cd14 ct14), sl14⟩) (c14 : PySem.W.codeIn K cd14 "law" = true) (k14 : PySem.W.keepIn K (.ref f14) = true)
    {tk_MOST_LITERALS : Tok} (m_MOST_LITERALS : PySem.W.nsIn K mainGlobals "MOST_LITERALS" = some (some (.int 300 tk_MOST_LITERALS)))
    (y_isinstance : PySem.W.nsIn K mainGlobals "isinstance" = some none)
    (y_len : PySem.W.nsIn K mainGlobals "len" = some none)
    (y_int : PySem.W.nsIn K mainGlobals "int" = some none)
    (y_bool : PySem.W.nsIn K mainGlobals "bool" = some none)
    (y_tuple : PySem.W.nsIn K mainGlobals "tuple" = some none)
    (y_list : PySem.W.nsIn K mainGlobals "list" = some none)
    (y_str : PySem.W.nsIn K mainGlobals "str" = some none)
    (y_set : PySem.W.nsIn K mainGlobals "set" = some none)
    (y_range : PySem.W.nsIn K mainGlobals "range" = some none)
    (y_enumerate : PySem.W.nsIn K mainGlobals "enumerate" = some none)
    (y_sorted : PySem.W.nsIn K mainGlobals "sorted" = some none)
    : ∃ fd : FuncData, (∀ (s : Shared) (v : Value), BindsTo s fd ⟨[v], []⟩ [("_law_script", v)]) ∧ ∀ base : Heap, K.In base → base.Ns mainGlobals mg → FnOk l.prog w K mg base C8.CX0 5 fa fd ["_law_script"] (spLaw K) := by
  have e := hfa.symm.trans (PySem.W.mg_of X G a14)
  cases e
  have T : Txt mg := { c_MOST_LITERALS := ⟨_, PySem.W.mg_of X G m_MOST_LITERALS, _, rfl⟩, z_isinstance := PySem.W.mg_none_of X G y_isinstance, z_len := PySem.W.mg_none_of X G y_len, z_int := PySem.W.mg_none_of X G y_int, z_bool := PySem.W.mg_none_of X G y_bool, z_tuple := PySem.W.mg_none_of X G y_tuple, z_list := PySem.W.mg_none_of X G y_list, z_str := PySem.W.mg_none_of X G y_str, z_set := PySem.W.mg_none_of X G y_set, z_range := PySem.W.mg_none_of X G y_range, z_enumerate := PySem.W.mg_none_of X G y_enumerate, z_sorted := PySem.W.mg_none_of X G y_sorted }
  have F0 : C8.Fun K "is_number" "is_number" s_is_number f0 _ := ⟨⟨_, _, _, _, _, _, _, _, _, _, rfl, l0, c0⟩⟩
  have D0 : C8.Def K mg "is_number" s_is_number f0 _ := ⟨F0, PySem.W.mg_of X G a0, k0⟩
  have b0 : Binds K _ ["thing"] [] := C8.Fun.binds F0 rfl fun _ _ _ _ _ _ us hl => match us, hl with | [_], _ => rfl
  have F1 : C8.Fun K "is_literal" "is_literal" s_is_literal f1 _ := ⟨⟨_, _, _, _, _, _, _, _, _, _, rfl, l1, c1⟩⟩
  have D1 : C8.Def K mg "is_literal" s_is_literal f1 _ := ⟨F1, PySem.W.mg_of X G a1, k1⟩
  have b1 : Binds K _ ["thing"] [] := C8.Fun.binds F1 rfl fun _ _ _ _ _ _ us hl => match us, hl with | [_], _ => rfl
  have F2 : C8.Fun K "check_literals" "check_literals" s_check_literals f2 _ := ⟨⟨_, _, _, _, _, _, _, _, _, _, rfl, l2, c2⟩⟩
  have D2 : C8.Def K mg "check_literals" s_check_literals f2 _ := ⟨F2, PySem.W.mg_of X G a2, k2⟩
  have b2 : Binds K _ ["literals"] [] := C8.Fun.binds F2 rfl fun _ _ _ _ _ _ us hl => match us, hl with | [_], _ => rfl
  have F3 : C8.Fun K "lower_once" "lower_once" s_lower_once f3 _ := ⟨⟨_, _, _, _, _, _, _, _, _, _, rfl, l3, c3⟩⟩
  have D3 : C8.Def K mg "lower_once" s_lower_once f3 _ := ⟨F3, PySem.W.mg_of X G a3, k3⟩
  have b3 : Binds K _ ["literals", "heights", "lowered_by"] [] := C8.Fun.binds F3 rfl fun _ _ _ _ _ _ us hl => match us, hl with | [_, _, _], _ => rfl
  have F4 : C8.Fun K "ring_behind" "ring_behind" s_ring_behind f4 _ := ⟨⟨_, _, _, _, _, _, _, _, _, _, rfl, l4, c4⟩⟩
  have D4 : C8.Def K mg "ring_behind" s_ring_behind f4 _ := ⟨F4, PySem.W.mg_of X G a4, k4⟩
  have b4 : Binds K _ ["literals", "lowered_by", "term"] [] := C8.Fun.binds F4 rfl fun _ _ _ _ _ _ us hl => match us, hl with | [_, _, _], _ => rfl
  have F5 : C8.Fun K "solved" "solved" s_solved f5 _ := ⟨⟨_, _, _, _, _, _, _, _, _, _, rfl, l5, c5⟩⟩
  have D5 : C8.Def K mg "solved" s_solved f5 _ := ⟨F5, PySem.W.mg_of X G a5, k5⟩
  have b5 : Binds K _ ["literals"] [] := C8.Fun.binds F5 rfl fun _ _ _ _ _ _ us hl => match us, hl with | [_], _ => rfl
  have F6 : C8.Fun K "are_indices" "are_indices" s_are_indices f6 _ := ⟨⟨_, _, _, _, _, _, _, _, _, _, rfl, l6, c6⟩⟩
  have D6 : C8.Def K mg "are_indices" s_are_indices f6 _ := ⟨F6, PySem.W.mg_of X G a6, k6⟩
  have b6 : Binds K _ ["indices", "many"] [] := C8.Fun.binds F6 rfl fun _ _ _ _ _ _ us hl => match us, hl with | [_, _], _ => rfl
  have F7 : C8.Fun K "goes_round" "goes_round" s_goes_round f7 _ := ⟨⟨_, _, _, _, _, _, _, _, _, _, rfl, l7, c7⟩⟩
  have D7 : C8.Def K mg "goes_round" s_goes_round f7 _ := ⟨F7, PySem.W.mg_of X G a7, k7⟩
  have b7 : Binds K _ ["literals"] [] := C8.Fun.binds F7 rfl fun _ _ _ _ _ _ us hl => match us, hl with | [_], _ => rfl
  have F8 : C8.Fun K "is_ring" "is_ring" s_is_ring f8 _ := ⟨⟨_, _, _, _, _, _, _, _, _, _, rfl, l8, c8⟩⟩
  have D8 : C8.Def K mg "is_ring" s_is_ring f8 _ := ⟨F8, PySem.W.mg_of X G a8, k8⟩
  have b8 : Binds K _ ["literals", "indices"] [] := C8.Fun.binds F8 rfl fun _ _ _ _ _ _ us hl => match us, hl with | [_, _], _ => rfl
  have F9 : C8.Fun K "_law_well" "_law_well" s_l_well f9 _ := ⟨⟨_, _, _, _, _, _, _, _, _, _, rfl, l9, c9⟩⟩
  have D9 : C8.Def K mg "_law_well" s_l_well f9 _ := ⟨F9, PySem.W.mg_of X G a9, k9⟩
  have b9 : Binds K _ ["_law_cell"] [] := C8.Fun.binds F9 rfl fun _ _ _ _ _ _ us hl => match us, hl with | [_], _ => rfl
  have F10 : C8.Fun K "_law_draw" "_law_draw" s_l_draw f10 _ := ⟨⟨_, _, _, _, _, _, _, _, _, _, rfl, l10, c10⟩⟩
  have D10 : C8.Def K mg "_law_draw" s_l_draw f10 _ := ⟨F10, PySem.W.mg_of X G a10, k10⟩
  have b10 : Binds K _ ["_law_well_here", "_law_base"] [] := C8.Fun.binds F10 rfl fun _ _ _ _ _ _ us hl => match us, hl with | [_, _], _ => rfl
  have F11 : C8.Fun K "_law_one" "_law_one" s_l_one f11 _ := ⟨⟨_, _, _, _, _, _, _, _, _, _, rfl, l11, c11⟩⟩
  have D11 : C8.Def K mg "_law_one" s_l_one f11 _ := ⟨F11, PySem.W.mg_of X G a11, k11⟩
  have b11 : Binds K _ ["_law_well_here", "_law_some"] [] := C8.Fun.binds F11 rfl fun _ _ _ _ _ _ us hl => match us, hl with | [_, _], _ => rfl
  have F12 : C8.Fun K "_law_holds" "_law_holds" s_l_holds f12 _ := ⟨⟨_, _, _, _, _, _, _, _, _, _, rfl, l12, c12⟩⟩
  have D12 : C8.Def K mg "_law_holds" s_l_holds f12 _ := ⟨F12, PySem.W.mg_of X G a12, k12⟩
  have b12 : Binds K _ ["_law_literal", "_law_found"] [] := C8.Fun.binds F12 rfl fun _ _ _ _ _ _ us hl => match us, hl with | [_, _], _ => rfl
  have F13 : C8.Fun K "_law_chain" "_law_chain" s_l_chain f13 _ := ⟨⟨_, _, _, _, _, _, _, _, _, _, rfl, l13, c13⟩⟩
  have D13 : C8.Def K mg "_law_chain" s_l_chain f13 _ := ⟨F13, PySem.W.mg_of X G a13, k13⟩
  have b13 : Binds K _ ["_law_well_here", "_law_many", "_law_less"] [] := C8.Fun.binds F13 rfl fun _ _ _ _ _ _ us hl => match us, hl with | [_, _, _], _ => rfl
  have F14 : C8.Fun K "law" "law" s_law fa _ := ⟨⟨_, _, _, _, _, _, _, _, _, _, rfl, l14, c14⟩⟩
  refine ⟨PySem.W.fnOf "law" "law" (C8.fnArgs s_law) (C8.fnBody s_law) (C8.fnScope s_law) .none kV14 dc14 pm14 an14 cd14 ct14, fun s v => .of_eq rfl, fun base _ _ => ?_⟩
  have Q_is_number : C8.Cal l.prog w K mg base 1 "is_number" (spNum K) [] := ok_is_number D0 b0 T 
  have Q_is_literal : C8.Cal l.prog w K mg base 2 "is_literal" (spLitG K) [] := ok_is_literal D1 b1 T Q_is_number
  have Q_check_literals : C8.Cal l.prog w K mg base 3 "check_literals" (spChkG K) [] := ok_check_literals D2 b2 T Q_is_literal
  have Q_lower_once : C8.Cal l.prog w K mg base 1 "lower_once" (spLower K) [] := ok_lower_once D3 b3 T 
  have Q_ring_behind : C8.Cal l.prog w K mg base 1 "ring_behind" (spBehind K) [] := ok_ring_behind D4 b4 T 
  have Q_solved : C8.Cal l.prog w K mg base 4 "solved" (spSolved K) [] := ok_solved D5 b5 T Q_check_literals Q_lower_once Q_ring_behind
  have Q_are_indices : C8.Cal l.prog w K mg base 2 "are_indices" (spAreIx K) [] := ok_are_indices D6 b6 T Q_is_number
  have Q_goes_round : C8.Cal l.prog w K mg base 1 "goes_round" (spRound K) [] := ok_goes_round D7 b7 T 
  have Q_is_ring : C8.Cal l.prog w K mg base 4 "is_ring" (spRing K) [] := ok_is_ring D8 b8 T Q_are_indices Q_goes_round Q_check_literals
  have Q_l_well : C8.Cal l.prog w K mg base 1 "_law_well" spWell [] := ok_l_well D9 b9 T 
  have Q_l_draw : C8.Cal l.prog w K mg base 1 "_law_draw" spDraw [] := ok_l_draw D10 b10 T 
  have Q_l_one : C8.Cal l.prog w K mg base 2 "_law_one" (spOne K) [] := ok_l_one D11 b11 T Q_l_draw
  have Q_l_holds : C8.Cal l.prog w K mg base 1 "_law_holds" (spHolds K) [] := ok_l_holds D12 b12 T 
  have Q_l_chain : C8.Cal l.prog w K mg base 2 "_law_chain" (spChain K) [] := ok_l_chain D13 b13 T Q_l_draw
  exact ok_law F14 T Q_solved Q_is_ring Q_l_well Q_l_draw Q_l_one Q_l_holds Q_l_chain
theorem walk {l : PySem.W.OpenLaw} {q : Program} {loose : List Str} {XP : (Str → Option Value) → Heap → Prop} {YP : World → Heap → Prop} {d : DefRec} {K : Params → PySem.W.Frag} (hn : l.most = some 63) (hdf : d.params.defaults = [])
    (hY : ∀ (w : World) (h : Heap), YP w h → (K w.params).In h)
    (F : ∀ (w : World) (mg : Str → Option Value) (fa : Addr) (h : Heap), (K w.params).In h → h.Ns mainGlobals mg → mg d.name = some (.ref fa) →
      ∃ fd : FuncData, (∀ (s : Shared) (u : Value), BindsTo s fd ⟨[u], []⟩ [("_law_script", u)]) ∧ ∀ base : Heap, (K w.params).In base → base.Ns mainGlobals mg → FnOk l.prog w (K w.params) mg base C8.CX0 5 fa fd ["_law_script"] (spLaw (K w.params))) :
    PySem.W.WalkO q loose XP YP l.row.toRowW d [] (fun f vs => PySem.call f vs) :=
  L2.walk_of (n := 63) (k := 5) (x := "_law_script") (CX := fun _ => C8.CX0) (sp := fun w => spLaw (K w.params)) hn (by decide) hdf ⟨rfl, by decide, by decide⟩ hY F (fun _ _ a ns hl _ hS => ⟨a, ns, rfl, hS, hl, fun _ => rfl⟩) fun _ _ _ _ _ z => z
end K2
open PySem PySem.W PyProof.Rows
set_option maxRecDepth 100000 in
set_option maxHeartbeats 0 in
theorem PySem.Challenge.cw_behindexits_k02_long_rings_holds : PySem.Challenge.rw_behindexits_k02_long_rings.Holds := by
  w_on; o_law; k_head; (case hw => w_witness2)
  k_fill
  refine K2.walk (l := PySem.Challenge.rw_behindexits_k02_long_rings) rfl rfl (fun w h Y => PySem.W.kIn_of Y) ?F
  case F =>
    intro w mg fa h KX G hmg
    refine' K2.all_mk KX G hmg ?a0 ?l0 ?c0 ?k0 ?a1 ?l1 ?c1 ?k1 ?a2 ?l2 ?c2 ?k2 ?a3 ?l3 ?c3 ?k3 ?a4 ?l4 ?c4 ?k4 ?a5 ?l5 ?c5 ?k5 ?a6 ?l6 ?c6 ?k6 ?a7 ?l7 ?c7 ?k7 ?a8 ?l8 ?c8 ?k8 ?a9 ?l9 ?c9 ?k9 ?a10 ?l10 ?c10 ?k10 ?a11 ?l11 ?c11 ?k11 ?a12 ?l12 ?c12 ?k12 ?a13 ?l13 ?c13 ?k13 ?a14 ?l14 ?c14 ?k14 ?m_MOST_LITERALS ?y_isinstance ?y_len ?y_int ?y_bool ?y_tuple ?y_list ?y_str ?y_set ?y_range ?y_enumerate ?y_sorted
    (case a0 => k_is); (case l0 => k_is); (case c0 => k_is); (case k0 => k_is)
    (case a1 => k_is); (case l1 => k_is); (case c1 => k_is); (case k1 => k_is)
    (case a2 => k_is); (case l2 => k_is); (case c2 => k_is); (case k2 => k_is)
    (case a3 => k_is); (case l3 => k_is); (case c3 => k_is); (case k3 => k_is)
    (case a4 => k_is); (case l4 => k_is); (case c4 => k_is); (case k4 => k_is)
    (case a5 => k_is); (case l5 => k_is); (case c5 => k_is); (case k5 => k_is)
    (case a6 => k_is); (case l6 => k_is); (case c6 => k_is); (case k6 => k_is)
    (case a7 => k_is); (case l7 => k_is); (case c7 => k_is); (case k7 => k_is)
    (case a8 => k_is); (case l8 => k_is); (case c8 => k_is); (case k8 => k_is)
    (case a9 => k_is); (case l9 => k_is); (case c9 => k_is); (case k9 => k_is)
    (case a10 => k_is); (case l10 => k_is); (case c10 => k_is); (case k10 => k_is)
    (case a11 => k_is); (case l11 => k_is); (case c11 => k_is); (case k11 => k_is)
    (case a12 => k_is); (case l12 => k_is); (case c12 => k_is); (case k12 => k_is)
    (case a13 => k_is); (case l13 => k_is); (case c13 => k_is); (case k13 => k_is)
    (case a14 => k_is); (case l14 => k_is); (case c14 => k_is); (case k14 => k_is)
    (case m_MOST_LITERALS => k_is); (case y_isinstance => k_is); (case y_len => k_is); (case y_int => k_is)
    (case y_bool => k_is); (case y_tuple => k_is); (case y_list => k_is); (case y_str => k_is)
    (case y_set => k_is); (case y_range => k_is); (case y_enumerate => k_is); (case y_sorted => k_is)

