import PyProof.Rows.All
import Wide.All
import OpenK.AllK
import Wide.FinOn
import HandS.Codes
import HandS.Conv
import HandS.Deep
import HandS.Dict
import HandS.DictComp
import HandS.Evl
import HandS.ForMost
import HandS.IsInst
import HandS.RaiseMore
import HandS.SetFor
import HandS.Strs
import HandS.Style
import HandS.TupAny
import HandS.Wide
import KE.GoesMore
import PyProof.Draws
import PyProof.EnumMake
import PySem.Challenge.RW_behindexits_k01_whole_literals_judged
set_option Elab.async false
set_option linter.all false
set_option maxRecDepth 100000
set_option maxHeartbeats 4000000
namespace Bx
open PySem PySem.Spec PyProof.Rows L2
example (K : PySem.W.Frag) : PySem.W.kitOne K (.type "bool") (.type "int") = some true := by rfl
example (K : PySem.W.Frag) : PySem.W.kitOne K (.type "NoneType") (.type "int") = some false := by rfl
example (K : PySem.W.Frag) : PySem.W.kitOne K (.type "list") (.type "tuple") = some false := by rfl
example (K : PySem.W.Frag) : PySem.W.kitAny K (.type "dict") [.type "list", .type "tuple"] = some false := by rfl
section
variable {X : Cx}
def rCatS (K : PySem.W.Frag) : R2 := fun x y H Q => ∃ l b xs zs, x = .ref l ∧ y = .ref b ∧ SqL K H l xs ∧ SqL K H b zs ∧ xs.length + zs.length ≤ sizeLine ∧ ∀ p, H p = none → Q (.ref p) (upd H p (.lst (xs ++ zs)))
theorem op_catS : OpR X (binaryOp .Add) (rCatS X.K) := by
  intro pins s σ H x y v u Q I rx ry h
  obtain ⟨l, b, xs, zs, rfl, rfl, hH, hB, hz, q⟩ := h
  cases rx
  cases ry
  obtain ⟨its, r, ⟨⟨cls, dd, data, sl⟩, n, ho, hc, hdd, hd⟩, _⟩ := I.list hH
  obtain ⟨its2, r2, ⟨⟨cls2, dd2, data2, sl2⟩, n2, ho2, hc2, hdd2, hd2⟩, _⟩ := I.list hB
  simp only at hc hd hdd hc2 hd2 hdd2
  subst hc hd hdd hc2 hd2 hdd2
  have e1 := r.length
  have e2 := r2.length
  have e : its.toArray ++ its2.toArray = (its ++ its2).toArray := by simp
  refine concat_meets ⟨_, ho, rfl⟩ ⟨_, ho2, rfl⟩ noFill_list_add seq_list_add PySem.F.slot_list_add PySem.F.entry_list_add (PySem.F.args_list_add_2 _ _) (list_addW l b its.toArray its2.toArray n n2 none none sl sl2 (by simp; omega)) ⟨ho, ho2, ?_⟩
  rw [e]
  exact ⟨.ref _, _, I.lnew (t' := s.toks) (r.append r2) (by rw [List.length_append]; omega), rfl, q _ I.fresh⟩

/-! len(set(t)), t a tuple of ints -/
def tLenSetT (K : PySem.W.Frag) (ta : TE) : TE := fun σ H Q => ta σ H fun x H1 => ∃ (l : Addr) (ns : List Int), x = .ref l ∧ SqT K H1 l (ns.map V.int) ∧ ns.length ≤ 1000 ∧
  ∀ out : List Int, out.Nodup → (∀ k, k ∈ out ↔ k ∈ ns) → Q (.int (out.length : Nat)) H1
theorem pe_lenSetT {a : Expr} {ta : TE} {p p2 q pos : Pos} (hm : X.mg "len" = none) (hm2 : X.mg "set" = none) (ha : PE X a ta) (hg : Gl X "len" := by rfl) (hg2 : Gl X "set" := by rfl) (hc : X.calm = true := by rfl)
    (na : starEach [a] X.env = (false, eval a X.env) :: starEach [] X.env := by rfl) : PE X (.Call (.Name "len" p) [.Call (.Name "set" p2) [a] [] q] [] pos) (tLenSetT X.K ta) := by
  refine ⟨fun pins s σ H Q I h => ?_⟩
  refine Call_ (ld_blt I hg hm boot_len ?_)
  refine PyProof.Rows.callWith_builtin1 (PyProof.Rows.args_cons ?_ rfl) rfl rfl
  refine Call_ (ld_blt I hg2 hm2 boot_set ?_)
  refine PyProof.Rows.callWith_type1 (PyProof.Rows.args_cons (thn (ha.run pins s σ H _ I h) fun v s1 ⟨x, H1, I1, r1, q1⟩ => PyProof.Rows.args_nil ?_) na) na rfl
  obtain ⟨l, ns, rfl, hq, hl, q1⟩ := q1
  cases r1
  obtain ⟨its, rv, pt, hz⟩ := I1.tuple hq
  have hi : IntsAre its.toArray.toList ns := ints_of_vals rv
  have hd := I1.ok.hd hc
  refine call_set_tupI ns hd (show s1.heap.IsTuple l its.toArray from pt) hi (by unfold scanBound; omega) fun h' tk c R1 hcn k => ?_
  refine PyProof.Rows.args_nil ?_
  obtain ⟨o, es, ep, t, ho, hex, hdt, g, nd, hm2, hb, hf, hn, hr, hl2⟩ := R1
  have I2 : Inv X pins σ H1 { s1 with heap := h', toks := tk } := I1.kept fun b o e => k b o e
  have hlen : es.size = (es.toList.map keyOf).length := by rw [List.length_map, Array.length_toList]
  refine call_len_set ho hex hdt hf (by rw [hn]; omega) ⟨.int ((es.toList.map keyOf).length : Nat), H1, I2.tok _, ⟨_, by rw [← hlen]⟩, q1 _ nd fun j => ?_⟩
  rw [← hm2 j, decide_eq_true_eq]
end
section
variable {prog : Program} {w : World} {A : Around} {E : Value → Shared → Prop} {s : Shared}
theorem fm_congr {α β : Type} {f g : α → Option β} : ∀ {l : List α}, (∀ m ∈ l, f m = g m) → l.filterMap f = l.filterMap g
  | [], _ => rfl
  | a :: l, h => by
    rw [List.filterMap_cons, List.filterMap_cons, h a List.mem_cons_self, fm_congr fun m hm => h m (List.mem_cons_of_mem _ hm)]
theorem rev_applied {A : Around} {E : Value → Shared → Prop} {s : Shared} {sl : Addr} {vs : Value} {n : Nat} {Q : Int × Int × Nat → Shared → Prop} (hs : s.heap.IsSliceOf sl .none .none vs) (ps : IsPart vs (some (-1))) (h : Q (((n : Nat) : Int) - 1, -1, n) s) :
    wpAny (model prog w) A (Builtin.Slice.sliceApplied (.ref sl) (pure ((n : Nat) : Int))) Q E s := by
  obtain ⟨os, hos, hcs, hds⟩ := id hs
  unfold Builtin.Slice.sliceApplied Builtin.Slice.sliceFields
  refine wpAny_bind (wpAny_bind (wpAny_field hos hds (x := .none) rfl (wpAny_bind (wpAny_field hos hds (x := .none) rfl (wpAny_bind (wpAny_field hos hds (x := vs) rfl (wpAny_pure ?_)))))))
  refine wpAny_bind (HT.slicePart_ ps ?_)
  show wpAny _ _ (if ((-1 : Int) == 0) = true then _ else _) _ _ s
  rw [if_neg (by decide)]
  refine wpAny_bind (slicePart_none (wpAny_bind (slicePart_none (wpAny_bind (wpAny_pure ?_)))))
  have ea : Builtin.Slice.sliceAdjust none none (-1) ((n : Nat) : Int) = (((n : Nat) : Int) - 1, -1) := by
    unfold Builtin.Slice.sliceAdjust
    simp
  have ep : Builtin.Slice.slicePlaces (((n : Nat) : Int) - 1) (-1) (-1) = n := by
    unfold Builtin.Slice.slicePlaces
    have h1 : ¬ ((-1 : Int) > 0) := by decide
    have h2 : (- -1 : Int) = 1 := by decide
    simp only [h1, if_false, h2, Int.ediv_one]
    split <;> omega
  show wpAny _ _ (match Builtin.Slice.sliceAdjust none none (-1) ((n : Nat) : Int) with | (lo, hi) => pure (lo, (-1 : Int), Builtin.Slice.slicePlaces lo hi (-1))) _ _ s
  rw [ea]
  show wpAny _ _ (pure (((n : Nat) : Int) - 1, (-1 : Int), Builtin.Slice.slicePlaces (((n : Nat) : Int) - 1) (-1) (-1))) _ _ s
  rw [ep]
  exact wpAny_pure h
theorem rev_pick (items : Array Value) : ((List.range items.size).filterMap fun (m : Nat) => items[(((items.size : Nat) : Int) - 1 + (m : Int) * (-1)).toNat]?).toArray = items.toList.reverse.toArray := by
  have e : ((List.range items.size).filterMap fun (m : Nat) => items[(((items.size : Nat) : Int) - 1 + (m : Int) * (-1)).toNat]?) = ((List.range items.size).map fun k => items.size - 1 - k).filterMap (items[·]?) := by
    rw [List.filterMap_map]
    refine fm_congr fun m hm => ?_
    have := List.mem_range.mp hm
    show items[(((items.size : Nat) : Int) - 1 + (m : Int) * (-1)).toNat]? = items[items.size - 1 - m]?
    rw [show (((items.size : Nat) : Int) - 1 + (m : Int) * (-1)).toNat = items.size - 1 - m by omega]
  rw [e, PySem.W.krv_range, List.filterMap_reverse, PySem.W.krv_all]
theorem getItem_tuple_rev {t sl : Addr} {items : Array Value} {vs : Value} {Q : Value → Shared → Prop} (ht : IsTup s.heap t items) (hs : s.heap.IsSliceOf sl .none .none vs) (ps : IsPart vs (some (-1)))
    (h : Q (.ref s.heap.objs.size) { s with heap := s.heap.push { cls := .type "tuple", data := .seq items.toList.reverse.toArray } })
    (hsz : items.size ≤ sizeLine) : wpAny (model prog w) A (getItem (.ref t) (.ref sl)) Q E s := by
  have htake : sizeOk (.seq items.toList.reverse.toArray) := by
    show items.toList.reverse.toArray.size ≤ sizeLine
    rw [List.size_toArray, List.length_reverse, Array.length_toList]
    exact hsz
  obtain ⟨os, hos, hcs, hds⟩ := id hs
  have hTs : s.TypeIs (.ref sl) "slice" := ⟨os, hos, hcs⟩
  unfold getItem
  try with_reducible refine wpAny_holding ?_
  first | refine wpAny_bind (wpAny_pure ?_) | skip
  refine wpAny_bind (wpAny_sequenceKey ht.typeIs (by decide) ?_)
  refine wpAny_bind (wpAny_callSpecial?_slot (name := Str.ofString "__getitem__") ht.typeIs PyProof.Rows.slot_tuple_getitem
    (wpAny_call_entry PyProof.Rows.slot_tuple_getitem ht.typeIs entry_tuple_getitem ?_ (args_tuple_getitem _ _)))
  show wpAny _ _ (Builtin.Tuple.tupleItemsOf (.ref t) >>= _) _ _ s
  refine wpAny_bind (tupleItemsOf_ ht ?_)
  refine wpAny_bind (wpAny_typeOf hTs ?_)
  rw [if_pos (by decide)]
  refine wpAny_bind (rev_applied hs ps ?_)
  have hno : ¬ (((((items.size : Nat) : Int) - 1) == 0 && (-1 : Int) == 1 && items.size == items.size) = true) := by
    intro q
    rw [Bool.and_eq_true, Bool.and_eq_true] at q
    exact absurd q.1.2 (by decide)
  show wpAny _ _ (if ((((items.size : Nat) : Int) - 1) == 0 && (-1 : Int) == 1 && items.size == items.size) = true then _ else _) _ _ s
  rw [if_neg hno, rev_pick]
  first
    | exact wpAny_bind (m := Builtin.Tuple.tupleExact _) (wpAny_newObj_type (wpAny_pure ⟨_, rfl, wpAny_pure h⟩) htake)
    | exact wpAny_bind (m := Builtin.Tuple.tupleExact _) (wpAny_newObj_type (wpAny_bind (wpAny_pure (wpAny_pure ⟨_, rfl, wpAny_pure h⟩))) htake)
    | exact wpAny_bind (wpAny_bind (m := Builtin.Tuple.tupleExact _) (wpAny_newObj_type (wpAny_pure (wpAny_pure ⟨_, rfl, wpAny_pure h⟩)) htake))
    | exact wpAny_bind (wpAny_bind (m := Builtin.Tuple.tupleExact _) (wpAny_newObj_type (wpAny_pure ⟨_, rfl, wpAny_pure h⟩) htake))
end
section
variable {X : Cx}
def tRevT (K : PySem.W.Frag) (te : TE) : TE := fun σ H Q => te σ H fun x H1 => ∃ a xs, x = .ref a ∧ SqT K H1 a xs ∧ ∀ p, H1 p = none → Q (.ref p) (upd H1 p (.tup xs.reverse))
theorem pe_revT {e : Expr} {te : TE} {k : Nat} {p1 p2 p3 pos : Pos} (he : PE X e te) : PE X (.Subscript e (.Slice none none (some (.UnaryOp .USub (.Constant (.int 1) k p1) p2)) p3) pos) (tRevT X.K te) := by
  refine ⟨fun pins s σ H Q I h => ?_⟩
  refine Subscript_ (thn (he.run pins s σ H _ I h) fun v s1 ⟨x, H1, I1, r1, q1⟩ => ?_)
  obtain ⟨a, xs, ex, hx, q⟩ := q1
  subst ex
  cases r1
  have hst : PO X (some (.UnaryOp .USub (.Constant (.int 1) k p1) p2)) (tPart (tUn (rU fun i => .int (-i)) (tC (.int 1)))) := po_some (pe_un un_neg pe_int)
  refine wpAny_Slice (thn (po_none.run pins s1 σ H1 (fun o H2 => o = none ∧ H2 = H1) I1 ⟨rfl, rfl⟩) fun vl s2 ⟨l, H2, I2, pl, el, e2⟩ => ?_)
  subst el e2
  refine thn (po_none.run pins s2 σ H2 (fun o H3 => o = none ∧ H3 = H2) I2 ⟨rfl, rfl⟩) fun vu s3 ⟨u, H3, I3, pu, eu, e3⟩ => ?_
  subst eu e3
  refine thn (hst.run pins s3 σ H3 (fun o H4 => o = some (-1) ∧ H4 = H3) I3 ⟨1, rfl, -1, rfl, rfl, rfl⟩) fun vs s4 ⟨o, H4, I4, ps, eo, e4⟩ => ?_
  subst eo e4
  cases pl
  cases pu
  have I5 : Inv X pins σ H4 { s4 with heap := s4.heap.push { cls := .type "slice", data := .fields #[Value.none, Value.none, vs] } } := I4.kept (t' := s4.toks) fun b ob q => Heap.get?_push_of_some _ q
  obtain ⟨its, r, ht, hz⟩ := I5.tuple hx
  have hlen := r.length
  show wpAny (model X.prog X.w) X.A (subscriptTail e (.Slice none none (some (.UnaryOp .USub (.Constant (.int 1) k p1) p2)) p3) (.ref a) (.ref s4.heap.objs.size)) (EP X pins σ Q) X.xe { s4 with heap := s4.heap.push { cls := .type "slice", data := .fields #[Value.none, Value.none, vs] } }
  refine tail_any (ops := [.ref a, .ref s4.heap.objs.size]) ht.typeIs (PyProof.Rows.slot_tuple_getitem.lookup) ?_ (by with_unfolding_all rfl)
  refine getItem_tuple_rev ht (Heap.IsSliceOf.new _ Value.none Value.none vs) ps ?_ (by rw [List.size_toArray]; omega)
  refine ⟨.ref _, _, I5.laid (t' := s4.toks) (o := .tup xs.reverse) (fun b ob q => Heap.get?_push_of_some _ q) (Nat.le_refl _) ?_, rfl, q _ (I5.hok.fresh (Nat.le_refl _))⟩
  exact ⟨by rw [List.length_reverse]; exact hz, _, r.reverse, ⟨_, Heap.get?_push_size _ rfl, rfl, 0, rfl⟩⟩
end
end Bx

namespace Bx
open PySem PySem.Spec PyProof.Rows L2
/-! ### what stays -/
theorem Same.new {H : Hp} {p : Addr} {o : HO} (h : H p = none) : Same H (upd H p o) := fun a u e => by
  rw [upd_ne (ne_of_none e h)]
  exact e
theorem Same.mut {H H' : Hp} {p : Addr} {o : HO} (e : Same H H') (h : H p = none) : Same H (upd H' p o) := fun a u ha => by
  rw [upd_ne (ne_of_none ha h)]
  exact e a u ha
theorem Same.seqT {K : PySem.W.Frag} {H H' : Hp} {a : Addr} {xs : List V} (e : Same H H') (h : SqT K H a xs) : SqT K H' a xs := by
  rcases h with (h | ⟨o, h⟩) | h
  · exact .inl (.inl (e _ _ h))
  · exact .inl (.inr ⟨o, e _ _ h⟩)
  · exact .inr h
theorem Same.ty {K : PySem.W.Frag} {H H' : Hp} {v : V} {t : Value} (e : Same H H') (h : TyX K H v t) : TyX K H' v t := by
  cases h with
  | base b =>
    cases b with
    | non => exact .base .non
    | bl x => exact .base (.bl x)
    | int i => exact .base (.int i)
    | str x => exact .base (.str x)
    | flt x => exact .base (.flt x)
    | lst q => exact .base (.lst (e _ _ q))
    | frz q => exact .base (.frz (e _ _ q))
    | tup q => exact .base (.tup (e _ _ q))
    | dK q => exact .base (.dK (e _ _ q))
    | dT q => exact .base (.dT (e _ _ q))
    | ins q cl ha hn htk hm => exact .base (.ins (e _ _ q) cl ha hn htk hm)
  | byt b => exact .byt b
  | set q => exact .set (e _ _ q)
  | kList a b => exact .kList a b
  | kTuple a b => exact .kTuple a b
  | kDict a b => exact .kDict a b
  | fTuple q => exact .fTuple (e _ _ q)
  | fDict q => exact .fDict (e _ _ q)
theorem tyT {K : PySem.W.Frag} {H : Hp} {a : Addr} {xs : List V} (h : SqT K H a xs) : TyX K H (.ref a) (.type "tuple") := by
  rcases h with (h | ⟨o, h⟩) | ⟨o, its, n, hk, hc, _⟩
  · exact .base (.tup h)
  · exact .fTuple h
  · exact .kTuple hk hc
theorem tyL {K : PySem.W.Frag} {H : Hp} {a : Addr} {xs : List V} (h : SqL K H a xs) : TyX K H (.ref a) (.type "list") := by
  rcases h with (h | ⟨o, h⟩) | ⟨o, its, n, hk, hc, _⟩
  · exact .base (.lst h)
  · exact .base (.frz h)
  · exact .kList hk hc
/-- .. all but the one at l -/
def But (l : Addr) (H H' : Hp) : Prop := ∀ b o, H b = some o → b ≠ l → H' b = some o
theorem But.refl (l : Addr) (H : Hp) : But l H H := fun _ _ h _ => h
theorem But.trans {l : Addr} {H H1 H2 : Hp} (a : But l H H1) (b : But l H1 H2) : But l H H2 := fun c o h n => b c o (a c o h n) n
theorem But.of {l : Addr} {H H' : Hp} (a : Same H H') : But l H H' := fun c o h _ => a c o h
theorem But.upd {l : Addr} {H : Hp} {o : HO} : But l H (upd H l o) := fun c u h n => by
  rw [upd_ne n]
  exact h
theorem But.seq {K : PySem.W.Frag} {l : Addr} {H H' : Hp} {a : Addr} {xs : List V} (e : But l H H') (n : a ≠ l) (h : SqL K H a xs) : SqL K H' a xs := by
  rcases h with (h | ⟨o, h⟩) | h
  · exact .inl (.inl (e _ _ h n))
  · exact .inl (.inr ⟨o, e _ _ h n⟩)
  · exact .inr h
theorem But.seqT {K : PySem.W.Frag} {l : Addr} {H H' : Hp} {a : Addr} {xs : List V} (e : But l H H') (n : a ≠ l) (h : SqT K H a xs) : SqT K H' a xs := by
  rcases h with (h | ⟨o, h⟩) | h
  · exact .inl (.inl (e _ _ h n))
  · exact .inl (.inr ⟨o, e _ _ h n⟩)
  · exact .inr h
theorem But.free {l : Addr} {H H' : Hp} (e : But l H H') {p : Addr} (n : p ≠ l) (h : H' p = Option.none) : H p = Option.none := by
  cases q : H p with
  | none => rfl
  | some o =>
    rw [e p o q n] at h
    cases h
/-! ### tuples of any kind: what a sum, a slice is -/
section
variable {X : Cx}
def rCatU (K : PySem.W.Frag) : R2 := fun x y H Q => ∃ a b xs ys, x = .ref a ∧ y = .ref b ∧ SqT K H a xs ∧ SqT K H b ys ∧ xs.length + ys.length ≤ sizeLine ∧ ∀ c H', Same H H' → SqT K H' c (xs ++ ys) → Q (.ref c) H'
theorem op_catU : OpR X (binaryOp .Add) (rCatU X.K) := by
  intro pins s σ H x y v u Q I rx ry h
  obtain ⟨a, b, xs, ys, ex, ey, ha, hb, hz, q⟩ := h
  refine op_catA pins s σ H x y v u Q I rx ry ⟨a, b, xs, ys, ex, ey, ha, hb, hz, fun e => ?_, fun _ e => ?_, fun _ _ p hp => ?_⟩
  · subst e
    exact q b H (Same.refl H) hb
  · subst e
    exact q a H (Same.refl H) (by rw [List.append_nil]; exact ha)
  · exact q p _ (Same.new hp) (.inl (.inl upd_same))
def rSlU (K : PySem.W.Frag) : V → Option Int → Option Int → Hp → VK → Prop := fun x lo hi H Q => ∃ a xs, x = .ref a ∧ SqT K H a xs ∧ ∀ c H', Same H H' → SqT K H' c (cutV xs lo hi) → Q (.ref c) H'
theorem sl_tupU : SlR X (rSlU X.K) := by
  intro pins s σ H x v vl vu lo hi sl Q I rx hs pl pu h
  obtain ⟨a, xs, ex, hx, q⟩ := h
  refine sl_tupA pins s σ H x v vl vu lo hi sl Q I rx hs pl pu ⟨a, xs, ex, hx, fun hw => ?_, fun _ p hp => ?_⟩
  · refine q a H (Same.refl H) ?_
    unfold cutV
    rw [hw.1, hw.2, List.drop_zero, Nat.sub_zero, List.take_length]
    exact hx
  · exact q p _ (Same.new hp) (.inl (.inl upd_same))
end
/-! ### a loop over enumerate of a list -/
theorem for_enumL {K : PySem.W.Frag} {a : Addr} {xs : List V} {g : TG} {tb : TS} {D : Ends} {σ : L2.St} {H : Hp} (Pv : Nat → L2.St → Hp → Prop) (h0 : Pv 0 σ H) (hq : ∀ i σ H, Pv i σ H → SqL K H a xs)
    (hs : ∀ (i : Nat) (x : V) (T : Addr) (σ : L2.St) (H : Hp), xs[i]? = some x → Pv i σ H → H T = none → g (.ref T) σ (upd H T (.tup [.int (i : Nat), x])) fun σ2 H2 => tb { D with nx := Pv (i + 1), ct := Pv (i + 1), bk := D.nx } σ2 H2) (hd : ∀ σ H, Pv xs.length σ H → D.nx σ H) :
    ∃ W : Nat → Nat → L2.St → Hp → Prop, (∃ m, W 0 m σ H) ∧ ∀ i m σ H, W i m σ H →
      ((Ite K a).stop i H ∧ D.nx σ H) ∨ ((Ite K a).go i H ∧ ∃ N : L2.St → Hp → Prop, (∀ σ' H', N σ' H' → ∃ m', m' < m ∧ W (i + 1) m' σ' H') ∧ ∀ v H', (Ite K a).yld i H v H' → g v σ H' fun σ2 H2 => tb { D with nx := N, ct := N, bk := D.nx } σ2 H2) := by
  refine ⟨fun i m σ H => m = xs.length - i ∧ i ≤ xs.length ∧ Pv i σ H, ⟨xs.length, rfl, Nat.zero_le _, h0⟩, ?_⟩
  rintro i m σ H ⟨rfl, hi, p⟩
  have qx := hq i σ H p
  by_cases hlt : i < xs.length
  · have hx : xs[i]? = some xs[i] := List.getElem?_eq_getElem hlt
    refine .inr ⟨⟨xs, _, qx, hx⟩, Pv (i + 1), fun σ' H' p' => ⟨xs.length - (i + 1), by omega, rfl, hlt, p'⟩, fun v H' y => ?_⟩
    obtain ⟨T, x', rfl, hT, rfl, f1⟩ := y
    exact hs i x' T σ H (f1 xs qx) p hT
  · have e : i = xs.length := by omega
    subst e
    exact .inl ⟨⟨xs, qx, Nat.le_refl _⟩, hd σ H p⟩
end Bx

namespace Bx
open PySem PySem.Spec PyProof.Rows L2
theorem lay_ints : ∀ is : List Int, PyData.canLayAll0 (is.map PyData.int) = true
  | [] => by simp [PyData.canLayAll0]
  | i :: is => by simp [PyData.canLayAll0, PyData.canLay0, lay_ints is]
theorem dep_ints : ∀ is : List Int, PyData.depthAll (is.map PyData.int) ≤ 1
  | [] => by simp [PyData.depthAll]
  | i :: is => by
    have := dep_ints is
    simp [PyData.depthAll, PyData.depth]
    omega
theorem shaped_ints (is : List Int) : SeqAt.shaped (.list (is.map PyData.int)) = true := by
  unfold SeqAt.shaped
  rw [Bool.and_eq_true, decide_eq_true_eq]
  refine ⟨by simp [PyData.canLay0, lay_ints], ?_⟩
  have := dep_ints is
  simp [PyData.depth]
  omega
theorem lay_strs : ∀ {is : List Str}, (∀ x ∈ is, PyData.strOk x = true) → PyData.canLayAll0 (is.map PyData.str) = true
  | [], _ => by simp [PyData.canLayAll0]
  | i :: is, h => by simp [PyData.canLayAll0, PyData.canLay0, lay_strs fun x hx => h x (List.mem_cons_of_mem _ hx), h i List.mem_cons_self]
theorem dep_strs : ∀ is : List Str, PyData.depthAll (is.map PyData.str) ≤ 1
  | [] => by simp [PyData.depthAll]
  | i :: is => by
    have := dep_strs is
    simp [PyData.depthAll, PyData.depth]
    omega
theorem shaped_strs {is : List Str} (h : ∀ x ∈ is, PyData.strOk x = true) : SeqAt.shaped (.list (is.map PyData.str)) = true := by
  unfold SeqAt.shaped
  rw [Bool.and_eq_true, decide_eq_true_eq]
  refine ⟨by simp [PyData.canLay0, lay_strs h], ?_⟩
  have := dep_strs is
  simp [PyData.depth]
  omega
theorem dp_ints {K : PySem.W.Frag} {H : Hp} : ∀ is : List Int, DpAll K H (is.map V.int) (is.map PyData.int)
  | [] => .nil
  | i :: is => .cons (.int i) (dp_ints is)
theorem dp_strs {K : PySem.W.Frag} {H : Hp} : ∀ is : List Str, DpAll K H (is.map V.str) (is.map PyData.str)
  | [] => .nil
  | i :: is => .cons (.str i) (dp_strs is)
theorem eqv_strs : ∀ {xs ys : List Str}, PyData.eqvAll (xs.map PyData.str) (ys.map PyData.str) = true ↔ xs = ys
  | [], [] => by simp [PyData.eqvAll]
  | [], _ :: _ => by simp [PyData.eqvAll]
  | _ :: _, [] => by simp [PyData.eqvAll]
  | x :: xs, y :: ys => by
    have e := @eqv_strs xs ys
    simp [PyData.eqvAll, PyData.eqv, e]
theorem eqv_ints : ∀ {xs ys : List Int}, PyData.eqvAll (xs.map PyData.int) (ys.map PyData.int) = true ↔ xs = ys
  | [], [] => by simp [PyData.eqvAll]
  | [], _ :: _ => by simp [PyData.eqvAll]
  | _ :: _, [] => by simp [PyData.eqvAll]
  | x :: xs, y :: ys => by
    have e := @eqv_ints xs ys
    simp [PyData.eqvAll, PyData.eqv, e]
theorem But.tupW {K : PySem.W.Frag} {l : Addr} {ws : List V} {H H' : Hp} {a : Addr} {xs : List V} (hw : H l = some (.lst ws)) (e : But l H H') (h : SqT K H a xs) : SqT K H' a xs := by
  rcases h with (h | ⟨o, h⟩) | h
  · exact .inl (.inl (e _ _ h (ne_of h hw (by intro q; cases q))))
  · exact .inl (.inr ⟨o, e _ _ h (ne_of h hw (by intro q; cases q))⟩)
  · exact .inr h
theorem at_lastI {is : List Int} (h : is ≠ []) : ∃ a, a ∈ is ∧ atI (is.map V.int) (-1) = some (.int a) ∧ is[is.length - 1]? = some a := by
  obtain ⟨init, a, rfl⟩ : ∃ init a, is = init ++ [a] := ⟨is.dropLast, is.getLast h, (List.dropLast_concat_getLast h).symm⟩
  refine ⟨a, by simp, ?_, by simp⟩
  rw [List.map_append]
  exact atI_last _ _
theorem flat_ints (is : List Int) : (is.map V.int).all flatV = true := by
  rw [List.all_eq_true]
  intro x hx
  obtain ⟨i, _, rfl⟩ := List.mem_map.mp hx
  rfl
theorem inV_ints {i : Int} {is : List Int} : inV (.int i) (is.map V.int) = decide (i ∈ is) := by
  unfold inV
  rw [Bool.eq_iff_iff, List.any_eq_true, decide_eq_true_eq]
  constructor
  · rintro ⟨x, hx, e⟩
    obtain ⟨j, hj, rfl⟩ := List.mem_map.mp hx
    have : j = i := by simpa [eqV] using e
    exact this ▸ hj
  · intro h
    exact ⟨.int i, List.mem_map_of_mem h, by simp [eqV]⟩
theorem But.mut {l : Addr} {H H' : Hp} {p : Addr} {o : HO} (e : But l H H') (h : H p = Option.none) : But l H (L2.upd H' p o) := fun a u ha n => by
  rw [upd_ne (ne_of_none ha h)]
  exact e a u ha n
theorem But.lst {l : Addr} {H H' : Hp} {a : Addr} {o : HO} (e : But l H H') (h : H a = some o) (n : a ≠ l) : H' a = some o := e a o h n
/-! the same rules by the frame's own K (within a comprehension) -/
section
variable {X : Cx} (K : PySem.W.Frag)
theorem ixLK (h : X.K = K := by rfl) : IxR X (rIxL K) := by subst h; exact ix_list
theorem ixTK (h : X.K = K := by rfl) : IxR X (rIxT K) := by subst h; exact ix_tup
theorem inK (h : X.K = K := by rfl) : OpR X (compareOp .In) (rIn K false) := by subst h; exact op_in_seq
theorem notInK (h : X.K = K := by rfl) : OpR X (compareOp .NotIn) (rIn K true) := by subst h; exact op_notIn_seq
theorem isiK (h : X.K = K := by rfl) : CallR X (.builtin "isinstance") (rIsi K) := by subst h; exact call_isi
theorem lenK (h : X.K = K := by rfl) : CallR X (.builtin "len") (Evl.rLenS K) := by subst h; exact call_len_seq
end
end Bx

namespace Bx
open PySem PySem.Spec PyProof.Rows L2
/-! {k: v for a in A for b in B}: two clauses -/
theorem dcompTurn2_out (kx vx t0 i0 t1 i1 : Expr) (ifs0 ifs1 : List Expr) (scope : Scope) (pos : Pos) (it : Value) (acc : Addr) (env : Env) :
    compTurn (.DictComp kx vx [⟨t0, i0, ifs0, 0⟩, ⟨t1, i1, ifs1, 0⟩] scope pos) 0 it (.ref acc) env = (do
      standAt i0.pos
      match ← pyNext it with
      | none => pure (.done .next)
      | some v =>
        letOwnedTupleGo t0 it v
        assign t0 env v
        let mut ok := true
        for c in ifs0 do
          if ok then ok ← isTrue c env (eval c env)
        if ok then
          let x ← eval i1 env
          standAt i1.pos
          let x ← foldedSetIterable i1 env x
          let _ ← runOwn (.compStart (.DictComp kx vx [⟨t0, i0, ifs0, 0⟩, ⟨t1, i1, ifs1, 0⟩] scope pos) 1 (← holding [x] (pyIter x)) (.ref acc) env) env
        again (.compLoop (.DictComp kx vx [⟨t0, i0, ifs0, 0⟩, ⟨t1, i1, ifs1, 0⟩] scope pos) 0 it (.ref acc) env)) := by rfl
theorem dcompTurn2_in (kx vx t0 i0 t1 i1 : Expr) (ifs0 ifs1 : List Expr) (scope : Scope) (pos : Pos) (it : Value) (acc : Addr) (env : Env) :
    compTurn (.DictComp kx vx [⟨t0, i0, ifs0, 0⟩, ⟨t1, i1, ifs1, 0⟩] scope pos) 1 it (.ref acc) env = (do
      standAt i1.pos
      match ← pyNext it with
      | none => pure (.done .next)
      | some v =>
        letOwnedTupleGo t1 it v
        assign t1 env v
        let mut ok := true
        for c in ifs1 do
          if ok then ok ← isTrue c env (eval c env)
        if ok then
          (do
            let kv ← eval kx env
            let vv ← holding [kv] (eval vx env)
            standAt { kx.pos with endLine := vx.pos.endLine, endCol := vx.pos.endCol }
            holding [kv, vv] (dictSet acc kv vv))
        again (.compLoop (.DictComp kx vx [⟨t0, i0, ifs0, 0⟩, ⟨t1, i1, ifs1, 0⟩] scope pos) 1 it (.ref acc) env)) := by rfl

section
variable {prog : Program} {w : World} {A : Around} {R : Result → Shared → Prop} {s : Shared} {kx vx t0 i0 t1 i1 : Expr} {ifs0 ifs1 : List Expr} {scope : Scope} {pos : Pos} {it : Value} {acc : Addr} {env : Env}
theorem dcompLoop2_out (hs : ∀ x, foldedSetIterable i1 env x = pure x) (I : Nat → Shared → Prop)
    (turn : ∀ n s, I n s → wpAny (model prog w) A (pyNext it) (fun r s₁ => match r with
      | none => R (.ok .next) s₁
      | some v => wpAny (model prog w) A (letOwnedTupleGo t0 it v) (fun _ s₁' => wpAny (model prog w) A (assign t0 env v) (fun _ s₂ =>
          wpAny (model prog w) A (forIn ifs0 true fun c r => if r = true then do let ok ← isTrue c env (eval c env); pure (ForInStep.yield ok) else pure (ForInStep.yield r)) (fun ok s₃ =>
            if ok = true then wpAny (model prog w) A (eval i1 env) (fun x s₄ => wpAny (model prog w) A (pyIter x) (fun it1 s₅ =>
              codeAny (model prog w) A (.compStart (.DictComp kx vx [⟨t0, i0, ifs0, 0⟩, ⟨t1, i1, ifs1, 0⟩] scope pos) 1 it1 (.ref acc) env) (fun r s' => match r with
                | .ok _ => ∃ m, m < n ∧ I m s'
                | .error _ => False) s₅) (notedBy (model prog w) A env fun e s' => R (.error e) s') s₄) (notedBy (model prog w) A env fun e s' => R (.error e) s') s₃
            else ∃ m, m < n ∧ I m s₃) (notedBy (model prog w) A env fun e s' => R (.error e) s') s₂) (notedBy (model prog w) A env fun e s' => R (.error e) s') s₁') (notedBy (model prog w) A env fun e s' => R (.error e) s') s₁) (notedBy (model prog w) A env fun e s' => R (.error e) s') s)
    (n : Nat) (h : I n s) :
    codeAny (model prog w) A (.compLoop (.DictComp kx vx [⟨t0, i0, ifs0, 0⟩, ⟨t1, i1, ifs1, 0⟩] scope pos) 0 it (.ref acc) env) R s := by
  refine codeAny_loop rfl I (fun n s hI => ?_) n h
  show wpAny _ A ((compTurn (.DictComp kx vx [⟨t0, i0, ifs0, 0⟩, ⟨t1, i1, ifs1, 0⟩] scope pos) 0 it (.ref acc) env).onRaise (fun x => do noteFrame x env; theTreesLotGoes x)) _ _ s
  refine wpAny_noted ?_
  rw [dcompTurn2_out]
  refine wpAny_bind (wpAny_standAt (wpAny_bind (wpAny_mono (turn n s hI) (fun r s₁ h₁ => ?_) fun _ _ h' => h')))
  cases r with
  | none => exact wpAny_pure h₁
  | some v =>
    refine wpAny_bind (wpAny_mono h₁ (fun _ s₁' h₁' => ?_) fun _ _ h' => h')
    refine wpAny_bind (wpAny_mono h₁' (fun _ s₂ h₂ => wpAny_bind (wpAny_mono h₂ (fun ok s₃ h₃ => ?_) fun _ _ h' => h')) fun _ _ h' => h')
    cases ok with
    | false => exact wpAny_pure ⟨rfl, h₃⟩
    | true =>
      refine wpAny_bind (wpAny_mono h₃ (fun x s₄ h₄ => ?_) fun _ _ h' => h')
      refine wpAny_bind (wpAny_standAt (wpAny_bind (wpAny_of_eq (hs x) (wpAny_bind (wpAny_holding (wpAny_mono h₄ (fun it1 s₅ h₅ => ?_) fun _ _ h' => h'))))))
      refine wpAny_bind (wpAny_runOwn ?_)
      rw [Around.mark_none]
      refine codeAny_mono h₅ fun r s' hr => ?_
      cases r with
      | ok f =>
        first
          | exact wpAny_pure ⟨rfl, hr⟩
          | exact wpAny_bind (wpAny_pure (wpAny_pure ⟨rfl, hr⟩))
      | error e => exact hr.elim
theorem dcompLoop2_in (I : Nat → Shared → Prop)
    (turn : ∀ n s, I n s → wpAny (model prog w) A (pyNext it) (fun r s₁ => match r with
      | none => R (.ok .next) s₁
      | some v => wpAny (model prog w) A (letOwnedTupleGo t1 it v) (fun _ s₁' => wpAny (model prog w) A (assign t1 env v) (fun _ s₂ =>
          wpAny (model prog w) A (forIn ifs1 true fun c r => if r = true then do let ok ← isTrue c env (eval c env); pure (ForInStep.yield ok) else pure (ForInStep.yield r)) (fun ok s₃ =>
            if ok = true then wpAny (model prog w) A (eval kx env) (fun kv s₄ => wpAny (model prog w) A (eval vx env) (fun vv s₅ =>
              wpAny (model prog w) A (dictSet acc kv vv) (fun _ s₆ => ∃ m, m < n ∧ I m s₆) (notedBy (model prog w) A env fun e s' => R (.error e) s') s₅) (notedBy (model prog w) A env fun e s' => R (.error e) s') s₄) (notedBy (model prog w) A env fun e s' => R (.error e) s') s₃
            else ∃ m, m < n ∧ I m s₃) (notedBy (model prog w) A env fun e s' => R (.error e) s') s₂) (notedBy (model prog w) A env fun e s' => R (.error e) s') s₁') (notedBy (model prog w) A env fun e s' => R (.error e) s') s₁) (notedBy (model prog w) A env fun e s' => R (.error e) s') s)
    (n : Nat) (h : I n s) :
    codeAny (model prog w) A (.compLoop (.DictComp kx vx [⟨t0, i0, ifs0, 0⟩, ⟨t1, i1, ifs1, 0⟩] scope pos) 1 it (.ref acc) env) R s := by
  refine codeAny_loop rfl I (fun n s hI => ?_) n h
  show wpAny _ A ((compTurn (.DictComp kx vx [⟨t0, i0, ifs0, 0⟩, ⟨t1, i1, ifs1, 0⟩] scope pos) 1 it (.ref acc) env).onRaise (fun x => do noteFrame x env; theTreesLotGoes x)) _ _ s
  refine wpAny_noted ?_
  rw [dcompTurn2_in]
  refine wpAny_bind (wpAny_standAt (wpAny_bind (wpAny_mono (turn n s hI) (fun r s₁ h₁ => ?_) fun _ _ h' => h')))
  cases r with
  | none => exact wpAny_pure h₁
  | some v =>
    refine wpAny_bind (wpAny_mono h₁ (fun _ s₁' h₁' => ?_) fun _ _ h' => h')
    refine wpAny_bind (wpAny_mono h₁' (fun _ s₂ h₂ => wpAny_bind (wpAny_mono h₂ (fun ok s₃ h₃ => ?_) fun _ _ h' => h')) fun _ _ h' => h')
    cases ok with
    | false => exact wpAny_pure ⟨rfl, h₃⟩
    | true =>
      exact wpAny_bind (wpAny_bind (wpAny_mono h₃ (fun kv s₄ h₄ => wpAny_bind (wpAny_holding (wpAny_mono h₄ (fun vv s₅ h₅ => wpAny_bind (wpAny_standAt (wpAny_holding (wpAny_mono h₅ (fun _ s₆ h₆ => wpAny_pure ⟨rfl, h₆⟩) fun _ _ h' => h')))) fun _ _ h' => h'))) fun _ _ h' => h'))
theorem dcompStart1_ok (h0 : codeAny (model prog w) A (.compLoop (.DictComp kx vx [⟨t0, i0, ifs0, 0⟩, ⟨t1, i1, ifs1, 0⟩] scope pos) 1 it (.ref acc) env) R s)
    (h : wpAny (model prog w) A (pyIter it) (fun it' s' => codeAny (model prog w) A (.compLoop (.DictComp kx vx [⟨t0, i0, ifs0, 0⟩, ⟨t1, i1, ifs1, 0⟩] scope pos) 1 it' (.ref acc) env) R s')
      (notedBy (model prog w) A env fun x s' => R (.error x) s') s) :
    codeAny (model prog w) A (.compStart (.DictComp kx vx [⟨t0, i0, ifs0, 0⟩, ⟨t1, i1, ifs1, 0⟩] scope pos) 1 it (.ref acc) env) R s := by
  refine codeAny_of_tree ?_
  show wpAny _ _ ((compStart (.DictComp kx vx [⟨t0, i0, ifs0, 0⟩, ⟨t1, i1, ifs1, 0⟩] scope pos) 1 it (.ref acc) env).onRaise (fun x => do noteFrame x env; standAt theWindowsPlace)) _ _ s
  refine wpAny_notedAt ?_
  unfold compStart
  show wpAny _ _ (ask >>= _) _ _ s
  refine wpAny_bind (wpAny_askSetting (wpAny_ite ?_))
  split
  · first
      | exact wpAny_bind (wpAny_pure (wpAny_pure (And.intro rfl h0)))
      | exact wpAny_pure (And.intro rfl h0)
  · first
      | exact wpAny_bind (wpAny_rule (wpAny_bind (wpAny_standAt (wpAny_bind (wpAny_mono h (fun it' s' h' => wpAny_pure (And.intro rfl h')) fun _ _ x => x)))))
      | (refine wpAny_bind (wpAny_rule ?_); show wpAny _ _ (standAt i1.pos >>= _) _ _ s; exact wpAny_bind (wpAny_standAt (wpAny_bind (wpAny_mono h (fun it' s' h' => wpAny_pure (And.intro rfl h')) fun _ _ x => x))))
end

section
variable {X : Cx}
def tDc2 (wi : TI) (g : TG) (tt : TT) (wi1 : TI) (g1 : TG) (tt1 : TT) (tk tv : TE) (vs vs1 : List Nat) : TE := fun σ H Q => wi σ H fun J H1 => ∀ D, H1 D = none → ∃ W : Nat → Nat → Hp → Prop, (∃ m, W 0 m (upd H1 D (.dK []))) ∧ ∀ i m H, W i m H →
  (J.stop i H ∧ Q (.ref D) H) ∨ (J.go i H ∧ ∃ Nx : Hp → Prop, (∀ H', Nx H' → ∃ m', m' < m ∧ W (i + 1) m' H') ∧ ∀ x H', J.yld i H x H' → g x (wipe σ vs) H' fun σ2 H2 => wipe σ2 vs = wipe σ vs ∧ tt σ2 H2 fun b H3 =>
    if b = true then wi1 σ2 H3 fun J1 H4 => ∃ W1 : Nat → Nat → Hp → Prop, (∃ m, W1 0 m H4) ∧ ∀ j k H, W1 j k H →
      (J1.stop j H ∧ Nx H) ∨ (J1.go j H ∧ ∃ Nx1 : Hp → Prop, (∀ H', Nx1 H' → ∃ k', k' < k ∧ W1 (j + 1) k' H') ∧ ∀ x H', J1.yld j H x H' → g1 x (wipe σ2 vs1) H' fun σ3 H5 => wipe σ3 vs1 = wipe σ2 vs1 ∧ tt1 σ3 H5 fun b H6 =>
        if b = true then tk σ3 H6 fun y H7 => tv σ3 H7 fun z H8 => ∃ kvs k, y = kV k ∧ H8 D = some (.dK kvs) ∧ kvs.length < sizeLine ∧ Nx1 (upd H8 D (.dK (putK kvs k z))) else Nx1 H6)
    else Nx H3)
theorem dc2_core {pins : List (Addr × Obj)} {s : Shared} {σ : L2.St} {H : Hp} {Q : VK} {kx vx tg iter tg1 iter1 : Expr} {ifs ifs1 : List Expr} {scope : Scope} {own : List (Str × Nat)} {vs1 : List Nat} {pos pos' : Pos} {wi wi1 : TI} {g g1 : TG} {tt tt1 : TT} {tk tv : TE} {use : Option (Value → Sem Unit)} {Qf : Value → Shared → Prop}
    (hc : X.calm = true) (hN : X.N.Nodup) (I : Inv X pins σ H s) (hi : PI X tg iter wi) (ok : BlkOk X.N X.env.scope scope own) (hv : ∀ i ∈ vs1, i ∈ own.map (·.2))
    (hg : ∀ (s : Shared) (H : Hp) (C : Addr) (cl : List (Str × Addr)) (fp : List Addr), PG (X.blk s H scope (compEnvC scope cl C X.env) fp) tg g) (ht : ∀ (s : Shared) (H : Hp) (C : Addr) (cl : List (Str × Addr)) (fp : List Addr), PTs (X.blk s H scope (compEnvC scope cl C X.env) fp) ifs tt)
    (hk : ∀ (s : Shared) (H : Hp) (C : Addr) (cl : List (Str × Addr)) (fp : List Addr), PE (X.blk s H scope (compEnvC scope cl C X.env) fp) kx tk) (he : ∀ (s : Shared) (H : Hp) (C : Addr) (cl : List (Str × Addr)) (fp : List Addr), PE (X.blk s H scope (compEnvC scope cl C X.env) fp) vx tv) (hs : ∀ x, foldedSetIterable iter X.env x = pure x)
    (hi1 : ∀ (s : Shared) (H : Hp) (C : Addr) (cl : List (Str × Addr)) (fp : List Addr), PI (X.blk s H scope (compEnvC scope cl C X.env) fp) tg1 iter1 wi1)
    (hg1 : ∀ (s : Shared) (H : Hp) (C : Addr) (cl : List (Str × Addr)) (fp : List Addr), PG (X.blk s H scope (compEnvC scope cl C X.env) fp) tg1 g1)
    (ht1 : ∀ (s : Shared) (H : Hp) (C : Addr) (cl : List (Str × Addr)) (fp : List Addr), PTs (X.blk s H scope (compEnvC scope cl C X.env) fp) ifs1 tt1)
    (hs1 : ∀ env x, foldedSetIterable iter1 env x = pure x)
    (h : tDc2 wi g tt wi1 g1 tt1 tk tv (own.map (·.2)) vs1 σ H Q)
    (hback : ∀ D C s' m H', Inv X pins σ H' s' → Q (.ref D) H' → s'.heap.Ns C m → FpOk X pins H' C → compPost (model X.prog X.w) X.A X.xe use Qf (.ref D) C (.ok .next) s') :
    wpAny (model X.prog X.w) X.A (comprehension (.DictComp kx vx [⟨tg, iter, ifs, 0⟩, ⟨tg1, iter1, ifs1, 0⟩] scope pos) scope X.env pos' newDict false (eval iter X.env) use) Qf X.xe s := by
  have hcells : ∀ y ∈ scope.names, y.2 = .free → ∃ c, X.env.cells.lookup y.1 = some c := fun y hy e => by
    rcases ok.free y hy e with k | k
    · exact I.ok.has _ (.inl k)
    · exact I.ok.has _ (.inr k)
  refine wpAny_comprehension_free (use := use) rfl hs (closure_ok hcells) ok.kind (fun y hy e => by rw [ok.uniq y hy, e])
    (thn (hi.run pins s σ H _ I h) fun srcv s1 hx => thn hx fun itval s2 h2 => ?_)
  obtain ⟨it, fp, tn, J, H2, e, I2, T, st2, f2, q⟩ := h2
  subst e
  refine wpAny_newObj_type (newEnv_comp ?_)
  generalize hD : s2.heap.objs.size = D
  have hDn : H2 D = none := I2.hok.fresh (Nat.le_of_eq hD)
  obtain ⟨W, ⟨m0, w0⟩, turn⟩ := q D hDn
  -- the new list
  generalize hs3 : ({ s2 with heap := s2.heap.push { cls := .type "dict", data := .dict #[] } } : Shared) = s3
  have I3 : Inv X pins σ (upd H2 D (.dK [])) s3 := by
    rw [← hs3]
    refine I2.laid (t' := s2.toks) (fun b o e => Heap.get?_push_of_some _ e) (Nat.le_of_eq hD) ?_
    rw [← hD]
    exact dk_empty s2.heap I2.big
  have h3 : s3.heap = s2.heap.push { cls := .type "dict", data := .dict #[] } := by rw [← hs3]
  have sz : ∀ b ∈ fp, b < s2.heap.objs.size := fun b hb => by
    obtain ⟨o, e, _⟩ := T.obj _ _ st2 b hb
    exact Heap.lt_size e
  have f3 : ∀ b ∈ fp, FpOk X pins (upd H2 D (.dK [])) b ∧ b < s3.heap.objs.size := fun b hb => by
    have hlt := sz b hb
    refine ⟨⟨?_, (f2 b hb).2⟩, by rw [h3, Heap.size_push]; exact Nat.lt_succ_of_lt hlt⟩
    rw [upd_ne (by rw [← hD]; exact Nat.ne_of_lt hlt)]
    exact (f2 b hb).1
  have st3 : tn 0 s3.heap := T.keep _ _ _ st2 fun b _ o e => by rw [h3]; exact Heap.get?_push_of_some _ e
  have I4 := block_start I3 ok hN f3
  have pg := hg s3 (upd H2 D (.dK [])) s3.heap.objs.size (cellsFrom (s3.heap.objs.size + 1) scope.names (cloFrom X.env.cells scope.names [])) fp
  have pt := ht s3 (upd H2 D (.dK [])) s3.heap.objs.size (cellsFrom (s3.heap.objs.size + 1) scope.names (cloFrom X.env.cells scope.names [])) fp
  have pk := hk s3 (upd H2 D (.dK [])) s3.heap.objs.size (cellsFrom (s3.heap.objs.size + 1) scope.names (cloFrom X.env.cells scope.names [])) fp
  have pe := he s3 (upd H2 D (.dK [])) s3.heap.objs.size (cellsFrom (s3.heap.objs.size + 1) scope.names (cloFrom X.env.cells scope.names [])) fp
  have pi1 := hi1 s3 (upd H2 D (.dK [])) s3.heap.objs.size (cellsFrom (s3.heap.objs.size + 1) scope.names (cloFrom X.env.cells scope.names [])) fp
  have pg1 := hg1 s3 (upd H2 D (.dK [])) s3.heap.objs.size (cellsFrom (s3.heap.objs.size + 1) scope.names (cloFrom X.env.cells scope.names [])) fp
  have pt1 := ht1 s3 (upd H2 D (.dK [])) s3.heap.objs.size (cellsFrom (s3.heap.objs.size + 1) scope.names (cloFrom X.env.cells scope.names [])) fp
  show codeAny _ _ (.compStart (.DictComp kx vx [⟨tg, iter, ifs, 0⟩, ⟨tg1, iter1, ifs1, 0⟩] scope pos) 0 (.ref it) (.ref D) (compEnvC scope (cellsFrom (s3.heap.objs.size + 1) scope.names (cloFrom X.env.cells scope.names [])) s3.heap.objs.size X.env)) (compPost (model X.prog X.w) X.A X.xe use Qf (.ref D) s3.heap.objs.size) { s3 with heap := pushCells (s3.heap.push { cls := .type "dict", data := .dict #[] }) scope.names }
  have offp : ∀ b ∈ fp, (upd H2 D (.dK [])) b = none := fun b hb => (f3 b hb).1.1
  generalize hce : compEnvC scope (cellsFrom (s3.heap.objs.size + 1) scope.names (cloFrom X.env.cells scope.names [])) s3.heap.objs.size X.env = ce at I4 pg pt pk pe pi1 pg1 pt1 ⊢
  have cL : ce.locals = s3.heap.objs.size := by subst hce; rfl
  generalize hH3 : upd H2 D (.dK []) = H3 at I3 I4 pg pt pk pe pi1 pg1 pt1 w0 offp f3
  generalize hs4 : ({ s3 with heap := pushCells (s3.heap.push { cls := .type "dict", data := .dict #[] }) scope.names } : Shared) = s4 at I4 ⊢
  have st4 : tn 0 s4.heap := T.keep _ _ _ st3 fun b _ o e => by rw [← hs4]; exact pushCells_keeps _ _ _ _ (Heap.get?_push_of_some _ e)
  have quiet : ∀ {σ' : L2.St} {H' : Hp} {s' : Shared}, Inv (X.blk s3 H3 scope ce fp) [] σ' H' s' → (∀ b ∈ fp, H' b = none) → ∀ b ∈ fp, FpOk (X.blk s3 H3 scope ce fp) [] H' b := fun {σ' H' s'} I' hn b hb =>
    ⟨hn b hb, (I'.ok.exf b hb).1, I'.ok.exfs b hb, .inl hb, fun x c e => (I'.ok.exf b hb).2 x c e, fun p hp => absurd (show p ∈ ([] : List (Addr × Obj)) ++ [] from hp) (by simp)⟩
  have loop : codeAny (model X.prog X.w) X.A (.compLoop (.DictComp kx vx [⟨tg, iter, ifs, 0⟩, ⟨tg1, iter1, ifs1, 0⟩] scope pos) 0 (.ref it) (.ref D) ce) (compPost (model X.prog X.w) X.A X.xe use Qf (.ref D) s3.heap.objs.size) s4 := by
    refine dcompLoop2_out (hs1 ce) (fun n s' => ∃ i H', Inv (X.blk s3 H3 scope ce fp) [] (wipe σ (own.map (·.2))) H' s' ∧ tn i s'.heap ∧ (∀ b ∈ fp, H' b = none) ∧ W i n H') ?_ m0 ⟨0, H3, I4, st4, offp, w0⟩
    rintro n s5 ⟨i, H5, I5, st5, n5, w5⟩
    rcases turn i n H5 w5 with ⟨stop, qq⟩ | ⟨go, Nx, hNx, step⟩
    · have td := T.done (X.blk s3 H3 scope ce fp) rfl rfl rfl hc i [] s5 _ H5 (fun _ _ => False) I5 (quiet I5 n5) st5 stop
      refine thnF td fun r s6 ⟨hr, I6⟩ => ?_
      subst hr
      -- back in the def's context
      have I7 : Inv X pins σ H5 s6 := I3.call' (ch := fp) I6.os I6.base I6.hok I6.bare fun b hb => ⟨(f3 b hb).1.2.2.2.1, (f3 b hb).1.2.1, (f3 b hb).1.2.2.2.2.1, (f3 b hb).1.2.2.2.2.2⟩
      have nC : H5 s3.heap.objs.size = none := by
        have z : H5 ce.locals = none := I6.free
        rw [cL] at z
        exact z
      obtain ⟨m, hn, _⟩ := I6.loc
      have hn : s6.heap.Ns ce.locals m := hn
      rw [cL] at hn
      exact hback D s3.heap.objs.size s6 m H5 I7 qq hn (I3.fpOk (Nat.le_refl _) nC)
    · have ti := T.item (X.blk s3 H3 scope ce fp) rfl rfl rfl hc i [] s5 _ H5 (fun _ _ => False) I5 (quiet I5 n5) st5 go
      refine thnF ti fun r s6 ⟨u, hr, h6⟩ => ?_
      subst hr
      refine thnF h6 fun _ s7 ⟨x, H7, I7, r7, y7, st7, n7⟩ => ?_
      have I7' := I7.pinned (quiet I7 n7) (T.obj _ _ st7)
      refine thnF (pg.run _ s7 _ H7 x u _ I7' r7 (step x H7 y7)) fun _ s8 ⟨σ8, H8, I8, hw8, q8⟩ => ?_
      refine thnF (pt.run _ s8 σ8 H8 _ I8 q8) fun b s9 ⟨H9, I9, q9⟩ => ?_
      -- the turn's end, from any slots that know what the block knew at its start
      have shut : ∀ {σ9 : L2.St} {s' : Shared} {H' : Hp}, Inv (X.blk s3 H3 scope ce fp) ([] ++ pinsAt fp s7.heap) σ9 H' s' → (wipe σ (own.map (·.2))).length = σ9.length → (∀ (j : Nat) v, (wipe σ (own.map (·.2)))[j]? = some (some v) → σ9[j]? = some (some v)) → Nx H' →
          ∃ m, m < n ∧ ∃ i H', Inv (X.blk s3 H3 scope ce fp) [] (wipe σ (own.map (·.2))) H' s' ∧ tn i s'.heap ∧ (∀ b ∈ fp, H' b = none) ∧ W i m H' := fun {σ9 s' H'} I' hl hk nx => by
        obtain ⟨m', hm, w'⟩ := hNx H' nx
        have kept : ∀ b ∈ fp, ∀ o, s7.heap.get? b = some o → s'.heap.get? b = some o ∧ H' b = none := fun b hb o e =>
          let z := I'.pin (b, o) (List.mem_append_right _ (List.mem_append_right _ (mem_pinsAt hb e)))
          ⟨z.1, z.2.1⟩
        refine ⟨m', hm, i + 1, H', (I'.unpinned (pins := [])).weak hl hk, T.keep _ _ _ st7 fun b hb o e => (kept b hb o e).1, fun b hb => ?_, w'⟩
        obtain ⟨o, e, _⟩ := T.obj _ _ st7 b hb
        exact (kept b hb o e).2
      have len8 : (wipe σ (own.map (·.2))).length = σ8.length := by rw [← hw8, wipe_length]
      have know8 : ∀ (j : Nat) v, (wipe σ (own.map (·.2)))[j]? = some (some v) → σ8[j]? = some (some v) := fun j v e => by
        rw [← hw8] at e
        exact (wipe_some e).1
      have know9 : ∀ (j : Nat) v, (wipe σ (own.map (·.2)))[j]? = some (some v) → (wipe σ8 vs1)[j]? = some (some v) := fun j v e => by
        rw [← hw8] at e
        obtain ⟨e1, e2⟩ := wipe_some e
        rw [wipe_out fun z => e2 (hv j z)]
        exact e1
      cases b with
      | false =>
        simp only [Bool.false_eq_true, if_false] at q9 ⊢
        exact shut I9 len8 know8 q9
      | true =>
        simp only [if_true] at q9 ⊢
        refine thnF (pi1.run _ s9 σ8 H9 _ I9 q9) fun srcv s10 hx => thnF hx fun itval s11 h11 => ?_
        obtain ⟨it1, fp1, tn1, J1, H11, e1, I11, T1, st11, f11, W1, ⟨m1, w1⟩, turn1⟩ := h11
        subst e1
        -- the inner loop
        have quiet1 : ∀ {H' : Hp}, (∀ b ∈ fp1, H' b = none) → ∀ b ∈ fp1, FpOk (X.blk s3 H3 scope ce fp) ([] ++ pinsAt fp s7.heap) H' b := fun hn b hb => ⟨hn b hb, (f11 b hb).2⟩
        have inner : codeAny (model X.prog X.w) X.A (.compLoop (.DictComp kx vx [⟨tg, iter, ifs, 0⟩, ⟨tg1, iter1, ifs1, 0⟩] scope pos) 1 (.ref it1) (.ref D) ce)
            (fun r s' => match r with
              | .ok _ => ∃ m, m < n ∧ ∃ i H', Inv (X.blk s3 H3 scope ce fp) [] (wipe σ (own.map (·.2))) H' s' ∧ tn i s'.heap ∧ (∀ b ∈ fp, H' b = none) ∧ W i m H'
              | .error _ => False) s11 := by
          refine dcompLoop2_in (fun k s' => ∃ j H', Inv (X.blk s3 H3 scope ce fp) ([] ++ pinsAt fp s7.heap) (wipe σ8 vs1) H' s' ∧ tn1 j s'.heap ∧ (∀ b ∈ fp1, H' b = none) ∧ W1 j k H') ?_ m1 ⟨0, H11, I11.weak (wipe_length _ _) (fun j v e => (wipe_some e).1), st11, fun b hb => (f11 b hb).1, w1⟩
          rintro k s12 ⟨j, H12, I12, st12, n12, w12⟩
          rcases turn1 j k H12 w12 with ⟨stop1, nx1⟩ | ⟨go1, Nx1, hNx1, step1⟩
          · refine thnF (T1.done (X.blk s3 H3 scope ce fp) rfl rfl rfl hc j _ s12 (wipe σ8 vs1) H12 (fun _ _ => False) I12 (quiet1 n12) st12 stop1) fun r s13 ⟨hr, I13⟩ => ?_
            subst hr
            exact shut I13 (len8.trans (wipe_length σ8 vs1).symm) know9 nx1
          · refine thnF (T1.item (X.blk s3 H3 scope ce fp) rfl rfl rfl hc j _ s12 (wipe σ8 vs1) H12 (fun _ _ => False) I12 (quiet1 n12) st12 go1) fun r s13 ⟨u1, hr, h13⟩ => ?_
            subst hr
            refine thnF h13 fun _ s14 ⟨x1, H14, I14, r14, y14, st14, n14⟩ => ?_
            have I14' := I14.pinned (quiet1 n14) (T1.obj _ _ st14)
            refine thnF (pg1.run _ s14 (wipe σ8 vs1) H14 x1 u1 _ I14' r14 (step1 x1 H14 y14)) fun _ s15 ⟨σ15, H15, I15, hw15, q15⟩ => ?_
            refine thnF (pt1.run _ s15 σ15 H15 _ I15 q15) fun b1 s16 ⟨H16, I16, q16⟩ => ?_
            have shut1 : ∀ {s' : Shared} {H' : Hp}, Inv (X.blk s3 H3 scope ce fp) (([] ++ pinsAt fp s7.heap) ++ pinsAt fp1 s14.heap) σ15 H' s' → Nx1 H' → ∃ m, m < k ∧ ∃ j H', Inv (X.blk s3 H3 scope ce fp) ([] ++ pinsAt fp s7.heap) (wipe σ8 vs1) H' s' ∧ tn1 j s'.heap ∧ (∀ b ∈ fp1, H' b = none) ∧ W1 j m H' := fun {s' H'} I' nx => by
              obtain ⟨m', hm, w'⟩ := hNx1 H' nx
              have kept : ∀ b ∈ fp1, ∀ o, s14.heap.get? b = some o → s'.heap.get? b = some o ∧ H' b = none := fun b hb o e =>
                let z := I'.pin (b, o) (List.mem_append_right _ (List.mem_append_right _ (mem_pinsAt hb e)))
                ⟨z.1, z.2.1⟩
              refine ⟨m', hm, j + 1, H', I'.unpinned.weak (by rw [← hw15, wipe_length]) (fun j v e => by rw [← hw15] at e; exact (wipe_some e).1), T1.keep _ _ _ st14 fun b hb o e => (kept b hb o e).1, fun b hb => ?_, w'⟩
              obtain ⟨o, e, _⟩ := T1.obj _ _ st14 b hb
              exact (kept b hb o e).2
            cases b1 with
            | false =>
              simp only [Bool.false_eq_true, if_false] at q16 ⊢
              exact shut1 I16 q16
            | true =>
              simp only [if_true] at q16 ⊢
              refine thnF (pk.run _ s16 σ15 H16 _ I16 q16) fun z s17 ⟨yk, H17, I17, r17, q17⟩ => ?_
              refine thnF (pe.run _ s17 σ15 H17 _ I17 q17) fun z2 s18 ⟨yv, H18, I18, r18, kvs, k1, ek, hD18, hz18, nx⟩ => ?_
              subst ek
              exact d_dictSet (X := X.blk s3 H3 scope ce fp) I18 hD18 hz18 r17 r18 fun s19 I19 => shut1 I19 nx
        exact dcompStart1_ok inner (T1.self X.A 0 _ _ _ st11 inner)
  exact codeAny_compStart_dict loop (T.self X.A 0 _ _ _ st4 loop)
theorem pe_dc2 {kx vx tg iter tg1 iter1 : Expr} {ifs ifs1 : List Expr} {scope : Scope} {own : List (Str × Nat)} {vs1 : List Nat} {pos : Pos} {wi wi1 : TI} {g g1 : TG} {tt tt1 : TT} {tk tv : TE} (hc : X.calm = true) (hN : X.N.Nodup) (hi : PI X tg iter wi) (ok : BlkOk X.N X.env.scope scope own) (hv : ∀ i ∈ vs1, i ∈ own.map (·.2))
    (hg : ∀ (s : Shared) (H : Hp) (C : Addr) (cl : List (Str × Addr)) (fp : List Addr), PG (X.blk s H scope (compEnvC scope cl C X.env) fp) tg g) (ht : ∀ (s : Shared) (H : Hp) (C : Addr) (cl : List (Str × Addr)) (fp : List Addr), PTs (X.blk s H scope (compEnvC scope cl C X.env) fp) ifs tt)
    (hi1 : ∀ (s : Shared) (H : Hp) (C : Addr) (cl : List (Str × Addr)) (fp : List Addr), PI (X.blk s H scope (compEnvC scope cl C X.env) fp) tg1 iter1 wi1)
    (hg1 : ∀ (s : Shared) (H : Hp) (C : Addr) (cl : List (Str × Addr)) (fp : List Addr), PG (X.blk s H scope (compEnvC scope cl C X.env) fp) tg1 g1) (ht1 : ∀ (s : Shared) (H : Hp) (C : Addr) (cl : List (Str × Addr)) (fp : List Addr), PTs (X.blk s H scope (compEnvC scope cl C X.env) fp) ifs1 tt1)
    (hk : ∀ (s : Shared) (H : Hp) (C : Addr) (cl : List (Str × Addr)) (fp : List Addr), PE (X.blk s H scope (compEnvC scope cl C X.env) fp) kx tk) (he : ∀ (s : Shared) (H : Hp) (C : Addr) (cl : List (Str × Addr)) (fp : List Addr), PE (X.blk s H scope (compEnvC scope cl C X.env) fp) vx tv) (hs : ∀ x, foldedSetIterable iter X.env x = pure x := by intro _; rfl) (hs1 : ∀ env x, foldedSetIterable iter1 env x = pure x := by intro _ _; rfl) :
    PE X (.DictComp kx vx [⟨tg, iter, ifs, 0⟩, ⟨tg1, iter1, ifs1, 0⟩] scope pos) (tDc2 wi g tt wi1 g1 tt1 tk tv (own.map (·.2)) vs1) := by
  refine ⟨fun pins s σ H Q I h => ?_⟩
  rw [arm_eval_DictComp]
  refine dc2_core hc hN I hi ok hv hg ht hk he hs hi1 hg1 ht1 hs1 h fun D C s' m H' I' q hn f => ⟨m, hn, fun h'' sb => ?_⟩
  obtain ⟨f0, f1, f2, f3, f4, f5⟩ := f
  exact ⟨.ref D, H', I'.turned (t' := s'.toks) (fun b o hb e => (sb.2 b hb).trans e) f0 f1 f3 f4 f5, rfl, q⟩

end
section
variable {X : Cx} (K : PySem.W.Frag)
theorem pgTK {es : List Expr} {k : Nat} {pos : Pos} {t : TGs} (n : Nat) (h : PGs X es t) (hc : X.calm = true := by rfl) (hK : X.K = K := by rfl) (hn : (assignEach es X.env).length = n := by rfl) (hst : (assignEach es X.env).findIdx? (·.1) = none := by rfl) : PG X (.Tuple es k pos) (gTup K n t) := by
  subst hK
  exact pg_tup hc h hn hst
theorem piTK {tg l : Expr} {tl : TE} (hl : PE X l tl) (hK : X.K = K := by rfl) : PI X tg l (iTup K tl) := by
  subst hK
  exact pi_tup hl
theorem piLK {tg l : Expr} {tl : TE} (hl : PE X l tl) (hK : X.K = K := by rfl) : PI X tg l (iList K tl) := by
  subst hK
  exact pi_list hl
end
end Bx

/-! Lowering along literals again and again: values, or a ring. Plain mathematics. -/
namespace Bf
universe u
variable {T : Type u} [DecidableEq T]
abbrev Lit (T : Type u) := T × T × Int
/-- heights, what each was lowered by -/
structure Sta (T : Type u) where
  h : T → Int
  by_ : T → Option Nat
  low : Option T
def put {α : Type} (f : T → α) (t : T) (v : α) : T → α := fun x => if x = t then v else f x
theorem put_self {α : Type} (f : T → α) (t : T) (v : α) : put f t v t = v := if_pos rfl
theorem put_ne {α : Type} {f : T → α} {t x : T} {v : α} (h : x ≠ t) : put f t v x = f x := if_neg h
/-- one literal looked at -/
def one (s : Sta T) (at_ : Nat) (q : Lit T) : Sta T :=
  if s.h q.2.1 + q.2.2 < s.h q.1 then ⟨put s.h q.1 (s.h q.2.1 + q.2.2), put s.by_ q.1 (some at_), some q.1⟩ else s
/-- the first k literals of a pass -/
def some_ (L : List (Lit T)) (s : Sta T) : Nat → Sta T
  | 0 => s
  | k + 1 => match L[k]? with
    | some q => one (some_ L s k) k q
    | none => some_ L s k
def pass (L : List (Lit T)) (s : Sta T) : Sta T := some_ L { s with low := none } L.length
def passes (L : List (Lit T)) : Nat → Sta T
  | 0 => ⟨fun _ => 0, fun _ => none, none⟩
  | k + 1 => pass L (passes L k)
def num (L : List (Lit T)) (i : Nat) : Int := match L[i]? with
  | some q => q.2.2
  | none => 0
def tot (L : List (Lit T)) : List Nat → Int
  | [] => 0
  | i :: is => num L i + tot L is
/-- a way back along what terms were lowered by -/
inductive Pth (L : List (Lit T)) (b : T → Option Nat) : T → List Nat → T → Prop
  | nil (t : T) : Pth L b t [] t
  | cons {t r : T} {n : Int} {i : Nat} {is : List Nat} {e : T} (hb : b t = some i) (hL : L[i]? = some (t, r, n)) (p : Pth L b r is e) : Pth L b t (i :: is) e
structure Good (L : List (Lit T)) (s : Sta T) : Prop where
  own : ∀ t i, s.by_ t = some i → ∃ r n, L[i]? = some (t, r, n) ∧ s.h r + n ≤ s.h t
  root : ∀ t, s.by_ t = none → s.h t = 0
  le0 : ∀ t, s.h t ≤ 0
  ring : ∀ t is, is ≠ [] → Pth L s.by_ t is t → tot L is < 0
theorem num_at {L : List (Lit T)} {i : Nat} {q : Lit T} (h : L[i]? = some q) : num L i = q.2.2 := by
  unfold num
  rw [h]
theorem pth_le {L : List (Lit T)} {b : T → Option Nat} {h : T → Int} (own : ∀ t i, b t = some i → ∃ r n, L[i]? = some (t, r, n) ∧ h r + n ≤ h t) {t : T} {is : List Nat} {e : T} (p : Pth L b t is e) : tot L is + h e ≤ h t := by
  induction p with
  | nil t => simp [tot]
  | @cons t r n i is e hb hL p ih =>
    obtain ⟨r', n', h1, h2⟩ := own t i hb
    have e1 : (t, r, n) = (t, r', n') := Option.some.inj (hL.symm.trans h1)
    have e2 : r = r' := congrArg (fun x => x.2.1) e1
    have e3 : n = n' := congrArg (fun x => x.2.2) e1
    subst e2 e3
    have e4 : num L i = n := num_at hL
    simp only [tot]
    rw [e4]
    omega
/-- a way by the new table: an old one, or strictly lower -/
theorem pth_new {L : List (Lit T)} {s : Sta T} (G : Good L s) {l r : T} {n : Int} {i0 : Nat} (h0 : L[i0]? = some (l, r, n)) (hlt : s.h r + n < s.h l) {t : T} {is : List Nat} {e : T} (p : Pth L (put s.by_ l (some i0)) t is e) :
    (Pth L s.by_ t is e ∧ tot L is + s.h e ≤ s.h t) ∨ tot L is + s.h e < s.h t := by
  induction p with
  | nil t => exact .inl ⟨.nil t, by simp [tot]⟩
  | @cons t r' n' i is e hb hL p ih =>
    have e4 : num L i = n' := num_at hL
    simp only [tot]
    rw [e4]
    by_cases q : t = l
    · subst q
      rw [put_self] at hb
      cases hb
      have e1 : (t, r', n') = (t, r, n) := Option.some.inj (hL.symm.trans h0)
      have e2 : r' = r := congrArg (fun x => x.2.1) e1
      have e3 : n' = n := congrArg (fun x => x.2.2) e1
      subst e2 e3
      right
      rcases ih with ⟨_, h⟩ | h <;> omega
    · rw [put_ne q] at hb
      obtain ⟨r2, n2, h1, h2⟩ := G.own t i hb
      have e1 : (t, r', n') = (t, r2, n2) := Option.some.inj (hL.symm.trans h1)
      have e2 : r' = r2 := congrArg (fun x => x.2.1) e1
      have e3 : n' = n2 := congrArg (fun x => x.2.2) e1
      subst e2 e3
      rcases ih with ⟨p', h⟩ | h
      · exact .inl ⟨.cons hb hL p', by omega⟩
      · right
        omega
theorem one_good {L : List (Lit T)} {s : Sta T} (G : Good L s) {i : Nat} {q : Lit T} (hq : L[i]? = some q) : Good L (one s i q) := by
  unfold one
  split
  · rename_i hlt
    obtain ⟨l, r, n⟩ := q
    simp only at hlt hq ⊢
    refine ⟨fun t j hb => ?_, fun t hb => ?_, fun t => ?_, fun t is hne p => ?_⟩
    · by_cases e : t = l
      · subst e
        simp only [put_self] at hb ⊢
        cases hb
        refine ⟨r, n, hq, ?_⟩
        by_cases e2 : r = t
        · subst e2
          rw [put_self]
          omega
        · rw [put_ne e2]
          exact Int.le_refl _
      · simp only [put_ne e] at hb ⊢
        obtain ⟨r2, n2, h1, h2⟩ := G.own t j hb
        refine ⟨r2, n2, h1, ?_⟩
        by_cases e2 : r2 = l
        · subst e2
          rw [put_self]
          omega
        · rw [put_ne e2]
          exact h2
    · by_cases e : t = l
      · subst e
        simp only [put_self] at hb
        cases hb
      · simp only [put_ne e] at hb ⊢
        exact G.root t hb
    · by_cases e : t = l
      · subst e
        simp only [put_self]
        have := G.le0 t
        omega
      · simp only [put_ne e]
        exact G.le0 t
    · rcases pth_new G hq hlt p with ⟨p', _⟩ | h
      · exact G.ring t is hne p'
      · omega
  · exact G
theorem some_succ {L : List (Lit T)} {s : Sta T} {k : Nat} {q : Lit T} (h : L[k]? = some q) : some_ L s (k + 1) = one (some_ L s k) k q := by
  rw [some_, h]
theorem some_good {L : List (Lit T)} {s : Sta T} (G : Good L s) : ∀ k, Good L (some_ L s k)
  | 0 => G
  | k + 1 => by
    have ih := some_good G k
    unfold some_
    cases h : L[k]? with
    | none => exact ih
    | some q => exact one_good ih h
theorem good_low {L : List (Lit T)} {s : Sta T} (G : Good L s) (o : Option T) : Good L { s with low := o } := ⟨G.own, G.root, G.le0, G.ring⟩
theorem passes_good (L : List (Lit T)) : ∀ k, Good L (passes L k)
  | 0 => ⟨fun t i h => (by cases h), fun _ _ => rfl, fun _ => Int.le_refl _, fun t is hne p => by
      cases p with
      | nil => exact absurd rfl hne
      | cons hb => cases hb⟩
  | k + 1 => some_good (good_low (passes_good L k) none) _
/-! ### a pass -/
theorem one_le (s : Sta T) (i : Nat) (q : Lit T) (t : T) : (one s i q).h t ≤ s.h t := by
  unfold one
  split
  · by_cases e : t = q.1
    · subst e
      simp only [put_self]
      omega
    · simp only [put_ne e]
      exact Int.le_refl _
  · exact Int.le_refl _
theorem one_done (s : Sta T) (i : Nat) (q : Lit T) : (one s i q).h q.1 ≤ s.h q.2.1 + q.2.2 := by
  unfold one
  split
  · simp only [put_self]
    exact Int.le_refl _
  · omega
theorem some_le {L : List (Lit T)} {s : Sta T} (t : T) : ∀ k, (some_ L s k).h t ≤ s.h t
  | 0 => Int.le_refl _
  | k + 1 => by
    have ih := some_le (L := L) (s := s) t k
    unfold some_
    cases h : L[k]? with
    | none => exact ih
    | some q => exact Int.le_trans (one_le _ _ _ _) ih
theorem some_done {L : List (Lit T)} {s : Sta T} {i : Nat} {q : Lit T} (hq : L[i]? = some q) : ∀ k, i < k → (some_ L s k).h q.1 ≤ s.h q.2.1 + q.2.2
  | 0, h => absurd h (Nat.not_lt_zero i)
  | k + 1, h => by
    unfold some_
    by_cases e : i = k
    · subst e
      rw [hq]
      show (one (some_ L s i) i q).h q.1 ≤ _
      have h1 := one_done (some_ L s i) i q
      have h2 := some_le (L := L) (s := s) q.2.1 i
      omega
    · have ih := some_done (s := s) hq k (by omega)
      cases h' : L[k]? with
      | none => exact ih
      | some q' => exact Int.le_trans (one_le _ _ _ _) ih
/-- nothing lowered: all is as it was and all looked at hold -/
theorem some_none {L : List (Lit T)} {s : Sta T} (h0 : s.low = none) : ∀ k, (some_ L s k).low = none → (some_ L s k) = s ∧ ∀ i q, i < k → L[i]? = some q → s.h q.1 ≤ s.h q.2.1 + q.2.2
  | 0, _ => ⟨rfl, fun i q h => absurd h (Nat.not_lt_zero i)⟩
  | k + 1, h => by
    unfold some_ at h ⊢
    cases h' : L[k]? with
    | none =>
      rw [h'] at h
      obtain ⟨e, ih⟩ := some_none h0 k h
      refine ⟨e, fun i q hi hq => ?_⟩
      by_cases e2 : i = k
      · subst e2
        rw [h'] at hq
        cases hq
      · exact ih i q (by omega) hq
    | some q0 =>
      rw [h'] at h
      simp only at h ⊢
      have hn : (some_ L s k).low = none ∧ ¬ ((some_ L s k).h q0.2.1 + q0.2.2 < (some_ L s k).h q0.1) := by
        unfold one at h
        split at h
        · cases h
        · exact ⟨h, by assumption⟩
      obtain ⟨e, ih⟩ := some_none h0 k hn.1
      rw [e] at hn ⊢
      refine ⟨by unfold one; rw [if_neg hn.2], fun i q hi hq => ?_⟩
      by_cases e2 : i = k
      · subst e2
        rw [h'] at hq
        cases hq
        omega
      · exact ih i q (by omega) hq
/-- what was lowered last is lower, and told with what it was lowered by -/
theorem some_low {L : List (Lit T)} {s : Sta T} (h0 : s.low = none) {t : T} : ∀ k, (some_ L s k).low = some t → (some_ L s k).h t < s.h t ∧ (some_ L s k).by_ t ≠ none
  | 0, h => by
    rw [show some_ L s 0 = s from rfl, h0] at h
    cases h
  | k + 1, h => by
    unfold some_ at h ⊢
    cases h' : L[k]? with
    | none =>
      rw [h'] at h
      exact some_low h0 k h
    | some q0 =>
      rw [h'] at h
      simp only at h ⊢
      unfold one at h ⊢
      split at h
      · rename_i hlt
        rw [if_pos hlt]
        simp only at h
        cases h
        simp only [put_self]
        have := some_le (L := L) (s := s) q0.1 k
        exact ⟨by omega, by simp⟩
      · rename_i hlt
        rw [if_neg hlt]
        exact some_low h0 k h
theorem pass_le (L : List (Lit T)) (s : Sta T) (t : T) : (pass L s).h t ≤ s.h t := some_le (L := L) (s := { s with low := none }) t _
theorem pass_done {L : List (Lit T)} {s : Sta T} {i : Nat} {q : Lit T} (hq : L[i]? = some q) : (pass L s).h q.1 ≤ s.h q.2.1 + q.2.2 := some_done (s := { s with low := none }) hq _ (List.getElem?_eq_some_iff.mp hq).1
theorem passes_mono (L : List (Lit T)) (t : T) {j : Nat} : ∀ {k : Nat}, j ≤ k → (passes L k).h t ≤ (passes L j).h t
  | 0, h => by
    have e : j = 0 := by omega
    subst e
    exact Int.le_refl _
  | k + 1, h => by
    by_cases e : j = k + 1
    · subst e
      exact Int.le_refl _
    · exact Int.le_trans (pass_le _ _ _) (passes_mono L t (by omega))
/-- after as many passes as a way has steps, its end is no more above its begin than it says -/
theorem passes_way {L : List (Lit T)} {b : T → Option Nat} {t : T} {is : List Nat} {e : T} (p : Pth L b t is e) : (passes L is.length).h t ≤ tot L is := by
  induction p with
  | nil t => exact Int.le_refl _
  | @cons t r n i is e hb hL p ih =>
    have h1 := pass_done (s := passes L is.length) hL
    have e4 : num L i = n := num_at hL
    simp only [tot]
    rw [e4]
    show (pass L (passes L is.length)).h t ≤ _
    simp only at h1
    omega
/-! ### the ring -/
def nxt (L : List (Lit T)) (b : T → Option Nat) (t : T) : T := match b t with
  | some i => (match L[i]? with
    | some q => q.2.1
    | none => t)
  | none => t
def itr (L : List (Lit T)) (b : T → Option Nat) (t : T) : Nat → T
  | 0 => t
  | k + 1 => nxt L b (itr L b t k)
theorem itr_add (L : List (Lit T)) (b : T → Option Nat) (t : T) (i : Nat) : ∀ k, itr L b t (i + k) = itr L b (itr L b t i) k
  | 0 => rfl
  | k + 1 => congrArg (nxt L b) (itr_add L b t i k)
theorem nxt_at {L : List (Lit T)} {b : T → Option Nat} {t r : T} {n : Int} {i : Nat} (hb : b t = some i) (hL : L[i]? = some (t, r, n)) : nxt L b t = r := by
  unfold nxt
  rw [hb]
  show (match L[i]? with
    | some q => q.2.1
    | none => t) = r
  rw [hL]
theorem pth_itr {L : List (Lit T)} {s : Sta T} (G : Good L s) : ∀ (k : Nat) (t : T), (∀ j, j < k → s.by_ (itr L s.by_ t j) ≠ none) → ∃ is, is.length = k ∧ Pth L s.by_ t is (itr L s.by_ t k) ∧ ∀ j, j < k → is[j]? = s.by_ (itr L s.by_ t j)
  | 0, t, _ => ⟨[], rfl, .nil t, fun j h => absurd h (Nat.not_lt_zero j)⟩
  | k + 1, t, h => by
    obtain ⟨i, hi⟩ := Option.ne_none_iff_exists'.mp (h 0 (Nat.succ_pos k))
    obtain ⟨r, n, hL, _⟩ := G.own t i hi
    have en : nxt L s.by_ t = r := nxt_at hi hL
    have e : ∀ j, itr L s.by_ t (j + 1) = itr L s.by_ r j := fun j => by
      rw [Nat.add_comm, itr_add]
      show itr L s.by_ (nxt L s.by_ t) j = _
      rw [en]
    obtain ⟨is, hl, hp, ha⟩ := pth_itr G k r fun j hj => by
      rw [← e]
      exact h (j + 1) (Nat.succ_lt_succ hj)
    refine ⟨i :: is, by rw [List.length_cons, hl], ?_, fun j hj => ?_⟩
    · rw [e]
      exact .cons hi hL hp
    · cases j with
      | zero => exact hi.symm
      | succ j =>
        rw [e]
        exact ha j (by omega)
theorem nodup_map_range {f : Nat → T} {k : Nat} (h : ∀ i j, i < k → j < k → f i = f j → i = j) : ((List.range k).map f).Nodup := by
  rw [List.nodup_iff_pairwise_ne, List.pairwise_map]
  refine List.Pairwise.imp_of_mem ?_ List.nodup_range
  intro a b ha hb hne e
  exact hne (h a b (List.mem_range.mp ha) (List.mem_range.mp hb) e)
theorem len_le : ∀ {xs ys : List T}, xs.Nodup → (∀ k ∈ xs, k ∈ ys) → xs.length ≤ ys.length
  | [], _, _, _ => Nat.zero_le _
  | a :: o, ys, nd, h => by
    have ha : a ∈ ys := h a List.mem_cons_self
    have hn := List.nodup_cons.mp nd
    have e : o.length ≤ (ys.erase a).length := len_le hn.2 fun k hk => (List.mem_erase_of_ne (fun q => hn.1 (by rw [← q]; exact hk))).mpr (h k (List.mem_cons_of_mem _ hk))
    have e2 : (ys.erase a).length = ys.length - 1 := List.length_erase_of_mem ha
    have hp : 0 < ys.length := List.length_pos_of_mem ha
    rw [List.length_cons]
    omega
/-- where a pass more than there are terms still lowers, the way back from what was lowered has no end -/
theorem no_root {L : List (Lit T)} {ks : List T} (hks : ∀ q ∈ L, q.1 ∈ ks ∧ q.2.1 ∈ ks) {t : T} (hl : (passes L (ks.length + 1)).low = some t) : ∀ k, (passes L (ks.length + 1)).by_ (itr L (passes L (ks.length + 1)).by_ t k) ≠ none := by
  have G := passes_good L (ks.length + 1)
  generalize hs : passes L (ks.length + 1) = s at *
  have low : s.h t < (passes L ks.length).h t := by
    rw [← hs] at hl ⊢
    exact (some_low (s := { passes L ks.length with low := none }) rfl _ hl).1
  intro k
  induction k using Nat.strongRecOn with
  | _ k ih =>
    intro hn
    obtain ⟨is, hlen, hp, _⟩ := pth_itr G k t fun j hj => ih j hj
    -- the terms on the way are different
    have nd : ((List.range (k + 1)).map (itr L s.by_ t)).Nodup := by
      have key : ∀ i j, i < j → j < k + 1 → itr L s.by_ t i ≠ itr L s.by_ t j := fun i j hij hj e => by
        have e2 : itr L s.by_ t (i + (k - j)) = itr L s.by_ t k := by
          rw [itr_add, e, ← itr_add]
          congr 1
          omega
        exact ih (i + (k - j)) (by omega) (by rw [e2]; exact hn)
      refine nodup_map_range fun i j hi hj e => ?_
      rcases Nat.lt_trichotomy i j with h | h | h
      · exact absurd e (key i j h hj)
      · exact h
      · exact absurd e.symm (key j i h hi)
    have mem : ∀ x ∈ (List.range (k + 1)).map (itr L s.by_ t), x ∈ ks := fun x hx => by
      obtain ⟨j, hj, rfl⟩ := List.mem_map.mp hx
      have hj2 := List.mem_range.mp hj
      have src : ∀ j, j < k → itr L s.by_ t j ∈ ks ∧ itr L s.by_ t (j + 1) ∈ ks := fun j hj => by
        obtain ⟨i, hi⟩ := Option.ne_none_iff_exists'.mp (ih j hj)
        obtain ⟨r, n, hL, _⟩ := G.own _ i hi
        have hm := hks _ (List.mem_of_getElem? hL)
        refine ⟨hm.1, ?_⟩
        show nxt L s.by_ (itr L s.by_ t j) ∈ ks
        rw [nxt_at hi hL]
        exact hm.2
      cases k with
      | zero =>
        -- t itself has no root: it was lowered
        have hb : s.by_ t ≠ none := by
          rw [← hs] at hl ⊢
          exact (some_low (s := { passes L ks.length with low := none }) rfl _ hl).2
        exact absurd hn hb
      | succ k =>
        by_cases e : j = k + 1
        · subst e
          exact (src k (Nat.lt_succ_self k)).2
        · exact (src j (by omega)).1
    have hk : k + 1 ≤ ks.length := by
      have := len_le nd mem
      simpa using this
    have h1 := pth_le G.own hp
    have h2 := passes_way hp
    have h3 := passes_mono L t (show is.length ≤ ks.length by omega)
    have h4 := G.root _ hn
    omega
structure IsRing (L : List (Lit T)) (is : List Nat) (f : Nat → T) : Prop where
  ne : is ≠ []
  at_ : ∀ j, j < is.length → ∃ i n, is[j]? = some i ∧ L[i]? = some (f j, f (j + 1), n)
  back : f is.length = f 0
  inj : ∀ i j, i < is.length → j < is.length → f i = f j → i = j
  neg : tot L is < 0
theorem IsRing.nodup {L : List (Lit T)} {is : List Nat} {f : Nat → T} (R : IsRing L is f) : is.Nodup := by
  rw [List.nodup_iff_pairwise_ne, List.pairwise_iff_getElem]
  intro i j hi hj hij e
  obtain ⟨a, n, h1, h2⟩ := R.at_ i hi
  obtain ⟨b, m, h3, h4⟩ := R.at_ j hj
  rw [List.getElem?_eq_getElem hi] at h1
  rw [List.getElem?_eq_getElem hj] at h3
  have e1 : a = b := by
    have e1 := Option.some.inj h1
    have e2 := Option.some.inj h3
    rw [← e1, ← e2, e]
  subst e1
  have e2 := Option.some.inj (h2.symm.trans h4)
  have e3 : f i = f j := congrArg (fun x => x.1) e2
  have := R.inj i j hi hj e3
  omega
/-- after as many steps back as terms were lowered one stands on a ring -/
theorem on_ring {L : List (Lit T)} {s : Sta T} {bs : List T} (hbs : ∀ x, s.by_ x ≠ none → x ∈ bs) {t : T} (hn : ∀ k, s.by_ (itr L s.by_ t k) ≠ none) : ∃ d, 0 < d ∧ d ≤ bs.length ∧ itr L s.by_ t (bs.length + d) = itr L s.by_ t bs.length := by
  have h : ¬ ((List.range (bs.length + 1)).map (itr L s.by_ t)).Nodup := fun nd => by
    have := len_le nd (ys := bs) fun x hx => by
      obtain ⟨j, _, rfl⟩ := List.mem_map.mp hx
      exact hbs _ (hn j)
    simp at this
    omega
  have h2 : ∃ i j, i < j ∧ j < bs.length + 1 ∧ itr L s.by_ t i = itr L s.by_ t j := by
    refine Classical.byContradiction fun hc => h (nodup_map_range fun i j hi hj e => ?_)
    rcases Nat.lt_trichotomy i j with q | q | q
    · exact absurd ⟨i, j, q, hj, e⟩ hc
    · exact q
    · exact absurd ⟨j, i, q, hi, e.symm⟩ hc
  obtain ⟨i, j, hij, hj, e⟩ := h2
  refine ⟨j - i, by omega, by omega, ?_⟩
  have e1 : bs.length + (j - i) = j + (bs.length - i) := by omega
  have e2 : bs.length = i + (bs.length - i) := by omega
  rw [e1, itr_add, ← e, ← itr_add, ← e2]
theorem least {p : Nat → Prop} : ∀ n, p n → ∃ k, k ≤ n ∧ p k ∧ ∀ j, j < k → ¬ p j := by
  intro n
  induction n using Nat.strongRecOn with
  | _ n ih =>
    intro h
    by_cases q : ∃ j, j < n ∧ p j
    · obtain ⟨j, hj, hp⟩ := q
      obtain ⟨k, h1, h2, h3⟩ := ih j hj hp
      exact ⟨k, by omega, h2, h3⟩
    · exact ⟨n, Nat.le_refl n, h, fun j hj hp => q ⟨j, hj, hp⟩⟩
/-- the ring from where one stands: its least round -/
theorem ring_of {L : List (Lit T)} {s : Sta T} (G : Good L s) {x : T} (hn : ∀ k, s.by_ (itr L s.by_ x k) ≠ none) {c : Nat} (h0 : itr L s.by_ x (c + 1) = x) (hl : ∀ j, 0 < j → j ≤ c → itr L s.by_ x j ≠ x) {is : List Nat} (hlen : is.length = c + 1) (his : ∀ j, j ≤ c → is[j]? = s.by_ (itr L s.by_ x j)) :
    IsRing L is (itr L s.by_ x) where
  ne := fun e => by rw [e] at hlen; cases hlen
  at_ := fun j hj => by
    obtain ⟨i, hi⟩ := Option.ne_none_iff_exists'.mp (hn j)
    obtain ⟨r, n, hL, _⟩ := G.own _ i hi
    refine ⟨i, n, by rw [his j (by omega), hi], ?_⟩
    show L[i]? = some (itr L s.by_ x j, nxt L s.by_ (itr L s.by_ x j), n)
    rw [nxt_at hi hL]
    exact hL
  back := by rw [hlen]; exact h0
  inj := by
    have key : ∀ i j, i < j → j < c + 1 → itr L s.by_ x i ≠ itr L s.by_ x j := fun i j hij hj e => by
      have e2 : itr L s.by_ x (i + (c + 1 - j)) = x := by
        rw [itr_add, e, ← itr_add, show j + (c + 1 - j) = c + 1 by omega]
        exact h0
      exact hl (i + (c + 1 - j)) (by omega) (by omega) e2
    intro i j hi hj e
    rw [hlen] at hi hj
    rcases Nat.lt_trichotomy i j with q | q | q
    · exact absurd e (key i j q hj)
    · exact q
    · exact absurd e.symm (key j i q hi)
  neg := by
    obtain ⟨js, hl2, hp, ha⟩ := pth_itr G (c + 1) x fun j _ => hn j
    have e : js = is := by
      refine List.ext_getElem? fun j => ?_
      by_cases hj : j < c + 1
      · rw [ha j hj, his j (by omega)]
      · rw [List.getElem?_eq_none (by omega), List.getElem?_eq_none (by omega)]
    subst e
    rw [h0] at hp
    exact G.ring x js (fun e => by rw [e] at hl2; cases hl2) hp
end Bf

namespace Bx
open PySem PySem.Spec PyProof.Rows L2
/-! ### dicts over texts, as functions -/
def hk (ks : List Str) (h : Str → Int) : List (Key × V) := ks.map fun t => (Sum.inr t, V.int (h t))
def bk (bs : List Str) (b : Str → Option Nat) : List (Key × V) := bs.map fun t => (Sum.inr t, V.int (((b t).getD 0 : Nat) : Int))
def fk (ks : List Str) (v : Str → V) : List (Key × V) := ks.map fun t => (Sum.inr t, v t)
theorem fk_get {v : Str → V} {t : Str} : ∀ {ks : List Str}, t ∈ ks → valV (fk ks v) (Sum.inr t) = some (v t)
  | k :: ks, h => by
    by_cases e : k = t
    · subst e
      exact valV_pos rfl
    · show valV ((Sum.inr k, v k) :: fk ks v) _ = _
      rw [valV_neg (fun q => e (Sum.inr.inj q))]
      rcases List.mem_cons.mp h with q | q
      · exact absurd q.symm e
      · exact fk_get q
theorem fk_no {v : Str → V} {t : Str} : ∀ {ks : List Str}, t ∉ ks → valV (fk ks v) (Sum.inr t) = none
  | [], _ => rfl
  | k :: ks, h => by
    have e : ¬ k = t := fun q => h (q ▸ List.mem_cons_self)
    show valV ((Sum.inr k, v k) :: fk ks v) _ = _
    rw [valV_neg (fun q => e (Sum.inr.inj q))]
    exact fk_no fun q => h (List.mem_cons_of_mem _ q)
theorem fk_any {v : Str → V} {t : Str} {ks : List Str} : ((fk ks v).any fun kv => decide (kv.1 = Sum.inr t)) = decide (t ∈ ks) := by
  rw [Bool.eq_iff_iff, List.any_eq_true, decide_eq_true_eq]
  constructor
  · rintro ⟨p, hp, e⟩
    obtain ⟨k, hk, rfl⟩ := List.mem_map.mp hp
    have e := of_decide_eq_true e
    rw [← Sum.inr.inj e]
    exact hk
  · intro h
    exact ⟨(Sum.inr t, v t), List.mem_map_of_mem h, decide_eq_true rfl⟩
theorem fk_put {v : Str → V} {t : Str} {x : V} {ks : List Str} (h : t ∈ ks) : putK (fk ks v) (Sum.inr t) x = fk ks (fun k => if k = t then x else v k) := by
  unfold putK
  rw [fk_any, decide_eq_true h, if_pos rfl]
  unfold fk
  rw [List.map_map]
  refine List.map_congr_left fun k _ => ?_
  show (if (Sum.inr k : Key) = Sum.inr t then (Sum.inr k, x) else (Sum.inr k, v k)) = (Sum.inr k, if k = t then x else v k)
  by_cases e : k = t
  · rw [if_pos (congrArg Sum.inr e), if_pos e]
  · rw [if_neg (fun q => e (Sum.inr.inj q)), if_neg e]
theorem fk_new {v : Str → V} {t : Str} {x : V} {ks : List Str} (h : t ∉ ks) : putK (fk ks v) (Sum.inr t) x = fk (ks ++ [t]) (fun k => if k = t then x else v k) := by
  unfold putK
  rw [fk_any, decide_eq_false h, if_neg Bool.false_ne_true]
  unfold fk
  rw [List.map_append]
  congr 1
  · refine List.map_congr_left fun k hk => ?_
    have e : k ≠ t := fun q => h (q ▸ hk)
    simp only [if_neg e]
  · simp
theorem hk_get {h : Str → Int} {t : Str} {ks : List Str} (m : t ∈ ks) : valV (hk ks h) (Sum.inr t) = some (.int (h t)) := fk_get (v := fun t => V.int (h t)) m
theorem hk_put {h : Str → Int} {t : Str} {n : Int} {ks : List Str} (m : t ∈ ks) : putK (hk ks h) (Sum.inr t) (.int n) = hk ks (Bf.put h t n) := by
  refine (fk_put (v := fun t => V.int (h t)) m).trans ?_
  unfold fk hk
  refine List.map_congr_left fun k _ => ?_
  unfold Bf.put
  by_cases e : k = t <;> simp [e]
theorem bk_get {b : Str → Option Nat} {t : Str} {bs : List Str} {i : Nat} (m : t ∈ bs) (hb : b t = some i) : valV (bk bs b) (Sum.inr t) = some (.int (i : Nat)) := by
  refine (fk_get (v := fun t => V.int (((b t).getD 0 : Nat) : Int)) m).trans ?_
  rw [hb]
  rfl
/-- which terms have been lowered -/
def ByOk (bs : List Str) (b : Str → Option Nat) : Prop := bs.Nodup ∧ ∀ t, t ∈ bs ↔ b t ≠ none
theorem bk_put {b : Str → Option Nat} {t : Str} {i : Nat} {bs : List Str} (ok : ByOk bs b) : ∃ bs', putK (bk bs b) (Sum.inr t) (.int (i : Nat)) = bk bs' (Bf.put b t (some i)) ∧ ByOk bs' (Bf.put b t (some i)) ∧ bs'.length ≤ bs.length + 1 := by
  have ext : ∀ x, Bf.put b t (some i) x ≠ none ↔ (x = t ∨ b x ≠ none) := fun x => by
    unfold Bf.put
    by_cases e : x = t <;> simp [e]
  have eqv : ∀ (l : List Str), fk l (fun k => if k = t then V.int (i : Nat) else V.int (((b k).getD 0 : Nat) : Int)) = bk l (Bf.put b t (some i)) := fun l => by
    unfold fk bk
    refine List.map_congr_left fun k _ => ?_
    unfold Bf.put
    by_cases e : k = t <;> simp [e]
  by_cases m : t ∈ bs
  · refine ⟨bs, (fk_put (v := fun t => V.int (((b t).getD 0 : Nat) : Int)) m).trans (eqv bs), ⟨ok.1, fun x => ?_⟩, Nat.le_succ _⟩
    rw [ext, ok.2]
    constructor
    · exact .inr
    · rintro (e | h)
      · rw [e]
        exact (ok.2 t).mp m
      · exact h
  · refine ⟨bs ++ [t], (fk_new (v := fun t => V.int (((b t).getD 0 : Nat) : Int)) m).trans (eqv _), ⟨?_, fun x => ?_⟩, by simp⟩
    · refine List.nodup_append.mpr ⟨ok.1, by simp, fun x hx y hy e => ?_⟩
      have : y = t := by simpa using hy
      rw [← this, ← e] at m
      exact m hx
    · rw [ext, List.mem_append, ok.2]
      simp [or_comm]
/-! ### loops of comprehensions of two clauses, by a word of the turn and the heap -/
theorem itt_run {K : PySem.W.Frag} {a : Addr} {xs : List V} {F : V → Hp → (Hp → Prop) → Prop} {H4 : Hp} {Nx : Hp → Prop} (Pv : Nat → Hp → Prop) (h0 : Pv 0 H4) (hl : ∀ j H, j ≤ xs.length → Pv j H → SqT K H a xs)
    (hs : ∀ j x H, xs[j]? = some x → Pv j H → F x H (Pv (j + 1))) (hd : ∀ H, Pv xs.length H → Nx H) :
    ∃ W1 : Nat → Nat → Hp → Prop, (∃ m, W1 0 m H4) ∧ ∀ j k H, W1 j k H → ((Itt K a).stop j H ∧ Nx H) ∨ ((Itt K a).go j H ∧ ∃ Nx1 : Hp → Prop, (∀ H', Nx1 H' → ∃ k', k' < k ∧ W1 (j + 1) k' H') ∧ ∀ x H', (Itt K a).yld j H x H' → F x H' Nx1) := by
  refine ⟨fun j k H => k = xs.length - j ∧ j ≤ xs.length ∧ Pv j H, ⟨xs.length, rfl, Nat.zero_le _, h0⟩, ?_⟩
  rintro j k H ⟨rfl, hj, p⟩
  have q := hl j H hj p
  by_cases hlt : j < xs.length
  · refine .inr ⟨⟨xs, xs[j], q, List.getElem?_eq_getElem hlt⟩, Pv (j + 1), fun H' p' => ⟨xs.length - (j + 1), by omega, rfl, hlt, p'⟩, fun x H' y => ?_⟩
    obtain ⟨e, y⟩ := y
    subst e
    exact hs j x _ (y xs q) p
  · have e : j = xs.length := by omega
    subst e
    exact .inl ⟨⟨xs, q, Nat.le_refl _⟩, hd H p⟩
theorem itl_run {K : PySem.W.Frag} {a : Addr} {xs : List V} {F : V → Hp → (Hp → Prop) → Prop} {H4 : Hp} {Nx : Hp → Prop} (Pv : Nat → Hp → Prop) (h0 : Pv 0 H4) (hl : ∀ j H, j ≤ xs.length → Pv j H → SqL K H a xs)
    (hs : ∀ j x H, xs[j]? = some x → Pv j H → F x H (Pv (j + 1))) (hd : ∀ H, Pv xs.length H → Nx H) :
    ∃ W1 : Nat → Nat → Hp → Prop, (∃ m, W1 0 m H4) ∧ ∀ j k H, W1 j k H → ((Itl K a).stop j H ∧ Nx H) ∨ ((Itl K a).go j H ∧ ∃ Nx1 : Hp → Prop, (∀ H', Nx1 H' → ∃ k', k' < k ∧ W1 (j + 1) k' H') ∧ ∀ x H', (Itl K a).yld j H x H' → F x H' Nx1) := by
  refine ⟨fun j k H => k = xs.length - j ∧ j ≤ xs.length ∧ Pv j H, ⟨xs.length, rfl, Nat.zero_le _, h0⟩, ?_⟩
  rintro j k H ⟨rfl, hj, p⟩
  have q := hl j H hj p
  by_cases hlt : j < xs.length
  · refine .inr ⟨⟨xs, xs[j], q, List.getElem?_eq_getElem hlt⟩, Pv (j + 1), fun H' p' => ⟨xs.length - (j + 1), by omega, rfl, hlt, p'⟩, fun x H' y => ?_⟩
    obtain ⟨e, y⟩ := y
    subst e
    exact hs j x _ (y xs q) p
  · have e : j = xs.length := by omega
    subst e
    exact .inl ⟨⟨xs, q, Nat.le_refl _⟩, hd H p⟩
end Bx

/-! sorted(set(texts)) of a list, as one expression -/
namespace Tx
open PySem PySem.Spec PyProof.Rows L2
def txOf (e : Int × Value) : Str := match e.2 with
  | .str k _ => k
  | _ => Str.empty
def Txt (w : World) (e : Int × Value) : Prop := ∃ k tk, e.2 = Value.str k tk ∧ e.1 = hashStr w k
/-- the set of texts at a -/
def SetT (w : World) (h : Heap) (a : Addr) (S : Str → Bool) (n : Nat) : Prop :=
  ∃ (o : Obj) (es : Array (Int × Value)) (ep : Nat) (t : SetTable), h.get? a = some o ∧ o.ExactSet ∧ o.data = .set es ep t ∧ (∀ e ∈ es.toList, Txt w e) ∧ (es.toList.map txOf).Nodup ∧ (∀ k, S k = true ↔ k ∈ es.toList.map txOf) ∧
    es.size < scanBound ∧ t.fits es.size = true ∧ es.size = n ∧ Ris t.place.toList ∧ (w.params.followText "set-order" = true ∨ t.led = true)
section
variable {P : Program} {w : World} {h h' : Heap} {a : Addr} {S : Str → Bool} {n : Nat}
theorem SetT.at (x : SetT w h a S n) (k : ∀ o, h.get? a = some o → h'.get? a = some o) : SetT w h' a S n := by
  obtain ⟨o, es, ep, t, ho, z⟩ := x
  exact ⟨o, es, ep, t, k o ho, z⟩
theorem SetT.congr {S' : Str → Bool} (x : SetT w h a S n) (e : ∀ k, S' k = S k) : SetT w h a S' n := (funext e : S' = S) ▸ x
theorem txt_elems {l : List (Int × Value)} (g : ∀ e ∈ l, Txt w e) : ElemsOf (strKind P w) l := fun e he => by
  obtain ⟨k, tk, h1, h2⟩ := g e he
  exact ⟨⟨k, by rw [h1]; exact strKind_is P w k tk, h2⟩, by rw [h1] <;> rfl⟩
theorem txt_is {e : Int × Value} (g : Txt w e) (k : Str) : (strKind P w).is k e.2 = true ↔ txOf e = k := by
  obtain ⟨k0, tk, h1, _⟩ := g
  unfold txOf
  rw [h1]
  constructor
  · intro z
    exact (strKind P w).inj (.str k0 tk) k0 k (strKind_is P w k0 tk) z
  · intro z
    rw [← z]
    exact strKind_is P w k0 tk
theorem txt_mem {l : List (Int × Value)} (g : ∀ e ∈ l, Txt w e) (k : Str) : k ∈ l.map txOf ↔ ∃ e ∈ l, (strKind P w).is k e.2 = true := by
  rw [List.mem_map]
  exact ⟨fun ⟨e, he, q⟩ => ⟨e, he, (txt_is (g e he) k).2 q⟩, fun ⟨e, he, q⟩ => ⟨e, he, (txt_is (g e he) k).1 q⟩⟩
end
section
variable {P : Program} {w : World} {A : Around} {E : Value → Shared → Prop} {s : Shared} {a : Addr} {S : Str → Bool} {n : Nat}
theorem setT_tail {g : Bool → Sem Unit} (hg : ∀ (b : Bool) (s₁ : Shared) (Q' : Unit → Shared → Prop), Q' () s₁ → wpAny (model P w) A (g b) Q' E s₁)
    {o : Obj} {es : Array (Int × Value)} {ep : Nat} {t : SetTable} (ho : s.heap.get? a = some o) (hex : o.ExactSet) (hd : o.data = .set es ep t)
    {es1 : Array (Int × Value)} {t2 : SetTable} {S' : Str → Bool} (g1 : ∀ e ∈ es1.toList, Txt w e) (nd1 : (es1.toList.map txOf).Nodup) (m1 : ∀ k, S' k = true ↔ k ∈ es1.toList.map txOf)
    (hb1 : es1.size < scanBound) (hf2 : t2.fits es1.size = true) (hr : Ris t2.place.toList) (hl : w.params.followText "set-order" = true ∨ t2.led = true) {wasDummy : Bool} {R : Option Bool → Shared → Prop}
    (hR : ∀ h', Heap.SameBut a s.heap h' → SetT w h' a S' es1.size → R (some true) { s with heap := h' }) :
    wpAny (model P w) A (do
        storeSet a es1 t2
        if (!wasDummy && t2.tooFull) = true then do
            g (relayAll t2 es1 (SetTable.grown es1.size)).2.2
            storeSet a (relayAll t2 es1 (SetTable.grown es1.size)).1 (relayAll t2 es1 (SetTable.grown es1.size)).2.1
            pure (some true)
          else pure (some true)) R E s := by
  have ho1 := store_at (es' := es1) (t' := t2) ho hd
  have sb1 := Heap.SameBut.update s.heap a (Obj.putSet es1 t2)
  refine wpAny_bind (wpAny_storeSet_of ho hd ?_ (fits_of_scanBound hb1))
  split
  · have pm := relayAll_perm t2 es1 (SetTable.grown es1.size)
    have hf3 := relayAll_fits t2 es1 (SetTable.grown es1.size)
    have hr3 := relayAll_ris t2 es1 (SetTable.grown es1.size)
    have hl3 := relayAll_led t2 es1 (SetTable.grown es1.size)
    generalize relayAll t2 es1 (SetTable.grown es1.size) = Z at pm hf3 hr3 hl3 ⊢
    obtain ⟨es2, t3, gave⟩ := Z
    dsimp only at pm hf3 hr3 hl3 ⊢
    have e2 : es2.size = es1.size := by rw [← Array.length_toList, pm.length_eq, Array.length_toList]
    refine wpAny_bind (hg _ _ _ (wpAny_bind (wpAny_storeSet_of ho1 rfl ?_ (fits_of_scanBound (by rw [e2]; exact hb1)))))
    have ho2 := store_at (es' := es2) (t' := t3) ho1 rfl
    refine wpAny_pure (hR _ (sb1.trans (Heap.SameBut.update _ a _)) ⟨_, es2, _, t3, ho2, hex, rfl, fun e he => g1 e (pm.mem_iff.mp he), (pm.map txOf).nodup_iff.mpr nd1, fun k => (m1 k).trans (pm.map txOf).mem_iff.symm, by rw [e2]; exact hb1, hf3, e2, hr3, ?_⟩)
    rw [hl3]
    exact hl
  · exact wpAny_pure (hR _ sb1 ⟨_, es1, _, t2, ho1, hex, rfl, g1, nd1, m1, hb1, hf2, rfl, hr, hl⟩)
theorem setT_add {k : Str} {tk : Tok} {Q : Bool → Shared → Prop} (x : SetT w s.heap a S n) (room : n + 1 < scanBound)
    (hQ : ∀ h', Heap.SameBut a s.heap h' → SetT w h' a (fun j => S j || decide (j = k)) (if S k = true then n else n + 1) → Q (!S k) { s with heap := h' }) :
    wpAny (model P w) A (setAddHashed a (.str k tk) ((strKind P w).hash k)) Q E s := by
  obtain ⟨o, es, ep, t, ho, hex, hd, g, nd, hm, hb, hf, hn, hr, hl⟩ := x
  have hkey : (strKind P w).is k (.str k tk) = true := strKind_is P w k tk
  have hsc : (Value.str k tk).scannable = true := rfl
  have hel : ElemsOf (strKind P w) es.toList := txt_elems g
  unfold setAddHashed setAddHashedIn
  refine wpAny_holding (wpAny_bind (wpAny_setState_of ho hd hf ?_))
  dsimp only
  rw [byScan_of hsc hb hel]
  simp only [↓reduceIte]
  unfold setAddByScan
  refine wpAny_bind (wpAny_bind (wpAny_rule ?_))
  refine wpAny_bind (wpAny_setScan_of hkey ho hd hf hel ?_)
  cases hfi : List.findIdx? (fun e => (strKind P w).is k e.2) es.toList with
  | some j =>
    dsimp only
    obtain ⟨hj, pj, _⟩ := List.findIdx?_eq_some_iff_getElem.mp hfi
    have hSk : S k = true := (hm k).2 ((txt_mem (P := P) (w := w) g k).2 ⟨es.toList[j], List.getElem_mem hj, pj⟩)
    have q := hQ s.heap (Heap.SameBut.refl a s.heap) ⟨o, es, ep, t, ho, hex, hd, g, nd, fun i => by
      rw [Bool.or_eq_true, decide_eq_true_eq, ← hm i]
      exact ⟨fun z => z.elim id (fun e => e ▸ hSk), .inl⟩, hb, hf, by rw [if_pos hSk]; exact hn, hr, hl⟩
    rw [hSk] at q
    exact wpAny_pure (wpAny_pure q)
  | none =>
    dsimp only
    have hnk : k ∉ es.toList.map txOf := fun z => by
      obtain ⟨e, he, q⟩ := (txt_mem (P := P) (w := w) g k).1 z
      exact absurd q (by rw [List.findIdx?_eq_none_iff.mp hfi e he]; exact Bool.false_ne_true)
    have hSk : S k = false := Bool.eq_false_iff.mpr fun q => hnk ((hm k).1 q)
    have hgw : ∀ (b : Bool) {s₁ : Shared} {Q' : Unit → Shared → Prop}, Q' () s₁ → wpAny (model P w) A (match b with | true => rule "set.scan.the-table-gave-way" | false => pure ()) Q' E s₁ :=
      fun b s₁ Q' q => by cases b <;> first | exact wpAny_pure q | exact wpAny_rule q
    have pm := layNew_perm t es ((strKind P w).hash k) (.str k tk)
    have hf1 := layNew_fits t es ((strKind P w).hash k) (.str k tk)
    have hr1 := layNew_ris t es ((strKind P w).hash k) (.str k tk) hr
    have hl1 := layNew_led t es ((strKind P w).hash k) (.str k tk)
    generalize layNew t es ((strKind P w).hash k) (.str k tk) = Z at pm hf1 hr1 hl1 ⊢
    obtain ⟨es1, t1, wasDummy, gave⟩ := Z
    dsimp only at pm hf1 hr1 hl1 ⊢
    rw [Array.toList_push] at pm
    have pc : es1.toList.Perm (((strKind P w).hash k, Value.str k tk) :: es.toList) := pm.trans (List.perm_append_singleton _ _)
    have pk : (es1.toList.map txOf).Perm (k :: es.toList.map txOf) := pc.map txOf
    have g1 : ∀ e ∈ es1.toList, Txt w e := fun e he => (List.mem_cons.mp (pc.mem_iff.mp he)).elim (fun z => by rw [z]; exact ⟨k, tk, rfl, rfl⟩) (g e)
    have nd1 : (es1.toList.map txOf).Nodup := pk.nodup_iff.mpr (List.nodup_cons.mpr ⟨hnk, nd⟩)
    have m1 : ∀ i, (S i || decide (i = k)) = true ↔ i ∈ es1.toList.map txOf := fun i => by
      rw [Bool.or_eq_true, decide_eq_true_eq, hm i, pk.mem_iff, List.mem_cons]
      exact Or.comm
    have e1 : es1.size = n + 1 := by rw [← Array.length_toList, pc.length_eq, List.length_cons, Array.length_toList, hn]
    have hled : w.params.followText "set-order" = true ∨ t1.led = true := by rw [hl1]; exact hl
    have fin : ∀ h', Heap.SameBut a s.heap h' → SetT w h' a (fun j => S j || decide (j = k)) es1.size → Q true { s with heap := h' } := fun h' sb r => by
      have q := hQ h' sb
      rw [hSk] at q
      rw [e1] at r
      exact q r
    have hb1 : es1.size < scanBound := by rw [e1]; exact room
    refine wpAny_bind (hgw _ ?_)
    split
    · refine wpAny_bind ?_
      rw [hashByValue_scannable 8 hsc]
      refine wpAny_pure (setT_tail ?_ ho hex hd g1 nd1 m1 hb1 ?_ ?_ ?_ ?_)
      · intro b s₁ Q' q; cases b <;> first | exact wpAny_pure q | exact wpAny_rule q
      · first | (split <;> first | exact hf1 | exact SetTable.fits_plain_off hf1) | exact hf1
      · first | (split <;> exact hr1) | exact hr1
      · first | (split <;> exact hled) | exact hled
      · intro h' sb r; dsimp only; exact wpAny_pure (fin h' sb r)
    · refine wpAny_bind (wpAny_pure ?_)
      simp only [↓reduceIte]
      refine setT_tail ?_ ho hex hd g1 nd1 m1 hb1 hf1 hr1 hled ?_
      · intro b s₁ Q' q; cases b <;> first | exact wpAny_pure q | exact wpAny_rule q
      · intro h' sb r; dsimp only; exact wpAny_pure (fin h' sb r)
theorem setT_loop {I : Addr} {fp wr : List Addr} {G : Array GenState → Array GenState → Prop} {n : Nat} {Pv : Nat → Value → Prop} {St : Nat → Shared → Prop} {R : Result → Shared → Prop}
    (W : WalksS P w A.in1 I fp wr G n Pv St) (C : Addr) (hCf : C ∉ fp) (xs : List Str) (hn : n = xs.length) (hb : xs.length + 1 < scanBound) (hval : ∀ i v, Pv i v → ∃ k t, xs[i]? = some k ∧ v = .str k t) :
    ∀ (k i : Nat) (s : Shared), n - i = k → i ≤ n → St i s → (∃ c, c ≤ i ∧ SetT w s.heap C (fun j => decide (j ∈ xs.take i)) c) →
      (∀ s' c, Moved (C :: wr) G s s' → c ≤ n → SetT w s'.heap C (fun j => decide (j ∈ xs)) c → R (.ok (.ret .none)) s') →
      codeAny (model P w) A (.builtin "set.update.loop" ⟨[.ref C, .ref I], []⟩) R s := by
  have hCw : C ∉ wr := fun h => hCf (W.sub _ h)
  have hsub : ∀ b ∈ wr, b ∈ C :: wr := fun b hb => List.mem_cons_of_mem _ hb
  intro k
  induction k with
  | zero =>
    intro i s hk' hi hst ⟨c, hc, x⟩ hR
    obtain rfl : i = n := by omega
    refine codeAny_builtin F.entry_set_update_loop ?_
    rw [Around.under_plainId F.plain_set_update_loop _]
    show wpAny _ A.in1 (pyNext (.ref I) >>= _) _ _ s
    refine wpAny_bind (W.done s _ _ hst fun s' hm => ?_)
    rw [show xs.take i = xs from List.take_of_length_le (by omega)] at x
    exact wpAny_pure (hR s' c (hm.mono hsub) hc (x.at fun o e => hm.heap C o hCw e))
  | succ k ih =>
    intro i s hk' hi hst ⟨c, hc, x⟩ hR
    have hlt : i < n := by omega
    refine codeAny_builtin F.entry_set_update_loop ?_
    rw [Around.under_plainId F.plain_set_update_loop _]
    show wpAny _ A.in1 (pyNext (.ref I) >>= _) _ _ s
    refine wpAny_bind (W.item i s _ _ hlt hst fun v s' hP hst' hm => ?_)
    obtain ⟨z, t, hz, rfl⟩ := hval i v hP
    have x' : SetT w s'.heap C (fun j => decide (j ∈ xs.take i)) c := x.at fun o e => hm.heap C o hCw e
    show wpAny _ A.in1 (holding [Value.str z t] (setAdd C (.str z t)) >>= _) _ _ s'
    refine wpAny_bind (wpAny_holding ?_)
    unfold setAdd
    refine wpAny_holding (wpAny_bind ((strKind P w).pyHash (k := z) (strKind_is _ _ _ _) ?_))
    refine setT_add (s := { s' with toks := s'.toks + 1 }) x' (by omega) fun h' hsb x2 => ?_
    have x3 : SetT w h' C (fun j => decide (j ∈ xs.take (i + 1))) (if decide (z ∈ xs.take i) = true then c else c + 1) := x2.congr fun j => by
      rw [List.take_add_one, hz]
      simp [List.mem_append]
    have hc3 : (if decide (z ∈ xs.take i) = true then c else c + 1) ≤ i + 1 := by
      split <;> omega
    refine wpAny_pure ⟨plainId_quiet F.plain_set_update_loop _, ih (i + 1) _ (by omega) hlt (W.frame _ s' _ _ hst' (Nat.le_succ _) fun b hb o e => ?_) ⟨_, hc3, x3⟩ fun s'' c2 hm'' hc'' x'' => hR s'' c2 (Moved.trans W.gtrans ((hm.mono hsub).then_heap (Nat.le_succ _) fun b o hb e => ?_) hm'') hc'' x''⟩
    · rw [hsb.2 b (fun h : b = C => hCf (by rw [← h]; exact hb))]; exact e
    · rw [hsb.2 b (fun h : b = C => hb (by rw [h]; exact List.mem_cons_self))]; exact e
end
end Tx

namespace Tx
open PySem PySem.Spec PyProof.Rows L2
abbrev setNew (w : World) : Obj := { cls := .type "set", dict := none, data := .set #[] 0 (.fresh 0 0 (!w.params.followText "set-order")) }
theorem setT_fresh {w : World} {h : Heap} {a : Addr} {xs : List Str} (ho : h.get? a = some (setNew w)) : SetT w h a (fun j => decide (j ∈ xs.take 0)) 0 := by
  refine ⟨_, #[], 0, _, ho, ⟨rfl, rfl, rfl⟩, rfl, (fun e he => by simp at he), (by simp), (fun k => by simp), (by decide), (by rfl), rfl, List.Pairwise.nil, ?_⟩
  show _ ∨ (!w.params.followText "set-order") = true
  cases w.params.followText "set-order"
  · exact .inr rfl
  · exact .inl rfl
section
variable {P : Program} {w : World} {A : Around} {E : Value → Shared → Prop} {s : Shared}
theorem strs_get {us : List Value} {xs : List Str} (h : StrsAre us xs) {i : Nat} {v : Value} (e : us[i]? = some v) : ∃ k t, xs[i]? = some k ∧ v = .str k t := by
  induction h generalizing i with
  | nil => simp at e
  | cons y t hr ih =>
    cases i with
    | zero => exact ⟨y, t, rfl, (Option.some.inj e).symm⟩
    | succ i => exact ih e
set_option maxHeartbeats 3200000 in
theorem set_list {l : Addr} {items : Array Value} (xs : List Str) {Q : Value → Shared → Prop} (hh : A.handled = none) (hl : s.heap.IsList l items) (hit : StrsAre items.toList xs) (hb : xs.length + 1 < scanBound)
    (h : ∀ (h' : Heap) (tk c : Nat), SetT w h' s.heap.objs.size (fun j => decide (j ∈ xs)) c → c ≤ xs.length → (∀ b o, s.heap.get? b = some o → h'.get? b = some o) → Q (.ref s.heap.objs.size) { s with heap := h', toks := tk }) :
    wpAny (model P w) A (call (.type "set") [.ref l]) Q E s := by
  have hisz : items.size = xs.length := by
    rw [← Array.length_toList]
    exact StrsAre.length hit
  obtain ⟨c, tl, hmro⟩ := F.called_set.mro
  have hmade := F.called_set.made
  have hsub := F.called_set.sub
  refine wpAny_call (codeAny_of_tree ?_)
  show wpAny _ _ (callAny (.type "set") _) _ _ _
  refine wpAny_pure ⟨Code.quiet_builtin _ (by decide +kernel), codeAny_builtin F.entry_type_call ?_⟩
  rw [Around.under_plain (weight_type_call_type "set" [.ref l] []) rfl]
  have h1 := F.called_set.notType
  have h2 := F.called_set.canCreate
  have hct := F.typeCall_set_1 (.ref l)
  repeat (any_goals (first | assumption | wp_step))
  refine codeAny_mono (code_set_led1 (.ref l) (E := E) (Q₁ := fun obj s₁ => obj = .ref s.heap.objs.size ∧ s₁ = { s with heap := s.heap.push (setNew w) }) ⟨rfl, rfl⟩) fun r s₁ hr => ?_
  cases r with
  | error e => exact hr
  | ok fl =>
    cases fl with
    | ret obj =>
      obtain ⟨rfl, rfl⟩ := hr
      have hS : (s.heap.push (setNew w)).get? s.heap.objs.size = some (setNew w) := Heap.get?_push_size _ rfl
      have hT : Shared.TypeIs { s with heap := s.heap.push (setNew w) } (.ref s.heap.objs.size) "set" := ⟨_, hS, rfl⟩
      have hli := F.called_set.init.lookup
      have hbi := F.called_set.init.bind (.ref s.heap.objs.size)
      repeat (any_goals (first | assumption | wp_step))
      refine codeAny_mono (codeAny_call_builtin (R := wants (fun r s₂ => r = .none ∧ ∃ h' tk c, s₂ = { s with heap := h', toks := tk } ∧ SetT w h' s.heap.objs.size (fun j => decide (j ∈ xs)) c ∧ c ≤ xs.length ∧
          (∀ b o, s.heap.get? b = some o → h'.get? b = some o)) E) F.called_set.init.plain F.entry_set_init (check_set_init_1 hT ?_)) fun r₂ s₂ hr₂ => ?_
      · obtain ⟨ol, hol, hcl, nl, hdl⟩ := hl
        obtain ⟨ocls, odict, odata, oslots⟩ := ol
        simp only at hcl hdl
        subst hcl; subst hdl
        have hol' : (s.heap.push (setNew w)).get? l = some { cls := .type "list", dict := odict, data := .seq items nl, slots := oslots } := Heap.get?_push_of_some _ hol
        have hsls := F.sub_list_set
        have hslf := F.sub_list_frozenset
        have hne : (Value.type "list" == Value.type "dict") = false := by decide
        have hl1 : (s.heap.push (setNew w)).IsList l items := ⟨_, hol', rfl, nl, rfl⟩
        unfold Builtin.«set.__init__» noKeywords Builtin.Frozenset.updateFrom
        generalize hPI : pyIter = PI
        wp_walk
        subst hPI
        refine wpAny_pyIter_list hl1 (wpAny_bind (wpAny_runValue ?_))
        have hlS : l < s.heap.objs.size := Heap.lt_size hol
        have hh3 : A.in1.in1.in1.handled = none := by simp [hh]
        have hneI : l ≠ (s.heap.push (setNew w)).objs.size := by
          rw [Heap.size_push]; exact Nat.ne_of_lt (Nat.lt_succ_of_lt hlS)
        have hSf : s.heap.objs.size ∉ [(s.heap.push (setNew w)).objs.size, l] := by
          rw [Heap.size_push]; simp only [List.mem_cons, List.mem_singleton, List.not_mem_nil, or_false, not_or]
          exact ⟨Nat.ne_of_lt (Nat.lt_succ_self _), Nat.ne_of_gt hlS⟩
        have hval : ∀ (i : Nat) (v : Value), items[i]? = some v → ∃ k t, xs[i]? = some k ∧ v = .str k t := fun i v hv => strs_get hit (by rw [Array.getElem?_toList]; exact hv)
        refine setT_loop ((Walks.list hh3 _ l hneI items).toS) s.heap.objs.size
          hSf xs hisz hb hval (items.size - 0) 0 _ (by omega) (Nat.zero_le _)
          ⟨⟨_, Heap.get?_push_size _ rfl, rfl, rfl⟩, (hl1.push _)⟩ ?hS0 ?hR
        case hS0 => exact ⟨0, Nat.le_refl 0, setT_fresh (Heap.get?_push_of_some _ hS)⟩
        case hR =>
          intro s' c' hm hc' hS'
          obtain ⟨h', g2, d', tk', os'⟩ := s'
          have eg : g2 = s.gens := hm.gens
          have ed : d' = s.drawn := hm.drawn
          have eo : os' = s.os := hm.os
          subst eg; subst ed; subst eo
          show wpAny _ _ _ _ _ _
          refine wpAny_pure ?_
          show wpAny _ _ (ret Value.none) _ _ _
          rw [hisz] at hc'
          refine wpAny_pure ⟨rfl, h', tk', c', rfl, hS', hc', fun b o e => hm.heap b o ?_ (Heap.get?_push_of_some _ (Heap.get?_push_of_some _ e))⟩
          have hb0 : b < s.heap.objs.size := Heap.lt_size e
          rw [Heap.size_push]
          simp only [List.mem_cons, List.mem_singleton, List.not_mem_nil, or_false, not_or]
          exact ⟨Nat.ne_of_lt hb0, Nat.ne_of_lt (Nat.lt_succ_of_lt hb0)⟩
      · cases r₂ with
        | error e => exact hr₂
        | ok fl₂ =>
          cases fl₂ with
          | ret r =>
            obtain ⟨rfl, h', tk, c', rfl, hS', hc', hk'⟩ := hr₂
            repeat (any_goals (first | assumption | wp_step))
            exact h _ _ _ hS' hc' hk'
          | _ => exact hr₂.elim
    | _ => exact hr.elim
end
end Tx

namespace Tx
open PySem PySem.Spec PyProof.Rows L2
section
variable {P : Program} {w : World} {A : Around} {E : Value → Shared → Prop} {s : Shared}
theorem strs_of : ∀ (l : List Value), (∀ v ∈ l, ∃ k tk, v = Value.str k tk) → ∃ xs, StrsAre l xs
  | [], _ => ⟨[], .nil⟩
  | v :: l, h => by
    obtain ⟨k, tk, rfl⟩ := h v List.mem_cons_self
    obtain ⟨xs, h1⟩ := strs_of l fun u hu => h u (List.mem_cons_of_mem _ hu)
    exact ⟨k :: xs, .cons k tk h1⟩
theorem strs_map {l : List Value} {xs : List Str} (h : StrsAre l xs) : xs = l.map fun v => txOf (0, v) := by
  induction h with
  | nil => rfl
  | cons y t hr ih => rw [List.map_cons, ← ih]; rfl
/-- sorted(a set of texts) -/
theorem sorted_set {a : Addr} {S : Str → Bool} {n : Nat} {Q : Value → Shared → Prop} (x : SetT w s.heap a S n) (hh : A.handled = none) (h64 : n < 64)
    (hQ : ∀ s' p (out : Array Value) (c : Nat) (ys : List Str), (∀ b o, s.heap.get? b = some o → s'.heap.get? b = some o) → s'.gens = s.gens → s'.os = s.os → s.heap.objs.size ≤ p →
      s'.heap.get? p = some (seqObj "list" out c) → StrsAre out.toList ys → sortedS ys = true → ys.Nodup → (∀ k, k ∈ ys ↔ S k = true) → ys.length = n → Q (.ref p) s') :
    wpAny (model P w) A (call (.builtin "sorted") [.ref a]) Q E s := by
  obtain ⟨o, es, ep, t, ho, hex, hd, g, nd, hm, hb, hf, hn, hr, hl⟩ := x
  refine Calls.call_function_entry kind_sorted plain_sorted entry_sorted (args_sorted1 _) ?_
  unfold Builtin.«sorted»
  refine wpAny_bind (m := checkCount "sorted" 1 1 _) (wpAny_pure ?_)
  refine wpAny_bind (collect_set (A := A.in1) hh ⟨o, ho, hex.1, hd⟩ hf hb hr hl fun s1 vs k1 hz g1 o1 pm => ?_)
  have hvl : vs.length = n := by rw [pm.length_eq, List.length_map, Array.length_toList]; exact hn
  obtain ⟨xs, hx⟩ := strs_of vs fun v hv => by
    obtain ⟨e, he, q⟩ := List.mem_map.mp (pm.mem_iff.mp hv)
    obtain ⟨k, tk, h1, _⟩ := g e he
    exact ⟨k, tk, by rw [← q]; exact h1⟩
  have px : xs.Perm (es.toList.map txOf) := by
    have q := pm.map fun v => txOf (0, v)
    rw [List.map_map, ← strs_map hx] at q
    exact q
  refine wpAny_bind (wpAny_newList ?_ (by rw [hvl, sizeLine_eq]; omega))
  have hoL : (s1.heap.push (seqObj "list" vs.toArray 0)).get? s1.heap.objs.size = some (seqObj "list" vs.toArray 0) := Heap.get?_push_size _ rfl
  refine wpAny_bind (wpAny_holding (wpAny_call_entry slot_list_sort ⟨_, hoL, rfl⟩ entry_list_sort
    (list_sort_treeK strKind_oneLt hoL hx.keysOf (fun v₁ v₂ rest e => keyKind_strs (by rw [← e]; exact hx)) (by rw [hvl]; exact h64) fun st' hp hs => ⟨_, rfl, ?_⟩) (args_list_sort _)))
  obtain ⟨ys, a1, a2, a3⟩ := sorted_out_str hx hp hs
  obtain ⟨c, hc⟩ := sortedHeap_at (vs := vs) (out := (arrOf st').map (·.2)) hoL
  have pn : ys.Perm (es.toList.map txOf) := a2.trans px
  refine wpAny_pure ⟨_, rfl, hQ _ s1.heap.objs.size _ c ys (fun b u e => ?_) g1 o1 hz hc a1 a3 (pn.nodup_iff.mpr nd) (fun k => by rw [pn.mem_iff, ← hm k]) ?_⟩
  · have q := k1 b u e
    have hlt := Heap.lt_size q
    show (sortedHeap (s1.heap.push (seqObj "list" vs.toArray 0)) s1.heap.objs.size vs _).get? b = some u
    rw [sortedHeap_old (Nat.ne_of_lt hlt) (by rw [size_push']; exact Nat.lt_succ_of_lt hlt)]
    exact Heap.get?_push_of_some _ q
  · rw [pn.length_eq, List.length_map, Array.length_toList]; exact hn
end
end Tx

namespace Tx
open PySem PySem.Spec PyProof.Rows L2
section
variable {X : Cx}
def tSortSet (K : PySem.W.Frag) (ta : TE) : TE := fun σ H Q => ta σ H fun x H1 => ∃ (l : Addr) (xs : List Str), x = .ref l ∧ SqL K H1 l (xs.map V.str) ∧ xs.length < 64 ∧
  ∀ (ys : List Str) (p : Addr), sortedS ys = true → ys.Nodup → (∀ k, k ∈ ys ↔ k ∈ xs) → H1 p = none → Q (.ref p) (upd H1 p (.lst (ys.map V.str)))
theorem pe_sortSet {a : Expr} {ta : TE} {p p2 q pos : Pos} (hm : X.mg "sorted" = none) (hm2 : X.mg "set" = none) (ha : PE X a ta) (hg : Gl X "sorted" := by rfl) (hg2 : Gl X "set" := by rfl) (hc : X.calm = true := by rfl)
    (na : starEach [a] X.env = (false, eval a X.env) :: starEach [] X.env := by rfl) : PE X (.Call (.Name "sorted" p) [.Call (.Name "set" p2) [a] [] q] [] pos) (tSortSet X.K ta) := by
  refine ⟨fun pins s σ H Q I h => ?_⟩
  refine Call_ (ld_blt I hg hm boot_sorted ?_)
  refine PyProof.Rows.callWith_builtin1 (PyProof.Rows.args_cons ?_ rfl) rfl rfl
  refine Call_ (ld_blt I hg2 hm2 boot_set ?_)
  refine PyProof.Rows.callWith_type1 (PyProof.Rows.args_cons (thn (ha.run pins s σ H _ I h) fun v s1 ⟨x, H1, I1, r1, q1⟩ => PyProof.Rows.args_nil ?_) na) na rfl
  obtain ⟨l, xs, rfl, hq, hl, q1⟩ := q1
  cases r1
  obtain ⟨its, rv, pt, hz⟩ := I1.list hq
  have hd := I1.ok.hd hc
  refine set_list xs hd (show s1.heap.IsList l its.toArray from pt.isList) rv.strs (by unfold scanBound; omega) fun h' tk c R1 hcn k => ?_
  refine PyProof.Rows.args_nil ?_
  have I2 : Inv X pins σ H1 { s1 with heap := h', toks := tk } := I1.kept fun b o e => k b o e
  have R2 : SetT X.w ({ s1 with heap := h', toks := tk } : Shared).heap s1.heap.objs.size (fun j => decide (j ∈ xs)) c := R1
  generalize ({ s1 with heap := h', toks := tk } : Shared) = s2 at I2 R2 ⊢
  refine sorted_set R2 hd (by omega) fun s' p out c ys k2 g o hp hg hi hs hnd hm hl2 => ?_
  have hlen : (ys.map V.str).length ≤ sizeLine := by rw [List.length_map, hl2, sizeLine_eq]; omega
  have hn : H1 p = none := I2.hok.fresh hp
  have J : Inv X pins σ (upd H1 p (.lst (ys.map V.str))) { s2 with heap := s'.heap, gens := s'.gens, drawn := s'.drawn, toks := s'.toks } :=
    I2.call (ch := []) (Un.laid k2 hp hn) (I2.hok.laid k2 hp ⟨hlen, out.toList, c, vals_of_strs hi, hg⟩) (by rw [g]; exact I2.bare) (fun _ z => nomatch z)
  have e : s' = { s2 with heap := s'.heap, gens := s'.gens, drawn := s'.drawn, toks := s'.toks } := by
    cases s'
    cases s2
    cases o
    rfl
  rw [e]
  exact ⟨.ref p, _, J, rfl, q1 ys p hs hnd (fun k => by rw [hm k, decide_eq_true_eq]) hn⟩
end
/-! two sorted lists of the same texts -/
def Le (a b : Str) : Prop := ltCps b.cps.toList a.cps.toList = false
theorem le_iff {a b : Str} : Le a b ↔ a.cps.toList ≤ b.cps.toList := by
  unfold Le
  rw [ltCps_eq, decide_eq_false_iff_not]
  exact Iff.rfl
theorem pw_of : ∀ (p : Str) (l : List Str), risingS p l = true → (p :: l).Pairwise Le
  | p, [], _ => List.pairwise_singleton _ _
  | p, x :: r, h => by
    have h' : (!ltCps x.cps.toList p.cps.toList && risingS x r) = true := h
    rw [Bool.and_eq_true] at h'
    have ih := pw_of x r h'.2
    have h1 : Le p x := by
      unfold Le
      cases q : ltCps x.cps.toList p.cps.toList with
      | false => rfl
      | true => rw [q] at h'; cases h'.1
    refine List.pairwise_cons.mpr ⟨fun y hy => ?_, ih⟩
    rcases List.mem_cons.mp hy with e | e
    · rw [e]
      exact h1
    · exact le_iff.mpr (List.le_trans (le_iff.mp h1) (le_iff.mp ((List.pairwise_cons.mp ih).1 y e)))
theorem pw_sorted : ∀ {l : List Str}, sortedS l = true → l.Pairwise Le
  | [], _ => List.Pairwise.nil
  | x :: r, h => pw_of x r h
theorem le_anti {a b : Str} (h1 : Le a b) (h2 : Le b a) : a = b := by
  have e := List.le_antisymm (le_iff.mp h1) (le_iff.mp h2)
  cases a
  cases b
  simp only [Str.mk.injEq]
  exact Array.toList_inj.mp e
theorem same_sorted : ∀ {xs ys : List Str}, xs.Pairwise Le → ys.Pairwise Le → xs.Nodup → ys.Nodup → (∀ k, k ∈ xs ↔ k ∈ ys) → xs = ys
  | [], [], _, _, _, _, _ => rfl
  | [], y :: ys, _, _, _, _, h => absurd ((h y).mpr List.mem_cons_self) (by simp)
  | x :: xs, [], _, _, _, _, h => absurd ((h x).mp List.mem_cons_self) (by simp)
  | x :: xs, y :: ys, p, q, np, nq, h => by
    have p' := List.pairwise_cons.mp p
    have q' := List.pairwise_cons.mp q
    have np' := List.nodup_cons.mp np
    have nq' := List.nodup_cons.mp nq
    have e : x = y := by
      rcases List.mem_cons.mp ((h x).mp List.mem_cons_self) with e | e
      · exact e
      · rcases List.mem_cons.mp ((h y).mpr List.mem_cons_self) with e2 | e2
        · exact e2.symm
        · exact le_anti (p'.1 y e2) (q'.1 x e)
    subst e
    rw [same_sorted p'.2 q'.2 np'.2 nq'.2 fun z => ?_]
    constructor
    · intro hz
      exact (List.mem_cons.mp ((h z).mp (List.mem_cons_of_mem _ hz))).resolve_left fun e => np'.1 (e ▸ hz)
    · intro hz
      exact (List.mem_cons.mp ((h z).mpr (List.mem_cons_of_mem _ hz))).resolve_left fun e => nq'.1 (e ▸ hz)
end Tx

/-! enumerate(tuple) -/
namespace En
open PySem PySem.Spec PyProof.Rows L2
open AutoSeq1 (wpAny_loadPart')
theorem new_tuple (l : Addr) (items : Array Value) (n : Nat) (dct : Option Addr) (sl : Array (Option Value)) :
    Meets (Builtin.«enumerate.__new__» ⟨[.type "enumerate", .ref l], []⟩) (fun _ R s => s.heap.get? l = some { cls := .type "tuple", dict := dct, data := .seq items n, slots := sl } ∧
      R (.ok (.ret (.ref (s.heap.push { cls := .type "tuple_iterator", data := .fields #[.ref l, .int 0 0] }).objs.size)))
        { s with heap := (s.heap.push { cls := .type "tuple_iterator", data := .fields #[.ref l, .int 0 0] }).push { cls := .type "enumerate", data := .fields #[.none, .bool false, .ref s.heap.objs.size, rawInt 0, .none, .none] } }) :=
  .of_wp fun prog w A R s h => by
    obtain ⟨hp, g, d, tk, os⟩ := s; obtain ⟨hl, h⟩ := h
    have hsub := sub_enumerate
    have hL : Heap.IsTuple (Shared.heap ⟨hp, g, d, tk, os⟩) l items := ⟨_, hl, rfl, n, rfl⟩
    wp_walk using wpAny_loadPart' hl
    refine wpAny_stack_any fun st => wpAny_pure ?_
    split
    · rename_i c _ _ _ _ _
      cases (c == Value.type "enumerate")
      · wp_walk using wpAny_loadPart' hl, wpAny_pyIter_tuple hL
        exact ⟨_, rfl, h⟩
      · wp_walk using wpAny_loadPart' hl, wpAny_pyIter_tuple hL
        exact ⟨_, rfl, h⟩
    · wp_walk using wpAny_loadPart' hl, wpAny_pyIter_tuple hL
      exact ⟨_, rfl, h⟩
section
variable {prog : Program} {w : World} {A : Around} {E : Value → Shared → Prop} {s : Shared}
theorem call_tuple {l : Addr} {items : Array Value} {Q : Value → Shared → Prop} (hL : s.heap.IsTuple l items)
    (h : ∀ h', IsEnum h' (s.heap.objs.size + 1) s.heap.objs.size 0 .none → h'.IsTupleIter s.heap.objs.size l 0 → h'.objs.size = s.heap.objs.size + 2 →
      (∀ b o, s.heap.get? b = some o → h'.get? b = some o) → Q (.ref (s.heap.objs.size + 1)) { s with heap := h' }) :
    wpAny (model prog w) A (call (.type "enumerate") [.ref l]) Q E s := by
  obtain ⟨⟨c, dct, dt, sl⟩, hl, hc, n, hd⟩ := hL
  replace hc : c = .type "tuple" := hc
  replace hd : dt = .seq items n := hd
  subst hc hd
  refine callType_new F.called_enumerate (by decide) (F.typeCall_enumerate_1 _) (F.newCall_enumerate_1 _) (fun obj => F.args_object_init_2 obj _) F.entry_enumerate_new
    (new_tuple l items n dct sl) ⟨hl, ?_⟩
  have hz : (s.heap.push { cls := .type "tuple_iterator", data := .fields #[.ref l, .int 0 0] }).objs.size = s.heap.objs.size + 1 := Heap.size_push ..
  show _ ∧ _
  rw [hz]
  have he : IsEnum ((s.heap.push { cls := .type "tuple_iterator", data := .fields #[.ref l, .int 0 0] }).push
      { cls := .type "enumerate", data := .fields #[.none, .bool false, .ref s.heap.objs.size, rawInt 0, .none, .none] }) (s.heap.objs.size + 1) s.heap.objs.size 0 .none := by
    have := Heap.get?_push_size (s.heap.push { cls := .type "tuple_iterator", data := .fields #[.ref l, .int 0 0] })
      (o := { cls := .type "enumerate", data := .fields #[.none, .bool false, .ref s.heap.objs.size, rawInt 0, .none, .none] }) rfl
    rw [hz] at this; exact this
  refine ⟨⟨_, he, rfl⟩, h _ he ⟨_, Heap.get?_push_of_some _ (Heap.get?_push_size _ rfl), rfl, rfl⟩ (by rw [Heap.size_push, hz]) fun b o x => Heap.get?_push_of_some _ (Heap.get?_push_of_some _ x)⟩
end
theorem draws {prog : Program} {w : World} {A : Around} (hh : A.handled = none) (it l : Addr) (hne : l ≠ it) (items : Array Value) :
    Draws prog w A it [it, l] items.size (fun i v => items[i]? = some v) (fun i h => h.IsTupleIter it l i ∧ h.IsTuple l items) where
  live := fun _ _ st => let ⟨o, ho, _⟩ := st.1; ⟨o, ho⟩
  frame := fun _ _ _ st hk => ⟨st.1.at fun o e => hk it (by simp) o e, st.2.at fun o e => hk l (by simp) o e⟩
  item := fun i s Q E hi st hQ => wpAny_nextOf_tuple_item st.1 st.2 (x := items[i]) (by simp [hi]) fun h' hit' hs' => hQ _ h' s.toks (by simp [hi]) ⟨hit', st.2.extBut hs'.extBut hne⟩ hs'
  done := fun s Q E st hE => wpAny_nextOf_tuple_end hh st.1 st.2 (by simp) hE
/-- the tuple at a, each item in a new pair -/
def Itu (K : PySem.W.Frag) (a : Addr) : It :=
  ⟨fun i H => ∃ (xs : List V) (x : V), SqT K H a xs ∧ xs[i]? = some x, fun i H v H' => ∃ T x, v = .ref T ∧ H T = none ∧ H' = upd H T (.tup [.int (i : Nat), x]) ∧ ∀ xs, SqT K H a xs → xs[i]? = some x, fun i H => ∃ xs : List V, SqT K H a xs ∧ xs.length ≤ i⟩
theorem turn {P : Program} {w : World} {K : PySem.W.Frag} {elts : List Expr} {kk : Nat} {tpos : Pos} (a e it : Addr) :
    Turn P w K (.Tuple elts kk tpos) (Itu K a) [e, it] e (fun i h => (∃ old, IsEnum h e it ((i : Nat) : Int) old) ∧ h.IsTupleIter it a i ∧ e ≠ it) where
  mem := by simp
  obj := fun i h st b hb => by
    obtain ⟨⟨old, he⟩, ⟨o, ho, hc, hd⟩, _⟩ := st
    have e' : b = e ∨ b = it := by simpa using hb
    rcases e' with z | z
    · rw [z]; exact ⟨_, he, fun v q => nomatch q⟩
    · rw [z]; exact ⟨o, ho, fun v q => by rw [hd] at q; cases q⟩
  keep := fun i h h' st k => let ⟨⟨old, he⟩, hi, hne⟩ := st; ⟨⟨old, k e (by simp) _ he⟩, hi.at fun o q => k it (by simp) o q, hne⟩
  item := by
    intro X hP hw hK hc i pins s σ H E I hf st hg
    subst hP hw hK
    obtain ⟨⟨old, he⟩, hit, hne⟩ := st
    obtain ⟨xs, x, hq, hx⟩ := hg
    obtain ⟨its, rv, p, hz⟩ := I.tuple hq
    obtain ⟨u, hu, ru⟩ := rv.get hx
    have hel : e < s.heap.objs.size := Heap.lt_size he
    have hil : it < s.heap.objs.size := by obtain ⟨_, q, _⟩ := hit; exact Heap.lt_size q
    have pt : s.heap.IsTuple a its.toArray := p
    have nai : a ≠ it := fun z => by
      obtain ⟨o1, q1, c1, _⟩ := pt
      obtain ⟨o2, q2, c2, _⟩ := hit
      rw [z, q2] at q1
      cases q1
      rw [c2] at c1
      injection c1 with c1
      exact absurd c1 (by decide)
    have nea : e ≠ a := fun z => by
      obtain ⟨o1, q1, c1, _⟩ := pt
      rw [← z, he] at q1
      cases q1
      injection c1 with c1
      exact absurd c1 (by decide)
    have hi2 : i < its.toArray.size := by
      have := (List.getElem?_eq_some_iff.mp hu).1
      simpa using this
    refine wpAny_pyNext_enum_itemD (draws (A := X.A.in1) (I.ok.hd hc) it a nai its.toArray) he ⟨hit, pt⟩ hi2 hne (by simp [hne, nea]) fun u' h' tk hu' ho hst' hT hsz hk => ?_
    have eu : u' = u := by
      have : its.toArray[i]? = some u := by simpa using hu
      rw [this] at hu'
      exact (Option.some.inj hu').symm
    subst eu
    refine ⟨_, rfl, wpAny_letOwnedTupleGo_enum (s := { s with heap := h', toks := tk + 1 }) ho fun h'' he' sb => ?_⟩
    have hT2 : h''.get? s.heap.objs.size = some { cls := .type "tuple", data := .seq #[.int i tk, u'] } := (sb.2 _ (Nat.ne_of_gt hel)).trans hT
    have new : ObjOk X.prog X.w (upd H s.heap.objs.size (.tup [.int (i : Nat), x])) h'' s.heap.objs.size (.tup [.int (i : Nat), x]) :=
      ⟨by show 2 ≤ sizeLine; decide, [.int i tk, u'], .cons ⟨_, rfl⟩ (.cons ru .nil), ⟨_, hT2, rfl, _, rfl⟩⟩
    have I1 : Inv X pins σ (upd H s.heap.objs.size (.tup [.int (i : Nat), x])) { s with heap := h'', toks := tk + 1 } :=
      I.turnedNew (ch := [e, it]) (fun b ob hb q => (sb.2 b (fun z => hb (by simp [z]))).trans (hk b ob (fun z => hb (by simp [z])) (fun z => hb (by simp [z])) q)) hf (Nat.le_refl _) new
    refine ⟨.ref s.heap.objs.size, _, I1, rfl, ⟨_, x, rfl, I.hok.fresh (Nat.le_refl _), rfl, fun ys hy => by rw [I.tuple_inj hy hq]; exact hx⟩, ⟨⟨u', ?_⟩, hst'.1.at fun o q => (sb.2 it (Ne.symm hne)).trans q, hne⟩, fun b hb => ?_⟩
    · have e1 : ((i + 1 : Nat) : Int) = (i : Int) + 1 := by omega
      rw [e1]; exact he'
    · have hb' : b < s.heap.objs.size := by
        have e' : b = e ∨ b = it := by simpa using hb
        rcases e' with z | z
        · rw [z]; exact hel
        · rw [z]; exact hil
      rw [upd_ne (Nat.ne_of_lt hb')]
      exact (hf b hb).1
  done := by
    intro X hP hw hK hc i pins s σ H E I hf st hg
    subst hP hw hK
    obtain ⟨⟨old, he⟩, hit, hne⟩ := st
    obtain ⟨xs, hq, hx⟩ := hg
    obtain ⟨its, rv, p, hz⟩ := I.tuple hq
    obtain ⟨f0, f1, f2, f3, f4, f5⟩ := hf it (by simp)
    have hl := rv.length
    have pt : s.heap.IsTuple a its.toArray := p
    have hT : s.TypeIs (.ref e) "enumerate" := ⟨_, he, rfl⟩
    unfold pyNext
    refine wpAny_bind (wpAny_attempt (wpAny_callSpecial?_slot (name := Str.ofString "__next__") hT F.slot_enumerate_next
      (wpAny_call_entry F.slot_enumerate_next hT F.entry_enumerate_next ?_ (F.args_enumerate_next_1 _))))
    show wpAny _ _ (field (.ref e) 2 >>= _) _ _ _
    refine wpAny_bind (wpAny_field he rfl (x := .ref it) rfl (wpAny_bind (wpAny_nextOf_tuple_end (I.ok.hd hc) hit pt (by simp; omega) fun h' x he' hx' => ?_)))
    obtain ⟨o, ho, hco⟩ := hx'
    refine wpAny_bind (wpAny_isInstance (T := "StopIteration") (b := true) ⟨o, ho, hco⟩ isSubtype_stop ?_)
    exact wpAny_pure ⟨rfl, I.turned (t' := s.toks) (fun b o hb q => he' b o hb q) f0 f1 f3 f4 f5⟩
  self := fun A i s Q E st h => let ⟨⟨_, he⟩, _⟩ := st; wpAny_pyIter_enum he h
def iEnumT (K : PySem.W.Frag) (ta : TA) : TI := fun σ H R => ta σ H fun vs H1 => ∃ a xs, vs = [.ref a] ∧ SqT K H1 a xs ∧ R (Itu K a) H1
theorem pi_enumT {X : Cx} {e : Expr} {ta : TA} {p pos tpos : Pos} {elts : List Expr} {kk : Nat} (hg : Gl X "enumerate") (hm : X.mg "enumerate" = none) (ha : PA X [e] ta) (hs : starEach [e] X.env = [(false, eval e X.env)] := by rfl) :
    PI X (.Tuple elts kk tpos) (.Call (.Name "enumerate" p) [e] [] pos) (iEnumT X.K ta) := by
  refine ⟨fun pins s σ H R I h => ?_⟩
  refine Call_ (ld_blt I hg hm boot_enumerate (PyProof.Rows.callWith_type1 (thn (ha.run pos pins s σ H _ I h) fun us s1 ⟨vs, H1, I1, r1, q1⟩ => ?_) hs rfl))
  obtain ⟨a, xs, ex, hq, q⟩ := q1
  subst ex
  cases r1 with
  | cons r rr =>
    cases rr
    cases r
    obtain ⟨its, rv, p', hz⟩ := I1.tuple hq
    refine call_tuple (show s1.heap.IsTuple a its.toArray from p') fun h' he hit hsz hk => wpAny_pyIter_enum he ?_
    have I2 : Inv X pins σ H1 { s1 with heap := h' } := I1.kept (t' := s1.toks) hk
    refine ⟨s1.heap.objs.size + 1, [s1.heap.objs.size + 1, s1.heap.objs.size], _, _, H1, rfl, I2, turn a (s1.heap.objs.size + 1) s1.heap.objs.size, ⟨⟨.none, he⟩, hit, Nat.succ_ne_self _⟩, fun b hb => ?_, q⟩
    have e' : b = s1.heap.objs.size + 1 ∨ b = s1.heap.objs.size := by simpa using hb
    have hle : s1.heap.objs.size ≤ b := by
      rcases e' with z | z
      · rw [z]; exact Nat.le_add_right _ _
      · rw [z]; exact Nat.le_refl _
    exact I1.fpOk hle (I1.hok.fresh hle)
theorem for_enumT {K : PySem.W.Frag} {a : Addr} {xs : List V} {g : TG} {tb : TS} {D : Ends} {σ : L2.St} {H : Hp} (Pv : Nat → L2.St → Hp → Prop) (h0 : Pv 0 σ H) (hq : ∀ i σ H, Pv i σ H → SqT K H a xs)
    (hs : ∀ (i : Nat) (x : V) (T : Addr) (σ : L2.St) (H : Hp), xs[i]? = some x → Pv i σ H → H T = none → g (.ref T) σ (upd H T (.tup [.int (i : Nat), x])) fun σ2 H2 => tb { D with nx := Pv (i + 1), ct := Pv (i + 1), bk := D.nx } σ2 H2) (hd : ∀ σ H, Pv xs.length σ H → D.nx σ H) :
    ∃ W : Nat → Nat → L2.St → Hp → Prop, (∃ m, W 0 m σ H) ∧ ∀ i m σ H, W i m σ H →
      ((Itu K a).stop i H ∧ D.nx σ H) ∨ ((Itu K a).go i H ∧ ∃ N : L2.St → Hp → Prop, (∀ σ' H', N σ' H' → ∃ m', m' < m ∧ W (i + 1) m' σ' H') ∧ ∀ v H', (Itu K a).yld i H v H' → g v σ H' fun σ2 H2 => tb { D with nx := N, ct := N, bk := D.nx } σ2 H2) := by
  refine ⟨fun i m σ H => m = xs.length - i ∧ i ≤ xs.length ∧ Pv i σ H, ⟨xs.length, rfl, Nat.zero_le _, h0⟩, ?_⟩
  rintro i m σ H ⟨rfl, hi, p⟩
  have qx := hq i σ H p
  by_cases hlt : i < xs.length
  · have hx : xs[i]? = some xs[i] := List.getElem?_eq_getElem hlt
    refine .inr ⟨⟨xs, _, qx, hx⟩, Pv (i + 1), fun σ' H' p' => ⟨xs.length - (i + 1), by omega, rfl, hlt, p'⟩, fun v H' y => ?_⟩
    obtain ⟨T, x', rfl, hT, rfl, f1⟩ := y
    exact hs i x' T σ H (f1 xs qx) p hT
  · have e : i = xs.length := by omega
    subst e
    exact .inl ⟨⟨xs, qx, Nat.le_refl _⟩, hd σ H p⟩
end En

namespace K1
open PySem L2 Bx
def top (i : Nat) : Stmt := PySem.Challenge.pw_behindexits_k01_whole_literals_judged.main.body.getD i (.Pass ⟨0, 0, 0, 0⟩)
abbrev s_NoLiterals_init : Stmt := inClass (top 2) 0
abbrev N_NoLiterals_init : List Str := ["self", "at"]
theorem sc_NoLiterals_init : FnScope N_NoLiterals_init ["self", "at"] (C8.fnScope s_NoLiterals_init) := ⟨rfl, rfl, rfl, by decide +kernel, rfl, by decide +kernel, by decide +kernel⟩
abbrev s_is_number : Stmt := top 4
abbrev N_is_number : List Str := ["thing"]
theorem sc_is_number : FnScope N_is_number ["thing"] (C8.fnScope s_is_number) := ⟨rfl, rfl, rfl, by decide +kernel, rfl, by decide +kernel, by decide +kernel⟩
abbrev s_is_literal : Stmt := top 5
abbrev N_is_literal : List Str := ["thing", "left", "right", "number"]
theorem sc_is_literal : FnScope N_is_literal ["thing"] (C8.fnScope s_is_literal) := ⟨rfl, rfl, rfl, by decide +kernel, rfl, by decide +kernel, by decide +kernel⟩
abbrev s_check_literals : Stmt := top 8
abbrev N_check_literals : List Str := ["literals", "at", "literal"]
theorem sc_check_literals : FnScope N_check_literals ["literals"] (C8.fnScope s_check_literals) := ⟨rfl, rfl, rfl, by decide +kernel, rfl, by decide +kernel, by decide +kernel⟩
abbrev s_solved : Stmt := top 9
abbrev N_solved : List Str := ["literals", "heights", "lowered_by", "_", "lowered", "zero", "left", "right", "number", "term"]
theorem sc_solved : FnScope N_solved ["literals"] (C8.fnScope s_solved) := ⟨rfl, rfl, rfl, by decide +kernel, rfl, by decide +kernel, by decide +kernel⟩
abbrev s_lower_once : Stmt := top 10
abbrev N_lower_once : List Str := ["literals", "heights", "lowered_by", "lowered", "at", "left", "right", "number"]
theorem sc_lower_once : FnScope N_lower_once ["literals", "heights", "lowered_by"] (C8.fnScope s_lower_once) := ⟨rfl, rfl, rfl, by decide +kernel, rfl, by decide +kernel, by decide +kernel⟩
abbrev s_ring_behind : Stmt := top 11
abbrev N_ring_behind : List Str := ["literals", "lowered_by", "term", "_", "ring", "following"]
theorem sc_ring_behind : FnScope N_ring_behind ["literals", "lowered_by", "term"] (C8.fnScope s_ring_behind) := ⟨rfl, rfl, rfl, by decide +kernel, rfl, by decide +kernel, by decide +kernel⟩
abbrev s_l_well : Stmt := top 13
abbrev N_l_well : List Str := ["_law_cell"]
theorem sc_l_well : FnScope N_l_well ["_law_cell"] (C8.fnScope s_l_well) := ⟨rfl, rfl, rfl, by decide +kernel, rfl, by decide +kernel, by decide +kernel⟩
abbrev s_l_draw : Stmt := top 14
abbrev N_l_draw : List Str := ["_law_well_here", "_law_base", "_law_digit", "_law_number_here"]
theorem sc_l_draw : FnScope N_l_draw ["_law_well_here", "_law_base"] (C8.fnScope s_l_draw) := ⟨rfl, rfl, rfl, by decide +kernel, rfl, by decide +kernel, by decide +kernel⟩
abbrev s_l_one : Stmt := top 15
abbrev N_l_one : List Str := ["_law_well_here", "_law_some"]
theorem sc_l_one : FnScope N_l_one ["_law_well_here", "_law_some"] (C8.fnScope s_l_one) := ⟨rfl, rfl, rfl, by decide +kernel, rfl, by decide +kernel, by decide +kernel⟩
abbrev s_l_is_integer : Stmt := top 16
abbrev N_l_is_integer : List Str := ["_law_told"]
theorem sc_l_is_integer : FnScope N_l_is_integer ["_law_told"] (C8.fnScope s_l_is_integer) := ⟨rfl, rfl, rfl, by decide +kernel, rfl, by decide +kernel, by decide +kernel⟩
abbrev s_l_number : Stmt := top 17
abbrev N_l_number : List Str := ["_law_well_here", "_law_wide"]
theorem sc_l_number : FnScope N_l_number ["_law_well_here", "_law_wide"] (C8.fnScope s_l_number) := ⟨rfl, rfl, rfl, by decide +kernel, rfl, by decide +kernel, by decide +kernel⟩
abbrev s_l_holds : Stmt := top 18
abbrev N_l_holds : List Str := ["_law_literal", "_law_found", "_law_less", "_law_more"]
theorem sc_l_holds : FnScope N_l_holds ["_law_literal", "_law_found"] (C8.fnScope s_l_holds) := ⟨rfl, rfl, rfl, by decide +kernel, rfl, by decide +kernel, by decide +kernel⟩
abbrev s_l_is_values : Stmt := top 19
abbrev N_l_is_values : List Str := ["_law_literals", "_law_found", "_law_due", "_law_one_here", "_law_term"]
theorem sc_l_is_values : FnScope N_l_is_values ["_law_literals", "_law_found"] (C8.fnScope s_l_is_values) := ⟨rfl, rfl, rfl, by decide +kernel, rfl, by decide +kernel, by decide +kernel⟩
abbrev s_l_is_ring : Stmt := top 20
abbrev N_l_is_ring : List Str := ["_law_literals", "_law_indices", "_law_total", "_law_k", "_law_at"]
theorem sc_l_is_ring : FnScope N_l_is_ring ["_law_literals", "_law_indices"] (C8.fnScope s_l_is_ring) := ⟨rfl, rfl, rfl, by decide +kernel, rfl, by decide +kernel, by decide +kernel⟩
abbrev s_l_judged : Stmt := top 21
abbrev N_l_judged : List Str := ["_law_literals", "_law_told"]
theorem sc_l_judged : FnScope N_l_judged ["_law_literals", "_law_told"] (C8.fnScope s_l_judged) := ⟨rfl, rfl, rfl, by decide +kernel, rfl, by decide +kernel, by decide +kernel⟩
abbrev s_law : Stmt := top 22
abbrev N_law : List Str := ["_law_script", "_law_cell", "_law_well_here", "_law_wide", "_law_terms", "_law_literals", "_law_k", "_law_passed", "_law_told"]
theorem sc_law : FnScope N_law ["_law_script"] (C8.fnScope s_law) := ⟨rfl, rfl, rfl, by decide +kernel, rfl, by decide +kernel, by decide +kernel⟩
structure Txt (mg : Str → Option Value) : Prop where
  c_MOST_LITERALS : ∃ u, mg "MOST_LITERALS" = some u ∧ RelV (.int 300) u
  z_isinstance : mg "isinstance" = none
  z_len : mg "len" = none
  z_int : mg "int" = none
  z_bool : mg "bool" = none
  z_tuple : mg "tuple" = none
  z_list : mg "list" = none
  z_str : mg "str" = none
  z_set : mg "set" = none
  z_range : mg "range" = none
  z_enumerate : mg "enumerate" = none
  z_sorted : mg "sorted" = none
  z_dict : mg "dict" = none
end K1

namespace K1
open PySem L2 Bx
section
variable {P : Program} {w : World} {K : PySem.W.Frag} {mg : Str → Option Value} {base : Heap}
/-- is it a whole number: any value whose class is known -/
def spNum (K : PySem.W.Frag) : Sp := fun vs H Q _ => ∃ (v : V) (t : Value) (a c : Bool), vs = [v] ∧ TyX K H v t ∧ PySem.W.kitOne K t (.type "int") = some a ∧ PySem.W.kitOne K t (.type "bool") = some c ∧ Q (.bl (a && !c)) H
theorem ok_is_number {f : Addr} {fd : FuncData} (F : C8.Def K mg "is_number" s_is_number f fd) (b : Binds K fd ["thing"] []) (T : Txt mg) : C8.Cal P w K mg base 1 "is_number" (spNum K) [] := by
  refine C8.cal0 F b .nil sc_is_number (fun vs H Q E h => ?_) (fun cdv A outer s H vs Q E hr h => ?_)
  · obtain ⟨v, t, a, c, rfl, _⟩ := h
    rfl
  · obtain ⟨v, t, a, c, rfl, ty, ka, kc, k⟩ := h
    refine ⟨_, (pss_one (ps_ret (pe_and (pe_callB call_isi (by rfl) T.z_isinstance (by decide +kernel) (pa_cons (pv 0) (pa_cons (pe_bltn (v := .ty "int") (by rfl) T.z_int (by decide +kernel) rfl) pa_nil))) (pe_one (pe_not (pe_callB call_isi (by rfl) T.z_isinstance (by decide +kernel) (pa_cons (pv 0) (pa_cons (pe_bltn (v := .ty "bool") (by rfl) T.z_bool (by decide +kernel) rfl) pa_nil)))))))), ?_⟩
    refine ⟨_, rfl, _, _, _, _, _, rfl, .ty _, ty, ka, _, rfl, ?_⟩
    cases a with
    | false => exact iteF k
    | true => exact iteT ⟨_, rfl, _, _, _, _, _, rfl, .ty _, ty, kc, _, rfl, k⟩
/-- is it a literal: here only of good ones -/
def spLitG (K : PySem.W.Frag) : Sp := fun vs H Q _ => ∃ (p : Addr) (l r : Str) (n : Int), vs = [.ref p] ∧ SqT K H p [.str l, .str r, .int n] ∧ Q (.bl true) H
theorem ok_is_literal {f : Addr} {fd : FuncData} (F : C8.Def K mg "is_literal" s_is_literal f fd) (b : Binds K fd ["thing"] []) (T : Txt mg) (K_is_number : C8.Cal P w K mg base 1 "is_number" (spNum K) []) : C8.Cal P w K mg base 2 "is_literal" (spLitG K) [] := by
  refine C8.cal0 F b .nil sc_is_literal (fun vs H Q E h => ?_) (fun cdv A outer s H vs Q E hr h => ?_)
  · obtain ⟨p, l, r, n, rfl, _⟩ := h
    rfl
  · obtain ⟨p, l, r, n, rfl, hp, k⟩ := h
    refine ⟨_, (pss_cons (ps_if (PW.pt (pw_or (pt_not (pt_val (pe_callB call_isi (by rfl) T.z_isinstance (by decide +kernel) (pa_cons (pv 0) (pa_cons (pe_bltn (v := .ty "tuple") (by rfl) T.z_tuple (by decide +kernel) rfl) pa_nil))))) (pw_or1 (pt_cmpR op_ne (pe_callB call_len_seq (by rfl) T.z_len (by decide +kernel) (pa_cons (pv 0) pa_nil)) pe_int (nomark _))))) (pss_one (ps_ret pe_bl)) pss_nil)
    (pss_cons (ps_asg (pv 0) (pg_tup (by rfl) (pgs_cons (pg_name (i := 1) sc_is_literal.nd rfl (Or.inl rfl)) (pgs_cons (pg_name (i := 2) sc_is_literal.nd rfl (Or.inl rfl)) (pgs_cons (pg_name (i := 3) sc_is_literal.nd rfl (Or.inl rfl)) pgs_nil)))))
    (pss_one (ps_ret (pe_and (pe_callB call_isi (by rfl) T.z_isinstance (by decide +kernel) (pa_cons (pv 1) (pa_cons (pe_bltn (v := .ty "str") (by rfl) T.z_str (by decide +kernel) rfl) pa_nil))) (pe_and (pe_callB call_isi (by rfl) T.z_isinstance (by decide +kernel) (pa_cons (pv 2) (pa_cons (pe_bltn (v := .ty "str") (by rfl) T.z_str (by decide +kernel) rfl) pa_nil))) (pe_one (C8.pe_c K_is_number hr (by decide) (by rfl) (pa_cons (pv 3) pa_nil))))))))), ?_⟩
    refine ⟨_, rfl, _, _, _, _, true, rfl, .ty _, tyT hp, rfl, _, rfl, ?_⟩
    refine iteF ?_
    refine ⟨_, rfl, p, _, rfl, .inr hp, rfl, _, rfl, ?_⟩
    refine iteF ?_
    refine ⟨_, rfl, p, _, rfl, hp, rfl, _, _, rfl, _, _, rfl, _, _, rfl, rfl, ?_⟩
    refine ⟨_, rfl, _, _, _, _, true, rfl, .ty _, .base (.str l), rfl, _, rfl, ?_⟩
    refine iteT ⟨_, rfl, _, _, _, _, true, rfl, .ty _, .base (.str r), rfl, _, rfl, ?_⟩
    refine iteT ⟨_, rfl, _, _, true, false, rfl, .base (.int n), rfl, rfl, ?_⟩
    exact k
/-- literals at ts -/
def LitsAt (K : PySem.W.Frag) (H : Hp) (ts : List Addr) (lits : List (Str × Str × Int)) : Prop :=
  ts.length = lits.length ∧ ∀ (j : Nat) (q : Str × Str × Int), lits[j]? = some q → ∃ t, ts[j]? = some t ∧ SqT K H t [.str q.1, .str q.2.1, .int q.2.2]
theorem LitsAt.mono {H H' : Hp} {ts : List Addr} {lits : List (Str × Str × Int)} (e : Same H H') (h : LitsAt K H ts lits) : LitsAt K H' ts lits :=
  ⟨h.1, fun j q hj => (h.2 j q hj).imp fun t z => ⟨z.1, Same.seqT e z.2⟩⟩
def spChkG (K : PySem.W.Frag) : Sp := fun vs H Q _ => ∃ (p : Addr) (ts : List Addr) (lits : List (Str × Str × Int)), vs = [.ref p] ∧ SqL K H p (ts.map V.ref) ∧ LitsAt K H ts lits ∧ lits.length ≤ 300 ∧ ∀ H', Same H H' → Q .non H'
theorem ok_check_literals {f : Addr} {fd : FuncData} (F : C8.Def K mg "check_literals" s_check_literals f fd) (b : Binds K fd ["literals"] []) (T : Txt mg) (K_is_literal : C8.Cal P w K mg base 2 "is_literal" (spLitG K) []) : C8.Cal P w K mg base 3 "check_literals" (spChkG K) [] := by
  refine C8.cal0 F b .nil sc_check_literals (fun vs H Q E h => ?_) (fun cdv A outer s H vs Q E hr h => ?_)
  · obtain ⟨p, ts, lits, rfl, _⟩ := h
    rfl
  · obtain ⟨p, ts, lits, rfl, hp, hL, hl, k⟩ := h
    refine ⟨_, (pss_cons (ps_if (PW.pt (pw_or (pt_not (pt_val (pe_callB call_isiT (by rfl) T.z_isinstance (by decide +kernel) (pa_cons (pv 0) (pa_cons (pe_tup (pa_cons (pe_bltn (v := .ty "list") (by rfl) T.z_list (by decide +kernel) rfl) (pa_cons (pe_bltn (v := .ty "tuple") (by rfl) T.z_tuple (by decide +kernel) rfl) pa_nil))) pa_nil))))) (pw_or1 (pt_cmpR op_gt (pe_callB call_len_seq (by rfl) T.z_len (by decide +kernel) (pa_cons (pv 0) pa_nil)) (C8.pe_gc (by rfl) T.c_MOST_LITERALS) (nomark _))))) (pss_one ps_never) pss_nil)
    (pss_one (ps_for PassesOwn.never rfl (pi_enum (by rfl) T.z_enumerate (pa_cons (pv 0) pa_nil)) (pg_tup (by rfl) (pgs_cons (pg_name (i := 1) sc_check_literals.nd rfl (Or.inl rfl)) (pgs_cons (pg_name (i := 2) sc_check_literals.nd rfl (Or.inl rfl)) pgs_nil)))
    (pss_one (ps_if (pt_not (pt_val (C8.pe_c K_is_literal hr (by decide) (by rfl) (pa_cons (pv 2) pa_nil)))) (pss_one ps_never) pss_nil))))), ?_⟩
    refine ⟨_, rfl, (by show 2 ≤ sizeLine; decide), fun p1 n1 => ?_⟩
    have s1 : Same H (upd H p1 (.tup [.ty "list", .ty "tuple"])) := Same.new n1
    have hp1 := Same.seq s1 hp
    refine ⟨_, p1, _, _, _, true, rfl, upd_same, .cons (.ty _) (.cons (.ty _) .nil), tyL hp1, rfl, _, rfl, ?_⟩
    refine iteF ?_
    refine ⟨_, rfl, p, _, rfl, .inl hp1, _, _, rfl, rfl, _, rfl, ?_⟩
    have e300 : decide ((300 : Int) < ((ts.map V.ref).length : Nat)) = false := decide_eq_false (by rw [List.length_map, hL.1]; omega)
    rw [e300]
    refine iteF ?_
    refine ⟨_, rfl, p, _, rfl, hp1, for_enumL (xs := ts.map V.ref) (fun i σ H' => ∃ v1 v2, σ = [some (.ref p), v1, v2] ∧ Same H H') ⟨none, none, rfl, s1⟩ (fun i σ H' ⟨_, _, _, e⟩ => Same.seq e hp) ?_ ?_⟩
    · rintro i x q σ H' hx ⟨v1, v2, rfl, e⟩ hq
      rw [List.getElem?_map] at hx
      obtain ⟨t, ht, rfl⟩ := Option.map_eq_some_iff.mp hx
      have hi : i < lits.length := by
        rw [← hL.1]
        exact (List.getElem?_eq_some_iff.mp ht).1
      obtain ⟨t', ht', hs⟩ := hL.2 i _ (List.getElem?_eq_getElem hi)
      have et : t' = t := Option.some.inj (ht'.symm.trans ht)
      subst et
      have e2 : Same H (upd H' q (.tup [.int (i : Nat), .ref t'])) := e.trans (Same.new hq)
      refine ⟨q, _, rfl, .inl (.inl upd_same), rfl, _, _, rfl, _, _, rfl, rfl, ?_⟩
      refine ⟨_, rfl, t', _, _, _, rfl, Same.seqT e2 hs, _, rfl, ?_⟩
      exact iteF ⟨_, _, rfl, e2⟩
    · rintro σ H' ⟨v1, v2, rfl, e⟩
      exact k H' e
def spChkGT (K : PySem.W.Frag) : Sp := fun vs H Q _ => ∃ (p : Addr) (ts : List Addr) (lits : List (Str × Str × Int)), vs = [.ref p] ∧ SqT K H p (ts.map V.ref) ∧ LitsAt K H ts lits ∧ lits.length ≤ 300 ∧ ∀ H', Same H H' → Q .non H'
theorem ok_check_literalsT {f : Addr} {fd : FuncData} (F : C8.Def K mg "check_literals" s_check_literals f fd) (b : Binds K fd ["literals"] []) (T : Txt mg) (K_is_literal : C8.Cal P w K mg base 2 "is_literal" (spLitG K) []) : C8.Cal P w K mg base 3 "check_literals" (spChkGT K) [] := by
  refine C8.cal0 F b .nil sc_check_literals (fun vs H Q E h => ?_) (fun cdv A outer s H vs Q E hr h => ?_)
  · obtain ⟨p, ts, lits, rfl, _⟩ := h
    rfl
  · obtain ⟨p, ts, lits, rfl, hp, hL, hl, k⟩ := h
    refine ⟨_, (pss_cons (ps_if (PW.pt (pw_or (pt_not (pt_val (pe_callB call_isiT (by rfl) T.z_isinstance (by decide +kernel) (pa_cons (pv 0) (pa_cons (pe_tup (pa_cons (pe_bltn (v := .ty "list") (by rfl) T.z_list (by decide +kernel) rfl) (pa_cons (pe_bltn (v := .ty "tuple") (by rfl) T.z_tuple (by decide +kernel) rfl) pa_nil))) pa_nil))))) (pw_or1 (pt_cmpR op_gt (pe_callB call_len_seq (by rfl) T.z_len (by decide +kernel) (pa_cons (pv 0) pa_nil)) (C8.pe_gc (by rfl) T.c_MOST_LITERALS) (nomark _))))) (pss_one ps_never) pss_nil)
    (pss_one (ps_for PassesOwn.never rfl (En.pi_enumT (by rfl) T.z_enumerate (pa_cons (pv 0) pa_nil)) (pg_tup (by rfl) (pgs_cons (pg_name (i := 1) sc_check_literals.nd rfl (Or.inl rfl)) (pgs_cons (pg_name (i := 2) sc_check_literals.nd rfl (Or.inl rfl)) pgs_nil)))
    (pss_one (ps_if (pt_not (pt_val (C8.pe_c K_is_literal hr (by decide) (by rfl) (pa_cons (pv 2) pa_nil)))) (pss_one ps_never) pss_nil))))), ?_⟩
    refine ⟨_, rfl, (by show 2 ≤ sizeLine; decide), fun p1 n1 => ?_⟩
    have s1 : Same H (upd H p1 (.tup [.ty "list", .ty "tuple"])) := Same.new n1
    have hp1 := Same.seqT s1 hp
    refine ⟨_, p1, _, _, _, true, rfl, upd_same, .cons (.ty _) (.cons (.ty _) .nil), tyT hp1, rfl, _, rfl, ?_⟩
    refine iteF ?_
    refine ⟨_, rfl, p, _, rfl, .inr hp1, _, _, rfl, rfl, _, rfl, ?_⟩
    have e300 : decide ((300 : Int) < ((ts.map V.ref).length : Nat)) = false := decide_eq_false (by rw [List.length_map, hL.1]; omega)
    rw [e300]
    refine iteF ?_
    refine ⟨_, rfl, p, _, rfl, hp1, En.for_enumT (xs := ts.map V.ref) (fun i σ H' => ∃ v1 v2, σ = [some (.ref p), v1, v2] ∧ Same H H') ⟨none, none, rfl, s1⟩ (fun i σ H' ⟨_, _, _, e⟩ => Same.seqT e hp) ?_ ?_⟩
    · rintro i x q σ H' hx ⟨v1, v2, rfl, e⟩ hq
      rw [List.getElem?_map] at hx
      obtain ⟨t, ht, rfl⟩ := Option.map_eq_some_iff.mp hx
      have hi : i < lits.length := by
        rw [← hL.1]
        exact (List.getElem?_eq_some_iff.mp ht).1
      obtain ⟨t', ht', hs⟩ := hL.2 i _ (List.getElem?_eq_getElem hi)
      have et : t' = t := Option.some.inj (ht'.symm.trans ht)
      subst et
      have e2 : Same H (upd H' q (.tup [.int (i : Nat), .ref t'])) := e.trans (Same.new hq)
      refine ⟨q, _, rfl, .inl (.inl upd_same), rfl, _, _, rfl, _, _, rfl, rfl, ?_⟩
      refine ⟨_, rfl, t', _, _, _, rfl, Same.seqT e2 hs, _, rfl, ?_⟩
      exact iteF ⟨_, _, rfl, e2⟩
    · rintro σ H' ⟨v1, v2, rfl, e⟩
      exact k H' e
end
end K1

namespace K1
open PySem L2 Bx
theorem lg {n : Nat} (h : n < 2 ^ 64) : n.log2 < 9000 := Nat.lt_trans (PySem.Flt.log2_lt_of (by decide) h) (by decide)
def WellAt (H : Hp) (l : Addr) : Prop := ∃ x y z : Int, H l = some (.lst [.int x, .int y, .int z])
section
variable {P : Program} {w : World} {K : PySem.W.Frag} {mg : Str → Option Value} {base : Heap}
def spWell : Sp := fun vs H Q _ => ∃ (c : Int), vs = [.int c] ∧ ∀ p H', H p = none → Same H H' → WellAt H' p → Q (.ref p) H'
theorem ok_l_well {f : Addr} {fd : FuncData} (F : C8.Def K mg "_law_well" s_l_well f fd) (b : Binds K fd ["_law_cell"] []) (T : Txt mg) : C8.Cal P w K mg base 1 "_law_well" spWell [] := by
  refine C8.cal0 F b .nil sc_l_well (fun vs H Q E h => ?_) (fun cdv A outer s H vs Q E hr h => ?_)
  · obtain ⟨c, rfl, _⟩ := h
    rfl
  · obtain ⟨c, rfl, k⟩ := h
    refine ⟨_, (pss_one (ps_ret (pe_lst (pa_cons (pe_op op_mul (pv 0) (pe_callTy call_int1 (by rfl) T.z_int (by decide +kernel) (pa_cons (pe_cmpR op_ge (pv 0) (pe_op op_pow pe_int pe_int) (nomark _)) pa_nil))) (pa_cons (pe_op op_mod (pe_callTy call_int1 (by rfl) T.z_int (by decide +kernel) (pa_cons (pv 0) pa_nil)) pe_int) (pa_cons pe_int pa_nil)))))), ?_⟩
    refine ⟨_, rfl, _, rfl, _, _, rfl, rfl, ⟨by decide, by decide, by decide⟩, _, _, rfl, rfl, .inr ⟨_, rfl, _, _, rfl, rfl, .inr ⟨by split <;> decide, by split <;> decide⟩, _, rfl, .inl ⟨_, rfl, _, _, rfl, rfl, (by show (0 : Int) < 2147483587; decide), (by show 3 ≤ sizeLine; decide), fun p hp => ?_⟩⟩⟩
    exact k p _ hp (Same.new hp) ⟨_, _, _, upd_same⟩
def spDraw : Sp := fun vs H Q _ => ∃ (l : Addr) (b : Int), vs = [.ref l, .int b] ∧ WellAt H l ∧ 0 < b ∧ b.natAbs.log2 < 9000 ∧ ∀ (r : Int) (H' : Hp), 0 ≤ r → r < b → WellAt H' l → But l H H' → Q (.int r) H'
theorem ok_l_draw {f : Addr} {fd : FuncData} (F : C8.Def K mg "_law_draw" s_l_draw f fd) (b : Binds K fd ["_law_well_here", "_law_base"] []) (T : Txt mg) : C8.Cal P w K mg base 1 "_law_draw" spDraw [] := by
  refine C8.cal0 F b .nil sc_l_draw (fun vs H Q E h => ?_) (fun cdv A outer s H vs Q E hr h => ?_)
  · obtain ⟨l, b, rfl, _⟩ := h
    rfl
  · obtain ⟨l, b, rfl, ⟨x, y, z, hW⟩, hb, hlg, k⟩ := h
    refine ⟨_, (pss_cons (ps_if (pt_cmpR op_gt (pe_ix ix_list (pv 0) pe_int (fun _ _ => rfl)) pe_int (nomark _)) (pss_cons (ps_set (i := 2) sc_l_draw.nd rfl (Or.inl rfl) (pe_op op_mod (pe_callTy call_int1 (by rfl) T.z_int (by decide +kernel) (pa_cons (pe_ix ix_list (pv 0) pe_int (fun _ _ => rfl)) pa_nil)) (pv 1)))
    (pss_cons (ps_asg (pe_op op_fdivW (pe_ix ix_list (pv 0) pe_int (fun _ _ => rfl)) (pv 1)) (pg_sub (pv 0) pe_int set_list))
    (pss_one (ps_ret (pv 2))))) pss_nil)
    (pss_cons (ps_asg (pe_op op_add (pe_ix ix_list (pv 0) pe_int (fun _ _ => rfl)) pe_int) (pg_sub (pv 0) pe_int set_list))
    (pss_cons (ps_set (i := 3) sc_l_draw.nd rfl (Or.inl rfl) (pe_op op_mod (pe_callTy call_int1 (by rfl) T.z_int (by decide +kernel) (pa_cons (pe_op op_mul (pe_callTy call_int1 (by rfl) T.z_int (by decide +kernel) (pa_cons (pe_op op_add (pe_op op_add (pe_ix ix_list (pv 0) pe_int (fun _ _ => rfl)) (pe_op op_mul pe_int (pe_ix ix_list (pv 0) pe_int (fun _ _ => rfl)))) pe_int) pa_nil)) pe_int) pa_nil)) pe_int))
    (pss_cons (ps_set (i := 3) sc_l_draw.nd rfl (Or.inl rfl) (pe_op op_mod (pe_callTy call_int1 (by rfl) T.z_int (by decide +kernel) (pa_cons (pe_op op_mul (pv 3) (pe_op op_add (pe_op op_fdiv (pv 3) pe_int) pe_int)) pa_nil)) pe_int))
    (pss_one (ps_ret (pe_op op_mod (pe_op op_fdiv (pe_op op_mod (pe_callTy call_int1 (by rfl) T.z_int (by decide +kernel) (pa_cons (pe_op op_mul (pv 3) (pe_op op_add (pe_op op_fdiv (pv 3) pe_int) pe_int)) pa_nil)) pe_int) pe_int) (pv 1)))))))), ?_⟩
    refine ⟨_, rfl, l, _, _, _, rfl, rfl, SqL.of hW, rfl, _, _, rfl, rfl, _, rfl, ?_⟩
    refine ite2 (fun hx => ?_) (fun hx => ?_)
    · refine ⟨_, rfl, l, _, _, _, rfl, rfl, SqL.of hW, rfl, .inl ⟨_, rfl, _, rfl, _, _, rfl, rfl, hb, ?_⟩⟩
      refine ⟨_, rfl, l, _, _, _, rfl, rfl, SqL.of hW, rfl, _, rfl, _, _, rfl, rfl, ⟨hb, hlg⟩, _, rfl, l, _, _, _, rfl, rfl, hW, rfl, ?_⟩
      refine ⟨_, rfl, ?_⟩
      exact k _ _ (Int.emod_nonneg _ (by omega)) (Int.emod_lt_of_pos _ hb) ⟨_, _, _, upd_same⟩ But.upd
    · refine ⟨_, rfl, l, _, _, _, rfl, rfl, SqL.of hW, rfl, _, _, rfl, rfl, _, rfl, l, _, _, _, rfl, rfl, hW, rfl, ?_⟩
      refine ⟨_, rfl, l, _, _, _, rfl, rfl, SqL.of upd_same, rfl, _, rfl, l, _, _, _, rfl, rfl, SqL.of upd_same, rfl, _, _, rfl, rfl, .inl ⟨by decide, by decide⟩, _, _, rfl, rfl, _, _, rfl, rfl, .inl ⟨_, rfl, _, _, rfl, rfl, .inr ⟨by decide, by decide⟩, .inl ⟨_, rfl, _, _, rfl, rfl, (by show (0 : Int) < 2147483647; decide), ?_⟩⟩⟩
      generalize hn : ((y + 6131 * (z + 1) + 17) * 48271) % 2147483647 = n
      have n0 : 0 ≤ n := by omega
      have n1 : n < 2147483647 := by omega
      refine ⟨_, rfl, _, rfl, _, _, rfl, rfl, ⟨by decide, by decide⟩, _, _, rfl, rfl, _, _, rfl, rfl, .inl ⟨by omega, by omega⟩, .inl ⟨_, rfl, _, _, rfl, rfl, (by show (0 : Int) < 2147483647; decide), ?_⟩⟩
      generalize hm : (n * (n / 1013 + 69621)) % 2147483647 = m
      have m0 : 0 ≤ m := by rw [← hm]; exact Int.emod_nonneg _ (by decide)
      have m1 : m < 2147483647 := by rw [← hm]; exact Int.emod_lt_of_pos _ (by decide)
      refine ⟨_, rfl, _, rfl, _, _, rfl, rfl, ⟨by decide, by decide⟩, _, _, rfl, rfl, _, _, rfl, rfl, .inl ⟨by omega, by omega⟩, .inl ⟨_, rfl, _, _, rfl, rfl, (by show (0 : Int) < 2147483399; decide), _, _, rfl, rfl, ⟨by decide, by decide⟩, _, rfl, _, _, rfl, rfl, hb, ?_⟩⟩
      exact k _ _ (Int.emod_nonneg _ (by omega)) (Int.emod_lt_of_pos _ hb) ⟨_, _, _, upd_same⟩ But.upd
def spOne (K : PySem.W.Frag) : Sp := fun vs H Q _ => ∃ (l p : Addr) (xs : List V), vs = [.ref l, .ref p] ∧ WellAt H l ∧ p ≠ l ∧ SqL K H p xs ∧ 0 < xs.length ∧ xs.length < 100000 ∧ ∀ (v : V) (H' : Hp), v ∈ xs → WellAt H' l → But l H H' → Q v H'
theorem ok_l_one {f : Addr} {fd : FuncData} (F : C8.Def K mg "_law_one" s_l_one f fd) (b : Binds K fd ["_law_well_here", "_law_some"] []) (T : Txt mg) (K_l_draw : C8.Cal P w K mg base 1 "_law_draw" spDraw []) : C8.Cal P w K mg base 2 "_law_one" (spOne K) [] := by
  refine C8.cal0 F b .nil sc_l_one (fun vs H Q E h => ?_) (fun cdv A outer s H vs Q E hr h => ?_)
  · obtain ⟨l, p, xs, rfl, _⟩ := h
    rfl
  · obtain ⟨l, p, xs, rfl, hW, hpl, hp, h0, h1, k⟩ := h
    refine ⟨_, (pss_one (ps_ret (pe_ix ix_list (pv 1) (C8.pe_c K_l_draw hr (by decide) (by rfl) (pa_cons (pv 0) (pa_cons (pe_callB call_len_seq (by rfl) T.z_len (by decide +kernel) (pa_cons (pv 1) pa_nil)) pa_nil))) (fun _ _ => rfl)))), ?_⟩
    refine ⟨_, rfl, _, rfl, _, rfl, p, _, rfl, .inl hp, l, _, rfl, hW, by omega, lg (by omega), fun r H' r0 r1 W' B' => ?_⟩
    obtain ⟨j, rfl⟩ : ∃ j : Nat, r = (j : Int) := ⟨r.toNat, by omega⟩
    have hj : j < xs.length := by omega
    refine ⟨p, _, _, _, rfl, rfl, B'.seq hpl hp, atI_nat (List.getElem?_eq_getElem hj), ?_⟩
    exact k _ _ (List.getElem_mem hj) W' B'
end
end K1

namespace K1
open PySem L2 Bx
section
variable {P : Program} {w : World} {K : PySem.W.Frag} {mg : Str → Option Value} {base : Heap}
/-- all but two dicts -/
def But2 (x y : Addr) (H H' : Hp) : Prop := ∀ b o, H b = some o → b ≠ x → b ≠ y → H' b = some o
theorem But2.refl (x y : Addr) (H : Hp) : But2 x y H H := fun _ _ h _ _ => h
theorem But2.trans {x y : Addr} {H H1 H2 : Hp} (a : But2 x y H H1) (b : But2 x y H1 H2) : But2 x y H H2 := fun c o h n m => b c o (a c o h n m) n m
theorem But2.of {x y : Addr} {H H' : Hp} (a : Same H H') : But2 x y H H' := fun c o h _ _ => a c o h
theorem But2.seq {x y : Addr} {H H' : Hp} {k1 k2 : List (Key × V)} {a : Addr} {xs : List V} (hx : H x = some (.dK k1)) (hy : H y = some (.dK k2)) (e : But2 x y H H') (h : SqL K H a xs) : SqL K H' a xs := by
  rcases h with (h | ⟨o, h⟩) | h
  · exact .inl (.inl (e _ _ h (ne_of h hx (by intro q; cases q)) (ne_of h hy (by intro q; cases q))))
  · exact .inl (.inr ⟨o, e _ _ h (ne_of h hx (by intro q; cases q)) (ne_of h hy (by intro q; cases q))⟩)
  · exact .inr h
theorem But2.seqT {x y : Addr} {H H' : Hp} {k1 k2 : List (Key × V)} {a : Addr} {xs : List V} (hx : H x = some (.dK k1)) (hy : H y = some (.dK k2)) (e : But2 x y H H') (h : SqT K H a xs) : SqT K H' a xs := by
  rcases h with (h | ⟨o, h⟩) | h
  · exact .inl (.inl (e _ _ h (ne_of h hx (by intro q; cases q)) (ne_of h hy (by intro q; cases q))))
  · exact .inl (.inr ⟨o, e _ _ h (ne_of h hx (by intro q; cases q)) (ne_of h hy (by intro q; cases q))⟩)
  · exact .inr h
theorem LitsAt.but2 {x y : Addr} {H H' : Hp} {k1 k2 : List (Key × V)} {ts : List Addr} {lits : List (Str × Str × Int)} (hx : H x = some (.dK k1)) (hy : H y = some (.dK k2)) (e : But2 x y H H') (h : LitsAt K H ts lits) : LitsAt K H' ts lits :=
  ⟨h.1, fun j q hj => (h.2 j q hj).imp fun t z => ⟨z.1, But2.seqT hx hy e z.2⟩⟩
theorem dget_hk {H : Hp} {a : Addr} {ks : List Str} {h : Str → Int} {t : Str} (e : H a = some (.dK (hk ks h))) (m : t ∈ ks) : DGet H a (.str t) (some (.int (h t))) := by
  have := DGet.k (k := (Sum.inr t : Key)) e
  rw [hk_get m] at this
  exact this
theorem dget_bk {H : Hp} {a : Addr} {bs : List Str} {b : Str → Option Nat} {t : Str} {i : Nat} (e : H a = some (.dK (bk bs b))) (ok : ByOk bs b) (hb : b t = some i) : DGet H a (.str t) (some (.int (i : Nat))) := by
  have := DGet.k (k := (Sum.inr t : Key)) e
  rw [bk_get ((ok.2 t).mpr (by rw [hb]; exact fun q => by cases q)) hb] at this
  exact this
def lowV : Option Str → V
  | none => .non
  | some t => .str t
/-- what lower_once, ring_behind are handed -/
structure At (K : PySem.W.Frag) (H : Hp) (p hd bd : Addr) (ts : List Addr) (lits : List (Str × Str × Int)) (ks bs : List Str) (s : Bf.Sta Str) : Prop where
  hp : SqL K H p (ts.map V.ref)
  hL : LitsAt K H ts lits
  l300 : lits.length ≤ 300
  hh : H hd = some (.dK (hk ks s.h))
  hb : H bd = some (.dK (bk bs s.by_))
  ne : hd ≠ bd
  ends : ∀ q ∈ lits, q.1 ∈ ks ∧ q.2.1 ∈ ks
  ok : ByOk bs s.by_
  k1000 : ks.length ≤ 1000
  good : Bf.Good lits s
theorem At.b1000 {H : Hp} {p hd bd : Addr} {ts : List Addr} {lits : List (Str × Str × Int)} {ks bs : List Str} {s : Bf.Sta Str} (A : At K H p hd bd ts lits ks bs s) : bs.length ≤ 1000 := by
  refine Nat.le_trans (Bf.len_le A.ok.1 fun t ht => ?_) A.k1000
  obtain ⟨i, hi⟩ := Option.ne_none_iff_exists'.mp ((A.ok.2 t).mp ht)
  obtain ⟨r, n, hL, _⟩ := A.good.own t i hi
  exact (A.ends _ (List.mem_of_getElem? hL)).1
/-- what lower_once, ring_behind are handed -/
structure AtT (K : PySem.W.Frag) (H : Hp) (p hd bd : Addr) (ts : List Addr) (lits : List (Str × Str × Int)) (ks bs : List Str) (s : Bf.Sta Str) : Prop where
  hp : SqT K H p (ts.map V.ref)
  hL : LitsAt K H ts lits
  l300 : lits.length ≤ 300
  hh : H hd = some (.dK (hk ks s.h))
  hb : H bd = some (.dK (bk bs s.by_))
  ne : hd ≠ bd
  ends : ∀ q ∈ lits, q.1 ∈ ks ∧ q.2.1 ∈ ks
  ok : ByOk bs s.by_
  k1000 : ks.length ≤ 1000
  good : Bf.Good lits s
theorem AtT.b1000 {H : Hp} {p hd bd : Addr} {ts : List Addr} {lits : List (Str × Str × Int)} {ks bs : List Str} {s : Bf.Sta Str} (A : AtT K H p hd bd ts lits ks bs s) : bs.length ≤ 1000 := by
  refine Nat.le_trans (Bf.len_le A.ok.1 fun t ht => ?_) A.k1000
  obtain ⟨i, hi⟩ := Option.ne_none_iff_exists'.mp ((A.ok.2 t).mp ht)
  obtain ⟨r, n, hL, _⟩ := A.good.own t i hi
  exact (A.ends _ (List.mem_of_getElem? hL)).1
theorem szs {n : Nat} (h : n ≤ 1000) : n < sizeLine := Nat.lt_of_le_of_lt h (by decide)
theorem hk_len {ks : List Str} {h : Str → Int} : (hk ks h).length = ks.length := List.length_map ..
theorem bk_len {ks : List Str} {h : Str → Option Nat} : (bk ks h).length = ks.length := List.length_map ..
def spLower (K : PySem.W.Frag) : Sp := fun vs H Q _ => ∃ (p hd bd : Addr) (ts : List Addr) (lits : List (Str × Str × Int)) (ks bs : List Str) (s : Bf.Sta Str), vs = [.ref p, .ref hd, .ref bd] ∧ At K H p hd bd ts lits ks bs s ∧
  ∀ (bs' : List Str) (H' : Hp), But2 hd bd H H' → At K H' p hd bd ts lits ks bs' (Bf.pass lits s) → Q (lowV (Bf.pass lits s).low) H'
theorem ok_lower_once {f : Addr} {fd : FuncData} (F : C8.Def K mg "lower_once" s_lower_once f fd) (b : Binds K fd ["literals", "heights", "lowered_by"] []) (T : Txt mg) : C8.Cal P w K mg base 1 "lower_once" (spLower K) [] := by
  refine C8.cal0 F b .nil sc_lower_once (fun vs H Q E h => ?_) (fun cdv A outer s H vs Q E hr h => ?_)
  · obtain ⟨p, hd, bd, ts, lits, ks, bs, s, rfl, _⟩ := h
    rfl
  · obtain ⟨p, hd, bd, ts, lits, ks, bs, s0, rfl, W, k⟩ := h
    have hu := hu_of hr
    refine ⟨_, (pss_cons (ps_set (i := 3) sc_lower_once.nd rfl (Or.inl rfl) pe_non)
    (pss_cons (ps_for PassesOwn.never rfl (pi_enum (by rfl) T.z_enumerate (pa_cons (pv 0) pa_nil)) (pg_tup (by rfl) (pgs_cons (pg_name (i := 4) sc_lower_once.nd rfl (Or.inl rfl)) (pgs_cons (pg_tup (by rfl) (pgs_cons (pg_name (i := 5) sc_lower_once.nd rfl (Or.inl rfl)) (pgs_cons (pg_name (i := 6) sc_lower_once.nd rfl (Or.inl rfl)) (pgs_cons (pg_name (i := 7) sc_lower_once.nd rfl (Or.inl rfl)) pgs_nil)))) pgs_nil)))
    (pss_one (ps_if (pt_cmpR op_gt (pe_dget hu (pv 1) (pv 5) (fun _ _ => rfl)) (pe_op op_add (pe_dget hu (pv 1) (pv 6) (fun _ _ => rfl)) (pv 7)) (nomark _)) (pss_cons (ps_dput hu (pv 1) (pv 5) (pe_op op_add (pe_dget hu (pv 1) (pv 6) (fun _ _ => rfl)) (pv 7)) rfl)
    (pss_cons (ps_dput hu (pv 2) (pv 5) (pv 4) rfl)
    (pss_one (ps_set (i := 3) sc_lower_once.nd rfl (Or.inl rfl) (pv 5))))) pss_nil)))
    (pss_one (ps_ret (pv 3))))), ?_⟩
    refine ⟨_, rfl, p, _, rfl, W.hp, for_enumL (xs := ts.map V.ref) (fun i σ H' => ∃ (v4 v5 v6 v7 : Option V) (bs' : List Str), σ = [some (.ref p), some (.ref hd), some (.ref bd), some (lowV (Bf.some_ lits { s0 with low := none } i).low), v4, v5, v6, v7] ∧
        But2 hd bd H H' ∧ At K H' p hd bd ts lits ks bs' (Bf.some_ lits { s0 with low := none } i)) ⟨none, none, none, none, bs, rfl, But2.refl _ _ _, ⟨W.hp, W.hL, W.l300, W.hh, W.hb, W.ne, W.ends, W.ok, W.k1000, Bf.good_low W.good none⟩⟩ (fun i σ H' h => ?_) ?_ ?_⟩
    · obtain ⟨_, _, _, _, _, _, _, A'⟩ := h
      exact A'.hp
    · rintro i x q σ H1 hx ⟨v4, v5, v6, v7, bs1, rfl, B1, A1⟩ hq
      rw [List.getElem?_map] at hx
      obtain ⟨t, ht, rfl⟩ := Option.map_eq_some_iff.mp hx
      have hil : i < lits.length := by
        rw [← A1.hL.1]
        exact (List.getElem?_eq_some_iff.mp ht).1
      have hlq := List.getElem?_eq_getElem hil
      obtain ⟨t', ht', hs⟩ := A1.hL.2 i _ hlq
      have et : t' = t := Option.some.inj (ht'.symm.trans ht)
      subst et
      have em := A1.ends _ (List.mem_of_getElem? hlq)
      have estep : Bf.some_ lits { s0 with low := none } (i + 1) = Bf.one (Bf.some_ lits { s0 with low := none } i) i lits[i] := Bf.some_succ hlq
      have egood : Bf.Good lits (Bf.some_ lits { s0 with low := none } (i + 1)) := Bf.some_good (Bf.good_low W.good none) _
      rw [estep] at egood
      rw [estep]
      generalize lits[i] = ql at *
      obtain ⟨lf, rg, n⟩ := ql
      generalize Bf.some_ lits { s0 with low := none } i = s1 at *
      have S2 : Same H1 (upd H1 q (.tup [.int (i : Nat), .ref t'])) := Same.new hq
      have hh2 := S2 _ _ A1.hh
      have hb2 := S2 _ _ A1.hb
      have hs2 := Same.seqT S2 hs
      have hp2 := Same.seq S2 A1.hp
      have hL2 := A1.hL.mono S2
      have hqt : (upd H1 q (.tup [.int (i : Nat), .ref t'])) q = some (.tup [.int (i : Nat), .ref t']) := upd_same
      have B2 : But2 hd bd H (upd H1 q (.tup [.int (i : Nat), .ref t'])) := B1.trans (But2.of S2)
      generalize upd H1 q (.tup [.int (i : Nat), .ref t']) = H2 at *
      refine ⟨q, _, rfl, SqT.of hqt, rfl, _, _, rfl, _, _, rfl, t', _, rfl, hs2, rfl, _, _, rfl, _, _, rfl, _, _, rfl, rfl, rfl, ?_⟩
      refine ⟨_, rfl, _, rfl, hd, _, rfl, dget_hk hh2 em.1, _, rfl, _, rfl, hd, _, rfl, dget_hk hh2 em.2, _, rfl, _, _, rfl, rfl, _, _, rfl, rfl, _, rfl, ?_⟩
      by_cases hlt : s1.h rg + n < s1.h lf
      · rw [decide_eq_true hlt]
        refine iteT ?_
        have eone : Bf.one s1 i (lf, rg, n) = ⟨Bf.put s1.h lf (s1.h rg + n), Bf.put s1.by_ lf (some i), some lf⟩ := if_pos hlt
        rw [eone] at egood ⊢
        obtain ⟨bs2, e2, ok2, l2⟩ := bk_put (t := lf) (i := i) A1.ok
        refine ⟨_, rfl, _, rfl, hd, _, rfl, dget_hk hh2 em.2, _, rfl, _, _, rfl, rfl, _, rfl, _, rfl, hd, _, rfl, DPut.k (k := Sum.inr lf) hh2 (szs (by rw [hk_len]; exact A1.k1000)), ?_⟩
        have e1 := hk_put (h := s1.h) (n := s1.h rg + n) em.1
        rw [e1]
        have hb3 : (upd H2 hd (.dK (hk ks (Bf.put s1.h lf (s1.h rg + n))))) bd = some (.dK (bk bs1 s1.by_)) := by
          rw [upd_ne A1.ne.symm]
          exact hb2
        refine ⟨_, rfl, _, rfl, _, rfl, bd, _, rfl, DPut.k (k := Sum.inr lf) hb3 (szs (by rw [bk_len]; exact A1.b1000)), ?_⟩
        rw [e2]
        have B3 : But2 hd bd H2 (upd (upd H2 hd (.dK (hk ks (Bf.put s1.h lf (s1.h rg + n))))) bd (.dK (bk bs2 (Bf.put s1.by_ lf (some i))))) := fun c o h n1 n2 => by
          rw [upd_ne n2, upd_ne n1]
          exact h
        refine ⟨_, rfl, some (.int (i : Nat)), some (.str lf), some (.str rg), some (.int n), bs2, rfl, B2.trans B3, ?_⟩
        exact ⟨But2.seq hh2 hb2 B3 hp2, hL2.but2 hh2 hb2 B3, A1.l300, by rw [upd_ne A1.ne, upd_same], upd_same, A1.ne, A1.ends, ok2, A1.k1000, egood⟩
      · rw [decide_eq_false hlt]
        refine iteF ?_
        have eone : Bf.one s1 i (lf, rg, n) = s1 := if_neg hlt
        rw [eone] at egood ⊢
        exact ⟨some (.int (i : Nat)), some (.str lf), some (.str rg), some (.int n), bs1, rfl, B2, hp2, hL2, A1.l300, hh2, hb2, A1.ne, A1.ends, A1.ok, A1.k1000, egood⟩
    · rintro σ H1 ⟨v4, v5, v6, v7, bs1, rfl, B1, A1⟩
      have e : (ts.map V.ref).length = lits.length := by rw [List.length_map, W.hL.1]
      refine ⟨_, rfl, ?_⟩
      rw [e] at A1 ⊢
      exact k bs1 H1 B1 A1
def spLowerT (K : PySem.W.Frag) : Sp := fun vs H Q _ => ∃ (p hd bd : Addr) (ts : List Addr) (lits : List (Str × Str × Int)) (ks bs : List Str) (s : Bf.Sta Str), vs = [.ref p, .ref hd, .ref bd] ∧ AtT K H p hd bd ts lits ks bs s ∧
  ∀ (bs' : List Str) (H' : Hp), But2 hd bd H H' → AtT K H' p hd bd ts lits ks bs' (Bf.pass lits s) → Q (lowV (Bf.pass lits s).low) H'
theorem ok_lower_onceT {f : Addr} {fd : FuncData} (F : C8.Def K mg "lower_once" s_lower_once f fd) (b : Binds K fd ["literals", "heights", "lowered_by"] []) (T : Txt mg) : C8.Cal P w K mg base 1 "lower_once" (spLowerT K) [] := by
  refine C8.cal0 F b .nil sc_lower_once (fun vs H Q E h => ?_) (fun cdv A outer s H vs Q E hr h => ?_)
  · obtain ⟨p, hd, bd, ts, lits, ks, bs, s, rfl, _⟩ := h
    rfl
  · obtain ⟨p, hd, bd, ts, lits, ks, bs, s0, rfl, W, k⟩ := h
    have hu := hu_of hr
    refine ⟨_, (pss_cons (ps_set (i := 3) sc_lower_once.nd rfl (Or.inl rfl) pe_non)
    (pss_cons (ps_for PassesOwn.never rfl (En.pi_enumT (by rfl) T.z_enumerate (pa_cons (pv 0) pa_nil)) (pg_tup (by rfl) (pgs_cons (pg_name (i := 4) sc_lower_once.nd rfl (Or.inl rfl)) (pgs_cons (pg_tup (by rfl) (pgs_cons (pg_name (i := 5) sc_lower_once.nd rfl (Or.inl rfl)) (pgs_cons (pg_name (i := 6) sc_lower_once.nd rfl (Or.inl rfl)) (pgs_cons (pg_name (i := 7) sc_lower_once.nd rfl (Or.inl rfl)) pgs_nil)))) pgs_nil)))
    (pss_one (ps_if (pt_cmpR op_gt (pe_dget hu (pv 1) (pv 5) (fun _ _ => rfl)) (pe_op op_add (pe_dget hu (pv 1) (pv 6) (fun _ _ => rfl)) (pv 7)) (nomark _)) (pss_cons (ps_dput hu (pv 1) (pv 5) (pe_op op_add (pe_dget hu (pv 1) (pv 6) (fun _ _ => rfl)) (pv 7)) rfl)
    (pss_cons (ps_dput hu (pv 2) (pv 5) (pv 4) rfl)
    (pss_one (ps_set (i := 3) sc_lower_once.nd rfl (Or.inl rfl) (pv 5))))) pss_nil)))
    (pss_one (ps_ret (pv 3))))), ?_⟩
    refine ⟨_, rfl, p, _, rfl, W.hp, En.for_enumT (xs := ts.map V.ref) (fun i σ H' => ∃ (v4 v5 v6 v7 : Option V) (bs' : List Str), σ = [some (.ref p), some (.ref hd), some (.ref bd), some (lowV (Bf.some_ lits { s0 with low := none } i).low), v4, v5, v6, v7] ∧
        But2 hd bd H H' ∧ AtT K H' p hd bd ts lits ks bs' (Bf.some_ lits { s0 with low := none } i)) ⟨none, none, none, none, bs, rfl, But2.refl _ _ _, ⟨W.hp, W.hL, W.l300, W.hh, W.hb, W.ne, W.ends, W.ok, W.k1000, Bf.good_low W.good none⟩⟩ (fun i σ H' h => ?_) ?_ ?_⟩
    · obtain ⟨_, _, _, _, _, _, _, A'⟩ := h
      exact A'.hp
    · rintro i x q σ H1 hx ⟨v4, v5, v6, v7, bs1, rfl, B1, A1⟩ hq
      rw [List.getElem?_map] at hx
      obtain ⟨t, ht, rfl⟩ := Option.map_eq_some_iff.mp hx
      have hil : i < lits.length := by
        rw [← A1.hL.1]
        exact (List.getElem?_eq_some_iff.mp ht).1
      have hlq := List.getElem?_eq_getElem hil
      obtain ⟨t', ht', hs⟩ := A1.hL.2 i _ hlq
      have et : t' = t := Option.some.inj (ht'.symm.trans ht)
      subst et
      have em := A1.ends _ (List.mem_of_getElem? hlq)
      have estep : Bf.some_ lits { s0 with low := none } (i + 1) = Bf.one (Bf.some_ lits { s0 with low := none } i) i lits[i] := Bf.some_succ hlq
      have egood : Bf.Good lits (Bf.some_ lits { s0 with low := none } (i + 1)) := Bf.some_good (Bf.good_low W.good none) _
      rw [estep] at egood
      rw [estep]
      generalize lits[i] = ql at *
      obtain ⟨lf, rg, n⟩ := ql
      generalize Bf.some_ lits { s0 with low := none } i = s1 at *
      have S2 : Same H1 (upd H1 q (.tup [.int (i : Nat), .ref t'])) := Same.new hq
      have hh2 := S2 _ _ A1.hh
      have hb2 := S2 _ _ A1.hb
      have hs2 := Same.seqT S2 hs
      have hp2 := Same.seqT S2 A1.hp
      have hL2 := A1.hL.mono S2
      have hqt : (upd H1 q (.tup [.int (i : Nat), .ref t'])) q = some (.tup [.int (i : Nat), .ref t']) := upd_same
      have B2 : But2 hd bd H (upd H1 q (.tup [.int (i : Nat), .ref t'])) := B1.trans (But2.of S2)
      generalize upd H1 q (.tup [.int (i : Nat), .ref t']) = H2 at *
      refine ⟨q, _, rfl, SqT.of hqt, rfl, _, _, rfl, _, _, rfl, t', _, rfl, hs2, rfl, _, _, rfl, _, _, rfl, _, _, rfl, rfl, rfl, ?_⟩
      refine ⟨_, rfl, _, rfl, hd, _, rfl, dget_hk hh2 em.1, _, rfl, _, rfl, hd, _, rfl, dget_hk hh2 em.2, _, rfl, _, _, rfl, rfl, _, _, rfl, rfl, _, rfl, ?_⟩
      by_cases hlt : s1.h rg + n < s1.h lf
      · rw [decide_eq_true hlt]
        refine iteT ?_
        have eone : Bf.one s1 i (lf, rg, n) = ⟨Bf.put s1.h lf (s1.h rg + n), Bf.put s1.by_ lf (some i), some lf⟩ := if_pos hlt
        rw [eone] at egood ⊢
        obtain ⟨bs2, e2, ok2, l2⟩ := bk_put (t := lf) (i := i) A1.ok
        refine ⟨_, rfl, _, rfl, hd, _, rfl, dget_hk hh2 em.2, _, rfl, _, _, rfl, rfl, _, rfl, _, rfl, hd, _, rfl, DPut.k (k := Sum.inr lf) hh2 (szs (by rw [hk_len]; exact A1.k1000)), ?_⟩
        have e1 := hk_put (h := s1.h) (n := s1.h rg + n) em.1
        rw [e1]
        have hb3 : (upd H2 hd (.dK (hk ks (Bf.put s1.h lf (s1.h rg + n))))) bd = some (.dK (bk bs1 s1.by_)) := by
          rw [upd_ne A1.ne.symm]
          exact hb2
        refine ⟨_, rfl, _, rfl, _, rfl, bd, _, rfl, DPut.k (k := Sum.inr lf) hb3 (szs (by rw [bk_len]; exact A1.b1000)), ?_⟩
        rw [e2]
        have B3 : But2 hd bd H2 (upd (upd H2 hd (.dK (hk ks (Bf.put s1.h lf (s1.h rg + n))))) bd (.dK (bk bs2 (Bf.put s1.by_ lf (some i))))) := fun c o h n1 n2 => by
          rw [upd_ne n2, upd_ne n1]
          exact h
        refine ⟨_, rfl, some (.int (i : Nat)), some (.str lf), some (.str rg), some (.int n), bs2, rfl, B2.trans B3, ?_⟩
        exact ⟨But2.seqT hh2 hb2 B3 hp2, hL2.but2 hh2 hb2 B3, A1.l300, by rw [upd_ne A1.ne, upd_same], upd_same, A1.ne, A1.ends, ok2, A1.k1000, egood⟩
      · rw [decide_eq_false hlt]
        refine iteF ?_
        have eone : Bf.one s1 i (lf, rg, n) = s1 := if_neg hlt
        rw [eone] at egood ⊢
        exact ⟨some (.int (i : Nat)), some (.str lf), some (.str rg), some (.int n), bs1, rfl, B2, hp2, hL2, A1.l300, hh2, hb2, A1.ne, A1.ends, A1.ok, A1.k1000, egood⟩
    · rintro σ H1 ⟨v4, v5, v6, v7, bs1, rfl, B1, A1⟩
      have e : (ts.map V.ref).length = lits.length := by rw [List.length_map, W.hL.1]
      refine ⟨_, rfl, ?_⟩
      rw [e] at A1 ⊢
      exact k bs1 H1 B1 A1
end
end K1

namespace K1
open PySem L2 Bx
section
variable {P : Program} {w : World} {K : PySem.W.Frag} {mg : Str → Option Value} {base : Heap}
def natV (i : Nat) : V := .int (i : Int)
def spBehind (K : PySem.W.Frag) : Sp := fun vs H Q _ => ∃ (p bd : Addr) (ts : List Addr) (lits : List (Str × Str × Int)) (bs : List Str) (s : Bf.Sta Str) (t : Str), vs = [.ref p, .ref bd, .str t] ∧ SqL K H p (ts.map V.ref) ∧ LitsAt K H ts lits ∧ H bd = some (.dK (bk bs s.by_)) ∧ ByOk bs s.by_ ∧ bs.length ≤ 1000 ∧ Bf.Good lits s ∧
  (∀ k, s.by_ (Bf.itr lits s.by_ t k) ≠ none) ∧ ∀ (c : Addr) (is : List Nat) (f : Nat → Str) (H' : Hp), Same H H' → SqT K H' c (is.map natV) → Bf.IsRing lits is f → is.length ≤ bs.length → Q (.ref c) H'
theorem ok_ring_behind {f : Addr} {fd : FuncData} (F : C8.Def K mg "ring_behind" s_ring_behind f fd) (b : Binds K fd ["literals", "lowered_by", "term"] []) (T : Txt mg) : C8.Cal P w K mg base 1 "ring_behind" (spBehind K) [] := by
  refine C8.cal0 F b .nil sc_ring_behind (fun vs H Q E h => ?_) (fun cdv A outer s H vs Q E hr h => ?_)
  · obtain ⟨p, bd, ts, lits, bs, s, t, rfl, _⟩ := h
    rfl
  · obtain ⟨p, bd, ts, lits, bs, s0, t, rfl, hp, hL, hb, hok, hb1, G, hn, k⟩ := h
    have hu := hu_of hr
    refine ⟨_, (pss_cons (ps_for PassesOwn.never rfl (pi_range1 (by rfl) T.z_range (pa_cons (pe_callB call_lenD (by rfl) T.z_len (by decide +kernel) (pa_cons (pv 1) pa_nil)) pa_nil)) (pg_name (i := 3) sc_ring_behind.nd rfl (Or.inl rfl))
    (pss_one (ps_set (i := 2) sc_ring_behind.nd rfl (Or.inl rfl) (pe_ix ix_tup (pe_ix ix_list (pv 0) (pe_dget hu (pv 1) (pv 2) (fun _ _ => rfl)) (fun _ _ => rfl)) pe_int (fun _ _ => rfl)))))
    (pss_cons (ps_set (i := 4) sc_ring_behind.nd rfl (Or.inl rfl) (pe_lst (pa_cons (pe_dget hu (pv 1) (pv 2) (fun _ _ => rfl)) pa_nil)))
    (pss_cons (ps_set (i := 5) sc_ring_behind.nd rfl (Or.inl rfl) (pe_ix ix_tup (pe_ix ix_list (pv 0) (pe_ix ix_list (pv 4) pe_int (fun _ _ => rfl)) (fun _ _ => rfl)) pe_int (fun _ _ => rfl)))
    (pss_cons (ps_while PassesOwn.never (pt_cmpR op_ne (pv 5) (pv 2) (nomark _)) (pss_cons (ps_expr (pe_bm PySem.F.plainAttrs_list PySem.F.slot_list_append PySem.F.type_list_append mt_append (pv 4) (pa_cons (pe_dget hu (pv 1) (pv 5) (fun _ _ => rfl)) pa_nil)))
    (pss_one (ps_set (i := 5) sc_ring_behind.nd rfl (Or.inl rfl) (pe_ix ix_tup (pe_ix ix_list (pv 0) (pe_ix ix_list (pv 4) (pe_un un_neg pe_int) (fun _ _ => rfl)) (fun _ _ => rfl)) pe_int (fun _ _ => rfl))))))
    (pss_one (ps_ret (pe_callTy call_tuple_of (by rfl) T.z_tuple (by decide +kernel) (pa_cons (pv 4) pa_nil)))))))), ?_⟩
    -- one step back
    have back : ∀ (x : Str), s0.by_ x ≠ none → ∃ (i : Nat) (a : Addr) (n : Int), s0.by_ x = some i ∧ (∀ H', Same H H' → DGet H' bd (.str x) (some (.int (i : Nat)))) ∧ atI (ts.map V.ref) (i : Int) = some (.ref a) ∧ ∀ H', Same H H' → SqT K H' a [.str x, .str (Bf.nxt lits s0.by_ x), .int n] := fun x hx => by
      obtain ⟨i, hi⟩ := Option.ne_none_iff_exists'.mp hx
      obtain ⟨r, n, hLi, _⟩ := G.own x i hi
      obtain ⟨a, ha, hs⟩ := hL.2 i _ hLi
      refine ⟨i, a, n, hi, fun H' S => dget_bk (S _ _ hb) hok hi, atI_nat (by rw [List.getElem?_map, ha]; rfl), fun H' S => ?_⟩
      rw [Bf.nxt_at hi hLi]
      exact Same.seqT S hs
    refine ⟨_, rfl, bd, _, rfl, hb, _, rfl, by omega, by rw [bk_len]; omega, for_range (lo := 0) (n := (((bk bs s0.by_).length : Nat) : Int).toNat) (fun i σ H' => ∃ (v3 v4 v5 : Option V), σ = [some (.ref p), some (.ref bd), some (.str (Bf.itr lits s0.by_ t i)), v3, v4, v5] ∧ H' = H) ⟨none, none, none, rfl, rfl⟩ ?_ ?_⟩
    · rintro i σ H' hi ⟨v3, v4, v5, rfl, rfl⟩
      obtain ⟨j, a, n, h1, h2, h3, h4⟩ := back _ (hn i)
      refine ⟨_, rfl, _, rfl, _, rfl, bd, _, rfl, h2 _ (Same.refl _), p, _, _, _, rfl, rfl, hp, h3, a, _, _, _, rfl, rfl, h4 _ (Same.refl _), rfl, ?_⟩
      exact ⟨_, _, _, rfl, rfl⟩
    · rintro σ H' ⟨v3, v4, v5, rfl, rfl⟩
      have el : (((bk bs s0.by_).length : Nat) : Int).toNat = bs.length := by rw [bk_len]; omega
      rw [el]
      generalize hx : Bf.itr lits s0.by_ t bs.length = x
      have hnx : ∀ k, s0.by_ (Bf.itr lits s0.by_ x k) ≠ none := fun k => by
        rw [← hx, ← Bf.itr_add]
        exact hn _
      obtain ⟨d0, hd0, hd1, hd2⟩ := Bf.on_ring (fun y hy => (hok.2 y).mpr hy) hn
      rw [Bf.itr_add, hx] at hd2
      obtain ⟨d, hdl, ⟨hdp, hdx⟩, hmin⟩ := Bf.least (p := fun d => 0 < d ∧ Bf.itr lits s0.by_ x d = x) d0 ⟨hd0, hd2⟩
      obtain ⟨j0, a0, n0, g1, g2, g3, g4⟩ := back _ (hnx 0)
      have e0 : Bf.itr lits s0.by_ x 0 = x := rfl
      rw [e0] at g1 g2 g4
      -- ring = [lowered_by[term]]
      refine ⟨_, rfl, _, rfl, bd, _, rfl, g2 _ (Same.refl _), (by show 1 ≤ sizeLine; decide), fun R nR => ?_⟩
      have S1 : Same H' (upd H' R (.lst [.int (j0 : Nat)])) := Same.new nR
      -- following = literals[ring[0]][1]
      refine ⟨_, rfl, _, rfl, R, _, _, _, rfl, rfl, SqL.of upd_same, rfl, p, _, _, _, rfl, rfl, (Same.seq S1 hp), g3, a0, _, _, _, rfl, rfl, g4 _ S1, rfl, ?_⟩
      refine ⟨fun m σ H2 => ∃ (c : Nat) (v3 : Option V), m = d - (c + 1) ∧ c + 1 ≤ d ∧ σ = [some (.ref p), some (.ref bd), some (.str x), v3, some (.ref R), some (.str (Bf.itr lits s0.by_ x (c + 1)))] ∧ Same H' H2 ∧ H2 R = some (.lst (((List.range (c + 1)).map fun j => (s0.by_ (Bf.itr lits s0.by_ x j)).getD 0).map natV)),
        ⟨_, 0, v3, rfl, hdp, rfl, S1, ?_⟩, ?_⟩
      · rw [upd_same]
        show some (HO.lst [.int (j0 : Nat)]) = some (HO.lst [natV ((s0.by_ x).getD 0)])
        rw [g1]
        rfl
      · rintro m σ H2 ⟨c, v3, rfl, hcd, rfl, S2, hR⟩
        refine ⟨_, rfl, _, rfl, rfl, _, rfl, ?_⟩
        by_cases hq : Bf.itr lits s0.by_ x (c + 1) = x
        · have e2 : (!decide (V.str (Bf.itr lits s0.by_ x (c + 1)) = V.str x)) = false := by
            rw [decide_eq_true (congrArg V.str hq)]
            rfl
          rw [e2]
          refine iteF ?_
          -- return tuple(ring)
          refine ⟨_, rfl, R, _, rfl, .inl ⟨SqL.of hR, fun q nq => ?_⟩⟩
          have hlen : ((List.range (c + 1)).map fun j => (s0.by_ (Bf.itr lits s0.by_ x j)).getD 0).length = c + 1 := by simp
          refine k q _ _ _ (S2.trans (Same.new nq)) (SqT.of upd_same) (Bf.ring_of G hnx hq (fun j h1 h2 h3 => ?_) hlen fun j hj => ?_) (by rw [hlen]; omega)
          · exact hmin j (by omega) ⟨h1, h3⟩
          · obtain ⟨i, hi⟩ := Option.ne_none_iff_exists'.mp (hnx j)
            rw [List.getElem?_map, List.getElem?_range (by omega)]
            show some ((s0.by_ (Bf.itr lits s0.by_ x j)).getD 0) = _
            rw [hi]
            rfl
        · have e2 : (!decide (V.str (Bf.itr lits s0.by_ x (c + 1)) = V.str x)) = true := by
            rw [decide_eq_false (fun h => hq (by injection h))]
            rfl
          rw [e2]
          refine iteT ?_
          have hcd2 : c + 1 < d := Nat.lt_of_le_of_ne hcd fun e => hq (by rw [e]; exact hdx)
          obtain ⟨j1, a1, n1, f1, f2, f3, f4⟩ := back _ (hnx (c + 1))
          refine ⟨fun σ H3 => ∃ v3, σ = [some (.ref p), some (.ref bd), some (.str x), v3, some (.ref R), some (.str (Bf.itr lits s0.by_ x (c + 1 + 1)))] ∧ Same H' H3 ∧ H3 R = some (.lst (((List.range (c + 1 + 1)).map fun j => (s0.by_ (Bf.itr lits s0.by_ x j)).getD 0).map natV)),
            fun σ H3 ⟨v3, e3, S3, hR3⟩ => ⟨d - (c + 1 + 1), by omega, c + 1, v3, rfl, hcd2, e3, S3, hR3⟩, ?_⟩
          refine ⟨_, rfl, .inl ⟨rfl, _, .inl (.inl hR)⟩, _, rfl, _, rfl, bd, _, rfl, f2 _ S2, R, _, _, rfl, rfl, hR, szs (by simp; omega), ?_⟩
          have S3 : Same H' (upd H2 R (.lst (((List.range (c + 1)).map fun j => (s0.by_ (Bf.itr lits s0.by_ x j)).getD 0).map natV ++ [.int (j1 : Nat)]))) := Same.mut S2 nR
          refine ⟨_, rfl, _, rfl, _, rfl, R, _, _, _, rfl, rfl, SqL.of upd_same, atI_last _ _, p, _, _, _, rfl, rfl, (Same.seq S3 hp), f3, a1, _, _, _, rfl, rfl, f4 _ S3, rfl, ?_⟩
          refine ⟨_, rfl, S3, ?_⟩
          have e3 : ((List.range (c + 1 + 1)).map fun j => (s0.by_ (Bf.itr lits s0.by_ x j)).getD 0).map natV = ((List.range (c + 1)).map fun j => (s0.by_ (Bf.itr lits s0.by_ x j)).getD 0).map natV ++ [natV j1] := by
            rw [List.range_succ (n := c + 1), List.map_append, List.map_append]
            show _ ++ [natV ((s0.by_ (Bf.itr lits s0.by_ x (c + 1))).getD 0)] = _
            rw [f1]
            rfl
          rw [upd_same, e3]
          rfl
def spBehindT (K : PySem.W.Frag) : Sp := fun vs H Q _ => ∃ (p bd : Addr) (ts : List Addr) (lits : List (Str × Str × Int)) (bs : List Str) (s : Bf.Sta Str) (t : Str), vs = [.ref p, .ref bd, .str t] ∧ SqT K H p (ts.map V.ref) ∧ LitsAt K H ts lits ∧ H bd = some (.dK (bk bs s.by_)) ∧ ByOk bs s.by_ ∧ bs.length ≤ 1000 ∧ Bf.Good lits s ∧
  (∀ k, s.by_ (Bf.itr lits s.by_ t k) ≠ none) ∧ ∀ (c : Addr) (is : List Nat) (f : Nat → Str) (H' : Hp), Same H H' → SqT K H' c (is.map natV) → Bf.IsRing lits is f → is.length ≤ bs.length → Q (.ref c) H'
theorem ok_ring_behindT {f : Addr} {fd : FuncData} (F : C8.Def K mg "ring_behind" s_ring_behind f fd) (b : Binds K fd ["literals", "lowered_by", "term"] []) (T : Txt mg) : C8.Cal P w K mg base 1 "ring_behind" (spBehindT K) [] := by
  refine C8.cal0 F b .nil sc_ring_behind (fun vs H Q E h => ?_) (fun cdv A outer s H vs Q E hr h => ?_)
  · obtain ⟨p, bd, ts, lits, bs, s, t, rfl, _⟩ := h
    rfl
  · obtain ⟨p, bd, ts, lits, bs, s0, t, rfl, hp, hL, hb, hok, hb1, G, hn, k⟩ := h
    have hu := hu_of hr
    refine ⟨_, (pss_cons (ps_for PassesOwn.never rfl (pi_range1 (by rfl) T.z_range (pa_cons (pe_callB call_lenD (by rfl) T.z_len (by decide +kernel) (pa_cons (pv 1) pa_nil)) pa_nil)) (pg_name (i := 3) sc_ring_behind.nd rfl (Or.inl rfl))
    (pss_one (ps_set (i := 2) sc_ring_behind.nd rfl (Or.inl rfl) (pe_ix ix_tup (pe_ix ix_tup (pv 0) (pe_dget hu (pv 1) (pv 2) (fun _ _ => rfl)) (fun _ _ => rfl)) pe_int (fun _ _ => rfl)))))
    (pss_cons (ps_set (i := 4) sc_ring_behind.nd rfl (Or.inl rfl) (pe_lst (pa_cons (pe_dget hu (pv 1) (pv 2) (fun _ _ => rfl)) pa_nil)))
    (pss_cons (ps_set (i := 5) sc_ring_behind.nd rfl (Or.inl rfl) (pe_ix ix_tup (pe_ix ix_tup (pv 0) (pe_ix ix_list (pv 4) pe_int (fun _ _ => rfl)) (fun _ _ => rfl)) pe_int (fun _ _ => rfl)))
    (pss_cons (ps_while PassesOwn.never (pt_cmpR op_ne (pv 5) (pv 2) (nomark _)) (pss_cons (ps_expr (pe_bm PySem.F.plainAttrs_list PySem.F.slot_list_append PySem.F.type_list_append mt_append (pv 4) (pa_cons (pe_dget hu (pv 1) (pv 5) (fun _ _ => rfl)) pa_nil)))
    (pss_one (ps_set (i := 5) sc_ring_behind.nd rfl (Or.inl rfl) (pe_ix ix_tup (pe_ix ix_tup (pv 0) (pe_ix ix_list (pv 4) (pe_un un_neg pe_int) (fun _ _ => rfl)) (fun _ _ => rfl)) pe_int (fun _ _ => rfl))))))
    (pss_one (ps_ret (pe_callTy call_tuple_of (by rfl) T.z_tuple (by decide +kernel) (pa_cons (pv 4) pa_nil)))))))), ?_⟩
    -- one step back
    have back : ∀ (x : Str), s0.by_ x ≠ none → ∃ (i : Nat) (a : Addr) (n : Int), s0.by_ x = some i ∧ (∀ H', Same H H' → DGet H' bd (.str x) (some (.int (i : Nat)))) ∧ atI (ts.map V.ref) (i : Int) = some (.ref a) ∧ ∀ H', Same H H' → SqT K H' a [.str x, .str (Bf.nxt lits s0.by_ x), .int n] := fun x hx => by
      obtain ⟨i, hi⟩ := Option.ne_none_iff_exists'.mp hx
      obtain ⟨r, n, hLi, _⟩ := G.own x i hi
      obtain ⟨a, ha, hs⟩ := hL.2 i _ hLi
      refine ⟨i, a, n, hi, fun H' S => dget_bk (S _ _ hb) hok hi, atI_nat (by rw [List.getElem?_map, ha]; rfl), fun H' S => ?_⟩
      rw [Bf.nxt_at hi hLi]
      exact Same.seqT S hs
    refine ⟨_, rfl, bd, _, rfl, hb, _, rfl, by omega, by rw [bk_len]; omega, for_range (lo := 0) (n := (((bk bs s0.by_).length : Nat) : Int).toNat) (fun i σ H' => ∃ (v3 v4 v5 : Option V), σ = [some (.ref p), some (.ref bd), some (.str (Bf.itr lits s0.by_ t i)), v3, v4, v5] ∧ H' = H) ⟨none, none, none, rfl, rfl⟩ ?_ ?_⟩
    · rintro i σ H' hi ⟨v3, v4, v5, rfl, rfl⟩
      obtain ⟨j, a, n, h1, h2, h3, h4⟩ := back _ (hn i)
      refine ⟨_, rfl, _, rfl, _, rfl, bd, _, rfl, h2 _ (Same.refl _), p, _, _, _, rfl, rfl, hp, h3, a, _, _, _, rfl, rfl, h4 _ (Same.refl _), rfl, ?_⟩
      exact ⟨_, _, _, rfl, rfl⟩
    · rintro σ H' ⟨v3, v4, v5, rfl, rfl⟩
      have el : (((bk bs s0.by_).length : Nat) : Int).toNat = bs.length := by rw [bk_len]; omega
      rw [el]
      generalize hx : Bf.itr lits s0.by_ t bs.length = x
      have hnx : ∀ k, s0.by_ (Bf.itr lits s0.by_ x k) ≠ none := fun k => by
        rw [← hx, ← Bf.itr_add]
        exact hn _
      obtain ⟨d0, hd0, hd1, hd2⟩ := Bf.on_ring (fun y hy => (hok.2 y).mpr hy) hn
      rw [Bf.itr_add, hx] at hd2
      obtain ⟨d, hdl, ⟨hdp, hdx⟩, hmin⟩ := Bf.least (p := fun d => 0 < d ∧ Bf.itr lits s0.by_ x d = x) d0 ⟨hd0, hd2⟩
      obtain ⟨j0, a0, n0, g1, g2, g3, g4⟩ := back _ (hnx 0)
      have e0 : Bf.itr lits s0.by_ x 0 = x := rfl
      rw [e0] at g1 g2 g4
      -- ring = [lowered_by[term]]
      refine ⟨_, rfl, _, rfl, bd, _, rfl, g2 _ (Same.refl _), (by show 1 ≤ sizeLine; decide), fun R nR => ?_⟩
      have S1 : Same H' (upd H' R (.lst [.int (j0 : Nat)])) := Same.new nR
      -- following = literals[ring[0]][1]
      refine ⟨_, rfl, _, rfl, R, _, _, _, rfl, rfl, SqL.of upd_same, rfl, p, _, _, _, rfl, rfl, (Same.seqT S1 hp), g3, a0, _, _, _, rfl, rfl, g4 _ S1, rfl, ?_⟩
      refine ⟨fun m σ H2 => ∃ (c : Nat) (v3 : Option V), m = d - (c + 1) ∧ c + 1 ≤ d ∧ σ = [some (.ref p), some (.ref bd), some (.str x), v3, some (.ref R), some (.str (Bf.itr lits s0.by_ x (c + 1)))] ∧ Same H' H2 ∧ H2 R = some (.lst (((List.range (c + 1)).map fun j => (s0.by_ (Bf.itr lits s0.by_ x j)).getD 0).map natV)),
        ⟨_, 0, v3, rfl, hdp, rfl, S1, ?_⟩, ?_⟩
      · rw [upd_same]
        show some (HO.lst [.int (j0 : Nat)]) = some (HO.lst [natV ((s0.by_ x).getD 0)])
        rw [g1]
        rfl
      · rintro m σ H2 ⟨c, v3, rfl, hcd, rfl, S2, hR⟩
        refine ⟨_, rfl, _, rfl, rfl, _, rfl, ?_⟩
        by_cases hq : Bf.itr lits s0.by_ x (c + 1) = x
        · have e2 : (!decide (V.str (Bf.itr lits s0.by_ x (c + 1)) = V.str x)) = false := by
            rw [decide_eq_true (congrArg V.str hq)]
            rfl
          rw [e2]
          refine iteF ?_
          -- return tuple(ring)
          refine ⟨_, rfl, R, _, rfl, .inl ⟨SqL.of hR, fun q nq => ?_⟩⟩
          have hlen : ((List.range (c + 1)).map fun j => (s0.by_ (Bf.itr lits s0.by_ x j)).getD 0).length = c + 1 := by simp
          refine k q _ _ _ (S2.trans (Same.new nq)) (SqT.of upd_same) (Bf.ring_of G hnx hq (fun j h1 h2 h3 => ?_) hlen fun j hj => ?_) (by rw [hlen]; omega)
          · exact hmin j (by omega) ⟨h1, h3⟩
          · obtain ⟨i, hi⟩ := Option.ne_none_iff_exists'.mp (hnx j)
            rw [List.getElem?_map, List.getElem?_range (by omega)]
            show some ((s0.by_ (Bf.itr lits s0.by_ x j)).getD 0) = _
            rw [hi]
            rfl
        · have e2 : (!decide (V.str (Bf.itr lits s0.by_ x (c + 1)) = V.str x)) = true := by
            rw [decide_eq_false (fun h => hq (by injection h))]
            rfl
          rw [e2]
          refine iteT ?_
          have hcd2 : c + 1 < d := Nat.lt_of_le_of_ne hcd fun e => hq (by rw [e]; exact hdx)
          obtain ⟨j1, a1, n1, f1, f2, f3, f4⟩ := back _ (hnx (c + 1))
          refine ⟨fun σ H3 => ∃ v3, σ = [some (.ref p), some (.ref bd), some (.str x), v3, some (.ref R), some (.str (Bf.itr lits s0.by_ x (c + 1 + 1)))] ∧ Same H' H3 ∧ H3 R = some (.lst (((List.range (c + 1 + 1)).map fun j => (s0.by_ (Bf.itr lits s0.by_ x j)).getD 0).map natV)),
            fun σ H3 ⟨v3, e3, S3, hR3⟩ => ⟨d - (c + 1 + 1), by omega, c + 1, v3, rfl, hcd2, e3, S3, hR3⟩, ?_⟩
          refine ⟨_, rfl, .inl ⟨rfl, _, .inl (.inl hR)⟩, _, rfl, _, rfl, bd, _, rfl, f2 _ S2, R, _, _, rfl, rfl, hR, szs (by simp; omega), ?_⟩
          have S3 : Same H' (upd H2 R (.lst (((List.range (c + 1)).map fun j => (s0.by_ (Bf.itr lits s0.by_ x j)).getD 0).map natV ++ [.int (j1 : Nat)]))) := Same.mut S2 nR
          refine ⟨_, rfl, _, rfl, _, rfl, R, _, _, _, rfl, rfl, SqL.of upd_same, atI_last _ _, p, _, _, _, rfl, rfl, (Same.seqT S3 hp), f3, a1, _, _, _, rfl, rfl, f4 _ S3, rfl, ?_⟩
          refine ⟨_, rfl, S3, ?_⟩
          have e3 : ((List.range (c + 1 + 1)).map fun j => (s0.by_ (Bf.itr lits s0.by_ x j)).getD 0).map natV = ((List.range (c + 1)).map fun j => (s0.by_ (Bf.itr lits s0.by_ x j)).getD 0).map natV ++ [natV j1] := by
            rw [List.range_succ (n := c + 1), List.map_append, List.map_append]
            show _ ++ [natV ((s0.by_ (Bf.itr lits s0.by_ x (c + 1))).getD 0)] = _
            rw [f1]
            rfl
          rw [upd_same, e3]
          rfl
end
end K1

namespace Bx
open PySem L2
theorem itk_run {d : Addr} {o : Obj} {kvs : List (Key × V)} {F : V → Hp → (Hp → Prop) → Prop} {H4 : Hp} {Nx : Hp → Prop} (Pv : Nat → Hp → Prop) (h0 : Pv 0 H4) (hl : ∀ j H, Pv j H → H d = some (.frz o (.dK kvs)))
    (hs : ∀ j k v H, kvs[j]? = some (k, v) → Pv j H → F (kV k) H (Pv (j + 1))) (hd : ∀ H, Pv kvs.length H → Nx H) :
    ∃ W1 : Nat → Nat → Hp → Prop, (∃ m, W1 0 m H4) ∧ ∀ j k H, W1 j k H → ((Itk d o kvs).stop j H ∧ Nx H) ∨ ((Itk d o kvs).go j H ∧ ∃ Nx1 : Hp → Prop, (∀ H', Nx1 H' → ∃ k', k' < k ∧ W1 (j + 1) k' H') ∧ ∀ x H', (Itk d o kvs).yld j H x H' → F x H' Nx1) := by
  refine ⟨fun j k H => k = kvs.length - j ∧ j ≤ kvs.length ∧ Pv j H, ⟨kvs.length, rfl, Nat.zero_le _, h0⟩, ?_⟩
  rintro j k H ⟨rfl, hj, p⟩
  have q := hl j H p
  by_cases hlt : j < kvs.length
  · refine .inr ⟨⟨q, hlt⟩, Pv (j + 1), fun H' p' => ⟨kvs.length - (j + 1), by omega, rfl, hlt, p'⟩, fun x H' y => ?_⟩
    obtain ⟨e, k, v, y, ex⟩ := y
    subst e ex
    exact hs j k v _ y p
  · have e : j = kvs.length := by omega
    subst e
    exact .inl ⟨⟨q, Nat.le_refl _⟩, hd H p⟩
/-- one key more, its value the function's -/
theorem hk_more {g : Str → Int} {t : Str} (ks : List Str) : ∃ ks', putK (hk ks g) (Sum.inr t) (.int (g t)) = hk ks' g ∧ (∀ x, x ∈ ks' ↔ x ∈ ks ∨ x = t) ∧ (ks.Nodup → ks'.Nodup) ∧ ks'.length ≤ ks.length + 1 := by
  by_cases m : t ∈ ks
  · refine ⟨ks, (hk_put m).trans ?_, fun x => ⟨.inl, fun h => h.elim id fun e => e ▸ m⟩, id, Nat.le_succ _⟩
    congr 1
    funext x
    unfold Bf.put
    by_cases e : x = t <;> simp [e]
  · refine ⟨ks ++ [t], (fk_new (v := fun t => V.int (g t)) m).trans ?_, fun x => by simp, fun nd => List.nodup_append.mpr ⟨nd, by simp, fun x hx y hy e => ?_⟩, by simp⟩
    · unfold fk hk
      refine List.map_congr_left fun k _ => ?_
      by_cases e : k = t <;> simp [e]
    · have : y = t := by simpa using hy
      rw [← this, ← e] at m
      exact m hx
end Bx
namespace K1
open PySem L2 Bx
section
variable {P : Program} {w : World} {K : PySem.W.Frag} {mg : Str → Option Value} {base : Heap}
def val (g : Str → Int) (t : Str) : Int := if t = "" then 0 else g t
def spSolved (K : PySem.W.Frag) : Sp := fun vs H Q _ => ∃ (p : Addr) (ts : List Addr) (lits : List (Str × Str × Int)), vs = [.ref p] ∧ SqL K H p (ts.map V.ref) ∧ LitsAt K H ts lits ∧ lits.length ≤ 300 ∧
  (∀ (r d : Addr) (ks : List Str) (g : Str → Int) (H' : Hp), Same H H' → SqT K H' r [.str "values", .ref d] → H d = none → H' d = some (.dK (hk ks g)) → ks.Nodup → ks.length ≤ 1000 → (∀ x, x ∈ ks ↔ x ≠ "" ∧ ∃ q ∈ lits, x = q.1 ∨ x = q.2.1) → (∀ q ∈ lits, val g q.1 ≤ val g q.2.1 + q.2.2) → Q (.ref r) H') ∧
  (∀ (r c : Addr) (is : List Nat) (f : Nat → Str) (H' : Hp), Same H H' → SqT K H' r [.str "ring", .ref c] → SqT K H' c (is.map natV) → Bf.IsRing lits is f → is.length ≤ 1000 → Q (.ref r) H')
def spSolvedT (K : PySem.W.Frag) : Sp := fun vs H Q _ => ∃ (p : Addr) (ts : List Addr) (lits : List (Str × Str × Int)), vs = [.ref p] ∧ SqT K H p (ts.map V.ref) ∧ LitsAt K H ts lits ∧ lits.length ≤ 300 ∧
  (∀ (r d : Addr) (ks : List Str) (g : Str → Int) (H' : Hp), Same H H' → SqT K H' r [.str "values", .ref d] → H d = none → H' d = some (.dK (hk ks g)) → ks.Nodup → ks.length ≤ 1000 → (∀ x, x ∈ ks ↔ x ≠ "" ∧ ∃ q ∈ lits, x = q.1 ∨ x = q.2.1) → (∀ q ∈ lits, val g q.1 ≤ val g q.2.1 + q.2.2) → Q (.ref r) H') ∧
  (∀ (r c : Addr) (is : List Nat) (f : Nat → Str) (H' : Hp), Same H H' → SqT K H' r [.str "ring", .ref c] → SqT K H' c (is.map natV) → Bf.IsRing lits is f → is.length ≤ 1000 → Q (.ref r) H')
theorem but2_same {x y : Addr} {H H1 H2 : Hp} (a : Same H H1) (b : But2 x y H1 H2) (hx : H x = none) (hy : H y = none) : Same H H2 := fun c o h => b c o (a c o h) (ne_of_none h hx) (ne_of_none h hy)
theorem same_none {H H' : Hp} (a : Same H H') {p : Addr} (h : H' p = none) : H p = none := by
  cases q : H p with
  | none => rfl
  | some o =>
    rw [a p o q] at h
    cases h
theorem ok_solved {f : Addr} {fd : FuncData} (F : C8.Def K mg "solved" s_solved f fd) (b : Binds K fd ["literals"] []) (T : Txt mg) (K_check_literals : C8.Cal P w K mg base 3 "check_literals" (spChkG K) []) (K_lower_once : C8.Cal P w K mg base 1 "lower_once" (spLower K) []) (K_ring_behind : C8.Cal P w K mg base 1 "ring_behind" (spBehind K) []) : C8.Cal P w K mg base 4 "solved" (spSolved K) [] := by
  refine C8.cal0 F b .nil sc_solved (fun vs H Q E h => ?_) (fun cdv A outer s H vs Q E hr h => ?_)
  · obtain ⟨p, ts, lits, rfl, _⟩ := h
    rfl
  · obtain ⟨p, ts, lits, rfl, hp, hL, hl, kv, kr⟩ := h
    have hu := hu_of hr
    refine ⟨_, (pss_cons (ps_expr (C8.pe_c K_check_literals hr (by decide) (by rfl) (pa_cons (pv 0) pa_nil)))
    (pss_cons (ps_set (i := 1) sc_solved.nd rfl (Or.inr rfl) (pe_dc2 (own := [("left", 6), ("right", 7), ("number", 8), ("term", 9)]) (vs1 := [9]) rfl sc_solved.nd (pi_list (pv 0)) (blkOk_by (own := [("left", 6), ("right", 7), ("number", 8), ("term", 9)]) (N := N_solved) (sc := C8.fnScope s_solved) (by decide +kernel)) (by decide) (fun _ _ _ _ _ => (pgTK K 3 (pgs_cons (pg_name (i := 6) sc_solved.nd rfl (Or.inl rfl)) (pgs_cons (pg_name (i := 7) sc_solved.nd rfl (Or.inl rfl)) (pgs_cons (pg_name (i := 8) sc_solved.nd rfl (Or.inl rfl)) pgs_nil))))) (fun _ _ _ _ _ => pts_nil) (fun _ _ _ _ _ => ((piTK K) (pe_tup (pa_cons (pv 6) (pa_cons (pv 7) pa_nil))))) (fun _ _ _ _ _ => (pg_name (i := 9) sc_solved.nd rfl (Or.inl rfl))) (fun _ _ _ _ _ => pts_nil) (fun _ _ _ _ _ => (pv 9)) (fun _ _ _ _ _ => pe_int)))
    (pss_cons (ps_set (i := 2) sc_solved.nd rfl (Or.inl rfl) pe_dnewK)
    (pss_cons (ps_for PassesOwn.never rfl (pi_range1 (by rfl) T.z_range (pa_cons (pe_op op_add (pe_callB call_lenD (by rfl) T.z_len (by decide +kernel) (pa_cons (pv 1) pa_nil)) pe_int) pa_nil)) (pg_name (i := 3) sc_solved.nd rfl (Or.inl rfl))
    (pss_cons (ps_set (i := 4) sc_solved.nd rfl (Or.inl rfl) (C8.pe_c K_lower_once hr (by decide) (by rfl) (pa_cons (pv 0) (pa_cons (pv 1) (pa_cons (pv 2) pa_nil)))))
    (pss_one (ps_if (pt_cmpR op_isN (pv 4) pe_non (nomark _)) (pss_cons (ps_set (i := 5) sc_solved.nd rfl (Or.inr rfl) (pe_dget2 hu (pv 1) pe_str pe_int ⟨rfl, rfl, rfl, rfl⟩))
    (pss_one (ps_ret (pe_tup (pa_cons pe_str (pa_cons (pe_lock (pe_dc (own := [("term", 9)]) rfl sc_solved.nd (pi_keys (pv 1)) (blkOk_by (own := [("term", 9)]) (N := N_solved) (sc := C8.fnScope s_solved) (by decide +kernel)) (fun _ _ _ _ _ => (pg_name (i := 9) sc_solved.nd rfl (Or.inl rfl))) (fun _ _ _ _ _ => (pts_one (pt_cmpR op_ne (pv 9) pe_str (nomark _)))) (fun _ _ _ _ _ => (pv 9)) (fun _ _ _ _ _ => (pe_op op_sub (pe_dget hu (pv 1) (pv 9) (fun _ _ => rfl)) (pv 5))))) pa_nil)))))) pss_nil))))
    (pss_one (ps_ret (pe_tup (pa_cons pe_str (pa_cons (C8.pe_c K_ring_behind hr (by decide) (by rfl) (pa_cons (pv 0) (pa_cons (pv 2) (pa_cons (pv 4) pa_nil)))) pa_nil))))))))), ?_⟩
    refine ⟨_, rfl, p, ts, lits, rfl, hp, hL, hl, fun H1 S1 => ?_⟩
    have hp1 := Same.seq S1 hp
    have hL1 := hL.mono S1
    -- heights
    refine ⟨_, rfl, p, rfl, ⟨_, hp1⟩, fun hd nhd => itl_run (xs := ts.map V.ref) (fun i H' => Same H1 H' ∧ ∃ ks : List Str, H' hd = some (.dK (hk ks fun _ => 0)) ∧ ks.length ≤ 2 * i ∧ ks.Nodup ∧ ∀ x, x ∈ ks ↔ ∃ j q, j < i ∧ lits[j]? = some q ∧ (x = q.1 ∨ x = q.2.1)) ?_ ?_ ?_ ?_⟩
    · exact ⟨Same.new nhd, [], upd_same, Nat.zero_le _, List.nodup_nil, fun x => ⟨fun h => (by cases h), fun ⟨j, q, h, _⟩ => absurd h (Nat.not_lt_zero j)⟩⟩
    · rintro j H' _ ⟨B, _⟩
      exact Same.seq B hp1
    · rintro i x H2 hx ⟨S2, ks, hk2, hl2, nd2, hm2⟩
      rw [List.getElem?_map] at hx
      obtain ⟨t, ht, rfl⟩ := Option.map_eq_some_iff.mp hx
      have hil : i < lits.length := by
        rw [← hL.1]
        exact (List.getElem?_eq_some_iff.mp ht).1
      have hlq := List.getElem?_eq_getElem hil
      obtain ⟨t', ht', hs⟩ := hL1.2 i _ hlq
      have et : t' = t := Option.some.inj (ht'.symm.trans ht)
      subst et
      have hs2 := Same.seqT S2 hs
      generalize hq : lits[i] = q0 at *
      obtain ⟨lf, rg, n⟩ := q0
      refine ⟨t', _, rfl, hs2, rfl, _, _, rfl, _, _, rfl, _, _, rfl, rfl, rfl, ?_⟩
      refine ⟨_, rfl, _, rfl, (by show 2 ≤ sizeLine; decide), fun q nq => ?_⟩
      have n1 : H1 q = none := same_none S2 nq
      have hq2 : q ≠ hd := fun e => by rw [e, hk2] at nq; cases nq
      refine ⟨q, rfl, ⟨_, SqT.of upd_same⟩, itt_run (xs := [.str lf, .str rg]) (fun j H' => Same H1 H' ∧ H' q = some (.tup [.str lf, .str rg]) ∧ ∃ ks : List Str, H' hd = some (.dK (hk ks fun _ => 0)) ∧ ks.length ≤ 2 * i + j ∧ ks.Nodup ∧ ∀ x, x ∈ ks ↔ (∃ j q, j < i ∧ lits[j]? = some q ∧ (x = q.1 ∨ x = q.2.1)) ∨ (0 < j ∧ x = lf) ∨ (1 < j ∧ x = rg)) ?_ ?_ ?_ ?_⟩
      · exact ⟨Same.mut S2 n1, upd_same, ks, by rw [upd_ne hq2.symm]; exact hk2, hl2, nd2, fun x => (hm2 x).trans ⟨.inl, fun h => h.elim id fun h => h.elim (fun h => absurd h.1 (by omega)) fun h => absurd h.1 (by omega)⟩⟩
      · rintro j H' _ ⟨_, h, _⟩
        exact SqT.of h
      · rintro j x H3 hx ⟨S3, h3, ks3, hk3, hl3, nd3, hm3⟩
        have hj3 : j < 2 := (List.getElem?_eq_some_iff.mp hx).1
        have hx2 : ∃ y : Str, x = .str y ∧ ∀ z, (0 < j ∧ z = lf) ∨ (1 < j ∧ z = rg) ∨ z = y ↔ (0 < j + 1 ∧ z = lf) ∨ (1 < j + 1 ∧ z = rg) := by
          match j, hx with
          | 0, hx => exact ⟨lf, (Option.some.inj hx).symm, fun z => by simp⟩
          | 1, hx => exact ⟨rg, (Option.some.inj hx).symm, fun z => by simp⟩
          | j + 2, hx => cases hx
        obtain ⟨y, rfl, hy⟩ := hx2
        obtain ⟨ks4, e4, m4, n4, l4⟩ := hk_more (g := fun _ => 0) (t := y) ks3
        refine ⟨rfl, _, rfl, _, Sum.inr y, rfl, hk3, szs (by rw [hk_len]; omega), ?_⟩
        rw [e4]
        refine ⟨Same.mut S3 nhd, by rw [upd_ne hq2]; exact h3, ks4, upd_same, by omega, n4 nd3, fun z => ?_⟩
        rw [m4, hm3, ← hy]
        constructor
        · rintro ((h | h | h) | h)
          · exact .inl h
          · exact .inr (.inl h)
          · exact .inr (.inr (.inl h))
          · exact .inr (.inr (.inr h))
        · rintro (h | h | h | h)
          · exact .inl (.inl h)
          · exact .inl (.inr (.inl h))
          · exact .inl (.inr (.inr h))
          · exact .inr h
      · rintro H3 ⟨S3, h3, ks3, hk3, hl3, nd3, hm3⟩
        refine ⟨S3, ks3, hk3, by simp at hl3; omega, nd3, fun x => ?_⟩
        rw [hm3]
        constructor
        · rintro (⟨j, q0, hj, hq0, h⟩ | ⟨_, h⟩ | ⟨_, h⟩)
          · exact ⟨j, q0, by omega, hq0, h⟩
          · exact ⟨i, _, Nat.lt_succ_self i, hlq, .inl h⟩
          · exact ⟨i, _, Nat.lt_succ_self i, hlq, .inr h⟩
        · rintro ⟨j, q0, hj, hq0, h⟩
          by_cases e : j = i
          · subst e
            rw [hlq] at hq0
            cases hq0
            rcases h with h | h
            · exact .inr (.inl ⟨by simp, h⟩)
            · exact .inr (.inr ⟨by simp, h⟩)
          · exact .inl ⟨j, q0, by omega, hq0, h⟩
    · rintro H2 ⟨S2, ks, hk2, hl2, nd2, hm2⟩
      have el : (ts.map V.ref).length = lits.length := by rw [List.length_map, hL.1]
      rw [el] at hl2 hm2
      have mem2 : ∀ x, x ∈ ks ↔ ∃ q ∈ lits, x = q.1 ∨ x = q.2.1 := fun x => (hm2 x).trans ⟨fun ⟨j, q, _, e, h⟩ => ⟨q, List.mem_of_getElem? e, h⟩, fun ⟨q, hq, h⟩ => by
        obtain ⟨j, hj, e⟩ := List.mem_iff_getElem.mp hq
        exact ⟨j, q, hj, by rw [List.getElem?_eq_getElem hj, e], h⟩⟩
      have ends : ∀ q ∈ lits, q.1 ∈ ks ∧ q.2.1 ∈ ks := fun q hq => ⟨(mem2 _).mpr ⟨q, hq, .inl rfl⟩, (mem2 _).mpr ⟨q, hq, .inr rfl⟩⟩
      refine fun bd nbd => ?_
      have ne : hd ≠ bd := fun e => by rw [← e, hk2] at nbd; cases nbd
      have S3 : Same H1 (upd H2 bd (.dK [])) := Same.mut S2 (same_none S2 nbd)
      have hh3 : (upd H2 bd (.dK [])) hd = some (.dK (hk ks fun _ => 0)) := by rw [upd_ne ne]; exact hk2
      have hb3 : (upd H2 bd (.dK [])) bd = some (.dK []) := upd_same
      have n1bd : H1 bd = none := same_none S2 nbd
      generalize upd H2 bd (.dK []) = H3 at *
      have A0 : At K H3 p hd bd ts lits ks [] (Bf.passes lits 0) := ⟨Same.seq S3 hp1, hL1.mono S3, hl, hh3, hb3, ne, ends, ⟨List.nodup_nil, fun t => ⟨fun h => (by cases h), fun h => absurd rfl h⟩⟩, by omega, Bf.passes_good lits 0⟩
      refine ⟨_, rfl, hd, _, rfl, hh3, _, _, rfl, rfl, _, rfl, by omega, by rw [hk_len]; omega, for_range (lo := 0) (n := ((((hk ks fun _ => 0).length : Nat) : Int) + 1).toNat) (fun i σ H' => ∃ (v3 v4 v5 : Option V) (bs : List Str), σ = [some (.ref p), some (.ref hd), some (.ref bd), v3, v4, v5, none, none, none, none] ∧ Same H1 H' ∧ At K H' p hd bd ts lits ks bs (Bf.passes lits i) ∧ (0 < i → ∃ t, v4 = some (.str t) ∧ (Bf.passes lits i).low = some t)) ?_ ?_ ?_⟩
      · exact ⟨none, none, none, [], rfl, S3, A0, fun h => absurd h (Nat.not_lt_zero 0)⟩
      · rintro i σ H4 hi ⟨v3, v4, v5, bs, rfl, S4, A4, _⟩
        refine ⟨_, rfl, _, rfl, _, rfl, p, hd, bd, ts, lits, ks, bs, _, rfl, A4, fun bs5 H5 B5 A5 => ?_⟩
        have S5 : Same H1 H5 := but2_same S4 B5 nhd n1bd
        have ep : Bf.pass lits (Bf.passes lits i) = Bf.passes lits (i + 1) := rfl
        have hlow := Bf.some_none (L := lits) (s := { Bf.passes lits i with low := none }) rfl lits.length
        rw [ep] at A5
        rw [ep]
        rw [show Bf.some_ lits { Bf.passes lits i with low := none } lits.length = Bf.passes lits (i + 1) from rfl] at hlow
        generalize Bf.passes lits (i + 1) = s6 at *
        refine ⟨_, rfl, rfl, _, rfl, ?_⟩
        cases hlw : s6.low with
        | some t => exact iteF ⟨_, some (.str t), v5, bs5, rfl, S5, A5, fun _ => ⟨t, rfl, rfl⟩⟩
        | none =>
          obtain ⟨e6, hle⟩ := hlow hlw
          refine iteT ?_
          have hz : ∃ o, DGet H5 hd (.str "") o ∧ o.getD (.int 0) = .int (s6.h "") := by
            by_cases m : ("" : Str) ∈ ks
            · exact ⟨_, dget_hk A5.hh m, rfl⟩
            · refine ⟨_, DGet.k (k := Sum.inr "") A5.hh, ?_⟩
              rw [show valV (hk ks s6.h) (Sum.inr "") = none from fk_no (v := fun t => V.int (s6.h t)) m, A5.good.root "" ?_]
              · rfl
              · cases hb : s6.by_ "" with
                | none => rfl
                | some i =>
                  obtain ⟨r, n, h1, _⟩ := A5.good.own "" i hb
                  exact absurd (ends _ (List.mem_of_getElem? h1)).1 m
          obtain ⟨o, ho, eo⟩ := hz
          refine ⟨_, rfl, hd, rfl, .inl ⟨_, .inl A5.hh⟩, o, ho, ?_⟩
          rw [eo]
          refine ⟨hd, _, A5.hh, trivial, fun od => ⟨_, rfl, hd, od, rfl, .inl ⟨_, upd_same, fun D nD => ?_⟩⟩⟩
          have neD : D ≠ hd := fun e => by rw [e, upd_same] at nD; cases nD
          have n5D : H5 D = none := by rw [upd_ne neD] at nD; exact nD
          generalize hH6 : upd H5 hd (.frz od (.dK (hk ks s6.h))) = H6 at *
          have f6 : H6 hd = some (.frz od (.dK (hk ks s6.h))) := by rw [← hH6, upd_same]
          refine itk_run (fun j H' => Same H6 H' ∧ ∃ ks', H' D = some (.dK (hk ks' fun t => s6.h t - s6.h "")) ∧ ks'.length ≤ j ∧ ks'.Nodup ∧ ∀ x, x ∈ ks' ↔ x ≠ "" ∧ ∃ i, i < j ∧ ks[i]? = some x) ?_ ?_ ?_ ?_
          · exact ⟨Same.new nD, [], upd_same, Nat.zero_le _, List.nodup_nil, fun x => ⟨fun h => (by cases h), fun ⟨_, i, h, _⟩ => absurd h (Nat.not_lt_zero i)⟩⟩
          · rintro j H' ⟨S, _⟩
            exact S _ _ f6
          · rintro j k v H7 hj ⟨S7, ks7, h7, l7, n7, m7⟩
            unfold hk at hj
            rw [List.getElem?_map] at hj
            obtain ⟨x, hx, ex⟩ := Option.map_eq_some_iff.mp hj
            have ek : k = Sum.inr x := (congrArg Prod.fst ex).symm
            subst ek
            have hjl : j < ks.length := (List.getElem?_eq_some_iff.mp hx).1
            refine ⟨rfl, _, rfl, rfl, _, rfl, ?_⟩
            by_cases e : x = ""
            · have e2 : (!decide (kV (Sum.inr x) = V.str "")) = false := by rw [e]; rfl
              rw [e2]
              refine iteF ⟨S7, ks7, h7, by omega, n7, fun y => (m7 y).trans ⟨fun ⟨hne, i, hi, hy⟩ => ⟨hne, i, by omega, hy⟩, fun ⟨hne, i, hi, hy⟩ => ⟨hne, i, ?_, hy⟩⟩⟩
              by_cases e3 : i = j
              · subst e3
                rw [hx] at hy
                cases hy
                exact absurd e hne
              · omega
            · have e2 : (!decide (kV (Sum.inr x) = V.str "")) = true := by
                rw [decide_eq_false fun h => e (by injection h)]
                rfl
              rw [e2]
              obtain ⟨ks8, e8, m8, n8, l8⟩ := hk_more (g := fun t => s6.h t - s6.h "") (t := x) ks7
              refine iteT ⟨_, rfl, _, rfl, _, rfl, hd, _, rfl, .inl ⟨_, Sum.inr x, .inr ⟨od, S7 _ _ f6⟩, rfl, (hk_get (List.mem_of_getElem? hx)).symm⟩, _, rfl, _, _, rfl, rfl, _, Sum.inr x, rfl, h7, szs (by rw [hk_len]; have := A5.k1000; omega), ?_⟩
              rw [e8]
              refine ⟨Same.mut S7 nD, ks8, upd_same, by omega, n8 n7, fun y => ?_⟩
              rw [m8, m7]
              constructor
              · rintro (⟨hne, i, hi, hy⟩ | h)
                · exact ⟨hne, i, by omega, hy⟩
                · exact ⟨h ▸ e, j, Nat.lt_succ_self j, h ▸ hx⟩
              · rintro ⟨hne, i, hi, hy⟩
                by_cases e3 : i = j
                · subst e3
                  rw [hx] at hy
                  exact .inr (Option.some.inj hy).symm
                · exact .inl ⟨hne, i, by omega, hy⟩
          · rintro H7 ⟨S7, ks7, h7, l7, n7, m7⟩
            refine ⟨S7 _ _ f6, (by show 2 ≤ sizeLine; decide), fun R nR => ?_⟩
            have Sb : Same H5 (upd H7 hd (.dK (hk ks s6.h))) := fun c o hc => by
              by_cases e : c = hd
              · rw [e, upd_same, ← A5.hh, ← e, hc]
              · rw [upd_ne e]
                refine S7 _ _ ?_
                rw [← hH6, upd_ne e]
                exact hc
            have hD : (upd H7 hd (.dK (hk ks s6.h))) D = some (.dK (hk ks7 fun t => s6.h t - s6.h "")) := by rw [upd_ne neD]; exact h7
            rw [hk_len] at m7 l7
            have hm : ∀ x, x ∈ ks7 ↔ x ≠ "" ∧ ∃ q ∈ lits, x = q.1 ∨ x = q.2.1 := fun x => by
              rw [m7, ← mem2]
              constructor
              · rintro ⟨hne, i, _, h⟩
                exact ⟨hne, List.mem_of_getElem? h⟩
              · rintro ⟨hne, h⟩
                obtain ⟨i, hi, e⟩ := List.mem_iff_getElem.mp h
                exact ⟨hne, i, hi, by rw [List.getElem?_eq_getElem hi, e]⟩
            have hv : ∀ t, val (fun t => s6.h t - s6.h "") t = s6.h t - s6.h "" := fun t => by
              unfold val
              split
              · rename_i e
                rw [e]
                omega
              · rfl
            have SR := Same.new (o := .tup [.str "values", .ref D]) nR
            refine kv R D ks7 (fun t => s6.h t - s6.h "") _ (S1.trans (S5.trans (Sb.trans SR))) (SqT.of upd_same) (same_none S1 (same_none S5 n5D)) (SR _ _ hD) n7 (by have := A5.k1000; omega) hm fun q hq => ?_
            rw [hv, hv]
            obtain ⟨j, hj, e⟩ := List.mem_iff_getElem.mp hq
            have := hle j q hj (by rw [List.getElem?_eq_getElem hj, e])
            rw [e6]
            show (Bf.passes lits i).h _ - _ ≤ (Bf.passes lits i).h _ - _ + _
            have h2 : (Bf.passes lits i).h q.1 ≤ (Bf.passes lits i).h q.2.1 + q.2.2 := this
            omega
      · rintro σ H4 ⟨v3, v4, v5, bs, rfl, S4, A4, h4⟩
        have en : ((((hk ks fun _ => 0).length : Nat) : Int) + 1).toNat = ks.length + 1 := by rw [hk_len]; omega
        rw [en] at A4 h4
        obtain ⟨t, rfl, ht⟩ := h4 (Nat.succ_pos _)
        refine ⟨_, rfl, _, rfl, _, rfl, p, bd, ts, lits, bs, _, t, rfl, A4.hp, A4.hL, A4.hb, A4.ok, A4.b1000, A4.good, Bf.no_root ends ht, fun c is f H5 S5 hc R hlen => ?_⟩
        refine ⟨(by show 2 ≤ sizeLine; decide), fun q nq => ?_⟩
        have SR := Same.new (o := .tup [.str "ring", .ref c]) nq
        exact kr q c is f _ (S1.trans (S4.trans (S5.trans SR))) (SqT.of upd_same) (Same.seqT SR hc) R (by have := A4.b1000; omega)
theorem ok_solvedT {f : Addr} {fd : FuncData} (F : C8.Def K mg "solved" s_solved f fd) (b : Binds K fd ["literals"] []) (T : Txt mg) (K_check_literals : C8.Cal P w K mg base 3 "check_literals" (spChkGT K) []) (K_lower_once : C8.Cal P w K mg base 1 "lower_once" (spLowerT K) []) (K_ring_behind : C8.Cal P w K mg base 1 "ring_behind" (spBehindT K) []) : C8.Cal P w K mg base 4 "solved" (spSolvedT K) [] := by
  refine C8.cal0 F b .nil sc_solved (fun vs H Q E h => ?_) (fun cdv A outer s H vs Q E hr h => ?_)
  · obtain ⟨p, ts, lits, rfl, _⟩ := h
    rfl
  · obtain ⟨p, ts, lits, rfl, hp, hL, hl, kv, kr⟩ := h
    have hu := hu_of hr
    refine ⟨_, (pss_cons (ps_expr (C8.pe_c K_check_literals hr (by decide) (by rfl) (pa_cons (pv 0) pa_nil)))
    (pss_cons (ps_set (i := 1) sc_solved.nd rfl (Or.inr rfl) (pe_dc2 (own := [("left", 6), ("right", 7), ("number", 8), ("term", 9)]) (vs1 := [9]) rfl sc_solved.nd (pi_tup (pv 0)) (blkOk_by (own := [("left", 6), ("right", 7), ("number", 8), ("term", 9)]) (N := N_solved) (sc := C8.fnScope s_solved) (by decide +kernel)) (by decide) (fun _ _ _ _ _ => (pgTK K 3 (pgs_cons (pg_name (i := 6) sc_solved.nd rfl (Or.inl rfl)) (pgs_cons (pg_name (i := 7) sc_solved.nd rfl (Or.inl rfl)) (pgs_cons (pg_name (i := 8) sc_solved.nd rfl (Or.inl rfl)) pgs_nil))))) (fun _ _ _ _ _ => pts_nil) (fun _ _ _ _ _ => ((piTK K) (pe_tup (pa_cons (pv 6) (pa_cons (pv 7) pa_nil))))) (fun _ _ _ _ _ => (pg_name (i := 9) sc_solved.nd rfl (Or.inl rfl))) (fun _ _ _ _ _ => pts_nil) (fun _ _ _ _ _ => (pv 9)) (fun _ _ _ _ _ => pe_int)))
    (pss_cons (ps_set (i := 2) sc_solved.nd rfl (Or.inl rfl) pe_dnewK)
    (pss_cons (ps_for PassesOwn.never rfl (pi_range1 (by rfl) T.z_range (pa_cons (pe_op op_add (pe_callB call_lenD (by rfl) T.z_len (by decide +kernel) (pa_cons (pv 1) pa_nil)) pe_int) pa_nil)) (pg_name (i := 3) sc_solved.nd rfl (Or.inl rfl))
    (pss_cons (ps_set (i := 4) sc_solved.nd rfl (Or.inl rfl) (C8.pe_c K_lower_once hr (by decide) (by rfl) (pa_cons (pv 0) (pa_cons (pv 1) (pa_cons (pv 2) pa_nil)))))
    (pss_one (ps_if (pt_cmpR op_isN (pv 4) pe_non (nomark _)) (pss_cons (ps_set (i := 5) sc_solved.nd rfl (Or.inr rfl) (pe_dget2 hu (pv 1) pe_str pe_int ⟨rfl, rfl, rfl, rfl⟩))
    (pss_one (ps_ret (pe_tup (pa_cons pe_str (pa_cons (pe_lock (pe_dc (own := [("term", 9)]) rfl sc_solved.nd (pi_keys (pv 1)) (blkOk_by (own := [("term", 9)]) (N := N_solved) (sc := C8.fnScope s_solved) (by decide +kernel)) (fun _ _ _ _ _ => (pg_name (i := 9) sc_solved.nd rfl (Or.inl rfl))) (fun _ _ _ _ _ => (pts_one (pt_cmpR op_ne (pv 9) pe_str (nomark _)))) (fun _ _ _ _ _ => (pv 9)) (fun _ _ _ _ _ => (pe_op op_sub (pe_dget hu (pv 1) (pv 9) (fun _ _ => rfl)) (pv 5))))) pa_nil)))))) pss_nil))))
    (pss_one (ps_ret (pe_tup (pa_cons pe_str (pa_cons (C8.pe_c K_ring_behind hr (by decide) (by rfl) (pa_cons (pv 0) (pa_cons (pv 2) (pa_cons (pv 4) pa_nil)))) pa_nil))))))))), ?_⟩
    refine ⟨_, rfl, p, ts, lits, rfl, hp, hL, hl, fun H1 S1 => ?_⟩
    have hp1 := Same.seqT S1 hp
    have hL1 := hL.mono S1
    -- heights
    refine ⟨_, rfl, p, rfl, ⟨_, hp1⟩, fun hd nhd => itt_run (xs := ts.map V.ref) (fun i H' => Same H1 H' ∧ ∃ ks : List Str, H' hd = some (.dK (hk ks fun _ => 0)) ∧ ks.length ≤ 2 * i ∧ ks.Nodup ∧ ∀ x, x ∈ ks ↔ ∃ j q, j < i ∧ lits[j]? = some q ∧ (x = q.1 ∨ x = q.2.1)) ?_ ?_ ?_ ?_⟩
    · exact ⟨Same.new nhd, [], upd_same, Nat.zero_le _, List.nodup_nil, fun x => ⟨fun h => (by cases h), fun ⟨j, q, h, _⟩ => absurd h (Nat.not_lt_zero j)⟩⟩
    · rintro j H' _ ⟨B, _⟩
      exact Same.seqT B hp1
    · rintro i x H2 hx ⟨S2, ks, hk2, hl2, nd2, hm2⟩
      rw [List.getElem?_map] at hx
      obtain ⟨t, ht, rfl⟩ := Option.map_eq_some_iff.mp hx
      have hil : i < lits.length := by
        rw [← hL.1]
        exact (List.getElem?_eq_some_iff.mp ht).1
      have hlq := List.getElem?_eq_getElem hil
      obtain ⟨t', ht', hs⟩ := hL1.2 i _ hlq
      have et : t' = t := Option.some.inj (ht'.symm.trans ht)
      subst et
      have hs2 := Same.seqT S2 hs
      generalize hq : lits[i] = q0 at *
      obtain ⟨lf, rg, n⟩ := q0
      refine ⟨t', _, rfl, hs2, rfl, _, _, rfl, _, _, rfl, _, _, rfl, rfl, rfl, ?_⟩
      refine ⟨_, rfl, _, rfl, (by show 2 ≤ sizeLine; decide), fun q nq => ?_⟩
      have n1 : H1 q = none := same_none S2 nq
      have hq2 : q ≠ hd := fun e => by rw [e, hk2] at nq; cases nq
      refine ⟨q, rfl, ⟨_, SqT.of upd_same⟩, itt_run (xs := [.str lf, .str rg]) (fun j H' => Same H1 H' ∧ H' q = some (.tup [.str lf, .str rg]) ∧ ∃ ks : List Str, H' hd = some (.dK (hk ks fun _ => 0)) ∧ ks.length ≤ 2 * i + j ∧ ks.Nodup ∧ ∀ x, x ∈ ks ↔ (∃ j q, j < i ∧ lits[j]? = some q ∧ (x = q.1 ∨ x = q.2.1)) ∨ (0 < j ∧ x = lf) ∨ (1 < j ∧ x = rg)) ?_ ?_ ?_ ?_⟩
      · exact ⟨Same.mut S2 n1, upd_same, ks, by rw [upd_ne hq2.symm]; exact hk2, hl2, nd2, fun x => (hm2 x).trans ⟨.inl, fun h => h.elim id fun h => h.elim (fun h => absurd h.1 (by omega)) fun h => absurd h.1 (by omega)⟩⟩
      · rintro j H' _ ⟨_, h, _⟩
        exact SqT.of h
      · rintro j x H3 hx ⟨S3, h3, ks3, hk3, hl3, nd3, hm3⟩
        have hj3 : j < 2 := (List.getElem?_eq_some_iff.mp hx).1
        have hx2 : ∃ y : Str, x = .str y ∧ ∀ z, (0 < j ∧ z = lf) ∨ (1 < j ∧ z = rg) ∨ z = y ↔ (0 < j + 1 ∧ z = lf) ∨ (1 < j + 1 ∧ z = rg) := by
          match j, hx with
          | 0, hx => exact ⟨lf, (Option.some.inj hx).symm, fun z => by simp⟩
          | 1, hx => exact ⟨rg, (Option.some.inj hx).symm, fun z => by simp⟩
          | j + 2, hx => cases hx
        obtain ⟨y, rfl, hy⟩ := hx2
        obtain ⟨ks4, e4, m4, n4, l4⟩ := hk_more (g := fun _ => 0) (t := y) ks3
        refine ⟨rfl, _, rfl, _, Sum.inr y, rfl, hk3, szs (by rw [hk_len]; omega), ?_⟩
        rw [e4]
        refine ⟨Same.mut S3 nhd, by rw [upd_ne hq2]; exact h3, ks4, upd_same, by omega, n4 nd3, fun z => ?_⟩
        rw [m4, hm3, ← hy]
        constructor
        · rintro ((h | h | h) | h)
          · exact .inl h
          · exact .inr (.inl h)
          · exact .inr (.inr (.inl h))
          · exact .inr (.inr (.inr h))
        · rintro (h | h | h | h)
          · exact .inl (.inl h)
          · exact .inl (.inr (.inl h))
          · exact .inl (.inr (.inr h))
          · exact .inr h
      · rintro H3 ⟨S3, h3, ks3, hk3, hl3, nd3, hm3⟩
        refine ⟨S3, ks3, hk3, by simp at hl3; omega, nd3, fun x => ?_⟩
        rw [hm3]
        constructor
        · rintro (⟨j, q0, hj, hq0, h⟩ | ⟨_, h⟩ | ⟨_, h⟩)
          · exact ⟨j, q0, by omega, hq0, h⟩
          · exact ⟨i, _, Nat.lt_succ_self i, hlq, .inl h⟩
          · exact ⟨i, _, Nat.lt_succ_self i, hlq, .inr h⟩
        · rintro ⟨j, q0, hj, hq0, h⟩
          by_cases e : j = i
          · subst e
            rw [hlq] at hq0
            cases hq0
            rcases h with h | h
            · exact .inr (.inl ⟨by simp, h⟩)
            · exact .inr (.inr ⟨by simp, h⟩)
          · exact .inl ⟨j, q0, by omega, hq0, h⟩
    · rintro H2 ⟨S2, ks, hk2, hl2, nd2, hm2⟩
      have el : (ts.map V.ref).length = lits.length := by rw [List.length_map, hL.1]
      rw [el] at hl2 hm2
      have mem2 : ∀ x, x ∈ ks ↔ ∃ q ∈ lits, x = q.1 ∨ x = q.2.1 := fun x => (hm2 x).trans ⟨fun ⟨j, q, _, e, h⟩ => ⟨q, List.mem_of_getElem? e, h⟩, fun ⟨q, hq, h⟩ => by
        obtain ⟨j, hj, e⟩ := List.mem_iff_getElem.mp hq
        exact ⟨j, q, hj, by rw [List.getElem?_eq_getElem hj, e], h⟩⟩
      have ends : ∀ q ∈ lits, q.1 ∈ ks ∧ q.2.1 ∈ ks := fun q hq => ⟨(mem2 _).mpr ⟨q, hq, .inl rfl⟩, (mem2 _).mpr ⟨q, hq, .inr rfl⟩⟩
      refine fun bd nbd => ?_
      have ne : hd ≠ bd := fun e => by rw [← e, hk2] at nbd; cases nbd
      have S3 : Same H1 (upd H2 bd (.dK [])) := Same.mut S2 (same_none S2 nbd)
      have hh3 : (upd H2 bd (.dK [])) hd = some (.dK (hk ks fun _ => 0)) := by rw [upd_ne ne]; exact hk2
      have hb3 : (upd H2 bd (.dK [])) bd = some (.dK []) := upd_same
      have n1bd : H1 bd = none := same_none S2 nbd
      generalize upd H2 bd (.dK []) = H3 at *
      have A0 : AtT K H3 p hd bd ts lits ks [] (Bf.passes lits 0) := ⟨Same.seqT S3 hp1, hL1.mono S3, hl, hh3, hb3, ne, ends, ⟨List.nodup_nil, fun t => ⟨fun h => (by cases h), fun h => absurd rfl h⟩⟩, by omega, Bf.passes_good lits 0⟩
      refine ⟨_, rfl, hd, _, rfl, hh3, _, _, rfl, rfl, _, rfl, by omega, by rw [hk_len]; omega, for_range (lo := 0) (n := ((((hk ks fun _ => 0).length : Nat) : Int) + 1).toNat) (fun i σ H' => ∃ (v3 v4 v5 : Option V) (bs : List Str), σ = [some (.ref p), some (.ref hd), some (.ref bd), v3, v4, v5, none, none, none, none] ∧ Same H1 H' ∧ AtT K H' p hd bd ts lits ks bs (Bf.passes lits i) ∧ (0 < i → ∃ t, v4 = some (.str t) ∧ (Bf.passes lits i).low = some t)) ?_ ?_ ?_⟩
      · exact ⟨none, none, none, [], rfl, S3, A0, fun h => absurd h (Nat.not_lt_zero 0)⟩
      · rintro i σ H4 hi ⟨v3, v4, v5, bs, rfl, S4, A4, _⟩
        refine ⟨_, rfl, _, rfl, _, rfl, p, hd, bd, ts, lits, ks, bs, _, rfl, A4, fun bs5 H5 B5 A5 => ?_⟩
        have S5 : Same H1 H5 := but2_same S4 B5 nhd n1bd
        have ep : Bf.pass lits (Bf.passes lits i) = Bf.passes lits (i + 1) := rfl
        have hlow := Bf.some_none (L := lits) (s := { Bf.passes lits i with low := none }) rfl lits.length
        rw [ep] at A5
        rw [ep]
        rw [show Bf.some_ lits { Bf.passes lits i with low := none } lits.length = Bf.passes lits (i + 1) from rfl] at hlow
        generalize Bf.passes lits (i + 1) = s6 at *
        refine ⟨_, rfl, rfl, _, rfl, ?_⟩
        cases hlw : s6.low with
        | some t => exact iteF ⟨_, some (.str t), v5, bs5, rfl, S5, A5, fun _ => ⟨t, rfl, rfl⟩⟩
        | none =>
          obtain ⟨e6, hle⟩ := hlow hlw
          refine iteT ?_
          have hz : ∃ o, DGet H5 hd (.str "") o ∧ o.getD (.int 0) = .int (s6.h "") := by
            by_cases m : ("" : Str) ∈ ks
            · exact ⟨_, dget_hk A5.hh m, rfl⟩
            · refine ⟨_, DGet.k (k := Sum.inr "") A5.hh, ?_⟩
              rw [show valV (hk ks s6.h) (Sum.inr "") = none from fk_no (v := fun t => V.int (s6.h t)) m, A5.good.root "" ?_]
              · rfl
              · cases hb : s6.by_ "" with
                | none => rfl
                | some i =>
                  obtain ⟨r, n, h1, _⟩ := A5.good.own "" i hb
                  exact absurd (ends _ (List.mem_of_getElem? h1)).1 m
          obtain ⟨o, ho, eo⟩ := hz
          refine ⟨_, rfl, hd, rfl, .inl ⟨_, .inl A5.hh⟩, o, ho, ?_⟩
          rw [eo]
          refine ⟨hd, _, A5.hh, trivial, fun od => ⟨_, rfl, hd, od, rfl, .inl ⟨_, upd_same, fun D nD => ?_⟩⟩⟩
          have neD : D ≠ hd := fun e => by rw [e, upd_same] at nD; cases nD
          have n5D : H5 D = none := by rw [upd_ne neD] at nD; exact nD
          generalize hH6 : upd H5 hd (.frz od (.dK (hk ks s6.h))) = H6 at *
          have f6 : H6 hd = some (.frz od (.dK (hk ks s6.h))) := by rw [← hH6, upd_same]
          refine itk_run (fun j H' => Same H6 H' ∧ ∃ ks', H' D = some (.dK (hk ks' fun t => s6.h t - s6.h "")) ∧ ks'.length ≤ j ∧ ks'.Nodup ∧ ∀ x, x ∈ ks' ↔ x ≠ "" ∧ ∃ i, i < j ∧ ks[i]? = some x) ?_ ?_ ?_ ?_
          · exact ⟨Same.new nD, [], upd_same, Nat.zero_le _, List.nodup_nil, fun x => ⟨fun h => (by cases h), fun ⟨_, i, h, _⟩ => absurd h (Nat.not_lt_zero i)⟩⟩
          · rintro j H' ⟨S, _⟩
            exact S _ _ f6
          · rintro j k v H7 hj ⟨S7, ks7, h7, l7, n7, m7⟩
            unfold hk at hj
            rw [List.getElem?_map] at hj
            obtain ⟨x, hx, ex⟩ := Option.map_eq_some_iff.mp hj
            have ek : k = Sum.inr x := (congrArg Prod.fst ex).symm
            subst ek
            have hjl : j < ks.length := (List.getElem?_eq_some_iff.mp hx).1
            refine ⟨rfl, _, rfl, rfl, _, rfl, ?_⟩
            by_cases e : x = ""
            · have e2 : (!decide (kV (Sum.inr x) = V.str "")) = false := by rw [e]; rfl
              rw [e2]
              refine iteF ⟨S7, ks7, h7, by omega, n7, fun y => (m7 y).trans ⟨fun ⟨hne, i, hi, hy⟩ => ⟨hne, i, by omega, hy⟩, fun ⟨hne, i, hi, hy⟩ => ⟨hne, i, ?_, hy⟩⟩⟩
              by_cases e3 : i = j
              · subst e3
                rw [hx] at hy
                cases hy
                exact absurd e hne
              · omega
            · have e2 : (!decide (kV (Sum.inr x) = V.str "")) = true := by
                rw [decide_eq_false fun h => e (by injection h)]
                rfl
              rw [e2]
              obtain ⟨ks8, e8, m8, n8, l8⟩ := hk_more (g := fun t => s6.h t - s6.h "") (t := x) ks7
              refine iteT ⟨_, rfl, _, rfl, _, rfl, hd, _, rfl, .inl ⟨_, Sum.inr x, .inr ⟨od, S7 _ _ f6⟩, rfl, (hk_get (List.mem_of_getElem? hx)).symm⟩, _, rfl, _, _, rfl, rfl, _, Sum.inr x, rfl, h7, szs (by rw [hk_len]; have := A5.k1000; omega), ?_⟩
              rw [e8]
              refine ⟨Same.mut S7 nD, ks8, upd_same, by omega, n8 n7, fun y => ?_⟩
              rw [m8, m7]
              constructor
              · rintro (⟨hne, i, hi, hy⟩ | h)
                · exact ⟨hne, i, by omega, hy⟩
                · exact ⟨h ▸ e, j, Nat.lt_succ_self j, h ▸ hx⟩
              · rintro ⟨hne, i, hi, hy⟩
                by_cases e3 : i = j
                · subst e3
                  rw [hx] at hy
                  exact .inr (Option.some.inj hy).symm
                · exact .inl ⟨hne, i, by omega, hy⟩
          · rintro H7 ⟨S7, ks7, h7, l7, n7, m7⟩
            refine ⟨S7 _ _ f6, (by show 2 ≤ sizeLine; decide), fun R nR => ?_⟩
            have Sb : Same H5 (upd H7 hd (.dK (hk ks s6.h))) := fun c o hc => by
              by_cases e : c = hd
              · rw [e, upd_same, ← A5.hh, ← e, hc]
              · rw [upd_ne e]
                refine S7 _ _ ?_
                rw [← hH6, upd_ne e]
                exact hc
            have hD : (upd H7 hd (.dK (hk ks s6.h))) D = some (.dK (hk ks7 fun t => s6.h t - s6.h "")) := by rw [upd_ne neD]; exact h7
            rw [hk_len] at m7 l7
            have hm : ∀ x, x ∈ ks7 ↔ x ≠ "" ∧ ∃ q ∈ lits, x = q.1 ∨ x = q.2.1 := fun x => by
              rw [m7, ← mem2]
              constructor
              · rintro ⟨hne, i, _, h⟩
                exact ⟨hne, List.mem_of_getElem? h⟩
              · rintro ⟨hne, h⟩
                obtain ⟨i, hi, e⟩ := List.mem_iff_getElem.mp h
                exact ⟨hne, i, hi, by rw [List.getElem?_eq_getElem hi, e]⟩
            have hv : ∀ t, val (fun t => s6.h t - s6.h "") t = s6.h t - s6.h "" := fun t => by
              unfold val
              split
              · rename_i e
                rw [e]
                omega
              · rfl
            have SR := Same.new (o := .tup [.str "values", .ref D]) nR
            refine kv R D ks7 (fun t => s6.h t - s6.h "") _ (S1.trans (S5.trans (Sb.trans SR))) (SqT.of upd_same) (same_none S1 (same_none S5 n5D)) (SR _ _ hD) n7 (by have := A5.k1000; omega) hm fun q hq => ?_
            rw [hv, hv]
            obtain ⟨j, hj, e⟩ := List.mem_iff_getElem.mp hq
            have := hle j q hj (by rw [List.getElem?_eq_getElem hj, e])
            rw [e6]
            show (Bf.passes lits i).h _ - _ ≤ (Bf.passes lits i).h _ - _ + _
            have h2 : (Bf.passes lits i).h q.1 ≤ (Bf.passes lits i).h q.2.1 + q.2.2 := this
            omega
      · rintro σ H4 ⟨v3, v4, v5, bs, rfl, S4, A4, h4⟩
        have en : ((((hk ks fun _ => 0).length : Nat) : Int) + 1).toNat = ks.length + 1 := by rw [hk_len]; omega
        rw [en] at A4 h4
        obtain ⟨t, rfl, ht⟩ := h4 (Nat.succ_pos _)
        refine ⟨_, rfl, _, rfl, _, rfl, p, bd, ts, lits, bs, _, t, rfl, A4.hp, A4.hL, A4.hb, A4.ok, A4.b1000, A4.good, Bf.no_root ends ht, fun c is f H5 S5 hc R hlen => ?_⟩
        refine ⟨(by show 2 ≤ sizeLine; decide), fun q nq => ?_⟩
        have SR := Same.new (o := .tup [.str "ring", .ref c]) nq
        exact kr q c is f _ (S1.trans (S4.trans (S5.trans SR))) (SqT.of upd_same) (Same.seqT SR hc) R (by have := A4.b1000; omega)
end
end K1

namespace Bx
open PySem L2
/-- both branches go on alike -/
theorem join {c : Prop} [Decidable c] {A B : Prop} {NX : Addr → Hp → Prop} (R : Addr → Hp → Prop) (p : Addr) (H : Hp) (hB : B = NX p H) (hr : ∀ p H, R p H → NX p H) (h0 : R p H) (h1 : c → (∀ p H, R p H → NX p H) → A) : if c then A else B := by
  split
  · rename_i h
    exact h1 h hr
  · rw [hB]
    exact hr p H h0
theorem eqv_lit (a b : Str × Str × Int) : PyData.eqv (.tuple [.str a.1, .str a.2.1, .int a.2.2]) (.tuple [.str b.1, .str b.2.1, .int b.2.2]) = decide (a = b) := by
  obtain ⟨a1, a2, a3⟩ := a
  obtain ⟨b1, b2, b3⟩ := b
  rw [Bool.eq_iff_iff, decide_eq_true_eq]
  simp [PyData.eqv, PyData.eqvAll]
def litD (a : Str × Str × Int) : PyData := .tuple [.str a.1, .str a.2.1, .int a.2.2]
theorem any_lit (q : Str × Str × Int) (C : List (Str × Str × Int)) : ((C.map litD).any fun z => PyData.eqv z (litD q)) = decide (q ∈ C) := by
  rw [Bool.eq_iff_iff, List.any_eq_true, decide_eq_true_eq]
  constructor
  · rintro ⟨z, hz, e⟩
    obtain ⟨a, ha, rfl⟩ := List.mem_map.mp hz
    have e := (eqv_lit a q).symm.trans e
    rw [← of_decide_eq_true e]
    exact ha
  · intro h
    refine ⟨litD q, List.mem_map_of_mem h, (eqv_lit q q).trans (decide_eq_true rfl)⟩
theorem lay_lit {a : Str × Str × Int} (h : PyData.strOk a.1 = true ∧ PyData.strOk a.2.1 = true) : PyData.canLay0 (litD a) = true := by
  simp [litD, PyData.canLay0, PyData.canLayAll0, h.1, h.2]
theorem shaped_lit {a : Str × Str × Int} (h : PyData.strOk a.1 = true ∧ PyData.strOk a.2.1 = true) : SeqAt.shaped (litD a) = true := by
  unfold SeqAt.shaped
  rw [Bool.and_eq_true, decide_eq_true_eq]
  refine ⟨lay_lit h, ?_⟩
  simp [litD, PyData.depth, PyData.depthAll]
theorem shaped_lits {C : List (Str × Str × Int)} (h : ∀ a ∈ C, PyData.strOk a.1 = true ∧ PyData.strOk a.2.1 = true) : SeqAt.shaped (.list (C.map litD)) = true := by
  have h1 : ∀ {C : List (Str × Str × Int)}, (∀ a ∈ C, PyData.strOk a.1 = true ∧ PyData.strOk a.2.1 = true) → PyData.canLayAll0 (C.map litD) = true := by
    intro C
    induction C with
    | nil => intro _; simp [PyData.canLayAll0]
    | cons a C ih => intro h; simp [PyData.canLayAll0, lay_lit (h a List.mem_cons_self), ih fun b hb => h b (List.mem_cons_of_mem _ hb)]
  have h2 : ∀ C : List (Str × Str × Int), PyData.depthAll (C.map litD) ≤ 3 := by
    intro C
    induction C with
    | nil => simp [PyData.depthAll]
    | cons a C ih =>
      simp [PyData.depthAll, litD, PyData.depth]
      omega
  unfold SeqAt.shaped
  rw [Bool.and_eq_true, decide_eq_true_eq]
  refine ⟨by simp [PyData.canLay0, h1 h], ?_⟩
  have := h2 C
  simp [PyData.depth]
  omega
end Bx
namespace K1
open PySem L2 Bx
theorem WellAt.same {H H' : Hp} {l : Addr} (S : Same H H') (W : WellAt H l) : WellAt H' l := by
  obtain ⟨x, y, z, hw⟩ := W
  exact ⟨x, y, z, S _ _ hw⟩
theorem WellAt.ne {H : Hp} {l p : Addr} (W : WellAt H l) (h : H p = none) : p ≠ l := fun e => by
  obtain ⟨x, y, z, hw⟩ := W
  rw [e, hw] at h
  cases h
theorem WellAt.upd {H : Hp} {l p : Addr} {o : HO} (W : WellAt H l) (h : p ≠ l) : WellAt (upd H p o) l := by
  obtain ⟨x, y, z, hw⟩ := W
  exact ⟨x, y, z, by rw [upd_ne h.symm]; exact hw⟩
theorem sz {n : Nat} (h : n ≤ 1000) : n ≤ sizeLine := Nat.le_trans h (by decide)
theorem cut_to {xs : List V} {k : Nat} (h : k ≤ xs.length) : cutV xs none (some (k : Int)) = xs.take k := by
  unfold cutV
  rw [HT.sIx_none, HT.sIx_nat, List.drop_zero, Nat.sub_zero, Nat.min_eq_left h]
theorem cut_from {xs : List V} {k : Nat} (h : k ≤ xs.length) : cutV xs (some (k : Int)) none = xs.drop k := by
  unfold cutV
  rw [HT.sIx_nat, HT.sIx_none, Nat.min_eq_left h, List.take_of_length_le (by rw [List.length_drop]; omega)]
theorem cut_mem {xs : List V} {lo hi : Option Int} {x : V} (h : x ∈ cutV xs lo hi) : x ∈ xs := by
  unfold cutV at h
  exact List.mem_of_mem_drop (List.mem_of_mem_take h)
def OkT (L : List (Str × Str × Int)) : Prop := ∀ q ∈ L, PyData.strOk q.1 = true ∧ PyData.strOk q.2.1 = true
section
variable {P : Program} {w : World} {K : PySem.W.Frag} {mg : Str → Option Value} {base : Heap}
theorem LitsAt.but {l : Addr} {ws : List V} {H H' : Hp} {ts : List Addr} {lits : List (Str × Str × Int)} (hw : H l = some (.lst ws)) (e : But l H H') (h : LitsAt K H ts lits) : LitsAt K H' ts lits :=
  ⟨h.1, fun j q hj => (h.2 j q hj).imp fun t z => ⟨z.1, But.tupW hw e z.2⟩⟩
theorem LitsAt.snoc {H : Hp} {ts : List Addr} {lits : List (Str × Str × Int)} {u : Addr} {q : Str × Str × Int} (h : LitsAt K H ts lits) (hu : SqT K H u [.str q.1, .str q.2.1, .int q.2.2]) : LitsAt K H (ts ++ [u]) (lits ++ [q]) := by
  refine ⟨by simp [h.1], fun j q' hj => ?_⟩
  by_cases hl : j < lits.length
  · rw [List.getElem?_append_left hl] at hj
    rw [List.getElem?_append_left (by rw [h.1]; exact hl)]
    exact h.2 j q' hj
  · have hjl : j < (lits ++ [q]).length := (List.getElem?_eq_some_iff.mp hj).1
    have e : j = lits.length := by
      rw [List.length_append] at hjl
      simp at hjl
      omega
    subst e
    rw [List.getElem?_append_right (Nat.le_refl _)] at hj
    have e2 : q = q' := by simpa using hj
    subst e2
    exact ⟨u, by rw [List.getElem?_append_right (by rw [h.1]; exact Nat.le_refl _), h.1]; simp, hu⟩
def spHolds (K : PySem.W.Frag) : Sp := fun vs H Q _ => ∃ (a d : Addr) (l r : Str) (n : Int) (ks : List Str) (g : Str → Int), vs = [.ref a, .ref d] ∧ SqT K H a [.str l, .str r, .int n] ∧ H d = some (.dK (hk ks g)) ∧ (l = "" ∨ l ∈ ks) ∧ (r = "" ∨ r ∈ ks) ∧
  Q (.bl (decide (val g l ≤ val g r + n))) H
theorem ok_l_holds {f : Addr} {fd : FuncData} (F : C8.Def K mg "_law_holds" s_l_holds f fd) (b : Binds K fd ["_law_literal", "_law_found"] []) (T : Txt mg) : C8.Cal P w K mg base 1 "_law_holds" (spHolds K) [] := by
  refine C8.cal0 F b .nil sc_l_holds (fun vs H Q E h => ?_) (fun cdv A outer s H vs Q E hr h => ?_)
  · obtain ⟨a, d, l, r, n, ks, g, rfl, _⟩ := h
    rfl
  · obtain ⟨a, d, l, r, n, ks, g, rfl, ha, hd, hl, hrr, k⟩ := h
    have hu := hu_of hr
    refine ⟨_, (pss_cons (ps_set (i := 2) sc_l_holds.nd rfl (Or.inl rfl) (pe_ifExp (pt_cmpR op_eq (pe_ix ix_tup (pv 0) pe_int (fun _ _ => rfl)) pe_str (nomark _)) pe_int (pe_dget hu (pv 1) (pe_ix ix_tup (pv 0) pe_int (fun _ _ => rfl)) (fun _ _ => rfl))))
    (pss_cons (ps_set (i := 3) sc_l_holds.nd rfl (Or.inl rfl) (pe_ifExp (pt_cmpR op_eq (pe_ix ix_tup (pv 0) pe_int (fun _ _ => rfl)) pe_str (nomark _)) pe_int (pe_dget hu (pv 1) (pe_ix ix_tup (pv 0) pe_int (fun _ _ => rfl)) (fun _ _ => rfl))))
    (pss_one (ps_ret (pe_cmpR op_le (pv 2) (pe_op op_add (pv 3) (pe_ix ix_tup (pv 0) pe_int (fun _ _ => rfl))) (nomark _)))))), ?_⟩
    have look : ∀ t : Str, (t = "" ∨ t ∈ ks) → t ≠ "" → DGet H d (.str t) (some (.int (val g t))) := fun t h ne => by
      unfold val
      rw [if_neg ne]
      exact dget_hk hd (h.resolve_left ne)
    have v0 : ∀ {t : Str}, decide (V.str t = V.str "") = true → val g t = 0 := fun {t} h => by
      have e := of_decide_eq_true h
      injection e with e
      rw [e]
      exact if_pos rfl
    have v1 : ∀ {t : Str}, ¬ decide (V.str t = V.str "") = true → t ≠ "" := fun {t} h e => h (by rw [e]; rfl)
    refine ⟨_, rfl, a, _, _, _, rfl, rfl, ha, rfl, rfl, _, rfl, ?_⟩
    refine ite2 (fun h1 => ?_) (fun h1 => ?_)
    · rw [v0 h1] at k
      refine ⟨_, rfl, a, _, _, _, rfl, rfl, ha, rfl, rfl, _, rfl, ?_⟩
      refine ite2 (fun h2 => ?_) (fun h2 => ?_)
      · rw [v0 h2] at k
        exact ⟨_, rfl, _, rfl, _, rfl, a, _, _, _, rfl, rfl, ha, rfl, _, _, rfl, rfl, _, _, rfl, rfl, k⟩
      · exact ⟨_, rfl, _, rfl, a, _, _, _, rfl, rfl, ha, rfl, d, _, rfl, look r hrr (v1 h2), _, rfl, _, rfl, _, rfl, a, _, _, _, rfl, rfl, ha, rfl, _, _, rfl, rfl, _, _, rfl, rfl, k⟩
    · refine ⟨_, rfl, _, rfl, a, _, _, _, rfl, rfl, ha, rfl, d, _, rfl, look l hl (v1 h1), ?_⟩
      refine ⟨_, rfl, a, _, _, _, rfl, rfl, ha, rfl, rfl, _, rfl, ?_⟩
      refine ite2 (fun h2 => ?_) (fun h2 => ?_)
      · rw [v0 h2] at k
        exact ⟨_, rfl, _, rfl, _, rfl, a, _, _, _, rfl, rfl, ha, rfl, _, _, rfl, rfl, _, _, rfl, rfl, k⟩
      · exact ⟨_, rfl, _, rfl, a, _, _, _, rfl, rfl, ha, rfl, d, _, rfl, look r hrr (v1 h2), _, rfl, _, rfl, _, rfl, a, _, _, _, rfl, rfl, ha, rfl, _, _, rfl, rfl, _, _, rfl, rfl, k⟩
theorem LitsAt.drop {ts : List Addr} {L : List (Str × Str × Int)} (h : LitsAt K H ts L) (k : Nat) : LitsAt K H (ts.drop k) (L.drop k) := by
  refine ⟨by simp [h.1], fun j q hj => ?_⟩
  rw [List.getElem?_drop] at hj ⊢
  exact h.2 _ q hj
theorem LitsAt.take {ts : List Addr} {L : List (Str × Str × Int)} (h : LitsAt K H ts L) (k : Nat) : LitsAt K H (ts.take k) (L.take k) := by
  refine ⟨by simp [h.1], fun j q hj => ?_⟩
  rw [List.getElem?_take] at hj ⊢
  split at hj
  · rename_i e
    rw [if_pos e]
    exact h.2 _ q hj
  · cases hj
theorem LitsAt.append {ts us : List Addr} {L M : List (Str × Str × Int)} (h : LitsAt K H ts L) (g : LitsAt K H us M) : LitsAt K H (ts ++ us) (L ++ M) := by
  refine ⟨by simp [h.1, g.1], fun j q hj => ?_⟩
  by_cases e : j < L.length
  · rw [List.getElem?_append_left e] at hj
    rw [List.getElem?_append_left (by rw [h.1]; exact e)]
    exact h.2 j q hj
  · rw [List.getElem?_append_right (by omega)] at hj
    rw [List.getElem?_append_right (by rw [h.1]; omega), h.1]
    exact g.2 _ q hj
theorem LitsAt.rev {ts : List Addr} {L : List (Str × Str × Int)} (h : LitsAt K H ts L) : LitsAt K H ts.reverse L.reverse := by
  refine ⟨by simp [h.1], fun j q hj => ?_⟩
  have hl := (List.getElem?_eq_some_iff.mp hj).1
  rw [List.length_reverse] at hl
  rw [List.getElem?_reverse hl] at hj
  rw [List.getElem?_reverse (by rw [h.1]; exact hl), h.1]
  exact h.2 _ q hj
theorem LitsAt.mem {ts : List Addr} {L : List (Str × Str × Int)} (h : LitsAt K H ts L) {v : V} (hv : v ∈ ts.map V.ref) : ∃ t q, v = .ref t ∧ q ∈ L ∧ SqT K H t [.str q.1, .str q.2.1, .int q.2.2] := by
  obtain ⟨t, ht, rfl⟩ := List.mem_map.mp hv
  obtain ⟨j, hj, e⟩ := List.mem_iff_getElem.mp ht
  have hq := List.getElem?_eq_getElem (l := L) (i := j) (by rw [← h.1]; exact hj)
  obtain ⟨t', h1, h2⟩ := h.2 j _ hq
  rw [List.getElem?_eq_getElem hj, e] at h1
  cases h1
  exact ⟨t, _, rfl, List.getElem_mem _, h2⟩
theorem LitsAt.dp {ts : List Addr} {L : List (Str × Str × Int)} (h : LitsAt K H ts L) : DpAll K H (ts.map V.ref) (L.map litD) := by
  induction L generalizing ts with
  | nil =>
    have : ts = [] := List.length_eq_zero_iff.mp h.1
    subst this
    exact .nil
  | cons q L ih =>
    cases ts with
    | nil => cases h.1
    | cons t ts =>
      obtain ⟨t', h1, h2⟩ := h.2 0 q rfl
      cases h1
      exact .cons (.tup h2 (.cons (.str _) (.cons (.str _) (.cons (.int _) .nil)))) (ih ⟨Nat.succ.inj h.1, fun j q' hj => h.2 (j + 1) q' hj⟩)
theorem ok_l_is_integer {f : Addr} {fd : FuncData} (F : C8.Def K mg "_law_is_integer" s_l_is_integer f fd) (b : Binds K fd ["_law_told"] []) (T : Txt mg) : C8.Cal P w K mg base 1 "_law_is_integer" (spNum K) [] := by
  refine C8.cal0 F b .nil sc_l_is_integer (fun vs H Q E h => ?_) (fun cdv A outer s H vs Q E hr h => ?_)
  · obtain ⟨v, t, a, c, rfl, _⟩ := h
    rfl
  · obtain ⟨v, t, a, c, rfl, ty, ka, kc, k⟩ := h
    refine ⟨_, (pss_one (ps_ret (pe_and (pe_callB call_isi (by rfl) T.z_isinstance (by decide +kernel) (pa_cons (pv 0) (pa_cons (pe_bltn (v := .ty "int") (by rfl) T.z_int (by decide +kernel) rfl) pa_nil))) (pe_one (pe_not (pe_callB call_isi (by rfl) T.z_isinstance (by decide +kernel) (pa_cons (pv 0) (pa_cons (pe_bltn (v := .ty "bool") (by rfl) T.z_bool (by decide +kernel) rfl) pa_nil)))))))), ?_⟩
    refine ⟨_, rfl, _, _, _, _, _, rfl, .ty _, ty, ka, _, rfl, ?_⟩
    cases a with
    | false => exact iteF k
    | true => exact iteT ⟨_, rfl, _, _, _, _, _, rfl, .ty _, ty, kc, _, rfl, k⟩
def spNumber : Sp := fun vs H Q _ => ∃ (l : Addr) (b : Bool), vs = [.ref l, .bl b] ∧ WellAt H l ∧ ∀ (n : Int) (H' : Hp), WellAt H' l → But l H H' → Q (.int n) H'
theorem ok_l_number {f : Addr} {fd : FuncData} (F : C8.Def K mg "_law_number" s_l_number f fd) (b : Binds K fd ["_law_well_here", "_law_wide"] []) (T : Txt mg) (K_l_draw : C8.Cal P w K mg base 1 "_law_draw" spDraw []) : C8.Cal P w K mg base 2 "_law_number" spNumber [] := by
  refine C8.cal0 F b .nil sc_l_number (fun vs H Q E h => ?_) (fun cdv A outer s H vs Q E hr h => ?_)
  · obtain ⟨l, b, rfl, _⟩ := h
    rfl
  · obtain ⟨l, b, rfl, W, k⟩ := h
    refine ⟨_, (pss_cons (ps_if (pt_truth (pv 1) (by intro _; rfl)) (pss_one (ps_ret (pe_op op_sub (C8.pe_c K_l_draw hr (by decide) (by rfl) (pa_cons (pv 0) (pa_cons (pe_op op_add (pe_op op_mul pe_int (pe_op op_pow pe_int pe_int)) pe_int) pa_nil))) (pe_op op_pow pe_int pe_int)))) pss_nil)
    (pss_one (ps_ret (pe_op op_sub (C8.pe_c K_l_draw hr (by decide) (by rfl) (pa_cons (pv 0) (pa_cons pe_int pa_nil))) pe_int)))), ?_⟩
    refine ⟨_, rfl, b, rfl, ?_⟩
    refine ite2 (fun _ => ?_) (fun _ => ?_)
    · exact ⟨_, rfl, _, _, rfl, rfl, ⟨by decide, by decide, by decide⟩, _, _, rfl, rfl, .inl ⟨by decide, by decide⟩, _, _, rfl, rfl, l, _, rfl, W, by decide, by decide, fun r H3 r0 r1 W3 B3 => ⟨_, _, rfl, rfl, ⟨by decide, by decide, by decide⟩, _, _, rfl, rfl, k _ _ W3 B3⟩⟩
    · exact ⟨_, rfl, l, 7, rfl, W, by decide, by decide, fun r H3 r0 r1 W3 B3 => ⟨_, _, rfl, rfl, k _ _ W3 B3⟩⟩
def spIsValues (K : PySem.W.Frag) : Sp := fun vs H Q _ => ∃ (p d : Addr) (ts : List Addr) (lits : List (Str × Str × Int)) (ks : List Str) (g : Str → Int), vs = [.ref p, .ref d] ∧ SqL K H p (ts.map V.ref) ∧ LitsAt K H ts lits ∧ lits.length ≤ 20 ∧ OkT lits ∧ H d = some (.dK (hk ks g)) ∧ ks.Nodup ∧ (∀ x, x ∈ ks ↔ x ≠ "" ∧ ∃ q ∈ lits, x = q.1 ∨ x = q.2.1) ∧ (∀ q ∈ lits, val g q.1 ≤ val g q.2.1 + q.2.2) ∧
  ∀ H', Same H H' → Q (.bl true) H'
theorem hk_keys {ks : List Str} {g : Str → Int} : ((hk ks g).map fun kv => kV kv.1) = ks.map V.str := by
  unfold hk
  rw [List.map_map]
  rfl
theorem ok_l_is_values {f : Addr} {fd : FuncData} (F : C8.Def K mg "_law_is_values" s_l_is_values f fd) (b : Binds K fd ["_law_literals", "_law_found"] []) (T : Txt mg) (K_l_is_integer : C8.Cal P w K mg base 1 "_law_is_integer" (spNum K) []) (K_l_holds : C8.Cal P w K mg base 1 "_law_holds" (spHolds K) []) : C8.Cal P w K mg base 2 "_law_is_values" (spIsValues K) [] := by
  refine C8.cal0 F b .nil sc_l_is_values (fun vs H Q E h => ?_) (fun cdv A outer s H vs Q E hr h => ?_)
  · obtain ⟨p, d, ts, lits, ks, g, rfl, _⟩ := h
    rfl
  · obtain ⟨p, d, ts, lits, ks, g, rfl, hp, hL, h20, hok, hd, nd, hm, hv, k⟩ := h
    have hu := hu_of hr
    refine ⟨_, (pss_cons (ps_if (pt_not (pt_val (pe_callB call_isi (by rfl) T.z_isinstance (by decide +kernel) (pa_cons (pv 1) (pa_cons (pe_bltn (v := .ty "dict") (by rfl) T.z_dict (by decide +kernel) rfl) pa_nil))))) (pss_one (ps_ret pe_bl)) pss_nil)
    (pss_cons (ps_set (i := 2) sc_l_is_values.nd rfl (Or.inl rfl) (pe_lst pa_nil))
    (pss_cons (ps_for PassesOwn.never rfl (pi_list (pv 0)) (pg_name (i := 3) sc_l_is_values.nd rfl (Or.inl rfl))
    (pss_one (ps_set (i := 2) sc_l_is_values.nd rfl (Or.inl rfl) (pe_op op_catS (pv 2) (pe_lc (own := [("_law_term", 4)]) (g := gName 4) rfl sc_l_is_values.nd (pi_tup (pe_slice sl_tupU (pv 3) po_none (po_some pe_int))) (blkOk_by (own := [("_law_term", 4)]) (N := N_l_is_values) (sc := C8.fnScope s_l_is_values) (by decide +kernel)) (fun _ _ _ _ _ => (pg_name (i := 4) sc_l_is_values.nd rfl (Or.inl rfl))) (fun _ _ _ _ _ => (pts_one (pt_cmpR op_ne (pv 4) pe_str (nomark _)))) (fun _ _ _ _ _ => (pv 4)))))))
    (pss_cons (ps_if (pt_cmpR (op_neD hr.units) (pe_callB cr_sortedS (by rfl) T.z_sorted (by decide +kernel) (pa_cons (pe_lc (own := [("_law_term", 4)]) (g := gName 4) (tt := tYes) rfl sc_l_is_values.nd (pi_list (pe_callTy (call_listD rfl) (by rfl) T.z_list (by decide +kernel) (pa_cons (pv 1) pa_nil))) (blkOk_by (own := [("_law_term", 4)]) (N := N_l_is_values) (sc := C8.fnScope s_l_is_values) (by decide +kernel)) (fun _ _ _ _ _ => (pg_name (i := 4) sc_l_is_values.nd rfl (Or.inl rfl))) (fun _ _ _ _ _ => pts_nil) (fun _ _ _ _ _ => (pe_callTy SkE.call_str_str (by rfl) T.z_str (by decide +kernel) (pa_cons (pv 4) pa_nil)))) pa_nil)) (Tx.pe_sortSet T.z_sorted T.z_set (pe_lc (own := [("_law_term", 4)]) (g := gName 4) (tt := tYes) rfl sc_l_is_values.nd (pi_list (pv 2)) (blkOk_by (own := [("_law_term", 4)]) (N := N_l_is_values) (sc := C8.fnScope s_l_is_values) (by decide +kernel)) (fun _ _ _ _ _ => (pg_name (i := 4) sc_l_is_values.nd rfl (Or.inl rfl))) (fun _ _ _ _ _ => pts_nil) (fun _ _ _ _ _ => (pe_callTy SkE.call_str_str (by rfl) T.z_str (by decide +kernel) (pa_cons (pv 4) pa_nil))))) (nomark _)) (pss_one (ps_ret pe_bl)) pss_nil)
    (pss_cons (ps_if (pt_cmpR (op_neD hr.units) (pe_lc (own := [("_law_term", 4)]) (g := gName 4) rfl sc_l_is_values.nd (pi_list (pe_callTy (call_listD rfl) (by rfl) T.z_list (by decide +kernel) (pa_cons (pv 1) pa_nil))) (blkOk_by (own := [("_law_term", 4)]) (N := N_l_is_values) (sc := C8.fnScope s_l_is_values) (by decide +kernel)) (fun _ _ _ _ _ => (pg_name (i := 4) sc_l_is_values.nd rfl (Or.inl rfl))) (fun _ _ _ _ _ => (pts_one (pt_not (pt_val (C8.pe_c K_l_is_integer hr (by decide) (by rfl) (pa_cons (pe_dget hu (pv 1) (pv 4) (fun _ _ => rfl)) pa_nil)))))) (fun _ _ _ _ _ => (pv 4))) (pe_lst pa_nil) (nomark _)) (pss_one (ps_ret pe_bl)) pss_nil)
    (pss_one (ps_ret (pe_cmpR (op_eqD hr.units) (pe_lc (own := [("_law_one_here", 3)]) (g := gName 3) rfl sc_l_is_values.nd (pi_list (pv 0)) (blkOk_by (own := [("_law_one_here", 3)]) (N := N_l_is_values) (sc := C8.fnScope s_l_is_values) (by decide +kernel)) (fun _ _ _ _ _ => (pg_name (i := 3) sc_l_is_values.nd rfl (Or.inl rfl))) (fun _ _ _ _ _ => (pts_one (pt_not (pt_val (C8.pe_c K_l_holds hr (by decide) (by rfl) (pa_cons (pv 3) (pa_cons (pv 1) pa_nil))))))) (fun _ _ _ _ _ => (pv 3))) (pe_lst pa_nil) (nomark _))))))))), ?_⟩
    refine ⟨_, rfl, _, _, _, _, true, rfl, .ty _, .base (.dK hd), rfl, _, rfl, ?_⟩
    refine iteF ?_
    refine ⟨Nat.zero_le _, fun D nD => ?_⟩
    have S1 := Same.new (o := HO.lst []) nD
    have hlt : (ts.map V.ref).length = lits.length := by rw [List.length_map, hL.1]
    refine ⟨_, rfl, p, rfl, ⟨_, S1.seq hp⟩, for_list (xs := ts.map V.ref) (fun i σ H' => ∃ (v3 : Option V) (D : Addr) (xs : List Str), σ = [some (.ref p), some (.ref d), some (.ref D), v3, none] ∧ Same H H' ∧ H' D = some (.lst (xs.map V.str)) ∧ xs.length ≤ 2 * i ∧ (∀ x ∈ xs, PyData.strOk x = true) ∧
        ∀ x, x ∈ xs ↔ x ≠ "" ∧ ∃ j q, j < i ∧ lits[j]? = some q ∧ (x = q.1 ∨ x = q.2.1))
      ⟨none, D, [], rfl, S1, upd_same, Nat.zero_le _, fun x h => (by cases h), fun x => ⟨fun h => (by cases h), fun ⟨_, j, q, h, _⟩ => absurd h (Nat.not_lt_zero j)⟩⟩ (fun i σ H' _ h => ?_) ?_ ?_⟩
    · obtain ⟨_, _, _, _, S, _⟩ := h
      exact S.seq hp
    · rintro i x σ H2 hx ⟨v3, D2, xs, rfl, S2, hD, hxl, hxo, hxm⟩
      rw [List.getElem?_map] at hx
      obtain ⟨t, ht, rfl⟩ := Option.map_eq_some_iff.mp hx
      have hil : i < lits.length := by
        rw [← hL.1]
        exact (List.getElem?_eq_some_iff.mp ht).1
      have hlq := List.getElem?_eq_getElem hil
      obtain ⟨t', ht', hs⟩ := (hL.mono S2).2 i _ hlq
      have et : t' = t := Option.some.inj (ht'.symm.trans ht)
      subst et
      have hoq := hok _ (List.mem_of_getElem? hlq)
      generalize hq : lits[i] = q0 at *
      obtain ⟨lf, rg, n⟩ := q0
      refine ⟨_, rfl, _, rfl, _, rfl, t', _, rfl, hs, fun c H3 S3 hc => ⟨c, rfl, ⟨_, hc⟩, fun M nM => ?_⟩⟩
      have ec : cutV [V.str lf, V.str rg, V.int n] none (some 2) = [V.str lf, V.str rg] := by
        rw [show (2 : Int) = ((2 : Nat) : Int) from rfl, cut_to (by show 2 ≤ 3; decide)]
        rfl
      rw [ec] at hc
      refine lc_tup (xs := [V.str lf, V.str rg]) (fun j H' => Same H3 H' ∧ ∃ ys : List Str, H' M = some (.lst (ys.map V.str)) ∧ ys.length ≤ j ∧ (∀ y ∈ ys, PyData.strOk y = true) ∧ ∀ y, y ∈ ys ↔ y ≠ "" ∧ ((0 < j ∧ y = lf) ∨ (1 < j ∧ y = rg)))
        ⟨Same.new nM, [], upd_same, Nat.zero_le _, fun y h => (by cases h), fun y => ⟨fun h => (by cases h), fun ⟨_, h⟩ => h.elim (fun h => absurd h.1 (by omega)) fun h => absurd h.1 (by omega)⟩⟩ (fun j H' _ h => Same.seqT h.1 hc) ?_ ?_
      · rintro j x H4 hx ⟨S4, ys, hM, hyl, hyo, hym⟩
        have hj3 : j < 2 := (List.getElem?_eq_some_iff.mp hx).1
        have hx2 : ∃ y : Str, x = .str y ∧ PyData.strOk y = true ∧ ∀ z, ((0 < j ∧ z = lf) ∨ (1 < j ∧ z = rg)) ∨ z = y ↔ (0 < j + 1 ∧ z = lf) ∨ (1 < j + 1 ∧ z = rg) := by
          match j, hx with
          | 0, hx => exact ⟨lf, (Option.some.inj hx).symm, hoq.1, fun z => by simp⟩
          | 1, hx => exact ⟨rg, (Option.some.inj hx).symm, hoq.2, fun z => by simp⟩
          | j + 2, hx => cases hx
        obtain ⟨y, rfl, hyk, hy⟩ := hx2
        refine ⟨rfl, _, rfl, rfl, _, rfl, ?_⟩
        by_cases e : y = ""
        · have e2 : (!decide (V.str y = V.str "")) = false := by rw [e]; rfl
          rw [e2]
          refine iteF ⟨S4, ys, hM, by omega, hyo, fun z => ?_⟩
          rw [hym, ← hy]
          exact ⟨fun ⟨h1, h2⟩ => ⟨h1, .inl h2⟩, fun ⟨h1, h2⟩ => ⟨h1, h2.elim id fun h => absurd (h.trans e) h1⟩⟩
        · have e2 : (!decide (V.str y = V.str "")) = true := by
            rw [decide_eq_false fun h => e (by injection h)]
            rfl
          rw [e2]
          refine iteT ⟨_, rfl, _, hM, szs (by simp; omega), Same.mut S4 nM, ys ++ [y], ?_, by simp; omega, fun z hz => ?_, fun z => ?_⟩
          · rw [upd_same, List.map_append]
            rfl
          · rcases List.mem_append.mp hz with h | h
            · exact hyo z h
            · rw [show z = y by simpa using h]
              exact hyk
          · rw [List.mem_append, hym, ← hy]
            constructor
            · rintro (⟨h1, h2⟩ | h)
              · exact ⟨h1, .inl h2⟩
              · have h : z = y := by simpa using h
                exact ⟨h ▸ e, .inr h⟩
            · rintro ⟨h1, h2 | h⟩
              · exact .inl ⟨h1, h2⟩
              · exact .inr (by simp [h])
      · rintro H4 ⟨S4, ys, hM, hyl, hyo, hym⟩
        have hD4 := (S3.trans S4) _ _ hD
        have hyl2 : ys.length ≤ 2 := hyl
        refine ⟨D2, M, _, _, rfl, rfl, SqL.of hD4, SqL.of hM, sz (by simp; omega), fun y ny => ?_⟩
        have Sy := Same.new (o := HO.lst (xs.map V.str ++ ys.map V.str)) ny
        refine ⟨some (.ref t'), y, xs ++ ys, rfl, S2.trans ((S3.trans S4).trans Sy), ?_, by rw [List.length_append]; omega, fun z hz => (List.mem_append.mp hz).elim (hxo z) (hyo z), fun z => ?_⟩
        · rw [upd_same, List.map_append]
        · rw [List.mem_append, hxm, hym]
          constructor
          · rintro (⟨h1, j, q, hj, hq, h⟩ | ⟨h1, ⟨_, h⟩ | ⟨_, h⟩⟩)
            · exact ⟨h1, j, q, by omega, hq, h⟩
            · exact ⟨h1, i, _, Nat.lt_succ_self i, hlq, .inl h⟩
            · exact ⟨h1, i, _, Nat.lt_succ_self i, hlq, .inr h⟩
          · rintro ⟨h1, j, q, hj, hqq, h⟩
            by_cases e : j = i
            · subst e
              rw [hlq] at hqq
              cases hqq
              rcases h with h | h
              · exact .inr ⟨h1, .inl ⟨Nat.zero_lt_succ _, h⟩⟩
              · exact .inr ⟨h1, .inr ⟨by show 1 < 2; decide, h⟩⟩
            · exact .inl ⟨h1, j, q, by omega, hqq, h⟩
    · rintro σ H2 ⟨v3, D2, xs, rfl, S2, hD, hxl, hxo, hxm⟩
      rw [hlt] at hxl hxm
      have hmem : ∀ x, x ∈ xs ↔ x ∈ ks := fun x => by
        rw [hxm, hm]
        constructor
        · rintro ⟨h1, j, q, _, hq, h⟩
          exact ⟨h1, q, List.mem_of_getElem? hq, h⟩
        · rintro ⟨h1, q, hq, h⟩
          obtain ⟨j, hj, e⟩ := List.mem_iff_getElem.mp hq
          exact ⟨h1, j, q, hj, by rw [List.getElem?_eq_getElem hj, e], h⟩
      have hkl : ks.length ≤ 40 := by
        have := Bf.len_le nd (ys := xs) fun x hx => (hmem x).mpr hx
        omega
      have hko : ∀ x ∈ ks, PyData.strOk x = true := fun x hx => hxo x ((hmem x).mpr hx)
      have hd2 := S2 _ _ hd
      -- sorted([str(t) for t in list(found)])
      refine ⟨_, rfl, d, _, rfl, .inl hd2, fun q nq => ⟨q, rfl, ⟨_, SqL.of upd_same⟩, fun M nM => ?_⟩⟩
      rw [hk_keys] at nM ⊢
      have Sq := Same.new (o := HO.lst (ks.map V.str)) nq
      have hq0 : (upd H2 q (.lst (ks.map V.str))) q = some (.lst (ks.map V.str)) := upd_same
      generalize upd H2 q (.lst (ks.map V.str)) = H3 at *
      refine lc_list (xs := ks.map V.str) (fun j H' => Same H3 H' ∧ H' M = some (.lst ((ks.take j).map V.str))) ⟨Same.new nM, upd_same⟩ (fun j H' _ h => SqL.of (h.1 _ _ hq0)) ?_ ?_
      · rintro j x H4 hx ⟨S4, hM⟩
        rw [List.getElem?_map] at hx
        obtain ⟨y, hy, rfl⟩ := Option.map_eq_some_iff.mp hx
        refine ⟨rfl, _, rfl, y, rfl, _, hM, szs (by simp; omega), Same.mut S4 nM, ?_⟩
        rw [upd_same, List.take_succ, hy, List.map_append]
        rfl
      · rintro H4 ⟨S4, hM⟩
        rw [List.length_map, List.take_length] at hM
        refine ⟨M, ks, rfl, SqL.of hM, by omega, fun ys r hperm hsort nr => ?_⟩
        have Sr := Same.new (o := HO.lst (ys.map V.str)) nr
        have S24 := (Sq.trans S4).trans Sr
        have hDr := S24 _ _ hD
        have hr0 : (upd H4 r (.lst (ys.map V.str))) r = some (.lst (ys.map V.str)) := upd_same
        generalize upd H4 r (.lst (ys.map V.str)) = H5 at *
        refine ⟨_, rfl, D2, rfl, ⟨_, SqL.of hDr⟩, fun M2 nM2 => lc_list (xs := xs.map V.str) (fun j H' => Same H5 H' ∧ H' M2 = some (.lst ((xs.take j).map V.str))) ⟨Same.new nM2, upd_same⟩ (fun j H' _ h => SqL.of (h.1 _ _ hDr)) ?_ ?_⟩
        · rintro j x H6 hx ⟨S6, hM2⟩
          rw [List.getElem?_map] at hx
          obtain ⟨y, hy, rfl⟩ := Option.map_eq_some_iff.mp hx
          refine ⟨rfl, _, rfl, y, rfl, _, hM2, szs (by simp; omega), Same.mut S6 nM2, ?_⟩
          rw [upd_same, List.take_succ, hy, List.map_append]
          rfl
        · rintro H6 ⟨S6, hM2⟩
          rw [List.length_map, List.take_length] at hM2
          refine ⟨M2, xs, rfl, SqL.of hM2, by omega, fun zs r2 hsort2 nd2 hm2 nr2 => ?_⟩
          have Sr2 := Same.new (o := HO.lst (zs.map V.str)) nr2
          have eyz : ys = zs := Tx.same_sorted (Tx.pw_sorted hsort) (Tx.pw_sorted hsort2) (hperm.nodup_iff.mpr nd) nd2 fun x => by rw [hperm.mem_iff, hm2, hmem]
          subst eyz
          have hyo : ∀ y ∈ ys, PyData.strOk y = true := fun y hy => hko y (hperm.mem_iff.mp hy)
          refine ⟨.list (ys.map PyData.str), .list (ys.map PyData.str), .lst (SqL.of ((S6.trans Sr2) _ _ hr0)) (dp_strs ys), .lst (SqL.of upd_same) (dp_strs ys), shaped_strs hyo, shaped_strs hyo, _, rfl, ?_⟩
          have e2 : (!PyData.eqv (.list (ys.map PyData.str)) (.list (ys.map PyData.str))) = false := by simp [PyData.eqv, eqv_strs.mpr rfl]
          rw [e2]
          refine iteF ?_
          have S27 := (S24.trans S6).trans Sr2
          have hd7 := S27 _ _ hd2
          have S07 := S2.trans S27
          generalize upd H6 r2 (.lst (ys.map V.str)) = H7 at *
          -- all are integers
          refine ⟨_, rfl, d, _, rfl, .inl hd7, fun q7 nq7 => ⟨q7, rfl, ⟨_, SqL.of upd_same⟩, fun M3 nM3 => ?_⟩⟩
          rw [hk_keys] at nM3 ⊢
          have Sq7 := Same.new (o := HO.lst (ks.map V.str)) nq7
          have hq7 : (upd H7 q7 (.lst (ks.map V.str))) q7 = some (.lst (ks.map V.str)) := upd_same
          generalize upd H7 q7 (.lst (ks.map V.str)) = H8 at *
          refine lc_list (xs := ks.map V.str) (fun j H' => Same H8 H' ∧ H' M3 = some (.lst [])) ⟨Same.new nM3, upd_same⟩ (fun j H' _ h => SqL.of (h.1 _ _ hq7)) ?_ ?_
          · rintro j x H9 hx ⟨S9, hM3⟩
            rw [List.getElem?_map] at hx
            obtain ⟨y, hy, rfl⟩ := Option.map_eq_some_iff.mp hx
            exact ⟨rfl, _, rfl, _, rfl, d, _, rfl, dget_hk (S9 _ _ (Sq7 _ _ hd7)) (List.mem_of_getElem? hy), _, _, true, false, rfl, .base (.int _), rfl, rfl, _, rfl, S9, hM3⟩
          · rintro H9 ⟨S9, hM3⟩
            refine ⟨Nat.zero_le _, fun z3 nz3 => ?_⟩
            have S10 := Same.new (o := HO.lst []) nz3
            refine ⟨.list [], .list [], .lst (SqL.of (S10 _ _ hM3)) .nil, .lst (SqL.of upd_same) .nil, shaped_ints [], shaped_ints [], _, rfl, ?_⟩
            have e3 : (!PyData.eqv (.list []) (.list [])) = false := by simp [PyData.eqv, PyData.eqvAll]
            rw [e3]
            refine iteF ?_
            have S0A := S07.trans ((Sq7.trans S9).trans S10)
            have hpA := S0A.seq hp
            have hLA := hL.mono S0A
            have hdA := S0A _ _ hd
            generalize upd H9 z3 (.lst []) = HA at *
            -- all hold
            refine ⟨_, rfl, p, rfl, ⟨_, hpA⟩, fun M4 nM4 => lc_list (xs := ts.map V.ref) (fun i H' => Same HA H' ∧ H' M4 = some (.lst [])) ⟨Same.new nM4, upd_same⟩ (fun i H' _ h => h.1.seq hpA) ?_ ?_⟩
            · rintro i x HB hx ⟨SB, hM4⟩
              obtain ⟨t2, q2, rfl, hq2, hs2⟩ := (hLA.mono SB).mem (List.mem_of_getElem? hx)
              have side : ∀ y, (∃ q ∈ lits, y = q.1 ∨ y = q.2.1) → (y = "" ∨ y ∈ ks) := fun y hy => by
                by_cases e : y = ""
                · exact .inl e
                · exact .inr ((hm y).mpr ⟨e, hy⟩)
              refine ⟨rfl, _, rfl, _, rfl, t2, d, _, _, _, ks, g, rfl, hs2, SB _ _ hdA, side _ ⟨q2, hq2, .inl rfl⟩, side _ ⟨q2, hq2, .inr rfl⟩, ?_⟩
              rw [decide_eq_true (hv q2 hq2)]
              exact ⟨_, rfl, SB, hM4⟩
            · rintro HB ⟨SB, hM4⟩
              refine ⟨Nat.zero_le _, fun z4 nz4 => ?_⟩
              have SC := Same.new (o := HO.lst []) nz4
              refine ⟨.list [], .list [], .lst (SqL.of (SC _ _ hM4)) .nil, .lst (SqL.of upd_same) .nil, shaped_ints [], shaped_ints [], ?_⟩
              have e4 : PyData.eqv (.list []) (.list []) = true := by simp [PyData.eqv, PyData.eqvAll]
              rw [e4]
              exact k _ (S0A.trans (SB.trans SC))
end
end K1

namespace K1
open PySem L2 Bx
def lft (lits : List (Str × Str × Int)) (i : Nat) : Str := (lits.getD i ("", "", 0)).1
def rgt (lits : List (Str × Str × Int)) (i : Nat) : Str := (lits.getD i ("", "", 0)).2.1
theorem at_lit {lits : List (Str × Str × Int)} {i : Nat} {q : Str × Str × Int} (h : lits[i]? = some q) : lft lits i = q.1 ∧ rgt lits i = q.2.1 ∧ Bf.num lits i = q.2.2 := by
  unfold lft rgt
  rw [List.getD_eq_getElem?_getD, h]
  exact ⟨rfl, rfl, Bf.num_at h⟩
theorem tot_append (lits : List (Str × Str × Int)) : ∀ xs ys : List Nat, Bf.tot lits (xs ++ ys) = Bf.tot lits xs + Bf.tot lits ys
  | [], ys => by simp [Bf.tot]
  | x :: xs, ys => by
    show Bf.num lits x + Bf.tot lits (xs ++ ys) = Bf.num lits x + Bf.tot lits xs + Bf.tot lits ys
    rw [tot_append lits xs ys]
    omega
theorem take_snoc {α : Type} {xs : List α} {i : Nat} {x : α} (h : xs[i]? = some x) : xs.take (i + 1) = xs.take i ++ [x] := by
  rw [List.take_succ, h]
  rfl
theorem natV_map (is : List Nat) : is.map natV = (is.map Int.ofNat).map V.int := by
  rw [List.map_map]
  rfl
section
variable {P : Program} {w : World} {K : PySem.W.Frag} {mg : Str → Option Value} {base : Heap}
theorem ring_lr {lits : List (Str × Str × Int)} {is : List Nat} {f : Nat → Str} (R : Bf.IsRing lits is f) {j : Nat} (hj : j < is.length) : ∃ i, is[j]? = some i ∧ i < lits.length ∧ lft lits i = f j ∧ rgt lits i = f (j + 1) := by
  obtain ⟨i, n, h1, h2⟩ := R.at_ j hj
  obtain ⟨e1, e2, _⟩ := at_lit h2
  exact ⟨i, h1, (List.getElem?_eq_some_iff.mp h2).1, e1, e2⟩
def spIsRing (K : PySem.W.Frag) : Sp := fun vs H Q _ => ∃ (p c : Addr) (ts : List Addr) (lits : List (Str × Str × Int)) (is : List Nat) (f : Nat → Str), vs = [.ref p, .ref c] ∧ SqL K H p (ts.map V.ref) ∧ LitsAt K H ts lits ∧ lits.length ≤ 300 ∧ SqT K H c (is.map natV) ∧ is.length ≤ 1000 ∧ Bf.IsRing lits is f ∧
  ∀ H', Same H H' → Q (.bl true) H'
theorem ok_l_is_ring {f : Addr} {fd : FuncData} (F : C8.Def K mg "_law_is_ring" s_l_is_ring f fd) (b : Binds K fd ["_law_literals", "_law_indices"] []) (T : Txt mg) (K_l_is_integer : C8.Cal P w K mg base 1 "_law_is_integer" (spNum K) []) : C8.Cal P w K mg base 2 "_law_is_ring" (spIsRing K) [] := by
  refine C8.cal0 F b .nil sc_l_is_ring (fun vs H Q E h => ?_) (fun cdv A outer s H vs Q E hr h => ?_)
  · obtain ⟨p, c, ts, lits, is, f, rfl, _⟩ := h
    rfl
  · obtain ⟨p, c, ts, lits, is, f, rfl, hp, hL, h300, hc, h1000, R, k⟩ := h
    refine ⟨_, (pss_cons (ps_if (PW.pt (pw_or (pt_not (pt_val (pe_callB call_isi (by rfl) T.z_isinstance (by decide +kernel) (pa_cons (pv 1) (pa_cons (pe_bltn (v := .ty "tuple") (by rfl) T.z_tuple (by decide +kernel) rfl) pa_nil))))) (pw_or1 (pt_cmpR op_eq (pe_callB call_len_seq (by rfl) T.z_len (by decide +kernel) (pa_cons (pv 1) pa_nil)) pe_int (nomark _))))) (pss_one (ps_ret pe_bl)) pss_nil)
    (pss_cons (ps_set (i := 2) sc_l_is_ring.nd rfl (Or.inl rfl) pe_int)
    (pss_cons (ps_for PassesOwn.never rfl (pi_range1 (by rfl) T.z_range (pa_cons (pe_callB call_len_seq (by rfl) T.z_len (by decide +kernel) (pa_cons (pv 1) pa_nil)) pa_nil)) (pg_name (i := 3) sc_l_is_ring.nd rfl (Or.inl rfl))
    (pss_cons (ps_set (i := 4) sc_l_is_ring.nd rfl (Or.inl rfl) (pe_ix ix_tup (pv 1) (pv 3) (fun _ _ => rfl)))
    (pss_cons (ps_if (PW.pt (pw_or (pt_not (pt_val (C8.pe_c K_l_is_integer hr (by decide) (by rfl) (pa_cons (pv 4) pa_nil)))) (pw_or (pt_not (pt_chain op_le op_lt pe_int (pv 4) (pe_callB call_len_seq (by rfl) T.z_len (by decide +kernel) (pa_cons (pv 0) pa_nil)))) (pw_or1 (pt_cmpR op_in_seq (pv 4) (pe_slice sl_tupU (pv 1) po_none (po_some (pv 3))) (by rfl)))))) (pss_one (ps_ret pe_bl)) pss_nil)
    (pss_one (ps_set (i := 2) sc_l_is_ring.nd rfl (Or.inl rfl) (pe_op op_add (pv 2) (pe_ix ix_tup (pe_ix ix_list (pv 0) (pv 4) (fun _ _ => rfl)) pe_int (fun _ _ => rfl))))))))
    (pss_cons (ps_for PassesOwn.never rfl (pi_range1 (by rfl) T.z_range (pa_cons (pe_callB call_len_seq (by rfl) T.z_len (by decide +kernel) (pa_cons (pv 1) pa_nil)) pa_nil)) (pg_name (i := 3) sc_l_is_ring.nd rfl (Or.inl rfl))
    (pss_one (ps_if (pt_cmpR op_ne (pe_ix ix_tup (pe_ix ix_list (pv 0) (pe_ix ix_tup (pv 1) (pv 3) (fun _ _ => rfl)) (fun _ _ => rfl)) pe_int (fun _ _ => rfl)) (pe_ix ix_tup (pe_ix ix_list (pv 0) (pe_ix ix_tup (pv 1) (pe_op op_mod (pe_op op_add (pv 3) pe_int) (pe_callB call_len_seq (by rfl) T.z_len (by decide +kernel) (pa_cons (pv 1) pa_nil))) (fun _ _ => rfl)) (fun _ _ => rfl)) pe_int (fun _ _ => rfl)) (nomark _)) (pss_one (ps_ret pe_bl)) pss_nil)))
    (pss_one (ps_ret (pe_cmpR op_lt (pv 2) pe_int (nomark _)))))))), ?_⟩
    have hlen : (is.map natV).length = is.length := List.length_map ..
    have hpl : ((ts.map V.ref).length : Int) = (lits.length : Int) := by rw [List.length_map, hL.1]
    have hpos : 0 < is.length := List.length_pos_iff.mpr R.ne
    have look : ∀ {a : Nat} {H' : Hp}, a < lits.length → Same H H' → ∃ (t : Addr), atI (ts.map V.ref) (a : Int) = some (.ref t) ∧ SqT K H' t [.str (lft lits a), .str (rgt lits a), .int (Bf.num lits a)] := by
      intro a H' ha S'
      have hq := List.getElem?_eq_getElem ha
      obtain ⟨t, ht, hs⟩ := hL.2 a _ hq
      obtain ⟨e1, e2, e3⟩ := at_lit hq
      refine ⟨t, atI_nat (by rw [List.getElem?_map, ht]; rfl), ?_⟩
      rw [e1, e2, e3]
      exact Same.seqT S' hs
    have hatC : ∀ {j a : Nat} {v : Int}, v = (j : Int) → is[j]? = some a → atI (is.map natV) v = some (natV a) := fun {j a v} e hj => by
      subst e
      exact atI_nat (by rw [List.getElem?_map, hj]; rfl)
    refine ⟨_, rfl, _, _, _, _, true, rfl, .ty _, tyT hc, rfl, _, rfl, ?_⟩
    refine iteF ?_
    refine ⟨_, rfl, c, _, rfl, .inr hc, rfl, _, rfl, ?_⟩
    have e0 : decide (V.int ((is.map natV).length : Nat) = V.int 0) = false := decide_eq_false fun h => by
      injection h with h
      omega
    rw [e0]
    refine iteF ?_
    refine ⟨_, rfl, c, _, rfl, .inr hc, _, rfl, by omega, by omega, for_range (lo := 0) (n := (((is.map natV).length : Nat) : Int).toNat) (fun i σ H' => ∃ (v3 v4 : Option V), σ = [some (.ref p), some (.ref c), some (.int (Bf.tot lits (is.take i))), v3, v4] ∧ Same H H') ⟨none, none, rfl, Same.refl H⟩ ?_ ?_⟩
    · rintro j σ H2 hj ⟨v3, v4, rfl, S⟩
      have hj2 : j < is.length := by omega
      obtain ⟨a, ha, hal, _, _⟩ := ring_lr R hj2
      have hc2 := Same.seqT S hc
      refine ⟨_, rfl, _, rfl, c, _, _, _, rfl, rfl, hc2, hatC (by omega) ha, ?_⟩
      refine ⟨_, rfl, _, _, true, false, rfl, .base (.int (a : Nat)), rfl, rfl, _, rfl, ?_⟩
      refine iteF ?_
      refine ⟨_, rfl, _, _, rfl, rfl, _, rfl, ?_⟩
      refine ite2 (fun hz0 => ?_) (fun hz0 => absurd (decide_eq_true (Int.natCast_nonneg a)) hz0)
      refine ⟨_, rfl, p, _, rfl, .inl (S.seq hp), _, _, rfl, rfl, _, rfl, ?_⟩
      have e1 : decide ((a : Int) < ((ts.map V.ref).length : Int)) = true := decide_eq_true (by omega)
      rw [e1]
      refine iteF ?_
      refine ⟨_, rfl, _, rfl, _, rfl, _, rfl, c, _, rfl, hc2, fun c2 H3 S3 hc3 => ?_⟩
      have ec : cutV (is.map natV) none (some ((0 : Int) + (j : Int))) = ((is.take j).map Int.ofNat).map V.int := by
        rw [Int.zero_add, cut_to (by omega), ← natV_map, List.map_take]
      rw [ec] at hc3
      refine ⟨c2, _, rfl, .inr hc3, rfl, flat_ints _, _, rfl, ?_⟩
      have e2 : inV (natV a) (((is.take j).map Int.ofNat).map V.int) = false := by
        show inV (.int (a : Int)) _ = false
        rw [inV_ints]
        refine decide_eq_false fun h => ?_
        obtain ⟨b, hb, e⟩ := List.mem_map.mp h
        have eb : b = a := Int.ofNat.inj e
        subst eb
        obtain ⟨i, hi, e3⟩ := List.mem_iff_getElem.mp hb
        rw [List.length_take] at hi
        rw [List.getElem_take] at e3
        have nd := List.pairwise_iff_getElem.mp (List.nodup_iff_pairwise_ne.mp R.nodup) i j (by omega) hj2 (by omega)
        have e4 := List.getElem?_eq_getElem hj2
        rw [ha] at e4
        exact nd (e3.trans (Option.some.inj e4))
      rw [e2]
      refine iteF ?_
      have S03 := S.trans S3
      obtain ⟨t, h1, h2⟩ := look hal S03
      refine ⟨_, rfl, _, rfl, _, rfl, p, _, _, _, rfl, rfl, S03.seq hp, h1, t, _, _, _, rfl, rfl, h2, rfl, _, _, rfl, rfl, ?_⟩
      refine ⟨some (.int (0 + (j : Int))), some (natV a), ?_, S03⟩
      have e4 : Bf.tot lits (is.take (j + 1)) = Bf.tot lits (is.take j) + Bf.num lits a := by
        rw [take_snoc ha, tot_append]
        simp [Bf.tot]
      rw [e4]
      rfl
    · rintro σ H2 ⟨v3, v4, rfl, S⟩
      rw [hlen, show ((is.length : Nat) : Int).toNat = is.length by omega, List.take_length]
      have hc2 := Same.seqT S hc
      refine ⟨_, rfl, c, _, rfl, .inr hc2, _, rfl, by omega, by omega, for_range (lo := 0) (n := (((is.map natV).length : Nat) : Int).toNat) (fun i σ H' => ∃ (v3 v4 : Option V), σ = [some (.ref p), some (.ref c), some (.int (Bf.tot lits is)), v3, v4] ∧ Same H H') ⟨v3, v4, rfl, S⟩ ?_ ?_⟩
      · rintro j σ H3 hj ⟨v3, v4, rfl, S3⟩
        have hj2 : j < is.length := by omega
        obtain ⟨a, ha, hal, _, hra⟩ := ring_lr R hj2
        have hm2 : (j + 1) % is.length < is.length := Nat.mod_lt _ hpos
        obtain ⟨b, hb, hbl, hlb, _⟩ := ring_lr R hm2
        have hc3 := Same.seqT S3 hc
        have hp3 := S3.seq hp
        obtain ⟨t, h1, h2⟩ := look hal S3
        obtain ⟨u, h3, h4⟩ := look hbl S3
        have em : ((0 : Int) + (j : Int) + 1) % (((is.map natV).length : Nat) : Int) = (((j + 1) % is.length : Nat) : Int) := by
          rw [hlen, show (0 : Int) + (j : Int) + 1 = ((j + 1 : Nat) : Int) by omega, Int.natCast_emod]
        refine ⟨_, rfl, _, rfl, _, rfl, c, _, _, _, rfl, rfl, hc3, hatC (by omega) ha, p, _, _, _, rfl, rfl, hp3, h1, t, _, _, _, rfl, rfl, h2, rfl, ?_⟩
        refine ⟨_, rfl, _, rfl, _, rfl, _, _, rfl, rfl, _, rfl, c, _, rfl, .inr hc3, _, _, rfl, rfl, (by rw [hlen]; omega), c, _, _, _, rfl, rfl, hc3, hatC em hb, p, _, _, _, rfl, rfl, hp3, h3, u, _, _, _, rfl, rfl, h4, rfl, rfl, _, rfl, ?_⟩
        have ef : rgt lits a = lft lits b := by
          rw [hra, hlb]
          by_cases h : j + 1 < is.length
          · rw [Nat.mod_eq_of_lt h]
          · have e : j + 1 = is.length := by omega
            rw [e, Nat.mod_self, R.back]
        have e3 : (!decide (V.str (rgt lits a) = V.str (lft lits b))) = false := by
          rw [decide_eq_true (congrArg V.str ef)]
          rfl
        rw [e3]
        exact iteF ⟨_, _, rfl, S3⟩
      · rintro σ H3 ⟨v3, v4, rfl, S3⟩
        refine ⟨_, rfl, _, _, rfl, rfl, ?_⟩
        show Q (.bl (decide (Bf.tot lits is < 0))) H3
        rw [decide_eq_true R.neg]
        exact k _ S3
/-- an answer of solved that is right -/
def Right (K : PySem.W.Frag) (H : Hp) (r : Addr) (lits : List (Str × Str × Int)) : Prop :=
  (∃ (d : Addr) (ks : List Str) (g : Str → Int), SqT K H r [.str "values", .ref d] ∧ H d = some (.dK (hk ks g)) ∧ ks.Nodup ∧ (∀ x, x ∈ ks ↔ x ≠ "" ∧ ∃ q ∈ lits, x = q.1 ∨ x = q.2.1) ∧ (∀ q ∈ lits, val g q.1 ≤ val g q.2.1 + q.2.2)) ∨
  (∃ (c : Addr) (is : List Nat) (f : Nat → Str), SqT K H r [.str "ring", .ref c] ∧ SqT K H c (is.map natV) ∧ is.length ≤ 1000 ∧ Bf.IsRing lits is f)
def spJudged (K : PySem.W.Frag) : Sp := fun vs H Q _ => ∃ (p r : Addr) (ts : List Addr) (lits : List (Str × Str × Int)), vs = [.ref p, .ref r] ∧ SqL K H p (ts.map V.ref) ∧ LitsAt K H ts lits ∧ lits.length ≤ 20 ∧ OkT lits ∧ Right K H r lits ∧
  ∀ H', Same H H' → Q (.bl true) H'
theorem ok_l_judged {f : Addr} {fd : FuncData} (F : C8.Def K mg "_law_judged" s_l_judged f fd) (b : Binds K fd ["_law_literals", "_law_told"] []) (T : Txt mg) (K_l_is_values : C8.Cal P w K mg base 2 "_law_is_values" (spIsValues K) []) (K_l_is_ring : C8.Cal P w K mg base 2 "_law_is_ring" (spIsRing K) []) : C8.Cal P w K mg base 3 "_law_judged" (spJudged K) [] := by
  refine C8.cal0 F b .nil sc_l_judged (fun vs H Q E h => ?_) (fun cdv A outer s H vs Q E hr h => ?_)
  · obtain ⟨p, r, ts, lits, rfl, _⟩ := h
    rfl
  · obtain ⟨p, r, ts, lits, rfl, hp, hL, h20, hok, hR, k⟩ := h
    refine ⟨_, (pss_cons (ps_if (PW.pt (pw_or (pt_not (pt_val (pe_callB call_isi (by rfl) T.z_isinstance (by decide +kernel) (pa_cons (pv 1) (pa_cons (pe_bltn (v := .ty "tuple") (by rfl) T.z_tuple (by decide +kernel) rfl) pa_nil))))) (pw_or1 (pt_cmpR op_ne (pe_callB call_len_seq (by rfl) T.z_len (by decide +kernel) (pa_cons (pv 1) pa_nil)) pe_int (nomark _))))) (pss_one (ps_ret pe_bl)) pss_nil)
    (pss_cons (ps_if (pt_cmpR op_eq (pe_ix ix_tup (pv 1) pe_int (fun _ _ => rfl)) pe_str (nomark _)) (pss_one (ps_ret (C8.pe_c K_l_is_values hr (by decide) (by rfl) (pa_cons (pv 0) (pa_cons (pe_ix ix_tup (pv 1) pe_int (fun _ _ => rfl)) pa_nil))))) pss_nil)
    (pss_one (ps_ret (pe_and (pe_cmpR op_eq (pe_ix ix_tup (pv 1) pe_int (fun _ _ => rfl)) pe_str (nomark _)) (pe_one (C8.pe_c K_l_is_ring hr (by decide) (by rfl) (pa_cons (pv 0) (pa_cons (pe_ix ix_tup (pv 1) pe_int (fun _ _ => rfl)) pa_nil))))))))), ?_⟩
    rcases hR with ⟨d, ks, g, hr0, hd, nd, hm, hv⟩ | ⟨c, is, f, hr0, hc, h1000, R⟩
    · refine ⟨_, rfl, _, _, _, _, true, rfl, .ty _, tyT hr0, rfl, _, rfl, ?_⟩
      refine iteF ?_
      refine ⟨_, rfl, r, _, rfl, .inr hr0, rfl, _, rfl, ?_⟩
      refine iteF ?_
      refine ⟨_, rfl, r, _, _, _, rfl, rfl, hr0, rfl, rfl, _, rfl, ?_⟩
      refine iteT ?_
      exact ⟨_, rfl, _, rfl, r, _, _, _, rfl, rfl, hr0, rfl, p, d, ts, lits, ks, g, rfl, hp, hL, h20, hok, hd, nd, hm, hv, k⟩
    · refine ⟨_, rfl, _, _, _, _, true, rfl, .ty _, tyT hr0, rfl, _, rfl, ?_⟩
      refine iteF ?_
      refine ⟨_, rfl, r, _, rfl, .inr hr0, rfl, _, rfl, ?_⟩
      refine iteF ?_
      refine ⟨_, rfl, r, _, _, _, rfl, rfl, hr0, rfl, rfl, _, rfl, ?_⟩
      have e1 : decide (V.str "ring" = V.str "values") = false := by decide +kernel
      rw [e1]
      refine iteF ?_
      refine ⟨_, rfl, r, _, _, _, rfl, rfl, hr0, rfl, rfl, ?_⟩
      exact ⟨_, rfl, _, rfl, _, rfl, r, _, _, _, rfl, rfl, hr0, rfl, p, c, ts, lits, is, f, rfl, hp, hL, by omega, hc, h1000, R, k⟩
end
end K1

namespace K1
open PySem L2 Bx
theorem eqv_lits : ∀ C : List (Str × Str × Int), PyData.eqvAll (C.map litD) (C.map litD) = true
  | [] => by simp [PyData.eqvAll]
  | a :: C => by
    have e : PyData.eqv (litD a) (litD a) = true := (eqv_lit a a).trans (decide_eq_true rfl)
    simp [PyData.eqvAll, e, eqv_lits C]
section
variable {P : Program} {w : World} {K : PySem.W.Frag} {mg : Str → Option Value} {base : Heap}
def spLaw (K : PySem.W.Frag) : Sp := fun vs H Q _ => ∃ (a : Addr) (ns : List Int), vs = [.ref a] ∧ SqL K H a (ns.map V.int) ∧ ns.length ≤ 63 ∧ ∀ H', Q (.bl true) H'
theorem ok_law {f : Addr} {fd : FuncData} (F : C8.Fun K "law" "law" s_law f fd) (T : Txt mg)
    (K_solved : C8.Cal P w K mg base 4 "solved" (spSolved K) []) (K_solvedT : C8.Cal P w K mg base 4 "solved" (spSolvedT K) []) (K_l_well : C8.Cal P w K mg base 1 "_law_well" spWell []) (K_l_draw : C8.Cal P w K mg base 1 "_law_draw" spDraw []) (K_l_one : C8.Cal P w K mg base 2 "_law_one" (spOne K) [])
    (K_l_number : C8.Cal P w K mg base 2 "_law_number" spNumber []) (K_l_judged : C8.Cal P w K mg base 3 "_law_judged" (spJudged K) []) : FnOk P w K mg base C8.CX0 5 f fd ["_law_script"] (spLaw K) := by
  refine C8.fn0 F sc_law (fun vs H Q E h => ?_) (fun cdv A outer s H vs Q E hr h => ?_)
  · obtain ⟨a, ns, rfl, _⟩ := h
    rfl
  · obtain ⟨a, ns, rfl, hS, hlen, k⟩ := h
    have hu := hu_of hr
    refine ⟨_, (pss_cons (ps_for PassesOwn.never rfl (pi_list (pe_slice sl_list (pe_op op_catS (pv 0) (pe_lst (pa_cons pe_int pa_nil))) po_none (po_some pe_int))) (pg_name (i := 1) sc_law.nd rfl (Or.inl rfl))
    (pss_cons (ps_set (i := 2) sc_law.nd rfl (Or.inl rfl) (C8.pe_c K_l_well hr (by decide) (by rfl) (pa_cons (pv 1) pa_nil)))
    (pss_cons (ps_set (i := 3) sc_law.nd rfl (Or.inl rfl) (pe_cmpR op_eq (C8.pe_c K_l_draw hr (by decide) (by rfl) (pa_cons (pv 2) (pa_cons pe_int pa_nil))) pe_int (nomark _)))
    (pss_cons (ps_set (i := 4) sc_law.nd rfl (Or.inl rfl) (pe_slice sl_list (pe_lst (pa_cons pe_str (pa_cons pe_str (pa_cons pe_str (pa_cons pe_str (pa_cons pe_str pa_nil)))))) po_none (po_some (pe_op op_add pe_int (C8.pe_c K_l_draw hr (by decide) (by rfl) (pa_cons (pv 2) (pa_cons pe_int pa_nil)))))))
    (pss_cons (ps_set (i := 5) sc_law.nd rfl (Or.inl rfl) (pe_lst pa_nil))
    (pss_cons (ps_for PassesOwn.never rfl (pi_range1 (by rfl) T.z_range (pa_cons (C8.pe_c K_l_draw hr (by decide) (by rfl) (pa_cons (pv 2) (pa_cons pe_int pa_nil))) pa_nil)) (pg_name (i := 6) sc_law.nd rfl (Or.inl rfl))
    (pss_one (ps_expr (pe_bm PySem.F.plainAttrs_list PySem.F.slot_list_append PySem.F.type_list_append mt_append (pv 5) (pa_cons (pe_tup (pa_cons (C8.pe_c K_l_one hr (by decide) (by rfl) (pa_cons (pv 2) (pa_cons (pv 4) pa_nil))) (pa_cons (C8.pe_c K_l_one hr (by decide) (by rfl) (pa_cons (pv 2) (pa_cons (pv 4) pa_nil))) (pa_cons (C8.pe_c K_l_number hr (by decide) (by rfl) (pa_cons (pv 2) (pa_cons (pv 3) pa_nil))) pa_nil)))) pa_nil)))))
    (pss_cons (ps_set (i := 7) sc_law.nd rfl (Or.inl rfl) (pe_callTy call_list_of (by rfl) T.z_list (by decide +kernel) (pa_cons (pv 5) pa_nil)))
    (pss_cons (ps_set (i := 8) sc_law.nd rfl (Or.inl rfl) (C8.pe_c K_solved hr (by decide) (by rfl) (pa_cons (pv 7) pa_nil)))
    (pss_cons (ps_if (PW.pt (pw_or (pt_cmpR (op_neD hr.units) (pv 7) (pv 5) (nomark _)) (pw_or1 (pt_not (pt_val (C8.pe_c K_l_judged hr (by decide) (by rfl) (pa_cons (pv 5) (pa_cons (pv 8) pa_nil)))))))) (pss_one (ps_ret pe_bl)) pss_nil)
    (pss_cons (ps_if (pt_cmpR op_eq (pe_ix ix_tup (pv 8) pe_int (fun _ _ => rfl)) pe_str (nomark _)) (pss_one (ps_dput hu (pe_ix ix_tup (pv 8) pe_int (fun _ _ => rfl)) pe_str pe_str rfl)) pss_nil)
    (pss_one (ps_if (pt_not (pt_val (C8.pe_c K_l_judged hr (by decide) (by rfl) (pa_cons (pv 5) (pa_cons (C8.pe_c K_solvedT hr (by decide) (by rfl) (pa_cons (pe_callTy call_tuple_of (by rfl) T.z_tuple (by decide +kernel) (pa_cons (pv 5) pa_nil)) pa_nil)) pa_nil))))) (pss_one (ps_ret pe_bl)) pss_nil))))))))))))
    (pss_one (ps_ret pe_bl))), ?_⟩
    refine ⟨_, rfl, sz (by simp), fun z nz => ⟨a, z, _, _, rfl, rfl, (Same.new nz).seq hS, SqL.of upd_same, sz (by simp; omega), fun y ny => ⟨_, rfl, y, _, rfl, SqL.of upd_same, fun t nt => ⟨t, rfl, ⟨_, SqL.of upd_same⟩, ?_⟩⟩⟩⟩
    generalize hcs : cutV (ns.map V.int ++ [.int 0]) none (some 12) = cs
    have hint : ∀ x ∈ cs, ∃ c, x = V.int c := fun x hx => by
      rw [← hcs] at hx
      rcases List.mem_append.mp (cut_mem hx) with h | h
      · obtain ⟨c, _, rfl⟩ := List.mem_map.mp h
        exact ⟨c, rfl⟩
      · exact ⟨0, by simpa using h⟩
    refine for_list (xs := cs) (fun i σ H' => ∃ (v1 v2 v3 v4 v5 v6 v7 v8 : Option V), σ = [some (.ref a), v1, v2, v3, v4, v5, v6, v7, v8] ∧ H' t = some (.lst cs)) ⟨none, none, none, none, none, none, none, none, rfl, upd_same⟩ (fun i σ H' _ h => ?_) ?_ ?_
    · obtain ⟨_, _, _, _, _, _, _, _, _, h⟩ := h
      exact SqL.of h
    · rintro i x σ H0 hx ⟨v1, v2, v3, v4, v5, v6, v7, v8, rfl, ht⟩
      obtain ⟨cc, rfl⟩ := hint x (List.mem_of_getElem? hx)
      refine ⟨_, rfl, cc, rfl, fun l H1 nl S1 W1 => ?_⟩
      have tl : t ≠ l := fun e => by
        rw [e, nl] at ht
        cases ht
      refine ⟨_, rfl, l, 3, rfl, W1, by decide, by decide, fun r H2 r0 r1 W2 B2 => ⟨rfl, ?_⟩⟩
      generalize hwd : decide (V.int r = V.int 0) = wd
      refine ⟨sz (by simp), fun q nq => ?_⟩
      have Sq := Same.new (o := HO.lst [.str "", .str "x", .str "1:x", .str "A b", .str "value"]) nq
      have ql : q ≠ l := W2.ne nq
      refine ⟨_, rfl, l, 4, rfl, W2.same Sq, by decide, by decide, fun r3 H3 r30 r31 W3 B3 => ⟨_, _, rfl, rfl, _, rfl, q, _, rfl, SqL.of (B3 _ _ upd_same ql), fun tm ntm => ?_⟩⟩
      obtain ⟨m3, rfl⟩ : ∃ m3 : Nat, r3 = (m3 : Int) := ⟨r3.toNat, by omega⟩
      have ecut : cutV [V.str "", .str "x", .str "1:x", .str "A b", .str "value"] none (some (2 + (m3 : Int))) = [V.str "", .str "x", .str "1:x", .str "A b", .str "value"].take (2 + m3) := by
        rw [show (2 : Int) + (m3 : Int) = ((2 + m3 : Nat) : Int) by omega, cut_to (by show 2 + m3 ≤ 5; omega)]
      have Stm := Same.new (o := HO.lst (cutV [V.str "", .str "x", .str "1:x", .str "A b", .str "value"] none (some (2 + (m3 : Int))))) ntm
      have htm : (upd H3 tm (.lst (cutV [V.str "", .str "x", .str "1:x", .str "A b", .str "value"] none (some (2 + (m3 : Int)))))) tm = some (.lst ([V.str "", .str "x", .str "1:x", .str "A b", .str "value"].take (2 + m3))) := by rw [upd_same, ecut]
      have tml : tm ≠ l := W3.ne ntm
      have W4 := W3.same Stm
      have B04 : But l H0 (upd H3 tm (.lst (cutV [V.str "", .str "x", .str "1:x", .str "A b", .str "value"] none (some (2 + (m3 : Int)))))) := ((But.of S1).trans B2).trans ((But.of Sq).trans (B3.trans (But.of Stm)))
      generalize upd H3 tm (.lst (cutV [V.str "", .str "x", .str "1:x", .str "A b", .str "value"] none (some (2 + (m3 : Int))))) = H4 at *
      have htl : 0 < ([V.str "", .str "x", .str "1:x", .str "A b", .str "value"].take (2 + m3)).length := by
        rw [List.length_take]
        show 0 < min (2 + m3) 5
        omega
      have htl2 : ([V.str "", .str "x", .str "1:x", .str "A b", .str "value"].take (2 + m3)).length < 100000 := by
        rw [List.length_take]
        show min (2 + m3) 5 < 100000
        omega
      have okt : ∀ x ∈ [V.str "", .str "x", .str "1:x", .str "A b", .str "value"].take (2 + m3), ∃ s : Str, x = .str s ∧ PyData.strOk s = true := fun x hx => by
        have hx := List.mem_of_mem_take hx
        simp only [List.mem_cons, List.not_mem_nil, or_false] at hx
        rcases hx with rfl | rfl | rfl | rfl | rfl <;> exact ⟨_, rfl, by decide +kernel⟩
      generalize [V.str "", .str "x", .str "1:x", .str "A b", .str "value"].take (2 + m3) = tms at *
      refine ⟨Nat.zero_le _, fun p np => ?_⟩
      have Sp := Same.new (o := HO.lst []) np
      have pl : p ≠ l := W4.ne np
      refine ⟨_, rfl, l, 13, rfl, W4.same Sp, by decide, by decide, fun r5 H5 r50 r51 W5 B5 => ⟨_, rfl, by omega, by omega, ?_⟩⟩
      refine for_range (lo := 0) (n := r5.toNat) (fun j σ H' => ∃ (v6 : Option V) (ts : List Addr) (lits : List (Str × Str × Int)), σ = [some (.ref a), some (.int cc), some (.ref l), some (.bl wd), some (.ref tm), some (.ref p), v6, v7, v8] ∧ H' p = some (.lst (ts.map V.ref)) ∧ LitsAt K H' ts lits ∧ lits.length = j ∧ OkT lits ∧ WellAt H' l ∧ But l H4 H')
        ⟨v6, [], [], rfl, B5 _ _ upd_same pl, ⟨rfl, fun j q h => (by cases h)⟩, rfl, fun q h => (by cases h), W5, (But.of Sp).trans B5⟩ ?_ ?_
      · rintro j σ H6 hj ⟨v6, ts, lits, rfl, hp, hL, hlj, hok, W6, B6⟩
        have htm6 := B6 _ _ htm tml
        refine ⟨_, rfl, .inl ⟨rfl, _, .inl (.inl hp)⟩, _, rfl, _, rfl, l, tm, _, rfl, W6, tml, SqL.of htm6, htl, htl2, fun u1 Ha h1 Wa Ba => ?_⟩
        refine ⟨_, rfl, _, rfl, l, tm, _, rfl, Wa, tml, SqL.of (Ba _ _ htm6 tml), htl, htl2, fun u2 Hb h2 Wb Bb => ?_⟩
        refine ⟨_, rfl, _, rfl, l, wd, rfl, Wb, fun n Hc Wc Bc => ⟨(by show 3 ≤ sizeLine; decide), fun u nu => ?_⟩⟩
        obtain ⟨s1, rfl, o1⟩ := okt u1 h1
        obtain ⟨s2, rfl, o2⟩ := okt u2 h2
        have Bac := (Ba.trans Bb).trans Bc
        have hpc := Bac _ _ hp pl
        have Su := Same.new (o := HO.tup [.str s1, .str s2, .int n]) nu
        obtain ⟨wx, wy, wz, hw6⟩ := id W6
        have hLu := ((hL.but hw6 Bac).mono Su).snoc (q := (s1, s2, n)) (SqT.of upd_same)
        have hpu := Su _ _ hpc
        have hts : ts.length = j := hL.1.trans hlj
        refine ⟨p, _, _, rfl, rfl, hpu, szs (by simp; omega), _, ts ++ [u], lits ++ [(s1, s2, n)], rfl, ?_, hLu.but hpu But.upd, by simp; omega, fun q hq => ?_, (Wc.same Su).upd pl, ((B6.trans Bac).trans (But.of Su)).mut np⟩
        · rw [upd_same, List.map_append]
          rfl
        · rcases List.mem_append.mp hq with h | h
          · exact hok q h
          · have e : q = (s1, s2, n) := by simpa using h
            rw [e]
            exact ⟨o1, o2⟩
      · rintro σ H6 ⟨v6, ts, lits, rfl, hp, hL, hlj, hok, W6, B6⟩
        have hl12 : lits.length ≤ 12 := by omega
        have ht6 : H6 t = some (.lst cs) := B6 _ _ (B04 _ _ ht tl) tl
        refine ⟨_, rfl, p, _, rfl, .inl (SqL.of hp), fun p2 np2 => ?_⟩
        have Sp2 := Same.new (o := HO.lst (ts.map V.ref)) np2
        have hp9 := Sp2 _ _ hp
        have hL9 := hL.mono Sp2
        have ht9 := Sp2 _ _ ht6
        have hp29 : (upd H6 p2 (.lst (ts.map V.ref))) p2 = some (.lst (ts.map V.ref)) := upd_same
        generalize upd H6 p2 (.lst (ts.map V.ref)) = H9 at *
        refine ⟨_, rfl, p2, ts, lits, rfl, SqL.of hp29, hL9, by omega, fun r d ks g H10 S10 hr10 hnone hd10 nd hkl hm hv => ?_, fun r c is f2 H10 S10 hr10 hc10 R hl1000 => ?_⟩
        · refine ⟨_, rfl, _, rfl, .list (lits.map litD), .list (lits.map litD), .lst (SqL.of (S10 _ _ hp29)) (hL9.mono S10).dp, .lst (SqL.of (S10 _ _ hp9)) (hL9.mono S10).dp, shaped_lits hok, shaped_lits hok, _, rfl, ?_⟩
          have e2 : (!PyData.eqv (.list (lits.map litD)) (.list (lits.map litD))) = false := by simp [PyData.eqv, eqv_lits lits]
          rw [e2]
          refine iteF ?_
          refine ⟨_, rfl, _, rfl, p, r, ts, lits, rfl, SqL.of (S10 _ _ hp9), hL9.mono S10, by omega, hok, .inl ⟨d, ks, g, hr10, hd10, nd, hm, hv⟩, fun H11 S11 => ⟨_, rfl, iteF ?_⟩⟩
          have hr11 := Same.seqT S11 hr10
          refine ⟨_, rfl, r, _, _, _, rfl, rfl, hr11, rfl, rfl, _, rfl, ?_⟩
          have e3 : decide (V.str "values" = V.str "values") = true := decide_eq_true rfl
          rw [e3]
          refine iteT ?_
          refine ⟨_, rfl, r, _, _, _, rfl, rfl, hr11, rfl, d, _, rfl, DPut.k (k := Sum.inr "x") (S11 _ _ hd10) (szs (by rw [hk_len]; omega)), ?_⟩
          have SX : Same H9 (upd H11 d (.dK (putK (hk ks g) (Sum.inr "x") (.str "changed")))) := Same.mut (S10.trans S11) hnone
          generalize upd H11 d (.dK (putK (hk ks g) (Sum.inr "x") (.str "changed"))) = HX at *
          refine ⟨_, rfl, _, rfl, p, _, rfl, .inl ⟨SqL.of (SX _ _ hp9), fun q1 nq1 => ?_⟩⟩
          have Sq1 := Same.new (o := HO.tup (ts.map V.ref)) nq1
          have SXq := SX.trans Sq1
          refine ⟨q1, ts, lits, rfl, SqT.of upd_same, hL9.mono SXq, by omega, fun r2 d2 ks2 g2 HY SY hr2 _ hd2 nd2 _ hm2 hv2 => ?_, fun r2 c2 is2 f2 HY SY hr2 hc2 R2 hl2 => ?_⟩
          · have SXY := SXq.trans SY
            exact ⟨p, r2, ts, lits, rfl, SqL.of (SXY _ _ hp9), hL9.mono SXY, by omega, hok, .inl ⟨d2, ks2, g2, hr2, hd2, nd2, hm2, hv2⟩, fun HZ SZ => ⟨_, rfl, iteF ⟨_, _, _, _, _, _, _, _, rfl, SZ _ _ (SXY _ _ ht9)⟩⟩⟩
          · have SXY := SXq.trans SY
            exact ⟨p, r2, ts, lits, rfl, SqL.of (SXY _ _ hp9), hL9.mono SXY, by omega, hok, .inr ⟨c2, is2, f2, hr2, hc2, hl2, R2⟩, fun HZ SZ => ⟨_, rfl, iteF ⟨_, _, _, _, _, _, _, _, rfl, SZ _ _ (SXY _ _ ht9)⟩⟩⟩
        · refine ⟨_, rfl, _, rfl, .list (lits.map litD), .list (lits.map litD), .lst (SqL.of (S10 _ _ hp29)) (hL9.mono S10).dp, .lst (SqL.of (S10 _ _ hp9)) (hL9.mono S10).dp, shaped_lits hok, shaped_lits hok, _, rfl, ?_⟩
          have e2 : (!PyData.eqv (.list (lits.map litD)) (.list (lits.map litD))) = false := by simp [PyData.eqv, eqv_lits lits]
          rw [e2]
          refine iteF ?_
          refine ⟨_, rfl, _, rfl, p, r, ts, lits, rfl, SqL.of (S10 _ _ hp9), hL9.mono S10, by omega, hok, .inr ⟨c, is, f2, hr10, hc10, hl1000, R⟩, fun H11 S11 => ⟨_, rfl, iteF ?_⟩⟩
          have hr11 := Same.seqT S11 hr10
          refine ⟨_, rfl, r, _, _, _, rfl, rfl, hr11, rfl, rfl, _, rfl, ?_⟩
          have e3 : decide (V.str "ring" = V.str "values") = false := by decide +kernel
          rw [e3]
          refine iteF ?_
          have SX : Same H9 H11 := S10.trans S11
          refine ⟨_, rfl, _, rfl, p, _, rfl, .inl ⟨SqL.of (SX _ _ hp9), fun q1 nq1 => ?_⟩⟩
          have Sq1 := Same.new (o := HO.tup (ts.map V.ref)) nq1
          have SXq := SX.trans Sq1
          refine ⟨q1, ts, lits, rfl, SqT.of upd_same, hL9.mono SXq, by omega, fun r2 d2 ks2 g2 HY SY hr2 _ hd2 nd2 _ hm2 hv2 => ?_, fun r2 c2 is2 f2 HY SY hr2 hc2 R2 hl2 => ?_⟩
          · have SXY := SXq.trans SY
            exact ⟨p, r2, ts, lits, rfl, SqL.of (SXY _ _ hp9), hL9.mono SXY, by omega, hok, .inl ⟨d2, ks2, g2, hr2, hd2, nd2, hm2, hv2⟩, fun HZ SZ => ⟨_, rfl, iteF ⟨_, _, _, _, _, _, _, _, rfl, SZ _ _ (SXY _ _ ht9)⟩⟩⟩
          · have SXY := SXq.trans SY
            exact ⟨p, r2, ts, lits, rfl, SqL.of (SXY _ _ hp9), hL9.mono SXY, by omega, hok, .inr ⟨c2, is2, f2, hr2, hc2, hl2, R2⟩, fun HZ SZ => ⟨_, rfl, iteF ⟨_, _, _, _, _, _, _, _, rfl, SZ _ _ (SXY _ _ ht9)⟩⟩⟩
    · rintro σ H0 _
      exact k H0
end
end K1

namespace K1
open PySem L2 Bx
theorem all_mk {l : PySem.W.OpenLaw} {w : World} {K : PySem.W.Frag} {h : Heap} {mg : Str → Option Value} {fa f0 f1 f2 f3 f4 f5 f6 f7 f8 f9 f10 f11 f12 f13 f14 f15  : Addr} (X : K.In h) (G : h.Ns mainGlobals mg) (hfa : mg "law" = some (.ref fa))
    {od0 an0 od1 an1 od2 an2 od3 an3 od4 an4 od5 an5 od6 an6 od7 an7 od8 an8 od9 an9 od10 an10 od11 an11 od12 an12 od13 an13 od14 an14 od15 an15 : Option Addr} {sl0 sl1 sl2 sl3 sl4 sl5 sl6 sl7 sl8 sl9 sl10 sl11 sl12 sl13 sl14 sl15 : Array (Option Value)} {oc0 kV0 dc0 pm0 cd0 ct0 oc1 kV1 dc1 pm1 cd1 ct1 oc2 kV2 dc2 pm2 cd2 ct2 oc3 kV3 dc3 pm3 cd3 ct3 oc4 kV4 dc4 pm4 cd4 ct4 oc5 kV5 dc5 pm5 cd5 ct5 oc6 kV6 dc6 pm6 cd6 ct6 oc7 kV7 dc7 pm7 cd7 ct7 oc8 kV8 dc8 pm8 cd8 ct8 oc9 kV9 dc9 pm9 cd9 ct9 oc10 kV10 dc10 pm10 cd10 ct10 oc11 kV11 dc11 pm11 cd11 ct11 oc12 kV12 dc12 pm12 cd12 ct12 oc13 kV13 dc13 pm13 cd13 ct13 oc14 kV14 dc14 pm14 cd14 ct14 oc15 kV15 dc15 pm15 cd15 ct15 : Value}
    (a0 : PySem.W.nsIn K mainGlobals "is_number" = some (some (.ref f0))) (l0 : K.lookup f0 = some ⟨oc0, od0, .func (PySem.W.fnOf "is_number" "is_number" (C8.fnArgs s_is_number) (C8.fnBody s_is_number) (C8.fnScope s_is_number) .none kV0 dc0 pm0 an0 cd0 ct0), sl0⟩) (c0 : PySem.W.codeIn K cd0 "is_number" = true) (k0 : PySem.W.keepIn K (.ref f0) = true)
    (a1 : PySem.W.nsIn K mainGlobals "is_literal" = some (some (.ref f1))) (l1 : K.lookup f1 = some ⟨oc1, od1, .func (PySem.W.fnOf "is_literal" "is_literal" (C8.fnArgs s_is_literal) (C8.fnBody s_is_literal) (C8.fnScope s_is_literal) .none kV1 dc1 pm1 an1 cd1 ct1), sl1⟩) (c1 : PySem.W.codeIn K cd1 "is_literal" = true) (k1 : PySem.W.keepIn K (.ref f1) = true)
    (a2 : PySem.W.nsIn K mainGlobals "check_literals" = some (some (.ref f2))) (l2 : K.lookup f2 = some ⟨oc2, od2, .func (PySem.W.fnOf "check_literals" "check_literals" (C8.fnArgs s_check_literals) (C8.fnBody s_check_literals) (C8.fnScope s_check_literals) .none kV2 dc2 pm2 an2 cd2 ct2), sl2⟩) (c2 : PySem.W.codeIn K cd2 "check_literals" = true) (k2 : PySem.W.keepIn K (.ref f2) = true)
    (a3 : PySem.W.nsIn K mainGlobals "lower_once" = some (some (.ref f3))) (l3 : K.lookup f3 = some ⟨oc3, od3, .func (PySem.W.fnOf "lower_once" "lower_once" (C8.fnArgs s_lower_once) (C8.fnBody s_lower_once) (C8.fnScope s_lower_once) .none kV3 dc3 pm3 an3 cd3 ct3), sl3⟩) (c3 : PySem.W.codeIn K cd3 "lower_once" = true) (k3 : PySem.W.keepIn K (.ref f3) = true)
    (a4 : PySem.W.nsIn K mainGlobals "ring_behind" = some (some (.ref f4))) (l4 : K.lookup f4 = some ⟨oc4, od4, .func (PySem.W.fnOf "ring_behind" "ring_behind" (C8.fnArgs s_ring_behind) (C8.fnBody s_ring_behind) (C8.fnScope s_ring_behind) .none kV4 dc4 pm4 an4 cd4 ct4), sl4⟩) (c4 : PySem.W.codeIn K cd4 "ring_behind" = true) (k4 : PySem.W.keepIn K (.ref f4) = true)
    (a5 : PySem.W.nsIn K mainGlobals "solved" = some (some (.ref f5))) (l5 : K.lookup f5 = some ⟨oc5, od5, .func (PySem.W.fnOf "solved" "solved" (C8.fnArgs s_solved) (C8.fnBody s_solved) (C8.fnScope s_solved) .none kV5 dc5 pm5 an5 cd5 ct5), sl5⟩) (c5 : PySem.W.codeIn K cd5 "solved" = true) (k5 : PySem.W.keepIn K (.ref f5) = true)
    (a6 : PySem.W.nsIn K mainGlobals "_law_well" = some (some (.ref f6))) (l6 : K.lookup f6 = some ⟨oc6, od6, .func (PySem.W.fnOf "_law_well" "_law_well" (C8.fnArgs s_l_well) (C8.fnBody s_l_well) (C8.fnScope s_l_well) .none kV6 dc6 pm6 an6 cd6 ct6), sl6⟩) (c6 : PySem.W.codeIn K cd6 "_law_well" = true) (k6 : PySem.W.keepIn K (.ref f6) = true)
    (a7 : PySem.W.nsIn K mainGlobals "_law_draw" = some (some (.ref f7))) (l7 : K.lookup f7 = some ⟨oc7, od7, .func (PySem.W.fnOf "_law_draw" "_law_draw" (C8.fnArgs s_l_draw) (C8.fnBody s_l_draw) (C8.fnScope s_l_draw) .none kV7 dc7 pm7 an7 cd7 ct7), sl7⟩) (c7 : PySem.W.codeIn K cd7 "_law_draw" = true) (k7 : PySem.W.keepIn K (.ref f7) = true)
    (a8 : PySem.W.nsIn K mainGlobals "_law_one" = some (some (.ref f8))) (l8 : K.lookup f8 = some ⟨oc8, od8, .func (PySem.W.fnOf "_law_one" "_law_one" (C8.fnArgs s_l_one) (C8.fnBody s_l_one) (C8.fnScope s_l_one) .none kV8 dc8 pm8 an8 cd8 ct8), sl8⟩) (c8 : PySem.W.codeIn K cd8 "_law_one" = true) (k8 : PySem.W.keepIn K (.ref f8) = true)
    (a9 : PySem.W.nsIn K mainGlobals "_law_is_integer" = some (some (.ref f9))) (l9 : K.lookup f9 = some ⟨oc9, od9, .func (PySem.W.fnOf "_law_is_integer" "_law_is_integer" (C8.fnArgs s_l_is_integer) (C8.fnBody s_l_is_integer) (C8.fnScope s_l_is_integer) .none kV9 dc9 pm9 an9 cd9 ct9), sl9⟩) (c9 : PySem.W.codeIn K cd9 "_law_is_integer" = true) (k9 : PySem.W.keepIn K (.ref f9) = true)
    (a10 : PySem.W.nsIn K mainGlobals "_law_number" = some (some (.ref f10))) (l10 : K.lookup f10 = some ⟨oc10, od10, .func (PySem.W.fnOf "_law_number" "_law_number" (C8.fnArgs s_l_number) (C8.fnBody s_l_number) (C8.fnScope s_l_number) .none kV10 dc10 pm10 an10 cd10 ct10), sl10⟩) (c10 : PySem.W.codeIn K cd10 "_law_number" = true) (k10 : PySem.W.keepIn K (.ref f10) = true)
    (a11 : PySem.W.nsIn K mainGlobals "_law_holds" = some (some (.ref f11))) (l11 : K.lookup f11 = some ⟨oc11, od11, .func (PySem.W.fnOf "_law_holds" "_law_holds" (C8.fnArgs s_l_holds) (C8.fnBody s_l_holds) (C8.fnScope s_l_holds) .none kV11 dc11 pm11 an11 cd11 ct11), sl11⟩) (c11 : PySem.W.codeIn K cd11 "_law_holds" = true) (k11 : PySem.W.keepIn K (.ref f11) = true)
    (a12 : PySem.W.nsIn K mainGlobals "_law_is_values" = some (some (.ref f12))) (l12 : K.lookup f12 = some ⟨oc12, od12, .func (PySem.W.fnOf "_law_is_values" "_law_is_values" (C8.fnArgs s_l_is_values) (C8.fnBody s_l_is_values) (C8.fnScope s_l_is_values) .none kV12 dc12 pm12 an12 cd12 ct12), sl12⟩) (c12 : PySem.W.codeIn K cd12 "_law_is_values" = true) (k12 : PySem.W.keepIn K (.ref f12) = true)
    (a13 : PySem.W.nsIn K mainGlobals "_law_is_ring" = some (some (.ref f13))) (l13 : K.lookup f13 = some ⟨oc13, od13, .func (PySem.W.fnOf "_law_is_ring" "_law_is_ring" (C8.fnArgs s_l_is_ring) (C8.fnBody s_l_is_ring) (C8.fnScope s_l_is_ring) .none kV13 dc13 pm13 an13 cd13 ct13), sl13⟩) (c13 : PySem.W.codeIn K cd13 "_law_is_ring" = true) (k13 : PySem.W.keepIn K (.ref f13) = true)
    (a14 : PySem.W.nsIn K mainGlobals "_law_judged" = some (some (.ref f14))) (l14 : K.lookup f14 = some ⟨oc14, od14, .func (PySem.W.fnOf "_law_judged" "_law_judged" (C8.fnArgs s_l_judged) (C8.fnBody s_l_judged) (C8.fnScope s_l_judged) .none kV14 dc14 pm14 an14 cd14 ct14), sl14⟩) (c14 : PySem.W.codeIn K cd14 "_law_judged" = true) (k14 : PySem.W.keepIn K (.ref f14) = true)
    (a15 : PySem.W.nsIn K mainGlobals "law" = some (some (.ref f15))) (l15 : K.lookup f15 = some ⟨oc15, od15, .func (PySem.W.fnOf "law" "law" (C8.fnArgs s_law) (C8.fnBody s_law) (C8.fnScope s_law) .none kV15 dc15 pm15 an15 cd15 ct15), sl15⟩) (c15 : PySem.W.codeIn K cd15 "law" = true) (k15 : PySem.W.keepIn K (.ref f15) = true)
    {tk_MOST_LITERALS : Tok} (m_MOST_LITERALS : PySem.W.nsIn K mainGlobals "MOST_LITERALS" = some (some (.int 300 tk_MOST_LITERALS)))
    (y_isinstance : PySem.W.nsIn K mainGlobals "isinstance" = some none)
    (y_len : PySem.W.nsIn K mainGlobals "len" = some none)
    (y_int : PySem.W.nsIn K mainGlobals "int" = some none)
    (y_bool : PySem.W.nsIn K mainGlobals "bool" = some none)
    (y_tuple : PySem.W.nsIn K mainGlobals "tuple" = some none)
    (y_list : PySem.W.nsIn K mainGlobals "list" = some none)
    (y_str : PySem.W.nsIn K mainGlobals "str" = some none)
    (y_set : PySem.W.nsIn K mainGlobals "set" = some none)
    (y_range : PySem.W.nsIn K mainGlobals "range" = some none)
    (y_enumerate : PySem.W.nsIn K mainGlobals "enumerate" = some none)
    (y_sorted : PySem.W.nsIn K mainGlobals "sorted" = some none)
    (y_dict : PySem.W.nsIn K mainGlobals "dict" = some none)
    : ∃ fd : FuncData, (∀ (s : Shared) (v : Value), BindsTo s fd ⟨[v], []⟩ [("_law_script", v)]) ∧ ∀ base : Heap, K.In base → base.Ns mainGlobals mg → FnOk l.prog w K mg base C8.CX0 5 fa fd ["_law_script"] (spLaw K) := by
  have e := hfa.symm.trans (PySem.W.mg_of X G a15)
  cases e
  have T : Txt mg := { c_MOST_LITERALS := ⟨_, PySem.W.mg_of X G m_MOST_LITERALS, _, rfl⟩, z_isinstance := PySem.W.mg_none_of X G y_isinstance, z_len := PySem.W.mg_none_of X G y_len, z_int := PySem.W.mg_none_of X G y_int, z_bool := PySem.W.mg_none_of X G y_bool, z_tuple := PySem.W.mg_none_of X G y_tuple, z_list := PySem.W.mg_none_of X G y_list, z_str := PySem.W.mg_none_of X G y_str, z_set := PySem.W.mg_none_of X G y_set, z_range := PySem.W.mg_none_of X G y_range, z_enumerate := PySem.W.mg_none_of X G y_enumerate, z_sorted := PySem.W.mg_none_of X G y_sorted, z_dict := PySem.W.mg_none_of X G y_dict }
  have F0 : C8.Fun K "is_number" "is_number" s_is_number f0 _ := ⟨⟨_, _, _, _, _, _, _, _, _, _, rfl, l0, c0⟩⟩
  have D0 : C8.Def K mg "is_number" s_is_number f0 _ := ⟨F0, PySem.W.mg_of X G a0, k0⟩
  have b0 : Binds K _ ["thing"] [] := C8.Fun.binds F0 rfl fun _ _ _ _ _ _ us hl => match us, hl with | [_], _ => rfl
  have F1 : C8.Fun K "is_literal" "is_literal" s_is_literal f1 _ := ⟨⟨_, _, _, _, _, _, _, _, _, _, rfl, l1, c1⟩⟩
  have D1 : C8.Def K mg "is_literal" s_is_literal f1 _ := ⟨F1, PySem.W.mg_of X G a1, k1⟩
  have b1 : Binds K _ ["thing"] [] := C8.Fun.binds F1 rfl fun _ _ _ _ _ _ us hl => match us, hl with | [_], _ => rfl
  have F2 : C8.Fun K "check_literals" "check_literals" s_check_literals f2 _ := ⟨⟨_, _, _, _, _, _, _, _, _, _, rfl, l2, c2⟩⟩
  have D2 : C8.Def K mg "check_literals" s_check_literals f2 _ := ⟨F2, PySem.W.mg_of X G a2, k2⟩
  have b2 : Binds K _ ["literals"] [] := C8.Fun.binds F2 rfl fun _ _ _ _ _ _ us hl => match us, hl with | [_], _ => rfl
  have F3 : C8.Fun K "lower_once" "lower_once" s_lower_once f3 _ := ⟨⟨_, _, _, _, _, _, _, _, _, _, rfl, l3, c3⟩⟩
  have D3 : C8.Def K mg "lower_once" s_lower_once f3 _ := ⟨F3, PySem.W.mg_of X G a3, k3⟩
  have b3 : Binds K _ ["literals", "heights", "lowered_by"] [] := C8.Fun.binds F3 rfl fun _ _ _ _ _ _ us hl => match us, hl with | [_, _, _], _ => rfl
  have F4 : C8.Fun K "ring_behind" "ring_behind" s_ring_behind f4 _ := ⟨⟨_, _, _, _, _, _, _, _, _, _, rfl, l4, c4⟩⟩
  have D4 : C8.Def K mg "ring_behind" s_ring_behind f4 _ := ⟨F4, PySem.W.mg_of X G a4, k4⟩
  have b4 : Binds K _ ["literals", "lowered_by", "term"] [] := C8.Fun.binds F4 rfl fun _ _ _ _ _ _ us hl => match us, hl with | [_, _, _], _ => rfl
  have F5 : C8.Fun K "solved" "solved" s_solved f5 _ := ⟨⟨_, _, _, _, _, _, _, _, _, _, rfl, l5, c5⟩⟩
  have D5 : C8.Def K mg "solved" s_solved f5 _ := ⟨F5, PySem.W.mg_of X G a5, k5⟩
  have b5 : Binds K _ ["literals"] [] := C8.Fun.binds F5 rfl fun _ _ _ _ _ _ us hl => match us, hl with | [_], _ => rfl
  have F6 : C8.Fun K "_law_well" "_law_well" s_l_well f6 _ := ⟨⟨_, _, _, _, _, _, _, _, _, _, rfl, l6, c6⟩⟩
  have D6 : C8.Def K mg "_law_well" s_l_well f6 _ := ⟨F6, PySem.W.mg_of X G a6, k6⟩
  have b6 : Binds K _ ["_law_cell"] [] := C8.Fun.binds F6 rfl fun _ _ _ _ _ _ us hl => match us, hl with | [_], _ => rfl
  have F7 : C8.Fun K "_law_draw" "_law_draw" s_l_draw f7 _ := ⟨⟨_, _, _, _, _, _, _, _, _, _, rfl, l7, c7⟩⟩
  have D7 : C8.Def K mg "_law_draw" s_l_draw f7 _ := ⟨F7, PySem.W.mg_of X G a7, k7⟩
  have b7 : Binds K _ ["_law_well_here", "_law_base"] [] := C8.Fun.binds F7 rfl fun _ _ _ _ _ _ us hl => match us, hl with | [_, _], _ => rfl
  have F8 : C8.Fun K "_law_one" "_law_one" s_l_one f8 _ := ⟨⟨_, _, _, _, _, _, _, _, _, _, rfl, l8, c8⟩⟩
  have D8 : C8.Def K mg "_law_one" s_l_one f8 _ := ⟨F8, PySem.W.mg_of X G a8, k8⟩
  have b8 : Binds K _ ["_law_well_here", "_law_some"] [] := C8.Fun.binds F8 rfl fun _ _ _ _ _ _ us hl => match us, hl with | [_, _], _ => rfl
  have F9 : C8.Fun K "_law_is_integer" "_law_is_integer" s_l_is_integer f9 _ := ⟨⟨_, _, _, _, _, _, _, _, _, _, rfl, l9, c9⟩⟩
  have D9 : C8.Def K mg "_law_is_integer" s_l_is_integer f9 _ := ⟨F9, PySem.W.mg_of X G a9, k9⟩
  have b9 : Binds K _ ["_law_told"] [] := C8.Fun.binds F9 rfl fun _ _ _ _ _ _ us hl => match us, hl with | [_], _ => rfl
  have F10 : C8.Fun K "_law_number" "_law_number" s_l_number f10 _ := ⟨⟨_, _, _, _, _, _, _, _, _, _, rfl, l10, c10⟩⟩
  have D10 : C8.Def K mg "_law_number" s_l_number f10 _ := ⟨F10, PySem.W.mg_of X G a10, k10⟩
  have b10 : Binds K _ ["_law_well_here", "_law_wide"] [] := C8.Fun.binds F10 rfl fun _ _ _ _ _ _ us hl => match us, hl with | [_, _], _ => rfl
  have F11 : C8.Fun K "_law_holds" "_law_holds" s_l_holds f11 _ := ⟨⟨_, _, _, _, _, _, _, _, _, _, rfl, l11, c11⟩⟩
  have D11 : C8.Def K mg "_law_holds" s_l_holds f11 _ := ⟨F11, PySem.W.mg_of X G a11, k11⟩
  have b11 : Binds K _ ["_law_literal", "_law_found"] [] := C8.Fun.binds F11 rfl fun _ _ _ _ _ _ us hl => match us, hl with | [_, _], _ => rfl
  have F12 : C8.Fun K "_law_is_values" "_law_is_values" s_l_is_values f12 _ := ⟨⟨_, _, _, _, _, _, _, _, _, _, rfl, l12, c12⟩⟩
  have D12 : C8.Def K mg "_law_is_values" s_l_is_values f12 _ := ⟨F12, PySem.W.mg_of X G a12, k12⟩
  have b12 : Binds K _ ["_law_literals", "_law_found"] [] := C8.Fun.binds F12 rfl fun _ _ _ _ _ _ us hl => match us, hl with | [_, _], _ => rfl
  have F13 : C8.Fun K "_law_is_ring" "_law_is_ring" s_l_is_ring f13 _ := ⟨⟨_, _, _, _, _, _, _, _, _, _, rfl, l13, c13⟩⟩
  have D13 : C8.Def K mg "_law_is_ring" s_l_is_ring f13 _ := ⟨F13, PySem.W.mg_of X G a13, k13⟩
  have b13 : Binds K _ ["_law_literals", "_law_indices"] [] := C8.Fun.binds F13 rfl fun _ _ _ _ _ _ us hl => match us, hl with | [_, _], _ => rfl
  have F14 : C8.Fun K "_law_judged" "_law_judged" s_l_judged f14 _ := ⟨⟨_, _, _, _, _, _, _, _, _, _, rfl, l14, c14⟩⟩
  have D14 : C8.Def K mg "_law_judged" s_l_judged f14 _ := ⟨F14, PySem.W.mg_of X G a14, k14⟩
  have b14 : Binds K _ ["_law_literals", "_law_told"] [] := C8.Fun.binds F14 rfl fun _ _ _ _ _ _ us hl => match us, hl with | [_, _], _ => rfl
  have F15 : C8.Fun K "law" "law" s_law fa _ := ⟨⟨_, _, _, _, _, _, _, _, _, _, rfl, l15, c15⟩⟩
  refine ⟨PySem.W.fnOf "law" "law" (C8.fnArgs s_law) (C8.fnBody s_law) (C8.fnScope s_law) .none kV15 dc15 pm15 an15 cd15 ct15, fun s v => .of_eq rfl, fun base _ _ => ?_⟩
  have Q_is_number : C8.Cal l.prog w K mg base 1 "is_number" (spNum K) [] := ok_is_number D0 b0 T 
  have Q_is_literal : C8.Cal l.prog w K mg base 2 "is_literal" (spLitG K) [] := ok_is_literal D1 b1 T Q_is_number
  have Q_check_literals : C8.Cal l.prog w K mg base 3 "check_literals" (spChkG K) [] := ok_check_literals D2 b2 T Q_is_literal
  have Q_lower_once : C8.Cal l.prog w K mg base 1 "lower_once" (spLower K) [] := ok_lower_once D3 b3 T 
  have Q_ring_behind : C8.Cal l.prog w K mg base 1 "ring_behind" (spBehind K) [] := ok_ring_behind D4 b4 T 
  have Q_solved : C8.Cal l.prog w K mg base 4 "solved" (spSolved K) [] := ok_solved D5 b5 T Q_check_literals Q_lower_once Q_ring_behind
  have Q_l_well : C8.Cal l.prog w K mg base 1 "_law_well" spWell [] := ok_l_well D6 b6 T 
  have Q_l_draw : C8.Cal l.prog w K mg base 1 "_law_draw" spDraw [] := ok_l_draw D7 b7 T 
  have Q_l_one : C8.Cal l.prog w K mg base 2 "_law_one" (spOne K) [] := ok_l_one D8 b8 T Q_l_draw
  have Q_l_is_integer : C8.Cal l.prog w K mg base 1 "_law_is_integer" (spNum K) [] := ok_l_is_integer D9 b9 T 
  have Q_l_number : C8.Cal l.prog w K mg base 2 "_law_number" spNumber [] := ok_l_number D10 b10 T Q_l_draw
  have Q_l_holds : C8.Cal l.prog w K mg base 1 "_law_holds" (spHolds K) [] := ok_l_holds D11 b11 T 
  have Q_l_is_values : C8.Cal l.prog w K mg base 2 "_law_is_values" (spIsValues K) [] := ok_l_is_values D12 b12 T Q_l_is_integer Q_l_holds
  have Q_l_is_ring : C8.Cal l.prog w K mg base 2 "_law_is_ring" (spIsRing K) [] := ok_l_is_ring D13 b13 T Q_l_is_integer
  have Q_l_judged : C8.Cal l.prog w K mg base 3 "_law_judged" (spJudged K) [] := ok_l_judged D14 b14 T Q_l_is_values Q_l_is_ring
  have Q_check_literalsT : C8.Cal l.prog w K mg base 3 "check_literals" (spChkGT K) [] := ok_check_literalsT D2 b2 T Q_is_literal
  have Q_lower_onceT : C8.Cal l.prog w K mg base 1 "lower_once" (spLowerT K) [] := ok_lower_onceT D3 b3 T
  have Q_ring_behindT : C8.Cal l.prog w K mg base 1 "ring_behind" (spBehindT K) [] := ok_ring_behindT D4 b4 T
  have Q_solvedT : C8.Cal l.prog w K mg base 4 "solved" (spSolvedT K) [] := ok_solvedT D5 b5 T Q_check_literalsT Q_lower_onceT Q_ring_behindT
  exact ok_law F15 T Q_solved Q_solvedT Q_l_well Q_l_draw Q_l_one Q_l_number Q_l_judged
theorem walk {l : PySem.W.OpenLaw} {q : Program} {loose : List Str} {XP : (Str → Option Value) → Heap → Prop} {YP : World → Heap → Prop} {d : DefRec} {K : Params → PySem.W.Frag} (hn : l.most = some 63) (hdf : d.params.defaults = [])
    (hY : ∀ (w : World) (h : Heap), YP w h → (K w.params).In h)
    (F : ∀ (w : World) (mg : Str → Option Value) (fa : Addr) (h : Heap), (K w.params).In h → h.Ns mainGlobals mg → mg d.name = some (.ref fa) →
      ∃ fd : FuncData, (∀ (s : Shared) (u : Value), BindsTo s fd ⟨[u], []⟩ [("_law_script", u)]) ∧ ∀ base : Heap, (K w.params).In base → base.Ns mainGlobals mg → FnOk l.prog w (K w.params) mg base C8.CX0 5 fa fd ["_law_script"] (spLaw (K w.params))) :
    PySem.W.WalkO q loose XP YP l.row.toRowW d [] (fun f vs => PySem.call f vs) :=
  L2.walk_of (n := 63) (k := 5) (x := "_law_script") (CX := fun _ => C8.CX0) (sp := fun w => spLaw (K w.params)) hn (by decide) hdf ⟨rfl, by decide, by decide⟩ hY F (fun _ _ a ns hl _ hS => ⟨a, ns, rfl, hS, hl, fun _ => rfl⟩) fun _ _ _ _ _ z => z
end K1
open PySem PySem.W PyProof.Rows
set_option maxRecDepth 100000 in
set_option maxHeartbeats 0 in
theorem PySem.Challenge.cw_behindexits_k01_whole_literals_judged_holds : PySem.Challenge.rw_behindexits_k01_whole_literals_judged.Holds := by
  w_on; o_law; k_head; (case hw => w_witness2)
  k_fill
  refine K1.walk (l := PySem.Challenge.rw_behindexits_k01_whole_literals_judged) rfl rfl (fun w h Y => PySem.W.kIn_of Y) ?F
  case F =>
    intro w mg fa h KX G hmg
    refine' K1.all_mk KX G hmg ?a0 ?l0 ?c0 ?k0 ?a1 ?l1 ?c1 ?k1 ?a2 ?l2 ?c2 ?k2 ?a3 ?l3 ?c3 ?k3 ?a4 ?l4 ?c4 ?k4 ?a5 ?l5 ?c5 ?k5 ?a6 ?l6 ?c6 ?k6 ?a7 ?l7 ?c7 ?k7 ?a8 ?l8 ?c8 ?k8 ?a9 ?l9 ?c9 ?k9 ?a10 ?l10 ?c10 ?k10 ?a11 ?l11 ?c11 ?k11 ?a12 ?l12 ?c12 ?k12 ?a13 ?l13 ?c13 ?k13 ?a14 ?l14 ?c14 ?k14 ?a15 ?l15 ?c15 ?k15 ?m_MOST_LITERALS ?y_isinstance ?y_len ?y_int ?y_bool ?y_tuple ?y_list ?y_str ?y_set ?y_range ?y_enumerate ?y_sorted ?y_dict
    (case a0 => k_is); (case l0 => k_is); (case c0 => k_is); (case k0 => k_is)
    (case a1 => k_is); (case l1 => k_is); (case c1 => k_is); (case k1 => k_is)
    (case a2 => k_is); (case l2 => k_is); (case c2 => k_is); (case k2 => k_is)
    (case a3 => k_is); (case l3 => k_is); (case c3 => k_is); (case k3 => k_is)
    (case a4 => k_is); (case l4 => k_is); (case c4 => k_is); (case k4 => k_is)
    (case a5 => k_is); (case l5 => k_is); (case c5 => k_is); (case k5 => k_is)
    (case a6 => k_is); (case l6 => k_is); (case c6 => k_is); (case k6 => k_is)
    (case a7 => k_is); (case l7 => k_is); (case c7 => k_is); (case k7 => k_is)
    (case a8 => k_is); (case l8 => k_is); (case c8 => k_is); (case k8 => k_is)
    (case a9 => k_is); (case l9 => k_is); (case c9 => k_is); (case k9 => k_is)
    (case a10 => k_is); (case l10 => k_is); (case c10 => k_is); (case k10 => k_is)
    (case a11 => k_is); (case l11 => k_is); (case c11 => k_is); (case k11 => k_is)
    (case a12 => k_is); (case l12 => k_is); (case c12 => k_is); (case k12 => k_is)
    (case a13 => k_is); (case l13 => k_is); (case c13 => k_is); (case k13 => k_is)
    (case a14 => k_is); (case l14 => k_is); (case c14 => k_is); (case k14 => k_is)
    (case a15 => k_is); (case l15 => k_is); (case c15 => k_is); (case k15 => k_is)
    (case m_MOST_LITERALS => k_is); (case y_isinstance => k_is); (case y_len => k_is); (case y_int => k_is)
    (case y_bool => k_is); (case y_tuple => k_is); (case y_list => k_is); (case y_str => k_is)
    (case y_set => k_is); (case y_range => k_is); (case y_enumerate => k_is); (case y_sorted => k_is)
    (case y_dict => k_is)

