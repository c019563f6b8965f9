import PyProof.Rows.All
import Wide.All
import OpenK.AllK
import Wide.FinOn
import HandS.Codes
import HandS.Conv
import HandS.Deep
import HandS.DeepEq
import HandS.Defaults
import HandS.Dict
import HandS.DictComp
import HandS.Evl
import HandS.ExcField
import HandS.ExcInit
import HandS.ExcIs
import HandS.ExcValue
import HandS.Flow
import HandS.ForMost
import HandS.Head0
import HandS.Head1
import HandS.Head2
import HandS.HeadEnd
import HandS.HeadHook3
import HandS.IsInst
import HandS.More
import HandS.OwnEq
import HandS.Property
import HandS.RaiseMore
import HandS.SetFor
import HandS.SortKw
import HandS.StrMore
import HandS.Strs
import HandS.Style
import HandS.Text
import HandS.TryOnly
import HandS.TupAny
import HandS.Walk
import HandS.Wide
import HandS.Zip
import KE.GoesMore
import KE.KStateDown
import KE.SortKeyHeap
import OpenK.KMeth
import PyProof.Draws
import PyProof.EnumMake
import PySem.Challenge.RW_behindexits_k09_whole_bounds_are_tight
set_option Elab.async false
set_option linter.all false
set_option maxRecDepth 100000
set_option maxHeartbeats 4000000
namespace Bx
open PySem PySem.Spec PyProof.Rows L2
example (K : PySem.W.Frag) : PySem.W.kitOne K (.type "bool") (.type "int") = some true := by rfl
example (K : PySem.W.Frag) : PySem.W.kitOne K (.type "NoneType") (.type "int") = some false := by rfl
example (K : PySem.W.Frag) : PySem.W.kitOne K (.type "list") (.type "tuple") = some false := by rfl
example (K : PySem.W.Frag) : PySem.W.kitAny K (.type "dict") [.type "list", .type "tuple"] = some false := by rfl
section
variable {X : Cx}
def rCatS (K : PySem.W.Frag) : R2 := fun x y H Q => ∃ l b xs zs, x = .ref l ∧ y = .ref b ∧ SqL K H l xs ∧ SqL K H b zs ∧ xs.length + zs.length ≤ sizeLine ∧ ∀ p, H p = none → Q (.ref p) (upd H p (.lst (xs ++ zs)))
theorem op_catS : OpR X (binaryOp .Add) (rCatS X.K) := by
  intro pins s σ H x y v u Q I rx ry h
  obtain ⟨l, b, xs, zs, rfl, rfl, hH, hB, hz, q⟩ := h
  cases rx
  cases ry
  obtain ⟨its, r, ⟨⟨cls, dd, data, sl⟩, n, ho, hc, hdd, hd⟩, _⟩ := I.list hH
  obtain ⟨its2, r2, ⟨⟨cls2, dd2, data2, sl2⟩, n2, ho2, hc2, hdd2, hd2⟩, _⟩ := I.list hB
  simp only at hc hd hdd hc2 hd2 hdd2
  subst hc hd hdd hc2 hd2 hdd2
  have e1 := r.length
  have e2 := r2.length
  have e : its.toArray ++ its2.toArray = (its ++ its2).toArray := by simp
  refine concat_meets ⟨_, ho, rfl⟩ ⟨_, ho2, rfl⟩ noFill_list_add seq_list_add PySem.F.slot_list_add PySem.F.entry_list_add (PySem.F.args_list_add_2 _ _) (list_addW l b its.toArray its2.toArray n n2 none none sl sl2 (by simp; omega)) ⟨ho, ho2, ?_⟩
  rw [e]
  exact ⟨.ref _, _, I.lnew (t' := s.toks) (r.append r2) (by rw [List.length_append]; omega), rfl, q _ I.fresh⟩

/-! len(set(t)), t a tuple of ints -/
def tLenSetT (K : PySem.W.Frag) (ta : TE) : TE := fun σ H Q => ta σ H fun x H1 => ∃ (l : Addr) (ns : List Int), x = .ref l ∧ SqT K H1 l (ns.map V.int) ∧ ns.length ≤ 1000 ∧
  ∀ out : List Int, out.Nodup → (∀ k, k ∈ out ↔ k ∈ ns) → Q (.int (out.length : Nat)) H1
theorem pe_lenSetT {a : Expr} {ta : TE} {p p2 q pos : Pos} (hm : X.mg "len" = none) (hm2 : X.mg "set" = none) (ha : PE X a ta) (hg : Gl X "len" := by rfl) (hg2 : Gl X "set" := by rfl) (hc : X.calm = true := by rfl)
    (na : starEach [a] X.env = (false, eval a X.env) :: starEach [] X.env := by rfl) : PE X (.Call (.Name "len" p) [.Call (.Name "set" p2) [a] [] q] [] pos) (tLenSetT X.K ta) := by
  refine ⟨fun pins s σ H Q I h => ?_⟩
  refine Call_ (ld_blt I hg hm boot_len ?_)
  refine PyProof.Rows.callWith_builtin1 (PyProof.Rows.args_cons ?_ rfl) rfl rfl
  refine Call_ (ld_blt I hg2 hm2 boot_set ?_)
  refine PyProof.Rows.callWith_type1 (PyProof.Rows.args_cons (thn (ha.run pins s σ H _ I h) fun v s1 ⟨x, H1, I1, r1, q1⟩ => PyProof.Rows.args_nil ?_) na) na rfl
  obtain ⟨l, ns, rfl, hq, hl, q1⟩ := q1
  cases r1
  obtain ⟨its, rv, pt, hz⟩ := I1.tuple hq
  have hi : IntsAre its.toArray.toList ns := ints_of_vals rv
  have hd := I1.ok.hd hc
  refine call_set_tupI ns hd (show s1.heap.IsTuple l its.toArray from pt) hi (by unfold scanBound; omega) fun h' tk c R1 hcn k => ?_
  refine PyProof.Rows.args_nil ?_
  obtain ⟨o, es, ep, t, ho, hex, hdt, g, nd, hm2, hb, hf, hn, hr, hl2⟩ := R1
  have I2 : Inv X pins σ H1 { s1 with heap := h', toks := tk } := I1.kept fun b o e => k b o e
  have hlen : es.size = (es.toList.map keyOf).length := by rw [List.length_map, Array.length_toList]
  refine call_len_set ho hex hdt hf (by rw [hn]; omega) ⟨.int ((es.toList.map keyOf).length : Nat), H1, I2.tok _, ⟨_, by rw [← hlen]⟩, q1 _ nd fun j => ?_⟩
  rw [← hm2 j, decide_eq_true_eq]
end
section
variable {prog : Program} {w : World} {A : Around} {E : Value → Shared → Prop} {s : Shared}
theorem fm_congr {α β : Type} {f g : α → Option β} : ∀ {l : List α}, (∀ m ∈ l, f m = g m) → l.filterMap f = l.filterMap g
  | [], _ => rfl
  | a :: l, h => by
    rw [List.filterMap_cons, List.filterMap_cons, h a List.mem_cons_self, fm_congr fun m hm => h m (List.mem_cons_of_mem _ hm)]
theorem rev_applied {A : Around} {E : Value → Shared → Prop} {s : Shared} {sl : Addr} {vs : Value} {n : Nat} {Q : Int × Int × Nat → Shared → Prop} (hs : s.heap.IsSliceOf sl .none .none vs) (ps : IsPart vs (some (-1))) (h : Q (((n : Nat) : Int) - 1, -1, n) s) :
    wpAny (model prog w) A (Builtin.Slice.sliceApplied (.ref sl) (pure ((n : Nat) : Int))) Q E s := by
  obtain ⟨os, hos, hcs, hds⟩ := id hs
  unfold Builtin.Slice.sliceApplied Builtin.Slice.sliceFields
  refine wpAny_bind (wpAny_bind (wpAny_field hos hds (x := .none) rfl (wpAny_bind (wpAny_field hos hds (x := .none) rfl (wpAny_bind (wpAny_field hos hds (x := vs) rfl (wpAny_pure ?_)))))))
  refine wpAny_bind (HT.slicePart_ ps ?_)
  show wpAny _ _ (if ((-1 : Int) == 0) = true then _ else _) _ _ s
  rw [if_neg (by decide)]
  refine wpAny_bind (slicePart_none (wpAny_bind (slicePart_none (wpAny_bind (wpAny_pure ?_)))))
  have ea : Builtin.Slice.sliceAdjust none none (-1) ((n : Nat) : Int) = (((n : Nat) : Int) - 1, -1) := by
    unfold Builtin.Slice.sliceAdjust
    simp
  have ep : Builtin.Slice.slicePlaces (((n : Nat) : Int) - 1) (-1) (-1) = n := by
    unfold Builtin.Slice.slicePlaces
    have h1 : ¬ ((-1 : Int) > 0) := by decide
    have h2 : (- -1 : Int) = 1 := by decide
    simp only [h1, if_false, h2, Int.ediv_one]
    split <;> omega
  show wpAny _ _ (match Builtin.Slice.sliceAdjust none none (-1) ((n : Nat) : Int) with | (lo, hi) => pure (lo, (-1 : Int), Builtin.Slice.slicePlaces lo hi (-1))) _ _ s
  rw [ea]
  show wpAny _ _ (pure (((n : Nat) : Int) - 1, (-1 : Int), Builtin.Slice.slicePlaces (((n : Nat) : Int) - 1) (-1) (-1))) _ _ s
  rw [ep]
  exact wpAny_pure h
theorem rev_pick (items : Array Value) : ((List.range items.size).filterMap fun (m : Nat) => items[(((items.size : Nat) : Int) - 1 + (m : Int) * (-1)).toNat]?).toArray = items.toList.reverse.toArray := by
  have e : ((List.range items.size).filterMap fun (m : Nat) => items[(((items.size : Nat) : Int) - 1 + (m : Int) * (-1)).toNat]?) = ((List.range items.size).map fun k => items.size - 1 - k).filterMap (items[·]?) := by
    rw [List.filterMap_map]
    refine fm_congr fun m hm => ?_
    have := List.mem_range.mp hm
    show items[(((items.size : Nat) : Int) - 1 + (m : Int) * (-1)).toNat]? = items[items.size - 1 - m]?
    rw [show (((items.size : Nat) : Int) - 1 + (m : Int) * (-1)).toNat = items.size - 1 - m by omega]
  rw [e, PySem.W.krv_range, List.filterMap_reverse, PySem.W.krv_all]
theorem getItem_tuple_rev {t sl : Addr} {items : Array Value} {vs : Value} {Q : Value → Shared → Prop} (ht : IsTup s.heap t items) (hs : s.heap.IsSliceOf sl .none .none vs) (ps : IsPart vs (some (-1)))
    (h : Q (.ref s.heap.objs.size) { s with heap := s.heap.push { cls := .type "tuple", data := .seq items.toList.reverse.toArray } })
    (hsz : items.size ≤ sizeLine) : wpAny (model prog w) A (getItem (.ref t) (.ref sl)) Q E s := by
  have htake : sizeOk (.seq items.toList.reverse.toArray) := by
    show items.toList.reverse.toArray.size ≤ sizeLine
    rw [List.size_toArray, List.length_reverse, Array.length_toList]
    exact hsz
  obtain ⟨os, hos, hcs, hds⟩ := id hs
  have hTs : s.TypeIs (.ref sl) "slice" := ⟨os, hos, hcs⟩
  unfold getItem
  try with_reducible refine wpAny_holding ?_
  first | refine wpAny_bind (wpAny_pure ?_) | skip
  refine wpAny_bind (wpAny_sequenceKey ht.typeIs (by decide) ?_)
  refine wpAny_bind (wpAny_callSpecial?_slot (name := Str.ofString "__getitem__") ht.typeIs PyProof.Rows.slot_tuple_getitem
    (wpAny_call_entry PyProof.Rows.slot_tuple_getitem ht.typeIs entry_tuple_getitem ?_ (args_tuple_getitem _ _)))
  show wpAny _ _ (Builtin.Tuple.tupleItemsOf (.ref t) >>= _) _ _ s
  refine wpAny_bind (tupleItemsOf_ ht ?_)
  refine wpAny_bind (wpAny_typeOf hTs ?_)
  rw [if_pos (by decide)]
  refine wpAny_bind (rev_applied hs ps ?_)
  have hno : ¬ (((((items.size : Nat) : Int) - 1) == 0 && (-1 : Int) == 1 && items.size == items.size) = true) := by
    intro q
    rw [Bool.and_eq_true, Bool.and_eq_true] at q
    exact absurd q.1.2 (by decide)
  show wpAny _ _ (if ((((items.size : Nat) : Int) - 1) == 0 && (-1 : Int) == 1 && items.size == items.size) = true then _ else _) _ _ s
  rw [if_neg hno, rev_pick]
  first
    | exact wpAny_bind (m := Builtin.Tuple.tupleExact _) (wpAny_newObj_type (wpAny_pure ⟨_, rfl, wpAny_pure h⟩) htake)
    | exact wpAny_bind (m := Builtin.Tuple.tupleExact _) (wpAny_newObj_type (wpAny_bind (wpAny_pure (wpAny_pure ⟨_, rfl, wpAny_pure h⟩))) htake)
    | exact wpAny_bind (wpAny_bind (m := Builtin.Tuple.tupleExact _) (wpAny_newObj_type (wpAny_pure (wpAny_pure ⟨_, rfl, wpAny_pure h⟩)) htake))
    | exact wpAny_bind (wpAny_bind (m := Builtin.Tuple.tupleExact _) (wpAny_newObj_type (wpAny_pure ⟨_, rfl, wpAny_pure h⟩) htake))
end
section
variable {X : Cx}
def tRevT (K : PySem.W.Frag) (te : TE) : TE := fun σ H Q => te σ H fun x H1 => ∃ a xs, x = .ref a ∧ SqT K H1 a xs ∧ ∀ p, H1 p = none → Q (.ref p) (upd H1 p (.tup xs.reverse))
theorem pe_revT {e : Expr} {te : TE} {k : Nat} {p1 p2 p3 pos : Pos} (he : PE X e te) : PE X (.Subscript e (.Slice none none (some (.UnaryOp .USub (.Constant (.int 1) k p1) p2)) p3) pos) (tRevT X.K te) := by
  refine ⟨fun pins s σ H Q I h => ?_⟩
  refine Subscript_ (thn (he.run pins s σ H _ I h) fun v s1 ⟨x, H1, I1, r1, q1⟩ => ?_)
  obtain ⟨a, xs, ex, hx, q⟩ := q1
  subst ex
  cases r1
  have hst : PO X (some (.UnaryOp .USub (.Constant (.int 1) k p1) p2)) (tPart (tUn (rU fun i => .int (-i)) (tC (.int 1)))) := po_some (pe_un un_neg pe_int)
  refine wpAny_Slice (thn (po_none.run pins s1 σ H1 (fun o H2 => o = none ∧ H2 = H1) I1 ⟨rfl, rfl⟩) fun vl s2 ⟨l, H2, I2, pl, el, e2⟩ => ?_)
  subst el e2
  refine thn (po_none.run pins s2 σ H2 (fun o H3 => o = none ∧ H3 = H2) I2 ⟨rfl, rfl⟩) fun vu s3 ⟨u, H3, I3, pu, eu, e3⟩ => ?_
  subst eu e3
  refine thn (hst.run pins s3 σ H3 (fun o H4 => o = some (-1) ∧ H4 = H3) I3 ⟨1, rfl, -1, rfl, rfl, rfl⟩) fun vs s4 ⟨o, H4, I4, ps, eo, e4⟩ => ?_
  subst eo e4
  cases pl
  cases pu
  have I5 : Inv X pins σ H4 { s4 with heap := s4.heap.push { cls := .type "slice", data := .fields #[Value.none, Value.none, vs] } } := I4.kept (t' := s4.toks) fun b ob q => Heap.get?_push_of_some _ q
  obtain ⟨its, r, ht, hz⟩ := I5.tuple hx
  have hlen := r.length
  show wpAny (model X.prog X.w) X.A (subscriptTail e (.Slice none none (some (.UnaryOp .USub (.Constant (.int 1) k p1) p2)) p3) (.ref a) (.ref s4.heap.objs.size)) (EP X pins σ Q) X.xe { s4 with heap := s4.heap.push { cls := .type "slice", data := .fields #[Value.none, Value.none, vs] } }
  refine tail_any (ops := [.ref a, .ref s4.heap.objs.size]) ht.typeIs (PyProof.Rows.slot_tuple_getitem.lookup) ?_ (by with_unfolding_all rfl)
  refine getItem_tuple_rev ht (Heap.IsSliceOf.new _ Value.none Value.none vs) ps ?_ (by rw [List.size_toArray]; omega)
  refine ⟨.ref _, _, I5.laid (t' := s4.toks) (o := .tup xs.reverse) (fun b ob q => Heap.get?_push_of_some _ q) (Nat.le_refl _) ?_, rfl, q _ (I5.hok.fresh (Nat.le_refl _))⟩
  exact ⟨by rw [List.length_reverse]; exact hz, _, r.reverse, ⟨_, Heap.get?_push_size _ rfl, rfl, 0, rfl⟩⟩
end
end Bx

namespace Bx
open PySem PySem.Spec PyProof.Rows L2
/-! ### what stays -/
theorem Same.new {H : Hp} {p : Addr} {o : HO} (h : H p = none) : Same H (upd H p o) := fun a u e => by
  rw [upd_ne (ne_of_none e h)]
  exact e
theorem Same.mut {H H' : Hp} {p : Addr} {o : HO} (e : Same H H') (h : H p = none) : Same H (upd H' p o) := fun a u ha => by
  rw [upd_ne (ne_of_none ha h)]
  exact e a u ha
theorem Same.seqT {K : PySem.W.Frag} {H H' : Hp} {a : Addr} {xs : List V} (e : Same H H') (h : SqT K H a xs) : SqT K H' a xs := by
  rcases h with (h | ⟨o, h⟩) | h
  · exact .inl (.inl (e _ _ h))
  · exact .inl (.inr ⟨o, e _ _ h⟩)
  · exact .inr h
theorem Same.ty {K : PySem.W.Frag} {H H' : Hp} {v : V} {t : Value} (e : Same H H') (h : TyX K H v t) : TyX K H' v t := by
  cases h with
  | base b =>
    cases b with
    | non => exact .base .non
    | bl x => exact .base (.bl x)
    | int i => exact .base (.int i)
    | str x => exact .base (.str x)
    | flt x => exact .base (.flt x)
    | lst q => exact .base (.lst (e _ _ q))
    | frz q => exact .base (.frz (e _ _ q))
    | tup q => exact .base (.tup (e _ _ q))
    | dK q => exact .base (.dK (e _ _ q))
    | dT q => exact .base (.dT (e _ _ q))
    | ins q cl ha hn htk hm => exact .base (.ins (e _ _ q) cl ha hn htk hm)
  | byt b => exact .byt b
  | set q => exact .set (e _ _ q)
  | kList a b => exact .kList a b
  | kTuple a b => exact .kTuple a b
  | kDict a b => exact .kDict a b
  | fTuple q => exact .fTuple (e _ _ q)
  | fDict q => exact .fDict (e _ _ q)
theorem tyT {K : PySem.W.Frag} {H : Hp} {a : Addr} {xs : List V} (h : SqT K H a xs) : TyX K H (.ref a) (.type "tuple") := by
  rcases h with (h | ⟨o, h⟩) | ⟨o, its, n, hk, hc, _⟩
  · exact .base (.tup h)
  · exact .fTuple h
  · exact .kTuple hk hc
theorem tyL {K : PySem.W.Frag} {H : Hp} {a : Addr} {xs : List V} (h : SqL K H a xs) : TyX K H (.ref a) (.type "list") := by
  rcases h with (h | ⟨o, h⟩) | ⟨o, its, n, hk, hc, _⟩
  · exact .base (.lst h)
  · exact .base (.frz h)
  · exact .kList hk hc
/-- .. all but the one at l -/
def But (l : Addr) (H H' : Hp) : Prop := ∀ b o, H b = some o → b ≠ l → H' b = some o
theorem But.refl (l : Addr) (H : Hp) : But l H H := fun _ _ h _ => h
theorem But.trans {l : Addr} {H H1 H2 : Hp} (a : But l H H1) (b : But l H1 H2) : But l H H2 := fun c o h n => b c o (a c o h n) n
theorem But.of {l : Addr} {H H' : Hp} (a : Same H H') : But l H H' := fun c o h _ => a c o h
theorem But.upd {l : Addr} {H : Hp} {o : HO} : But l H (upd H l o) := fun c u h n => by
  rw [upd_ne n]
  exact h
theorem But.seq {K : PySem.W.Frag} {l : Addr} {H H' : Hp} {a : Addr} {xs : List V} (e : But l H H') (n : a ≠ l) (h : SqL K H a xs) : SqL K H' a xs := by
  rcases h with (h | ⟨o, h⟩) | h
  · exact .inl (.inl (e _ _ h n))
  · exact .inl (.inr ⟨o, e _ _ h n⟩)
  · exact .inr h
theorem But.seqT {K : PySem.W.Frag} {l : Addr} {H H' : Hp} {a : Addr} {xs : List V} (e : But l H H') (n : a ≠ l) (h : SqT K H a xs) : SqT K H' a xs := by
  rcases h with (h | ⟨o, h⟩) | h
  · exact .inl (.inl (e _ _ h n))
  · exact .inl (.inr ⟨o, e _ _ h n⟩)
  · exact .inr h
theorem But.free {l : Addr} {H H' : Hp} (e : But l H H') {p : Addr} (n : p ≠ l) (h : H' p = Option.none) : H p = Option.none := by
  cases q : H p with
  | none => rfl
  | some o =>
    rw [e p o q n] at h
    cases h
/-! ### tuples of any kind: what a sum, a slice is -/
section
variable {X : Cx}
def rCatU (K : PySem.W.Frag) : R2 := fun x y H Q => ∃ a b xs ys, x = .ref a ∧ y = .ref b ∧ SqT K H a xs ∧ SqT K H b ys ∧ xs.length + ys.length ≤ sizeLine ∧ ∀ c H', Same H H' → SqT K H' c (xs ++ ys) → Q (.ref c) H'
theorem op_catU : OpR X (binaryOp .Add) (rCatU X.K) := by
  intro pins s σ H x y v u Q I rx ry h
  obtain ⟨a, b, xs, ys, ex, ey, ha, hb, hz, q⟩ := h
  refine op_catA pins s σ H x y v u Q I rx ry ⟨a, b, xs, ys, ex, ey, ha, hb, hz, fun e => ?_, fun _ e => ?_, fun _ _ p hp => ?_⟩
  · subst e
    exact q b H (Same.refl H) hb
  · subst e
    exact q a H (Same.refl H) (by rw [List.append_nil]; exact ha)
  · exact q p _ (Same.new hp) (.inl (.inl upd_same))
def rSlU (K : PySem.W.Frag) : V → Option Int → Option Int → Hp → VK → Prop := fun x lo hi H Q => ∃ a xs, x = .ref a ∧ SqT K H a xs ∧ ∀ c H', Same H H' → SqT K H' c (cutV xs lo hi) → Q (.ref c) H'
theorem sl_tupU : SlR X (rSlU X.K) := by
  intro pins s σ H x v vl vu lo hi sl Q I rx hs pl pu h
  obtain ⟨a, xs, ex, hx, q⟩ := h
  refine sl_tupA pins s σ H x v vl vu lo hi sl Q I rx hs pl pu ⟨a, xs, ex, hx, fun hw => ?_, fun _ p hp => ?_⟩
  · refine q a H (Same.refl H) ?_
    unfold cutV
    rw [hw.1, hw.2, List.drop_zero, Nat.sub_zero, List.take_length]
    exact hx
  · exact q p _ (Same.new hp) (.inl (.inl upd_same))
end
/-! ### a loop over enumerate of a list -/
theorem for_enumL {K : PySem.W.Frag} {a : Addr} {xs : List V} {g : TG} {tb : TS} {D : Ends} {σ : L2.St} {H : Hp} (Pv : Nat → L2.St → Hp → Prop) (h0 : Pv 0 σ H) (hq : ∀ i σ H, Pv i σ H → SqL K H a xs)
    (hs : ∀ (i : Nat) (x : V) (T : Addr) (σ : L2.St) (H : Hp), xs[i]? = some x → Pv i σ H → H T = none → g (.ref T) σ (upd H T (.tup [.int (i : Nat), x])) fun σ2 H2 => tb { D with nx := Pv (i + 1), ct := Pv (i + 1), bk := D.nx } σ2 H2) (hd : ∀ σ H, Pv xs.length σ H → D.nx σ H) :
    ∃ W : Nat → Nat → L2.St → Hp → Prop, (∃ m, W 0 m σ H) ∧ ∀ i m σ H, W i m σ H →
      ((Ite K a).stop i H ∧ D.nx σ H) ∨ ((Ite K a).go i H ∧ ∃ N : L2.St → Hp → Prop, (∀ σ' H', N σ' H' → ∃ m', m' < m ∧ W (i + 1) m' σ' H') ∧ ∀ v H', (Ite K a).yld i H v H' → g v σ H' fun σ2 H2 => tb { D with nx := N, ct := N, bk := D.nx } σ2 H2) := by
  refine ⟨fun i m σ H => m = xs.length - i ∧ i ≤ xs.length ∧ Pv i σ H, ⟨xs.length, rfl, Nat.zero_le _, h0⟩, ?_⟩
  rintro i m σ H ⟨rfl, hi, p⟩
  have qx := hq i σ H p
  by_cases hlt : i < xs.length
  · have hx : xs[i]? = some xs[i] := List.getElem?_eq_getElem hlt
    refine .inr ⟨⟨xs, _, qx, hx⟩, Pv (i + 1), fun σ' H' p' => ⟨xs.length - (i + 1), by omega, rfl, hlt, p'⟩, fun v H' y => ?_⟩
    obtain ⟨T, x', rfl, hT, rfl, f1⟩ := y
    exact hs i x' T σ H (f1 xs qx) p hT
  · have e : i = xs.length := by omega
    subst e
    exact .inl ⟨⟨xs, qx, Nat.le_refl _⟩, hd σ H p⟩
end Bx

namespace Bx
open PySem PySem.Spec PyProof.Rows L2
theorem lay_ints : ∀ is : List Int, PyData.canLayAll0 (is.map PyData.int) = true
  | [] => by simp [PyData.canLayAll0]
  | i :: is => by simp [PyData.canLayAll0, PyData.canLay0, lay_ints is]
theorem dep_ints : ∀ is : List Int, PyData.depthAll (is.map PyData.int) ≤ 1
  | [] => by simp [PyData.depthAll]
  | i :: is => by
    have := dep_ints is
    simp [PyData.depthAll, PyData.depth]
    omega
theorem shaped_ints (is : List Int) : SeqAt.shaped (.list (is.map PyData.int)) = true := by
  unfold SeqAt.shaped
  rw [Bool.and_eq_true, decide_eq_true_eq]
  refine ⟨by simp [PyData.canLay0, lay_ints], ?_⟩
  have := dep_ints is
  simp [PyData.depth]
  omega
theorem lay_strs : ∀ {is : List Str}, (∀ x ∈ is, PyData.strOk x = true) → PyData.canLayAll0 (is.map PyData.str) = true
  | [], _ => by simp [PyData.canLayAll0]
  | i :: is, h => by simp [PyData.canLayAll0, PyData.canLay0, lay_strs fun x hx => h x (List.mem_cons_of_mem _ hx), h i List.mem_cons_self]
theorem dep_strs : ∀ is : List Str, PyData.depthAll (is.map PyData.str) ≤ 1
  | [] => by simp [PyData.depthAll]
  | i :: is => by
    have := dep_strs is
    simp [PyData.depthAll, PyData.depth]
    omega
theorem shaped_strs {is : List Str} (h : ∀ x ∈ is, PyData.strOk x = true) : SeqAt.shaped (.list (is.map PyData.str)) = true := by
  unfold SeqAt.shaped
  rw [Bool.and_eq_true, decide_eq_true_eq]
  refine ⟨by simp [PyData.canLay0, lay_strs h], ?_⟩
  have := dep_strs is
  simp [PyData.depth]
  omega
theorem dp_ints {K : PySem.W.Frag} {H : Hp} : ∀ is : List Int, DpAll K H (is.map V.int) (is.map PyData.int)
  | [] => .nil
  | i :: is => .cons (.int i) (dp_ints is)
theorem dp_strs {K : PySem.W.Frag} {H : Hp} : ∀ is : List Str, DpAll K H (is.map V.str) (is.map PyData.str)
  | [] => .nil
  | i :: is => .cons (.str i) (dp_strs is)
theorem eqv_strs : ∀ {xs ys : List Str}, PyData.eqvAll (xs.map PyData.str) (ys.map PyData.str) = true ↔ xs = ys
  | [], [] => by simp [PyData.eqvAll]
  | [], _ :: _ => by simp [PyData.eqvAll]
  | _ :: _, [] => by simp [PyData.eqvAll]
  | x :: xs, y :: ys => by
    have e := @eqv_strs xs ys
    simp [PyData.eqvAll, PyData.eqv, e]
theorem eqv_ints : ∀ {xs ys : List Int}, PyData.eqvAll (xs.map PyData.int) (ys.map PyData.int) = true ↔ xs = ys
  | [], [] => by simp [PyData.eqvAll]
  | [], _ :: _ => by simp [PyData.eqvAll]
  | _ :: _, [] => by simp [PyData.eqvAll]
  | x :: xs, y :: ys => by
    have e := @eqv_ints xs ys
    simp [PyData.eqvAll, PyData.eqv, e]
theorem But.tupW {K : PySem.W.Frag} {l : Addr} {ws : List V} {H H' : Hp} {a : Addr} {xs : List V} (hw : H l = some (.lst ws)) (e : But l H H') (h : SqT K H a xs) : SqT K H' a xs := by
  rcases h with (h | ⟨o, h⟩) | h
  · exact .inl (.inl (e _ _ h (ne_of h hw (by intro q; cases q))))
  · exact .inl (.inr ⟨o, e _ _ h (ne_of h hw (by intro q; cases q))⟩)
  · exact .inr h
theorem at_lastI {is : List Int} (h : is ≠ []) : ∃ a, a ∈ is ∧ atI (is.map V.int) (-1) = some (.int a) ∧ is[is.length - 1]? = some a := by
  obtain ⟨init, a, rfl⟩ : ∃ init a, is = init ++ [a] := ⟨is.dropLast, is.getLast h, (List.dropLast_concat_getLast h).symm⟩
  refine ⟨a, by simp, ?_, by simp⟩
  rw [List.map_append]
  exact atI_last _ _
theorem flat_ints (is : List Int) : (is.map V.int).all flatV = true := by
  rw [List.all_eq_true]
  intro x hx
  obtain ⟨i, _, rfl⟩ := List.mem_map.mp hx
  rfl
theorem inV_ints {i : Int} {is : List Int} : inV (.int i) (is.map V.int) = decide (i ∈ is) := by
  unfold inV
  rw [Bool.eq_iff_iff, List.any_eq_true, decide_eq_true_eq]
  constructor
  · rintro ⟨x, hx, e⟩
    obtain ⟨j, hj, rfl⟩ := List.mem_map.mp hx
    have : j = i := by simpa [eqV] using e
    exact this ▸ hj
  · intro h
    exact ⟨.int i, List.mem_map_of_mem h, by simp [eqV]⟩
theorem But.mut {l : Addr} {H H' : Hp} {p : Addr} {o : HO} (e : But l H H') (h : H p = Option.none) : But l H (L2.upd H' p o) := fun a u ha n => by
  rw [upd_ne (ne_of_none ha h)]
  exact e a u ha n
theorem But.lst {l : Addr} {H H' : Hp} {a : Addr} {o : HO} (e : But l H H') (h : H a = some o) (n : a ≠ l) : H' a = some o := e a o h n
/-! the same rules by the frame's own K (within a comprehension) -/
section
variable {X : Cx} (K : PySem.W.Frag)
theorem ixLK (h : X.K = K := by rfl) : IxR X (rIxL K) := by subst h; exact ix_list
theorem ixTK (h : X.K = K := by rfl) : IxR X (rIxT K) := by subst h; exact ix_tup
theorem inK (h : X.K = K := by rfl) : OpR X (compareOp .In) (rIn K false) := by subst h; exact op_in_seq
theorem notInK (h : X.K = K := by rfl) : OpR X (compareOp .NotIn) (rIn K true) := by subst h; exact op_notIn_seq
theorem isiK (h : X.K = K := by rfl) : CallR X (.builtin "isinstance") (rIsi K) := by subst h; exact call_isi
theorem lenK (h : X.K = K := by rfl) : CallR X (.builtin "len") (Evl.rLenS K) := by subst h; exact call_len_seq
end
end Bx

namespace Bx
open PySem PySem.Spec PyProof.Rows L2
/-! {k: v for a in A for b in B}: two clauses -/
theorem dcompTurn2_out (kx vx t0 i0 t1 i1 : Expr) (ifs0 ifs1 : List Expr) (scope : Scope) (pos : Pos) (it : Value) (acc : Addr) (env : Env) :
    compTurn (.DictComp kx vx [⟨t0, i0, ifs0, 0⟩, ⟨t1, i1, ifs1, 0⟩] scope pos) 0 it (.ref acc) env = (do
      standAt i0.pos
      match ← pyNext it with
      | none => pure (.done .next)
      | some v =>
        letOwnedTupleGo t0 it v
        assign t0 env v
        let mut ok := true
        for c in ifs0 do
          if ok then ok ← isTrue c env (eval c env)
        if ok then
          let x ← eval i1 env
          standAt i1.pos
          let x ← foldedSetIterable i1 env x
          let _ ← runOwn (.compStart (.DictComp kx vx [⟨t0, i0, ifs0, 0⟩, ⟨t1, i1, ifs1, 0⟩] scope pos) 1 (← holding [x] (pyIter x)) (.ref acc) env) env
        again (.compLoop (.DictComp kx vx [⟨t0, i0, ifs0, 0⟩, ⟨t1, i1, ifs1, 0⟩] scope pos) 0 it (.ref acc) env)) := by rfl
theorem dcompTurn2_in (kx vx t0 i0 t1 i1 : Expr) (ifs0 ifs1 : List Expr) (scope : Scope) (pos : Pos) (it : Value) (acc : Addr) (env : Env) :
    compTurn (.DictComp kx vx [⟨t0, i0, ifs0, 0⟩, ⟨t1, i1, ifs1, 0⟩] scope pos) 1 it (.ref acc) env = (do
      standAt i1.pos
      match ← pyNext it with
      | none => pure (.done .next)
      | some v =>
        letOwnedTupleGo t1 it v
        assign t1 env v
        let mut ok := true
        for c in ifs1 do
          if ok then ok ← isTrue c env (eval c env)
        if ok then
          (do
            let kv ← eval kx env
            let vv ← holding [kv] (eval vx env)
            standAt { kx.pos with endLine := vx.pos.endLine, endCol := vx.pos.endCol }
            holding [kv, vv] (dictSet acc kv vv))
        again (.compLoop (.DictComp kx vx [⟨t0, i0, ifs0, 0⟩, ⟨t1, i1, ifs1, 0⟩] scope pos) 1 it (.ref acc) env)) := by rfl

section
variable {prog : Program} {w : World} {A : Around} {R : Result → Shared → Prop} {s : Shared} {kx vx t0 i0 t1 i1 : Expr} {ifs0 ifs1 : List Expr} {scope : Scope} {pos : Pos} {it : Value} {acc : Addr} {env : Env}
theorem dcompLoop2_out (hs : ∀ x, foldedSetIterable i1 env x = pure x) (I : Nat → Shared → Prop)
    (turn : ∀ n s, I n s → wpAny (model prog w) A (pyNext it) (fun r s₁ => match r with
      | none => R (.ok .next) s₁
      | some v => wpAny (model prog w) A (letOwnedTupleGo t0 it v) (fun _ s₁' => wpAny (model prog w) A (assign t0 env v) (fun _ s₂ =>
          wpAny (model prog w) A (forIn ifs0 true fun c r => if r = true then do let ok ← isTrue c env (eval c env); pure (ForInStep.yield ok) else pure (ForInStep.yield r)) (fun ok s₃ =>
            if ok = true then wpAny (model prog w) A (eval i1 env) (fun x s₄ => wpAny (model prog w) A (pyIter x) (fun it1 s₅ =>
              codeAny (model prog w) A (.compStart (.DictComp kx vx [⟨t0, i0, ifs0, 0⟩, ⟨t1, i1, ifs1, 0⟩] scope pos) 1 it1 (.ref acc) env) (fun r s' => match r with
                | .ok _ => ∃ m, m < n ∧ I m s'
                | .error _ => False) s₅) (notedBy (model prog w) A env fun e s' => R (.error e) s') s₄) (notedBy (model prog w) A env fun e s' => R (.error e) s') s₃
            else ∃ m, m < n ∧ I m s₃) (notedBy (model prog w) A env fun e s' => R (.error e) s') s₂) (notedBy (model prog w) A env fun e s' => R (.error e) s') s₁') (notedBy (model prog w) A env fun e s' => R (.error e) s') s₁) (notedBy (model prog w) A env fun e s' => R (.error e) s') s)
    (n : Nat) (h : I n s) :
    codeAny (model prog w) A (.compLoop (.DictComp kx vx [⟨t0, i0, ifs0, 0⟩, ⟨t1, i1, ifs1, 0⟩] scope pos) 0 it (.ref acc) env) R s := by
  refine codeAny_loop rfl I (fun n s hI => ?_) n h
  show wpAny _ A ((compTurn (.DictComp kx vx [⟨t0, i0, ifs0, 0⟩, ⟨t1, i1, ifs1, 0⟩] scope pos) 0 it (.ref acc) env).onRaise (fun x => do noteFrame x env; theTreesLotGoes x)) _ _ s
  refine wpAny_noted ?_
  rw [dcompTurn2_out]
  refine wpAny_bind (wpAny_standAt (wpAny_bind (wpAny_mono (turn n s hI) (fun r s₁ h₁ => ?_) fun _ _ h' => h')))
  cases r with
  | none => exact wpAny_pure h₁
  | some v =>
    refine wpAny_bind (wpAny_mono h₁ (fun _ s₁' h₁' => ?_) fun _ _ h' => h')
    refine wpAny_bind (wpAny_mono h₁' (fun _ s₂ h₂ => wpAny_bind (wpAny_mono h₂ (fun ok s₃ h₃ => ?_) fun _ _ h' => h')) fun _ _ h' => h')
    cases ok with
    | false => exact wpAny_pure ⟨rfl, h₃⟩
    | true =>
      refine wpAny_bind (wpAny_mono h₃ (fun x s₄ h₄ => ?_) fun _ _ h' => h')
      refine wpAny_bind (wpAny_standAt (wpAny_bind (wpAny_of_eq (hs x) (wpAny_bind (wpAny_holding (wpAny_mono h₄ (fun it1 s₅ h₅ => ?_) fun _ _ h' => h'))))))
      refine wpAny_bind (wpAny_runOwn ?_)
      rw [Around.mark_none]
      refine codeAny_mono h₅ fun r s' hr => ?_
      cases r with
      | ok f =>
        first
          | exact wpAny_pure ⟨rfl, hr⟩
          | exact wpAny_bind (wpAny_pure (wpAny_pure ⟨rfl, hr⟩))
      | error e => exact hr.elim
theorem dcompLoop2_in (I : Nat → Shared → Prop)
    (turn : ∀ n s, I n s → wpAny (model prog w) A (pyNext it) (fun r s₁ => match r with
      | none => R (.ok .next) s₁
      | some v => wpAny (model prog w) A (letOwnedTupleGo t1 it v) (fun _ s₁' => wpAny (model prog w) A (assign t1 env v) (fun _ s₂ =>
          wpAny (model prog w) A (forIn ifs1 true fun c r => if r = true then do let ok ← isTrue c env (eval c env); pure (ForInStep.yield ok) else pure (ForInStep.yield r)) (fun ok s₃ =>
            if ok = true then wpAny (model prog w) A (eval kx env) (fun kv s₄ => wpAny (model prog w) A (eval vx env) (fun vv s₅ =>
              wpAny (model prog w) A (dictSet acc kv vv) (fun _ s₆ => ∃ m, m < n ∧ I m s₆) (notedBy (model prog w) A env fun e s' => R (.error e) s') s₅) (notedBy (model prog w) A env fun e s' => R (.error e) s') s₄) (notedBy (model prog w) A env fun e s' => R (.error e) s') s₃
            else ∃ m, m < n ∧ I m s₃) (notedBy (model prog w) A env fun e s' => R (.error e) s') s₂) (notedBy (model prog w) A env fun e s' => R (.error e) s') s₁') (notedBy (model prog w) A env fun e s' => R (.error e) s') s₁) (notedBy (model prog w) A env fun e s' => R (.error e) s') s)
    (n : Nat) (h : I n s) :
    codeAny (model prog w) A (.compLoop (.DictComp kx vx [⟨t0, i0, ifs0, 0⟩, ⟨t1, i1, ifs1, 0⟩] scope pos) 1 it (.ref acc) env) R s := by
  refine codeAny_loop rfl I (fun n s hI => ?_) n h
  show wpAny _ A ((compTurn (.DictComp kx vx [⟨t0, i0, ifs0, 0⟩, ⟨t1, i1, ifs1, 0⟩] scope pos) 1 it (.ref acc) env).onRaise (fun x => do noteFrame x env; theTreesLotGoes x)) _ _ s
  refine wpAny_noted ?_
  rw [dcompTurn2_in]
  refine wpAny_bind (wpAny_standAt (wpAny_bind (wpAny_mono (turn n s hI) (fun r s₁ h₁ => ?_) fun _ _ h' => h')))
  cases r with
  | none => exact wpAny_pure h₁
  | some v =>
    refine wpAny_bind (wpAny_mono h₁ (fun _ s₁' h₁' => ?_) fun _ _ h' => h')
    refine wpAny_bind (wpAny_mono h₁' (fun _ s₂ h₂ => wpAny_bind (wpAny_mono h₂ (fun ok s₃ h₃ => ?_) fun _ _ h' => h')) fun _ _ h' => h')
    cases ok with
    | false => exact wpAny_pure ⟨rfl, h₃⟩
    | true =>
      exact wpAny_bind (wpAny_bind (wpAny_mono h₃ (fun kv s₄ h₄ => wpAny_bind (wpAny_holding (wpAny_mono h₄ (fun vv s₅ h₅ => wpAny_bind (wpAny_standAt (wpAny_holding (wpAny_mono h₅ (fun _ s₆ h₆ => wpAny_pure ⟨rfl, h₆⟩) fun _ _ h' => h')))) fun _ _ h' => h'))) fun _ _ h' => h'))
theorem dcompStart1_ok (h0 : codeAny (model prog w) A (.compLoop (.DictComp kx vx [⟨t0, i0, ifs0, 0⟩, ⟨t1, i1, ifs1, 0⟩] scope pos) 1 it (.ref acc) env) R s)
    (h : wpAny (model prog w) A (pyIter it) (fun it' s' => codeAny (model prog w) A (.compLoop (.DictComp kx vx [⟨t0, i0, ifs0, 0⟩, ⟨t1, i1, ifs1, 0⟩] scope pos) 1 it' (.ref acc) env) R s')
      (notedBy (model prog w) A env fun x s' => R (.error x) s') s) :
    codeAny (model prog w) A (.compStart (.DictComp kx vx [⟨t0, i0, ifs0, 0⟩, ⟨t1, i1, ifs1, 0⟩] scope pos) 1 it (.ref acc) env) R s := by
  refine codeAny_of_tree ?_
  show wpAny _ _ ((compStart (.DictComp kx vx [⟨t0, i0, ifs0, 0⟩, ⟨t1, i1, ifs1, 0⟩] scope pos) 1 it (.ref acc) env).onRaise (fun x => do noteFrame x env; standAt theWindowsPlace)) _ _ s
  refine wpAny_notedAt ?_
  unfold compStart
  show wpAny _ _ (ask >>= _) _ _ s
  refine wpAny_bind (wpAny_askSetting (wpAny_ite ?_))
  split
  · first
      | exact wpAny_bind (wpAny_pure (wpAny_pure (And.intro rfl h0)))
      | exact wpAny_pure (And.intro rfl h0)
  · first
      | exact wpAny_bind (wpAny_rule (wpAny_bind (wpAny_standAt (wpAny_bind (wpAny_mono h (fun it' s' h' => wpAny_pure (And.intro rfl h')) fun _ _ x => x)))))
      | (refine wpAny_bind (wpAny_rule ?_); show wpAny _ _ (standAt i1.pos >>= _) _ _ s; exact wpAny_bind (wpAny_standAt (wpAny_bind (wpAny_mono h (fun it' s' h' => wpAny_pure (And.intro rfl h')) fun _ _ x => x))))
end

section
variable {X : Cx}
def tDc2 (wi : TI) (g : TG) (tt : TT) (wi1 : TI) (g1 : TG) (tt1 : TT) (tk tv : TE) (vs vs1 : List Nat) : TE := fun σ H Q => wi σ H fun J H1 => ∀ D, H1 D = none → ∃ W : Nat → Nat → Hp → Prop, (∃ m, W 0 m (upd H1 D (.dK []))) ∧ ∀ i m H, W i m H →
  (J.stop i H ∧ Q (.ref D) H) ∨ (J.go i H ∧ ∃ Nx : Hp → Prop, (∀ H', Nx H' → ∃ m', m' < m ∧ W (i + 1) m' H') ∧ ∀ x H', J.yld i H x H' → g x (wipe σ vs) H' fun σ2 H2 => wipe σ2 vs = wipe σ vs ∧ tt σ2 H2 fun b H3 =>
    if b = true then wi1 σ2 H3 fun J1 H4 => ∃ W1 : Nat → Nat → Hp → Prop, (∃ m, W1 0 m H4) ∧ ∀ j k H, W1 j k H →
      (J1.stop j H ∧ Nx H) ∨ (J1.go j H ∧ ∃ Nx1 : Hp → Prop, (∀ H', Nx1 H' → ∃ k', k' < k ∧ W1 (j + 1) k' H') ∧ ∀ x H', J1.yld j H x H' → g1 x (wipe σ2 vs1) H' fun σ3 H5 => wipe σ3 vs1 = wipe σ2 vs1 ∧ tt1 σ3 H5 fun b H6 =>
        if b = true then tk σ3 H6 fun y H7 => tv σ3 H7 fun z H8 => ∃ kvs k, y = kV k ∧ H8 D = some (.dK kvs) ∧ kvs.length < sizeLine ∧ Nx1 (upd H8 D (.dK (putK kvs k z))) else Nx1 H6)
    else Nx H3)
theorem dc2_core {pins : List (Addr × Obj)} {s : Shared} {σ : L2.St} {H : Hp} {Q : VK} {kx vx tg iter tg1 iter1 : Expr} {ifs ifs1 : List Expr} {scope : Scope} {own : List (Str × Nat)} {vs1 : List Nat} {pos pos' : Pos} {wi wi1 : TI} {g g1 : TG} {tt tt1 : TT} {tk tv : TE} {use : Option (Value → Sem Unit)} {Qf : Value → Shared → Prop}
    (hc : X.calm = true) (hN : X.N.Nodup) (I : Inv X pins σ H s) (hi : PI X tg iter wi) (ok : BlkOk X.N X.env.scope scope own) (hv : ∀ i ∈ vs1, i ∈ own.map (·.2))
    (hg : ∀ (s : Shared) (H : Hp) (C : Addr) (cl : List (Str × Addr)) (fp : List Addr), PG (X.blk s H scope (compEnvC scope cl C X.env) fp) tg g) (ht : ∀ (s : Shared) (H : Hp) (C : Addr) (cl : List (Str × Addr)) (fp : List Addr), PTs (X.blk s H scope (compEnvC scope cl C X.env) fp) ifs tt)
    (hk : ∀ (s : Shared) (H : Hp) (C : Addr) (cl : List (Str × Addr)) (fp : List Addr), PE (X.blk s H scope (compEnvC scope cl C X.env) fp) kx tk) (he : ∀ (s : Shared) (H : Hp) (C : Addr) (cl : List (Str × Addr)) (fp : List Addr), PE (X.blk s H scope (compEnvC scope cl C X.env) fp) vx tv) (hs : ∀ x, foldedSetIterable iter X.env x = pure x)
    (hi1 : ∀ (s : Shared) (H : Hp) (C : Addr) (cl : List (Str × Addr)) (fp : List Addr), PI (X.blk s H scope (compEnvC scope cl C X.env) fp) tg1 iter1 wi1)
    (hg1 : ∀ (s : Shared) (H : Hp) (C : Addr) (cl : List (Str × Addr)) (fp : List Addr), PG (X.blk s H scope (compEnvC scope cl C X.env) fp) tg1 g1)
    (ht1 : ∀ (s : Shared) (H : Hp) (C : Addr) (cl : List (Str × Addr)) (fp : List Addr), PTs (X.blk s H scope (compEnvC scope cl C X.env) fp) ifs1 tt1)
    (hs1 : ∀ env x, foldedSetIterable iter1 env x = pure x)
    (h : tDc2 wi g tt wi1 g1 tt1 tk tv (own.map (·.2)) vs1 σ H Q)
    (hback : ∀ D C s' m H', Inv X pins σ H' s' → Q (.ref D) H' → s'.heap.Ns C m → FpOk X pins H' C → compPost (model X.prog X.w) X.A X.xe use Qf (.ref D) C (.ok .next) s') :
    wpAny (model X.prog X.w) X.A (comprehension (.DictComp kx vx [⟨tg, iter, ifs, 0⟩, ⟨tg1, iter1, ifs1, 0⟩] scope pos) scope X.env pos' newDict false (eval iter X.env) use) Qf X.xe s := by
  have hcells : ∀ y ∈ scope.names, y.2 = .free → ∃ c, X.env.cells.lookup y.1 = some c := fun y hy e => by
    rcases ok.free y hy e with k | k
    · exact I.ok.has _ (.inl k)
    · exact I.ok.has _ (.inr k)
  refine wpAny_comprehension_free (use := use) rfl hs (closure_ok hcells) ok.kind (fun y hy e => by rw [ok.uniq y hy, e])
    (thn (hi.run pins s σ H _ I h) fun srcv s1 hx => thn hx fun itval s2 h2 => ?_)
  obtain ⟨it, fp, tn, J, H2, e, I2, T, st2, f2, q⟩ := h2
  subst e
  refine wpAny_newObj_type (newEnv_comp ?_)
  generalize hD : s2.heap.objs.size = D
  have hDn : H2 D = none := I2.hok.fresh (Nat.le_of_eq hD)
  obtain ⟨W, ⟨m0, w0⟩, turn⟩ := q D hDn
  -- the new list
  generalize hs3 : ({ s2 with heap := s2.heap.push { cls := .type "dict", data := .dict #[] } } : Shared) = s3
  have I3 : Inv X pins σ (upd H2 D (.dK [])) s3 := by
    rw [← hs3]
    refine I2.laid (t' := s2.toks) (fun b o e => Heap.get?_push_of_some _ e) (Nat.le_of_eq hD) ?_
    rw [← hD]
    exact dk_empty s2.heap I2.big
  have h3 : s3.heap = s2.heap.push { cls := .type "dict", data := .dict #[] } := by rw [← hs3]
  have sz : ∀ b ∈ fp, b < s2.heap.objs.size := fun b hb => by
    obtain ⟨o, e, _⟩ := T.obj _ _ st2 b hb
    exact Heap.lt_size e
  have f3 : ∀ b ∈ fp, FpOk X pins (upd H2 D (.dK [])) b ∧ b < s3.heap.objs.size := fun b hb => by
    have hlt := sz b hb
    refine ⟨⟨?_, (f2 b hb).2⟩, by rw [h3, Heap.size_push]; exact Nat.lt_succ_of_lt hlt⟩
    rw [upd_ne (by rw [← hD]; exact Nat.ne_of_lt hlt)]
    exact (f2 b hb).1
  have st3 : tn 0 s3.heap := T.keep _ _ _ st2 fun b _ o e => by rw [h3]; exact Heap.get?_push_of_some _ e
  have I4 := block_start I3 ok hN f3
  have pg := hg s3 (upd H2 D (.dK [])) s3.heap.objs.size (cellsFrom (s3.heap.objs.size + 1) scope.names (cloFrom X.env.cells scope.names [])) fp
  have pt := ht s3 (upd H2 D (.dK [])) s3.heap.objs.size (cellsFrom (s3.heap.objs.size + 1) scope.names (cloFrom X.env.cells scope.names [])) fp
  have pk := hk s3 (upd H2 D (.dK [])) s3.heap.objs.size (cellsFrom (s3.heap.objs.size + 1) scope.names (cloFrom X.env.cells scope.names [])) fp
  have pe := he s3 (upd H2 D (.dK [])) s3.heap.objs.size (cellsFrom (s3.heap.objs.size + 1) scope.names (cloFrom X.env.cells scope.names [])) fp
  have pi1 := hi1 s3 (upd H2 D (.dK [])) s3.heap.objs.size (cellsFrom (s3.heap.objs.size + 1) scope.names (cloFrom X.env.cells scope.names [])) fp
  have pg1 := hg1 s3 (upd H2 D (.dK [])) s3.heap.objs.size (cellsFrom (s3.heap.objs.size + 1) scope.names (cloFrom X.env.cells scope.names [])) fp
  have pt1 := ht1 s3 (upd H2 D (.dK [])) s3.heap.objs.size (cellsFrom (s3.heap.objs.size + 1) scope.names (cloFrom X.env.cells scope.names [])) fp
  show codeAny _ _ (.compStart (.DictComp kx vx [⟨tg, iter, ifs, 0⟩, ⟨tg1, iter1, ifs1, 0⟩] scope pos) 0 (.ref it) (.ref D) (compEnvC scope (cellsFrom (s3.heap.objs.size + 1) scope.names (cloFrom X.env.cells scope.names [])) s3.heap.objs.size X.env)) (compPost (model X.prog X.w) X.A X.xe use Qf (.ref D) s3.heap.objs.size) { s3 with heap := pushCells (s3.heap.push { cls := .type "dict", data := .dict #[] }) scope.names }
  have offp : ∀ b ∈ fp, (upd H2 D (.dK [])) b = none := fun b hb => (f3 b hb).1.1
  generalize hce : compEnvC scope (cellsFrom (s3.heap.objs.size + 1) scope.names (cloFrom X.env.cells scope.names [])) s3.heap.objs.size X.env = ce at I4 pg pt pk pe pi1 pg1 pt1 ⊢
  have cL : ce.locals = s3.heap.objs.size := by subst hce; rfl
  generalize hH3 : upd H2 D (.dK []) = H3 at I3 I4 pg pt pk pe pi1 pg1 pt1 w0 offp f3
  generalize hs4 : ({ s3 with heap := pushCells (s3.heap.push { cls := .type "dict", data := .dict #[] }) scope.names } : Shared) = s4 at I4 ⊢
  have st4 : tn 0 s4.heap := T.keep _ _ _ st3 fun b _ o e => by rw [← hs4]; exact pushCells_keeps _ _ _ _ (Heap.get?_push_of_some _ e)
  have quiet : ∀ {σ' : L2.St} {H' : Hp} {s' : Shared}, Inv (X.blk s3 H3 scope ce fp) [] σ' H' s' → (∀ b ∈ fp, H' b = none) → ∀ b ∈ fp, FpOk (X.blk s3 H3 scope ce fp) [] H' b := fun {σ' H' s'} I' hn b hb =>
    ⟨hn b hb, (I'.ok.exf b hb).1, I'.ok.exfs b hb, .inl hb, fun x c e => (I'.ok.exf b hb).2 x c e, fun p hp => absurd (show p ∈ ([] : List (Addr × Obj)) ++ [] from hp) (by simp)⟩
  have loop : codeAny (model X.prog X.w) X.A (.compLoop (.DictComp kx vx [⟨tg, iter, ifs, 0⟩, ⟨tg1, iter1, ifs1, 0⟩] scope pos) 0 (.ref it) (.ref D) ce) (compPost (model X.prog X.w) X.A X.xe use Qf (.ref D) s3.heap.objs.size) s4 := by
    refine dcompLoop2_out (hs1 ce) (fun n s' => ∃ i H', Inv (X.blk s3 H3 scope ce fp) [] (wipe σ (own.map (·.2))) H' s' ∧ tn i s'.heap ∧ (∀ b ∈ fp, H' b = none) ∧ W i n H') ?_ m0 ⟨0, H3, I4, st4, offp, w0⟩
    rintro n s5 ⟨i, H5, I5, st5, n5, w5⟩
    rcases turn i n H5 w5 with ⟨stop, qq⟩ | ⟨go, Nx, hNx, step⟩
    · have td := T.done (X.blk s3 H3 scope ce fp) rfl rfl rfl hc i [] s5 _ H5 (fun _ _ => False) I5 (quiet I5 n5) st5 stop
      refine thnF td fun r s6 ⟨hr, I6⟩ => ?_
      subst hr
      -- back in the def's context
      have I7 : Inv X pins σ H5 s6 := I3.call' (ch := fp) I6.os I6.base I6.hok I6.bare fun b hb => ⟨(f3 b hb).1.2.2.2.1, (f3 b hb).1.2.1, (f3 b hb).1.2.2.2.2.1, (f3 b hb).1.2.2.2.2.2⟩
      have nC : H5 s3.heap.objs.size = none := by
        have z : H5 ce.locals = none := I6.free
        rw [cL] at z
        exact z
      obtain ⟨m, hn, _⟩ := I6.loc
      have hn : s6.heap.Ns ce.locals m := hn
      rw [cL] at hn
      exact hback D s3.heap.objs.size s6 m H5 I7 qq hn (I3.fpOk (Nat.le_refl _) nC)
    · have ti := T.item (X.blk s3 H3 scope ce fp) rfl rfl rfl hc i [] s5 _ H5 (fun _ _ => False) I5 (quiet I5 n5) st5 go
      refine thnF ti fun r s6 ⟨u, hr, h6⟩ => ?_
      subst hr
      refine thnF h6 fun _ s7 ⟨x, H7, I7, r7, y7, st7, n7⟩ => ?_
      have I7' := I7.pinned (quiet I7 n7) (T.obj _ _ st7)
      refine thnF (pg.run _ s7 _ H7 x u _ I7' r7 (step x H7 y7)) fun _ s8 ⟨σ8, H8, I8, hw8, q8⟩ => ?_
      refine thnF (pt.run _ s8 σ8 H8 _ I8 q8) fun b s9 ⟨H9, I9, q9⟩ => ?_
      -- the turn's end, from any slots that know what the block knew at its start
      have shut : ∀ {σ9 : L2.St} {s' : Shared} {H' : Hp}, Inv (X.blk s3 H3 scope ce fp) ([] ++ pinsAt fp s7.heap) σ9 H' s' → (wipe σ (own.map (·.2))).length = σ9.length → (∀ (j : Nat) v, (wipe σ (own.map (·.2)))[j]? = some (some v) → σ9[j]? = some (some v)) → Nx H' →
          ∃ m, m < n ∧ ∃ i H', Inv (X.blk s3 H3 scope ce fp) [] (wipe σ (own.map (·.2))) H' s' ∧ tn i s'.heap ∧ (∀ b ∈ fp, H' b = none) ∧ W i m H' := fun {σ9 s' H'} I' hl hk nx => by
        obtain ⟨m', hm, w'⟩ := hNx H' nx
        have kept : ∀ b ∈ fp, ∀ o, s7.heap.get? b = some o → s'.heap.get? b = some o ∧ H' b = none := fun b hb o e =>
          let z := I'.pin (b, o) (List.mem_append_right _ (List.mem_append_right _ (mem_pinsAt hb e)))
          ⟨z.1, z.2.1⟩
        refine ⟨m', hm, i + 1, H', (I'.unpinned (pins := [])).weak hl hk, T.keep _ _ _ st7 fun b hb o e => (kept b hb o e).1, fun b hb => ?_, w'⟩
        obtain ⟨o, e, _⟩ := T.obj _ _ st7 b hb
        exact (kept b hb o e).2
      have len8 : (wipe σ (own.map (·.2))).length = σ8.length := by rw [← hw8, wipe_length]
      have know8 : ∀ (j : Nat) v, (wipe σ (own.map (·.2)))[j]? = some (some v) → σ8[j]? = some (some v) := fun j v e => by
        rw [← hw8] at e
        exact (wipe_some e).1
      have know9 : ∀ (j : Nat) v, (wipe σ (own.map (·.2)))[j]? = some (some v) → (wipe σ8 vs1)[j]? = some (some v) := fun j v e => by
        rw [← hw8] at e
        obtain ⟨e1, e2⟩ := wipe_some e
        rw [wipe_out fun z => e2 (hv j z)]
        exact e1
      cases b with
      | false =>
        simp only [Bool.false_eq_true, if_false] at q9 ⊢
        exact shut I9 len8 know8 q9
      | true =>
        simp only [if_true] at q9 ⊢
        refine thnF (pi1.run _ s9 σ8 H9 _ I9 q9) fun srcv s10 hx => thnF hx fun itval s11 h11 => ?_
        obtain ⟨it1, fp1, tn1, J1, H11, e1, I11, T1, st11, f11, W1, ⟨m1, w1⟩, turn1⟩ := h11
        subst e1
        -- the inner loop
        have quiet1 : ∀ {H' : Hp}, (∀ b ∈ fp1, H' b = none) → ∀ b ∈ fp1, FpOk (X.blk s3 H3 scope ce fp) ([] ++ pinsAt fp s7.heap) H' b := fun hn b hb => ⟨hn b hb, (f11 b hb).2⟩
        have inner : codeAny (model X.prog X.w) X.A (.compLoop (.DictComp kx vx [⟨tg, iter, ifs, 0⟩, ⟨tg1, iter1, ifs1, 0⟩] scope pos) 1 (.ref it1) (.ref D) ce)
            (fun r s' => match r with
              | .ok _ => ∃ m, m < n ∧ ∃ i H', Inv (X.blk s3 H3 scope ce fp) [] (wipe σ (own.map (·.2))) H' s' ∧ tn i s'.heap ∧ (∀ b ∈ fp, H' b = none) ∧ W i m H'
              | .error _ => False) s11 := by
          refine dcompLoop2_in (fun k s' => ∃ j H', Inv (X.blk s3 H3 scope ce fp) ([] ++ pinsAt fp s7.heap) (wipe σ8 vs1) H' s' ∧ tn1 j s'.heap ∧ (∀ b ∈ fp1, H' b = none) ∧ W1 j k H') ?_ m1 ⟨0, H11, I11.weak (wipe_length _ _) (fun j v e => (wipe_some e).1), st11, fun b hb => (f11 b hb).1, w1⟩
          rintro k s12 ⟨j, H12, I12, st12, n12, w12⟩
          rcases turn1 j k H12 w12 with ⟨stop1, nx1⟩ | ⟨go1, Nx1, hNx1, step1⟩
          · refine thnF (T1.done (X.blk s3 H3 scope ce fp) rfl rfl rfl hc j _ s12 (wipe σ8 vs1) H12 (fun _ _ => False) I12 (quiet1 n12) st12 stop1) fun r s13 ⟨hr, I13⟩ => ?_
            subst hr
            exact shut I13 (len8.trans (wipe_length σ8 vs1).symm) know9 nx1
          · refine thnF (T1.item (X.blk s3 H3 scope ce fp) rfl rfl rfl hc j _ s12 (wipe σ8 vs1) H12 (fun _ _ => False) I12 (quiet1 n12) st12 go1) fun r s13 ⟨u1, hr, h13⟩ => ?_
            subst hr
            refine thnF h13 fun _ s14 ⟨x1, H14, I14, r14, y14, st14, n14⟩ => ?_
            have I14' := I14.pinned (quiet1 n14) (T1.obj _ _ st14)
            refine thnF (pg1.run _ s14 (wipe σ8 vs1) H14 x1 u1 _ I14' r14 (step1 x1 H14 y14)) fun _ s15 ⟨σ15, H15, I15, hw15, q15⟩ => ?_
            refine thnF (pt1.run _ s15 σ15 H15 _ I15 q15) fun b1 s16 ⟨H16, I16, q16⟩ => ?_
            have shut1 : ∀ {s' : Shared} {H' : Hp}, Inv (X.blk s3 H3 scope ce fp) (([] ++ pinsAt fp s7.heap) ++ pinsAt fp1 s14.heap) σ15 H' s' → Nx1 H' → ∃ m, m < k ∧ ∃ j H', Inv (X.blk s3 H3 scope ce fp) ([] ++ pinsAt fp s7.heap) (wipe σ8 vs1) H' s' ∧ tn1 j s'.heap ∧ (∀ b ∈ fp1, H' b = none) ∧ W1 j m H' := fun {s' H'} I' nx => by
              obtain ⟨m', hm, w'⟩ := hNx1 H' nx
              have kept : ∀ b ∈ fp1, ∀ o, s14.heap.get? b = some o → s'.heap.get? b = some o ∧ H' b = none := fun b hb o e =>
                let z := I'.pin (b, o) (List.mem_append_right _ (List.mem_append_right _ (mem_pinsAt hb e)))
                ⟨z.1, z.2.1⟩
              refine ⟨m', hm, j + 1, H', I'.unpinned.weak (by rw [← hw15, wipe_length]) (fun j v e => by rw [← hw15] at e; exact (wipe_some e).1), T1.keep _ _ _ st14 fun b hb o e => (kept b hb o e).1, fun b hb => ?_, w'⟩
              obtain ⟨o, e, _⟩ := T1.obj _ _ st14 b hb
              exact (kept b hb o e).2
            cases b1 with
            | false =>
              simp only [Bool.false_eq_true, if_false] at q16 ⊢
              exact shut1 I16 q16
            | true =>
              simp only [if_true] at q16 ⊢
              refine thnF (pk.run _ s16 σ15 H16 _ I16 q16) fun z s17 ⟨yk, H17, I17, r17, q17⟩ => ?_
              refine thnF (pe.run _ s17 σ15 H17 _ I17 q17) fun z2 s18 ⟨yv, H18, I18, r18, kvs, k1, ek, hD18, hz18, nx⟩ => ?_
              subst ek
              exact d_dictSet (X := X.blk s3 H3 scope ce fp) I18 hD18 hz18 r17 r18 fun s19 I19 => shut1 I19 nx
        exact dcompStart1_ok inner (T1.self X.A 0 _ _ _ st11 inner)
  exact codeAny_compStart_dict loop (T.self X.A 0 _ _ _ st4 loop)
theorem pe_dc2 {kx vx tg iter tg1 iter1 : Expr} {ifs ifs1 : List Expr} {scope : Scope} {own : List (Str × Nat)} {vs1 : List Nat} {pos : Pos} {wi wi1 : TI} {g g1 : TG} {tt tt1 : TT} {tk tv : TE} (hc : X.calm = true) (hN : X.N.Nodup) (hi : PI X tg iter wi) (ok : BlkOk X.N X.env.scope scope own) (hv : ∀ i ∈ vs1, i ∈ own.map (·.2))
    (hg : ∀ (s : Shared) (H : Hp) (C : Addr) (cl : List (Str × Addr)) (fp : List Addr), PG (X.blk s H scope (compEnvC scope cl C X.env) fp) tg g) (ht : ∀ (s : Shared) (H : Hp) (C : Addr) (cl : List (Str × Addr)) (fp : List Addr), PTs (X.blk s H scope (compEnvC scope cl C X.env) fp) ifs tt)
    (hi1 : ∀ (s : Shared) (H : Hp) (C : Addr) (cl : List (Str × Addr)) (fp : List Addr), PI (X.blk s H scope (compEnvC scope cl C X.env) fp) tg1 iter1 wi1)
    (hg1 : ∀ (s : Shared) (H : Hp) (C : Addr) (cl : List (Str × Addr)) (fp : List Addr), PG (X.blk s H scope (compEnvC scope cl C X.env) fp) tg1 g1) (ht1 : ∀ (s : Shared) (H : Hp) (C : Addr) (cl : List (Str × Addr)) (fp : List Addr), PTs (X.blk s H scope (compEnvC scope cl C X.env) fp) ifs1 tt1)
    (hk : ∀ (s : Shared) (H : Hp) (C : Addr) (cl : List (Str × Addr)) (fp : List Addr), PE (X.blk s H scope (compEnvC scope cl C X.env) fp) kx tk) (he : ∀ (s : Shared) (H : Hp) (C : Addr) (cl : List (Str × Addr)) (fp : List Addr), PE (X.blk s H scope (compEnvC scope cl C X.env) fp) vx tv) (hs : ∀ x, foldedSetIterable iter X.env x = pure x := by intro _; rfl) (hs1 : ∀ env x, foldedSetIterable iter1 env x = pure x := by intro _ _; rfl) :
    PE X (.DictComp kx vx [⟨tg, iter, ifs, 0⟩, ⟨tg1, iter1, ifs1, 0⟩] scope pos) (tDc2 wi g tt wi1 g1 tt1 tk tv (own.map (·.2)) vs1) := by
  refine ⟨fun pins s σ H Q I h => ?_⟩
  rw [arm_eval_DictComp]
  refine dc2_core hc hN I hi ok hv hg ht hk he hs hi1 hg1 ht1 hs1 h fun D C s' m H' I' q hn f => ⟨m, hn, fun h'' sb => ?_⟩
  obtain ⟨f0, f1, f2, f3, f4, f5⟩ := f
  exact ⟨.ref D, H', I'.turned (t' := s'.toks) (fun b o hb e => (sb.2 b hb).trans e) f0 f1 f3 f4 f5, rfl, q⟩

end
section
variable {X : Cx} (K : PySem.W.Frag)
theorem pgTK {es : List Expr} {k : Nat} {pos : Pos} {t : TGs} (n : Nat) (h : PGs X es t) (hc : X.calm = true := by rfl) (hK : X.K = K := by rfl) (hn : (assignEach es X.env).length = n := by rfl) (hst : (assignEach es X.env).findIdx? (·.1) = none := by rfl) : PG X (.Tuple es k pos) (gTup K n t) := by
  subst hK
  exact pg_tup hc h hn hst
theorem piTK {tg l : Expr} {tl : TE} (hl : PE X l tl) (hK : X.K = K := by rfl) : PI X tg l (iTup K tl) := by
  subst hK
  exact pi_tup hl
theorem piLK {tg l : Expr} {tl : TE} (hl : PE X l tl) (hK : X.K = K := by rfl) : PI X tg l (iList K tl) := by
  subst hK
  exact pi_list hl
end
end Bx

/-! Lowering along literals again and again: values, or a ring. Plain mathematics. -/
namespace Bf
universe u
variable {T : Type u} [DecidableEq T]
abbrev Lit (T : Type u) := T × T × Int
/-- heights, what each was lowered by -/
structure Sta (T : Type u) where
  h : T → Int
  by_ : T → Option Nat
  low : Option T
def put {α : Type} (f : T → α) (t : T) (v : α) : T → α := fun x => if x = t then v else f x
theorem put_self {α : Type} (f : T → α) (t : T) (v : α) : put f t v t = v := if_pos rfl
theorem put_ne {α : Type} {f : T → α} {t x : T} {v : α} (h : x ≠ t) : put f t v x = f x := if_neg h
/-- one literal looked at -/
def one (s : Sta T) (at_ : Nat) (q : Lit T) : Sta T :=
  if s.h q.2.1 + q.2.2 < s.h q.1 then ⟨put s.h q.1 (s.h q.2.1 + q.2.2), put s.by_ q.1 (some at_), some q.1⟩ else s
/-- the first k literals of a pass -/
def some_ (L : List (Lit T)) (s : Sta T) : Nat → Sta T
  | 0 => s
  | k + 1 => match L[k]? with
    | some q => one (some_ L s k) k q
    | none => some_ L s k
def pass (L : List (Lit T)) (s : Sta T) : Sta T := some_ L { s with low := none } L.length
def passes (L : List (Lit T)) : Nat → Sta T
  | 0 => ⟨fun _ => 0, fun _ => none, none⟩
  | k + 1 => pass L (passes L k)
def num (L : List (Lit T)) (i : Nat) : Int := match L[i]? with
  | some q => q.2.2
  | none => 0
def tot (L : List (Lit T)) : List Nat → Int
  | [] => 0
  | i :: is => num L i + tot L is
/-- a way back along what terms were lowered by -/
inductive Pth (L : List (Lit T)) (b : T → Option Nat) : T → List Nat → T → Prop
  | nil (t : T) : Pth L b t [] t
  | cons {t r : T} {n : Int} {i : Nat} {is : List Nat} {e : T} (hb : b t = some i) (hL : L[i]? = some (t, r, n)) (p : Pth L b r is e) : Pth L b t (i :: is) e
structure Good (L : List (Lit T)) (s : Sta T) : Prop where
  own : ∀ t i, s.by_ t = some i → ∃ r n, L[i]? = some (t, r, n) ∧ s.h r + n ≤ s.h t
  root : ∀ t, s.by_ t = none → s.h t = 0
  le0 : ∀ t, s.h t ≤ 0
  ring : ∀ t is, is ≠ [] → Pth L s.by_ t is t → tot L is < 0
theorem num_at {L : List (Lit T)} {i : Nat} {q : Lit T} (h : L[i]? = some q) : num L i = q.2.2 := by
  unfold num
  rw [h]
theorem pth_le {L : List (Lit T)} {b : T → Option Nat} {h : T → Int} (own : ∀ t i, b t = some i → ∃ r n, L[i]? = some (t, r, n) ∧ h r + n ≤ h t) {t : T} {is : List Nat} {e : T} (p : Pth L b t is e) : tot L is + h e ≤ h t := by
  induction p with
  | nil t => simp [tot]
  | @cons t r n i is e hb hL p ih =>
    obtain ⟨r', n', h1, h2⟩ := own t i hb
    have e1 : (t, r, n) = (t, r', n') := Option.some.inj (hL.symm.trans h1)
    have e2 : r = r' := congrArg (fun x => x.2.1) e1
    have e3 : n = n' := congrArg (fun x => x.2.2) e1
    subst e2 e3
    have e4 : num L i = n := num_at hL
    simp only [tot]
    rw [e4]
    omega
/-- a way by the new table: an old one, or strictly lower -/
theorem pth_new {L : List (Lit T)} {s : Sta T} (G : Good L s) {l r : T} {n : Int} {i0 : Nat} (h0 : L[i0]? = some (l, r, n)) (hlt : s.h r + n < s.h l) {t : T} {is : List Nat} {e : T} (p : Pth L (put s.by_ l (some i0)) t is e) :
    (Pth L s.by_ t is e ∧ tot L is + s.h e ≤ s.h t) ∨ tot L is + s.h e < s.h t := by
  induction p with
  | nil t => exact .inl ⟨.nil t, by simp [tot]⟩
  | @cons t r' n' i is e hb hL p ih =>
    have e4 : num L i = n' := num_at hL
    simp only [tot]
    rw [e4]
    by_cases q : t = l
    · subst q
      rw [put_self] at hb
      cases hb
      have e1 : (t, r', n') = (t, r, n) := Option.some.inj (hL.symm.trans h0)
      have e2 : r' = r := congrArg (fun x => x.2.1) e1
      have e3 : n' = n := congrArg (fun x => x.2.2) e1
      subst e2 e3
      right
      rcases ih with ⟨_, h⟩ | h <;> omega
    · rw [put_ne q] at hb
      obtain ⟨r2, n2, h1, h2⟩ := G.own t i hb
      have e1 : (t, r', n') = (t, r2, n2) := Option.some.inj (hL.symm.trans h1)
      have e2 : r' = r2 := congrArg (fun x => x.2.1) e1
      have e3 : n' = n2 := congrArg (fun x => x.2.2) e1
      subst e2 e3
      rcases ih with ⟨p', h⟩ | h
      · exact .inl ⟨.cons hb hL p', by omega⟩
      · right
        omega
theorem one_good {L : List (Lit T)} {s : Sta T} (G : Good L s) {i : Nat} {q : Lit T} (hq : L[i]? = some q) : Good L (one s i q) := by
  unfold one
  split
  · rename_i hlt
    obtain ⟨l, r, n⟩ := q
    simp only at hlt hq ⊢
    refine ⟨fun t j hb => ?_, fun t hb => ?_, fun t => ?_, fun t is hne p => ?_⟩
    · by_cases e : t = l
      · subst e
        simp only [put_self] at hb ⊢
        cases hb
        refine ⟨r, n, hq, ?_⟩
        by_cases e2 : r = t
        · subst e2
          rw [put_self]
          omega
        · rw [put_ne e2]
          exact Int.le_refl _
      · simp only [put_ne e] at hb ⊢
        obtain ⟨r2, n2, h1, h2⟩ := G.own t j hb
        refine ⟨r2, n2, h1, ?_⟩
        by_cases e2 : r2 = l
        · subst e2
          rw [put_self]
          omega
        · rw [put_ne e2]
          exact h2
    · by_cases e : t = l
      · subst e
        simp only [put_self] at hb
        cases hb
      · simp only [put_ne e] at hb ⊢
        exact G.root t hb
    · by_cases e : t = l
      · subst e
        simp only [put_self]
        have := G.le0 t
        omega
      · simp only [put_ne e]
        exact G.le0 t
    · rcases pth_new G hq hlt p with ⟨p', _⟩ | h
      · exact G.ring t is hne p'
      · omega
  · exact G
theorem some_succ {L : List (Lit T)} {s : Sta T} {k : Nat} {q : Lit T} (h : L[k]? = some q) : some_ L s (k + 1) = one (some_ L s k) k q := by
  rw [some_, h]
theorem some_good {L : List (Lit T)} {s : Sta T} (G : Good L s) : ∀ k, Good L (some_ L s k)
  | 0 => G
  | k + 1 => by
    have ih := some_good G k
    unfold some_
    cases h : L[k]? with
    | none => exact ih
    | some q => exact one_good ih h
theorem good_low {L : List (Lit T)} {s : Sta T} (G : Good L s) (o : Option T) : Good L { s with low := o } := ⟨G.own, G.root, G.le0, G.ring⟩
theorem passes_good (L : List (Lit T)) : ∀ k, Good L (passes L k)
  | 0 => ⟨fun t i h => (by cases h), fun _ _ => rfl, fun _ => Int.le_refl _, fun t is hne p => by
      cases p with
      | nil => exact absurd rfl hne
      | cons hb => cases hb⟩
  | k + 1 => some_good (good_low (passes_good L k) none) _
/-! ### a pass -/
theorem one_le (s : Sta T) (i : Nat) (q : Lit T) (t : T) : (one s i q).h t ≤ s.h t := by
  unfold one
  split
  · by_cases e : t = q.1
    · subst e
      simp only [put_self]
      omega
    · simp only [put_ne e]
      exact Int.le_refl _
  · exact Int.le_refl _
theorem one_done (s : Sta T) (i : Nat) (q : Lit T) : (one s i q).h q.1 ≤ s.h q.2.1 + q.2.2 := by
  unfold one
  split
  · simp only [put_self]
    exact Int.le_refl _
  · omega
theorem some_le {L : List (Lit T)} {s : Sta T} (t : T) : ∀ k, (some_ L s k).h t ≤ s.h t
  | 0 => Int.le_refl _
  | k + 1 => by
    have ih := some_le (L := L) (s := s) t k
    unfold some_
    cases h : L[k]? with
    | none => exact ih
    | some q => exact Int.le_trans (one_le _ _ _ _) ih
theorem some_done {L : List (Lit T)} {s : Sta T} {i : Nat} {q : Lit T} (hq : L[i]? = some q) : ∀ k, i < k → (some_ L s k).h q.1 ≤ s.h q.2.1 + q.2.2
  | 0, h => absurd h (Nat.not_lt_zero i)
  | k + 1, h => by
    unfold some_
    by_cases e : i = k
    · subst e
      rw [hq]
      show (one (some_ L s i) i q).h q.1 ≤ _
      have h1 := one_done (some_ L s i) i q
      have h2 := some_le (L := L) (s := s) q.2.1 i
      omega
    · have ih := some_done (s := s) hq k (by omega)
      cases h' : L[k]? with
      | none => exact ih
      | some q' => exact Int.le_trans (one_le _ _ _ _) ih
/-- nothing lowered: all is as it was and all looked at hold -/
theorem some_none {L : List (Lit T)} {s : Sta T} (h0 : s.low = none) : ∀ k, (some_ L s k).low = none → (some_ L s k) = s ∧ ∀ i q, i < k → L[i]? = some q → s.h q.1 ≤ s.h q.2.1 + q.2.2
  | 0, _ => ⟨rfl, fun i q h => absurd h (Nat.not_lt_zero i)⟩
  | k + 1, h => by
    unfold some_ at h ⊢
    cases h' : L[k]? with
    | none =>
      rw [h'] at h
      obtain ⟨e, ih⟩ := some_none h0 k h
      refine ⟨e, fun i q hi hq => ?_⟩
      by_cases e2 : i = k
      · subst e2
        rw [h'] at hq
        cases hq
      · exact ih i q (by omega) hq
    | some q0 =>
      rw [h'] at h
      simp only at h ⊢
      have hn : (some_ L s k).low = none ∧ ¬ ((some_ L s k).h q0.2.1 + q0.2.2 < (some_ L s k).h q0.1) := by
        unfold one at h
        split at h
        · cases h
        · exact ⟨h, by assumption⟩
      obtain ⟨e, ih⟩ := some_none h0 k hn.1
      rw [e] at hn ⊢
      refine ⟨by unfold one; rw [if_neg hn.2], fun i q hi hq => ?_⟩
      by_cases e2 : i = k
      · subst e2
        rw [h'] at hq
        cases hq
        omega
      · exact ih i q (by omega) hq
/-- what was lowered last is lower, and told with what it was lowered by -/
theorem some_low {L : List (Lit T)} {s : Sta T} (h0 : s.low = none) {t : T} : ∀ k, (some_ L s k).low = some t → (some_ L s k).h t < s.h t ∧ (some_ L s k).by_ t ≠ none
  | 0, h => by
    rw [show some_ L s 0 = s from rfl, h0] at h
    cases h
  | k + 1, h => by
    unfold some_ at h ⊢
    cases h' : L[k]? with
    | none =>
      rw [h'] at h
      exact some_low h0 k h
    | some q0 =>
      rw [h'] at h
      simp only at h ⊢
      unfold one at h ⊢
      split at h
      · rename_i hlt
        rw [if_pos hlt]
        simp only at h
        cases h
        simp only [put_self]
        have := some_le (L := L) (s := s) q0.1 k
        exact ⟨by omega, by simp⟩
      · rename_i hlt
        rw [if_neg hlt]
        exact some_low h0 k h
theorem pass_le (L : List (Lit T)) (s : Sta T) (t : T) : (pass L s).h t ≤ s.h t := some_le (L := L) (s := { s with low := none }) t _
theorem pass_done {L : List (Lit T)} {s : Sta T} {i : Nat} {q : Lit T} (hq : L[i]? = some q) : (pass L s).h q.1 ≤ s.h q.2.1 + q.2.2 := some_done (s := { s with low := none }) hq _ (List.getElem?_eq_some_iff.mp hq).1
theorem passes_mono (L : List (Lit T)) (t : T) {j : Nat} : ∀ {k : Nat}, j ≤ k → (passes L k).h t ≤ (passes L j).h t
  | 0, h => by
    have e : j = 0 := by omega
    subst e
    exact Int.le_refl _
  | k + 1, h => by
    by_cases e : j = k + 1
    · subst e
      exact Int.le_refl _
    · exact Int.le_trans (pass_le _ _ _) (passes_mono L t (by omega))
/-- after as many passes as a way has steps, its end is no more above its begin than it says -/
theorem passes_way {L : List (Lit T)} {b : T → Option Nat} {t : T} {is : List Nat} {e : T} (p : Pth L b t is e) : (passes L is.length).h t ≤ tot L is := by
  induction p with
  | nil t => exact Int.le_refl _
  | @cons t r n i is e hb hL p ih =>
    have h1 := pass_done (s := passes L is.length) hL
    have e4 : num L i = n := num_at hL
    simp only [tot]
    rw [e4]
    show (pass L (passes L is.length)).h t ≤ _
    simp only at h1
    omega
/-! ### the ring -/
def nxt (L : List (Lit T)) (b : T → Option Nat) (t : T) : T := match b t with
  | some i => (match L[i]? with
    | some q => q.2.1
    | none => t)
  | none => t
def itr (L : List (Lit T)) (b : T → Option Nat) (t : T) : Nat → T
  | 0 => t
  | k + 1 => nxt L b (itr L b t k)
theorem itr_add (L : List (Lit T)) (b : T → Option Nat) (t : T) (i : Nat) : ∀ k, itr L b t (i + k) = itr L b (itr L b t i) k
  | 0 => rfl
  | k + 1 => congrArg (nxt L b) (itr_add L b t i k)
theorem nxt_at {L : List (Lit T)} {b : T → Option Nat} {t r : T} {n : Int} {i : Nat} (hb : b t = some i) (hL : L[i]? = some (t, r, n)) : nxt L b t = r := by
  unfold nxt
  rw [hb]
  show (match L[i]? with
    | some q => q.2.1
    | none => t) = r
  rw [hL]
theorem pth_itr {L : List (Lit T)} {s : Sta T} (G : Good L s) : ∀ (k : Nat) (t : T), (∀ j, j < k → s.by_ (itr L s.by_ t j) ≠ none) → ∃ is, is.length = k ∧ Pth L s.by_ t is (itr L s.by_ t k) ∧ ∀ j, j < k → is[j]? = s.by_ (itr L s.by_ t j)
  | 0, t, _ => ⟨[], rfl, .nil t, fun j h => absurd h (Nat.not_lt_zero j)⟩
  | k + 1, t, h => by
    obtain ⟨i, hi⟩ := Option.ne_none_iff_exists'.mp (h 0 (Nat.succ_pos k))
    obtain ⟨r, n, hL, _⟩ := G.own t i hi
    have en : nxt L s.by_ t = r := nxt_at hi hL
    have e : ∀ j, itr L s.by_ t (j + 1) = itr L s.by_ r j := fun j => by
      rw [Nat.add_comm, itr_add]
      show itr L s.by_ (nxt L s.by_ t) j = _
      rw [en]
    obtain ⟨is, hl, hp, ha⟩ := pth_itr G k r fun j hj => by
      rw [← e]
      exact h (j + 1) (Nat.succ_lt_succ hj)
    refine ⟨i :: is, by rw [List.length_cons, hl], ?_, fun j hj => ?_⟩
    · rw [e]
      exact .cons hi hL hp
    · cases j with
      | zero => exact hi.symm
      | succ j =>
        rw [e]
        exact ha j (by omega)
theorem nodup_map_range {f : Nat → T} {k : Nat} (h : ∀ i j, i < k → j < k → f i = f j → i = j) : ((List.range k).map f).Nodup := by
  rw [List.nodup_iff_pairwise_ne, List.pairwise_map]
  refine List.Pairwise.imp_of_mem ?_ List.nodup_range
  intro a b ha hb hne e
  exact hne (h a b (List.mem_range.mp ha) (List.mem_range.mp hb) e)
theorem len_le : ∀ {xs ys : List T}, xs.Nodup → (∀ k ∈ xs, k ∈ ys) → xs.length ≤ ys.length
  | [], _, _, _ => Nat.zero_le _
  | a :: o, ys, nd, h => by
    have ha : a ∈ ys := h a List.mem_cons_self
    have hn := List.nodup_cons.mp nd
    have e : o.length ≤ (ys.erase a).length := len_le hn.2 fun k hk => (List.mem_erase_of_ne (fun q => hn.1 (by rw [← q]; exact hk))).mpr (h k (List.mem_cons_of_mem _ hk))
    have e2 : (ys.erase a).length = ys.length - 1 := List.length_erase_of_mem ha
    have hp : 0 < ys.length := List.length_pos_of_mem ha
    rw [List.length_cons]
    omega
/-- where a pass more than there are terms still lowers, the way back from what was lowered has no end -/
theorem no_root {L : List (Lit T)} {ks : List T} (hks : ∀ q ∈ L, q.1 ∈ ks ∧ q.2.1 ∈ ks) {t : T} (hl : (passes L (ks.length + 1)).low = some t) : ∀ k, (passes L (ks.length + 1)).by_ (itr L (passes L (ks.length + 1)).by_ t k) ≠ none := by
  have G := passes_good L (ks.length + 1)
  generalize hs : passes L (ks.length + 1) = s at *
  have low : s.h t < (passes L ks.length).h t := by
    rw [← hs] at hl ⊢
    exact (some_low (s := { passes L ks.length with low := none }) rfl _ hl).1
  intro k
  induction k using Nat.strongRecOn with
  | _ k ih =>
    intro hn
    obtain ⟨is, hlen, hp, _⟩ := pth_itr G k t fun j hj => ih j hj
    -- the terms on the way are different
    have nd : ((List.range (k + 1)).map (itr L s.by_ t)).Nodup := by
      have key : ∀ i j, i < j → j < k + 1 → itr L s.by_ t i ≠ itr L s.by_ t j := fun i j hij hj e => by
        have e2 : itr L s.by_ t (i + (k - j)) = itr L s.by_ t k := by
          rw [itr_add, e, ← itr_add]
          congr 1
          omega
        exact ih (i + (k - j)) (by omega) (by rw [e2]; exact hn)
      refine nodup_map_range fun i j hi hj e => ?_
      rcases Nat.lt_trichotomy i j with h | h | h
      · exact absurd e (key i j h hj)
      · exact h
      · exact absurd e.symm (key j i h hi)
    have mem : ∀ x ∈ (List.range (k + 1)).map (itr L s.by_ t), x ∈ ks := fun x hx => by
      obtain ⟨j, hj, rfl⟩ := List.mem_map.mp hx
      have hj2 := List.mem_range.mp hj
      have src : ∀ j, j < k → itr L s.by_ t j ∈ ks ∧ itr L s.by_ t (j + 1) ∈ ks := fun j hj => by
        obtain ⟨i, hi⟩ := Option.ne_none_iff_exists'.mp (ih j hj)
        obtain ⟨r, n, hL, _⟩ := G.own _ i hi
        have hm := hks _ (List.mem_of_getElem? hL)
        refine ⟨hm.1, ?_⟩
        show nxt L s.by_ (itr L s.by_ t j) ∈ ks
        rw [nxt_at hi hL]
        exact hm.2
      cases k with
      | zero =>
        -- t itself has no root: it was lowered
        have hb : s.by_ t ≠ none := by
          rw [← hs] at hl ⊢
          exact (some_low (s := { passes L ks.length with low := none }) rfl _ hl).2
        exact absurd hn hb
      | succ k =>
        by_cases e : j = k + 1
        · subst e
          exact (src k (Nat.lt_succ_self k)).2
        · exact (src j (by omega)).1
    have hk : k + 1 ≤ ks.length := by
      have := len_le nd mem
      simpa using this
    have h1 := pth_le G.own hp
    have h2 := passes_way hp
    have h3 := passes_mono L t (show is.length ≤ ks.length by omega)
    have h4 := G.root _ hn
    omega
structure IsRing (L : List (Lit T)) (is : List Nat) (f : Nat → T) : Prop where
  ne : is ≠ []
  at_ : ∀ j, j < is.length → ∃ i n, is[j]? = some i ∧ L[i]? = some (f j, f (j + 1), n)
  back : f is.length = f 0
  inj : ∀ i j, i < is.length → j < is.length → f i = f j → i = j
  neg : tot L is < 0
theorem IsRing.nodup {L : List (Lit T)} {is : List Nat} {f : Nat → T} (R : IsRing L is f) : is.Nodup := by
  rw [List.nodup_iff_pairwise_ne, List.pairwise_iff_getElem]
  intro i j hi hj hij e
  obtain ⟨a, n, h1, h2⟩ := R.at_ i hi
  obtain ⟨b, m, h3, h4⟩ := R.at_ j hj
  rw [List.getElem?_eq_getElem hi] at h1
  rw [List.getElem?_eq_getElem hj] at h3
  have e1 : a = b := by
    have e1 := Option.some.inj h1
    have e2 := Option.some.inj h3
    rw [← e1, ← e2, e]
  subst e1
  have e2 := Option.some.inj (h2.symm.trans h4)
  have e3 : f i = f j := congrArg (fun x => x.1) e2
  have := R.inj i j hi hj e3
  omega
/-- after as many steps back as terms were lowered one stands on a ring -/
theorem on_ring {L : List (Lit T)} {s : Sta T} {bs : List T} (hbs : ∀ x, s.by_ x ≠ none → x ∈ bs) {t : T} (hn : ∀ k, s.by_ (itr L s.by_ t k) ≠ none) : ∃ d, 0 < d ∧ d ≤ bs.length ∧ itr L s.by_ t (bs.length + d) = itr L s.by_ t bs.length := by
  have h : ¬ ((List.range (bs.length + 1)).map (itr L s.by_ t)).Nodup := fun nd => by
    have := len_le nd (ys := bs) fun x hx => by
      obtain ⟨j, _, rfl⟩ := List.mem_map.mp hx
      exact hbs _ (hn j)
    simp at this
    omega
  have h2 : ∃ i j, i < j ∧ j < bs.length + 1 ∧ itr L s.by_ t i = itr L s.by_ t j := by
    refine Classical.byContradiction fun hc => h (nodup_map_range fun i j hi hj e => ?_)
    rcases Nat.lt_trichotomy i j with q | q | q
    · exact absurd ⟨i, j, q, hj, e⟩ hc
    · exact q
    · exact absurd ⟨j, i, q, hi, e.symm⟩ hc
  obtain ⟨i, j, hij, hj, e⟩ := h2
  refine ⟨j - i, by omega, by omega, ?_⟩
  have e1 : bs.length + (j - i) = j + (bs.length - i) := by omega
  have e2 : bs.length = i + (bs.length - i) := by omega
  rw [e1, itr_add, ← e, ← itr_add, ← e2]
theorem least {p : Nat → Prop} : ∀ n, p n → ∃ k, k ≤ n ∧ p k ∧ ∀ j, j < k → ¬ p j := by
  intro n
  induction n using Nat.strongRecOn with
  | _ n ih =>
    intro h
    by_cases q : ∃ j, j < n ∧ p j
    · obtain ⟨j, hj, hp⟩ := q
      obtain ⟨k, h1, h2, h3⟩ := ih j hj hp
      exact ⟨k, by omega, h2, h3⟩
    · exact ⟨n, Nat.le_refl n, h, fun j hj hp => q ⟨j, hj, hp⟩⟩
/-- the ring from where one stands: its least round -/
theorem ring_of {L : List (Lit T)} {s : Sta T} (G : Good L s) {x : T} (hn : ∀ k, s.by_ (itr L s.by_ x k) ≠ none) {c : Nat} (h0 : itr L s.by_ x (c + 1) = x) (hl : ∀ j, 0 < j → j ≤ c → itr L s.by_ x j ≠ x) {is : List Nat} (hlen : is.length = c + 1) (his : ∀ j, j ≤ c → is[j]? = s.by_ (itr L s.by_ x j)) :
    IsRing L is (itr L s.by_ x) where
  ne := fun e => by rw [e] at hlen; cases hlen
  at_ := fun j hj => by
    obtain ⟨i, hi⟩ := Option.ne_none_iff_exists'.mp (hn j)
    obtain ⟨r, n, hL, _⟩ := G.own _ i hi
    refine ⟨i, n, by rw [his j (by omega), hi], ?_⟩
    show L[i]? = some (itr L s.by_ x j, nxt L s.by_ (itr L s.by_ x j), n)
    rw [nxt_at hi hL]
    exact hL
  back := by rw [hlen]; exact h0
  inj := by
    have key : ∀ i j, i < j → j < c + 1 → itr L s.by_ x i ≠ itr L s.by_ x j := fun i j hij hj e => by
      have e2 : itr L s.by_ x (i + (c + 1 - j)) = x := by
        rw [itr_add, e, ← itr_add, show j + (c + 1 - j) = c + 1 by omega]
        exact h0
      exact hl (i + (c + 1 - j)) (by omega) (by omega) e2
    intro i j hi hj e
    rw [hlen] at hi hj
    rcases Nat.lt_trichotomy i j with q | q | q
    · exact absurd e (key i j q hj)
    · exact q
    · exact absurd e.symm (key j i q hi)
  neg := by
    obtain ⟨js, hl2, hp, ha⟩ := pth_itr G (c + 1) x fun j _ => hn j
    have e : js = is := by
      refine List.ext_getElem? fun j => ?_
      by_cases hj : j < c + 1
      · rw [ha j hj, his j (by omega)]
      · rw [List.getElem?_eq_none (by omega), List.getElem?_eq_none (by omega)]
    subst e
    rw [h0] at hp
    exact G.ring x js (fun e => by rw [e] at hl2; cases hl2) hp
end Bf

namespace Bx
open PySem PySem.Spec PyProof.Rows L2
/-! ### dicts over texts, as functions -/
def hk (ks : List Str) (h : Str → Int) : List (Key × V) := ks.map fun t => (Sum.inr t, V.int (h t))
def bk (bs : List Str) (b : Str → Option Nat) : List (Key × V) := bs.map fun t => (Sum.inr t, V.int (((b t).getD 0 : Nat) : Int))
def fk (ks : List Str) (v : Str → V) : List (Key × V) := ks.map fun t => (Sum.inr t, v t)
theorem fk_get {v : Str → V} {t : Str} : ∀ {ks : List Str}, t ∈ ks → valV (fk ks v) (Sum.inr t) = some (v t)
  | k :: ks, h => by
    by_cases e : k = t
    · subst e
      exact valV_pos rfl
    · show valV ((Sum.inr k, v k) :: fk ks v) _ = _
      rw [valV_neg (fun q => e (Sum.inr.inj q))]
      rcases List.mem_cons.mp h with q | q
      · exact absurd q.symm e
      · exact fk_get q
theorem fk_no {v : Str → V} {t : Str} : ∀ {ks : List Str}, t ∉ ks → valV (fk ks v) (Sum.inr t) = none
  | [], _ => rfl
  | k :: ks, h => by
    have e : ¬ k = t := fun q => h (q ▸ List.mem_cons_self)
    show valV ((Sum.inr k, v k) :: fk ks v) _ = _
    rw [valV_neg (fun q => e (Sum.inr.inj q))]
    exact fk_no fun q => h (List.mem_cons_of_mem _ q)
theorem fk_any {v : Str → V} {t : Str} {ks : List Str} : ((fk ks v).any fun kv => decide (kv.1 = Sum.inr t)) = decide (t ∈ ks) := by
  rw [Bool.eq_iff_iff, List.any_eq_true, decide_eq_true_eq]
  constructor
  · rintro ⟨p, hp, e⟩
    obtain ⟨k, hk, rfl⟩ := List.mem_map.mp hp
    have e := of_decide_eq_true e
    rw [← Sum.inr.inj e]
    exact hk
  · intro h
    exact ⟨(Sum.inr t, v t), List.mem_map_of_mem h, decide_eq_true rfl⟩
theorem fk_put {v : Str → V} {t : Str} {x : V} {ks : List Str} (h : t ∈ ks) : putK (fk ks v) (Sum.inr t) x = fk ks (fun k => if k = t then x else v k) := by
  unfold putK
  rw [fk_any, decide_eq_true h, if_pos rfl]
  unfold fk
  rw [List.map_map]
  refine List.map_congr_left fun k _ => ?_
  show (if (Sum.inr k : Key) = Sum.inr t then (Sum.inr k, x) else (Sum.inr k, v k)) = (Sum.inr k, if k = t then x else v k)
  by_cases e : k = t
  · rw [if_pos (congrArg Sum.inr e), if_pos e]
  · rw [if_neg (fun q => e (Sum.inr.inj q)), if_neg e]
theorem fk_new {v : Str → V} {t : Str} {x : V} {ks : List Str} (h : t ∉ ks) : putK (fk ks v) (Sum.inr t) x = fk (ks ++ [t]) (fun k => if k = t then x else v k) := by
  unfold putK
  rw [fk_any, decide_eq_false h, if_neg Bool.false_ne_true]
  unfold fk
  rw [List.map_append]
  congr 1
  · refine List.map_congr_left fun k hk => ?_
    have e : k ≠ t := fun q => h (q ▸ hk)
    simp only [if_neg e]
  · simp
theorem hk_get {h : Str → Int} {t : Str} {ks : List Str} (m : t ∈ ks) : valV (hk ks h) (Sum.inr t) = some (.int (h t)) := fk_get (v := fun t => V.int (h t)) m
theorem hk_put {h : Str → Int} {t : Str} {n : Int} {ks : List Str} (m : t ∈ ks) : putK (hk ks h) (Sum.inr t) (.int n) = hk ks (Bf.put h t n) := by
  refine (fk_put (v := fun t => V.int (h t)) m).trans ?_
  unfold fk hk
  refine List.map_congr_left fun k _ => ?_
  unfold Bf.put
  by_cases e : k = t <;> simp [e]
theorem bk_get {b : Str → Option Nat} {t : Str} {bs : List Str} {i : Nat} (m : t ∈ bs) (hb : b t = some i) : valV (bk bs b) (Sum.inr t) = some (.int (i : Nat)) := by
  refine (fk_get (v := fun t => V.int (((b t).getD 0 : Nat) : Int)) m).trans ?_
  rw [hb]
  rfl
/-- which terms have been lowered -/
def ByOk (bs : List Str) (b : Str → Option Nat) : Prop := bs.Nodup ∧ ∀ t, t ∈ bs ↔ b t ≠ none
theorem bk_put {b : Str → Option Nat} {t : Str} {i : Nat} {bs : List Str} (ok : ByOk bs b) : ∃ bs', putK (bk bs b) (Sum.inr t) (.int (i : Nat)) = bk bs' (Bf.put b t (some i)) ∧ ByOk bs' (Bf.put b t (some i)) ∧ bs'.length ≤ bs.length + 1 := by
  have ext : ∀ x, Bf.put b t (some i) x ≠ none ↔ (x = t ∨ b x ≠ none) := fun x => by
    unfold Bf.put
    by_cases e : x = t <;> simp [e]
  have eqv : ∀ (l : List Str), fk l (fun k => if k = t then V.int (i : Nat) else V.int (((b k).getD 0 : Nat) : Int)) = bk l (Bf.put b t (some i)) := fun l => by
    unfold fk bk
    refine List.map_congr_left fun k _ => ?_
    unfold Bf.put
    by_cases e : k = t <;> simp [e]
  by_cases m : t ∈ bs
  · refine ⟨bs, (fk_put (v := fun t => V.int (((b t).getD 0 : Nat) : Int)) m).trans (eqv bs), ⟨ok.1, fun x => ?_⟩, Nat.le_succ _⟩
    rw [ext, ok.2]
    constructor
    · exact .inr
    · rintro (e | h)
      · rw [e]
        exact (ok.2 t).mp m
      · exact h
  · refine ⟨bs ++ [t], (fk_new (v := fun t => V.int (((b t).getD 0 : Nat) : Int)) m).trans (eqv _), ⟨?_, fun x => ?_⟩, by simp⟩
    · refine List.nodup_append.mpr ⟨ok.1, by simp, fun x hx y hy e => ?_⟩
      have : y = t := by simpa using hy
      rw [← this, ← e] at m
      exact m hx
    · rw [ext, List.mem_append, ok.2]
      simp [or_comm]
/-! ### loops of comprehensions of two clauses, by a word of the turn and the heap -/
theorem itt_run {K : PySem.W.Frag} {a : Addr} {xs : List V} {F : V → Hp → (Hp → Prop) → Prop} {H4 : Hp} {Nx : Hp → Prop} (Pv : Nat → Hp → Prop) (h0 : Pv 0 H4) (hl : ∀ j H, j ≤ xs.length → Pv j H → SqT K H a xs)
    (hs : ∀ j x H, xs[j]? = some x → Pv j H → F x H (Pv (j + 1))) (hd : ∀ H, Pv xs.length H → Nx H) :
    ∃ W1 : Nat → Nat → Hp → Prop, (∃ m, W1 0 m H4) ∧ ∀ j k H, W1 j k H → ((Itt K a).stop j H ∧ Nx H) ∨ ((Itt K a).go j H ∧ ∃ Nx1 : Hp → Prop, (∀ H', Nx1 H' → ∃ k', k' < k ∧ W1 (j + 1) k' H') ∧ ∀ x H', (Itt K a).yld j H x H' → F x H' Nx1) := by
  refine ⟨fun j k H => k = xs.length - j ∧ j ≤ xs.length ∧ Pv j H, ⟨xs.length, rfl, Nat.zero_le _, h0⟩, ?_⟩
  rintro j k H ⟨rfl, hj, p⟩
  have q := hl j H hj p
  by_cases hlt : j < xs.length
  · refine .inr ⟨⟨xs, xs[j], q, List.getElem?_eq_getElem hlt⟩, Pv (j + 1), fun H' p' => ⟨xs.length - (j + 1), by omega, rfl, hlt, p'⟩, fun x H' y => ?_⟩
    obtain ⟨e, y⟩ := y
    subst e
    exact hs j x _ (y xs q) p
  · have e : j = xs.length := by omega
    subst e
    exact .inl ⟨⟨xs, q, Nat.le_refl _⟩, hd H p⟩
theorem itl_run {K : PySem.W.Frag} {a : Addr} {xs : List V} {F : V → Hp → (Hp → Prop) → Prop} {H4 : Hp} {Nx : Hp → Prop} (Pv : Nat → Hp → Prop) (h0 : Pv 0 H4) (hl : ∀ j H, j ≤ xs.length → Pv j H → SqL K H a xs)
    (hs : ∀ j x H, xs[j]? = some x → Pv j H → F x H (Pv (j + 1))) (hd : ∀ H, Pv xs.length H → Nx H) :
    ∃ W1 : Nat → Nat → Hp → Prop, (∃ m, W1 0 m H4) ∧ ∀ j k H, W1 j k H → ((Itl K a).stop j H ∧ Nx H) ∨ ((Itl K a).go j H ∧ ∃ Nx1 : Hp → Prop, (∀ H', Nx1 H' → ∃ k', k' < k ∧ W1 (j + 1) k' H') ∧ ∀ x H', (Itl K a).yld j H x H' → F x H' Nx1) := by
  refine ⟨fun j k H => k = xs.length - j ∧ j ≤ xs.length ∧ Pv j H, ⟨xs.length, rfl, Nat.zero_le _, h0⟩, ?_⟩
  rintro j k H ⟨rfl, hj, p⟩
  have q := hl j H hj p
  by_cases hlt : j < xs.length
  · refine .inr ⟨⟨xs, xs[j], q, List.getElem?_eq_getElem hlt⟩, Pv (j + 1), fun H' p' => ⟨xs.length - (j + 1), by omega, rfl, hlt, p'⟩, fun x H' y => ?_⟩
    obtain ⟨e, y⟩ := y
    subst e
    exact hs j x _ (y xs q) p
  · have e : j = xs.length := by omega
    subst e
    exact .inl ⟨⟨xs, q, Nat.le_refl _⟩, hd H p⟩
end Bx

/-! enumerate(tuple) -/
namespace En
open PySem PySem.Spec PyProof.Rows L2
open AutoSeq1 (wpAny_loadPart')
theorem new_tuple (l : Addr) (items : Array Value) (n : Nat) (dct : Option Addr) (sl : Array (Option Value)) :
    Meets (Builtin.«enumerate.__new__» ⟨[.type "enumerate", .ref l], []⟩) (fun _ R s => s.heap.get? l = some { cls := .type "tuple", dict := dct, data := .seq items n, slots := sl } ∧
      R (.ok (.ret (.ref (s.heap.push { cls := .type "tuple_iterator", data := .fields #[.ref l, .int 0 0] }).objs.size)))
        { s with heap := (s.heap.push { cls := .type "tuple_iterator", data := .fields #[.ref l, .int 0 0] }).push { cls := .type "enumerate", data := .fields #[.none, .bool false, .ref s.heap.objs.size, rawInt 0, .none, .none] } }) :=
  .of_wp fun prog w A R s h => by
    obtain ⟨hp, g, d, tk, os⟩ := s; obtain ⟨hl, h⟩ := h
    have hsub := sub_enumerate
    have hL : Heap.IsTuple (Shared.heap ⟨hp, g, d, tk, os⟩) l items := ⟨_, hl, rfl, n, rfl⟩
    wp_walk using wpAny_loadPart' hl
    refine wpAny_stack_any fun st => wpAny_pure ?_
    split
    · rename_i c _ _ _ _ _
      cases (c == Value.type "enumerate")
      · wp_walk using wpAny_loadPart' hl, wpAny_pyIter_tuple hL
        exact ⟨_, rfl, h⟩
      · wp_walk using wpAny_loadPart' hl, wpAny_pyIter_tuple hL
        exact ⟨_, rfl, h⟩
    · wp_walk using wpAny_loadPart' hl, wpAny_pyIter_tuple hL
      exact ⟨_, rfl, h⟩
section
variable {prog : Program} {w : World} {A : Around} {E : Value → Shared → Prop} {s : Shared}
theorem call_tuple {l : Addr} {items : Array Value} {Q : Value → Shared → Prop} (hL : s.heap.IsTuple l items)
    (h : ∀ h', IsEnum h' (s.heap.objs.size + 1) s.heap.objs.size 0 .none → h'.IsTupleIter s.heap.objs.size l 0 → h'.objs.size = s.heap.objs.size + 2 →
      (∀ b o, s.heap.get? b = some o → h'.get? b = some o) → Q (.ref (s.heap.objs.size + 1)) { s with heap := h' }) :
    wpAny (model prog w) A (call (.type "enumerate") [.ref l]) Q E s := by
  obtain ⟨⟨c, dct, dt, sl⟩, hl, hc, n, hd⟩ := hL
  replace hc : c = .type "tuple" := hc
  replace hd : dt = .seq items n := hd
  subst hc hd
  refine callType_new F.called_enumerate (by decide) (F.typeCall_enumerate_1 _) (F.newCall_enumerate_1 _) (fun obj => F.args_object_init_2 obj _) F.entry_enumerate_new
    (new_tuple l items n dct sl) ⟨hl, ?_⟩
  have hz : (s.heap.push { cls := .type "tuple_iterator", data := .fields #[.ref l, .int 0 0] }).objs.size = s.heap.objs.size + 1 := Heap.size_push ..
  show _ ∧ _
  rw [hz]
  have he : IsEnum ((s.heap.push { cls := .type "tuple_iterator", data := .fields #[.ref l, .int 0 0] }).push
      { cls := .type "enumerate", data := .fields #[.none, .bool false, .ref s.heap.objs.size, rawInt 0, .none, .none] }) (s.heap.objs.size + 1) s.heap.objs.size 0 .none := by
    have := Heap.get?_push_size (s.heap.push { cls := .type "tuple_iterator", data := .fields #[.ref l, .int 0 0] })
      (o := { cls := .type "enumerate", data := .fields #[.none, .bool false, .ref s.heap.objs.size, rawInt 0, .none, .none] }) rfl
    rw [hz] at this; exact this
  refine ⟨⟨_, he, rfl⟩, h _ he ⟨_, Heap.get?_push_of_some _ (Heap.get?_push_size _ rfl), rfl, rfl⟩ (by rw [Heap.size_push, hz]) fun b o x => Heap.get?_push_of_some _ (Heap.get?_push_of_some _ x)⟩
end
theorem draws {prog : Program} {w : World} {A : Around} (hh : A.handled = none) (it l : Addr) (hne : l ≠ it) (items : Array Value) :
    Draws prog w A it [it, l] items.size (fun i v => items[i]? = some v) (fun i h => h.IsTupleIter it l i ∧ h.IsTuple l items) where
  live := fun _ _ st => let ⟨o, ho, _⟩ := st.1; ⟨o, ho⟩
  frame := fun _ _ _ st hk => ⟨st.1.at fun o e => hk it (by simp) o e, st.2.at fun o e => hk l (by simp) o e⟩
  item := fun i s Q E hi st hQ => wpAny_nextOf_tuple_item st.1 st.2 (x := items[i]) (by simp [hi]) fun h' hit' hs' => hQ _ h' s.toks (by simp [hi]) ⟨hit', st.2.extBut hs'.extBut hne⟩ hs'
  done := fun s Q E st hE => wpAny_nextOf_tuple_end hh st.1 st.2 (by simp) hE
/-- the tuple at a, each item in a new pair -/
def Itu (K : PySem.W.Frag) (a : Addr) : It :=
  ⟨fun i H => ∃ (xs : List V) (x : V), SqT K H a xs ∧ xs[i]? = some x, fun i H v H' => ∃ T x, v = .ref T ∧ H T = none ∧ H' = upd H T (.tup [.int (i : Nat), x]) ∧ ∀ xs, SqT K H a xs → xs[i]? = some x, fun i H => ∃ xs : List V, SqT K H a xs ∧ xs.length ≤ i⟩
theorem turn {P : Program} {w : World} {K : PySem.W.Frag} {elts : List Expr} {kk : Nat} {tpos : Pos} (a e it : Addr) :
    Turn P w K (.Tuple elts kk tpos) (Itu K a) [e, it] e (fun i h => (∃ old, IsEnum h e it ((i : Nat) : Int) old) ∧ h.IsTupleIter it a i ∧ e ≠ it) where
  mem := by simp
  obj := fun i h st b hb => by
    obtain ⟨⟨old, he⟩, ⟨o, ho, hc, hd⟩, _⟩ := st
    have e' : b = e ∨ b = it := by simpa using hb
    rcases e' with z | z
    · rw [z]; exact ⟨_, he, fun v q => nomatch q⟩
    · rw [z]; exact ⟨o, ho, fun v q => by rw [hd] at q; cases q⟩
  keep := fun i h h' st k => let ⟨⟨old, he⟩, hi, hne⟩ := st; ⟨⟨old, k e (by simp) _ he⟩, hi.at fun o q => k it (by simp) o q, hne⟩
  item := by
    intro X hP hw hK hc i pins s σ H E I hf st hg
    subst hP hw hK
    obtain ⟨⟨old, he⟩, hit, hne⟩ := st
    obtain ⟨xs, x, hq, hx⟩ := hg
    obtain ⟨its, rv, p, hz⟩ := I.tuple hq
    obtain ⟨u, hu, ru⟩ := rv.get hx
    have hel : e < s.heap.objs.size := Heap.lt_size he
    have hil : it < s.heap.objs.size := by obtain ⟨_, q, _⟩ := hit; exact Heap.lt_size q
    have pt : s.heap.IsTuple a its.toArray := p
    have nai : a ≠ it := fun z => by
      obtain ⟨o1, q1, c1, _⟩ := pt
      obtain ⟨o2, q2, c2, _⟩ := hit
      rw [z, q2] at q1
      cases q1
      rw [c2] at c1
      injection c1 with c1
      exact absurd c1 (by decide)
    have nea : e ≠ a := fun z => by
      obtain ⟨o1, q1, c1, _⟩ := pt
      rw [← z, he] at q1
      cases q1
      injection c1 with c1
      exact absurd c1 (by decide)
    have hi2 : i < its.toArray.size := by
      have := (List.getElem?_eq_some_iff.mp hu).1
      simpa using this
    refine wpAny_pyNext_enum_itemD (draws (A := X.A.in1) (I.ok.hd hc) it a nai its.toArray) he ⟨hit, pt⟩ hi2 hne (by simp [hne, nea]) fun u' h' tk hu' ho hst' hT hsz hk => ?_
    have eu : u' = u := by
      have : its.toArray[i]? = some u := by simpa using hu
      rw [this] at hu'
      exact (Option.some.inj hu').symm
    subst eu
    refine ⟨_, rfl, wpAny_letOwnedTupleGo_enum (s := { s with heap := h', toks := tk + 1 }) ho fun h'' he' sb => ?_⟩
    have hT2 : h''.get? s.heap.objs.size = some { cls := .type "tuple", data := .seq #[.int i tk, u'] } := (sb.2 _ (Nat.ne_of_gt hel)).trans hT
    have new : ObjOk X.prog X.w (upd H s.heap.objs.size (.tup [.int (i : Nat), x])) h'' s.heap.objs.size (.tup [.int (i : Nat), x]) :=
      ⟨by show 2 ≤ sizeLine; decide, [.int i tk, u'], .cons ⟨_, rfl⟩ (.cons ru .nil), ⟨_, hT2, rfl, _, rfl⟩⟩
    have I1 : Inv X pins σ (upd H s.heap.objs.size (.tup [.int (i : Nat), x])) { s with heap := h'', toks := tk + 1 } :=
      I.turnedNew (ch := [e, it]) (fun b ob hb q => (sb.2 b (fun z => hb (by simp [z]))).trans (hk b ob (fun z => hb (by simp [z])) (fun z => hb (by simp [z])) q)) hf (Nat.le_refl _) new
    refine ⟨.ref s.heap.objs.size, _, I1, rfl, ⟨_, x, rfl, I.hok.fresh (Nat.le_refl _), rfl, fun ys hy => by rw [I.tuple_inj hy hq]; exact hx⟩, ⟨⟨u', ?_⟩, hst'.1.at fun o q => (sb.2 it (Ne.symm hne)).trans q, hne⟩, fun b hb => ?_⟩
    · have e1 : ((i + 1 : Nat) : Int) = (i : Int) + 1 := by omega
      rw [e1]; exact he'
    · have hb' : b < s.heap.objs.size := by
        have e' : b = e ∨ b = it := by simpa using hb
        rcases e' with z | z
        · rw [z]; exact hel
        · rw [z]; exact hil
      rw [upd_ne (Nat.ne_of_lt hb')]
      exact (hf b hb).1
  done := by
    intro X hP hw hK hc i pins s σ H E I hf st hg
    subst hP hw hK
    obtain ⟨⟨old, he⟩, hit, hne⟩ := st
    obtain ⟨xs, hq, hx⟩ := hg
    obtain ⟨its, rv, p, hz⟩ := I.tuple hq
    obtain ⟨f0, f1, f2, f3, f4, f5⟩ := hf it (by simp)
    have hl := rv.length
    have pt : s.heap.IsTuple a its.toArray := p
    have hT : s.TypeIs (.ref e) "enumerate" := ⟨_, he, rfl⟩
    unfold pyNext
    refine wpAny_bind (wpAny_attempt (wpAny_callSpecial?_slot (name := Str.ofString "__next__") hT F.slot_enumerate_next
      (wpAny_call_entry F.slot_enumerate_next hT F.entry_enumerate_next ?_ (F.args_enumerate_next_1 _))))
    show wpAny _ _ (field (.ref e) 2 >>= _) _ _ _
    refine wpAny_bind (wpAny_field he rfl (x := .ref it) rfl (wpAny_bind (wpAny_nextOf_tuple_end (I.ok.hd hc) hit pt (by simp; omega) fun h' x he' hx' => ?_)))
    obtain ⟨o, ho, hco⟩ := hx'
    refine wpAny_bind (wpAny_isInstance (T := "StopIteration") (b := true) ⟨o, ho, hco⟩ isSubtype_stop ?_)
    exact wpAny_pure ⟨rfl, I.turned (t' := s.toks) (fun b o hb q => he' b o hb q) f0 f1 f3 f4 f5⟩
  self := fun A i s Q E st h => let ⟨⟨_, he⟩, _⟩ := st; wpAny_pyIter_enum he h
def iEnumT (K : PySem.W.Frag) (ta : TA) : TI := fun σ H R => ta σ H fun vs H1 => ∃ a xs, vs = [.ref a] ∧ SqT K H1 a xs ∧ R (Itu K a) H1
theorem pi_enumT {X : Cx} {e : Expr} {ta : TA} {p pos tpos : Pos} {elts : List Expr} {kk : Nat} (hg : Gl X "enumerate") (hm : X.mg "enumerate" = none) (ha : PA X [e] ta) (hs : starEach [e] X.env = [(false, eval e X.env)] := by rfl) :
    PI X (.Tuple elts kk tpos) (.Call (.Name "enumerate" p) [e] [] pos) (iEnumT X.K ta) := by
  refine ⟨fun pins s σ H R I h => ?_⟩
  refine Call_ (ld_blt I hg hm boot_enumerate (PyProof.Rows.callWith_type1 (thn (ha.run pos pins s σ H _ I h) fun us s1 ⟨vs, H1, I1, r1, q1⟩ => ?_) hs rfl))
  obtain ⟨a, xs, ex, hq, q⟩ := q1
  subst ex
  cases r1 with
  | cons r rr =>
    cases rr
    cases r
    obtain ⟨its, rv, p', hz⟩ := I1.tuple hq
    refine call_tuple (show s1.heap.IsTuple a its.toArray from p') fun h' he hit hsz hk => wpAny_pyIter_enum he ?_
    have I2 : Inv X pins σ H1 { s1 with heap := h' } := I1.kept (t' := s1.toks) hk
    refine ⟨s1.heap.objs.size + 1, [s1.heap.objs.size + 1, s1.heap.objs.size], _, _, H1, rfl, I2, turn a (s1.heap.objs.size + 1) s1.heap.objs.size, ⟨⟨.none, he⟩, hit, Nat.succ_ne_self _⟩, fun b hb => ?_, q⟩
    have e' : b = s1.heap.objs.size + 1 ∨ b = s1.heap.objs.size := by simpa using hb
    have hle : s1.heap.objs.size ≤ b := by
      rcases e' with z | z
      · rw [z]; exact Nat.le_add_right _ _
      · rw [z]; exact Nat.le_refl _
    exact I1.fpOk hle (I1.hok.fresh hle)
theorem for_enumT {K : PySem.W.Frag} {a : Addr} {xs : List V} {g : TG} {tb : TS} {D : Ends} {σ : L2.St} {H : Hp} (Pv : Nat → L2.St → Hp → Prop) (h0 : Pv 0 σ H) (hq : ∀ i σ H, Pv i σ H → SqT K H a xs)
    (hs : ∀ (i : Nat) (x : V) (T : Addr) (σ : L2.St) (H : Hp), xs[i]? = some x → Pv i σ H → H T = none → g (.ref T) σ (upd H T (.tup [.int (i : Nat), x])) fun σ2 H2 => tb { D with nx := Pv (i + 1), ct := Pv (i + 1), bk := D.nx } σ2 H2) (hd : ∀ σ H, Pv xs.length σ H → D.nx σ H) :
    ∃ W : Nat → Nat → L2.St → Hp → Prop, (∃ m, W 0 m σ H) ∧ ∀ i m σ H, W i m σ H →
      ((Itu K a).stop i H ∧ D.nx σ H) ∨ ((Itu K a).go i H ∧ ∃ N : L2.St → Hp → Prop, (∀ σ' H', N σ' H' → ∃ m', m' < m ∧ W (i + 1) m' σ' H') ∧ ∀ v H', (Itu K a).yld i H v H' → g v σ H' fun σ2 H2 => tb { D with nx := N, ct := N, bk := D.nx } σ2 H2) := by
  refine ⟨fun i m σ H => m = xs.length - i ∧ i ≤ xs.length ∧ Pv i σ H, ⟨xs.length, rfl, Nat.zero_le _, h0⟩, ?_⟩
  rintro i m σ H ⟨rfl, hi, p⟩
  have qx := hq i σ H p
  by_cases hlt : i < xs.length
  · have hx : xs[i]? = some xs[i] := List.getElem?_eq_getElem hlt
    refine .inr ⟨⟨xs, _, qx, hx⟩, Pv (i + 1), fun σ' H' p' => ⟨xs.length - (i + 1), by omega, rfl, hlt, p'⟩, fun v H' y => ?_⟩
    obtain ⟨T, x', rfl, hT, rfl, f1⟩ := y
    exact hs i x' T σ H (f1 xs qx) p hT
  · have e : i = xs.length := by omega
    subst e
    exact .inl ⟨⟨xs, qx, Nat.le_refl _⟩, hd σ H p⟩
end En

namespace Wk
open PySem L2 Bx
theorem walk_Itu {K : PySem.W.Frag} {a : Addr} {xs : List V} : Walk (En.Itu K a) xs.length (fun H => SqT K H a xs) (YPair (fun i => some (.int (i : Nat))) (fun i => xs[i]?)) := by
  refine ⟨fun i _ hi q => ⟨xs, xs[i], q, by simp [hi]⟩, fun _ q => ⟨xs, q, Nat.le_refl _⟩, fun i H v H' _ q y => ?_⟩
  obtain ⟨T, x, h1, h2, h3, h4⟩ := y
  exact ⟨T, .int (i : Nat), x, h1, h2, h3, rfl, h4 xs q⟩
theorem dc_it {J : It} {n : Nat} {G : Hp → Prop} {Y : Nat → Hp → V → Hp → Prop} (w : Walk J n G Y) {g : TG} {tt : TT} {tk tv : TE} {vs : List Nat} {σ : L2.St} {H1 : Hp} {D : Addr} {Qd : Hp → Prop} (Pv : Nat → Hp → Prop) (h0 : Pv 0 (upd H1 D (.dK []))) (hG : ∀ i H, i ≤ n → Pv i H → G H)
    (hs : ∀ i x H H', i < n → Pv i H → Y i H x H' → g x (wipe σ vs) H' fun σ2 H2 => wipe σ2 vs = wipe σ vs ∧ tt σ2 H2 fun b H3 =>
      if b = true then tk σ2 H3 fun y H4 => tv σ2 H4 fun z H5 => ∃ kvs k, y = kV k ∧ H5 D = some (.dK kvs) ∧ kvs.length < sizeLine ∧ Pv (i + 1) (upd H5 D (.dK (putK kvs k z))) else Pv (i + 1) H3) (hd : ∀ H, Pv n H → Qd H) :
    ∃ W : Nat → Nat → Hp → Prop, (∃ m, W 0 m (upd H1 D (.dK []))) ∧ ∀ i m H, W i m H →
      (J.stop i H ∧ Qd H) ∨ (J.go i H ∧ ∃ Nx : Hp → Prop, (∀ H', Nx H' → ∃ m', m' < m ∧ W (i + 1) m' H') ∧ ∀ x H', J.yld i H x H' → g x (wipe σ vs) H' fun σ2 H2 => wipe σ2 vs = wipe σ vs ∧ tt σ2 H2 fun b H3 =>
        if b = true then tk σ2 H3 fun y H4 => tv σ2 H4 fun z H5 => ∃ kvs k, y = kV k ∧ H5 D = some (.dK kvs) ∧ kvs.length < sizeLine ∧ Nx (upd H5 D (.dK (putK kvs k z))) else Nx H3) := by
  refine ⟨fun i m H => m = n - i ∧ i ≤ n ∧ Pv i H, ⟨n, by simp, Nat.zero_le _, h0⟩, ?_⟩
  rintro i m H ⟨rfl, hi, p⟩
  have q := hG i H hi p
  by_cases hlt : i < n
  · exact .inr ⟨w.goes i H hlt q, Pv (i + 1), fun H' p' => ⟨n - (i + 1), by omega, rfl, hlt, p'⟩, fun x H' y => hs i x H H' hlt p (w.yields i H x H' hlt q y)⟩
  · have e : i = n := by omega
    subst e
    exact .inl ⟨w.stops H q, hd H p⟩
end Wk

/-! a written dict with text keys: which keys it has -/
namespace Kd
open PySem L2 Bx
def strOf : Value → Option Str
  | .str x _ => some x
  | _ => none
def SD (K : PySem.W.Frag) (w : World) (d : Addr) (keys : List Str) : Prop := ∃ es n, KDict K w d es n ∧ es.toList.map (fun e => strOf e.key) = keys.map some
theorem key_str {v : Value} {x : Str} (h : strOf v = some x) : ∃ t, v = .str x t := by
  cases v with
  | str y t =>
    have e : y = x := Option.some.inj h
    rw [e]
    exact ⟨t, rfl⟩
  | _ => cases h
theorem isStr_eq (x z : Str) (t : Tok) : (Value.str x t).isStr z = decide (x = z) := by
  show (x == z) = decide (x = z)
  rw [Bool.eq_iff_iff, beq_iff_eq, decide_eq_true_eq]
theorem find_keys (z : Str) : ∀ {l : List DictEntry} {keys : List Str}, l.map (fun e => strOf e.key) = keys.map some → (l.find? (·.key.isStr z)).isSome = decide (z ∈ keys) ∧ l.any (·.refKey) = false
  | [], [], _ => ⟨by simp, rfl⟩
  | [], _ :: _, h => by cases h
  | _ :: _, [], h => by cases h
  | e :: l, k :: keys, h => by
    rw [List.map_cons, List.map_cons] at h
    injection h with h1 h2
    obtain ⟨t, ht⟩ := key_str h1
    obtain ⟨i1, i2⟩ := find_keys z h2
    have er : e.refKey = false := by
      unfold DictEntry.refKey
      rw [ht]
    refine ⟨?_, by rw [List.any_cons, er, i2]; rfl⟩
    have es : e.key.isStr z = decide (k = z) := by rw [ht]; exact isStr_eq k z t
    by_cases q : k = z
    · rw [List.find?_cons, es, decide_eq_true q]
      simp [q]
    · rw [List.find?_cons, es, decide_eq_false q]
      show (l.find? (·.key.isStr z)).isSome = _
      rw [i1, Bool.eq_iff_iff, decide_eq_true_eq, decide_eq_true_eq, List.mem_cons]
      exact ⟨fun h => .inr h, fun h => h.resolve_left fun e => q e.symm⟩
theorem SD.ns {K : PySem.W.Frag} {w : World} {d : Addr} {keys : List Str} (h : SD K w d keys) (z : Str) : ∃ r, PySem.W.nsIn K d z = some r ∧ r.isSome = decide (z ∈ keys) := by
  obtain ⟨es, n, D, hk⟩ := h
  obtain ⟨i1, i2⟩ := find_keys z hk
  unfold PySem.W.nsIn
  rw [D.at_]
  show ∃ r, (match es.toList.find? (·.key.isStr z) with | some e => some (some e.val) | none => if es.toList.any (·.refKey) then none else some none) = some r ∧ _
  cases q : es.toList.find? (·.key.isStr z) with
  | some e =>
    rw [q] at i1
    exact ⟨_, rfl, i1⟩
  | none =>
    rw [q] at i1
    rw [i2]
    exact ⟨none, rfl, i1⟩
section
variable {X : Cx}
def rNotInSD (d : Addr) (keys : List Str) : R2 := fun x y H Q => ∃ z : Str, x = .str z ∧ y = .ref d ∧ Q (.bl (!decide (z ∈ keys))) H
theorem op_notInSD {d : Addr} {keys : List Str} (h : SD X.K X.w d keys) : OpR X (compareOp .NotIn) (rNotInSD d keys) := by
  intro pins s σ H x y v u Q I rx ry q
  obtain ⟨z, rfl, rfl, q⟩ := q
  obtain ⟨r, e1, e2⟩ := h.ns z
  obtain ⟨es, n, D, _⟩ := h
  exact op_notIn_kd D pins s σ H _ _ v u Q I rx ry ⟨z, r, rfl, rfl, e1, by rw [e2]; exact q⟩
def rInSD (d : Addr) (keys : List Str) : R2 := fun x y H Q => ∃ z : Str, x = .str z ∧ y = .ref d ∧ Q (.bl (decide (z ∈ keys))) H
theorem op_inSD {d : Addr} {keys : List Str} (h : SD X.K X.w d keys) : OpR X (compareOp .In) (rInSD d keys) := by
  intro pins s σ H x y v u Q I rx ry q
  obtain ⟨z, rfl, rfl, q⟩ := q
  obtain ⟨r, e1, e2⟩ := h.ns z
  obtain ⟨es, n, D, _⟩ := h
  exact op_in_kd D pins s σ H _ _ v u Q I rx ry ⟨z, r, rfl, rfl, e1, by rw [e2]; exact q⟩
end
end Kd

/-! Zones: tables of tightest differences. Plain mathematics. -/
namespace Zn
abbrev Z := Nat → Nat → Option Int
abbrev Lit := Nat × Nat × Int
def Sat (m : Nat) (d : Z) (x : Nat → Int) : Prop := ∀ i j c, i < m → j < m → d i j = some c → x i ≤ x j + c
def Hl (x : Nat → Int) (l : Lit) : Prop := x l.1 ≤ x l.2.1 + l.2.2
structure Closed (m : Nat) (d : Z) : Prop where
  dia : ∀ i, i < m → d i i = some 0
  tri : ∀ i j k a b, i < m → j < m → k < m → d i j = some a → d j k = some b → ∃ c, d i k = some c ∧ c ≤ a + b
def follows (d : Z) (l : Lit) : Bool := match d l.1 l.2.1 with
  | some a => decide (a ≤ l.2.2)
  | none => false
def fails (d : Z) (l : Lit) : Bool := match d l.2.1 l.1 with
  | some b => decide (b + l.2.2 < 0)
  | none => false
def sh (old : Option Int) (start : Int) (step : Option Int) : Option Int := match step with
  | none => old
  | some t => match old with
    | some a => if a ≤ start + t then some a else some (start + t)
    | none => some (start + t)
def metD (d : Z) (l : Lit) : Z := fun u v => match d u l.1 with
  | none => d u v
  | some a => sh (d u v) (a + l.2.2) (d l.2.1 v)
def met (d : Z) (l : Lit) : Option Z := if follows d l then some d else if fails d l then none else some (metD d l)
def metAll (d : Z) : List Lit → Option Z
  | [] => some d
  | l :: ls => match met d l with
    | none => none
    | some d' => metAll d' ls
theorem follows_iff {d : Z} {l : Lit} : follows d l = true ↔ ∃ a, d l.1 l.2.1 = some a ∧ a ≤ l.2.2 := by
  unfold follows
  cases d l.1 l.2.1 <;> simp
theorem fails_iff {d : Z} {l : Lit} : fails d l = true ↔ ∃ b, d l.2.1 l.1 = some b ∧ b + l.2.2 < 0 := by
  unfold fails
  cases d l.2.1 l.1 <;> simp
/-- what the new table holds: an old bound, or one by the literal; it is at most both -/
theorem metD_cases {d : Z} {l : Lit} {u v : Nat} {c : Int} (h : metD d l u v = some c) : d u v = some c ∨ ∃ a b, d u l.1 = some a ∧ d l.2.1 v = some b ∧ c = a + l.2.2 + b := by
  unfold metD sh at h
  cases hu : d u l.1 with
  | none => rw [hu] at h; exact .inl h
  | some a =>
    rw [hu] at h
    cases hv : d l.2.1 v with
    | none => rw [hv] at h; exact .inl h
    | some b =>
      rw [hv] at h
      cases ho : d u v with
      | none => rw [ho] at h; exact .inr ⟨a, b, rfl, rfl, by simpa using h.symm⟩
      | some o =>
        rw [ho] at h
        by_cases q : o ≤ a + l.2.2 + b
        · simp only [q, if_true] at h; exact .inl h
        · simp only [q, if_false] at h; exact .inr ⟨a, b, rfl, rfl, by simpa using h.symm⟩
theorem metD_old {d : Z} {l : Lit} {u v : Nat} {c : Int} (h : d u v = some c) : ∃ e, metD d l u v = some e ∧ e ≤ c := by
  unfold metD sh
  cases d u l.1 with
  | none => exact ⟨c, h, Int.le_refl _⟩
  | some a =>
    cases d l.2.1 v with
    | none => exact ⟨c, h, Int.le_refl _⟩
    | some b =>
      rw [h]
      by_cases q : c ≤ a + l.2.2 + b
      · exact ⟨c, by simp [q], Int.le_refl _⟩
      · exact ⟨a + l.2.2 + b, by simp [q], by omega⟩
theorem metD_new {d : Z} {l : Lit} {u v : Nat} {a b : Int} (ha : d u l.1 = some a) (hb : d l.2.1 v = some b) : ∃ e, metD d l u v = some e ∧ e ≤ a + l.2.2 + b := by
  unfold metD sh
  rw [ha, hb]
  cases d u v with
  | none => exact ⟨_, rfl, Int.le_refl _⟩
  | some o =>
    by_cases q : o ≤ a + l.2.2 + b
    · exact ⟨o, by simp [q], q⟩
    · exact ⟨_, by simp [q], Int.le_refl _⟩
theorem back_ge {d : Z} {l : Lit} (hf : fails d l = false) {b : Int} (h : d l.2.1 l.1 = some b) : 0 ≤ b + l.2.2 := by
  by_cases q : b + l.2.2 < 0
  · have := fails_iff.mpr ⟨b, h, q⟩
    rw [hf] at this
    cases this
  · omega
theorem metD_closed {m : Nat} {d : Z} {l : Lit} (C : Closed m d) (h1 : l.1 < m) (h2 : l.2.1 < m) (hf : fails d l = false) : Closed m (metD d l) := by
  constructor
  · intro i hi
    obtain ⟨e, he, le⟩ := metD_old (l := l) (C.dia i hi)
    rcases metD_cases he with h | ⟨a, b, ha, hb, rfl⟩
    · rw [he, ← h, C.dia i hi]
    · obtain ⟨c, hc, lc⟩ := C.tri l.2.1 i l.1 b a h2 hi h1 hb ha
      have := back_ge hf hc
      rw [he]
      exact congrArg some (by omega)
  · intro i j k a b hi hj hk ha hb
    rcases metD_cases ha with ha | ⟨a1, a2, ha1, ha2, rfl⟩
    · rcases metD_cases hb with hb | ⟨b1, b2, hb1, hb2, rfl⟩
      · obtain ⟨c, hc, lc⟩ := C.tri i j k a b hi hj hk ha hb
        obtain ⟨e, he, le⟩ := metD_old (l := l) hc
        exact ⟨e, he, by omega⟩
      · obtain ⟨c, hc, lc⟩ := C.tri i j l.1 a b1 hi hj h1 ha hb1
        obtain ⟨e, he, le⟩ := metD_new hc hb2
        exact ⟨e, he, by omega⟩
    · rcases metD_cases hb with hb | ⟨b1, b2, hb1, hb2, rfl⟩
      · obtain ⟨c, hc, lc⟩ := C.tri l.2.1 j k a2 b h2 hj hk ha2 hb
        obtain ⟨e, he, le⟩ := metD_new ha1 hc
        exact ⟨e, he, by omega⟩
      · obtain ⟨c, hc, lc⟩ := C.tri l.2.1 j l.1 a2 b1 h2 hj h1 ha2 hb1
        have := back_ge hf hc
        obtain ⟨e, he, le⟩ := metD_new ha1 hb2
        exact ⟨e, he, by omega⟩
theorem metD_sat {m : Nat} {d : Z} {l : Lit} (C : Closed m d) (h1 : l.1 < m) (h2 : l.2.1 < m) {x : Nat → Int} : Sat m (metD d l) x ↔ Sat m d x ∧ Hl x l := by
  constructor
  · intro S
    refine ⟨fun i j c hi hj hc => ?_, ?_⟩
    · obtain ⟨e, he, le⟩ := metD_old (l := l) hc
      have := S i j e hi hj he
      omega
    · obtain ⟨e, he, le⟩ := metD_new (C.dia _ h1) (C.dia _ h2)
      have := S _ _ e h1 h2 he
      unfold Hl
      omega
  · rintro ⟨S, H⟩ i j c hi hj hc
    rcases metD_cases hc with h | ⟨a, b, ha, hb, rfl⟩
    · exact S i j c hi hj h
    · have e1 := S _ _ _ hi h1 ha
      have e2 := S _ _ _ h2 hj hb
      unfold Hl at H
      omega
theorem met_some {m : Nat} {d d' : Z} {l : Lit} (C : Closed m d) (h1 : l.1 < m) (h2 : l.2.1 < m) (h : met d l = some d') : Closed m d' ∧ ∀ x, Sat m d' x ↔ Sat m d x ∧ Hl x l := by
  unfold met at h
  by_cases q : follows d l = true
  · rw [if_pos q] at h
    cases h
    refine ⟨C, fun x => ⟨fun S => ⟨S, ?_⟩, fun S => S.1⟩⟩
    obtain ⟨a, ha, le⟩ := follows_iff.mp q
    have := S _ _ _ h1 h2 ha
    unfold Hl
    omega
  · rw [if_neg q] at h
    by_cases r : fails d l = true
    · rw [if_pos r] at h
      cases h
    · rw [if_neg r] at h
      cases h
      exact ⟨metD_closed C h1 h2 (by simpa using r), fun x => metD_sat C h1 h2⟩
theorem met_none {m : Nat} {d : Z} {l : Lit} (h1 : l.1 < m) (h2 : l.2.1 < m) (h : met d l = none) {x : Nat → Int} (S : Sat m d x) : ¬ Hl x l := by
  unfold met at h
  by_cases q : follows d l = true
  · rw [if_pos q] at h
    cases h
  · rw [if_neg q] at h
    by_cases r : fails d l = true
    · obtain ⟨b, hb, lt⟩ := fails_iff.mp r
      have := S _ _ _ h2 h1 hb
      unfold Hl
      omega
    · rw [if_neg r] at h
      cases h
def Ok (m : Nat) (ls : List Lit) : Prop := ∀ l ∈ ls, l.1 < m ∧ l.2.1 < m
def All (x : Nat → Int) (ls : List Lit) : Prop := ∀ l ∈ ls, Hl x l
theorem metAll_some {m : Nat} : ∀ {ls : List Lit} {d d' : Z}, Closed m d → Ok m ls → metAll d ls = some d' → Closed m d' ∧ ∀ x, Sat m d' x ↔ Sat m d x ∧ All x ls
  | [], d, d', C, _, h => by
    cases h
    exact ⟨C, fun x => ⟨fun S => ⟨S, fun l hl => by cases hl⟩, fun S => S.1⟩⟩
  | l :: ls, d, d', C, ok, h => by
    unfold metAll at h
    cases e : met d l with
    | none => rw [e] at h; cases h
    | some d1 =>
      rw [e] at h
      obtain ⟨C1, s1⟩ := met_some C (ok l (List.mem_cons_self ..)).1 (ok l (List.mem_cons_self ..)).2 e
      obtain ⟨C2, s2⟩ := metAll_some C1 (fun q hq => ok q (List.mem_cons_of_mem _ hq)) h
      refine ⟨C2, fun x => ?_⟩
      rw [s2, s1]
      constructor
      · rintro ⟨⟨a, b⟩, c⟩
        refine ⟨a, fun q hq => ?_⟩
        rcases List.mem_cons.mp hq with rfl | hq
        · exact b
        · exact c q hq
      · rintro ⟨a, c⟩
        exact ⟨⟨a, c l (List.mem_cons_self ..)⟩, fun q hq => c q (List.mem_cons_of_mem _ hq)⟩
theorem metAll_none {m : Nat} : ∀ {ls : List Lit} {d : Z}, Closed m d → Ok m ls → metAll d ls = none → ∀ x, Sat m d x → ¬ All x ls
  | [], d, C, _, h, x, S, A => by cases h
  | l :: ls, d, C, ok, h, x, S, A => by
    unfold metAll at h
    have o := ok l (List.mem_cons_self ..)
    cases e : met d l with
    | none => exact met_none o.1 o.2 e S (A l (List.mem_cons_self ..))
    | some d1 =>
      rw [e] at h
      obtain ⟨C1, s1⟩ := met_some C o.1 o.2 e
      exact metAll_none C1 (fun q hq => ok q (List.mem_cons_of_mem _ hq)) h x ((s1 x).mpr ⟨S, A l (List.mem_cons_self ..)⟩) (fun q hq => A q (List.mem_cons_of_mem _ hq))
/-- the zone of all states -/
def whole : Z := fun i j => if i = j then some 0 else none
theorem whole_closed (m : Nat) : Closed m whole := by
  constructor
  · intro i _
    simp [whole]
  · intro i j k a b _ _ _ ha hb
    unfold whole at ha hb
    by_cases h : i = j
    · subst h
      by_cases h2 : i = k
      · subst h2
        simp at ha hb
        exact ⟨0, by simp [whole], by omega⟩
      · simp [h2] at hb
    · simp [h] at ha
theorem whole_sat (m : Nat) (x : Nat → Int) : Sat m whole x := by
  intro i j c _ _ h
  unfold whole at h
  by_cases e : i = j
  · subst e
    simp at h
    omega
  · simp [e] at h
/-- the number that is nearest: by what is told of those in S -/
def mostOf (d : Z) (x : Nat → Int) (i : Nat) : List Nat → Option Int
  | [] => none
  | j :: S => mostOf d x i S
/-- one step of the search for the ends of x i -/
def stepM (d : Z) (x : Nat → Int) (i : Nat) (o : Option Int) (j : Nat) : Option Int := match d i j with
  | none => o
  | some c => match o with
    | none => some (x j + c)
    | some v => if x j + c < v then some (x j + c) else some v
def stepL (d : Z) (x : Nat → Int) (i : Nat) (o : Option Int) (j : Nat) : Option Int := match d j i with
  | none => o
  | some c => match o with
    | none => some (x j - c)
    | some v => if v < x j - c then some (x j - c) else some v
theorem stepM_spec {d : Z} {x : Nat → Int} {i j : Nat} {o : Option Int} :
    (∀ c, d i j = some c → ∃ v, stepM d x i o j = some v ∧ v ≤ x j + c) ∧ (∀ v, o = some v → ∃ w, stepM d x i o j = some w ∧ w ≤ v) ∧ ∀ w, stepM d x i o j = some w → o = some w ∨ ∃ c, d i j = some c ∧ w = x j + c := by
  unfold stepM
  cases d i j with
  | none => exact ⟨fun c h => (by cases h), fun v h => ⟨v, h, Int.le_refl _⟩, fun w h => .inl h⟩
  | some c =>
    cases o with
    | none => exact ⟨fun c' h => (by cases h; exact ⟨_, rfl, Int.le_refl _⟩), fun v h => (by cases h), fun w h => .inr ⟨c, rfl, by simpa using h.symm⟩⟩
    | some v =>
      by_cases q : x j + c < v
      · simp only [q, if_true]
        exact ⟨fun c' h => (by cases h; exact ⟨_, rfl, Int.le_refl _⟩), fun v' h => (by cases h; exact ⟨_, rfl, by omega⟩), fun w h => .inr ⟨c, rfl, by simpa using h.symm⟩⟩
      · simp only [q, if_false]
        exact ⟨fun c' h => (by cases h; exact ⟨_, rfl, by omega⟩), fun v' h => (by cases h; exact ⟨_, rfl, Int.le_refl _⟩), fun w h => .inl h⟩
theorem stepL_spec {d : Z} {x : Nat → Int} {i j : Nat} {o : Option Int} :
    (∀ c, d j i = some c → ∃ v, stepL d x i o j = some v ∧ x j - c ≤ v) ∧ (∀ v, o = some v → ∃ w, stepL d x i o j = some w ∧ v ≤ w) ∧ ∀ w, stepL d x i o j = some w → o = some w ∨ ∃ c, d j i = some c ∧ w = x j - c := by
  unfold stepL
  cases d j i with
  | none => exact ⟨fun c h => (by cases h), fun v h => ⟨v, h, Int.le_refl _⟩, fun w h => .inl h⟩
  | some c =>
    cases o with
    | none => exact ⟨fun c' h => (by cases h; exact ⟨_, rfl, Int.le_refl _⟩), fun v h => (by cases h), fun w h => .inr ⟨c, rfl, by simpa using h.symm⟩⟩
    | some v =>
      by_cases q : v < x j - c
      · simp only [q, if_true]
        exact ⟨fun c' h => (by cases h; exact ⟨_, rfl, Int.le_refl _⟩), fun v' h => (by cases h; exact ⟨_, rfl, by omega⟩), fun w h => .inr ⟨c, rfl, by simpa using h.symm⟩⟩
      · simp only [q, if_false]
        exact ⟨fun c' h => (by cases h; exact ⟨_, rfl, by omega⟩), fun v' h => (by cases h; exact ⟨_, rfl, Int.le_refl _⟩), fun w h => .inl h⟩
theorem foldM_spec {d : Z} {x : Nat → Int} {i : Nat} : ∀ (S : List Nat) (o : Option Int),
    (∀ j ∈ S, ∀ c, d i j = some c → ∃ v, S.foldl (stepM d x i) o = some v ∧ v ≤ x j + c) ∧ (∀ v, o = some v → ∃ w, S.foldl (stepM d x i) o = some w ∧ w ≤ v) ∧ ∀ w, S.foldl (stepM d x i) o = some w → o = some w ∨ ∃ j, j ∈ S ∧ ∃ c, d i j = some c ∧ w = x j + c
  | [], o => ⟨fun j h => (by cases h), fun v h => ⟨v, h, Int.le_refl _⟩, fun w h => .inl h⟩
  | j :: S, o => by
    obtain ⟨a1, a2, a3⟩ := stepM_spec (d := d) (x := x) (i := i) (j := j) (o := o)
    obtain ⟨b1, b2, b3⟩ := foldM_spec (d := d) (x := x) (i := i) S (stepM d x i o j)
    simp only [List.foldl_cons]
    refine ⟨fun k hk c hc => ?_, fun v hv => ?_, fun w hw => ?_⟩
    · rcases List.mem_cons.mp hk with rfl | hk
      · obtain ⟨v, hv, lv⟩ := a1 c hc
        obtain ⟨w, hw, lw⟩ := b2 v hv
        exact ⟨w, hw, by omega⟩
      · exact b1 k hk c hc
    · obtain ⟨u, hu, lu⟩ := a2 v hv
      obtain ⟨w, hw, lw⟩ := b2 u hu
      exact ⟨w, hw, by omega⟩
    · rcases b3 w hw with h | ⟨k, hk, c, hc, e⟩
      · rcases a3 w h with h | ⟨c, hc, e⟩
        · exact .inl h
        · exact .inr ⟨j, List.mem_cons_self .., c, hc, e⟩
      · exact .inr ⟨k, List.mem_cons_of_mem _ hk, c, hc, e⟩
theorem foldL_spec {d : Z} {x : Nat → Int} {i : Nat} : ∀ (S : List Nat) (o : Option Int),
    (∀ j ∈ S, ∀ c, d j i = some c → ∃ v, S.foldl (stepL d x i) o = some v ∧ x j - c ≤ v) ∧ (∀ v, o = some v → ∃ w, S.foldl (stepL d x i) o = some w ∧ v ≤ w) ∧ ∀ w, S.foldl (stepL d x i) o = some w → o = some w ∨ ∃ j, j ∈ S ∧ ∃ c, d j i = some c ∧ w = x j - c
  | [], o => ⟨fun j h => (by cases h), fun v h => ⟨v, h, Int.le_refl _⟩, fun w h => .inl h⟩
  | j :: S, o => by
    obtain ⟨a1, a2, a3⟩ := stepL_spec (d := d) (x := x) (i := i) (j := j) (o := o)
    obtain ⟨b1, b2, b3⟩ := foldL_spec (d := d) (x := x) (i := i) S (stepL d x i o j)
    simp only [List.foldl_cons]
    refine ⟨fun k hk c hc => ?_, fun v hv => ?_, fun w hw => ?_⟩
    · rcases List.mem_cons.mp hk with rfl | hk
      · obtain ⟨v, hv, lv⟩ := a1 c hc
        obtain ⟨w, hw, lw⟩ := b2 v hv
        exact ⟨w, hw, by omega⟩
      · exact b1 k hk c hc
    · obtain ⟨u, hu, lu⟩ := a2 v hv
      obtain ⟨w, hw, lw⟩ := b2 u hu
      exact ⟨w, hw, by omega⟩
    · rcases b3 w hw with h | ⟨k, hk, c, hc, e⟩
      · rcases a3 w h with h | ⟨c, hc, e⟩
        · exact .inl h
        · exact .inr ⟨j, List.mem_cons_self .., c, hc, e⟩
      · exact .inr ⟨k, List.mem_cons_of_mem _ hk, c, hc, e⟩
/-- the integer that is taken for i when those in S stand -/
def val (d : Z) (x : Nat → Int) (i : Nat) (S : List Nat) : Int := match S.foldl (stepL d x i) none with
  | some v => v
  | none => match S.foldl (stepM d x i) none with
    | some v => v
    | none => 0
theorem val_ok {m : Nat} {d : Z} (C : Closed m d) {x : Nat → Int} {i : Nat} (hi : i < m) {S : List Nat} (hS : ∀ j ∈ S, j < m) (H : ∀ j k c, j ∈ S → k ∈ S → d j k = some c → x j ≤ x k + c) :
    (∀ j ∈ S, ∀ c, d i j = some c → val d x i S ≤ x j + c) ∧ ∀ j ∈ S, ∀ c, d j i = some c → x j ≤ val d x i S + c := by
  obtain ⟨a1, _, a3⟩ := foldM_spec (d := d) (x := x) (i := i) S none
  obtain ⟨b1, _, b3⟩ := foldL_spec (d := d) (x := x) (i := i) S none
  unfold val
  cases hl : S.foldl (stepL d x i) none with
  | some v =>
    refine ⟨fun j hj c hc => ?_, fun j hj c hc => ?_⟩
    · rcases b3 v hl with h | ⟨k, hk, e, he, rfl⟩
      · cases h
      · obtain ⟨g, hg, lg⟩ := C.tri k i j e c (hS k hk) hi (hS j hj) he hc
        have := H k j g hk hj hg
        show x k - e ≤ x j + c
        omega
    · obtain ⟨w, hw, lw⟩ := b1 j hj c hc
      rw [hl] at hw
      cases hw
      show x j ≤ v + c
      omega
  | none =>
    refine ⟨fun j hj c hc => ?_, fun j hj c hc => ?_⟩
    · obtain ⟨w, hw, lw⟩ := a1 j hj c hc
      rw [hw]
      exact lw
    · obtain ⟨w, hw, lw⟩ := b1 j hj c hc
      rw [hl] at hw
      cases hw
/-- one state of the zone: integers by and by -/
def upd (x : Nat → Int) (k : Nat) (v : Int) : Nat → Int := fun i => if i = k then v else x i
def pt (d : Z) : Nat → Nat → Int
  | 0 => fun _ => 0
  | k + 1 => upd (pt d k) (k + 1) (val d (pt d k) (k + 1) (List.range (k + 1)))
theorem pt_keep (d : Z) : ∀ k i, i ≤ k → ∀ j, pt d (k + j) i = pt d k i
  | k, i, h, 0 => rfl
  | k, i, h, j + 1 => by
    show upd (pt d (k + j)) (k + j + 1) _ i = _
    unfold upd
    rw [if_neg (by omega), pt_keep d k i h j]
theorem pt_zero (d : Z) (k : Nat) : pt d k 0 = 0 := by
  have := pt_keep d 0 0 (Nat.le_refl _) k
  rw [Nat.zero_add] at this
  exact this
theorem val_same {d : Z} {x y : Nat → Int} {i : Nat} {S : List Nat} (h : ∀ j ∈ S, x j = y j) : val d x i S = val d y i S := by
  have e1 : ∀ (S : List Nat) (o : Option Int), (∀ j ∈ S, x j = y j) → S.foldl (stepL d x i) o = S.foldl (stepL d y i) o := by
    intro S
    induction S with
    | nil => intros; rfl
    | cons j S ih =>
      intro o h
      simp only [List.foldl_cons]
      have : stepL d x i o j = stepL d y i o j := by
        unfold stepL
        rw [h j (List.mem_cons_self ..)]
      rw [this]
      exact ih _ fun k hk => h k (List.mem_cons_of_mem _ hk)
  have e2 : ∀ (S : List Nat) (o : Option Int), (∀ j ∈ S, x j = y j) → S.foldl (stepM d x i) o = S.foldl (stepM d y i) o := by
    intro S
    induction S with
    | nil => intros; rfl
    | cons j S ih =>
      intro o h
      simp only [List.foldl_cons]
      have : stepM d x i o j = stepM d y i o j := by
        unfold stepM
        rw [h j (List.mem_cons_self ..)]
      rw [this]
      exact ih _ fun k hk => h k (List.mem_cons_of_mem _ hk)
  unfold val
  rw [e1 S none h, e2 S none h]
theorem pt_sat {m : Nat} {d : Z} (C : Closed m d) : ∀ k, k < m → Sat (k + 1) d (pt d k)
  | 0, hk => by
    intro i j c hi hj h
    have ei : i = 0 := by omega
    have ej : j = 0 := by omega
    subst ei ej
    rw [C.dia 0 hk] at h
    cases h
    omega
  | k + 1, hk => by
    have ih := pt_sat C k (by omega)
    have V := val_ok C (x := pt d k) (i := k + 1) hk (S := List.range (k + 1)) (fun j hj => by have := List.mem_range.mp hj; omega)
      (fun i j c hi hj h => ih i j c (List.mem_range.mp hi) (List.mem_range.mp hj) h)
    intro i j c hi hj h
    show upd _ _ _ i ≤ upd _ _ _ j + c
    unfold upd
    by_cases ei : i = k + 1
    · by_cases ej : j = k + 1
      · subst ei ej
        rw [C.dia _ hk] at h
        cases h
        simp
      · subst ei
        rw [if_pos rfl, if_neg ej]
        exact V.1 j (List.mem_range.mpr (by omega)) c h
    · by_cases ej : j = k + 1
      · subst ej
        rw [if_pos rfl, if_neg ei]
        exact V.2 i (List.mem_range.mpr (by omega)) c h
      · rw [if_neg ei, if_neg ej]
        exact ih i j c (by omega) (by omega) h
theorem some_state {m : Nat} {d : Z} (C : Closed (m + 1) d) : Sat (m + 1) d (pt d m) ∧ pt d m 0 = 0 := ⟨pt_sat C m (by omega), pt_zero d m⟩
/-- a state can be had at each bound -/
theorem shift_sat {m : Nat} {d : Z} {x : Nat → Int} (S : Sat m d x) (a : Int) : Sat m d fun i => x i - a := by
  intro i j c hi hj h
  have := S i j c hi hj h
  show x i - a ≤ x j - a + c
  omega
theorem at_bound {m : Nat} {d : Z} (C : Closed (m + 1) d) {i j : Nat} (hi : i < m + 1) (hj : j < m + 1) {c : Int} (h : d i j = some c) : ∃ x, Sat (m + 1) d x ∧ x 0 = 0 ∧ x i = x j + c := by
  have hf : fails d (j, i, -c) = false := by
    cases q : fails d (j, i, -c) with
    | false => rfl
    | true =>
      obtain ⟨b, hb, lt⟩ := fails_iff.mp q
      have e : d i j = some b := hb
      rw [h] at e
      cases e
      simp at lt
      omega
  have C' := metD_closed (l := (j, i, -c)) C hj hi hf
  obtain ⟨S, z⟩ := some_state C'
  obtain ⟨S1, H⟩ := (metD_sat (l := (j, i, -c)) C hj hi).mp S
  refine ⟨_, S1, z, ?_⟩
  have := S1 i j c hi hj h
  unfold Hl at H
  simp at H
  omega
theorem no_bound {m : Nat} {d : Z} (C : Closed (m + 1) d) {i j : Nat} (hi : i < m + 1) (hj : j < m + 1) (h : d i j = none) (n : Int) : ∃ x, Sat (m + 1) d x ∧ x 0 = 0 ∧ x j + n ≤ x i := by
  have hf : fails d (j, i, -n) = false := by
    cases q : fails d (j, i, -n) with
    | false => rfl
    | true =>
      obtain ⟨b, hb, lt⟩ := fails_iff.mp q
      have e : d i j = some b := hb
      rw [h] at e
      cases e
  have C' := metD_closed (l := (j, i, -n)) C hj hi hf
  obtain ⟨S, z⟩ := some_state C'
  obtain ⟨S1, H⟩ := (metD_sat (l := (j, i, -n)) C hj hi).mp S
  refine ⟨_, S1, z, ?_⟩
  unfold Hl at H
  simp at H
  omega
/-- within another zone, as it is seen -/
def inside (m : Nat) (d e : Z) : Prop := ∀ i j c, i < m → j < m → e i j = some c → ∃ a, d i j = some a ∧ a ≤ c
theorem inside_sat {m : Nat} {d e : Z} (h : inside m d e) {x : Nat → Int} (S : Sat m d x) : Sat m e x := by
  intro i j c hi hj hc
  obtain ⟨a, ha, la⟩ := h i j c hi hj hc
  have := S i j a hi hj ha
  omega
theorem sat_inside {m : Nat} {d e : Z} (C : Closed (m + 1) d) (h : ∀ x, x 0 = 0 → Sat (m + 1) d x → Sat (m + 1) e x) : inside (m + 1) d e := by
  intro i j c hi hj hc
  cases q : d i j with
  | some a =>
    obtain ⟨x, S, z, e1⟩ := at_bound C hi hj q
    have := h x z S i j c hi hj hc
    exact ⟨a, rfl, by omega⟩
  | none =>
    obtain ⟨x, S, z, e1⟩ := no_bound C hi hj q (c + 1)
    have := h x z S i j c hi hj hc
    omega
/-- one integer may be any: the others are as they are -/
def freed (d : Z) (k : Nat) : Z := fun i j => if i = k ∨ j = k then (if i = j then some 0 else none) else d i j
theorem freed_closed {m : Nat} {d : Z} (C : Closed m d) (k : Nat) : Closed m (freed d k) := by
  constructor
  · intro i hi
    unfold freed
    by_cases e : i = k
    · simp [e]
    · simp [e, C.dia i hi]
  · intro i j l a b hi hj hl ha hb
    unfold freed at *
    by_cases e1 : i = k ∨ j = k
    · rw [if_pos e1] at ha
      by_cases e : i = j
      · subst e
        rw [if_pos rfl] at ha
        cases ha
        exact ⟨b, hb, by omega⟩
      · rw [if_neg e] at ha
        cases ha
    · rw [if_neg e1] at ha
      by_cases e2 : j = k ∨ l = k
      · rw [if_pos e2] at hb
        by_cases e : j = l
        · subst e
          rw [if_pos rfl] at hb
          cases hb
          exact ⟨a, by rw [if_neg e1]; exact ha, by omega⟩
        · rw [if_neg e] at hb
          cases hb
      · rw [if_neg e2] at hb
        rw [if_neg (by omega)]
        exact C.tri i j l a b hi hj hl ha hb
theorem freed_sat {m : Nat} {d : Z} (C : Closed m d) {k : Nat} (hk : k < m) {x : Nat → Int} : Sat m (freed d k) x ↔ ∃ v, Sat m d (upd x k v) := by
  constructor
  · intro S
    have V := val_ok C (x := x) (i := k) hk (S := (List.range m).filter (· != k)) (fun j hj => List.mem_range.mp (List.mem_filter.mp hj).1)
      (fun i j c hi hj h => S i j c (List.mem_range.mp (List.mem_filter.mp hi).1) (List.mem_range.mp (List.mem_filter.mp hj).1) (by
        have h1 := (List.mem_filter.mp hi).2
        have h2 := (List.mem_filter.mp hj).2
        unfold freed
        simp at h1 h2
        simp [h1, h2, h]))
    refine ⟨val d x k ((List.range m).filter (· != k)), fun i j c hi hj h => ?_⟩
    unfold upd
    by_cases ei : i = k
    · by_cases ej : j = k
      · subst ei ej
        rw [C.dia _ hk] at h
        cases h
        simp
      · subst ei
        rw [if_pos rfl, if_neg ej]
        exact V.1 j (List.mem_filter.mpr ⟨List.mem_range.mpr hj, by simp [ej]⟩) c h
    · by_cases ej : j = k
      · subst ej
        rw [if_pos rfl, if_neg ei]
        exact V.2 i (List.mem_filter.mpr ⟨List.mem_range.mpr hi, by simp [ei]⟩) c h
      · rw [if_neg ei, if_neg ej]
        exact S i j c hi hj (by unfold freed; simp [ei, ej, h])
  · rintro ⟨v, S⟩ i j c hi hj h
    unfold freed at h
    by_cases e : i = k ∨ j = k
    · rw [if_pos e] at h
      by_cases e2 : i = j
      · subst e2
        rw [if_pos rfl] at h
        cases h
        omega
      · rw [if_neg e2] at h
        cases h
    · rw [if_neg e] at h
      have := S i j c hi hj h
      unfold upd at this
      rw [if_neg (by omega), if_neg (by omega)] at this
      exact this
end Zn

/-! As few literals as give a zone. Plain mathematics. -/
namespace Zn
def tied (d : Z) (i j : Nat) : Bool := match d i j, d j i with
  | some a, some b => decide (a + b = 0)
  | _, _ => false
theorem tied_iff {d : Z} {i j : Nat} : tied d i j = true ↔ ∃ a, d i j = some a ∧ d j i = some (-a) := by
  unfold tied
  cases d i j with
  | none => simp
  | some a =>
    cases d j i with
    | none => simp
    | some b =>
      simp
      omega
def headOf (d : Z) (i : Nat) : Nat := match (List.range i).find? (tied d i) with
  | some j => j
  | none => i
variable {m : Nat} {d : Z}
theorem tied_refl (C : Closed m d) {i : Nat} (hi : i < m) : tied d i i = true := tied_iff.mpr ⟨0, C.dia i hi, C.dia i hi⟩
theorem tied_symm {i j : Nat} (h : tied d i j = true) : tied d j i = true := by
  obtain ⟨a, h1, h2⟩ := tied_iff.mp h
  exact tied_iff.mpr ⟨-a, h2, by rw [h1]; exact congrArg some (by omega)⟩
theorem tied_add (C : Closed m d) {i j k : Nat} (hi : i < m) (hj : j < m) (hk : k < m) {a b : Int} (h1 : d i j = some a) (h2 : d j i = some (-a)) (h3 : d j k = some b) (h4 : d k j = some (-b)) : d i k = some (a + b) ∧ d k i = some (-(a + b)) := by
  obtain ⟨c, hc, lc⟩ := C.tri i j k a b hi hj hk h1 h3
  obtain ⟨e, he, le⟩ := C.tri k j i (-b) (-a) hk hj hi h4 h2
  obtain ⟨g, hg, lg⟩ := C.tri i k i c e hi hk hi hc he
  rw [C.dia i hi] at hg
  cases hg
  exact ⟨by rw [hc]; exact congrArg some (by omega), by rw [he]; exact congrArg some (by omega)⟩
theorem tied_trans (C : Closed m d) {i j k : Nat} (hi : i < m) (hj : j < m) (hk : k < m) (h1 : tied d i j = true) (h2 : tied d j k = true) : tied d i k = true := by
  obtain ⟨a, a1, a2⟩ := tied_iff.mp h1
  obtain ⟨b, b1, b2⟩ := tied_iff.mp h2
  obtain ⟨e1, e2⟩ := tied_add C hi hj hk a1 a2 b1 b2
  exact tied_iff.mpr ⟨_, e1, e2⟩
theorem find_range {p : Nat → Bool} : ∀ {n j : Nat}, (List.range n).find? p = some j → j < n ∧ p j = true ∧ ∀ k, k < j → p k = false := by
  intro n j h
  obtain ⟨hp, as, bs, e, hn⟩ := List.find?_eq_some_iff_append.mp h
  have hj : (List.range n)[as.length]? = some j := by rw [e]; simp
  have hlt : as.length < n := by
    have := (List.getElem?_eq_some_iff.mp hj).1
    simpa using this
  have ej : as.length = j := by
    rw [List.getElem?_range hlt] at hj
    exact Option.some.inj hj
  refine ⟨by omega, hp, fun k hk => ?_⟩
  have hk' : as[k]? = some k := by
    have h1 : (List.range n)[k]? = some k := List.getElem?_range (by omega)
    rw [e, List.getElem?_append_left (by omega)] at h1
    exact h1
  have := hn k (List.mem_of_getElem? hk')
  simpa using this
theorem head_le (d : Z) (i : Nat) : headOf d i ≤ i := by
  unfold headOf
  cases h : (List.range i).find? (tied d i) with
  | none => exact Nat.le_refl _
  | some j => exact Nat.le_of_lt (find_range h).1
theorem head_tied (C : Closed m d) {i : Nat} (hi : i < m) : tied d i (headOf d i) = true := by
  unfold headOf
  cases h : (List.range i).find? (tied d i) with
  | none => exact tied_refl C hi
  | some j => exact (find_range h).2.1
theorem head_least {i j : Nat} (h : tied d i j = true) : headOf d i ≤ j := by
  unfold headOf
  cases q : (List.range i).find? (tied d i) with
  | none =>
    by_cases hj : j < i
    · have := List.find?_eq_none.mp q j (List.mem_range.mpr hj)
      exact absurd h this
    · show i ≤ j
      omega
  | some k =>
    obtain ⟨_, _, h3⟩ := find_range q
    show k ≤ j
    by_cases hj : j < k
    · have := h3 j hj
      rw [h] at this
      cases this
    · omega
theorem head_eq (C : Closed m d) {i j : Nat} (hi : i < m) (hj : j < m) (h : tied d i j = true) : headOf d i = headOf d j := by
  have li := head_le d i
  have lj := head_le d j
  have h1 : headOf d i ≤ headOf d j := head_least (tied_trans C hi hj (by omega) h (head_tied C hj))
  have h2 : headOf d j ≤ headOf d i := head_least (tied_trans C hj hi (by omega) (tied_symm h) (head_tied C hi))
  omega
theorem head_head (C : Closed m d) {i : Nat} (hi : i < m) : headOf d (headOf d i) = headOf d i := by
  have li := head_le d i
  exact (head_eq C hi (by omega) (head_tied C hi)).symm
def group (d : Z) (m h : Nat) : List Nat := (List.range m).filter fun i => headOf d i == h
def pairs (g : List Nat) : List (Nat × Nat) := g.zip (g.drop 1 ++ g.take 1)
def num (d : Z) (i j : Nat) : Int := (d i j).getD 0
def firsts (d : Z) (m : Nat) : List Nat := (List.range m).filter fun i => headOf d i == i
def btw (d : Z) (n : Int) (i j k : Nat) : Bool := k != i && (k != j && match d i k, d k j with
  | some a, some b => decide (a + b ≤ n)
  | _, _ => false)
def needed (d : Z) (F : List Nat) (i j : Nat) : Bool := match d i j with
  | none => false
  | some n => !F.any (btw d n i j)
def ringLits (d : Z) (m h : Nat) : List Lit := if 1 < (group d m h).length then (pairs (group d m h)).map fun p => (p.1, p.2, num d p.1 p.2) else []
def restLits (d : Z) (m i : Nat) : List Lit := ((firsts d m).filter fun j => i != j && needed d (firsts d m) i j).map fun j => (i, j, num d i j)
def lits (d : Z) (m : Nat) : List Lit := (List.range m).flatMap (ringLits d m) ++ (firsts d m).flatMap (restLits d m)
theorem mem_group {h i : Nat} : i ∈ group d m h ↔ i < m ∧ headOf d i = h := by
  unfold group
  rw [List.mem_filter, List.mem_range]
  simp
theorem mem_firsts {i : Nat} : i ∈ firsts d m ↔ i < m ∧ headOf d i = i := by
  unfold firsts
  rw [List.mem_filter, List.mem_range]
  simp
theorem mem_pairs {g : List Nat} {p : Nat × Nat} (h : p ∈ pairs g) : p.1 ∈ g ∧ p.2 ∈ g := by
  obtain ⟨h1, h2⟩ := List.of_mem_zip (show (p.1, p.2) ∈ g.zip (g.drop 1 ++ g.take 1) from h)
  refine ⟨h1, ?_⟩
  rcases List.mem_append.mp h2 with h | h
  · exact List.mem_of_mem_drop h
  · exact List.mem_of_mem_take h
theorem num_of {i j : Nat} {c : Int} (h : d i j = some c) : num d i j = c := by
  unfold num
  rw [h]
  rfl
/-- what never falls along a ring stays -/
theorem ring_flat {y : Nat → Int} : ∀ (l : List Nat) (s e : Nat), (∀ p ∈ (s :: l).zip (l ++ [e]), y p.1 ≤ y p.2) → (∀ q ∈ l, y s ≤ y q) ∧ ∀ p ∈ s :: l, y p ≤ y e
  | [], s, e, H => by
    have h := H (s, e) (by simp)
    exact ⟨fun q hq => (by cases hq), fun p hp => by
      have : p = s := by simpa using hp
      rw [this]
      exact h⟩
  | a :: l, s, e, H => by
    have h0 := H (s, a) (by simp)
    obtain ⟨h1, h2⟩ := ring_flat l a e fun p hp => H p (by
      show p ∈ (s :: a :: l).zip (a :: (l ++ [e]))
      rw [List.zip_cons_cons]
      exact List.mem_cons_of_mem _ hp)
    simp only at h0
    refine ⟨fun q hq => ?_, fun p hp => ?_⟩
    · rcases List.mem_cons.mp hq with rfl | hq
      · exact h0
      · have := h1 q hq
        omega
    · rcases List.mem_cons.mp hp with rfl | hp
      · have := h2 a (List.mem_cons_self ..)
        omega
      · exact h2 p hp
theorem pairs_flat {y : Nat → Int} {g : List Nat} (H : ∀ p ∈ pairs g, y p.1 ≤ y p.2) {a b : Nat} (ha : a ∈ g) (hb : b ∈ g) : y a = y b := by
  cases g with
  | nil => cases ha
  | cons s l =>
    obtain ⟨h1, h2⟩ := ring_flat l s s (by
      intro p hp
      refine H p ?_
      unfold pairs
      simpa using hp)
    have f : ∀ q ∈ s :: l, y q = y s := fun q hq => by
      have := h2 q hq
      rcases List.mem_cons.mp hq with rfl | hq
      · rfl
      · have := h1 q hq
        omega
    rw [f a ha, f b hb]
theorem filter_lt {α : Type} {p q : α → Bool} : ∀ {F : List α} {k : α}, (∀ y ∈ F, p y = true → q y = true) → k ∈ F → q k = true → p k = false → (F.filter p).length < (F.filter q).length
  | [], k, _, hk, _, _ => by cases hk
  | a :: F, k, H, hk, hq, hp => by
    have mono : (F.filter p).length ≤ (F.filter q).length := by
      have : ∀ G : List α, (∀ y ∈ G, p y = true → q y = true) → (G.filter p).length ≤ (G.filter q).length := by
        intro G
        induction G with
        | nil => intro _; simp
        | cons b G ih =>
          intro hG
          have i1 := ih fun y hy => hG y (List.mem_cons_of_mem _ hy)
          by_cases pb : p b = true
          · have qb := hG b (List.mem_cons_self ..) pb
            simp only [List.filter_cons, pb, qb, if_true, List.length_cons]
            omega
          · by_cases qb : q b = true
            · simp only [List.filter_cons, pb, qb, if_true, List.length_cons]
              simp
              omega
            · simp only [List.filter_cons, pb, qb]
              simpa using i1
      exact this F fun y hy => H y (List.mem_cons_of_mem _ hy)
    rcases List.mem_cons.mp hk with rfl | hk
    · simp only [List.filter_cons, hq, hp, if_true, List.length_cons]
      simp
      omega
    · have ih := filter_lt (fun y hy => H y (List.mem_cons_of_mem _ hy)) hk hq hp
      by_cases pb : p a = true
      · have qb := H a (List.mem_cons_self ..) pb
        simp only [List.filter_cons, pb, qb, if_true, List.length_cons]
        omega
      · by_cases qb : q a = true
        · simp only [List.filter_cons, pb, qb, if_true, List.length_cons]
          simp
          omega
        · simp only [List.filter_cons, pb, qb]
          simpa using ih
theorem btw_iff {n : Int} {i j k : Nat} : btw d n i j k = true ↔ k ≠ i ∧ k ≠ j ∧ ∃ a b, d i k = some a ∧ d k j = some b ∧ a + b ≤ n := by
  unfold btw
  cases d i k <;> cases d k j <;> simp
theorem rest_sat (C : Closed m d) {x : Nat → Int} (H : ∀ i ∈ firsts d m, ∀ l ∈ restLits d m i, Hl x l) : ∀ (n i j : Nat) (c : Int), ((firsts d m).filter (btw d c i j)).length < n → i ∈ firsts d m → j ∈ firsts d m → i ≠ j → d i j = some c → x i ≤ x j + c
  | 0, i, j, c, hn, _, _, _, _ => by omega
  | n + 1, i, j, c, hn, hi, hj, hij, hc => by
    obtain ⟨mi, fi⟩ := mem_firsts.mp hi
    obtain ⟨mj, fj⟩ := mem_firsts.mp hj
    cases q : (firsts d m).any (btw d c i j) with
    | false =>
      have : needed d (firsts d m) i j = true := by
        unfold needed
        rw [hc]
        simp only [q]
        rfl
      have h := H i hi (i, j, num d i j) (List.mem_map.mpr ⟨j, List.mem_filter.mpr ⟨hj, by simp [hij, this]⟩, rfl⟩)
      unfold Hl at h
      rw [num_of hc] at h
      exact h
    | true =>
      obtain ⟨k, hk, hb⟩ := List.any_eq_true.mp q
      obtain ⟨mk, fk⟩ := mem_firsts.mp hk
      obtain ⟨ki, kj, a, b, ha, hb2, le⟩ := btw_iff.mp hb
      have apart : ∀ {u v : Nat}, u ∈ firsts d m → v ∈ firsts d m → u ≠ v → ∀ {e f : Int}, d u v = some e → d v u = some f → 0 < e + f := by
        intro u v hu hv huv e f he hf
        obtain ⟨mu, fu⟩ := mem_firsts.mp hu
        obtain ⟨mv, fv⟩ := mem_firsts.mp hv
        obtain ⟨g, hg, lg⟩ := C.tri u v u e f mu mv mu he hf
        rw [C.dia u mu] at hg
        cases hg
        by_cases z : e + f = 0
        · have t : tied d u v = true := tied_iff.mpr ⟨e, he, by rw [hf]; exact congrArg some (by omega)⟩
          have := head_eq C mu mv t
          omega
        · omega
      have l1 : ((firsts d m).filter (btw d a i k)).length < ((firsts d m).filter (btw d c i j)).length := by
        refine filter_lt (k := k) (fun y hy hyb => ?_) hk hb ?_
        · obtain ⟨my, fy⟩ := mem_firsts.mp hy
          obtain ⟨yi, yk, a1, a2, h1, h2, l12⟩ := btw_iff.mp hyb
          obtain ⟨e, he, le2⟩ := C.tri y k j a2 b my mk mj h2 hb2
          refine btw_iff.mpr ⟨yi, fun yj => ?_, a1, e, h1, he, by omega⟩
          subst yj
          rw [hc] at h1
          cases h1
          have := apart hj hk (fun z => kj z.symm) h2 hb2
          omega
        · cases z : btw d a i k k with
          | false => rfl
          | true => exact absurd rfl (btw_iff.mp z).2.1
      have l2 : ((firsts d m).filter (btw d b k j)).length < ((firsts d m).filter (btw d c i j)).length := by
        refine filter_lt (k := k) (fun y hy hyb => ?_) hk hb ?_
        · obtain ⟨my, fy⟩ := mem_firsts.mp hy
          obtain ⟨yk, yj, a1, a2, h1, h2, l12⟩ := btw_iff.mp hyb
          obtain ⟨e, he, le2⟩ := C.tri i k y a a1 mi mk my ha h1
          refine btw_iff.mpr ⟨fun yi => ?_, yj, e, a2, he, h2, by omega⟩
          subst yi
          rw [hc] at h2
          cases h2
          have := apart hk hi ki h1 ha
          omega
        · cases z : btw d b k j k with
          | false => rfl
          | true => exact absurd rfl (btw_iff.mp z).1
      have r1 := rest_sat C H n i k a (by omega) hi hk (fun z => ki z.symm) ha
      have r2 := rest_sat C H n k j b (by omega) hk hj kj hb2
      omega
theorem group_one {h : Nat} (hl : ¬ 1 < (group d m h).length) {a b : Nat} (ha : a ∈ group d m h) (hb : b ∈ group d m h) : a = b := by
  cases g : group d m h with
  | nil => rw [g] at ha; cases ha
  | cons s l =>
    cases l with
    | nil =>
      rw [g] at ha hb
      simp at ha hb
      omega
    | cons t l =>
      rw [g] at hl
      simp at hl
theorem lits_ok (C : Closed m d) : Ok m (lits d m) := by
  intro l hl
  unfold lits at hl
  rcases List.mem_append.mp hl with hl | hl
  · obtain ⟨h, hh, hl⟩ := List.mem_flatMap.mp hl
    unfold ringLits at hl
    by_cases q : 1 < (group d m h).length
    · rw [if_pos q] at hl
      obtain ⟨p, hp, rfl⟩ := List.mem_map.mp hl
      obtain ⟨h1, h2⟩ := mem_pairs hp
      exact ⟨(mem_group.mp h1).1, (mem_group.mp h2).1⟩
    · rw [if_neg q] at hl
      cases hl
  · obtain ⟨i, hi, hl⟩ := List.mem_flatMap.mp hl
    obtain ⟨j, hj, rfl⟩ := List.mem_map.mp hl
    exact ⟨(mem_firsts.mp hi).1, (mem_firsts.mp (List.mem_filter.mp hj).1).1⟩
theorem lits_sat (C : Closed m d) (x : Nat → Int) : All x (lits d m) ↔ Sat m d x := by
  constructor
  · intro A
    have R : ∀ h, h < m → ∀ l ∈ ringLits d m h, Hl x l := fun h hh l hl => A l (List.mem_append_left _ (List.mem_flatMap.mpr ⟨h, List.mem_range.mpr hh, hl⟩))
    have F : ∀ i ∈ firsts d m, ∀ l ∈ restLits d m i, Hl x l := fun i hi l hl => A l (List.mem_append_right _ (List.mem_flatMap.mpr ⟨i, hi, hl⟩))
    -- each index differs from its head by a fixed number
    have key : ∀ i, i < m → x i = x (headOf d i) + num d i (headOf d i) := by
      intro i hi
      have li := head_le d i
      have hm : headOf d i < m := by omega
      by_cases q : 1 < (group d m (headOf d i)).length
      · have := pairs_flat (y := fun k => x k - num d k (headOf d i)) (g := group d m (headOf d i)) (fun p hp => by
          obtain ⟨h1, h2⟩ := mem_pairs hp
          obtain ⟨m1, e1⟩ := mem_group.mp h1
          obtain ⟨m2, e2⟩ := mem_group.mp h2
          have hl := R _ hm (p.1, p.2, num d p.1 p.2) (by
            unfold ringLits
            rw [if_pos q]
            exact List.mem_map.mpr ⟨p, hp, rfl⟩)
          unfold Hl at hl
          simp only at hl
          have t1 := head_tied C m1
          have t2 := head_tied C m2
          rw [e1] at t1
          rw [e2] at t2
          obtain ⟨a, a1, a2⟩ := tied_iff.mp t1
          obtain ⟨b, b1, b2⟩ := tied_iff.mp t2
          obtain ⟨c1, c2⟩ := tied_add C m1 hm m2 a1 a2 b2 (by rw [b1]; exact congrArg some (by omega))
          rw [num_of c1] at hl
          show x p.1 - num d p.1 (headOf d i) ≤ x p.2 - num d p.2 (headOf d i)
          rw [num_of a1, num_of b1]
          omega) (mem_group.mpr ⟨hi, rfl⟩) (mem_group.mpr ⟨hm, head_head C hi⟩)
        have this : x i - num d i (headOf d i) = x (headOf d i) - num d (headOf d i) (headOf d i) := this
        rw [num_of (C.dia _ hm)] at this
        omega
      · have e : i = headOf d i := group_one q (mem_group.mpr ⟨hi, rfl⟩) (mem_group.mpr ⟨hm, head_head C hi⟩)
        rw [← e, num_of (C.dia i hi)]
        omega
    intro i j c hi hj hc
    have k1 := key i hi
    have k2 := key j hj
    have li := head_le d i
    have lj := head_le d j
    have hmi : headOf d i < m := by omega
    have hmj : headOf d j < m := by omega
    obtain ⟨a, a1, a2⟩ := tied_iff.mp (head_tied C hi)
    obtain ⟨b, b1, b2⟩ := tied_iff.mp (head_tied C hj)
    rw [num_of a1] at k1
    rw [num_of b1] at k2
    obtain ⟨e, he, le⟩ := C.tri _ _ _ _ _ hmi hi hj a2 hc
    obtain ⟨f, hf, lf⟩ := C.tri _ _ _ _ _ hmi hj hmj he b1
    have hF1 : headOf d i ∈ firsts d m := mem_firsts.mpr ⟨hmi, head_head C hi⟩
    have hF2 : headOf d j ∈ firsts d m := mem_firsts.mpr ⟨hmj, head_head C hj⟩
    by_cases q : headOf d i = headOf d j
    · rw [← q] at k2 hf
      rw [C.dia _ hmi] at hf
      cases hf
      omega
    · have := rest_sat C F _ _ _ f (Nat.lt_succ_self _) hF1 hF2 q hf
      omega
  · intro S l hl
    unfold lits at hl
    rcases List.mem_append.mp hl with hl | hl
    · obtain ⟨h, hh, hl⟩ := List.mem_flatMap.mp hl
      unfold ringLits at hl
      by_cases q : 1 < (group d m h).length
      · rw [if_pos q] at hl
        obtain ⟨p, hp, rfl⟩ := List.mem_map.mp hl
        obtain ⟨h1, h2⟩ := mem_pairs hp
        obtain ⟨m1, e1⟩ := mem_group.mp h1
        obtain ⟨m2, e2⟩ := mem_group.mp h2
        have t : tied d p.1 p.2 = true := tied_trans C m1 (List.mem_range.mp hh) m2 (by have := head_tied C m1; rw [e1] at this; exact this) (tied_symm (by have := head_tied C m2; rw [e2] at this; exact this))
        obtain ⟨a, a1, a2⟩ := tied_iff.mp t
        have := S _ _ _ m1 m2 a1
        unfold Hl
        simp only
        rw [num_of a1]
        exact this
      · rw [if_neg q] at hl
        cases hl
    · obtain ⟨i, hi, hl⟩ := List.mem_flatMap.mp hl
      obtain ⟨j, hj, rfl⟩ := List.mem_map.mp hl
      obtain ⟨hj, hp⟩ := List.mem_filter.mp hj
      have hn : needed d (firsts d m) i j = true := by
        simp at hp
        exact hp.2
      unfold needed at hn
      cases hc : d i j with
      | none => rw [hc] at hn; cases hn
      | some c =>
        have := S _ _ _ (mem_firsts.mp hi).1 (mem_firsts.mp hj).1 hc
        unfold Hl
        simp only
        rw [num_of hc]
        exact this
end Zn

/-! Own operators of own classes: in, comparisons, & | - and the like, o[i]. -/
namespace Ow
open PySem PySem.Spec PyProof.Rows L2
section
variable {X : Cx} {k j : Nat} {C : Addr} {sp : Sp}
/-- the heap at a call of a method of a met instance -/
theorem met_at {pins : List (Addr × Obj)} {σ : L2.St} {H : Hp} {s : Shared} {a dx : Addr} {fs : List (Str × V)} (I : Inv X pins σ H s) (h : H a = some (.ins C dx fs)) : ∃ (ox : Obj) (od : Option Obj), PySem.W.InstAt s.heap a ox C od := by
  obtain ⟨mA, J, _⟩ := ins_get I.hok h
  obtain ⟨od, J, _⟩ := J.look
  exact ⟨_, _, J⟩
/-- x in o, by the class's own __contains__ -/
def rInM (C : Addr) (sp : Sp) : R2 := fun x y H Q => ∃ a dx fs, y = .ref a ∧ H a = some (.ins C dx fs) ∧ sp [.ref a, x] H (fun v H' => ∃ b, v = .bl b ∧ Q (.bl b) H') C8.E0
theorem op_inM (c : C8.Met X.prog X.w X.K X.mg X.base k C "__contains__" sp []) (hr : Room j X.A) (hk : k ≤ j) : OpR X (compareOp .In) (rInM C sp) := by
  obtain ⟨f, fd, ps, ds, _, me, F, b, d⟩ := c.ex
  cases d
  intro pins s σ H x y v u Q I rx ry h
  obtain ⟨a, dx, fs, rfl, ha, h⟩ := h
  cases ry
  obtain ⟨ox, od, J⟩ := met_at I ha
  obtain ⟨m, hF⟩ := I.fr
  refine PySem.W.in_K hF I.ok.mod.kin J me.at_ me.fn (wpAny_mono (run_fn (vs := [.ref a, x]) F (hr.mono hk) b .nil C8.pass0 I (.cons rfl (.cons rx .nil)) h) (fun r s' hq => ?_) fun _ _ z => z)
  obtain ⟨z, H', I', rz, t, rfl, q⟩ := hq
  cases rz
  exact wpAny_truthy_bool ⟨.bl t, H', I', rfl, q⟩
def rNotInM (C : Addr) (sp : Sp) : R2 := fun x y H Q => ∃ a dx fs, y = .ref a ∧ H a = some (.ins C dx fs) ∧ sp [.ref a, x] H (fun v H' => ∃ b, v = .bl b ∧ Q (.bl (!b)) H') C8.E0
theorem op_notInM (c : C8.Met X.prog X.w X.K X.mg X.base k C "__contains__" sp []) (hr : Room j X.A) (hk : k ≤ j) : OpR X (compareOp .NotIn) (rNotInM C sp) := by
  obtain ⟨f, fd, ps, ds, _, me, F, b, d⟩ := c.ex
  cases d
  intro pins s σ H x y v u Q I rx ry h
  obtain ⟨a, dx, fs, rfl, ha, h⟩ := h
  cases ry
  obtain ⟨ox, od, J⟩ := met_at I ha
  obtain ⟨m, hF⟩ := I.fr
  refine PySem.W.notIn_K hF I.ok.mod.kin J me.at_ me.fn (wpAny_mono (run_fn (vs := [.ref a, x]) F (hr.mono hk) b .nil C8.pass0 I (.cons rfl (.cons rx .nil)) h) (fun r s' hq => ?_) fun _ _ z => z)
  obtain ⟨z, H', I', rz, t, rfl, q⟩ := hq
  cases rz
  exact wpAny_truthy_bool ⟨.bl (!t), H', I', rfl, q⟩
/-- a value that no operator hands back for «not mine» -/
def told : V → Prop := fun v => ∀ u, RelV v u → u ≠ .notImplemented
theorem told_bl {b : Bool} : told (.bl b) := fun u r => by cases r; intro z; cases z
theorem told_ref {a : Addr} : told (.ref a) := fun u r => by cases r; intro z; cases z
theorem cmpBack_of {Q : Value → Shared → Prop} {u : Value} {s' : Shared} (h : u ≠ .notImplemented) (q : Q u s') : PySem.W.CmpBack Q u s' := by
  cases u <;> first | exact absurd rfl h | exact q
/-- a == b, a <= b .. of two instances of the class at C, by its own method -/
def r2M (C : Addr) (sp : Sp) : R2 := fun x y H Q => ∃ a b dx dy fs gs, x = .ref a ∧ y = .ref b ∧ H a = some (.ins C dx fs) ∧ H b = some (.ins C dy gs) ∧ sp [.ref a, .ref b] H (fun v H' => told v ∧ Q v H') C8.E0
theorem cmpM {op : CmpOp} (hc : ∀ v u, compareOp op v u = richCompare op v u) (c : C8.Met X.prog X.w X.K X.mg X.base k C (cmpInfo op).2.1 sp []) (hr : Room j X.A) (hk : k ≤ j) : OpR X (compareOp op) (r2M C sp) := by
  obtain ⟨f, fd, ps, ds, _, me, F, b, d⟩ := c.ex
  cases d
  intro pins s σ H x y v u Q I rx ry h
  obtain ⟨a, b', dx, dy, fs, gs, rfl, rfl, ha, hb, h⟩ := h
  cases rx
  cases ry
  obtain ⟨ox, od, J⟩ := met_at I ha
  obtain ⟨oy, oe, J'⟩ := met_at I hb
  obtain ⟨m, hF⟩ := I.fr
  rw [hc]
  refine PySem.W.cmp_K (tb := .ref C) hr.units0 hF I.ok.mod.kin J J'.type (by simp [PySem.W.notFirst]) me.at_ me.fn (wpAny_mono (run_fn (vs := [.ref a, .ref b']) F (hr.mono hk) b .nil C8.pass0 I (.cons rfl (.cons rfl .nil)) h) (fun r s' hq => ?_) fun _ _ z => z)
  obtain ⟨z, H', I', rz, t, q⟩ := hq
  exact cmpBack_of (t r rz) ⟨z, H', I', rz, q⟩
theorem op_eqM (c : C8.Met X.prog X.w X.K X.mg X.base k C "__eq__" sp []) (hr : Room j X.A) (hk : k ≤ j) : OpR X (compareOp .Eq) (r2M C sp) := cmpM (op := .Eq) (fun _ _ => rfl) c hr hk
theorem op_leM (c : C8.Met X.prog X.w X.K X.mg X.base k C "__le__" sp []) (hr : Room j X.A) (hk : k ≤ j) : OpR X (compareOp .LtE) (r2M C sp) := cmpM (op := .LtE) (fun _ _ => rfl) c hr hk
theorem binM {op : Operator} (hC : PySem.W.selfFirst X.K C = true) (c : C8.Met X.prog X.w X.K X.mg X.base k C (PySem.dunder op.info.2) sp []) (hr : Room j X.A) (hk : k ≤ j) : OpR X (binaryOp op) (r2M C sp) := by
  obtain ⟨f, fd, ps, ds, _, me, F, b, d⟩ := c.ex
  cases d
  intro pins s σ H x y v u Q I rx ry h
  obtain ⟨a, b', dx, dy, fs, gs, rfl, rfl, ha, hb, h⟩ := h
  cases rx
  cases ry
  obtain ⟨ox, od, J⟩ := met_at I ha
  obtain ⟨oy, oe, J'⟩ := met_at I hb
  obtain ⟨m, hF⟩ := I.fr
  refine PySem.W.binop_K hF I.ok.mod.kin J J'.type hC me.at_ me.fn (wpAny_mono (run_fn (vs := [.ref a, .ref b']) F (hr.mono hk) b .nil C8.pass0 I (.cons rfl (.cons rfl .nil)) h) (fun r s' hq => ?_) fun _ _ z => z)
  obtain ⟨z, H', I', rz, t, q⟩ := hq
  exact cmpBack_of (t r rz) ⟨z, H', I', rz, q⟩
theorem op_andM (hC : PySem.W.selfFirst X.K C = true) (c : C8.Met X.prog X.w X.K X.mg X.base k C "__and__" sp []) (hr : Room j X.A) (hk : k ≤ j) : OpR X (binaryOp .BitAnd) (r2M C sp) := binM (op := .BitAnd) hC c hr hk
theorem op_orM (hC : PySem.W.selfFirst X.K C = true) (c : C8.Met X.prog X.w X.K X.mg X.base k C "__or__" sp []) (hr : Room j X.A) (hk : k ≤ j) : OpR X (binaryOp .BitOr) (r2M C sp) := binM (op := .BitOr) hC c hr hk
theorem op_subM (hC : PySem.W.selfFirst X.K C = true) (c : C8.Met X.prog X.w X.K X.mg X.base k C "__sub__" sp []) (hr : Room j X.A) (hk : k ≤ j) : OpR X (binaryOp .Sub) (r2M C sp) := binM (op := .Sub) hC c hr hk
/-- o[i], by the class's own __getitem__ -/
def rIxM (C : Addr) (sp : Sp) : R2 := fun x y H Q => ∃ a dx fs, x = .ref a ∧ H a = some (.ins C dx fs) ∧ sp [.ref a, y] H Q C8.E0
def PlainIxT (b : Expr) : Prop := ∀ (x : Addr) (i : Value), subscripted b true (.ref x) i = runValue (.builtin "lifetime.subscript" ⟨[.ref x, i], []⟩)
theorem fnIn_of {K : PySem.W.Frag} {f : Addr} {oc : Value} {od : Option Addr} {fd : FuncData} {osl : Array (Option Value)} (h : K.lookup f = some ⟨oc, od, .func fd, osl⟩) : PySem.W.fnIn K f = true := by
  unfold PySem.W.fnIn
  rw [h]
variable {a b : Expr} {ta tb : TE} {pos : Pos}
theorem pe_ixM (c : C8.Met X.prog X.w X.K X.mg X.base k C "__getitem__" sp []) (hf : ∀ f, Meth X.K C "__getitem__" f → PySem.W.fnIn X.K f = true) (hr : Room (j + 1) X.A) (hk : k ≤ j) (ha : PE X a ta) (hb : PE X b tb) (hs : PlainIxT b) :
    PE X (.Subscript a b pos) (tOp (rIxM C sp) ta tb) := by
  obtain ⟨f, fd, ps, ds, _, me, F, bi, d⟩ := c.ex
  cases d
  refine ⟨fun pins s σ H Q I h => ?_⟩
  refine Subscript_ (binT ha hb I h fun v u s2 x y H2 I2 rx ry q => ?_)
  obtain ⟨p, dx, fs, rfl, hp, q⟩ := q
  cases rx
  obtain ⟨ox, od, J⟩ := met_at I2 hp
  obtain ⟨m, hF⟩ := I2.fr
  refine PySem.W.sub_K hF I2.ok.mod.kin J me.at_ (hf f me) me.fn ?_ (hs _ _)
  have r2 : Vals [V.ref p, y] [Value.ref p, u] := .cons rfl (.cons ry .nil)
  have hl : ([Value.ref p, u] ++ []).length = ps.length := by
    rw [List.append_nil, ← r2.length]
    exact F.len _ _ _ _ q
  refine wpAny_call (codeAny_mono (F.run X.A.in1 X.stack s2 H2 ⟨[.ref p, u], []⟩ ([.ref p, u] ++ []) [.ref p, y] Q C8.E0 (hr.in1.mono hk) I2.env0.in1 (bi s2 [.ref p, u] I2.kIn hl) (by simpa using r2) q) fun r s' hq => ?_)
  cases r with
  | error e => exact (C8.pass0 (X := X) (E := C8.E0) pins σ H2 s2 e s' I2 hq)
  | ok fl =>
    cases fl with
    | ret w => exact I2.after hq
    | next => exact False.elim hq
    | brk => exact False.elim hq
    | cont => exact False.elim hq
end
end Ow

/-! sorted(set(texts)) of a list, as one expression -/
namespace Tx
open PySem PySem.Spec PyProof.Rows L2
def txOf (e : Int × Value) : Str := match e.2 with
  | .str k _ => k
  | _ => Str.empty
def Txt (w : World) (e : Int × Value) : Prop := ∃ k tk, e.2 = Value.str k tk ∧ e.1 = hashStr w k
/-- the set of texts at a -/
def SetT (w : World) (h : Heap) (a : Addr) (S : Str → Bool) (n : Nat) : Prop :=
  ∃ (o : Obj) (es : Array (Int × Value)) (ep : Nat) (t : SetTable), h.get? a = some o ∧ o.ExactSet ∧ o.data = .set es ep t ∧ (∀ e ∈ es.toList, Txt w e) ∧ (es.toList.map txOf).Nodup ∧ (∀ k, S k = true ↔ k ∈ es.toList.map txOf) ∧
    es.size < scanBound ∧ t.fits es.size = true ∧ es.size = n ∧ Ris t.place.toList ∧ (w.params.followText "set-order" = true ∨ t.led = true)
section
variable {P : Program} {w : World} {h h' : Heap} {a : Addr} {S : Str → Bool} {n : Nat}
theorem SetT.at (x : SetT w h a S n) (k : ∀ o, h.get? a = some o → h'.get? a = some o) : SetT w h' a S n := by
  obtain ⟨o, es, ep, t, ho, z⟩ := x
  exact ⟨o, es, ep, t, k o ho, z⟩
theorem SetT.congr {S' : Str → Bool} (x : SetT w h a S n) (e : ∀ k, S' k = S k) : SetT w h a S' n := (funext e : S' = S) ▸ x
theorem txt_elems {l : List (Int × Value)} (g : ∀ e ∈ l, Txt w e) : ElemsOf (strKind P w) l := fun e he => by
  obtain ⟨k, tk, h1, h2⟩ := g e he
  exact ⟨⟨k, by rw [h1]; exact strKind_is P w k tk, h2⟩, by rw [h1] <;> rfl⟩
theorem txt_is {e : Int × Value} (g : Txt w e) (k : Str) : (strKind P w).is k e.2 = true ↔ txOf e = k := by
  obtain ⟨k0, tk, h1, _⟩ := g
  unfold txOf
  rw [h1]
  constructor
  · intro z
    exact (strKind P w).inj (.str k0 tk) k0 k (strKind_is P w k0 tk) z
  · intro z
    rw [← z]
    exact strKind_is P w k0 tk
theorem txt_mem {l : List (Int × Value)} (g : ∀ e ∈ l, Txt w e) (k : Str) : k ∈ l.map txOf ↔ ∃ e ∈ l, (strKind P w).is k e.2 = true := by
  rw [List.mem_map]
  exact ⟨fun ⟨e, he, q⟩ => ⟨e, he, (txt_is (g e he) k).2 q⟩, fun ⟨e, he, q⟩ => ⟨e, he, (txt_is (g e he) k).1 q⟩⟩
end
section
variable {P : Program} {w : World} {A : Around} {E : Value → Shared → Prop} {s : Shared} {a : Addr} {S : Str → Bool} {n : Nat}
theorem setT_tail {g : Bool → Sem Unit} (hg : ∀ (b : Bool) (s₁ : Shared) (Q' : Unit → Shared → Prop), Q' () s₁ → wpAny (model P w) A (g b) Q' E s₁)
    {o : Obj} {es : Array (Int × Value)} {ep : Nat} {t : SetTable} (ho : s.heap.get? a = some o) (hex : o.ExactSet) (hd : o.data = .set es ep t)
    {es1 : Array (Int × Value)} {t2 : SetTable} {S' : Str → Bool} (g1 : ∀ e ∈ es1.toList, Txt w e) (nd1 : (es1.toList.map txOf).Nodup) (m1 : ∀ k, S' k = true ↔ k ∈ es1.toList.map txOf)
    (hb1 : es1.size < scanBound) (hf2 : t2.fits es1.size = true) (hr : Ris t2.place.toList) (hl : w.params.followText "set-order" = true ∨ t2.led = true) {wasDummy : Bool} {R : Option Bool → Shared → Prop}
    (hR : ∀ h', Heap.SameBut a s.heap h' → SetT w h' a S' es1.size → R (some true) { s with heap := h' }) :
    wpAny (model P w) A (do
        storeSet a es1 t2
        if (!wasDummy && t2.tooFull) = true then do
            g (relayAll t2 es1 (SetTable.grown es1.size)).2.2
            storeSet a (relayAll t2 es1 (SetTable.grown es1.size)).1 (relayAll t2 es1 (SetTable.grown es1.size)).2.1
            pure (some true)
          else pure (some true)) R E s := by
  have ho1 := store_at (es' := es1) (t' := t2) ho hd
  have sb1 := Heap.SameBut.update s.heap a (Obj.putSet es1 t2)
  refine wpAny_bind (wpAny_storeSet_of ho hd ?_ (fits_of_scanBound hb1))
  split
  · have pm := relayAll_perm t2 es1 (SetTable.grown es1.size)
    have hf3 := relayAll_fits t2 es1 (SetTable.grown es1.size)
    have hr3 := relayAll_ris t2 es1 (SetTable.grown es1.size)
    have hl3 := relayAll_led t2 es1 (SetTable.grown es1.size)
    generalize relayAll t2 es1 (SetTable.grown es1.size) = Z at pm hf3 hr3 hl3 ⊢
    obtain ⟨es2, t3, gave⟩ := Z
    dsimp only at pm hf3 hr3 hl3 ⊢
    have e2 : es2.size = es1.size := by rw [← Array.length_toList, pm.length_eq, Array.length_toList]
    refine wpAny_bind (hg _ _ _ (wpAny_bind (wpAny_storeSet_of ho1 rfl ?_ (fits_of_scanBound (by rw [e2]; exact hb1)))))
    have ho2 := store_at (es' := es2) (t' := t3) ho1 rfl
    refine wpAny_pure (hR _ (sb1.trans (Heap.SameBut.update _ a _)) ⟨_, es2, _, t3, ho2, hex, rfl, fun e he => g1 e (pm.mem_iff.mp he), (pm.map txOf).nodup_iff.mpr nd1, fun k => (m1 k).trans (pm.map txOf).mem_iff.symm, by rw [e2]; exact hb1, hf3, e2, hr3, ?_⟩)
    rw [hl3]
    exact hl
  · exact wpAny_pure (hR _ sb1 ⟨_, es1, _, t2, ho1, hex, rfl, g1, nd1, m1, hb1, hf2, rfl, hr, hl⟩)
theorem setT_add {k : Str} {tk : Tok} {Q : Bool → Shared → Prop} (x : SetT w s.heap a S n) (room : n + 1 < scanBound)
    (hQ : ∀ h', Heap.SameBut a s.heap h' → SetT w h' a (fun j => S j || decide (j = k)) (if S k = true then n else n + 1) → Q (!S k) { s with heap := h' }) :
    wpAny (model P w) A (setAddHashed a (.str k tk) ((strKind P w).hash k)) Q E s := by
  obtain ⟨o, es, ep, t, ho, hex, hd, g, nd, hm, hb, hf, hn, hr, hl⟩ := x
  have hkey : (strKind P w).is k (.str k tk) = true := strKind_is P w k tk
  have hsc : (Value.str k tk).scannable = true := rfl
  have hel : ElemsOf (strKind P w) es.toList := txt_elems g
  unfold setAddHashed setAddHashedIn
  refine wpAny_holding (wpAny_bind (wpAny_setState_of ho hd hf ?_))
  dsimp only
  rw [byScan_of hsc hb hel]
  simp only [↓reduceIte]
  unfold setAddByScan
  refine wpAny_bind (wpAny_bind (wpAny_rule ?_))
  refine wpAny_bind (wpAny_setScan_of hkey ho hd hf hel ?_)
  cases hfi : List.findIdx? (fun e => (strKind P w).is k e.2) es.toList with
  | some j =>
    dsimp only
    obtain ⟨hj, pj, _⟩ := List.findIdx?_eq_some_iff_getElem.mp hfi
    have hSk : S k = true := (hm k).2 ((txt_mem (P := P) (w := w) g k).2 ⟨es.toList[j], List.getElem_mem hj, pj⟩)
    have q := hQ s.heap (Heap.SameBut.refl a s.heap) ⟨o, es, ep, t, ho, hex, hd, g, nd, fun i => by
      rw [Bool.or_eq_true, decide_eq_true_eq, ← hm i]
      exact ⟨fun z => z.elim id (fun e => e ▸ hSk), .inl⟩, hb, hf, by rw [if_pos hSk]; exact hn, hr, hl⟩
    rw [hSk] at q
    exact wpAny_pure (wpAny_pure q)
  | none =>
    dsimp only
    have hnk : k ∉ es.toList.map txOf := fun z => by
      obtain ⟨e, he, q⟩ := (txt_mem (P := P) (w := w) g k).1 z
      exact absurd q (by rw [List.findIdx?_eq_none_iff.mp hfi e he]; exact Bool.false_ne_true)
    have hSk : S k = false := Bool.eq_false_iff.mpr fun q => hnk ((hm k).1 q)
    have hgw : ∀ (b : Bool) {s₁ : Shared} {Q' : Unit → Shared → Prop}, Q' () s₁ → wpAny (model P w) A (match b with | true => rule "set.scan.the-table-gave-way" | false => pure ()) Q' E s₁ :=
      fun b s₁ Q' q => by cases b <;> first | exact wpAny_pure q | exact wpAny_rule q
    have pm := layNew_perm t es ((strKind P w).hash k) (.str k tk)
    have hf1 := layNew_fits t es ((strKind P w).hash k) (.str k tk)
    have hr1 := layNew_ris t es ((strKind P w).hash k) (.str k tk) hr
    have hl1 := layNew_led t es ((strKind P w).hash k) (.str k tk)
    generalize layNew t es ((strKind P w).hash k) (.str k tk) = Z at pm hf1 hr1 hl1 ⊢
    obtain ⟨es1, t1, wasDummy, gave⟩ := Z
    dsimp only at pm hf1 hr1 hl1 ⊢
    rw [Array.toList_push] at pm
    have pc : es1.toList.Perm (((strKind P w).hash k, Value.str k tk) :: es.toList) := pm.trans (List.perm_append_singleton _ _)
    have pk : (es1.toList.map txOf).Perm (k :: es.toList.map txOf) := pc.map txOf
    have g1 : ∀ e ∈ es1.toList, Txt w e := fun e he => (List.mem_cons.mp (pc.mem_iff.mp he)).elim (fun z => by rw [z]; exact ⟨k, tk, rfl, rfl⟩) (g e)
    have nd1 : (es1.toList.map txOf).Nodup := pk.nodup_iff.mpr (List.nodup_cons.mpr ⟨hnk, nd⟩)
    have m1 : ∀ i, (S i || decide (i = k)) = true ↔ i ∈ es1.toList.map txOf := fun i => by
      rw [Bool.or_eq_true, decide_eq_true_eq, hm i, pk.mem_iff, List.mem_cons]
      exact Or.comm
    have e1 : es1.size = n + 1 := by rw [← Array.length_toList, pc.length_eq, List.length_cons, Array.length_toList, hn]
    have hled : w.params.followText "set-order" = true ∨ t1.led = true := by rw [hl1]; exact hl
    have fin : ∀ h', Heap.SameBut a s.heap h' → SetT w h' a (fun j => S j || decide (j = k)) es1.size → Q true { s with heap := h' } := fun h' sb r => by
      have q := hQ h' sb
      rw [hSk] at q
      rw [e1] at r
      exact q r
    have hb1 : es1.size < scanBound := by rw [e1]; exact room
    refine wpAny_bind (hgw _ ?_)
    split
    · refine wpAny_bind ?_
      rw [hashByValue_scannable 8 hsc]
      refine wpAny_pure (setT_tail ?_ ho hex hd g1 nd1 m1 hb1 ?_ ?_ ?_ ?_)
      · intro b s₁ Q' q; cases b <;> first | exact wpAny_pure q | exact wpAny_rule q
      · first | (split <;> first | exact hf1 | exact SetTable.fits_plain_off hf1) | exact hf1
      · first | (split <;> exact hr1) | exact hr1
      · first | (split <;> exact hled) | exact hled
      · intro h' sb r; dsimp only; exact wpAny_pure (fin h' sb r)
    · refine wpAny_bind (wpAny_pure ?_)
      simp only [↓reduceIte]
      refine setT_tail ?_ ho hex hd g1 nd1 m1 hb1 hf1 hr1 hled ?_
      · intro b s₁ Q' q; cases b <;> first | exact wpAny_pure q | exact wpAny_rule q
      · intro h' sb r; dsimp only; exact wpAny_pure (fin h' sb r)
theorem setT_loop {I : Addr} {fp wr : List Addr} {G : Array GenState → Array GenState → Prop} {n : Nat} {Pv : Nat → Value → Prop} {St : Nat → Shared → Prop} {R : Result → Shared → Prop}
    (W : WalksS P w A.in1 I fp wr G n Pv St) (C : Addr) (hCf : C ∉ fp) (xs : List Str) (hn : n = xs.length) (hb : xs.length + 1 < scanBound) (hval : ∀ i v, Pv i v → ∃ k t, xs[i]? = some k ∧ v = .str k t) :
    ∀ (k i : Nat) (s : Shared), n - i = k → i ≤ n → St i s → (∃ c, c ≤ i ∧ SetT w s.heap C (fun j => decide (j ∈ xs.take i)) c) →
      (∀ s' c, Moved (C :: wr) G s s' → c ≤ n → SetT w s'.heap C (fun j => decide (j ∈ xs)) c → R (.ok (.ret .none)) s') →
      codeAny (model P w) A (.builtin "set.update.loop" ⟨[.ref C, .ref I], []⟩) R s := by
  have hCw : C ∉ wr := fun h => hCf (W.sub _ h)
  have hsub : ∀ b ∈ wr, b ∈ C :: wr := fun b hb => List.mem_cons_of_mem _ hb
  intro k
  induction k with
  | zero =>
    intro i s hk' hi hst ⟨c, hc, x⟩ hR
    obtain rfl : i = n := by omega
    refine codeAny_builtin F.entry_set_update_loop ?_
    rw [Around.under_plainId F.plain_set_update_loop _]
    show wpAny _ A.in1 (pyNext (.ref I) >>= _) _ _ s
    refine wpAny_bind (W.done s _ _ hst fun s' hm => ?_)
    rw [show xs.take i = xs from List.take_of_length_le (by omega)] at x
    exact wpAny_pure (hR s' c (hm.mono hsub) hc (x.at fun o e => hm.heap C o hCw e))
  | succ k ih =>
    intro i s hk' hi hst ⟨c, hc, x⟩ hR
    have hlt : i < n := by omega
    refine codeAny_builtin F.entry_set_update_loop ?_
    rw [Around.under_plainId F.plain_set_update_loop _]
    show wpAny _ A.in1 (pyNext (.ref I) >>= _) _ _ s
    refine wpAny_bind (W.item i s _ _ hlt hst fun v s' hP hst' hm => ?_)
    obtain ⟨z, t, hz, rfl⟩ := hval i v hP
    have x' : SetT w s'.heap C (fun j => decide (j ∈ xs.take i)) c := x.at fun o e => hm.heap C o hCw e
    show wpAny _ A.in1 (holding [Value.str z t] (setAdd C (.str z t)) >>= _) _ _ s'
    refine wpAny_bind (wpAny_holding ?_)
    unfold setAdd
    refine wpAny_holding (wpAny_bind ((strKind P w).pyHash (k := z) (strKind_is _ _ _ _) ?_))
    refine setT_add (s := { s' with toks := s'.toks + 1 }) x' (by omega) fun h' hsb x2 => ?_
    have x3 : SetT w h' C (fun j => decide (j ∈ xs.take (i + 1))) (if decide (z ∈ xs.take i) = true then c else c + 1) := x2.congr fun j => by
      rw [List.take_add_one, hz]
      simp [List.mem_append]
    have hc3 : (if decide (z ∈ xs.take i) = true then c else c + 1) ≤ i + 1 := by
      split <;> omega
    refine wpAny_pure ⟨plainId_quiet F.plain_set_update_loop _, ih (i + 1) _ (by omega) hlt (W.frame _ s' _ _ hst' (Nat.le_succ _) fun b hb o e => ?_) ⟨_, hc3, x3⟩ fun s'' c2 hm'' hc'' x'' => hR s'' c2 (Moved.trans W.gtrans ((hm.mono hsub).then_heap (Nat.le_succ _) fun b o hb e => ?_) hm'') hc'' x''⟩
    · rw [hsb.2 b (fun h : b = C => hCf (by rw [← h]; exact hb))]; exact e
    · rw [hsb.2 b (fun h : b = C => hb (by rw [h]; exact List.mem_cons_self))]; exact e
end
end Tx

namespace Tx
open PySem PySem.Spec PyProof.Rows L2
abbrev setNew (w : World) : Obj := { cls := .type "set", dict := none, data := .set #[] 0 (.fresh 0 0 (!w.params.followText "set-order")) }
theorem setT_fresh {w : World} {h : Heap} {a : Addr} {xs : List Str} (ho : h.get? a = some (setNew w)) : SetT w h a (fun j => decide (j ∈ xs.take 0)) 0 := by
  refine ⟨_, #[], 0, _, ho, ⟨rfl, rfl, rfl⟩, rfl, (fun e he => by simp at he), (by simp), (fun k => by simp), (by decide), (by rfl), rfl, List.Pairwise.nil, ?_⟩
  show _ ∨ (!w.params.followText "set-order") = true
  cases w.params.followText "set-order"
  · exact .inr rfl
  · exact .inl rfl
section
variable {P : Program} {w : World} {A : Around} {E : Value → Shared → Prop} {s : Shared}
theorem strs_get {us : List Value} {xs : List Str} (h : StrsAre us xs) {i : Nat} {v : Value} (e : us[i]? = some v) : ∃ k t, xs[i]? = some k ∧ v = .str k t := by
  induction h generalizing i with
  | nil => simp at e
  | cons y t hr ih =>
    cases i with
    | zero => exact ⟨y, t, rfl, (Option.some.inj e).symm⟩
    | succ i => exact ih e
set_option maxHeartbeats 3200000 in
theorem set_list {l : Addr} {items : Array Value} (xs : List Str) {Q : Value → Shared → Prop} (hh : A.handled = none) (hl : s.heap.IsList l items) (hit : StrsAre items.toList xs) (hb : xs.length + 1 < scanBound)
    (h : ∀ (h' : Heap) (tk c : Nat), SetT w h' s.heap.objs.size (fun j => decide (j ∈ xs)) c → c ≤ xs.length → (∀ b o, s.heap.get? b = some o → h'.get? b = some o) → Q (.ref s.heap.objs.size) { s with heap := h', toks := tk }) :
    wpAny (model P w) A (call (.type "set") [.ref l]) Q E s := by
  have hisz : items.size = xs.length := by
    rw [← Array.length_toList]
    exact StrsAre.length hit
  obtain ⟨c, tl, hmro⟩ := F.called_set.mro
  have hmade := F.called_set.made
  have hsub := F.called_set.sub
  refine wpAny_call (codeAny_of_tree ?_)
  show wpAny _ _ (callAny (.type "set") _) _ _ _
  refine wpAny_pure ⟨Code.quiet_builtin _ (by decide +kernel), codeAny_builtin F.entry_type_call ?_⟩
  rw [Around.under_plain (weight_type_call_type "set" [.ref l] []) rfl]
  have h1 := F.called_set.notType
  have h2 := F.called_set.canCreate
  have hct := F.typeCall_set_1 (.ref l)
  repeat (any_goals (first | assumption | wp_step))
  refine codeAny_mono (code_set_led1 (.ref l) (E := E) (Q₁ := fun obj s₁ => obj = .ref s.heap.objs.size ∧ s₁ = { s with heap := s.heap.push (setNew w) }) ⟨rfl, rfl⟩) fun r s₁ hr => ?_
  cases r with
  | error e => exact hr
  | ok fl =>
    cases fl with
    | ret obj =>
      obtain ⟨rfl, rfl⟩ := hr
      have hS : (s.heap.push (setNew w)).get? s.heap.objs.size = some (setNew w) := Heap.get?_push_size _ rfl
      have hT : Shared.TypeIs { s with heap := s.heap.push (setNew w) } (.ref s.heap.objs.size) "set" := ⟨_, hS, rfl⟩
      have hli := F.called_set.init.lookup
      have hbi := F.called_set.init.bind (.ref s.heap.objs.size)
      repeat (any_goals (first | assumption | wp_step))
      refine codeAny_mono (codeAny_call_builtin (R := wants (fun r s₂ => r = .none ∧ ∃ h' tk c, s₂ = { s with heap := h', toks := tk } ∧ SetT w h' s.heap.objs.size (fun j => decide (j ∈ xs)) c ∧ c ≤ xs.length ∧
          (∀ b o, s.heap.get? b = some o → h'.get? b = some o)) E) F.called_set.init.plain F.entry_set_init (check_set_init_1 hT ?_)) fun r₂ s₂ hr₂ => ?_
      · obtain ⟨ol, hol, hcl, nl, hdl⟩ := hl
        obtain ⟨ocls, odict, odata, oslots⟩ := ol
        simp only at hcl hdl
        subst hcl; subst hdl
        have hol' : (s.heap.push (setNew w)).get? l = some { cls := .type "list", dict := odict, data := .seq items nl, slots := oslots } := Heap.get?_push_of_some _ hol
        have hsls := F.sub_list_set
        have hslf := F.sub_list_frozenset
        have hne : (Value.type "list" == Value.type "dict") = false := by decide
        have hl1 : (s.heap.push (setNew w)).IsList l items := ⟨_, hol', rfl, nl, rfl⟩
        unfold Builtin.«set.__init__» noKeywords Builtin.Frozenset.updateFrom
        generalize hPI : pyIter = PI
        wp_walk
        subst hPI
        refine wpAny_pyIter_list hl1 (wpAny_bind (wpAny_runValue ?_))
        have hlS : l < s.heap.objs.size := Heap.lt_size hol
        have hh3 : A.in1.in1.in1.handled = none := by simp [hh]
        have hneI : l ≠ (s.heap.push (setNew w)).objs.size := by
          rw [Heap.size_push]; exact Nat.ne_of_lt (Nat.lt_succ_of_lt hlS)
        have hSf : s.heap.objs.size ∉ [(s.heap.push (setNew w)).objs.size, l] := by
          rw [Heap.size_push]; simp only [List.mem_cons, List.mem_singleton, List.not_mem_nil, or_false, not_or]
          exact ⟨Nat.ne_of_lt (Nat.lt_succ_self _), Nat.ne_of_gt hlS⟩
        have hval : ∀ (i : Nat) (v : Value), items[i]? = some v → ∃ k t, xs[i]? = some k ∧ v = .str k t := fun i v hv => strs_get hit (by rw [Array.getElem?_toList]; exact hv)
        refine setT_loop ((Walks.list hh3 _ l hneI items).toS) s.heap.objs.size
          hSf xs hisz hb hval (items.size - 0) 0 _ (by omega) (Nat.zero_le _)
          ⟨⟨_, Heap.get?_push_size _ rfl, rfl, rfl⟩, (hl1.push _)⟩ ?hS0 ?hR
        case hS0 => exact ⟨0, Nat.le_refl 0, setT_fresh (Heap.get?_push_of_some _ hS)⟩
        case hR =>
          intro s' c' hm hc' hS'
          obtain ⟨h', g2, d', tk', os'⟩ := s'
          have eg : g2 = s.gens := hm.gens
          have ed : d' = s.drawn := hm.drawn
          have eo : os' = s.os := hm.os
          subst eg; subst ed; subst eo
          show wpAny _ _ _ _ _ _
          refine wpAny_pure ?_
          show wpAny _ _ (ret Value.none) _ _ _
          rw [hisz] at hc'
          refine wpAny_pure ⟨rfl, h', tk', c', rfl, hS', hc', fun b o e => hm.heap b o ?_ (Heap.get?_push_of_some _ (Heap.get?_push_of_some _ e))⟩
          have hb0 : b < s.heap.objs.size := Heap.lt_size e
          rw [Heap.size_push]
          simp only [List.mem_cons, List.mem_singleton, List.not_mem_nil, or_false, not_or]
          exact ⟨Nat.ne_of_lt hb0, Nat.ne_of_lt (Nat.lt_succ_of_lt hb0)⟩
      · cases r₂ with
        | error e => exact hr₂
        | ok fl₂ =>
          cases fl₂ with
          | ret r =>
            obtain ⟨rfl, h', tk, c', rfl, hS', hc', hk'⟩ := hr₂
            repeat (any_goals (first | assumption | wp_step))
            exact h _ _ _ hS' hc' hk'
          | _ => exact hr₂.elim
    | _ => exact hr.elim
end
end Tx

namespace Tx
open PySem PySem.Spec PyProof.Rows L2
section
variable {P : Program} {w : World} {A : Around} {E : Value → Shared → Prop} {s : Shared}
theorem strs_of : ∀ (l : List Value), (∀ v ∈ l, ∃ k tk, v = Value.str k tk) → ∃ xs, StrsAre l xs
  | [], _ => ⟨[], .nil⟩
  | v :: l, h => by
    obtain ⟨k, tk, rfl⟩ := h v List.mem_cons_self
    obtain ⟨xs, h1⟩ := strs_of l fun u hu => h u (List.mem_cons_of_mem _ hu)
    exact ⟨k :: xs, .cons k tk h1⟩
theorem strs_map {l : List Value} {xs : List Str} (h : StrsAre l xs) : xs = l.map fun v => txOf (0, v) := by
  induction h with
  | nil => rfl
  | cons y t hr ih => rw [List.map_cons, ← ih]; rfl
/-- sorted(a set of texts) -/
theorem sorted_set {a : Addr} {S : Str → Bool} {n : Nat} {Q : Value → Shared → Prop} (x : SetT w s.heap a S n) (hh : A.handled = none) (h64 : n < 64)
    (hQ : ∀ s' p (out : Array Value) (c : Nat) (ys : List Str), (∀ b o, s.heap.get? b = some o → s'.heap.get? b = some o) → s'.gens = s.gens → s'.os = s.os → s.heap.objs.size ≤ p →
      s'.heap.get? p = some (seqObj "list" out c) → StrsAre out.toList ys → sortedS ys = true → ys.Nodup → (∀ k, k ∈ ys ↔ S k = true) → ys.length = n → Q (.ref p) s') :
    wpAny (model P w) A (call (.builtin "sorted") [.ref a]) Q E s := by
  obtain ⟨o, es, ep, t, ho, hex, hd, g, nd, hm, hb, hf, hn, hr, hl⟩ := x
  refine Calls.call_function_entry kind_sorted plain_sorted entry_sorted (args_sorted1 _) ?_
  unfold Builtin.«sorted»
  refine wpAny_bind (m := checkCount "sorted" 1 1 _) (wpAny_pure ?_)
  refine wpAny_bind (collect_set (A := A.in1) hh ⟨o, ho, hex.1, hd⟩ hf hb hr hl fun s1 vs k1 hz g1 o1 pm => ?_)
  have hvl : vs.length = n := by rw [pm.length_eq, List.length_map, Array.length_toList]; exact hn
  obtain ⟨xs, hx⟩ := strs_of vs fun v hv => by
    obtain ⟨e, he, q⟩ := List.mem_map.mp (pm.mem_iff.mp hv)
    obtain ⟨k, tk, h1, _⟩ := g e he
    exact ⟨k, tk, by rw [← q]; exact h1⟩
  have px : xs.Perm (es.toList.map txOf) := by
    have q := pm.map fun v => txOf (0, v)
    rw [List.map_map, ← strs_map hx] at q
    exact q
  refine wpAny_bind (wpAny_newList ?_ (by rw [hvl, sizeLine_eq]; omega))
  have hoL : (s1.heap.push (seqObj "list" vs.toArray 0)).get? s1.heap.objs.size = some (seqObj "list" vs.toArray 0) := Heap.get?_push_size _ rfl
  refine wpAny_bind (wpAny_holding (wpAny_call_entry slot_list_sort ⟨_, hoL, rfl⟩ entry_list_sort
    (list_sort_treeK strKind_oneLt hoL hx.keysOf (fun v₁ v₂ rest e => keyKind_strs (by rw [← e]; exact hx)) (by rw [hvl]; exact h64) fun st' hp hs => ⟨_, rfl, ?_⟩) (args_list_sort _)))
  obtain ⟨ys, a1, a2, a3⟩ := sorted_out_str hx hp hs
  obtain ⟨c, hc⟩ := sortedHeap_at (vs := vs) (out := (arrOf st').map (·.2)) hoL
  have pn : ys.Perm (es.toList.map txOf) := a2.trans px
  refine wpAny_pure ⟨_, rfl, hQ _ s1.heap.objs.size _ c ys (fun b u e => ?_) g1 o1 hz hc a1 a3 (pn.nodup_iff.mpr nd) (fun k => by rw [pn.mem_iff, ← hm k]) ?_⟩
  · have q := k1 b u e
    have hlt := Heap.lt_size q
    show (sortedHeap (s1.heap.push (seqObj "list" vs.toArray 0)) s1.heap.objs.size vs _).get? b = some u
    rw [sortedHeap_old (Nat.ne_of_lt hlt) (by rw [size_push']; exact Nat.lt_succ_of_lt hlt)]
    exact Heap.get?_push_of_some _ q
  · rw [pn.length_eq, List.length_map, Array.length_toList]; exact hn
end
end Tx

namespace Tx
open PySem PySem.Spec PyProof.Rows L2
section
variable {X : Cx}
def tSortSet (K : PySem.W.Frag) (ta : TE) : TE := fun σ H Q => ta σ H fun x H1 => ∃ (l : Addr) (xs : List Str), x = .ref l ∧ SqL K H1 l (xs.map V.str) ∧ xs.length < 64 ∧
  ∀ (ys : List Str) (p : Addr), sortedS ys = true → ys.Nodup → (∀ k, k ∈ ys ↔ k ∈ xs) → H1 p = none → Q (.ref p) (upd H1 p (.lst (ys.map V.str)))
theorem pe_sortSet {a : Expr} {ta : TE} {p p2 q pos : Pos} (hm : X.mg "sorted" = none) (hm2 : X.mg "set" = none) (ha : PE X a ta) (hg : Gl X "sorted" := by rfl) (hg2 : Gl X "set" := by rfl) (hc : X.calm = true := by rfl)
    (na : starEach [a] X.env = (false, eval a X.env) :: starEach [] X.env := by rfl) : PE X (.Call (.Name "sorted" p) [.Call (.Name "set" p2) [a] [] q] [] pos) (tSortSet X.K ta) := by
  refine ⟨fun pins s σ H Q I h => ?_⟩
  refine Call_ (ld_blt I hg hm boot_sorted ?_)
  refine PyProof.Rows.callWith_builtin1 (PyProof.Rows.args_cons ?_ rfl) rfl rfl
  refine Call_ (ld_blt I hg2 hm2 boot_set ?_)
  refine PyProof.Rows.callWith_type1 (PyProof.Rows.args_cons (thn (ha.run pins s σ H _ I h) fun v s1 ⟨x, H1, I1, r1, q1⟩ => PyProof.Rows.args_nil ?_) na) na rfl
  obtain ⟨l, xs, rfl, hq, hl, q1⟩ := q1
  cases r1
  obtain ⟨its, rv, pt, hz⟩ := I1.list hq
  have hd := I1.ok.hd hc
  refine set_list xs hd (show s1.heap.IsList l its.toArray from pt.isList) rv.strs (by unfold scanBound; omega) fun h' tk c R1 hcn k => ?_
  refine PyProof.Rows.args_nil ?_
  have I2 : Inv X pins σ H1 { s1 with heap := h', toks := tk } := I1.kept fun b o e => k b o e
  have R2 : SetT X.w ({ s1 with heap := h', toks := tk } : Shared).heap s1.heap.objs.size (fun j => decide (j ∈ xs)) c := R1
  generalize ({ s1 with heap := h', toks := tk } : Shared) = s2 at I2 R2 ⊢
  refine sorted_set R2 hd (by omega) fun s' p out c ys k2 g o hp hg hi hs hnd hm hl2 => ?_
  have hlen : (ys.map V.str).length ≤ sizeLine := by rw [List.length_map, hl2, sizeLine_eq]; omega
  have hn : H1 p = none := I2.hok.fresh hp
  have J : Inv X pins σ (upd H1 p (.lst (ys.map V.str))) { s2 with heap := s'.heap, gens := s'.gens, drawn := s'.drawn, toks := s'.toks } :=
    I2.call (ch := []) (Un.laid k2 hp hn) (I2.hok.laid k2 hp ⟨hlen, out.toList, c, vals_of_strs hi, hg⟩) (by rw [g]; exact I2.bare) (fun _ z => nomatch z)
  have e : s' = { s2 with heap := s'.heap, gens := s'.gens, drawn := s'.drawn, toks := s'.toks } := by
    cases s'
    cases s2
    cases o
    rfl
  rw [e]
  exact ⟨.ref p, _, J, rfl, q1 ys p hs hnd (fun k => by rw [hm k, decide_eq_true_eq]) hn⟩
end
/-! two sorted lists of the same texts -/
def Le (a b : Str) : Prop := ltCps b.cps.toList a.cps.toList = false
theorem le_iff {a b : Str} : Le a b ↔ a.cps.toList ≤ b.cps.toList := by
  unfold Le
  rw [ltCps_eq, decide_eq_false_iff_not]
  exact Iff.rfl
theorem pw_of : ∀ (p : Str) (l : List Str), risingS p l = true → (p :: l).Pairwise Le
  | p, [], _ => List.pairwise_singleton _ _
  | p, x :: r, h => by
    have h' : (!ltCps x.cps.toList p.cps.toList && risingS x r) = true := h
    rw [Bool.and_eq_true] at h'
    have ih := pw_of x r h'.2
    have h1 : Le p x := by
      unfold Le
      cases q : ltCps x.cps.toList p.cps.toList with
      | false => rfl
      | true => rw [q] at h'; cases h'.1
    refine List.pairwise_cons.mpr ⟨fun y hy => ?_, ih⟩
    rcases List.mem_cons.mp hy with e | e
    · rw [e]
      exact h1
    · exact le_iff.mpr (List.le_trans (le_iff.mp h1) (le_iff.mp ((List.pairwise_cons.mp ih).1 y e)))
theorem pw_sorted : ∀ {l : List Str}, sortedS l = true → l.Pairwise Le
  | [], _ => List.Pairwise.nil
  | x :: r, h => pw_of x r h
theorem le_anti {a b : Str} (h1 : Le a b) (h2 : Le b a) : a = b := by
  have e := List.le_antisymm (le_iff.mp h1) (le_iff.mp h2)
  cases a
  cases b
  simp only [Str.mk.injEq]
  exact Array.toList_inj.mp e
theorem same_sorted : ∀ {xs ys : List Str}, xs.Pairwise Le → ys.Pairwise Le → xs.Nodup → ys.Nodup → (∀ k, k ∈ xs ↔ k ∈ ys) → xs = ys
  | [], [], _, _, _, _, _ => rfl
  | [], y :: ys, _, _, _, _, h => absurd ((h y).mpr List.mem_cons_self) (by simp)
  | x :: xs, [], _, _, _, _, h => absurd ((h x).mp List.mem_cons_self) (by simp)
  | x :: xs, y :: ys, p, q, np, nq, h => by
    have p' := List.pairwise_cons.mp p
    have q' := List.pairwise_cons.mp q
    have np' := List.nodup_cons.mp np
    have nq' := List.nodup_cons.mp nq
    have e : x = y := by
      rcases List.mem_cons.mp ((h x).mp List.mem_cons_self) with e | e
      · exact e
      · rcases List.mem_cons.mp ((h y).mpr List.mem_cons_self) with e2 | e2
        · exact e2.symm
        · exact le_anti (p'.1 y e2) (q'.1 x e)
    subst e
    rw [same_sorted p'.2 q'.2 np'.2 nq'.2 fun z => ?_]
    constructor
    · intro hz
      exact (List.mem_cons.mp ((h z).mp (List.mem_cons_of_mem _ hz))).resolve_left fun e => np'.1 (e ▸ hz)
    · intro hz
      exact (List.mem_cons.mp ((h z).mpr (List.mem_cons_of_mem _ hz))).resolve_left fun e => nq'.1 (e ▸ hz)
end Tx

/-! len(set(texts)) of a tuple -/
namespace Tx
open PySem PySem.Spec PyProof.Rows L2
section
variable {P : Program} {w : World} {A : Around} {E : Value → Shared → Prop} {s : Shared}
set_option maxHeartbeats 3200000 in
theorem set_tupS {l : Addr} {items : Array Value} (xs : List Str) {Q : Value → Shared → Prop} (hh : A.handled = none) (hl : s.heap.IsTuple l items) (hit : StrsAre items.toList xs) (hb : xs.length + 1 < scanBound)
    (h : ∀ (h' : Heap) (tk c : Nat), SetT w h' s.heap.objs.size (fun j => decide (j ∈ xs)) c → c ≤ xs.length → (∀ b o, s.heap.get? b = some o → h'.get? b = some o) → Q (.ref s.heap.objs.size) { s with heap := h', toks := tk }) :
    wpAny (model P w) A (call (.type "set") [.ref l]) Q E s := by
  have hisz : items.size = xs.length := by
    rw [← Array.length_toList]
    exact StrsAre.length hit
  obtain ⟨c, tl, hmro⟩ := F.called_set.mro
  have hmade := F.called_set.made
  have hsub := F.called_set.sub
  refine wpAny_call (codeAny_of_tree ?_)
  show wpAny _ _ (callAny (.type "set") _) _ _ _
  refine wpAny_pure ⟨Code.quiet_builtin _ (by decide +kernel), codeAny_builtin F.entry_type_call ?_⟩
  rw [Around.under_plain (weight_type_call_type "set" [.ref l] []) rfl]
  have h1 := F.called_set.notType
  have h2 := F.called_set.canCreate
  have hct := F.typeCall_set_1 (.ref l)
  repeat (any_goals (first | assumption | wp_step))
  refine codeAny_mono (code_set_led1 (.ref l) (E := E) (Q₁ := fun obj s₁ => obj = .ref s.heap.objs.size ∧ s₁ = { s with heap := s.heap.push (setNew w) }) ⟨rfl, rfl⟩) fun r s₁ hr => ?_
  cases r with
  | error e => exact hr
  | ok fl =>
    cases fl with
    | ret obj =>
      obtain ⟨rfl, rfl⟩ := hr
      have hS : (s.heap.push (setNew w)).get? s.heap.objs.size = some (setNew w) := Heap.get?_push_size _ rfl
      have hT : Shared.TypeIs { s with heap := s.heap.push (setNew w) } (.ref s.heap.objs.size) "set" := ⟨_, hS, rfl⟩
      have hli := F.called_set.init.lookup
      have hbi := F.called_set.init.bind (.ref s.heap.objs.size)
      repeat (any_goals (first | assumption | wp_step))
      refine codeAny_mono (codeAny_call_builtin (R := wants (fun r s₂ => r = .none ∧ ∃ h' tk c, s₂ = { s with heap := h', toks := tk } ∧ SetT w h' s.heap.objs.size (fun j => decide (j ∈ xs)) c ∧ c ≤ xs.length ∧
          (∀ b o, s.heap.get? b = some o → h'.get? b = some o)) E) F.called_set.init.plain F.entry_set_init (check_set_init_1 hT ?_)) fun r₂ s₂ hr₂ => ?_
      · obtain ⟨ol, hol, hcl, nl, hdl⟩ := hl
        obtain ⟨ocls, odict, odata, oslots⟩ := ol
        simp only at hcl hdl
        subst hcl; subst hdl
        have hol' : (s.heap.push (setNew w)).get? l = some { cls := .type "tuple", dict := odict, data := .seq items nl, slots := oslots } := Heap.get?_push_of_some _ hol
        have hsls := F.sub_tuple_set
        have hslf := F.sub_tuple_frozenset
        have hne : (Value.type "tuple" == Value.type "dict") = false := by decide
        have hl1 : (s.heap.push (setNew w)).IsTuple l items := ⟨_, hol', rfl, nl, rfl⟩
        unfold Builtin.«set.__init__» noKeywords Builtin.Frozenset.updateFrom
        generalize hPI : pyIter = PI
        wp_walk
        subst hPI
        refine wpAny_pyIter_tuple hl1 ?_
        refine wpAny_bind (wpAny_runValue ?_)
        have hlS : l < s.heap.objs.size := Heap.lt_size hol
        have hh3 : A.in1.in1.in1.handled = none := by simp [hh]
        have hneI : l ≠ (s.heap.push (setNew w)).objs.size := by
          rw [Heap.size_push]; exact Nat.ne_of_lt (Nat.lt_succ_of_lt hlS)
        have hSf : s.heap.objs.size ∉ [(s.heap.push (setNew w)).objs.size, l] := by
          rw [Heap.size_push]; simp only [List.mem_cons, List.mem_singleton, List.not_mem_nil, or_false, not_or]
          exact ⟨Nat.ne_of_lt (Nat.lt_succ_self _), Nat.ne_of_gt hlS⟩
        have hval : ∀ (i : Nat) (v : Value), items[i]? = some v → ∃ k t, xs[i]? = some k ∧ v = .str k t := fun i v hv => strs_get hit (by rw [Array.getElem?_toList]; exact hv)
        refine setT_loop ((Walks.tuple hh3 _ l hneI items).toS) s.heap.objs.size
          hSf xs hisz hb hval (items.size - 0) 0 _ (by omega) (Nat.zero_le _)
          ⟨⟨_, Heap.get?_push_size _ rfl, rfl, rfl⟩, (hl1.push _)⟩ ?hS0 ?hR
        case hS0 => exact ⟨0, Nat.le_refl 0, setT_fresh (Heap.get?_push_of_some _ hS)⟩
        case hR =>
          intro s' c' hm hc' hS'
          obtain ⟨h', g2, d', tk', os'⟩ := s'
          have eg : g2 = s.gens := hm.gens
          have ed : d' = s.drawn := hm.drawn
          have eo : os' = s.os := hm.os
          subst eg; subst ed; subst eo
          show wpAny _ _ _ _ _ _
          refine wpAny_pure ?_
          show wpAny _ _ (ret Value.none) _ _ _
          rw [hisz] at hc'
          refine wpAny_pure ⟨rfl, h', tk', c', rfl, hS', hc', fun b o e => hm.heap b o ?_ (Heap.get?_push_of_some _ (Heap.get?_push_of_some _ e))⟩
          have hb0 : b < s.heap.objs.size := Heap.lt_size e
          rw [Heap.size_push]
          simp only [List.mem_cons, List.mem_singleton, List.not_mem_nil, or_false, not_or]
          exact ⟨Nat.ne_of_lt hb0, Nat.ne_of_lt (Nat.lt_succ_of_lt hb0)⟩
      · cases r₂ with
        | error e => exact hr₂
        | ok fl₂ =>
          cases fl₂ with
          | ret r =>
            obtain ⟨rfl, h', tk, c', rfl, hS', hc', hk'⟩ := hr₂
            repeat (any_goals (first | assumption | wp_step))
            exact h _ _ _ hS' hc' hk'
          | _ => exact hr₂.elim
    | _ => exact hr.elim
end
section
variable {X : Cx}
def tLenSetX (K : PySem.W.Frag) (ta : TE) : TE := fun σ H Q => ta σ H fun x H1 => ∃ (l : Addr) (xs : List Str), x = .ref l ∧ SqT K H1 l (xs.map V.str) ∧ xs.length ≤ 1000 ∧
  ∀ out : List Str, out.Nodup → (∀ k, k ∈ out ↔ k ∈ xs) → Q (.int (out.length : Nat)) H1
theorem pe_lenSetX {a : Expr} {ta : TE} {p p2 q pos : Pos} (hm : X.mg "len" = none) (hm2 : X.mg "set" = none) (ha : PE X a ta) (hg : Gl X "len" := by rfl) (hg2 : Gl X "set" := by rfl) (hc : X.calm = true := by rfl)
    (na : starEach [a] X.env = (false, eval a X.env) :: starEach [] X.env := by rfl) : PE X (.Call (.Name "len" p) [.Call (.Name "set" p2) [a] [] q] [] pos) (tLenSetX X.K ta) := by
  refine ⟨fun pins s σ H Q I h => ?_⟩
  refine Call_ (ld_blt I hg hm boot_len ?_)
  refine PyProof.Rows.callWith_builtin1 (PyProof.Rows.args_cons ?_ rfl) rfl rfl
  refine Call_ (ld_blt I hg2 hm2 boot_set ?_)
  refine PyProof.Rows.callWith_type1 (PyProof.Rows.args_cons (thn (ha.run pins s σ H _ I h) fun v s1 ⟨x, H1, I1, r1, q1⟩ => PyProof.Rows.args_nil ?_) na) na rfl
  obtain ⟨l, xs, rfl, hq, hl, q1⟩ := q1
  cases r1
  obtain ⟨its, rv, pt, hz⟩ := I1.tuple hq
  have hd := I1.ok.hd hc
  refine set_tupS xs hd (show s1.heap.IsTuple l its.toArray from pt) rv.strs (by unfold scanBound; omega) fun h' tk c R1 hcn k => ?_
  refine PyProof.Rows.args_nil ?_
  obtain ⟨o, es, ep, t, ho, hex, hdt, g, nd, hm2, hb, hf, hn, _, _⟩ := R1
  have I2 : Inv X pins σ H1 { s1 with heap := h', toks := tk } := I1.kept fun b o e => k b o e
  have hlen : es.size = (es.toList.map txOf).length := by rw [List.length_map, Array.length_toList]
  refine call_len_set ho hex hdt hf (by rw [hn]; omega) ⟨.int ((es.toList.map txOf).length : Nat), H1, I2.tok _, ⟨_, by rw [← hlen]⟩, q1 _ nd fun j => ?_⟩
  rw [← hm2 j, decide_eq_true_eq]
end
end Tx

/-! zip of two sources of any kind; here: a tuple and a list -/
namespace Zm
open PySem PySem.Spec PyProof.Rows L2 RZ
/-- an iterator at it over what stands at l: how it goes on, how it ends -/
structure Src (prog : Program) (w : World) (it l : Addr) (xs : Array Value) (St : Heap → Nat → Prop) : Prop where
  item : ∀ {A : Around} {E : Value → Shared → Prop} {s : Shared} {k : Nat} {x : Value} {Q : Value → Shared → Prop}, St s.heap k → xs[k]? = some x → (∀ h', St h' (k + 1) → Heap.SameBut it s.heap h' → Q x { s with heap := h' }) →
    wpAny (model prog w) A (Builtin.SmallTypes.nextOf (.ref it)) Q E s
  fin : ∀ {A : Around} {E : Value → Shared → Prop} {s : Shared} {k : Nat} {Q : Value → Shared → Prop}, A.handled = none → St s.heap k → xs[k]? = none → (∀ h' e, Heap.ExtBut it s.heap h' → (∃ o, h'.get? e = some o ∧ o.cls = .type "StopIteration") → E (.ref e) { s with heap := h' }) →
    wpAny (model prog w) A (Builtin.SmallTypes.nextOf (.ref it)) Q E s
  keep : ∀ {h h' : Heap} {k : Nat}, St h k → (∀ o, h.get? it = some o → h'.get? it = some o) → (∀ o, h.get? l = some o → h'.get? l = some o) → St h' k
abbrev StT (it l : Addr) (xs : Array Value) : Heap → Nat → Prop := fun h k => h.IsTupleIter it l k ∧ h.IsTuple l xs
abbrev StL (it l : Addr) (xs : Array Value) : Heap → Nat → Prop := fun h k => h.IsListIter it l k ∧ h.IsList l xs
section
variable {prog : Program} {w : World}
theorem src_tup {it l : Addr} {xs : Array Value} (n : l ≠ it) : Src prog w it l xs (StT it l xs) where
  item := fun st hx q => nextOf_tuple_item st.1 st.2 hx fun h' a sb => q h' ⟨a, st.2.extBut sb.extBut n⟩ sb
  fin := fun hh st hx q => nextOf_tuple_end hh st.1 st.2 hx q
  keep := fun st k1 k2 => ⟨st.1.at k1, by
    obtain ⟨o, ho, r⟩ := st.2
    exact ⟨o, k2 o ho, r⟩⟩
theorem src_lst {it l : Addr} {xs : Array Value} (n : l ≠ it) : Src prog w it l xs (StL it l xs) where
  item := fun st hx q => wpAny_nextOf_list_item st.1 st.2 hx fun h' a sb => q h' ⟨a, st.2.extBut sb.extBut n⟩ sb
  fin := fun hh st hx q => wpAny_nextOf_list_end hh st.1 st.2 hx q
  keep := fun st k1 k2 => ⟨st.1.at k1, by
    obtain ⟨o, ho, r⟩ := st.2
    exact ⟨o, k2 o ho, r⟩⟩
theorem Src.ext {it l b : Addr} {xs : Array Value} {St : Heap → Nat → Prop} (S : Src prog w it l xs St) {h h' : Heap} {k : Nat} (st : St h k) (e : Heap.ExtBut b h h') (n1 : it ≠ b) (n2 : l ≠ b) : St h' k :=
  S.keep st (fun o q => e _ _ n1 q) fun o q => e _ _ n2 q
variable {A : Around} {E : Value → Shared → Prop} {s : Shared} {z TI TO i1 i2 l1 l2 : Addr} {k1 k2 : Nat} {xs ys : Array Value} {x y a b : Value} {S1 S2 : Heap → Nat → Prop}
theorem next_item {Q : Value → Shared → Prop} (D : ZipApart z TI TO i1 i2 l1 l2) (F1 : Src prog w i1 l1 xs S1) (F2 : Src prog w i2 l2 ys S2)
    (hz : IsZip s.heap z TI TO .none) (hTI : IsPair s.heap TI (.ref i1) (.ref i2)) (hTO : IsPair s.heap TO a b) (h1 : S1 s.heap k1) (h2 : S2 s.heap k2) (hx : xs[k1]? = some x) (hy : ys[k2]? = some y)
    (hQ : ∀ h', IsZip h' z TI TO (rawInt s.heap.objs.size) → IsPair h' TO x y → S1 h' (k1 + 1) → S2 h' (k2 + 1) → IsPair h' s.heap.objs.size x y → h'.objs.size = s.heap.objs.size + 1 →
      (∀ c o, c ≠ z → c ≠ TO → c ≠ i1 → c ≠ i2 → s.heap.get? c = some o → h'.get? c = some o) → Q (.ref s.heap.objs.size) { s with heap := h' }) :
    wpAny (model prog w) A (Builtin.«zip.__next__» ⟨[.ref z], []⟩) (fun fin s' => ∃ v, fin = .done (.ret v) ∧ Q v s') E s := by
  show wpAny _ _ (field (.ref z) 2 >>= _) _ _ _
  refine wpAny_bind (wpAny_field hz rfl (x := .bool false) rfl ?_)
  show wpAny _ _ (field (.ref z) 3 >>= _) _ _ _
  refine wpAny_bind (wpAny_field hz rfl (x := .ref TI) rfl (wpAny_bind (wpAny_seqItems hTI rfl ?_)))
  show wpAny _ _ (Builtin.SmallTypes.ownedTupleIsFree (.ref z) >>= _) _ _ _
  refine wpAny_bind ?_
  unfold Builtin.SmallTypes.ownedTupleIsFree
  refine wpAny_bind (wpAny_field hz rfl (x := .none) rfl (wpAny_pure ?_))
  simp only [if_true]
  refine wpAny_bind (wpAny_rule (wpAny_bind (wpAny_field hz rfl (x := .ref TO) rfl (wpAny_bind (wpAny_setField_rec hz (by simp) fun g1 z1 e1 => ?_)))))
  replace z1 : IsZip g1 z TI TO .ellipsis := z1
  refine wpAny_bind ?_
  simp only [List.zipIdx_cons, List.zipIdx_nil, List.forIn_cons, List.forIn_nil]
  refine wpAny_bind (wpAny_bind (wpAny_onRaise ?_))
  show wpAny _ _ (Builtin.SmallTypes.nextOf (.ref i1) >>= _) _ _ _
  refine wpAny_bind (F1.item (s := { s with heap := g1 }) (F1.ext h1 e1.extBut D.i1z D.l1z) hx fun g2 a1 e2 => wpAny_pure ?_)
  have t2 : IsPair g2 TO a b := e2.extBut _ _ D.TOi1 (e1.extBut _ _ D.TOz hTO)
  refine wpAny_bind (wpAny_seqItems t2 rfl (wpAny_bind (wpAny_updateSeq_pair t2 fun g3 t3 e3 => ?_)))
  replace t3 : IsPair g3 TO x b := t3
  refine wpAny_bind (wpAny_letGo (wpAny_pure ?_))
  refine wpAny_bind (wpAny_bind (wpAny_onRaise ?_))
  show wpAny _ _ (Builtin.SmallTypes.nextOf (.ref i2) >>= _) _ _ _
  refine wpAny_bind (F2.item (s := { s with heap := g3 }) (F2.ext (F2.ext (F2.ext h2 e1.extBut D.i2z D.l2z) e2.extBut D.i12.symm D.l2i1) e3.extBut D.TOi2.symm D.l2TO) hy fun g4 a2 e4 => wpAny_pure ?_)
  have t4 : IsPair g4 TO x b := e4.extBut _ _ D.TOi2 t3
  refine wpAny_bind (wpAny_seqItems t4 rfl (wpAny_bind (wpAny_updateSeq_pair t4 fun g5 t5 e5 => ?_)))
  replace t5 : IsPair g5 TO x y := t5
  refine wpAny_bind (wpAny_letGo (wpAny_pure (wpAny_pure ?_)))
  refine wpAny_bind (wpAny_seqItems t5 rfl (wpAny_bind (wpAny_newTuple ?_)))
  have hsz : g5.objs.size = s.heap.objs.size := by rw [e5.1, e4.1, e3.1, e2.1, e1.1]
  have z5 : IsZip g5 z TI TO .ellipsis := e5.extBut _ _ D.TOz.symm (e4.extBut _ _ D.i2z.symm (e3.extBut _ _ D.TOz.symm (e2.extBut _ _ D.i1z.symm z1)))
  have k5 : ∀ c o, c ≠ z → c ≠ TO → c ≠ i1 → c ≠ i2 → s.heap.get? c = some o → g5.get? c = some o := fun c o c1 c2 c3 c4 e => e5.extBut _ _ c2 (e4.extBut _ _ c4 (e3.extBut _ _ c2 (e2.extBut _ _ c3 (e1.extBut _ _ c1 e))))
  have b1 : S1 g5 (k1 + 1) := F1.ext (F1.ext (F1.ext a1 e3.extBut D.TOi1.symm D.l1TO) e4.extBut D.i12 D.l1i2) e5.extBut D.TOi1.symm D.l1TO
  have b2 : S2 g5 (k2 + 1) := F2.ext a2 e5.extBut D.TOi2.symm D.l2TO
  have zl : z < g5.objs.size := Heap.lt_size z5
  show wpAny _ _ (Builtin.SmallTypes.ownedTupleHandOut (.ref z) (.ref g5.objs.size) >>= _) _ _ _
  refine wpAny_bind ?_
  unfold Builtin.SmallTypes.ownedTupleHandOut
  have z6 : IsZip (g5.push { cls := .type "tuple", data := .seq #[x, y] }) z TI TO .ellipsis := Heap.get?_push_of_some _ z5
  refine wpAny_bind (wpAny_setField_rec z6 (by simp) fun g7 z7 e7 => ?_)
  replace z7 : IsZip g7 z TI TO (rawInt g5.objs.size) := z7
  refine wpAny_setField_rec z7 (by simp) fun g8 z8 e8 => ?_
  replace z8 : IsZip g8 z TI TO (rawInt g5.objs.size) := z8
  have up : ∀ c o, c ≠ z → g5.get? c = some o → g8.get? c = some o := fun c o c1 e => e8.extBut _ _ c1 (e7.extBut _ _ c1 (Heap.get?_push_of_some _ e))
  have t8 : IsPair g8 g5.objs.size x y := e8.extBut _ _ (Nat.ne_of_gt zl) (e7.extBut _ _ (Nat.ne_of_gt zl) (Heap.get?_push_size _ rfl))
  have n8 : g8.objs.size = g5.objs.size + 1 := by rw [e8.1, e7.1, Heap.size_push]
  rw [hsz] at z8 t8 n8
  refine wpAny_pure ⟨_, rfl, ?_⟩
  show Q (.ref g5.objs.size) _
  rw [hsz]
  exact hQ g8 z8 (up _ _ D.TOz t5) (F1.keep b1 (fun o e => up _ o D.i1z e) fun o e => up _ o D.l1z e) (F2.keep b2 (fun o e => up _ o D.i2z e) fun o e => up _ o D.l2z e) t8 n8 fun c o c1 c2 c3 c4 e => up c o c1 (k5 c o c1 c2 c3 c4 e)
theorem next_end {Q : Fin → Shared → Prop} (hh : A.handled = none) (D : ZipApart z TI TO i1 i2 l1 l2) (F1 : Src prog w i1 l1 xs S1) (F2 : Src prog w i2 l2 ys S2)
    (hz : IsZip s.heap z TI TO .none) (hTI : IsPair s.heap TI (.ref i1) (.ref i2)) (hTO : IsPair s.heap TO a b) (h1 : S1 s.heap k1) (h2 : S2 s.heap k2) (hend : xs[k1]? = none ∨ ys[k2]? = none)
    (hE : ∀ h' e, (∀ c o, c ≠ z → c ≠ TO → c ≠ i1 → c ≠ i2 → s.heap.get? c = some o → h'.get? c = some o) → (∃ o, h'.get? e = some o ∧ o.cls = .type "StopIteration") → E (.ref e) { s with heap := h' }) :
    wpAny (model prog w) A (Builtin.«zip.__next__» ⟨[.ref z], []⟩) Q E s := by
  show wpAny _ _ (field (.ref z) 2 >>= _) _ _ _
  refine wpAny_bind (wpAny_field hz rfl (x := .bool false) rfl ?_)
  show wpAny _ _ (field (.ref z) 3 >>= _) _ _ _
  refine wpAny_bind (wpAny_field hz rfl (x := .ref TI) rfl (wpAny_bind (wpAny_seqItems hTI rfl ?_)))
  show wpAny _ _ (Builtin.SmallTypes.ownedTupleIsFree (.ref z) >>= _) _ _ _
  refine wpAny_bind ?_
  unfold Builtin.SmallTypes.ownedTupleIsFree
  refine wpAny_bind (wpAny_field hz rfl (x := .none) rfl (wpAny_pure ?_))
  simp only [if_true]
  refine wpAny_bind (wpAny_rule (wpAny_bind (wpAny_field hz rfl (x := .ref TO) rfl (wpAny_bind (wpAny_setField_rec hz (by simp) fun g1 z1 e1 => ?_)))))
  replace z1 : IsZip g1 z TI TO .ellipsis := z1
  refine wpAny_bind ?_
  simp only [List.zipIdx_cons, List.zipIdx_nil, List.forIn_cons, List.forIn_nil]
  refine wpAny_bind (wpAny_bind (wpAny_onRaise ?_))
  show wpAny _ _ (Builtin.SmallTypes.nextOf (.ref i1) >>= _) _ _ _
  have go1 := F1.ext h1 e1.extBut D.i1z D.l1z
  cases hx : xs[k1]? with
  | none =>
    refine wpAny_bind (F1.fin (s := { s with heap := g1 }) hh go1 hx fun g2 e e2 he => ?_)
    obtain ⟨oe, hoe, hce⟩ := he
    have z2 : IsZip g2 z TI TO .ellipsis := e2 _ _ D.i1z.symm z1
    have hez : e ≠ z := fun q => by
      subst q
      rw [z2] at hoe
      cases hoe
      simp at hce
    exact wpAny_setField_rec z2 (by simp) fun g3 _ e3 => hE g3 e (fun c o c1 _ c3 _ q => e3.extBut _ _ c1 (e2 _ _ c3 (e1.extBut _ _ c1 q))) ⟨oe, e3.extBut _ _ hez hoe, hce⟩
  | some x =>
    have hy : ys[k2]? = none := by
      rcases hend with q | q
      · rw [hx] at q
        cases q
      · exact q
    refine wpAny_bind (F1.item (s := { s with heap := g1 }) go1 hx fun g2 a1 e2 => wpAny_pure ?_)
    have t2 : IsPair g2 TO a b := e2.extBut _ _ D.TOi1 (e1.extBut _ _ D.TOz hTO)
    refine wpAny_bind (wpAny_seqItems t2 rfl (wpAny_bind (wpAny_updateSeq_pair t2 fun g3 t3 e3 => ?_)))
    refine wpAny_bind (wpAny_letGo (wpAny_pure ?_))
    refine wpAny_bind (wpAny_bind (wpAny_onRaise ?_))
    show wpAny _ _ (Builtin.SmallTypes.nextOf (.ref i2) >>= _) _ _ _
    refine wpAny_bind (F2.fin (s := { s with heap := g3 }) hh (F2.ext (F2.ext (F2.ext h2 e1.extBut D.i2z D.l2z) e2.extBut D.i12.symm D.l2i1) e3.extBut D.TOi2.symm D.l2TO) hy fun g4 e e4 he => ?_)
    obtain ⟨oe, hoe, hce⟩ := he
    have z4 : IsZip g4 z TI TO .ellipsis := e4 _ _ D.i2z.symm (e3.extBut _ _ D.TOz.symm (e2.extBut _ _ D.i1z.symm z1))
    have hez : e ≠ z := fun q => by
      subst q
      rw [z4] at hoe
      cases hoe
      simp at hce
    exact wpAny_setField_rec z4 (by simp) fun g5 _ e5 => hE g5 e (fun c o c1 c2 c3 c4 q => e5.extBut _ _ c1 (e4 _ _ c4 (e3.extBut _ _ c2 (e2.extBut _ _ c3 (e1.extBut _ _ c1 q))))) ⟨oe, e5.extBut _ _ hez hoe, hce⟩
theorem pyNext_item {Q : Option Value → Shared → Prop} (D : ZipApart z TI TO i1 i2 l1 l2) (F1 : Src prog w i1 l1 xs S1) (F2 : Src prog w i2 l2 ys S2)
    (hz : IsZip s.heap z TI TO .none) (hTI : IsPair s.heap TI (.ref i1) (.ref i2)) (hTO : IsPair s.heap TO a b) (h1 : S1 s.heap k1) (h2 : S2 s.heap k2) (hx : xs[k1]? = some x) (hy : ys[k2]? = some y)
    (hQ : ∀ h', IsZip h' z TI TO (rawInt s.heap.objs.size) → IsPair h' TO x y → S1 h' (k1 + 1) → S2 h' (k2 + 1) → IsPair h' s.heap.objs.size x y → h'.objs.size = s.heap.objs.size + 1 →
      (∀ c o, c ≠ z → c ≠ TO → c ≠ i1 → c ≠ i2 → s.heap.get? c = some o → h'.get? c = some o) → Q (some (.ref s.heap.objs.size)) { s with heap := h' }) : wpAny (model prog w) A (pyNext (.ref z)) Q E s := by
  have hT : s.TypeIs (.ref z) "zip" := ⟨_, hz, rfl⟩
  unfold pyNext
  exact wpAny_bind (wpAny_attempt (wpAny_callSpecial?_slot (name := Str.ofString "__next__") hT F.slot_zip_next (wpAny_call_entry F.slot_zip_next hT F.entry_zip_next
    (next_item D F1 F2 hz hTI hTO h1 h2 hx hy fun h' q1 q2 q3 q4 q5 q6 q7 => wpAny_pure (hQ h' q1 q2 q3 q4 q5 q6 q7)) (F.args_zip_next_1 _))))
theorem pyNext_end {Q : Option Value → Shared → Prop} (hh : A.handled = none) (D : ZipApart z TI TO i1 i2 l1 l2) (F1 : Src prog w i1 l1 xs S1) (F2 : Src prog w i2 l2 ys S2)
    (hz : IsZip s.heap z TI TO .none) (hTI : IsPair s.heap TI (.ref i1) (.ref i2)) (hTO : IsPair s.heap TO a b) (h1 : S1 s.heap k1) (h2 : S2 s.heap k2) (hend : xs[k1]? = none ∨ ys[k2]? = none)
    (hQ : ∀ h', (∀ c o, c ≠ z → c ≠ TO → c ≠ i1 → c ≠ i2 → s.heap.get? c = some o → h'.get? c = some o) → Q none { s with heap := h' }) : wpAny (model prog w) A (pyNext (.ref z)) Q E s := by
  have hT : s.TypeIs (.ref z) "zip" := ⟨_, hz, rfl⟩
  unfold pyNext
  refine wpAny_bind (wpAny_attempt (wpAny_callSpecial?_slot (name := Str.ofString "__next__") hT F.slot_zip_next (wpAny_call_entry F.slot_zip_next hT F.entry_zip_next (next_end hh D F1 F2 hz hTI hTO h1 h2 hend fun h' e hk he => ?_) (F.args_zip_next_1 _))))
  obtain ⟨o, ho, hc⟩ := he
  exact wpAny_bind (wpAny_isInstance (T := "StopIteration") (b := true) ⟨o, ho, hc⟩ isSubtype_stop (wpAny_pure (hQ _ hk)))
end
/-- the heap behind zip of a tuple and a list -/
def mk (h : Heap) (l1 l2 : Addr) : Heap :=
  ((((h.push { cls := .type "tuple_iterator", data := .fields #[.ref l1, .int 0 0] }).push { cls := .type "list_iterator", data := .fields #[.ref l2, .int 0 0] }).push { cls := .type "tuple", data := .seq #[.ref h.objs.size, .ref (h.objs.size + 1)] }).push
    { cls := .type "tuple", data := .seq #[.none, .none] }).push { cls := .type "zip", data := .fields #[.none, .bool false, .bool false, .ref (h.objs.size + 2), .ref (h.objs.size + 3)] }
theorem meets_mix (l1 l2 : Addr) (xs ys : Array Value) :
    Meets (Builtin.«zip.__new__» ⟨[.type "zip", .ref l1, .ref l2], []⟩) (fun _ R s => s.heap.IsTuple l1 xs ∧ s.heap.IsList l2 ys ∧ R (.ok (.ret (.ref (s.heap.objs.size + 4)))) { s with heap := mk s.heap l1 l2 }) :=
  .of_wp fun prog w A R s h => by
    obtain ⟨hp, g, d, tk, os⟩ := s
    obtain ⟨hl1, hl2, h⟩ := h
    have hsub := sub_zip
    have L1 : Heap.IsTuple (Shared.heap ⟨hp, g, d, tk, os⟩) l1 xs := hl1
    have L2 : Heap.IsList (Shared.heap ⟨hp.push { cls := .type "tuple_iterator", data := .fields #[.ref l1, .int 0 0] }, g, d, tk, os⟩) l2 ys := Heap.IsList.push hl2 _
    wp_walk using wpAny_pyIter_tuple L1, wpAny_pyIter_list L2
    simp only [mk] at h
    simp only [Heap.size_push] at h ⊢
    exact ⟨_, rfl, h⟩
end Zm

/-! zip of a tuple and a list, walked -/
namespace Zm
open PySem PySem.Spec PyProof.Rows L2 RZ
section
variable {prog : Program} {w : World} {A : Around} {E : Value → Shared → Prop} {s : Shared}
theorem call_mix {l1 l2 : Addr} {xs ys : Array Value} {Q : Value → Shared → Prop} (h1 : s.heap.IsTuple l1 xs) (h2 : s.heap.IsList l2 ys)
    (h : ∀ h', IsZip h' (s.heap.objs.size + 4) (s.heap.objs.size + 2) (s.heap.objs.size + 3) .none → IsPair h' (s.heap.objs.size + 2) (.ref s.heap.objs.size) (.ref (s.heap.objs.size + 1)) →
      IsPair h' (s.heap.objs.size + 3) .none .none → h'.IsTupleIter s.heap.objs.size l1 0 → h'.IsListIter (s.heap.objs.size + 1) l2 0 → (∀ c o, s.heap.get? c = some o → h'.get? c = some o) → Q (.ref (s.heap.objs.size + 4)) { s with heap := h' }) :
    wpAny (model prog w) A (call (.type "zip") [.ref l1, .ref l2]) Q E s := by
  refine callType_new F.called_zip (by decide) (F.typeCall_zip_2 _ _) (F.newCall_zip_2 _ _) (fun obj => F.args_object_init_3 obj _ _) F.entry_zip_new (meets_mix l1 l2 xs ys) ⟨h1, h2, ?_⟩
  have p1 : ∀ (h : Heap) (o : Obj) {n : Nat}, h.objs.size = n → o.isFreed = false → (h.push o).get? n = some o ∧ (h.push o).objs.size = n + 1 := fun h o n e f => by
    subst e
    exact ⟨Heap.get?_push_size _ f, Heap.size_push ..⟩
  obtain ⟨g1, n1⟩ := p1 s.heap { cls := .type "tuple_iterator", data := .fields #[.ref l1, .int 0 0] } rfl rfl
  obtain ⟨g2, n2⟩ := p1 _ { cls := .type "list_iterator", data := .fields #[.ref l2, .int 0 0] } n1 rfl
  obtain ⟨g3, n3⟩ := p1 _ { cls := .type "tuple", data := .seq #[.ref s.heap.objs.size, .ref (s.heap.objs.size + 1)] } n2 rfl
  obtain ⟨g4, n4⟩ := p1 _ { cls := .type "tuple", data := .seq #[.none, .none] } n3 rfl
  obtain ⟨g5, n5⟩ := p1 _ { cls := .type "zip", data := .fields #[.none, .bool false, .bool false, .ref (s.heap.objs.size + 2), .ref (s.heap.objs.size + 3)] } n4 rfl
  have up : ∀ {h : Heap} {o o' : Obj} {c : Addr}, h.get? c = some o → (h.push o').get? c = some o := fun e => Heap.get?_push_of_some _ e
  refine ⟨⟨_, g5, rfl⟩, h _ g5 (up (up g3)) (up g4) ⟨_, up (up (up (up g1))), rfl, rfl⟩ ⟨_, up (up (up g2)), rfl, rfl⟩ fun c o q => up (up (up (up (up q))))⟩
end
/-- the tuple at a and the list at b as they stand at each turn, the items in new pairs -/
def ItzM (K : PySem.W.Frag) (a b : Addr) : It :=
  ⟨fun i H => ∃ (xs ys : List V) (x y : V), SqT K H a xs ∧ SqL K H b ys ∧ xs[i]? = some x ∧ ys[i]? = some y,
    fun i H v H' => ∃ T x y, v = .ref T ∧ H T = none ∧ H' = upd H T (.tup [x, y]) ∧ (∀ xs, SqT K H a xs → xs[i]? = some x) ∧ ∀ ys, SqL K H b ys → ys[i]? = some y,
    fun i H => ∃ xs ys : List V, SqT K H a xs ∧ SqL K H b ys ∧ (xs.length ≤ i ∨ ys.length ≤ i)⟩
def TnM (a b z TI TO i1 i2 : Addr) (i : Nat) (h : Heap) : Prop := IsZip h z TI TO .none ∧ IsPair h TI (.ref i1) (.ref i2) ∧ (∃ x y, IsPair h TO x y) ∧ h.IsTupleIter i1 a i ∧ h.IsListIter i2 b i
theorem turn_mix {P : Program} {w : World} {K : PySem.W.Frag} {elts : List Expr} {kk : Nat} {tpos : Pos} {a b z TI TO i1 i2 : Addr} (D : ZipApart z TI TO i1 i2 a b) :
    Turn P w K (.Tuple elts kk tpos) (ItzM K a b) [z, TI, TO, i1, i2] z (TnM a b z TI TO i1 i2) where
  mem := by simp
  obj := fun i h st c hc => by
    obtain ⟨hz, hTI, ⟨x, y, hTO⟩, ⟨o1, e1, _, d1⟩, ⟨o2, e2, _, d2⟩⟩ := st
    have e' : c = z ∨ c = TI ∨ c = TO ∨ c = i1 ∨ c = i2 := by simpa using hc
    rcases e' with rfl | rfl | rfl | rfl | rfl
    · exact ⟨_, hz, fun v q => nomatch q⟩
    · exact ⟨_, hTI, fun v q => nomatch q⟩
    · exact ⟨_, hTO, fun v q => nomatch q⟩
    · exact ⟨o1, e1, fun v q => by rw [d1] at q; cases q⟩
    · exact ⟨o2, e2, fun v q => by rw [d2] at q; cases q⟩
  keep := fun i h h' st k => by
    obtain ⟨hz, hTI, ⟨x, y, hTO⟩, h1, h2⟩ := st
    exact ⟨k z (by simp) _ hz, k TI (by simp) _ hTI, ⟨x, y, k TO (by simp) _ hTO⟩, h1.at fun o q => k i1 (by simp) o q, h2.at fun o q => k i2 (by simp) o q⟩
  item := by
    intro X hP hw hK hc i pins s σ H E I hf st hg
    subst hP hw hK
    obtain ⟨hz, hTI, ⟨x0, y0, hTO⟩, h1, h2⟩ := st
    obtain ⟨xs, ys, x, y, hqx, hqy, hx, hy⟩ := hg
    obtain ⟨its, rv, p, _⟩ := I.tuple hqx
    obtain ⟨its2, rv2, p2, _⟩ := I.list hqy
    obtain ⟨u, hu, ru⟩ := rv.get hx
    obtain ⟨u2, hu2, ru2⟩ := rv2.get hy
    have zl : z < s.heap.objs.size := Heap.lt_size hz
    refine pyNext_item D (src_tup D.l1i1) (src_lst D.l2i2) hz hTI hTO ⟨h1, p⟩ ⟨h2, p2.isList⟩ (x := u) (y := u2) (by simpa using hu) (by simpa using hu2) fun h' z' TO' h1' h2' hT hsz hk => ?_
    refine ⟨_, rfl, wpAny_letOwnedTupleGo_zip (s := { s with heap := h' }) z' fun h'' z'' sb => ?_⟩
    have hT2 : h''.get? s.heap.objs.size = some { cls := .type "tuple", data := .seq #[u, u2] } := (sb.2 _ (Nat.ne_of_gt zl)).trans hT
    have new : ObjOk X.prog X.w (upd H s.heap.objs.size (.tup [x, y])) h'' s.heap.objs.size (.tup [x, y]) := ⟨by show 2 ≤ sizeLine; decide, [u, u2], .cons ru (.cons ru2 .nil), ⟨_, hT2, rfl, _, rfl⟩⟩
    have I1 : Inv X pins σ (upd H s.heap.objs.size (.tup [x, y])) { s with heap := h'' } :=
      I.turnedNew (t' := s.toks) (ch := [z, TI, TO, i1, i2]) (fun c o hb q => (sb.2 c (fun q' => hb (by simp [q']))).trans (hk c o (fun q' => hb (by simp [q'])) (fun q' => hb (by simp [q'])) (fun q' => hb (by simp [q'])) (fun q' => hb (by simp [q'])) q)) hf (Nat.le_refl _) new
    refine ⟨.ref s.heap.objs.size, _, I1, rfl, ⟨_, x, y, rfl, I.hok.fresh (Nat.le_refl _), rfl, fun l hl => by rw [I.tuple_inj hl hqx]; exact hx, fun l hl => by rw [I.list_inj hl hqy]; exact hy⟩, ⟨z'', ?_, ⟨u, u2, ?_⟩, ?_, ?_⟩, fun c hcm => ?_⟩
    · exact (sb.2 _ D.TIz).trans (hk _ _ D.TIz D.TITO D.TIi1 D.TIi2 hTI)
    · exact (sb.2 _ D.TOz).trans TO'
    · exact h1'.1.at fun o q => (sb.2 _ D.i1z).trans q
    · exact h2'.1.at fun o q => (sb.2 _ D.i2z).trans q
    · have hlt : c < s.heap.objs.size := by
        have e' : c = z ∨ c = TI ∨ c = TO ∨ c = i1 ∨ c = i2 := by simpa using hcm
        obtain ⟨_, e1, _⟩ := h1
        obtain ⟨_, e2, _⟩ := h2
        rcases e' with rfl | rfl | rfl | rfl | rfl
        · exact zl
        · exact Heap.lt_size hTI
        · exact Heap.lt_size hTO
        · exact Heap.lt_size e1
        · exact Heap.lt_size e2
      rw [upd_ne (Nat.ne_of_lt hlt)]
      exact (hf c hcm).1
  done := by
    intro X hP hw hK hc i pins s σ H E I hf st hg
    subst hP hw hK
    obtain ⟨hz, hTI, ⟨x0, y0, hTO⟩, h1, h2⟩ := st
    obtain ⟨xs, ys, hqx, hqy, hend⟩ := hg
    obtain ⟨its, rv, p, _⟩ := I.tuple hqx
    obtain ⟨its2, rv2, p2, _⟩ := I.list hqy
    have l1 := rv.length
    have l2 := rv2.length
    have he : its.toArray[i]? = none ∨ its2.toArray[i]? = none := by
      rcases hend with q | q
      · exact .inl (by simp; omega)
      · exact .inr (by simp; omega)
    exact pyNext_end (I.ok.hd hc) D (src_tup D.l1i1) (src_lst D.l2i2) hz hTI hTO ⟨h1, p⟩ ⟨h2, p2.isList⟩ he fun h' hk => ⟨rfl, I.turnedL (t' := s.toks) (ch := [z, TI, TO, i1, i2]) (fun c o hb q =>
      hk c o (fun q' => hb (by simp [q'])) (fun q' => hb (by simp [q'])) (fun q' => hb (by simp [q'])) (fun q' => hb (by simp [q'])) q) hf⟩
  self := fun A i s Q E st h => wpAny_pyIter_zip st.1 h
def iZipM (K : PySem.W.Frag) (ta : TA) : TI := fun σ H R => ta σ H fun vs H1 => ∃ a b xs ys, vs = [.ref a, .ref b] ∧ SqT K H1 a xs ∧ SqL K H1 b ys ∧ R (ItzM K a b) H1
theorem pi_zipM {X : Cx} {e e2 : Expr} {ta : TA} {p pos tpos : Pos} {elts : List Expr} {kk : Nat} (hg : Gl X "zip") (hm : X.mg "zip" = none) (ha : PA X [e, e2] ta)
    (hs : starEach [e, e2] X.env = (false, eval e X.env) :: starEach [e2] X.env := by rfl) (hpl : (backTo pos (starEach [e2] X.env)).any (·.1) = false := by rfl) :
    PI X (.Tuple elts kk tpos) (.Call (.Name "zip" p) [e, e2] [] pos) (iZipM X.K ta) := by
  refine ⟨fun pins s σ H R I h => ?_⟩
  refine Call_ (ld_blt I hg hm PyProof.Rows.boot_zip (PyProof.Rows.callWith_type1 (thn (ha.run pos pins s σ H _ I h) fun us s1 ⟨vs, H1, I1, r1, q1⟩ => ?_) hs hpl))
  obtain ⟨a, b, xs, ys, ex, hqx, hqy, q⟩ := q1
  subst ex
  obtain ⟨u, v, rfl, ru, rv⟩ := vals2 r1
  cases ru
  cases rv
  have fresh5 : ∀ c, c ∈ [s1.heap.objs.size + 4, s1.heap.objs.size + 2, s1.heap.objs.size + 3, s1.heap.objs.size, s1.heap.objs.size + 1] → FpOk X pins H1 c := fun c hcm => by
    have hle : s1.heap.objs.size ≤ c := by
      simp only [List.mem_cons, List.not_mem_nil, or_false] at hcm
      omega
    exact I1.fpOk hle (I1.hok.fresh hle)
  obtain ⟨its, rx, p1, _⟩ := I1.tuple hqx
  obtain ⟨its2, ry, p2, _⟩ := I1.list hqy
  obtain ⟨o1, ho1, _⟩ := id p1
  refine call_mix (show s1.heap.IsTuple a its.toArray from p1) p2.isList fun h' hz hTI hTO h1 h2 hk => wpAny_pyIter_zip hz ?_
  have I2 : Inv X pins σ H1 { s1 with heap := h' } := I1.kept (t' := s1.toks) hk
  exact ⟨s1.heap.objs.size + 4, [s1.heap.objs.size + 4, s1.heap.objs.size + 2, s1.heap.objs.size + 3, s1.heap.objs.size, s1.heap.objs.size + 1], _, _, H1, rfl, I2, turn_mix (PySem.W.ktu_apart s1.heap.objs.size a b (Heap.lt_size ho1) p2.lt), ⟨hz, hTI, ⟨_, _, hTO⟩, h1, h2⟩, fresh5, q⟩
/-- a loop over zip of a tuple and a list of one length -/
theorem for_zipM {K : PySem.W.Frag} {a b : Addr} {xs ys : List V} {g : TG} {tb : TS} {D : Ends} {σ : L2.St} {H : Hp} (hl : xs.length = ys.length) (Pv : Nat → L2.St → Hp → Prop) (h0 : Pv 0 σ H) (hq : ∀ i σ H, Pv i σ H → SqT K H a xs ∧ SqL K H b ys)
    (hs : ∀ (i : Nat) (x y : V) (T : Addr) (σ : L2.St) (H : Hp), xs[i]? = some x → ys[i]? = some y → Pv i σ H → H T = none → g (.ref T) σ (upd H T (.tup [x, y])) fun σ2 H2 => tb { D with nx := Pv (i + 1), ct := Pv (i + 1), bk := D.nx } σ2 H2) (hd : ∀ σ H, Pv xs.length σ H → D.nx σ H) :
    ∃ W : Nat → Nat → L2.St → Hp → Prop, (∃ m, W 0 m σ H) ∧ ∀ i m σ H, W i m σ H →
      ((ItzM K a b).stop i H ∧ D.nx σ H) ∨ ((ItzM K a b).go i H ∧ ∃ N : L2.St → Hp → Prop, (∀ σ' H', N σ' H' → ∃ m', m' < m ∧ W (i + 1) m' σ' H') ∧ ∀ v H', (ItzM K a b).yld i H v H' → g v σ H' fun σ2 H2 => tb { D with nx := N, ct := N, bk := D.nx } σ2 H2) := by
  refine ⟨fun i m σ H => m = xs.length - i ∧ i ≤ xs.length ∧ Pv i σ H, ⟨xs.length, rfl, Nat.zero_le _, h0⟩, ?_⟩
  rintro i m σ H ⟨rfl, hi, p⟩
  obtain ⟨q1, q2⟩ := hq i σ H p
  by_cases hlt : i < xs.length
  · have hx := List.getElem?_eq_getElem hlt
    have hy := List.getElem?_eq_getElem (l := ys) (i := i) (by omega)
    refine .inr ⟨⟨xs, ys, _, _, q1, q2, hx, hy⟩, Pv (i + 1), fun σ' H' p' => ⟨xs.length - (i + 1), by omega, rfl, hlt, p'⟩, fun v H' y => ?_⟩
    obtain ⟨T, x', y', rfl, hT, rfl, f1, f2⟩ := y
    exact hs i x' y' T σ H (f1 xs q1) (f2 ys q2) p hT
  · have e : i = xs.length := by omega
    subst e
    exact .inl ⟨⟨xs, ys, q1, q2, .inl (Nat.le_refl _)⟩, hd σ H p⟩
end Zm

/-! sorted(tuple of texts, key=str) -/
namespace Sk
open PySem PySem.W PySem.Calls PyProof.Rows
section
variable {prog : Program} {w : World} {A : Around} {E : Value → Shared → Prop} {s : Shared}
theorem collect_tup {l : Addr} {vs : List Value} {Q : List Value → Shared → Prop} (hl : s.heap.IsTuple l vs.toArray)
    (h : Q vs { s with heap := (s.heap.push (seqObj "list" #[] 0)).update s.heap.objs.size (Obj.mapSeq (· ++ vs.toArray)) }) (hsz : vs.length ≤ sizeLine) :
    wpAny (model prog w) A (collect (.ref l)) Q E s := by
  obtain ⟨o, ho, hc, n, hd⟩ := id hl
  unfold collect
  refine wpAny_bind (wpAny_runValue (codeAny_builtin entry_proto_collect' ?_))
  show wpAny _ _ (do again (.builtin "list.__iadd__" ⟨[← newList [], .ref l], []⟩)) _ _ s
  refine wpAny_bind (wpAny_newList (wpAny_pure ⟨Code.quiet_builtin _ (by decide +kernel), codeAny_builtin entry_list_iadd' ?_⟩))
  show wpAny _ _ (Builtin.List.listExtendWith (.ref s.heap.objs.size) (.ref l) (.ref s.heap.objs.size)) _ _ { s with heap := s.heap.push (seqObj "list" #[] 0) }
  unfold Builtin.List.listExtendWith
  have ho' : (s.heap.push (seqObj "list" #[] 0)).get? l = some o := Heap.get?_push_of_some _ ho
  refine wpAny_bind (wpAny_typeOf (T := "tuple") ⟨o, ho', hc⟩ ?_)
  have ht : (Value.type "tuple" == Value.type "tuple") = true := by rfl
  rw [if_pos (by rw [ht]; simp)]
  refine wpAny_bind (listItems_at ho' hd ?_)
  refine wpAny_bind (listItems_at (xs := #[]) (n := 0) (Heap.get?_push_size _ rfl) rfl ?_)
  rw [if_neg (by simp)]
  refine wpAny_bind (listUpdate_at (xs := #[]) (n := 0) (Heap.get?_push_size _ rfl) rfl ?_ (Nat.zero_le _) (by show (#[] ++ vs.toArray).size ≤ sizeLine + 1; simp only [Array.size_append, List.size_toArray, List.length_nil]; omega))
  refine wpAny_pure ?_
  show wpAny (model prog w) A (do
      let o ← load s.heap.objs.size
      match o.data with
      | .seq xs _ => pure xs.toList
      | _ => unsupported "internal:collect") Q E { s with heap := (s.heap.push (seqObj "list" #[] 0)).update s.heap.objs.size (Obj.mapSeq (· ++ vs.toArray)) }
  refine wpAny_bind (wpAny_load (get?_update_seq (Heap.get?_push_size _ rfl) _) ?_)
  show wpAny _ _ (pure ((#[] : Array Value) ++ vs.toArray).toList) Q E _
  rw [show ((#[] : Array Value) ++ vs.toArray).toList = vs by simp]
  exact wpAny_pure h
theorem sorted_of_sortT {l : Addr} {vs : List Value} {kw : List (Str × Value)} {Q : Value → Shared → Prop} (hl : s.heap.IsTuple l vs.toArray) (hL : vs.length ≤ sizeLine) (ha1 : argsOk "sorted" ⟨[.ref l], kw⟩) (ha2 : ∀ x, argsOk "list.sort" ⟨[.ref x], kw⟩)
    (body : ∀ E' : Value → Shared → Prop, wpAny (model prog w) A.in1.in1 (Builtin.«list.sort» ⟨[.ref (s.heap.objs.size + 1)], kw⟩) (fun f s' => f = .done (.ret .none) ∧ Q (.ref (s.heap.objs.size + 1)) s') E' { s with heap := copyHeap s.heap vs }) :
    wpAny (model prog w) A (call (.builtin "sorted") [.ref l] kw) Q E s := by
  refine call_function_entry_kw kind_sorted plain_sorted entry_sorted ha1 ?_
  unfold Builtin.«sorted»
  refine wpAny_bind (m := checkCount "sorted" 1 1 _) (wpAny_pure ?_)
  refine wpAny_bind (collect_tup hl ?_ hL)
  refine wpAny_bind (wpAny_newList ?_ hL)
  have hsz : ((s.heap.push (seqObj "list" #[] 0)).update s.heap.objs.size (Obj.mapSeq (· ++ vs.toArray))).objs.size = s.heap.objs.size + 1 := by
    rw [Heap.size_update, size_push']
  show wpAny _ _ _ _ _ { s with heap := copyHeap s.heap vs }
  rw [hsz]
  refine wpAny_bind (wpAny_holding (wpAny_call_entry_kw slot_list_sort ⟨_, copyHeap_at s.heap vs, rfl⟩ entry_list_sort ?body (ha2 _)))
  case body =>
    show wpAny (model prog w) A.in1.in1 (Builtin.«list.sort» ⟨[.ref (s.heap.objs.size + 1)], kw⟩) _ _ _
    refine wpAny_mono (body _) (fun f s' hf => ?_) fun _ _ e => e
    obtain ⟨rfl, hq⟩ := hf
    exact ⟨_, rfl, wpAny_pure ⟨_, rfl, hq⟩⟩
theorem ksk_ty (i : String) (a : Addr) : Builtin.«list.sort» ⟨[.ref a], [(Str.ofString "key", .type i)]⟩ = ksk_tree a (.type i) false := rfl
/-- sorted(t, key=str), t a tuple of texts -/
theorem sortedT_str {l : Addr} {vs : List Value} {xs : List Str} {Q : Value → Shared → Prop} (hl : s.heap.IsTuple l vs.toArray) (e : EachIs (fun v x => ∃ t, v = Value.str x t) vs xs) (hL : xs.length ≤ sizeLine)
    (hu : A.units + 64 < cLine)
    (h : ∀ out c h' tk, (∀ b o, s.heap.get? b = some o → h'.get? b = some o) → s.heap.get? (s.heap.objs.size + 1) = none → h'.get? (s.heap.objs.size + 1) = some (seqObj "list" (List.toArray out) c) → EachIs (fun v x => ∃ t, v = Value.str x t) out (xs.mergeSort (fun a b => decide (a.cps.toList ≤ b.cps.toList))) →
      Q (.ref (s.heap.objs.size + 1)) { s with heap := h', toks := tk }) :
    wpAny (model prog w) A (call (.builtin "sorted") [.ref l] [(Str.ofString "key", .type "str")]) Q E s := by
  have fresh : s.heap.get? (s.heap.objs.size + 1) = none := Heap.get?_none_of_le (Nat.le_succ _)
  have up : ∀ {g : Heap}, KeepsBut (s.heap.objs.size + 1) (copyHeap s.heap vs) g → ∀ b o, s.heap.get? b = some o → g.get? b = some o := fun {g} kp b o q =>
    kp b o (Nat.ne_of_lt (Nat.lt_succ_of_lt (Heap.lt_size q))) (copyHeap_old q)
  refine sorted_of_sortT hl (by rw [e.length]; exact hL) (ksk_s1 _ _) (fun _ => ksk_l1 _ _) fun E' => ?_
  rw [ksk_ty]
  have hal : AllAlike (xs.map fun x => PyData.str x) := AllAlike.of fun _ _ => by simp [alike]
  have hsk : PySem.W.Sortable (xs.map fun x => PyData.str x) := .inr fun d hd => by
    obtain ⟨x, _, rfl⟩ := List.mem_map.mp hd
    exact ⟨by simp, fun _ => by simp⟩
  refine keyH_tree (kz := xs.map fun x => PyData.str x) (s := { s with heap := copyHeap s.heap vs }) (copyHeap_at s.heap vs) (by rw [List.length_map]; exact e.length.symm) (by rw [e.length]; exact hL) hal hsk
    (bound_map (A := A.in1.in1) (enc := fun x => PyData.str x) fun x _ => by
      have hd : (PyData.str x).depth = 0 := by simp [PyData.depth]
      rw [hd]
      show A.units + 1 + 1 + 0 < cLine
      omega)
    (keyH_turns (s := { s with heap := copyHeap s.heap vs }) e fun v x hR hx h tk kp => ?_) fun h' tk out c kp hD ko => ⟨rfl, ?_⟩
  · obtain ⟨t, rfl⟩ := hR
    exact PySem.P.str_of_str ⟨h, tk, rfl, fun _ _ q => q, .str x t⟩
  · refine h out c h' tk (up kp) fresh hD ?_
    have hh := keyedOut_each (fun x => PyData.str x) ko e
    rw [dataLe_str (fun x : Str => x)] at hh
    exact hh
end
open L2
theorem each_strs : ∀ {vs : List Value} {xs : List Str}, StrsAre vs xs → EachIs (fun v x => ∃ t, v = Value.str x t) vs xs
  | _, _, .nil => .nil
  | _, _, .cons x t h => .cons ⟨t, rfl⟩ (each_strs h)
theorem strs_each : ∀ {vs : List Value} {xs : List Str}, EachIs (fun v x => ∃ t, v = Value.str x t) vs xs → StrsAre vs xs
  | _, _, .nil => .nil
  | _, _, .cons ⟨t, e⟩ h => e ▸ .cons _ t (strs_each h)
def LeS (a b : Str) : Prop := a.cps.toList ≤ b.cps.toList
section
variable {X : Cx}
/-- sorted(t, key=str), t a tuple of texts -/
def rSortedStr (K : PySem.W.Frag) : List V → List V → Hp → VK → Prop := fun vs zs H Q => ∃ (a : Addr) (xs : List Str), vs = [V.ref a] ∧ zs = [.ty "str"] ∧ SqT K H a (xs.map V.str) ∧
  ∀ (ys : List Str) (p : Addr), ys.Perm xs → ys.Pairwise LeS → H p = none → Q (.ref p) (upd H p (.lst (ys.map V.str)))
theorem sort_pw (xs : List Str) : (xs.mergeSort (fun a b => decide (a.cps.toList ≤ b.cps.toList))).Pairwise LeS := by
  have h := List.pairwise_mergeSort (le := fun a b : Str => decide (a.cps.toList ≤ b.cps.toList)) (fun a b c h1 h2 => by
    rw [decide_eq_true_eq] at h1 h2 ⊢
    exact List.le_trans h1 h2) (fun a b => by
    rw [Bool.or_eq_true, decide_eq_true_eq, decide_eq_true_eq]
    exact List.le_total _ _) xs
  exact h.imp fun {a b} z => of_decide_eq_true z
theorem cr_sortedStr (hu : X.A.units + 64 < cLine) : CallRK X (.builtin "sorted") [Str.ofString "key"] (rSortedStr X.K) := by
  intro pins s σ H vs zs us ws Q I r rz h
  obtain ⟨a, xs, rfl, rfl, hs, q⟩ := h
  obtain rfl := Vals.ref1 r
  obtain ⟨w1, rfl, e1⟩ := vals1 rz
  obtain rfl : w1 = Value.type "str" := e1
  obtain ⟨its, rv, pl, hz⟩ := I.tuple hs
  have hl := rv.strs
  have hlen := rv.length
  rw [List.length_map] at hlen hz
  refine sortedT_str pl (each_strs hl) hz hu fun out c h' tk kp hn hg eo => ?_
  have hp := List.mergeSort_perm xs (fun a b : Str => decide (a.cps.toList ≤ b.cps.toList))
  exact ⟨.ref _, upd H (s.heap.objs.size + 1) (.lst _), I.laid (t' := tk) kp (Nat.le_succ _) ⟨by rw [List.length_map, hp.length_eq]; exact hz, _, c, vals_of_strs (strs_each eo), hg⟩, rfl, q _ _ hp (sort_pw xs) (I.hok.fresh (Nat.le_succ _))⟩
end
end Sk

/-! a tuple made of a list, known as an object without a dict: its methods may be called -/
namespace Tf
open PySem PySem.Spec PyProof.Rows L2
section
variable {X : Cx}
/-- the tuple at t, as it was made -/
def TupAt (H : Hp) (t : Addr) (xs : List V) : Prop := ∃ o : Obj, H t = some (.frz o (.tup xs)) ∧ o.cls = .type "tuple" ∧ o.dict = none
theorem TupAt.sq {K : PySem.W.Frag} {H : Hp} {t : Addr} {xs : List V} (h : TupAt H t xs) : SqT K H t xs := by
  obtain ⟨o, e, _⟩ := h
  exact .inl (.inr ⟨o, e⟩)
def rTupF (K : PySem.W.Frag) : List V → Hp → VK → Prop := fun xs H Q => ∃ p ys, xs = [.ref p] ∧ SqL K H p ys ∧ ∀ l o, H l = none → o.cls = .type "tuple" → o.dict = none → Q (.ref l) (upd H l (.frz o (.tup ys)))
theorem call_tupleF : CallR X (.type "tuple") (rTupF X.K) := by
  intro pins s σ H xs us Q I r h
  obtain ⟨p, ys, rfl, hq, q⟩ := h
  obtain ⟨u, rfl, rx⟩ := vals1 r
  cases rx
  obtain ⟨its, r', pl, hz⟩ := I.list hq
  have hlen := r'.length
  refine call_tuple_list pl.isList (fun h' kp => ?_) (by simp only [List.size_toArray] <;> omega)
  have I1 : Inv X pins σ H { s with heap := h' } := I.kept (t' := s.toks) kp
  have I2 : Inv X pins σ (upd H h'.objs.size (.frz { cls := .type "tuple", data := .seq its.toArray } (.tup ys))) { s with heap := h'.push { cls := .type "tuple", data := .seq its.toArray } } :=
    I1.laid (t' := s.toks) (fun b o e => Heap.get?_push_of_some _ e) (Nat.le_refl _) ⟨Heap.get?_push_size _ rfl, show ObjOk X.prog X.w _ _ _ (.tup ys) from ⟨hz, its, r', IsTup.new _ _⟩⟩
  exact ⟨.ref h'.objs.size, _, I2, rfl, q _ _ (I1.hok.fresh (Nat.le_refl _)) rfl rfl⟩
def tBMF (r : V → List V → Hp → VK → Prop) (to : TE) (t : TA) : TE := fun σ H Q => to σ H fun x H1 => (∃ p xs, x = .ref p ∧ TupAt H1 p xs) ∧ t σ H1 fun xs H2 => r x xs H2 Q
variable {o e : Expr} {es : List Expr} {to : TE} {t : TA} {name : Str} {apos cpos : Pos} {id : String} {r : V → List V → Hp → VK → Prop}
theorem pe_bmF (pa : PlainAttrs "tuple") (slot : Slot "tuple" name id) (hty : typeOf (.builtin id) = pure (.type "method_descriptor")) (hm : MtR X id r) (ho : PE X o to) (ha : PA X (e :: es) t)
    (hbase : attributeBase o name X.env (eval o X.env) = eval o X.env := by rfl)
    (hfew : ((backTo cpos (starEach (e :: es) X.env)).all (fun x => !x.1) && (backToKw cpos (keywordEach [] X.env)).all (fun x => x.1.isSome)
      && decide ((e :: es).length + ([] : List Keyword).length + (if ([] : List Keyword).isEmpty then 0 else 1) < 30)) = true := by rfl)
    (hline : (apos.endLine == cpos.line) = true := by rfl) (hs : starEach (e :: es) X.env = (false, eval e X.env) :: starEach es X.env := by rfl) (hplain : (backTo cpos (starEach es X.env)).any (·.1) = false := by rfl) :
    PE X (.Call (.Attribute o name apos) (e :: es) [] cpos) (tBMF r to t) := by
  refine ⟨fun pins s σ H Q I h => ?_⟩
  refine wpAny_Call_method_late hbase hfew hline rfl (thn (ho.run pins s σ H _ I h) fun v s1 ⟨x, H1, I1, r1, ty, q1⟩ => ?_)
  have hh : s1.TypeIs v "tuple" ∧ ∀ a, v = .ref a → ∃ ob, s1.heap.get? a = some ob ∧ ob.dict = none := by
    obtain ⟨p, xs, rfl, ob, e1, e2, e3⟩ := ty
    cases r1
    obtain ⟨g1, _⟩ := (show ObjOk X.prog X.w H1 s1.heap p (.frz ob (.tup xs)) from I1.hok p _ e1)
    refine ⟨⟨ob, g1, e2⟩, fun a ea => ?_⟩
    cases ea
    exact ⟨ob, g1, e3⟩
  obtain ⟨h1, h2⟩ := hh
  refine ⟨"tuple", id, pa, slot, hty, h1, h2, ?_⟩
  have hA := ha.run cpos pins s1 σ H1 _ I1 q1
  rw [hs] at hA ⊢
  refine Calls.callWith_builtin (by show (false || (backTo cpos (starEach es X.env)).any (·.1)) = false; rw [hplain] <;> rfl) (Calls.evalArgs_plain ?_)
  exact thn hA fun us s2 ⟨vs, H2, I2, r2, q2⟩ => hm pins s2 σ H2 x vs v us Q I2 r1 r2 q2
end
end Tf

/-! own errors as values: made, read, asked by isinstance -/
namespace Ev
open PySem PySem.Spec PyProof.Rows L2
/-- C(e, ..) as a value, C's own __init__ keeping sp -/
def tMkV (C : Addr) (sp : Sp) (dvs : List V) (ta : TA) : TE := fun σ H Q => ta σ H fun vs H1 => vs.length ≤ 1000 ∧ ∀ a, H1 a = none → sp (.ref a :: (vs ++ dvs)) (upd H1 a (exo a C none)) (fun v H2 => v = .non ∧ Q (.ref a) H2) (fun _ _ _ => False)
/-- a class of errors with its own __init__ that may be made by its name -/
structure MakE (P : Program) (w : World) (K : PySem.W.Frag) (mg : Str → Option Value) (base : Heap) (k : Nat) (x : Str) (C : Addr) (sp : Sp) (dvs : List V) : Prop where
  ex : ∃ (fI : Addr) (fd : FuncData) (ps : List Str) (ds : List Value), OexC K C ∧ PySem.W.findIn K (.ref C) "__init__" = some (some (.ref fI)) ∧ PySem.W.typeIn K (.ref fI) = some (.type "function") ∧
    FnOk P w K mg base C8.CX0 k fI fd ps sp ∧ mg x = some (.ref C) ∧ Binds K fd ps ds ∧ Vals dvs ds
section
variable {X : Cx} {dvs : List V} {e : Expr} {es : List Expr} {ta : TA} {p pos : Pos} {x : Str} {C : Addr} {k j : Nat} {sp : Sp}
theorem pe_mkv (M : MakE X.prog X.w X.K X.mg X.base k x C sp dvs) (hr : Room j X.A) (hk : k + 1 ≤ j) (hg : Gl X x) (ha : PA X (e :: es) ta)
    (hdb : (x == ("__debug__" : Str)) = false := by decide) (he : starEach (e :: es) X.env = (false, eval e X.env) :: starEach es X.env := by rfl) (hpl : (backTo pos (starEach es X.env)).any (·.1) = false := by rfl) :
    PE X (.Call (.Name x p) (e :: es) [] pos) (tMkV C sp dvs ta) := by
  obtain ⟨fI, fd, ps, ds, T, iC, tI, F1, hm, hb, hd⟩ := M.ex
  have hr := hr.mono hk
  have hx : Passes C8.CX0 X (fun _ _ _ => False) := C8.pass0
  refine ⟨fun pins s σ H Q I h => ?_⟩
  obtain ⟨nm, q, N, bs, bm, sn, sub, ab, col, dd, k0, k1, k2, k3, k5, hC, hbm⟩ := T.cls
  refine wpAny_Call_Name_kw (ld_glob I hg hm ?_ hdb)
  refine PySem.W.callWith_K (h₀ := X.base) I.ok.mod.kin T.kC (thn (ha.run pos pins s σ H _ I h) fun us s1 ⟨vs, H1, I1, r1, hz, q1⟩ => ⟨I1.kIn, ?_⟩) he hpl
  show wpAny _ _ (call (.ref C) us) _ _ _
  obtain ⟨hp, g, dr, tk, os⟩ := s1
  have hsz : hp.objs.size ≤ hp.objs.size + 1 := Nat.le_succ _
  have hn : H1 (hp.objs.size + 1) = none := I1.hok.fresh hsz
  have hq := q1 (hp.objs.size + 1) hn
  have kk : ∀ b o, hp.get? b = some o → ((hp.push (PySem.W.kdv_tup us)).push (PySem.HandSPX.excO C hp.objs.size)).get? b = some o := fun b o e => Heap.get?_push_of_some _ (Heap.get?_push_of_some _ e)
  have hget : ((hp.push (PySem.W.kdv_tup us)).push (PySem.HandSPX.excO C hp.objs.size)).get? (hp.objs.size + 1) = some (PySem.HandSPX.excO C hp.objs.size) := by heap_get
  have I2 : Inv X pins σ (upd H1 (hp.objs.size + 1) (exo (hp.objs.size + 1) C none)) ⟨(hp.push (PySem.W.kdv_tup us)).push (PySem.HandSPX.excO C hp.objs.size), g, dr, tk, os⟩ :=
    I1.laid (t' := tk) (a := hp.objs.size + 1) (o := exo (hp.objs.size + 1) C none) (h' := (hp.push (PySem.W.kdv_tup us)).push (PySem.HandSPX.excO C hp.objs.size)) kk hsz (L2.exo_ok hget)
  have r2 : Vals (V.ref (hp.objs.size + 1) :: (vs ++ dvs)) (Value.ref (hp.objs.size + 1) :: (us ++ ds)) := .cons rfl (r1.append hd)
  have hl : (Value.ref (hp.objs.size + 1) :: us ++ ds).length = ps.length := by
    have e := r2.length
    rw [F1.len _ _ _ _ hq] at e
    exact e.symm
  have hus : us.length ≤ sizeLine := by
    rw [← Paired.length r1, sizeLine_eq]
    omega
  refine wpAny_call (PySem.HandSPX.call_own F.excBase_ValueError (fun Y => PySem.HandSPX.refsVE_contains Y bm hbm) (I1.kIn _ _ hC) (PySem.W.looks_findIn I1.kIn iC) (fun self => PySem.W.bind_fn I1.kIn self tI) hus
    (codeAny_mono (F1.run _ X.stack _ _ ⟨Value.ref (hp.objs.size + 1) :: us, []⟩ (Value.ref (hp.objs.size + 1) :: (us ++ ds)) _ _ (fun _ _ _ => False) (hr.make C us []) (I2.env0.make C us []) (hb _ (Value.ref (hp.objs.size + 1) :: us) I2.kIn hl) r2 hq) fun r s' hq' => ?_))
  cases r with
  | error er => exact hx pins σ _ _ er s' I2 hq'
  | ok fl =>
    cases fl with
    | ret u =>
      obtain ⟨v, H', I3, rv, ev, q3⟩ := I2.after hq'
      subst ev
      exact ⟨rv, ⟨V.ref (hp.objs.size + 1), H', I3, rfl, q3⟩⟩
    | next => exact False.elim hq'
    | brk => exact False.elim hq'
    | cont => exact False.elim hq'
/-- C(), C without its own __init__ -/
theorem pe_mkv0 {bmB : List Value} {B newId initId : String} (F : ExcBaseFacts B newId initId bmB) (q : PySem.W.excIn X.K C bmB newId = true) (gC : X.mg x = some (.ref C)) (kC : PySem.W.keepIn X.K (.ref C) = true) (hg : Gl X x)
    (hdb : (x == ("__debug__" : Str)) = false := by decide) :
    PE X (.Call (.Name x p) [] [] pos) (fun σ H Q => ∀ a, H a = none → Q (.ref a) (upd H a (exo a C none))) := by
  refine ⟨fun pins s σ H Q I h => ?_⟩
  refine wpAny_Call_Name_kw (ld_glob I hg gC ?_ hdb)
  refine PySem.W.callWith_K0 I.kIn kC ?_
  obtain ⟨bm, N, nm, qn, bs, hdct, sn, sub, ab, col, dd, k0, k1, k2, k3, k5, mN, hC, hN, hni, T⟩ := exc_obj I.kIn q
  refine wpAny_call_exc_subT F T hC hN hni (fun h' a hm => ?_) (by show 0 ≤ sizeLine; exact Nat.zero_le _)
  have hn : H a = none := I.hok.gone hm.new
  obtain ⟨t, ht, _, _⟩ := hm.there
  exact ⟨.ref a, upd H a (exo a C none), I.laidN hm.keeps hm.new hn (L2.exo_ok ht), rfl, h a hn⟩
/-- e.f, e an error with its dict -/
def tXv (K : PySem.W.Frag) (f : Str) (te : TE) : TE := fun σ H Q => te σ H fun x H1 => ∃ (a C d : Addr) (fs : List (Str × V)) (v : V), x = .ref a ∧ XfC K C ∧ PySem.W.findIn K (.ref C) f = some none ∧ H1 a = some (exo a C (some d)) ∧ H1 d = some (exd d fs) ∧ fs.lookup f = some v ∧ Q v H1
theorem pe_xv {te : TE} {n : Str} (he : PE X e te) (hb : attributeBase e n X.env (eval e X.env) = eval e X.env := by rfl) : PE X (.Attribute e n pos) (tXv X.K n te) := by
  refine ⟨fun pins s σ H Q I h => ?_⟩
  refine attr_of hb (thn (he.run pins s σ H _ I h) fun u s1 hh => ?_)
  obtain ⟨x, H1, I1, rx, a, C, d, fs, v, ex, T, hno, ea, ed, l, q⟩ := hh
  subst ex
  obtain rfl : u = Value.ref a := rx
  obtain ⟨t1, ho⟩ := exo_at I1.hok ea
  obtain ⟨mA, hns, hr⟩ := exd_at I1.hok ed
  obtain ⟨od, hod, hl⟩ := lookIn_ns hns
  obtain ⟨u, hu, ru⟩ := RelO.some_of (v := v) (o := mA n) (by rw [← l]; exact hr n)
  have J : PySem.W.InstAt s1.heap a { cls := .ref C, dict := some d, data := .fields #[.ref t1, .none, .none, .none, .bool false, .none] } C (some od) := ⟨ho, rfl, rfl, hod⟩
  exact HandSPX.exc_get I1.kIn J T.ga T.gg T.exC (PySem.W.findObj_own T.hdC hno rfl (by rw [hl, hu])) (handed_of ru) ⟨v, H1, I1.tok _, ru, q⟩
/-- either of two readings of an operator -/
def rOr (r1 r2 : R2) : R2 := fun x y H Q => r1 x y H Q ∨ r2 x y H Q
theorem op_or {f : Value → Value → Sem Value} {r1 r2 : R2} (h1 : OpR X f r1) (h2 : OpR X f r2) : OpR X f (rOr r1 r2) := by
  intro pins s σ H x y v u Q I rx ry h
  rcases h with h | h
  · exact h1 pins s σ H x y v u Q I rx ry h
  · exact h2 pins s σ H x y v u Q I rx ry h
end
end Ev

set_option maxHeartbeats 2000000
/-! an own error without a value raised, a method that may raise called -/
namespace L2
open PySem PySem.Spec PyProof.Rows
section
variable {X : Cx} {C : Addr} {bmB : List Value} {B newId initId : String}
/-- C() -/
theorem pmk_own0 {x : Str} {p pos : Pos} (F : ExcBaseFacts B newId initId bmB) (q : PySem.W.excIn X.K C bmB newId = true) (gC : X.mg x = some (.ref C)) (kC : PySem.W.keepIn X.K (.ref C) = true) (r : Raises X (.ref C)) (hg : Gl X x)
    (hdb : (x == ("__debug__" : Str)) = false := by decide) : PMk X (.Call (.Name x p) [] [] pos) (fun _ H Q => Q (.ref C) none H) := by
  intro pins s σ H Q I h
  refine wpAny_Call_Name_kw (ld_glob I hg gC ?_ hdb)
  refine PySem.W.callWith_K0 I.kIn kC ?_
  obtain ⟨bm, N, nm, qn, bs, hdct, sn, sub, ab, col, dd, k0, k1, k2, k3, k5, mN, hC, hN, hni, T⟩ := exc_obj I.kIn q
  refine wpAny_call_exc_subT F T hC hN hni (fun h' e hm => ?_) (by show 0 ≤ sizeLine; exact Nat.zero_le _)
  exact mk_of I hm r h (I.hok.gone hm.new)
end
section
variable {X : Cx} {CX : CXT} {k : Nat} {f C : Addr} {fd : FuncData} {ps : List Str} {sp : Sp} {E : L2.St → XK} {m : Str} {pos apos : Pos} {e o : Expr} {es : List Expr} {ta : TE} {t : TA}
/-- o.m(e, ..) of an own class, that may raise -/
def tMethX (C : Addr) (m : Str) (sp : Sp) (E : L2.St → XK) (ta : TE) (t : TA) : TE := fun σ H Q => ta σ H fun x H1 => ∃ a dx fs, x = .ref a ∧ H1 a = some (.ins C dx fs) ∧ fs.lookup m = none ∧ t σ H1 fun vs H2 => sp (x :: vs) H2 Q (E σ)
theorem pe_methX {pl : Sem Bool} (he : PE X o ta) (c : Cls X.K C) (hm : Meth X.K C m f) (F : FnOk X.prog X.w X.K X.mg X.base CX k f fd ps sp) (hr : Room k X.A) (hb : Binds X.K fd ps []) (hx : ∀ σ, PassesAt CX X σ (E σ)) (ha : PA X (e :: es) t)
    (hst : starEach (e :: es) X.env = (false, eval e X.env) :: starEach es X.env := by rfl) (hpl : (backTo pos (starEach es X.env)).any (·.1) = false := by rfl)
    (ht : eval (.Call (.Attribute o m apos) (e :: es) [] pos) X.env = (do
      let ov ← eval o X.env
      standAt apos.atName
      let (f, first) ← holding [ov] (getMethod ov m pl)
      callWith pos f first (backTo pos (starEach (e :: es) X.env)) (backToKw pos (keywordEach [] X.env))) := by rfl) :
    PE X (.Call (.Attribute o m apos) (e :: es) [] pos) (tMethX C m sp E ta t) := by
  refine ⟨fun pins s σ H Q I h => ?_⟩
  refine PySem.W.methodCall_KW (pl := pl) (thn (he.run pins s σ H _ I h) fun u s1 ⟨x, H1, I1, rx, a, dx, fs, ex, ea, l, q⟩ => ?_) ht
  subst ex
  obtain rfl : u = Value.ref a := rx
  refine getmeth_ok I1 ea c hm l ?_
  refine PySem.W.callWith_K (first := [.ref a]) (h₀ := X.base) I.ok.mod.kin hm.kp (thn (ha.run pos pins s1 σ H1 _ I1 q) fun us s2 ⟨vs, H2, I2, r, q2⟩ => ⟨I2.kIn, ?_⟩) hst hpl
  exact run_fnS (us := .ref a :: us) (vs := .ref a :: vs) F hr hb (hx σ) I2 (.cons rfl r) q2
/-- a def that may raise, by its body -/
theorem fnX {P : Program} {w : World} {K : PySem.W.Frag} {mg : Str → Option Value} {base : Heap} {x qual : Str} {st : Stmt} {f : Addr} {fd : FuncData} {N ps : List Str} {k : Nat} {sp : Sp} (F : C8.Fun K x qual st f fd) (S : FnScope N ps (C8.fnScope st)) (len : ∀ vs H Q E, sp vs H Q E → vs.length = ps.length)
    (hbody : ∀ (cdv : Value) (A : Around) (outer : List Env) (s : Shared) (H : Hp) (vs : List V) (Q : VK) (E : XK), Room k (A.deeper (PyProof.Rows.envOfC qual (C8.fnScope st) s.heap.objs.size f cdv)) → sp vs H Q E →
      ∃ t, PSs (cxOf (L2.CX P w) P w K mg base N qual (C8.fnScope st) f cdv A outer s H E) (C8.fnBody st) t ∧ t { nx := fun _ H' => Q .non H', rt := Q } (L2.start N vs) H) : FnOk P w K mg base (L2.CX P w) (k + 1) f fd ps sp := by
  obtain ⟨oc, od, dV, kV, doc, pm, an, cdv, ct, osl, rfl, lk, hcd⟩ := F.ex
  exact fn_of lk hcd S len fun A outer s H vs Q E hr hsp => hbody cdv A outer s H vs Q E hr hsp
end
theorem takesN {X : Cx} : Takes X (fun _ _ _ _ => False) := fun _ _ x => by
  obtain ⟨_, _, _, _, _, _, _, _, _, _, _, _, _, _, _, _, q⟩ := x
  exact q.elim
end L2

/-! a Hook of one's own: any facts of the written part, defs by their addresses, written dicts by their keys; addresses by levels, each forced -/
namespace Hy
open PySem L2 He
/-- a def and where it stands -/
structure DX where
  ad : PySem.W.Frag → Addr
  name : Str
  qual : Str
  params : Arguments
  body : List Stmt
  scope : Scope
def fnAt (K : PySem.W.Frag) (a : Addr) : FnW := match K.lookup a with
  | some ⟨_, _, .func fd, _⟩ => some (fd.name, fd.qualname, fd.params, fd.body, fd.scope, fd.globals, fd.closure, fd.builtins)
  | _ => none
def DX.val (d : DX) : FnW := some (d.name, d.qual, d.params, .stmts d.body, d.scope, mainGlobals, [], builtinsNs)
def DX.ok (K : PySem.W.Frag) (d : DX) : Bool := PySem.W.keepIn K (.ref (d.ad K)) && (match K.lookup (d.ad K) with
  | some ⟨_, _, .func fd, _⟩ => PySem.W.codeIn K fd.code d.qual && (dflB K fd.defaults [] && kwdB K fd.kwdefaults [])
  | _ => false)
abbrev AlY : Type := AlD × List (Option (List (Option (Str × Int))))
def obsY (B : PySem.W.Frag → Bool) (fn : List DX) (ts : List Tab) (K : PySem.W.Frag) : AlY := ((B K && fn.all fun d => d.ok K, fn.map fun d => fnAt K (d.ad K)), ts.map fun t => dicW K (t.1 K))
def valY (fn : List DX) (ts : List Tab) (w : World) : AlY := ((true, fn.map DX.val), ts.map fun t => some (keysIn w.params t.2))
/-- what an object leads to -/
def kids (o : Obj) : List Addr := match o.data with
  | .func fd => refV fd.code ++ (refV fd.defaults ++ refV fd.kwdefaults)
  | .cls cd => [cd.ns]
  | .dict es _ => es.toList.flatMap fun e => refV e.val
  | .fields vs => vs.toList.flatMap refV
  | .seq its _ => its.toList.flatMap refV
  | _ => []
def lvl (g : Addr → Option Obj) (as : List Addr) : List Addr := as.flatMap fun a => match g a with
  | some o => kids o
  | none => []
def asY (g : Addr → Option Obj) : List Addr :=
  let l1 := lvl g [mainGlobals]
  let l2 := lvl g l1
  let l3 := lvl g l2
  let l4 := lvl g l3
  let l5 := lvl g l4
  mainGlobals :: (l1 ++ (l2 ++ (l3 ++ (l4 ++ l5))))
def frList {α : Type} : List Addr → (List Addr → α) → α
  | [], k => k []
  | a :: r, k => HandSHeadRun.frNat a fun a => frList r fun r => k (a :: r)
theorem frList_eq {α : Type} : ∀ (l : List Addr) (k : List Addr → α), frList l k = k l
  | [], _ => rfl
  | a :: r, k => by
    show HandSHeadRun.frNat a (fun a => frList r fun r => k (a :: r)) = k (a :: r)
    rw [HandSHeadRun.frNat_eq, frList_eq r]
/-- as asY, each level forced -/
def frAs {α : Type} (g : Addr → Option Obj) (k : List Addr → α) : α :=
  frList (lvl g [mainGlobals]) fun l1 => frList (lvl g l1) fun l2 => frList (lvl g l2) fun l3 => frList (lvl g l3) fun l4 => frList (lvl g l4) fun l5 =>
    frList (mainGlobals :: (l1 ++ (l2 ++ (l3 ++ (l4 ++ l5))))) k
theorem frAs_eq {α : Type} (g : Addr → Option Obj) (k : List Addr → α) : frAs g k = k (asY g) := by
  unfold frAs
  simp only [frList_eq]
  rfl
def obsYG (B : PySem.W.Frag → Bool) (fn : List DX) (ts : List Tab) (g : Addr → Option Obj) : AlY := frAs g fun as => obsY B fn ts (frG g as)
def hookY (B : PySem.W.Frag → Bool) (fn : List DX) (ts : List Tab) : PySem.W.Hook where
  α := AlY
  obs := fun s => obsYG B fn ts s.heap.get?
  val := fun w => valY fn ts w
  says := fun w h => ∃ K : PySem.W.Frag, K.In h ∧ obsY B fn ts K = valY fn ts w
  of := fun _ _ e => ⟨_, frG_in, (frAs_eq _ fun as => obsY B fn ts (frG _ as)).symm.trans e⟩
  keeps := fun _ _ _ ⟨K, hK, c⟩ k => ⟨K, PySem.W.Frag.In.keeps hK k, c⟩
theorem obsYG_eq {B : PySem.W.Frag → Bool} {fn : List DX} {ts : List Tab} {g : Addr → Option Obj} {s : Shared} (h : ∀ a, g a = s.heap.get? a) : obsYG B fn ts g = (hookY B fn ts).obs s := by
  have e : g = s.heap.get? := funext h
  rw [e] <;> rfl
section
variable {B : PySem.W.Frag → Bool} {fn : List DX} {ts : List Tab} {K : PySem.W.Frag} {w : World}
theorem says_fact (c : obsY B fn ts K = valY fn ts w) : B K = true := (ba (show (B K && fn.all fun d => d.ok K) = true from congrArg (fun z : AlY => z.1.1) c)).1
theorem funX {d : DX} (e : fnAt K (d.ad K) = d.val) (c : d.ok K = true) : ∃ oc od kV doc pm an cdv ct osl, K.lookup (d.ad K) = some ⟨oc, od, .func (PySem.W.fnOf d.name d.qual d.params d.body d.scope .none kV doc pm an cdv ct), osl⟩ ∧ PySem.W.codeIn K cdv d.qual = true ∧ PySem.W.keepIn K (.ref (d.ad K)) = true := by
  obtain ⟨kp, c2⟩ := ba c
  unfold fnAt at e
  cases q : K.lookup (d.ad K) with
  | none =>
    rw [q] at c2
    cases c2
  | some o =>
    obtain ⟨oc, od, dt, osl⟩ := o
    rw [q] at c2 e
    cases dt with
    | func fd =>
      obtain ⟨n1, n2, n3, n4, n5, n6, n7, n8, n9, n10, n11, n12, n13, n14, n15⟩ := fd
      have e2 : (some (n1, n2, n3, n4, n5, n6, n7, n15) : FnW) = some (d.name, d.qual, d.params, .stmts d.body, d.scope, mainGlobals, [], builtinsNs) := e
      simp only [Option.some.injEq, Prod.mk.injEq] at e2
      obtain ⟨h1, h2, h3, h4, h5, h6, h7, h8⟩ := e2
      subst h1 h2 h3 h4 h5 h6 h7 h8
      have c3 : (PySem.W.codeIn K n13 d.qual && (dflB K n8 [] && kwdB K n9 [])) = true := c2
      obtain ⟨k1, k2⟩ := ba c3
      obtain ⟨k3, k4⟩ := ba k2
      have kd : n8 = .none := by
        rcases dflB_ok k3 with ⟨_, h⟩ | ⟨h, _⟩
        · exact h
        · exact absurd rfl h
      subst kd
      exact ⟨_, _, _, _, _, _, _, _, _, rfl, k1, kp⟩
    | _ => cases c2
/-- a def, as the layer wants it -/
theorem says_fun (c : obsY B fn ts K = valY fn ts w) (i : Nat) {d : DX} (h : fn[i]? = some d := by rfl) : ∃ oc od kV doc pm an cdv ct osl, K.lookup (d.ad K) = some ⟨oc, od, .func (PySem.W.fnOf d.name d.qual d.params d.body d.scope .none kV doc pm an cdv ct), osl⟩ ∧ PySem.W.codeIn K cdv d.qual = true ∧ PySem.W.keepIn K (.ref (d.ad K)) = true := by
  have c1 := (ba (show (B K && fn.all fun d => d.ok K) = true from congrArg (fun z : AlY => z.1.1) c)).2
  have c2 : fn.map (fun d => fnAt K (d.ad K)) = fn.map DX.val := congrArg (fun z : AlY => z.1.2) c
  have e2 : (fn.map fun d => fnAt K (d.ad K))[i]? = (fn.map DX.val)[i]? := by rw [c2]
  rw [List.getElem?_map, List.getElem?_map, h] at e2
  exact funX (Option.some.inj e2) (List.all_eq_true.mp c1 d (List.mem_of_getElem? h))
theorem strs_of {P : Params} : ∀ {l : List DictEntry} {ks : List Str}, l.map He.keyOf = keysIn P ks → l.map (fun e => Kd.strOf e.key) = ks.map some
  | [], [], _ => rfl
  | [], _ :: _, h => by cases h
  | _ :: _, [], h => by cases h
  | e :: r, k :: ks, h => by
    have h1 : He.keyOf e :: r.map He.keyOf = some (k, PyData.keyHash P k) :: keysIn P ks := h
    injection h1 with h2 h3
    rw [List.map_cons, List.map_cons, strs_of h3]
    have hk : Kd.strOf e.key = some k := by
      unfold He.keyOf at h2
      split at h2
      · rename_i x t q
        rw [q]
        exact congrArg some (Prod.mk.inj (Option.some.inj h2)).1
      · cases h2
    rw [hk]
theorem dicW_sd {a : Addr} {ks : List Str} (h : dicW K a = some (keysIn w.params ks)) : Kd.SD K w a ks := by
  obtain ⟨es, n, D⟩ := dicW_ok h
  refine ⟨es, n, D, ?_⟩
  unfold dicW at h
  rw [D.at_] at h
  have h1 : (match decide ("dict" = "dict") && ((#[] : Array (Option Value)).isEmpty && !(a == sysModules)) with
    | true => some (es.toList.map He.keyOf)
    | false => none) = some (keysIn w.params ks) := h
  rw [D.low] at h1
  exact strs_of (Option.some.inj h1)
theorem says_tab (c : obsY B fn ts K = valY fn ts w) (i : Nat) {t : Tab} (h : ts[i]? = some t := by rfl) : Kd.SD K w (t.1 K) t.2 := by
  have e : ts.map (fun t => dicW K (t.1 K)) = ts.map fun t => some (keysIn w.params t.2) := congrArg (fun z : AlY => z.2) c
  have e2 : (ts.map fun t => dicW K (t.1 K))[i]? = (ts.map fun t => some (keysIn w.params t.2))[i]? := by rw [e]
  rw [List.getElem?_map, List.getElem?_map, h] at e2
  exact dicW_sd (Option.some.inj e2)
end
end Hy

namespace Q1
open PySem L2 Bx
def top (i : Nat) : Stmt := PySem.Challenge.pw_behindexits_k09_whole_bounds_are_tight.main.body.getD i (.Pass ⟨0, 0, 0, 0⟩)
abbrev s_wall : Stmt := top 0
abbrev N_wall : List Str := ["k"]
theorem sc_wall : FnScope N_wall ["k"] (C8.fnScope s_wall) := ⟨rfl, rfl, rfl, by decide +kernel, rfl, by decide +kernel, by decide +kernel⟩
abbrev s_whole : Stmt := top 2
abbrev N_whole : List Str := ["many", "i", "j"]
theorem sc_whole : FnScope N_whole ["many"] (C8.fnScope s_whole) := ⟨rfl, rfl, rfl, by decide +kernel, rfl, by decide +kernel, by decide +kernel⟩
abbrev s_opposite : Stmt := top 3
abbrev N_opposite : List Str := ["literal", "i", "j", "number"]
theorem sc_opposite : FnScope N_opposite ["literal"] (C8.fnScope s_opposite) := ⟨rfl, rfl, rfl, by decide +kernel, rfl, by decide +kernel, by decide +kernel⟩
abbrev s_follows : Stmt := top 4
abbrev N_follows : List Str := ["zone", "literal", "i", "j", "number"]
theorem sc_follows : FnScope N_follows ["zone", "literal"] (C8.fnScope s_follows) := ⟨rfl, rfl, rfl, by decide +kernel, rfl, by decide +kernel, by decide +kernel⟩
abbrev s_met : Stmt := top 5
abbrev N_met : List Str := ["zone", "literal", "i", "j", "number", "there", "back", "tail", "k", "step", "row"]
theorem sc_met : FnScope N_met ["zone", "literal"] (C8.fnScope s_met) := ⟨rfl, rfl, rfl, by decide +kernel, rfl, by decide +kernel, by decide +kernel⟩
abbrev s_shortened : Stmt := top 6
abbrev N_shortened : List Str := ["row", "start", "tail", "found", "k", "step", "old"]
theorem sc_shortened : FnScope N_shortened ["row", "start", "tail"] (C8.fnScope s_shortened) := ⟨rfl, rfl, rfl, by decide +kernel, rfl, by decide +kernel, by decide +kernel⟩
abbrev s_met_all : Stmt := top 7
abbrev N_met_all : List Str := ["zone", "literals", "literal"]
theorem sc_met_all : FnScope N_met_all ["zone", "literals"] (C8.fnScope s_met_all) := ⟨rfl, rfl, rfl, by decide +kernel, rfl, by decide +kernel, by decide +kernel⟩
abbrev s_is_inside : Stmt := top 8
abbrev N_is_inside : List Str := ["zone", "other", "row", "wide", "least", "most"]
theorem sc_is_inside : FnScope N_is_inside ["zone", "other"] (C8.fnScope s_is_inside) := ⟨rfl, rfl, rfl, by decide +kernel, rfl, by decide +kernel, by decide +kernel⟩
abbrev s_literals_of : Stmt := top 9
abbrev N_literals_of : List Str := ["zone"]
theorem sc_literals_of : FnScope N_literals_of ["zone"] (C8.fnScope s_literals_of) := ⟨rfl, rfl, rfl, by decide +kernel, rfl, by decide +kernel, by decide +kernel⟩
abbrev s_literals_among : Stmt := top 10
abbrev N_literals_among : List Str := ["zone", "indexes", "heads", "found", "firsts", "head", "group", "i", "others", "j"]
theorem sc_literals_among : FnScope N_literals_among ["zone", "indexes"] (C8.fnScope s_literals_among) := ⟨rfl, rfl, rfl, by decide +kernel, rfl, by decide +kernel, by decide +kernel⟩
abbrev s_head_of : Stmt := top 11
abbrev N_head_of : List Str := ["zone", "indexes", "i", "row", "j"]
theorem sc_head_of : FnScope N_head_of ["zone", "indexes", "i"] (C8.fnScope s_head_of) := ⟨rfl, rfl, rfl, by decide +kernel, rfl, by decide +kernel, by decide +kernel⟩
abbrev s_is_needed : Stmt := top 12
abbrev N_is_needed : List Str := ["zone", "firsts", "i", "j", "row", "number", "k", "step"]
theorem sc_is_needed : FnScope N_is_needed ["zone", "firsts", "i", "j"] (C8.fnScope s_is_needed) := ⟨rfl, rfl, rfl, by decide +kernel, rfl, by decide +kernel, by decide +kernel⟩
abbrev s_spread : Stmt := top 13
abbrev N_spread : List Str := ["zone", "olds", "numbers", "row", "i", "column", "j"]
theorem sc_spread : FnScope N_spread ["zone", "olds"] (C8.fnScope s_spread) := ⟨rfl, rfl, rfl, by decide +kernel, rfl, by decide +kernel, by decide +kernel⟩
abbrev s_number_at : Stmt := top 14
abbrev N_number_at : List Str := ["zone", "i", "j"]
theorem sc_number_at : FnScope N_number_at ["zone", "i", "j"] (C8.fnScope s_number_at) := ⟨rfl, rfl, rfl, by decide +kernel, rfl, by decide +kernel, by decide +kernel⟩
abbrev s_point_of : Stmt := top 15
abbrev N_point_of : List Str := ["zone", "found", "i", "least", "most", "j", "number"]
theorem sc_point_of : FnScope N_point_of ["zone"] (C8.fnScope s_point_of) := ⟨rfl, rfl, rfl, by decide +kernel, rfl, by decide +kernel, by decide +kernel⟩
abbrev s_has_point : Stmt := top 16
abbrev N_has_point : List Str := ["zone", "numbers", "row", "left", "most", "right"]
theorem sc_has_point : FnScope N_has_point ["zone", "numbers"] (C8.fnScope s_has_point) := ⟨rfl, rfl, rfl, by decide +kernel, rfl, by decide +kernel, by decide +kernel⟩
abbrev s_freed : Stmt := top 17
abbrev N_freed : List Str := ["zone", "indexes", "found", "i", "row", "numbers", "j", "number"]
theorem sc_freed : FnScope N_freed ["zone", "indexes"] (C8.fnScope s_freed) := ⟨rfl, rfl, rfl, by decide +kernel, rfl, by decide +kernel, by decide +kernel⟩
abbrev s_are_linked : Stmt := top 18
abbrev N_are_linked : List Str := ["zone", "hidden", "i", "j"]
theorem sc_are_linked : FnScope N_are_linked ["zone", "hidden", "i", "j"] (C8.fnScope s_are_linked) := ⟨rfl, rfl, rfl, by decide +kernel, rfl, by decide +kernel, by decide +kernel⟩
abbrev s_is_link : Stmt := top 19
abbrev N_is_link : List Str := ["zone", "hidden", "i", "j", "number", "k"]
theorem sc_is_link : FnScope N_is_link ["zone", "hidden", "i", "j"] (C8.fnScope s_is_link) := ⟨rfl, rfl, rfl, by decide +kernel, rfl, by decide +kernel, by decide +kernel⟩
abbrev s_greater : Stmt := top 20
abbrev N_greater : List Str := ["one", "two"]
theorem sc_greater : FnScope N_greater ["one", "two"] (C8.fnScope s_greater) := ⟨rfl, rfl, rfl, by decide +kernel, rfl, by decide +kernel, by decide +kernel⟩
abbrev s_denied : Stmt := top 27
abbrev N_denied : List Str := ["group", "literals", "others", "literal", "other"]
theorem sc_denied : FnScope N_denied ["group"] (C8.fnScope s_denied) := ⟨rfl, rfl, rfl, by decide +kernel, rfl, by decide +kernel, by decide +kernel⟩
abbrev s_open_group : Stmt := top 28
abbrev N_open_group : List Str := ["zone", "group", "is_case", "literals", "others", "plain", "literal", "i", "j", "number", "there", "back", "rest", "other", "left", "inner", "groups"]
theorem sc_open_group : FnScope N_open_group ["zone", "group", "is_case"] (C8.fnScope s_open_group) := ⟨rfl, rfl, rfl, by decide +kernel, rfl, by decide +kernel, by decide +kernel⟩
abbrev s_flat : Stmt := top 29
abbrev N_flat : List Str := ["literals", "groups", "plain", "rest", "group", "inner", "others"]
theorem sc_flat : FnScope N_flat ["literals", "groups"] (C8.fnScope s_flat) := ⟨rfl, rfl, rfl, by decide +kernel, rfl, by decide +kernel, by decide +kernel⟩
abbrev s_opened : Stmt := top 30
abbrev N_opened : List Str := ["part", "zone", "clauses", "left", "literals"]
theorem sc_opened : FnScope N_opened ["part"] (C8.fnScope s_opened) := ⟨rfl, rfl, rfl, by decide +kernel, rfl, by decide +kernel, by decide +kernel⟩
abbrev s_weight : Stmt := top 31
abbrev N_weight : List Str := ["clause", "literals", "cases", "inner", "clauses"]
theorem sc_weight : FnScope N_weight ["clause"] (C8.fnScope s_weight) := ⟨rfl, rfl, rfl, by decide +kernel, rfl, by decide +kernel, by decide +kernel⟩
abbrev s_lightest : Stmt := top 32
abbrev N_lightest : List Str := ["clauses", "at", "least", "index", "clause", "now"]
theorem sc_lightest : FnScope N_lightest ["clauses"] (C8.fnScope s_lightest) := ⟨rfl, rfl, rfl, by decide +kernel, rfl, by decide +kernel, by decide +kernel⟩
abbrev s_branches : Stmt := top 33
abbrev N_branches : List Str := ["part", "zone", "clauses", "at", "rest", "literals", "cases", "found", "literal", "case"]
theorem sc_branches : FnScope N_branches ["part"] (C8.fnScope s_branches) := ⟨rfl, rfl, rfl, by decide +kernel, rfl, by decide +kernel, by decide +kernel⟩
abbrev s_free_zone : Stmt := top 34
abbrev N_free_zone : List Str := ["part", "waiting", "left"]
theorem sc_free_zone : FnScope N_free_zone ["part"] (C8.fnScope s_free_zone) := ⟨rfl, rfl, rfl, by decide +kernel, rfl, by decide +kernel, by decide +kernel⟩
abbrev s_free_zones : Stmt := top 35
abbrev N_free_zones : List Str := ["part", "looks", "found", "waiting", "looked", "left"]
theorem sc_free_zones : FnScope N_free_zones ["part", "looks"] (C8.fnScope s_free_zones) := ⟨rfl, rfl, rfl, by decide +kernel, rfl, by decide +kernel, by decide +kernel⟩
abbrev s_settled : Stmt := top 36
abbrev N_settled : List Str := ["part", "left", "zones", "zone"]
theorem sc_settled : FnScope N_settled ["part"] (C8.fnScope s_settled) := ⟨rfl, rfl, rfl, by decide +kernel, rfl, by decide +kernel, by decide +kernel⟩
abbrev s_size_of : Stmt := top 37
abbrev N_size_of : List Str := ["groups", "literals", "others"]
theorem sc_size_of : FnScope N_size_of ["groups"] (C8.fnScope s_size_of) := ⟨rfl, rfl, rfl, by decide +kernel, rfl, by decide +kernel, by decide +kernel⟩
abbrev s_depth_of : Stmt := top 38
abbrev N_depth_of : List Str := ["groups", "deepest", "literals", "others", "depth"]
theorem sc_depth_of : FnScope N_depth_of ["groups"] (C8.fnScope s_depth_of) := ⟨rfl, rfl, rfl, by decide +kernel, rfl, by decide +kernel, by decide +kernel⟩
abbrev s_is_part_inside : Stmt := top 39
abbrev N_is_part_inside : List Str := ["part", "other", "zone", "clauses", "wide", "more", "clause", "left"]
theorem sc_is_part_inside : FnScope N_is_part_inside ["part", "other"] (C8.fnScope s_is_part_inside) := ⟨rfl, rfl, rfl, by decide +kernel, rfl, by decide +kernel, by decide +kernel⟩
abbrev s_has_state : Stmt := top 40
abbrev N_has_state : List Str := ["part", "numbers", "zone", "clauses"]
theorem sc_has_state : FnScope N_has_state ["part", "numbers"] (C8.fnScope s_has_state) := ⟨rfl, rfl, rfl, by decide +kernel, rfl, by decide +kernel, by decide +kernel⟩
abbrev s_fits : Stmt := top 41
abbrev N_fits : List Str := ["group", "numbers", "is_case", "literals", "others", "i", "j", "number", "other"]
theorem sc_fits : FnScope N_fits ["group", "numbers", "is_case"] (C8.fnScope s_fits) := ⟨rfl, rfl, rfl, by decide +kernel, rfl, by decide +kernel, by decide +kernel⟩
abbrev s_merged : Stmt := top 43
abbrev N_merged : List Str := ["cases", "i", "j"]
theorem sc_merged : FnScope N_merged ["cases"] (C8.fnScope s_merged) := ⟨rfl, rfl, rfl, by decide +kernel, rfl, by decide +kernel, by decide +kernel⟩
abbrev s_shared_pairs : Stmt := top 44
abbrev N_shared_pairs : List Str := ["cases", "found", "literals", "clauses", "own", "pair", "i", "j", "number"]
theorem sc_shared_pairs : FnScope N_shared_pairs ["cases"] (C8.fnScope s_shared_pairs) := ⟨rfl, rfl, rfl, by decide +kernel, rfl, by decide +kernel, by decide +kernel⟩
abbrev s_merged_along : Stmt := top 45
abbrev N_merged_along : List Str := ["cases", "i", "j", "found", "strips", "literals", "clauses", "rest", "literal", "strip"]
theorem sc_merged_along : FnScope N_merged_along ["cases", "i", "j"] (C8.fnScope s_merged_along) := ⟨rfl, rfl, rfl, by decide +kernel, rfl, by decide +kernel, by decide +kernel⟩
abbrev s_is_between : Stmt := top 46
abbrev N_is_between : List Str := ["literal", "i", "j"]
theorem sc_is_between : FnScope N_is_between ["literal", "i", "j"] (C8.fnScope s_is_between) := ⟨rfl, rfl, rfl, by decide +kernel, rfl, by decide +kernel, by decide +kernel⟩
abbrev s_strip_of : Stmt := top 47
abbrev N_strip_of : List Str := ["literals", "i", "j", "low", "high", "left", "right", "number"]
theorem sc_strip_of : FnScope N_strip_of ["literals", "i", "j"] (C8.fnScope s_strip_of) := ⟨rfl, rfl, rfl, by decide +kernel, rfl, by decide +kernel, by decide +kernel⟩
abbrev s_bounds : Stmt := top 48
abbrev N_bounds : List Str := ["strip", "i", "j", "low", "high", "found"]
theorem sc_bounds : FnScope N_bounds ["strip", "i", "j"] (C8.fnScope s_bounds) := ⟨rfl, rfl, rfl, by decide +kernel, rfl, by decide +kernel, by decide +kernel⟩
abbrev s_united : Stmt := top 49
abbrev N_united : List Str := ["strips", "highs", "low", "high", "lows", "found", "first", "last"]
theorem sc_united : FnScope N_united ["strips"] (C8.fnScope s_united) := ⟨rfl, rfl, rfl, by decide +kernel, rfl, by decide +kernel, by decide +kernel⟩
abbrev s_any_of : Stmt := top 51
abbrev N_any_of : List Str := ["cases", "found"]
theorem sc_any_of : FnScope N_any_of ["cases"] (C8.fnScope s_any_of) := ⟨rfl, rfl, rfl, by decide +kernel, rfl, by decide +kernel, by decide +kernel⟩
abbrev s_options_of : Stmt := top 52
abbrev N_options_of : List Str := ["clause", "literals", "cases", "literal"]
theorem sc_options_of : FnScope N_options_of ["clause"] (C8.fnScope s_options_of) := ⟨rfl, rfl, rfl, by decide +kernel, rfl, by decide +kernel, by decide +kernel⟩
abbrev s_narrowed : Stmt := top 53
abbrev N_narrowed : List Str := ["part", "case", "literals", "more", "zone"]
theorem sc_narrowed : FnScope N_narrowed ["part", "case"] (C8.fnScope s_narrowed) := ⟨rfl, rfl, rfl, by decide +kernel, rfl, by decide +kernel, by decide +kernel⟩
abbrev s_has_some : Stmt := top 54
abbrev N_has_some : List Str := ["part", "clauses"]
theorem sc_has_some : FnScope N_has_some ["part", "clauses"] (C8.fnScope s_has_some) := ⟨rfl, rfl, rfl, by decide +kernel, rfl, by decide +kernel, by decide +kernel⟩
abbrev s_case_within : Stmt := top 55
abbrev N_case_within : List Str := ["zone", "part", "inner", "clauses", "literal"]
theorem sc_case_within : FnScope N_case_within ["zone", "part"] (C8.fnScope s_case_within) := ⟨rfl, rfl, rfl, by decide +kernel, rfl, by decide +kernel, by decide +kernel⟩
abbrev s_moved : Stmt := top 58
abbrev N_moved : List Str := ["groups", "places", "group"]
theorem sc_moved : FnScope N_moved ["groups", "places"] (C8.fnScope s_moved) := ⟨rfl, rfl, rfl, by decide +kernel, rfl, by decide +kernel, by decide +kernel⟩
abbrev s_moved_group : Stmt := top 59
abbrev N_moved_group : List Str := ["group", "places", "literals", "others", "literal"]
theorem sc_moved_group : FnScope N_moved_group ["group", "places"] (C8.fnScope s_moved_group) := ⟨rfl, rfl, rfl, by decide +kernel, rfl, by decide +kernel, by decide +kernel⟩
abbrev s_moved_literal : Stmt := top 60
abbrev N_moved_literal : List Str := ["literal", "places", "i", "j", "number", "left", "low", "right", "high"]
theorem sc_moved_literal : FnScope N_moved_literal ["literal", "places"] (C8.fnScope s_moved_literal) := ⟨rfl, rfl, rfl, by decide +kernel, rfl, by decide +kernel, by decide +kernel⟩
abbrev s_shadow : Stmt := top 61
abbrev N_shadow : List Str := ["part", "hidden", "given", "zone", "clauses", "found", "group", "clause"]
theorem sc_shadow : FnScope N_shadow ["part", "hidden", "given"] (C8.fnScope s_shadow) := ⟨rfl, rfl, rfl, by decide +kernel, rfl, by decide +kernel, by decide +kernel⟩
abbrev s_shadow_cases : Stmt := top 62
abbrev N_shadow_cases : List Str := ["around", "part", "hidden", "given", "found", "option", "inner", "case"]
theorem sc_shadow_cases : FnScope N_shadow_cases ["around", "part", "hidden", "given"] (C8.fnScope s_shadow_cases) := ⟨rfl, rfl, rfl, by decide +kernel, rfl, by decide +kernel, by decide +kernel⟩
abbrev s_is_about : Stmt := top 63
abbrev N_is_about : List Str := ["group", "indexes", "literals", "others", "i", "j", "number", "other"]
theorem sc_is_about : FnScope N_is_about ["group", "indexes"] (C8.fnScope s_is_about) := ⟨rfl, rfl, rfl, by decide +kernel, rfl, by decide +kernel, by decide +kernel⟩
abbrev s_replaced : Stmt := top 64
abbrev N_replaced : List Str := ["zone", "clauses", "hidden", "places", "k", "i", "row"]
theorem sc_replaced : FnScope N_replaced ["zone", "clauses", "hidden"] (C8.fnScope s_replaced) := ⟨rfl, rfl, rfl, by decide +kernel, rfl, by decide +kernel, by decide +kernel⟩
abbrev s_groups_of : Stmt := top 65
abbrev N_groups_of : List Str := ["zone", "clauses", "hidden", "waiting", "found", "group", "joining", "reach", "clause", "k"]
theorem sc_groups_of : FnScope N_groups_of ["zone", "clauses", "hidden"] (C8.fnScope s_groups_of) := ⟨rfl, rfl, rfl, by decide +kernel, rfl, by decide +kernel, by decide +kernel⟩
abbrev s_is_in_reach : Stmt := top 66
abbrev N_is_in_reach : List Str := ["zone", "group", "hidden", "k", "i"]
theorem sc_is_in_reach : FnScope N_is_in_reach ["zone", "group", "hidden", "k"] (C8.fnScope s_is_in_reach) := ⟨rfl, rfl, rfl, by decide +kernel, rfl, by decide +kernel, by decide +kernel⟩
abbrev s_split_up : Stmt := top 67
abbrev N_split_up : List Str := ["part", "hidden", "zone", "clauses", "literals", "best", "least", "lowest", "k", "about", "bottoms", "by_floors", "many", "clause"]
theorem sc_split_up : FnScope N_split_up ["part", "hidden"] (C8.fnScope s_split_up) := ⟨rfl, rfl, rfl, by decide +kernel, rfl, by decide +kernel, by decide +kernel⟩
abbrev s_split_by_options : Stmt := top 68
abbrev N_split_by_options : List Str := ["part", "k", "zone", "clauses", "about", "clause", "rest", "other", "option"]
theorem sc_split_by_options : FnScope N_split_by_options ["part", "k"] (C8.fnScope s_split_by_options) := ⟨rfl, rfl, rfl, by decide +kernel, rfl, by decide +kernel, by decide +kernel⟩
abbrev s_split_by_floors : Stmt := top 69
abbrev N_split_by_floors : List Str := ["part", "k", "bottoms", "zone", "clauses", "found", "i", "number", "inner", "places", "row", "j"]
theorem sc_split_by_floors : FnScope N_split_by_floors ["part", "k", "bottoms"] (C8.fnScope s_split_by_floors) := ⟨rfl, rfl, rfl, by decide +kernel, rfl, by decide +kernel, by decide +kernel⟩
abbrev s_floors : Stmt := top 70
abbrev N_floors : List Str := ["literals", "k", "found", "i", "j", "number"]
theorem sc_floors : FnScope N_floors ["literals", "k"] (C8.fnScope s_floors) := ⟨rfl, rfl, rfl, by decide +kernel, rfl, by decide +kernel, by decide +kernel⟩
abbrev s_inner_literals : Stmt := top 71
abbrev N_inner_literals : List Str := ["groups", "found", "literals", "others"]
theorem sc_inner_literals : FnScope N_inner_literals ["groups"] (C8.fnScope s_inner_literals) := ⟨rfl, rfl, rfl, by decide +kernel, rfl, by decide +kernel, by decide +kernel⟩
abbrev s_sunk_clauses : Stmt := top 72
abbrev N_sunk_clauses : List Str := ["clauses", "k", "found", "literals", "cases", "i", "j", "number", "literal"]
theorem sc_sunk_clauses : FnScope N_sunk_clauses ["clauses", "k"] (C8.fnScope s_sunk_clauses) := ⟨rfl, rfl, rfl, by decide +kernel, rfl, by decide +kernel, by decide +kernel⟩
abbrev s_sunk_cases : Stmt := top 73
abbrev N_sunk_cases : List Str := ["cases", "k", "found", "literals", "clauses", "i", "j", "number", "literal"]
theorem sc_sunk_cases : FnScope N_sunk_cases ["cases", "k"] (C8.fnScope s_sunk_cases) := ⟨rfl, rfl, rfl, by decide +kernel, rfl, by decide +kernel, by decide +kernel⟩
abbrev s_Cover_init : Stmt := inClass (top 76) 0
abbrev N_Cover_init : List Str := ["self", "parts"]
theorem sc_Cover_init : FnScope N_Cover_init ["self", "parts"] (C8.fnScope s_Cover_init) := ⟨rfl, rfl, rfl, by decide +kernel, rfl, by decide +kernel, by decide +kernel⟩
abbrev s_of_rows : Stmt := top 77
abbrev N_of_rows : List Str := ["rows", "many", "zones", "row", "zone"]
theorem sc_of_rows : FnScope N_of_rows ["rows", "many"] (C8.fnScope s_of_rows) := ⟨rfl, rfl, rfl, by decide +kernel, rfl, by decide +kernel, by decide +kernel⟩
abbrev s_trimmed : Stmt := top 78
abbrev N_trimmed : List Str := ["parts", "kept", "part", "other"]
theorem sc_trimmed : FnScope N_trimmed ["parts"] (C8.fnScope s_trimmed) := ⟨rfl, rfl, rfl, by decide +kernel, rfl, by decide +kernel, by decide +kernel⟩
abbrev s_is_inside_one : Stmt := top 79
abbrev N_is_inside_one : List Str := ["part", "others", "other"]
theorem sc_is_inside_one : FnScope N_is_inside_one ["part", "others"] (C8.fnScope s_is_inside_one) := ⟨rfl, rfl, rfl, by decide +kernel, rfl, by decide +kernel, by decide +kernel⟩
abbrev s_case_of : Stmt := top 80
abbrev N_case_of : List Str := ["part", "zone", "clauses"]
theorem sc_case_of : FnScope N_case_of ["part"] (C8.fnScope s_case_of) := ⟨rfl, rfl, rfl, by decide +kernel, rfl, by decide +kernel, by decide +kernel⟩
abbrev s_either : Stmt := top 81
abbrev N_either : List Str := ["parts", "others", "right", "left", "part"]
theorem sc_either : FnScope N_either ["parts", "others"] (C8.fnScope s_either) := ⟨rfl, rfl, rfl, by decide +kernel, rfl, by decide +kernel, by decide +kernel⟩
abbrev s_widened : Stmt := top 82
abbrev N_widened : List Str := ["parts", "others", "barred", "found", "zone", "clauses", "needless", "other", "clause"]
theorem sc_widened : FnScope N_widened ["parts", "others"] (C8.fnScope s_widened) := ⟨rfl, rfl, rfl, by decide +kernel, rfl, by decide +kernel, by decide +kernel⟩
abbrev s_both : Stmt := top 83
abbrev N_both : List Str := ["parts", "others", "clause", "found", "zone", "clauses", "other"]
theorem sc_both : FnScope N_both ["parts", "others"] (C8.fnScope s_both) := ⟨rfl, rfl, rfl, by decide +kernel, rfl, by decide +kernel, by decide +kernel⟩
abbrev s_less : Stmt := top 84
abbrev N_less : List Str := ["parts", "others", "barred", "found", "zone", "clauses", "other"]
theorem sc_less : FnScope N_less ["parts", "others"] (C8.fnScope s_less) := ⟨rfl, rfl, rfl, by decide +kernel, rfl, by decide +kernel, by decide +kernel⟩
abbrev s_are_inside : Stmt := top 85
abbrev N_are_inside : List Str := ["parts", "others", "barred", "zone", "clauses", "part", "other"]
theorem sc_are_inside : FnScope N_are_inside ["parts", "others"] (C8.fnScope s_are_inside) := ⟨rfl, rfl, rfl, by decide +kernel, rfl, by decide +kernel, by decide +kernel⟩
abbrev s_most_apart : Stmt := top 86
abbrev N_most_apart : List Str := ["parts", "i", "j", "most", "waiting", "left", "apart"]
theorem sc_most_apart : FnScope N_most_apart ["parts", "i", "j"] (C8.fnScope s_most_apart) := ⟨rfl, rfl, rfl, by decide +kernel, rfl, by decide +kernel, by decide +kernel⟩
abbrev s_all_hold : Stmt := top 87
abbrev N_all_hold : List Str := ["parts", "literal", "zone", "clauses", "outer"]
theorem sc_all_hold : FnScope N_all_hold ["parts", "literal"] (C8.fnScope s_all_hold) := ⟨rfl, rfl, rfl, by decide +kernel, rfl, by decide +kernel, by decide +kernel⟩
abbrev s_shadow_of : Stmt := top 88
abbrev N_shadow_of : List Str := ["parts", "k", "kept", "barred", "zone", "clauses", "seen", "i"]
theorem sc_shadow_of : FnScope N_shadow_of ["parts", "k"] (C8.fnScope s_shadow_of) := ⟨rfl, rfl, rfl, by decide +kernel, rfl, by decide +kernel, by decide +kernel⟩
abbrev s_spread_out : Stmt := top 89
abbrev N_spread_out : List Str := ["parts", "olds", "found", "zone", "clauses", "places", "new", "old", "row"]
theorem sc_spread_out : FnScope N_spread_out ["parts", "olds"] (C8.fnScope s_spread_out) := ⟨rfl, rfl, rfl, by decide +kernel, rfl, by decide +kernel, by decide +kernel⟩
abbrev s_rows_of : Stmt := top 90
abbrev N_rows_of : List Str := ["parts", "part", "zone"]
theorem sc_rows_of : FnScope N_rows_of ["parts"] (C8.fnScope s_rows_of) := ⟨rfl, rfl, rfl, by decide +kernel, rfl, by decide +kernel, by decide +kernel⟩
abbrev s_NoLiterals_init : Stmt := inClass (top 93) 0
abbrev N_NoLiterals_init : List Str := ["self", "at"]
theorem sc_NoLiterals_init : FnScope N_NoLiterals_init ["self", "at"] (C8.fnScope s_NoLiterals_init) := ⟨rfl, rfl, rfl, by decide +kernel, rfl, by decide +kernel, by decide +kernel⟩
abbrev s_BadStates_init : Stmt := inClass (top 94) 0
abbrev N_BadStates_init : List Str := ["self", "why"]
theorem sc_BadStates_init : FnScope N_BadStates_init ["self", "why"] (C8.fnScope s_BadStates_init) := ⟨rfl, rfl, rfl, by decide +kernel, rfl, by decide +kernel, by decide +kernel⟩
abbrev s_NoName_init : Stmt := inClass (top 95) 0
abbrev N_NoName_init : List Str := ["self", "term"]
theorem sc_NoName_init : FnScope N_NoName_init ["self", "term"] (C8.fnScope s_NoName_init) := ⟨rfl, rfl, rfl, by decide +kernel, rfl, by decide +kernel, by decide +kernel⟩
abbrev s_is_number : Stmt := top 101
abbrev N_is_number : List Str := ["thing"]
theorem sc_is_number : FnScope N_is_number ["thing"] (C8.fnScope s_is_number) := ⟨rfl, rfl, rfl, by decide +kernel, rfl, by decide +kernel, by decide +kernel⟩
abbrev s_is_word : Stmt := top 102
abbrev N_is_word : List Str := ["thing"]
theorem sc_is_word : FnScope N_is_word ["thing"] (C8.fnScope s_is_word) := ⟨rfl, rfl, rfl, by decide +kernel, rfl, by decide +kernel, by decide +kernel⟩
abbrev s_is_label : Stmt := top 103
abbrev N_is_label : List Str := ["thing"]
theorem sc_is_label : FnScope N_is_label ["thing"] (C8.fnScope s_is_label) := ⟨rfl, rfl, rfl, by decide +kernel, rfl, by decide +kernel, by decide +kernel⟩
abbrev s_are_different : Stmt := top 104
abbrev N_are_different : List Str := ["things"]
theorem sc_are_different : FnScope N_are_different ["things"] (C8.fnScope s_are_different) := ⟨rfl, rfl, rfl, by decide +kernel, rfl, by decide +kernel, by decide +kernel⟩
abbrev s_are_labels : Stmt := top 105
abbrev N_are_labels : List Str := ["thing", "part"]
theorem sc_are_labels : FnScope N_are_labels ["thing"] (C8.fnScope s_are_labels) := ⟨rfl, rfl, rfl, by decide +kernel, rfl, by decide +kernel, by decide +kernel⟩
abbrev s_is_literal : Stmt := top 106
abbrev N_is_literal : List Str := ["thing", "left", "right", "number"]
theorem sc_is_literal : FnScope N_is_literal ["thing"] (C8.fnScope s_is_literal) := ⟨rfl, rfl, rfl, by decide +kernel, rfl, by decide +kernel, by decide +kernel⟩
abbrev s_are_numbers : Stmt := top 107
abbrev N_are_numbers : List Str := ["thing", "names", "name"]
theorem sc_are_numbers : FnScope N_are_numbers ["thing", "names"] (C8.fnScope s_are_numbers) := ⟨rfl, rfl, rfl, by decide +kernel, rfl, by decide +kernel, by decide +kernel⟩
abbrev s_check_literal : Stmt := top 109
abbrev N_check_literal : List Str := ["literal"]
theorem sc_check_literal : FnScope N_check_literal ["literal"] (C8.fnScope s_check_literal) := ⟨rfl, rfl, rfl, by decide +kernel, rfl, by decide +kernel, by decide +kernel⟩
abbrev s_check_term : Stmt := top 110
abbrev N_check_term : List Str := ["term", "names"]
theorem sc_check_term : FnScope N_check_term ["term", "names"] (C8.fnScope s_check_term) := ⟨rfl, rfl, rfl, by decide +kernel, rfl, by decide +kernel, by decide +kernel⟩
abbrev s_check_terms : Stmt := top 111
abbrev N_check_terms : List Str := ["literal", "names"]
theorem sc_check_terms : FnScope N_check_terms ["literal", "names"] (C8.fnScope s_check_terms) := ⟨rfl, rfl, rfl, by decide +kernel, rfl, by decide +kernel, by decide +kernel⟩
abbrev s_are_rows : Stmt := top 113
abbrev N_are_rows : List Str := ["rows", "names", "row", "literal"]
theorem sc_are_rows : FnScope N_are_rows ["rows", "names"] (C8.fnScope s_are_rows) := ⟨rfl, rfl, rfl, by decide +kernel, rfl, by decide +kernel, by decide +kernel⟩
abbrev s_is_over : Stmt := top 114
abbrev N_is_over : List Str := ["literal", "names", "term"]
theorem sc_is_over : FnScope N_is_over ["literal", "names"] (C8.fnScope s_is_over) := ⟨rfl, rfl, rfl, by decide +kernel, rfl, by decide +kernel, by decide +kernel⟩
abbrev s_check_alike : Stmt := top 115
abbrev N_check_alike : List Str := ["one", "other"]
theorem sc_check_alike : FnScope N_check_alike ["one", "other"] (C8.fnScope s_check_alike) := ⟨rfl, rfl, rfl, by decide +kernel, rfl, by decide +kernel, by decide +kernel⟩
abbrev s_States_init : Stmt := inClass (top 116) 0
abbrev N_States_init : List Str := ["self", "names", "rows"]
theorem sc_States_init : FnScope N_States_init ["self", "names", "rows"] (C8.fnScope s_States_init) := ⟨rfl, rfl, rfl, by decide +kernel, rfl, by decide +kernel, by decide +kernel⟩
abbrev s_States__covered : Stmt := inClass (top 116) 1
abbrev N_States__covered : List Str := ["self", "rows", "found", "row", "left", "right", "number"]
theorem sc_States__covered : FnScope N_States__covered ["self", "rows"] (C8.fnScope s_States__covered) := ⟨rfl, rfl, rfl, by decide +kernel, rfl, by decide +kernel, by decide +kernel⟩
abbrev s_States__index : Stmt := inClass (top 116) 2
abbrev N_States__index : List Str := ["self", "term"]
theorem sc_States__index : FnScope N_States__index ["self", "term"] (C8.fnScope s_States__index) := ⟨rfl, rfl, rfl, by decide +kernel, rfl, by decide +kernel, by decide +kernel⟩
abbrev s_States_rows : Stmt := inClass (top 116) 3
abbrev N_States_rows : List Str := ["self", "terms", "found", "row", "i", "j", "number"]
theorem sc_States_rows : FnScope N_States_rows ["self"] (C8.fnScope s_States_rows) := ⟨rfl, rfl, rfl, by decide +kernel, rfl, by decide +kernel, by decide +kernel⟩
abbrev s_States_contains : Stmt := inClass (top 116) 4
abbrev N_States_contains : List Str := ["self", "state", "numbers", "name", "part"]
theorem sc_States_contains : FnScope N_States_contains ["self", "state"] (C8.fnScope s_States_contains) := ⟨rfl, rfl, rfl, by decide +kernel, rfl, by decide +kernel, by decide +kernel⟩
abbrev s_States_eq : Stmt := inClass (top 116) 5
abbrev N_States_eq : List Str := ["self", "other"]
theorem sc_States_eq : FnScope N_States_eq ["self", "other"] (C8.fnScope s_States_eq) := ⟨rfl, rfl, rfl, by decide +kernel, rfl, by decide +kernel, by decide +kernel⟩
abbrev s_States_le : Stmt := inClass (top 116) 6
abbrev N_States_le : List Str := ["self", "other"]
theorem sc_States_le : FnScope N_States_le ["self", "other"] (C8.fnScope s_States_le) := ⟨rfl, rfl, rfl, by decide +kernel, rfl, by decide +kernel, by decide +kernel⟩
abbrev s_States_and : Stmt := inClass (top 116) 7
abbrev N_States_and : List Str := ["self", "other"]
theorem sc_States_and : FnScope N_States_and ["self", "other"] (C8.fnScope s_States_and) := ⟨rfl, rfl, rfl, by decide +kernel, rfl, by decide +kernel, by decide +kernel⟩
abbrev s_States_or : Stmt := inClass (top 116) 8
abbrev N_States_or : List Str := ["self", "other"]
theorem sc_States_or : FnScope N_States_or ["self", "other"] (C8.fnScope s_States_or) := ⟨rfl, rfl, rfl, by decide +kernel, rfl, by decide +kernel, by decide +kernel⟩
abbrev s_States_sub : Stmt := inClass (top 116) 9
abbrev N_States_sub : List Str := ["self", "other"]
theorem sc_States_sub : FnScope N_States_sub ["self", "other"] (C8.fnScope s_States_sub) := ⟨rfl, rfl, rfl, by decide +kernel, rfl, by decide +kernel, by decide +kernel⟩
abbrev s_States_is_empty : Stmt := inClass (top 116) 10
abbrev N_States_is_empty : List Str := ["self"]
theorem sc_States_is_empty : FnScope N_States_is_empty ["self"] (C8.fnScope s_States_is_empty) := ⟨rfl, rfl, rfl, by decide +kernel, rfl, by decide +kernel, by decide +kernel⟩
abbrev s_States_some : Stmt := inClass (top 116) 11
abbrev N_States_some : List Str := ["self", "numbers", "at", "name"]
theorem sc_States_some : FnScope N_States_some ["self"] (C8.fnScope s_States_some) := ⟨rfl, rfl, rfl, by decide +kernel, rfl, by decide +kernel, by decide +kernel⟩
abbrev s_States_holds : Stmt := inClass (top 116) 12
abbrev N_States_holds : List Str := ["self", "literal", "left", "right", "number"]
theorem sc_States_holds : FnScope N_States_holds ["self", "literal"] (C8.fnScope s_States_holds) := ⟨rfl, rfl, rfl, by decide +kernel, rfl, by decide +kernel, by decide +kernel⟩
abbrev s_States_bound : Stmt := inClass (top 116) 13
abbrev N_States_bound : List Str := ["self", "left", "right"]
theorem sc_States_bound : FnScope N_States_bound ["self", "left", "right"] (C8.fnScope s_States_bound) := ⟨rfl, rfl, rfl, by decide +kernel, rfl, by decide +kernel, by decide +kernel⟩
abbrev s_States_without : Stmt := inClass (top 116) 14
abbrev N_States_without : List Str := ["self", "name", "rest", "other"]
theorem sc_States_without : FnScope N_States_without ["self", "name"] (C8.fnScope s_States_without) := ⟨rfl, rfl, rfl, by decide +kernel, rfl, by decide +kernel, by decide +kernel⟩
abbrev s_States_renamed : Stmt := inClass (top 116) 15
abbrev N_States_renamed : List Str := ["self", "old", "new"]
theorem sc_States_renamed : FnScope N_States_renamed ["self", "old", "new"] (C8.fnScope s_States_renamed) := ⟨rfl, rfl, rfl, by decide +kernel, rfl, by decide +kernel, by decide +kernel⟩
abbrev s_States_over : Stmt := inClass (top 116) 16
abbrev N_States_over : List Str := ["self", "more", "name"]
theorem sc_States_over : FnScope N_States_over ["self", "more"] (C8.fnScope s_States_over) := ⟨rfl, rfl, rfl, by decide +kernel, rfl, by decide +kernel, by decide +kernel⟩
abbrev s_States__spread : Stmt := inClass (top 116) 17
abbrev N_States__spread : List Str := ["self", "sources", "names", "olds", "name", "source"]
theorem sc_States__spread : FnScope N_States__spread ["self", "sources"] (C8.fnScope s_States__spread) := ⟨rfl, rfl, rfl, by decide +kernel, rfl, by decide +kernel, by decide +kernel⟩
abbrev s_check_literals : Stmt := top 119
abbrev N_check_literals : List Str := ["literals", "at", "literal"]
theorem sc_check_literals : FnScope N_check_literals ["literals"] (C8.fnScope s_check_literals) := ⟨rfl, rfl, rfl, by decide +kernel, rfl, by decide +kernel, by decide +kernel⟩
abbrev s_solved : Stmt := top 120
abbrev N_solved : List Str := ["literals", "heights", "lowered_by", "_", "lowered", "zero", "left", "right", "number", "term"]
theorem sc_solved : FnScope N_solved ["literals"] (C8.fnScope s_solved) := ⟨rfl, rfl, rfl, by decide +kernel, rfl, by decide +kernel, by decide +kernel⟩
abbrev s_lower_once : Stmt := top 121
abbrev N_lower_once : List Str := ["literals", "heights", "lowered_by", "lowered", "at", "left", "right", "number"]
theorem sc_lower_once : FnScope N_lower_once ["literals", "heights", "lowered_by"] (C8.fnScope s_lower_once) := ⟨rfl, rfl, rfl, by decide +kernel, rfl, by decide +kernel, by decide +kernel⟩
abbrev s_ring_behind : Stmt := top 122
abbrev N_ring_behind : List Str := ["literals", "lowered_by", "term", "_", "ring", "following"]
theorem sc_ring_behind : FnScope N_ring_behind ["literals", "lowered_by", "term"] (C8.fnScope s_ring_behind) := ⟨rfl, rfl, rfl, by decide +kernel, rfl, by decide +kernel, by decide +kernel⟩
abbrev s_l_well : Stmt := top 124
abbrev N_l_well : List Str := ["_law_cell"]
theorem sc_l_well : FnScope N_l_well ["_law_cell"] (C8.fnScope s_l_well) := ⟨rfl, rfl, rfl, by decide +kernel, rfl, by decide +kernel, by decide +kernel⟩
abbrev s_l_draw : Stmt := top 125
abbrev N_l_draw : List Str := ["_law_well_here", "_law_base", "_law_digit", "_law_number"]
theorem sc_l_draw : FnScope N_l_draw ["_law_well_here", "_law_base"] (C8.fnScope s_l_draw) := ⟨rfl, rfl, rfl, by decide +kernel, rfl, by decide +kernel, by decide +kernel⟩
abbrev s_l_one : Stmt := top 126
abbrev N_l_one : List Str := ["_law_well_here", "_law_some"]
theorem sc_l_one : FnScope N_l_one ["_law_well_here", "_law_some"] (C8.fnScope s_l_one) := ⟨rfl, rfl, rfl, by decide +kernel, rfl, by decide +kernel, by decide +kernel⟩
abbrev s_l_names : Stmt := top 127
abbrev N_l_names : List Str := ["_law_well_here", "_law_many", "_law_some", "_law_names_here", "_law_k"]
theorem sc_l_names : FnScope N_l_names ["_law_well_here", "_law_many"] (C8.fnScope s_l_names) := ⟨rfl, rfl, rfl, by decide +kernel, rfl, by decide +kernel, by decide +kernel⟩
abbrev s_l_rows : Stmt := top 128
abbrev N_l_rows : List Str := ["_law_well_here", "_law_names_here", "_law_many", "_law_most", "_law_rows_here", "_law_k", "_law_row", "_law_j", "_law_left", "_law_right"]
theorem sc_l_rows : FnScope N_l_rows ["_law_well_here", "_law_names_here", "_law_many", "_law_most"] (C8.fnScope s_l_rows) := ⟨rfl, rfl, rfl, by decide +kernel, rfl, by decide +kernel, by decide +kernel⟩
abbrev s_l_grid : Stmt := top 129
abbrev N_l_grid : List Str := ["_law_names_here", "_law_far", "_law_states", "_law_name", "_law_more", "_law_one_here", "_law_number", "_law_state"]
theorem sc_l_grid : FnScope N_l_grid ["_law_names_here", "_law_far"] (C8.fnScope s_l_grid) := ⟨rfl, rfl, rfl, by decide +kernel, rfl, by decide +kernel, by decide +kernel⟩
abbrev s_l_at : Stmt := top 130
abbrev N_l_at : List Str := ["_law_state", "_law_term"]
theorem sc_l_at : FnScope N_l_at ["_law_state", "_law_term"] (C8.fnScope s_l_at) := ⟨rfl, rfl, rfl, by decide +kernel, rfl, by decide +kernel, by decide +kernel⟩
abbrev s_l_meets : Stmt := top 131
abbrev N_l_meets : List Str := ["_law_state", "_law_row", "_law_left", "_law_right", "_law_number"]
theorem sc_l_meets : FnScope N_l_meets ["_law_state", "_law_row"] (C8.fnScope s_l_meets) := ⟨rfl, rfl, rfl, by decide +kernel, rfl, by decide +kernel, by decide +kernel⟩
abbrev s_l_is_in : Stmt := top 132
abbrev N_l_is_in : List Str := ["_law_state", "_law_rows_here", "_law_row"]
theorem sc_l_is_in : FnScope N_l_is_in ["_law_state", "_law_rows_here"] (C8.fnScope s_l_is_in) := ⟨rfl, rfl, rfl, by decide +kernel, rfl, by decide +kernel, by decide +kernel⟩
abbrev s_l_open : Stmt := top 133
abbrev N_l_open : List Str := ["_law_rows_here", "_law_more", "_law_row"]
theorem sc_l_open : FnScope N_l_open ["_law_rows_here", "_law_more"] (C8.fnScope s_l_open) := ⟨rfl, rfl, rfl, by decide +kernel, rfl, by decide +kernel, by decide +kernel⟩
abbrev s_l_bound : Stmt := top 134
abbrev N_l_bound : List Str := ["_law_one_here", "_law_left", "_law_right"]
theorem sc_l_bound : FnScope N_l_bound ["_law_one_here", "_law_left", "_law_right"] (C8.fnScope s_l_bound) := ⟨rfl, rfl, rfl, by decide +kernel, rfl, by decide +kernel, by decide +kernel⟩
abbrev s_law : Stmt := top 135
abbrev N_law : List Str := ["_law_script", "_law_cell", "_law_well_here", "_law_names_here", "_law_times", "_law_rows_here", "_law_row", "_law_one_here", "_law_left", "_law_right", "_law_told", "_law_lit"]
theorem sc_law : FnScope N_law ["_law_script"] (C8.fnScope s_law) := ⟨rfl, rfl, rfl, by decide +kernel, rfl, by decide +kernel, by decide +kernel⟩
structure Txt (mg : Str → Option Value) : Prop where
  c_MOST_LITERALS : ∃ u, mg "MOST_LITERALS" = some u ∧ RelV (.int 300) u
  z_isinstance : mg "isinstance" = none
  z_len : mg "len" = none
  z_int : mg "int" = none
  z_bool : mg "bool" = none
  z_tuple : mg "tuple" = none
  z_list : mg "list" = none
  z_str : mg "str" = none
  z_set : mg "set" = none
  z_range : mg "range" = none
  z_enumerate : mg "enumerate" = none
  z_sorted : mg "sorted" = none
  z_dict : mg "dict" = none
end Q1

namespace Q1
open PySem L2 Bx
section
variable {P : Program} {w : World} {K : PySem.W.Frag} {mg : Str → Option Value} {base : Heap}
/-- is it a whole number: any value whose class is known -/
def spNum (K : PySem.W.Frag) : Sp := fun vs H Q _ => ∃ (v : V) (t : Value) (a c : Bool), vs = [v] ∧ TyX K H v t ∧ PySem.W.kitOne K t (.type "int") = some a ∧ PySem.W.kitOne K t (.type "bool") = some c ∧ Q (.bl (a && !c)) H
theorem ok_is_number {f : Addr} {fd : FuncData} (F : C8.Def K mg "is_number" s_is_number f fd) (b : Binds K fd ["thing"] []) (T : Txt mg) : C8.Cal P w K mg base 1 "is_number" (spNum K) [] := by
  refine C8.cal0 F b .nil sc_is_number (fun vs H Q E h => ?_) (fun cdv A outer s H vs Q E hr h => ?_)
  · obtain ⟨v, t, a, c, rfl, _⟩ := h
    rfl
  · obtain ⟨v, t, a, c, rfl, ty, ka, kc, k⟩ := h
    refine ⟨_, (pss_one (ps_ret (pe_and (pe_callB call_isi (by rfl) T.z_isinstance (by decide +kernel) (pa_cons (pv 0) (pa_cons (pe_bltn (v := .ty "int") (by rfl) T.z_int (by decide +kernel) rfl) pa_nil))) (pe_one (pe_not (pe_callB call_isi (by rfl) T.z_isinstance (by decide +kernel) (pa_cons (pv 0) (pa_cons (pe_bltn (v := .ty "bool") (by rfl) T.z_bool (by decide +kernel) rfl) pa_nil)))))))), ?_⟩
    refine ⟨_, rfl, _, _, _, _, _, rfl, .ty _, ty, ka, _, rfl, ?_⟩
    cases a with
    | false => exact iteF k
    | true => exact iteT ⟨_, rfl, _, _, _, _, _, rfl, .ty _, ty, kc, _, rfl, k⟩
/-- is it a literal: here only of good ones -/
def spLitG (K : PySem.W.Frag) : Sp := fun vs H Q _ => ∃ (p : Addr) (l r : Str) (n : Int), vs = [.ref p] ∧ SqT K H p [.str l, .str r, .int n] ∧ Q (.bl true) H
theorem ok_is_literal {f : Addr} {fd : FuncData} (F : C8.Def K mg "is_literal" s_is_literal f fd) (b : Binds K fd ["thing"] []) (T : Txt mg) (K_is_number : C8.Cal P w K mg base 1 "is_number" (spNum K) []) : C8.Cal P w K mg base 2 "is_literal" (spLitG K) [] := by
  refine C8.cal0 F b .nil sc_is_literal (fun vs H Q E h => ?_) (fun cdv A outer s H vs Q E hr h => ?_)
  · obtain ⟨p, l, r, n, rfl, _⟩ := h
    rfl
  · obtain ⟨p, l, r, n, rfl, hp, k⟩ := h
    refine ⟨_, (pss_cons (ps_if (PW.pt (pw_or (pt_not (pt_val (pe_callB call_isi (by rfl) T.z_isinstance (by decide +kernel) (pa_cons (pv 0) (pa_cons (pe_bltn (v := .ty "tuple") (by rfl) T.z_tuple (by decide +kernel) rfl) pa_nil))))) (pw_or1 (pt_cmpR op_ne (pe_callB call_len_seq (by rfl) T.z_len (by decide +kernel) (pa_cons (pv 0) pa_nil)) pe_int (nomark _))))) (pss_one (ps_ret pe_bl)) pss_nil)
    (pss_cons (ps_asg (pv 0) (pg_tup (by rfl) (pgs_cons (pg_name (i := 1) sc_is_literal.nd rfl (Or.inl rfl)) (pgs_cons (pg_name (i := 2) sc_is_literal.nd rfl (Or.inl rfl)) (pgs_cons (pg_name (i := 3) sc_is_literal.nd rfl (Or.inl rfl)) pgs_nil)))))
    (pss_one (ps_ret (pe_and (pe_callB call_isi (by rfl) T.z_isinstance (by decide +kernel) (pa_cons (pv 1) (pa_cons (pe_bltn (v := .ty "str") (by rfl) T.z_str (by decide +kernel) rfl) pa_nil))) (pe_and (pe_callB call_isi (by rfl) T.z_isinstance (by decide +kernel) (pa_cons (pv 2) (pa_cons (pe_bltn (v := .ty "str") (by rfl) T.z_str (by decide +kernel) rfl) pa_nil))) (pe_one (C8.pe_c K_is_number hr (by decide) (by rfl) (pa_cons (pv 3) pa_nil))))))))), ?_⟩
    refine ⟨_, rfl, _, _, _, _, true, rfl, .ty _, tyT hp, rfl, _, rfl, ?_⟩
    refine iteF ?_
    refine ⟨_, rfl, p, _, rfl, .inr hp, rfl, _, rfl, ?_⟩
    refine iteF ?_
    refine ⟨_, rfl, p, _, rfl, hp, rfl, _, _, rfl, _, _, rfl, _, _, rfl, rfl, ?_⟩
    refine ⟨_, rfl, _, _, _, _, true, rfl, .ty _, .base (.str l), rfl, _, rfl, ?_⟩
    refine iteT ⟨_, rfl, _, _, _, _, true, rfl, .ty _, .base (.str r), rfl, _, rfl, ?_⟩
    refine iteT ⟨_, rfl, _, _, true, false, rfl, .base (.int n), rfl, rfl, ?_⟩
    exact k
/-- literals at ts -/
def LitsAt (K : PySem.W.Frag) (H : Hp) (ts : List Addr) (lits : List (Str × Str × Int)) : Prop :=
  ts.length = lits.length ∧ ∀ (j : Nat) (q : Str × Str × Int), lits[j]? = some q → ∃ t, ts[j]? = some t ∧ SqT K H t [.str q.1, .str q.2.1, .int q.2.2]
theorem LitsAt.mono {H H' : Hp} {ts : List Addr} {lits : List (Str × Str × Int)} (e : Same H H') (h : LitsAt K H ts lits) : LitsAt K H' ts lits :=
  ⟨h.1, fun j q hj => (h.2 j q hj).imp fun t z => ⟨z.1, Same.seqT e z.2⟩⟩
def spChkG (K : PySem.W.Frag) : Sp := fun vs H Q _ => ∃ (p : Addr) (ts : List Addr) (lits : List (Str × Str × Int)), vs = [.ref p] ∧ SqL K H p (ts.map V.ref) ∧ LitsAt K H ts lits ∧ lits.length ≤ 300 ∧ ∀ H', Same H H' → Q .non H'
theorem ok_check_literals {f : Addr} {fd : FuncData} (F : C8.Def K mg "check_literals" s_check_literals f fd) (b : Binds K fd ["literals"] []) (T : Txt mg) (K_is_literal : C8.Cal P w K mg base 2 "is_literal" (spLitG K) []) : C8.Cal P w K mg base 3 "check_literals" (spChkG K) [] := by
  refine C8.cal0 F b .nil sc_check_literals (fun vs H Q E h => ?_) (fun cdv A outer s H vs Q E hr h => ?_)
  · obtain ⟨p, ts, lits, rfl, _⟩ := h
    rfl
  · obtain ⟨p, ts, lits, rfl, hp, hL, hl, k⟩ := h
    refine ⟨_, (pss_cons (ps_if (PW.pt (pw_or (pt_not (pt_val (pe_callB call_isiT (by rfl) T.z_isinstance (by decide +kernel) (pa_cons (pv 0) (pa_cons (pe_tup (pa_cons (pe_bltn (v := .ty "list") (by rfl) T.z_list (by decide +kernel) rfl) (pa_cons (pe_bltn (v := .ty "tuple") (by rfl) T.z_tuple (by decide +kernel) rfl) pa_nil))) pa_nil))))) (pw_or1 (pt_cmpR op_gt (pe_callB call_len_seq (by rfl) T.z_len (by decide +kernel) (pa_cons (pv 0) pa_nil)) (C8.pe_gc (by rfl) T.c_MOST_LITERALS) (nomark _))))) (pss_one ps_never) pss_nil)
    (pss_one (ps_for PassesOwn.never rfl (pi_enum (by rfl) T.z_enumerate (pa_cons (pv 0) pa_nil)) (pg_tup (by rfl) (pgs_cons (pg_name (i := 1) sc_check_literals.nd rfl (Or.inl rfl)) (pgs_cons (pg_name (i := 2) sc_check_literals.nd rfl (Or.inl rfl)) pgs_nil)))
    (pss_one (ps_if (pt_not (pt_val (C8.pe_c K_is_literal hr (by decide) (by rfl) (pa_cons (pv 2) pa_nil)))) (pss_one ps_never) pss_nil))))), ?_⟩
    refine ⟨_, rfl, (by show 2 ≤ sizeLine; decide), fun p1 n1 => ?_⟩
    have s1 : Same H (upd H p1 (.tup [.ty "list", .ty "tuple"])) := Same.new n1
    have hp1 := Same.seq s1 hp
    refine ⟨_, p1, _, _, _, true, rfl, upd_same, .cons (.ty _) (.cons (.ty _) .nil), tyL hp1, rfl, _, rfl, ?_⟩
    refine iteF ?_
    refine ⟨_, rfl, p, _, rfl, .inl hp1, _, _, rfl, rfl, _, rfl, ?_⟩
    have e300 : decide ((300 : Int) < ((ts.map V.ref).length : Nat)) = false := decide_eq_false (by rw [List.length_map, hL.1]; omega)
    rw [e300]
    refine iteF ?_
    refine ⟨_, rfl, p, _, rfl, hp1, for_enumL (xs := ts.map V.ref) (fun i σ H' => ∃ v1 v2, σ = [some (.ref p), v1, v2] ∧ Same H H') ⟨none, none, rfl, s1⟩ (fun i σ H' ⟨_, _, _, e⟩ => Same.seq e hp) ?_ ?_⟩
    · rintro i x q σ H' hx ⟨v1, v2, rfl, e⟩ hq
      rw [List.getElem?_map] at hx
      obtain ⟨t, ht, rfl⟩ := Option.map_eq_some_iff.mp hx
      have hi : i < lits.length := by
        rw [← hL.1]
        exact (List.getElem?_eq_some_iff.mp ht).1
      obtain ⟨t', ht', hs⟩ := hL.2 i _ (List.getElem?_eq_getElem hi)
      have et : t' = t := Option.some.inj (ht'.symm.trans ht)
      subst et
      have e2 : Same H (upd H' q (.tup [.int (i : Nat), .ref t'])) := e.trans (Same.new hq)
      refine ⟨q, _, rfl, .inl (.inl upd_same), rfl, _, _, rfl, _, _, rfl, rfl, ?_⟩
      refine ⟨_, rfl, t', _, _, _, rfl, Same.seqT e2 hs, _, rfl, ?_⟩
      exact iteF ⟨_, _, rfl, e2⟩
    · rintro σ H' ⟨v1, v2, rfl, e⟩
      exact k H' e
def spChkGT (K : PySem.W.Frag) : Sp := fun vs H Q _ => ∃ (p : Addr) (ts : List Addr) (lits : List (Str × Str × Int)), vs = [.ref p] ∧ SqT K H p (ts.map V.ref) ∧ LitsAt K H ts lits ∧ lits.length ≤ 300 ∧ ∀ H', Same H H' → Q .non H'
theorem ok_check_literalsT {f : Addr} {fd : FuncData} (F : C8.Def K mg "check_literals" s_check_literals f fd) (b : Binds K fd ["literals"] []) (T : Txt mg) (K_is_literal : C8.Cal P w K mg base 2 "is_literal" (spLitG K) []) : C8.Cal P w K mg base 3 "check_literals" (spChkGT K) [] := by
  refine C8.cal0 F b .nil sc_check_literals (fun vs H Q E h => ?_) (fun cdv A outer s H vs Q E hr h => ?_)
  · obtain ⟨p, ts, lits, rfl, _⟩ := h
    rfl
  · obtain ⟨p, ts, lits, rfl, hp, hL, hl, k⟩ := h
    refine ⟨_, (pss_cons (ps_if (PW.pt (pw_or (pt_not (pt_val (pe_callB call_isiT (by rfl) T.z_isinstance (by decide +kernel) (pa_cons (pv 0) (pa_cons (pe_tup (pa_cons (pe_bltn (v := .ty "list") (by rfl) T.z_list (by decide +kernel) rfl) (pa_cons (pe_bltn (v := .ty "tuple") (by rfl) T.z_tuple (by decide +kernel) rfl) pa_nil))) pa_nil))))) (pw_or1 (pt_cmpR op_gt (pe_callB call_len_seq (by rfl) T.z_len (by decide +kernel) (pa_cons (pv 0) pa_nil)) (C8.pe_gc (by rfl) T.c_MOST_LITERALS) (nomark _))))) (pss_one ps_never) pss_nil)
    (pss_one (ps_for PassesOwn.never rfl (En.pi_enumT (by rfl) T.z_enumerate (pa_cons (pv 0) pa_nil)) (pg_tup (by rfl) (pgs_cons (pg_name (i := 1) sc_check_literals.nd rfl (Or.inl rfl)) (pgs_cons (pg_name (i := 2) sc_check_literals.nd rfl (Or.inl rfl)) pgs_nil)))
    (pss_one (ps_if (pt_not (pt_val (C8.pe_c K_is_literal hr (by decide) (by rfl) (pa_cons (pv 2) pa_nil)))) (pss_one ps_never) pss_nil))))), ?_⟩
    refine ⟨_, rfl, (by show 2 ≤ sizeLine; decide), fun p1 n1 => ?_⟩
    have s1 : Same H (upd H p1 (.tup [.ty "list", .ty "tuple"])) := Same.new n1
    have hp1 := Same.seqT s1 hp
    refine ⟨_, p1, _, _, _, true, rfl, upd_same, .cons (.ty _) (.cons (.ty _) .nil), tyT hp1, rfl, _, rfl, ?_⟩
    refine iteF ?_
    refine ⟨_, rfl, p, _, rfl, .inr hp1, _, _, rfl, rfl, _, rfl, ?_⟩
    have e300 : decide ((300 : Int) < ((ts.map V.ref).length : Nat)) = false := decide_eq_false (by rw [List.length_map, hL.1]; omega)
    rw [e300]
    refine iteF ?_
    refine ⟨_, rfl, p, _, rfl, hp1, En.for_enumT (xs := ts.map V.ref) (fun i σ H' => ∃ v1 v2, σ = [some (.ref p), v1, v2] ∧ Same H H') ⟨none, none, rfl, s1⟩ (fun i σ H' ⟨_, _, _, e⟩ => Same.seqT e hp) ?_ ?_⟩
    · rintro i x q σ H' hx ⟨v1, v2, rfl, e⟩ hq
      rw [List.getElem?_map] at hx
      obtain ⟨t, ht, rfl⟩ := Option.map_eq_some_iff.mp hx
      have hi : i < lits.length := by
        rw [← hL.1]
        exact (List.getElem?_eq_some_iff.mp ht).1
      obtain ⟨t', ht', hs⟩ := hL.2 i _ (List.getElem?_eq_getElem hi)
      have et : t' = t := Option.some.inj (ht'.symm.trans ht)
      subst et
      have e2 : Same H (upd H' q (.tup [.int (i : Nat), .ref t'])) := e.trans (Same.new hq)
      refine ⟨q, _, rfl, .inl (.inl upd_same), rfl, _, _, rfl, _, _, rfl, rfl, ?_⟩
      refine ⟨_, rfl, t', _, _, _, rfl, Same.seqT e2 hs, _, rfl, ?_⟩
      exact iteF ⟨_, _, rfl, e2⟩
    · rintro σ H' ⟨v1, v2, rfl, e⟩
      exact k H' e
end
end Q1

namespace Q1
open PySem L2 Bx
theorem lg {n : Nat} (h : n < 2 ^ 64) : n.log2 < 9000 := Nat.lt_trans (PySem.Flt.log2_lt_of (by decide) h) (by decide)
def WellAt (H : Hp) (l : Addr) : Prop := ∃ x y z : Int, H l = some (.lst [.int x, .int y, .int z])
section
variable {P : Program} {w : World} {K : PySem.W.Frag} {mg : Str → Option Value} {base : Heap}
def spWell : Sp := fun vs H Q _ => ∃ (c : Int), vs = [.int c] ∧ ∀ p H', H p = none → Same H H' → WellAt H' p → Q (.ref p) H'
theorem ok_l_well {f : Addr} {fd : FuncData} (F : C8.Def K mg "_law_well" s_l_well f fd) (b : Binds K fd ["_law_cell"] []) (T : Txt mg) : C8.Cal P w K mg base 1 "_law_well" spWell [] := by
  refine C8.cal0 F b .nil sc_l_well (fun vs H Q E h => ?_) (fun cdv A outer s H vs Q E hr h => ?_)
  · obtain ⟨c, rfl, _⟩ := h
    rfl
  · obtain ⟨c, rfl, k⟩ := h
    refine ⟨_, (pss_one (ps_ret (pe_lst (pa_cons (pe_op op_mul (pv 0) (pe_callTy call_int1 (by rfl) T.z_int (by decide +kernel) (pa_cons (pe_cmpR op_ge (pv 0) (pe_op op_pow pe_int pe_int) (nomark _)) pa_nil))) (pa_cons (pe_op op_mod (pe_callTy call_int1 (by rfl) T.z_int (by decide +kernel) (pa_cons (pv 0) pa_nil)) pe_int) (pa_cons pe_int pa_nil)))))), ?_⟩
    refine ⟨_, rfl, _, rfl, _, _, rfl, rfl, ⟨by decide, by decide, by decide⟩, _, _, rfl, rfl, .inr ⟨_, rfl, _, _, rfl, rfl, .inr ⟨by split <;> decide, by split <;> decide⟩, _, rfl, .inl ⟨_, rfl, _, _, rfl, rfl, (by show (0 : Int) < 2147483587; decide), (by show 3 ≤ sizeLine; decide), fun p hp => ?_⟩⟩⟩
    exact k p _ hp (Same.new hp) ⟨_, _, _, upd_same⟩
def spDraw : Sp := fun vs H Q _ => ∃ (l : Addr) (b : Int), vs = [.ref l, .int b] ∧ WellAt H l ∧ 0 < b ∧ b.natAbs.log2 < 9000 ∧ ∀ (r : Int) (H' : Hp), 0 ≤ r → r < b → WellAt H' l → But l H H' → Q (.int r) H'
theorem ok_l_draw {f : Addr} {fd : FuncData} (F : C8.Def K mg "_law_draw" s_l_draw f fd) (b : Binds K fd ["_law_well_here", "_law_base"] []) (T : Txt mg) : C8.Cal P w K mg base 1 "_law_draw" spDraw [] := by
  refine C8.cal0 F b .nil sc_l_draw (fun vs H Q E h => ?_) (fun cdv A outer s H vs Q E hr h => ?_)
  · obtain ⟨l, b, rfl, _⟩ := h
    rfl
  · obtain ⟨l, b, rfl, ⟨x, y, z, hW⟩, hb, hlg, k⟩ := h
    refine ⟨_, (pss_cons (ps_if (pt_cmpR op_gt (pe_ix ix_list (pv 0) pe_int (fun _ _ => rfl)) pe_int (nomark _)) (pss_cons (ps_set (i := 2) sc_l_draw.nd rfl (Or.inl rfl) (pe_op op_mod (pe_callTy call_int1 (by rfl) T.z_int (by decide +kernel) (pa_cons (pe_ix ix_list (pv 0) pe_int (fun _ _ => rfl)) pa_nil)) (pv 1)))
    (pss_cons (ps_asg (pe_op op_fdivW (pe_ix ix_list (pv 0) pe_int (fun _ _ => rfl)) (pv 1)) (pg_sub (pv 0) pe_int set_list))
    (pss_one (ps_ret (pv 2))))) pss_nil)
    (pss_cons (ps_asg (pe_op op_add (pe_ix ix_list (pv 0) pe_int (fun _ _ => rfl)) pe_int) (pg_sub (pv 0) pe_int set_list))
    (pss_cons (ps_set (i := 3) sc_l_draw.nd rfl (Or.inl rfl) (pe_op op_mod (pe_callTy call_int1 (by rfl) T.z_int (by decide +kernel) (pa_cons (pe_op op_mul (pe_callTy call_int1 (by rfl) T.z_int (by decide +kernel) (pa_cons (pe_op op_add (pe_op op_add (pe_ix ix_list (pv 0) pe_int (fun _ _ => rfl)) (pe_op op_mul pe_int (pe_ix ix_list (pv 0) pe_int (fun _ _ => rfl)))) pe_int) pa_nil)) pe_int) pa_nil)) pe_int))
    (pss_cons (ps_set (i := 3) sc_l_draw.nd rfl (Or.inl rfl) (pe_op op_mod (pe_callTy call_int1 (by rfl) T.z_int (by decide +kernel) (pa_cons (pe_op op_mul (pv 3) (pe_op op_add (pe_op op_fdiv (pv 3) pe_int) pe_int)) pa_nil)) pe_int))
    (pss_one (ps_ret (pe_op op_mod (pe_op op_fdiv (pe_op op_mod (pe_callTy call_int1 (by rfl) T.z_int (by decide +kernel) (pa_cons (pe_op op_mul (pv 3) (pe_op op_add (pe_op op_fdiv (pv 3) pe_int) pe_int)) pa_nil)) pe_int) pe_int) (pv 1)))))))), ?_⟩
    refine ⟨_, rfl, l, _, _, _, rfl, rfl, SqL.of hW, rfl, _, _, rfl, rfl, _, rfl, ?_⟩
    refine ite2 (fun hx => ?_) (fun hx => ?_)
    · refine ⟨_, rfl, l, _, _, _, rfl, rfl, SqL.of hW, rfl, .inl ⟨_, rfl, _, rfl, _, _, rfl, rfl, hb, ?_⟩⟩
      refine ⟨_, rfl, l, _, _, _, rfl, rfl, SqL.of hW, rfl, _, rfl, _, _, rfl, rfl, ⟨hb, hlg⟩, _, rfl, l, _, _, _, rfl, rfl, hW, rfl, ?_⟩
      refine ⟨_, rfl, ?_⟩
      exact k _ _ (Int.emod_nonneg _ (by omega)) (Int.emod_lt_of_pos _ hb) ⟨_, _, _, upd_same⟩ But.upd
    · refine ⟨_, rfl, l, _, _, _, rfl, rfl, SqL.of hW, rfl, _, _, rfl, rfl, _, rfl, l, _, _, _, rfl, rfl, hW, rfl, ?_⟩
      refine ⟨_, rfl, l, _, _, _, rfl, rfl, SqL.of upd_same, rfl, _, rfl, l, _, _, _, rfl, rfl, SqL.of upd_same, rfl, _, _, rfl, rfl, .inl ⟨by decide, by decide⟩, _, _, rfl, rfl, _, _, rfl, rfl, .inl ⟨_, rfl, _, _, rfl, rfl, .inr ⟨by decide, by decide⟩, .inl ⟨_, rfl, _, _, rfl, rfl, (by show (0 : Int) < 2147483647; decide), ?_⟩⟩⟩
      generalize hn : ((y + 6131 * (z + 1) + 17) * 48271) % 2147483647 = n
      have n0 : 0 ≤ n := by omega
      have n1 : n < 2147483647 := by omega
      refine ⟨_, rfl, _, rfl, _, _, rfl, rfl, ⟨by decide, by decide⟩, _, _, rfl, rfl, _, _, rfl, rfl, .inl ⟨by omega, by omega⟩, .inl ⟨_, rfl, _, _, rfl, rfl, (by show (0 : Int) < 2147483647; decide), ?_⟩⟩
      generalize hm : (n * (n / 1013 + 69621)) % 2147483647 = m
      have m0 : 0 ≤ m := by rw [← hm]; exact Int.emod_nonneg _ (by decide)
      have m1 : m < 2147483647 := by rw [← hm]; exact Int.emod_lt_of_pos _ (by decide)
      refine ⟨_, rfl, _, rfl, _, _, rfl, rfl, ⟨by decide, by decide⟩, _, _, rfl, rfl, _, _, rfl, rfl, .inl ⟨by omega, by omega⟩, .inl ⟨_, rfl, _, _, rfl, rfl, (by show (0 : Int) < 2147483399; decide), _, _, rfl, rfl, ⟨by decide, by decide⟩, _, rfl, _, _, rfl, rfl, hb, ?_⟩⟩
      exact k _ _ (Int.emod_nonneg _ (by omega)) (Int.emod_lt_of_pos _ hb) ⟨_, _, _, upd_same⟩ But.upd
def spOne (K : PySem.W.Frag) : Sp := fun vs H Q _ => ∃ (l p : Addr) (xs : List V), vs = [.ref l, .ref p] ∧ WellAt H l ∧ p ≠ l ∧ SqL K H p xs ∧ 0 < xs.length ∧ xs.length < 100000 ∧ ∀ (v : V) (H' : Hp), v ∈ xs → WellAt H' l → But l H H' → Q v H'
theorem ok_l_one {f : Addr} {fd : FuncData} (F : C8.Def K mg "_law_one" s_l_one f fd) (b : Binds K fd ["_law_well_here", "_law_some"] []) (T : Txt mg) (K_l_draw : C8.Cal P w K mg base 1 "_law_draw" spDraw []) : C8.Cal P w K mg base 2 "_law_one" (spOne K) [] := by
  refine C8.cal0 F b .nil sc_l_one (fun vs H Q E h => ?_) (fun cdv A outer s H vs Q E hr h => ?_)
  · obtain ⟨l, p, xs, rfl, _⟩ := h
    rfl
  · obtain ⟨l, p, xs, rfl, hW, hpl, hp, h0, h1, k⟩ := h
    refine ⟨_, (pss_one (ps_ret (pe_ix ix_list (pv 1) (C8.pe_c K_l_draw hr (by decide) (by rfl) (pa_cons (pv 0) (pa_cons (pe_callB call_len_seq (by rfl) T.z_len (by decide +kernel) (pa_cons (pv 1) pa_nil)) pa_nil))) (fun _ _ => rfl)))), ?_⟩
    refine ⟨_, rfl, _, rfl, _, rfl, p, _, rfl, .inl hp, l, _, rfl, hW, by omega, lg (by omega), fun r H' r0 r1 W' B' => ?_⟩
    obtain ⟨j, rfl⟩ : ∃ j : Nat, r = (j : Int) := ⟨r.toNat, by omega⟩
    have hj : j < xs.length := by omega
    refine ⟨p, _, _, _, rfl, rfl, B'.seq hpl hp, atI_nat (List.getElem?_eq_getElem hj), ?_⟩
    exact k _ _ (List.getElem_mem hj) W' B'
end
end Q1

namespace Q1
open PySem L2 Bx
section
variable {P : Program} {w : World} {K : PySem.W.Frag} {mg : Str → Option Value} {base : Heap}
/-- all but two dicts -/
def But2 (x y : Addr) (H H' : Hp) : Prop := ∀ b o, H b = some o → b ≠ x → b ≠ y → H' b = some o
theorem But2.refl (x y : Addr) (H : Hp) : But2 x y H H := fun _ _ h _ _ => h
theorem But2.trans {x y : Addr} {H H1 H2 : Hp} (a : But2 x y H H1) (b : But2 x y H1 H2) : But2 x y H H2 := fun c o h n m => b c o (a c o h n m) n m
theorem But2.of {x y : Addr} {H H' : Hp} (a : Same H H') : But2 x y H H' := fun c o h _ _ => a c o h
theorem But2.seq {x y : Addr} {H H' : Hp} {k1 k2 : List (Key × V)} {a : Addr} {xs : List V} (hx : H x = some (.dK k1)) (hy : H y = some (.dK k2)) (e : But2 x y H H') (h : SqL K H a xs) : SqL K H' a xs := by
  rcases h with (h | ⟨o, h⟩) | h
  · exact .inl (.inl (e _ _ h (ne_of h hx (by intro q; cases q)) (ne_of h hy (by intro q; cases q))))
  · exact .inl (.inr ⟨o, e _ _ h (ne_of h hx (by intro q; cases q)) (ne_of h hy (by intro q; cases q))⟩)
  · exact .inr h
theorem But2.seqT {x y : Addr} {H H' : Hp} {k1 k2 : List (Key × V)} {a : Addr} {xs : List V} (hx : H x = some (.dK k1)) (hy : H y = some (.dK k2)) (e : But2 x y H H') (h : SqT K H a xs) : SqT K H' a xs := by
  rcases h with (h | ⟨o, h⟩) | h
  · exact .inl (.inl (e _ _ h (ne_of h hx (by intro q; cases q)) (ne_of h hy (by intro q; cases q))))
  · exact .inl (.inr ⟨o, e _ _ h (ne_of h hx (by intro q; cases q)) (ne_of h hy (by intro q; cases q))⟩)
  · exact .inr h
theorem LitsAt.but2 {x y : Addr} {H H' : Hp} {k1 k2 : List (Key × V)} {ts : List Addr} {lits : List (Str × Str × Int)} (hx : H x = some (.dK k1)) (hy : H y = some (.dK k2)) (e : But2 x y H H') (h : LitsAt K H ts lits) : LitsAt K H' ts lits :=
  ⟨h.1, fun j q hj => (h.2 j q hj).imp fun t z => ⟨z.1, But2.seqT hx hy e z.2⟩⟩
theorem dget_hk {H : Hp} {a : Addr} {ks : List Str} {h : Str → Int} {t : Str} (e : H a = some (.dK (hk ks h))) (m : t ∈ ks) : DGet H a (.str t) (some (.int (h t))) := by
  have := DGet.k (k := (Sum.inr t : Key)) e
  rw [hk_get m] at this
  exact this
theorem dget_bk {H : Hp} {a : Addr} {bs : List Str} {b : Str → Option Nat} {t : Str} {i : Nat} (e : H a = some (.dK (bk bs b))) (ok : ByOk bs b) (hb : b t = some i) : DGet H a (.str t) (some (.int (i : Nat))) := by
  have := DGet.k (k := (Sum.inr t : Key)) e
  rw [bk_get ((ok.2 t).mpr (by rw [hb]; exact fun q => by cases q)) hb] at this
  exact this
def lowV : Option Str → V
  | none => .non
  | some t => .str t
/-- what lower_once, ring_behind are handed -/
structure At (K : PySem.W.Frag) (H : Hp) (p hd bd : Addr) (ts : List Addr) (lits : List (Str × Str × Int)) (ks bs : List Str) (s : Bf.Sta Str) : Prop where
  hp : SqL K H p (ts.map V.ref)
  hL : LitsAt K H ts lits
  l300 : lits.length ≤ 300
  hh : H hd = some (.dK (hk ks s.h))
  hb : H bd = some (.dK (bk bs s.by_))
  ne : hd ≠ bd
  ends : ∀ q ∈ lits, q.1 ∈ ks ∧ q.2.1 ∈ ks
  ok : ByOk bs s.by_
  k1000 : ks.length ≤ 1000
  good : Bf.Good lits s
theorem At.b1000 {H : Hp} {p hd bd : Addr} {ts : List Addr} {lits : List (Str × Str × Int)} {ks bs : List Str} {s : Bf.Sta Str} (A : At K H p hd bd ts lits ks bs s) : bs.length ≤ 1000 := by
  refine Nat.le_trans (Bf.len_le A.ok.1 fun t ht => ?_) A.k1000
  obtain ⟨i, hi⟩ := Option.ne_none_iff_exists'.mp ((A.ok.2 t).mp ht)
  obtain ⟨r, n, hL, _⟩ := A.good.own t i hi
  exact (A.ends _ (List.mem_of_getElem? hL)).1
/-- what lower_once, ring_behind are handed -/
structure AtT (K : PySem.W.Frag) (H : Hp) (p hd bd : Addr) (ts : List Addr) (lits : List (Str × Str × Int)) (ks bs : List Str) (s : Bf.Sta Str) : Prop where
  hp : SqT K H p (ts.map V.ref)
  hL : LitsAt K H ts lits
  l300 : lits.length ≤ 300
  hh : H hd = some (.dK (hk ks s.h))
  hb : H bd = some (.dK (bk bs s.by_))
  ne : hd ≠ bd
  ends : ∀ q ∈ lits, q.1 ∈ ks ∧ q.2.1 ∈ ks
  ok : ByOk bs s.by_
  k1000 : ks.length ≤ 1000
  good : Bf.Good lits s
theorem AtT.b1000 {H : Hp} {p hd bd : Addr} {ts : List Addr} {lits : List (Str × Str × Int)} {ks bs : List Str} {s : Bf.Sta Str} (A : AtT K H p hd bd ts lits ks bs s) : bs.length ≤ 1000 := by
  refine Nat.le_trans (Bf.len_le A.ok.1 fun t ht => ?_) A.k1000
  obtain ⟨i, hi⟩ := Option.ne_none_iff_exists'.mp ((A.ok.2 t).mp ht)
  obtain ⟨r, n, hL, _⟩ := A.good.own t i hi
  exact (A.ends _ (List.mem_of_getElem? hL)).1
theorem szs {n : Nat} (h : n ≤ 1000) : n < sizeLine := Nat.lt_of_le_of_lt h (by decide)
theorem hk_len {ks : List Str} {h : Str → Int} : (hk ks h).length = ks.length := List.length_map ..
theorem bk_len {ks : List Str} {h : Str → Option Nat} : (bk ks h).length = ks.length := List.length_map ..
def spLower (K : PySem.W.Frag) : Sp := fun vs H Q _ => ∃ (p hd bd : Addr) (ts : List Addr) (lits : List (Str × Str × Int)) (ks bs : List Str) (s : Bf.Sta Str), vs = [.ref p, .ref hd, .ref bd] ∧ At K H p hd bd ts lits ks bs s ∧
  ∀ (bs' : List Str) (H' : Hp), But2 hd bd H H' → At K H' p hd bd ts lits ks bs' (Bf.pass lits s) → Q (lowV (Bf.pass lits s).low) H'
theorem ok_lower_once {f : Addr} {fd : FuncData} (F : C8.Def K mg "lower_once" s_lower_once f fd) (b : Binds K fd ["literals", "heights", "lowered_by"] []) (T : Txt mg) : C8.Cal P w K mg base 1 "lower_once" (spLower K) [] := by
  refine C8.cal0 F b .nil sc_lower_once (fun vs H Q E h => ?_) (fun cdv A outer s H vs Q E hr h => ?_)
  · obtain ⟨p, hd, bd, ts, lits, ks, bs, s, rfl, _⟩ := h
    rfl
  · obtain ⟨p, hd, bd, ts, lits, ks, bs, s0, rfl, W, k⟩ := h
    have hu := hu_of hr
    refine ⟨_, (pss_cons (ps_set (i := 3) sc_lower_once.nd rfl (Or.inl rfl) pe_non)
    (pss_cons (ps_for PassesOwn.never rfl (pi_enum (by rfl) T.z_enumerate (pa_cons (pv 0) pa_nil)) (pg_tup (by rfl) (pgs_cons (pg_name (i := 4) sc_lower_once.nd rfl (Or.inl rfl)) (pgs_cons (pg_tup (by rfl) (pgs_cons (pg_name (i := 5) sc_lower_once.nd rfl (Or.inl rfl)) (pgs_cons (pg_name (i := 6) sc_lower_once.nd rfl (Or.inl rfl)) (pgs_cons (pg_name (i := 7) sc_lower_once.nd rfl (Or.inl rfl)) pgs_nil)))) pgs_nil)))
    (pss_one (ps_if (pt_cmpR op_gt (pe_dget hu (pv 1) (pv 5) (fun _ _ => rfl)) (pe_op op_add (pe_dget hu (pv 1) (pv 6) (fun _ _ => rfl)) (pv 7)) (nomark _)) (pss_cons (ps_dput hu (pv 1) (pv 5) (pe_op op_add (pe_dget hu (pv 1) (pv 6) (fun _ _ => rfl)) (pv 7)) rfl)
    (pss_cons (ps_dput hu (pv 2) (pv 5) (pv 4) rfl)
    (pss_one (ps_set (i := 3) sc_lower_once.nd rfl (Or.inl rfl) (pv 5))))) pss_nil)))
    (pss_one (ps_ret (pv 3))))), ?_⟩
    refine ⟨_, rfl, p, _, rfl, W.hp, for_enumL (xs := ts.map V.ref) (fun i σ H' => ∃ (v4 v5 v6 v7 : Option V) (bs' : List Str), σ = [some (.ref p), some (.ref hd), some (.ref bd), some (lowV (Bf.some_ lits { s0 with low := none } i).low), v4, v5, v6, v7] ∧
        But2 hd bd H H' ∧ At K H' p hd bd ts lits ks bs' (Bf.some_ lits { s0 with low := none } i)) ⟨none, none, none, none, bs, rfl, But2.refl _ _ _, ⟨W.hp, W.hL, W.l300, W.hh, W.hb, W.ne, W.ends, W.ok, W.k1000, Bf.good_low W.good none⟩⟩ (fun i σ H' h => ?_) ?_ ?_⟩
    · obtain ⟨_, _, _, _, _, _, _, A'⟩ := h
      exact A'.hp
    · rintro i x q σ H1 hx ⟨v4, v5, v6, v7, bs1, rfl, B1, A1⟩ hq
      rw [List.getElem?_map] at hx
      obtain ⟨t, ht, rfl⟩ := Option.map_eq_some_iff.mp hx
      have hil : i < lits.length := by
        rw [← A1.hL.1]
        exact (List.getElem?_eq_some_iff.mp ht).1
      have hlq := List.getElem?_eq_getElem hil
      obtain ⟨t', ht', hs⟩ := A1.hL.2 i _ hlq
      have et : t' = t := Option.some.inj (ht'.symm.trans ht)
      subst et
      have em := A1.ends _ (List.mem_of_getElem? hlq)
      have estep : Bf.some_ lits { s0 with low := none } (i + 1) = Bf.one (Bf.some_ lits { s0 with low := none } i) i lits[i] := Bf.some_succ hlq
      have egood : Bf.Good lits (Bf.some_ lits { s0 with low := none } (i + 1)) := Bf.some_good (Bf.good_low W.good none) _
      rw [estep] at egood
      rw [estep]
      generalize lits[i] = ql at *
      obtain ⟨lf, rg, n⟩ := ql
      generalize Bf.some_ lits { s0 with low := none } i = s1 at *
      have S2 : Same H1 (upd H1 q (.tup [.int (i : Nat), .ref t'])) := Same.new hq
      have hh2 := S2 _ _ A1.hh
      have hb2 := S2 _ _ A1.hb
      have hs2 := Same.seqT S2 hs
      have hp2 := Same.seq S2 A1.hp
      have hL2 := A1.hL.mono S2
      have hqt : (upd H1 q (.tup [.int (i : Nat), .ref t'])) q = some (.tup [.int (i : Nat), .ref t']) := upd_same
      have B2 : But2 hd bd H (upd H1 q (.tup [.int (i : Nat), .ref t'])) := B1.trans (But2.of S2)
      generalize upd H1 q (.tup [.int (i : Nat), .ref t']) = H2 at *
      refine ⟨q, _, rfl, SqT.of hqt, rfl, _, _, rfl, _, _, rfl, t', _, rfl, hs2, rfl, _, _, rfl, _, _, rfl, _, _, rfl, rfl, rfl, ?_⟩
      refine ⟨_, rfl, _, rfl, hd, _, rfl, dget_hk hh2 em.1, _, rfl, _, rfl, hd, _, rfl, dget_hk hh2 em.2, _, rfl, _, _, rfl, rfl, _, _, rfl, rfl, _, rfl, ?_⟩
      by_cases hlt : s1.h rg + n < s1.h lf
      · rw [decide_eq_true hlt]
        refine iteT ?_
        have eone : Bf.one s1 i (lf, rg, n) = ⟨Bf.put s1.h lf (s1.h rg + n), Bf.put s1.by_ lf (some i), some lf⟩ := if_pos hlt
        rw [eone] at egood ⊢
        obtain ⟨bs2, e2, ok2, l2⟩ := bk_put (t := lf) (i := i) A1.ok
        refine ⟨_, rfl, _, rfl, hd, _, rfl, dget_hk hh2 em.2, _, rfl, _, _, rfl, rfl, _, rfl, _, rfl, hd, _, rfl, DPut.k (k := Sum.inr lf) hh2 (szs (by rw [hk_len]; exact A1.k1000)), ?_⟩
        have e1 := hk_put (h := s1.h) (n := s1.h rg + n) em.1
        rw [e1]
        have hb3 : (upd H2 hd (.dK (hk ks (Bf.put s1.h lf (s1.h rg + n))))) bd = some (.dK (bk bs1 s1.by_)) := by
          rw [upd_ne A1.ne.symm]
          exact hb2
        refine ⟨_, rfl, _, rfl, _, rfl, bd, _, rfl, DPut.k (k := Sum.inr lf) hb3 (szs (by rw [bk_len]; exact A1.b1000)), ?_⟩
        rw [e2]
        have B3 : But2 hd bd H2 (upd (upd H2 hd (.dK (hk ks (Bf.put s1.h lf (s1.h rg + n))))) bd (.dK (bk bs2 (Bf.put s1.by_ lf (some i))))) := fun c o h n1 n2 => by
          rw [upd_ne n2, upd_ne n1]
          exact h
        refine ⟨_, rfl, some (.int (i : Nat)), some (.str lf), some (.str rg), some (.int n), bs2, rfl, B2.trans B3, ?_⟩
        exact ⟨But2.seq hh2 hb2 B3 hp2, hL2.but2 hh2 hb2 B3, A1.l300, by rw [upd_ne A1.ne, upd_same], upd_same, A1.ne, A1.ends, ok2, A1.k1000, egood⟩
      · rw [decide_eq_false hlt]
        refine iteF ?_
        have eone : Bf.one s1 i (lf, rg, n) = s1 := if_neg hlt
        rw [eone] at egood ⊢
        exact ⟨some (.int (i : Nat)), some (.str lf), some (.str rg), some (.int n), bs1, rfl, B2, hp2, hL2, A1.l300, hh2, hb2, A1.ne, A1.ends, A1.ok, A1.k1000, egood⟩
    · rintro σ H1 ⟨v4, v5, v6, v7, bs1, rfl, B1, A1⟩
      have e : (ts.map V.ref).length = lits.length := by rw [List.length_map, W.hL.1]
      refine ⟨_, rfl, ?_⟩
      rw [e] at A1 ⊢
      exact k bs1 H1 B1 A1
def spLowerT (K : PySem.W.Frag) : Sp := fun vs H Q _ => ∃ (p hd bd : Addr) (ts : List Addr) (lits : List (Str × Str × Int)) (ks bs : List Str) (s : Bf.Sta Str), vs = [.ref p, .ref hd, .ref bd] ∧ AtT K H p hd bd ts lits ks bs s ∧
  ∀ (bs' : List Str) (H' : Hp), But2 hd bd H H' → AtT K H' p hd bd ts lits ks bs' (Bf.pass lits s) → Q (lowV (Bf.pass lits s).low) H'
theorem ok_lower_onceT {f : Addr} {fd : FuncData} (F : C8.Def K mg "lower_once" s_lower_once f fd) (b : Binds K fd ["literals", "heights", "lowered_by"] []) (T : Txt mg) : C8.Cal P w K mg base 1 "lower_once" (spLowerT K) [] := by
  refine C8.cal0 F b .nil sc_lower_once (fun vs H Q E h => ?_) (fun cdv A outer s H vs Q E hr h => ?_)
  · obtain ⟨p, hd, bd, ts, lits, ks, bs, s, rfl, _⟩ := h
    rfl
  · obtain ⟨p, hd, bd, ts, lits, ks, bs, s0, rfl, W, k⟩ := h
    have hu := hu_of hr
    refine ⟨_, (pss_cons (ps_set (i := 3) sc_lower_once.nd rfl (Or.inl rfl) pe_non)
    (pss_cons (ps_for PassesOwn.never rfl (En.pi_enumT (by rfl) T.z_enumerate (pa_cons (pv 0) pa_nil)) (pg_tup (by rfl) (pgs_cons (pg_name (i := 4) sc_lower_once.nd rfl (Or.inl rfl)) (pgs_cons (pg_tup (by rfl) (pgs_cons (pg_name (i := 5) sc_lower_once.nd rfl (Or.inl rfl)) (pgs_cons (pg_name (i := 6) sc_lower_once.nd rfl (Or.inl rfl)) (pgs_cons (pg_name (i := 7) sc_lower_once.nd rfl (Or.inl rfl)) pgs_nil)))) pgs_nil)))
    (pss_one (ps_if (pt_cmpR op_gt (pe_dget hu (pv 1) (pv 5) (fun _ _ => rfl)) (pe_op op_add (pe_dget hu (pv 1) (pv 6) (fun _ _ => rfl)) (pv 7)) (nomark _)) (pss_cons (ps_dput hu (pv 1) (pv 5) (pe_op op_add (pe_dget hu (pv 1) (pv 6) (fun _ _ => rfl)) (pv 7)) rfl)
    (pss_cons (ps_dput hu (pv 2) (pv 5) (pv 4) rfl)
    (pss_one (ps_set (i := 3) sc_lower_once.nd rfl (Or.inl rfl) (pv 5))))) pss_nil)))
    (pss_one (ps_ret (pv 3))))), ?_⟩
    refine ⟨_, rfl, p, _, rfl, W.hp, En.for_enumT (xs := ts.map V.ref) (fun i σ H' => ∃ (v4 v5 v6 v7 : Option V) (bs' : List Str), σ = [some (.ref p), some (.ref hd), some (.ref bd), some (lowV (Bf.some_ lits { s0 with low := none } i).low), v4, v5, v6, v7] ∧
        But2 hd bd H H' ∧ AtT K H' p hd bd ts lits ks bs' (Bf.some_ lits { s0 with low := none } i)) ⟨none, none, none, none, bs, rfl, But2.refl _ _ _, ⟨W.hp, W.hL, W.l300, W.hh, W.hb, W.ne, W.ends, W.ok, W.k1000, Bf.good_low W.good none⟩⟩ (fun i σ H' h => ?_) ?_ ?_⟩
    · obtain ⟨_, _, _, _, _, _, _, A'⟩ := h
      exact A'.hp
    · rintro i x q σ H1 hx ⟨v4, v5, v6, v7, bs1, rfl, B1, A1⟩ hq
      rw [List.getElem?_map] at hx
      obtain ⟨t, ht, rfl⟩ := Option.map_eq_some_iff.mp hx
      have hil : i < lits.length := by
        rw [← A1.hL.1]
        exact (List.getElem?_eq_some_iff.mp ht).1
      have hlq := List.getElem?_eq_getElem hil
      obtain ⟨t', ht', hs⟩ := A1.hL.2 i _ hlq
      have et : t' = t := Option.some.inj (ht'.symm.trans ht)
      subst et
      have em := A1.ends _ (List.mem_of_getElem? hlq)
      have estep : Bf.some_ lits { s0 with low := none } (i + 1) = Bf.one (Bf.some_ lits { s0 with low := none } i) i lits[i] := Bf.some_succ hlq
      have egood : Bf.Good lits (Bf.some_ lits { s0 with low := none } (i + 1)) := Bf.some_good (Bf.good_low W.good none) _
      rw [estep] at egood
      rw [estep]
      generalize lits[i] = ql at *
      obtain ⟨lf, rg, n⟩ := ql
      generalize Bf.some_ lits { s0 with low := none } i = s1 at *
      have S2 : Same H1 (upd H1 q (.tup [.int (i : Nat), .ref t'])) := Same.new hq
      have hh2 := S2 _ _ A1.hh
      have hb2 := S2 _ _ A1.hb
      have hs2 := Same.seqT S2 hs
      have hp2 := Same.seqT S2 A1.hp
      have hL2 := A1.hL.mono S2
      have hqt : (upd H1 q (.tup [.int (i : Nat), .ref t'])) q = some (.tup [.int (i : Nat), .ref t']) := upd_same
      have B2 : But2 hd bd H (upd H1 q (.tup [.int (i : Nat), .ref t'])) := B1.trans (But2.of S2)
      generalize upd H1 q (.tup [.int (i : Nat), .ref t']) = H2 at *
      refine ⟨q, _, rfl, SqT.of hqt, rfl, _, _, rfl, _, _, rfl, t', _, rfl, hs2, rfl, _, _, rfl, _, _, rfl, _, _, rfl, rfl, rfl, ?_⟩
      refine ⟨_, rfl, _, rfl, hd, _, rfl, dget_hk hh2 em.1, _, rfl, _, rfl, hd, _, rfl, dget_hk hh2 em.2, _, rfl, _, _, rfl, rfl, _, _, rfl, rfl, _, rfl, ?_⟩
      by_cases hlt : s1.h rg + n < s1.h lf
      · rw [decide_eq_true hlt]
        refine iteT ?_
        have eone : Bf.one s1 i (lf, rg, n) = ⟨Bf.put s1.h lf (s1.h rg + n), Bf.put s1.by_ lf (some i), some lf⟩ := if_pos hlt
        rw [eone] at egood ⊢
        obtain ⟨bs2, e2, ok2, l2⟩ := bk_put (t := lf) (i := i) A1.ok
        refine ⟨_, rfl, _, rfl, hd, _, rfl, dget_hk hh2 em.2, _, rfl, _, _, rfl, rfl, _, rfl, _, rfl, hd, _, rfl, DPut.k (k := Sum.inr lf) hh2 (szs (by rw [hk_len]; exact A1.k1000)), ?_⟩
        have e1 := hk_put (h := s1.h) (n := s1.h rg + n) em.1
        rw [e1]
        have hb3 : (upd H2 hd (.dK (hk ks (Bf.put s1.h lf (s1.h rg + n))))) bd = some (.dK (bk bs1 s1.by_)) := by
          rw [upd_ne A1.ne.symm]
          exact hb2
        refine ⟨_, rfl, _, rfl, _, rfl, bd, _, rfl, DPut.k (k := Sum.inr lf) hb3 (szs (by rw [bk_len]; exact A1.b1000)), ?_⟩
        rw [e2]
        have B3 : But2 hd bd H2 (upd (upd H2 hd (.dK (hk ks (Bf.put s1.h lf (s1.h rg + n))))) bd (.dK (bk bs2 (Bf.put s1.by_ lf (some i))))) := fun c o h n1 n2 => by
          rw [upd_ne n2, upd_ne n1]
          exact h
        refine ⟨_, rfl, some (.int (i : Nat)), some (.str lf), some (.str rg), some (.int n), bs2, rfl, B2.trans B3, ?_⟩
        exact ⟨But2.seqT hh2 hb2 B3 hp2, hL2.but2 hh2 hb2 B3, A1.l300, by rw [upd_ne A1.ne, upd_same], upd_same, A1.ne, A1.ends, ok2, A1.k1000, egood⟩
      · rw [decide_eq_false hlt]
        refine iteF ?_
        have eone : Bf.one s1 i (lf, rg, n) = s1 := if_neg hlt
        rw [eone] at egood ⊢
        exact ⟨some (.int (i : Nat)), some (.str lf), some (.str rg), some (.int n), bs1, rfl, B2, hp2, hL2, A1.l300, hh2, hb2, A1.ne, A1.ends, A1.ok, A1.k1000, egood⟩
    · rintro σ H1 ⟨v4, v5, v6, v7, bs1, rfl, B1, A1⟩
      have e : (ts.map V.ref).length = lits.length := by rw [List.length_map, W.hL.1]
      refine ⟨_, rfl, ?_⟩
      rw [e] at A1 ⊢
      exact k bs1 H1 B1 A1
end
end Q1

namespace Q1
open PySem L2 Bx
section
variable {P : Program} {w : World} {K : PySem.W.Frag} {mg : Str → Option Value} {base : Heap}
def natV (i : Nat) : V := .int (i : Int)
def spBehind (K : PySem.W.Frag) : Sp := fun vs H Q _ => ∃ (p bd : Addr) (ts : List Addr) (lits : List (Str × Str × Int)) (bs : List Str) (s : Bf.Sta Str) (t : Str), vs = [.ref p, .ref bd, .str t] ∧ SqL K H p (ts.map V.ref) ∧ LitsAt K H ts lits ∧ H bd = some (.dK (bk bs s.by_)) ∧ ByOk bs s.by_ ∧ bs.length ≤ 1000 ∧ Bf.Good lits s ∧
  (∀ k, s.by_ (Bf.itr lits s.by_ t k) ≠ none) ∧ ∀ (c : Addr) (is : List Nat) (f : Nat → Str) (H' : Hp), Same H H' → SqT K H' c (is.map natV) → Bf.IsRing lits is f → is.length ≤ bs.length → Q (.ref c) H'
theorem ok_ring_behind {f : Addr} {fd : FuncData} (F : C8.Def K mg "ring_behind" s_ring_behind f fd) (b : Binds K fd ["literals", "lowered_by", "term"] []) (T : Txt mg) : C8.Cal P w K mg base 1 "ring_behind" (spBehind K) [] := by
  refine C8.cal0 F b .nil sc_ring_behind (fun vs H Q E h => ?_) (fun cdv A outer s H vs Q E hr h => ?_)
  · obtain ⟨p, bd, ts, lits, bs, s, t, rfl, _⟩ := h
    rfl
  · obtain ⟨p, bd, ts, lits, bs, s0, t, rfl, hp, hL, hb, hok, hb1, G, hn, k⟩ := h
    have hu := hu_of hr
    refine ⟨_, (pss_cons (ps_for PassesOwn.never rfl (pi_range1 (by rfl) T.z_range (pa_cons (pe_callB call_lenD (by rfl) T.z_len (by decide +kernel) (pa_cons (pv 1) pa_nil)) pa_nil)) (pg_name (i := 3) sc_ring_behind.nd rfl (Or.inl rfl))
    (pss_one (ps_set (i := 2) sc_ring_behind.nd rfl (Or.inl rfl) (pe_ix ix_tup (pe_ix ix_list (pv 0) (pe_dget hu (pv 1) (pv 2) (fun _ _ => rfl)) (fun _ _ => rfl)) pe_int (fun _ _ => rfl)))))
    (pss_cons (ps_set (i := 4) sc_ring_behind.nd rfl (Or.inl rfl) (pe_lst (pa_cons (pe_dget hu (pv 1) (pv 2) (fun _ _ => rfl)) pa_nil)))
    (pss_cons (ps_set (i := 5) sc_ring_behind.nd rfl (Or.inl rfl) (pe_ix ix_tup (pe_ix ix_list (pv 0) (pe_ix ix_list (pv 4) pe_int (fun _ _ => rfl)) (fun _ _ => rfl)) pe_int (fun _ _ => rfl)))
    (pss_cons (ps_while PassesOwn.never (pt_cmpR op_ne (pv 5) (pv 2) (nomark _)) (pss_cons (ps_expr (pe_bm PySem.F.plainAttrs_list PySem.F.slot_list_append PySem.F.type_list_append mt_append (pv 4) (pa_cons (pe_dget hu (pv 1) (pv 5) (fun _ _ => rfl)) pa_nil)))
    (pss_one (ps_set (i := 5) sc_ring_behind.nd rfl (Or.inl rfl) (pe_ix ix_tup (pe_ix ix_list (pv 0) (pe_ix ix_list (pv 4) (pe_un un_neg pe_int) (fun _ _ => rfl)) (fun _ _ => rfl)) pe_int (fun _ _ => rfl))))))
    (pss_one (ps_ret (pe_callTy call_tuple_of (by rfl) T.z_tuple (by decide +kernel) (pa_cons (pv 4) pa_nil)))))))), ?_⟩
    -- one step back
    have back : ∀ (x : Str), s0.by_ x ≠ none → ∃ (i : Nat) (a : Addr) (n : Int), s0.by_ x = some i ∧ (∀ H', Same H H' → DGet H' bd (.str x) (some (.int (i : Nat)))) ∧ atI (ts.map V.ref) (i : Int) = some (.ref a) ∧ ∀ H', Same H H' → SqT K H' a [.str x, .str (Bf.nxt lits s0.by_ x), .int n] := fun x hx => by
      obtain ⟨i, hi⟩ := Option.ne_none_iff_exists'.mp hx
      obtain ⟨r, n, hLi, _⟩ := G.own x i hi
      obtain ⟨a, ha, hs⟩ := hL.2 i _ hLi
      refine ⟨i, a, n, hi, fun H' S => dget_bk (S _ _ hb) hok hi, atI_nat (by rw [List.getElem?_map, ha]; rfl), fun H' S => ?_⟩
      rw [Bf.nxt_at hi hLi]
      exact Same.seqT S hs
    refine ⟨_, rfl, bd, _, rfl, hb, _, rfl, by omega, by rw [bk_len]; omega, for_range (lo := 0) (n := (((bk bs s0.by_).length : Nat) : Int).toNat) (fun i σ H' => ∃ (v3 v4 v5 : Option V), σ = [some (.ref p), some (.ref bd), some (.str (Bf.itr lits s0.by_ t i)), v3, v4, v5] ∧ H' = H) ⟨none, none, none, rfl, rfl⟩ ?_ ?_⟩
    · rintro i σ H' hi ⟨v3, v4, v5, rfl, rfl⟩
      obtain ⟨j, a, n, h1, h2, h3, h4⟩ := back _ (hn i)
      refine ⟨_, rfl, _, rfl, _, rfl, bd, _, rfl, h2 _ (Same.refl _), p, _, _, _, rfl, rfl, hp, h3, a, _, _, _, rfl, rfl, h4 _ (Same.refl _), rfl, ?_⟩
      exact ⟨_, _, _, rfl, rfl⟩
    · rintro σ H' ⟨v3, v4, v5, rfl, rfl⟩
      have el : (((bk bs s0.by_).length : Nat) : Int).toNat = bs.length := by rw [bk_len]; omega
      rw [el]
      generalize hx : Bf.itr lits s0.by_ t bs.length = x
      have hnx : ∀ k, s0.by_ (Bf.itr lits s0.by_ x k) ≠ none := fun k => by
        rw [← hx, ← Bf.itr_add]
        exact hn _
      obtain ⟨d0, hd0, hd1, hd2⟩ := Bf.on_ring (fun y hy => (hok.2 y).mpr hy) hn
      rw [Bf.itr_add, hx] at hd2
      obtain ⟨d, hdl, ⟨hdp, hdx⟩, hmin⟩ := Bf.least (p := fun d => 0 < d ∧ Bf.itr lits s0.by_ x d = x) d0 ⟨hd0, hd2⟩
      obtain ⟨j0, a0, n0, g1, g2, g3, g4⟩ := back _ (hnx 0)
      have e0 : Bf.itr lits s0.by_ x 0 = x := rfl
      rw [e0] at g1 g2 g4
      -- ring = [lowered_by[term]]
      refine ⟨_, rfl, _, rfl, bd, _, rfl, g2 _ (Same.refl _), (by show 1 ≤ sizeLine; decide), fun R nR => ?_⟩
      have S1 : Same H' (upd H' R (.lst [.int (j0 : Nat)])) := Same.new nR
      -- following = literals[ring[0]][1]
      refine ⟨_, rfl, _, rfl, R, _, _, _, rfl, rfl, SqL.of upd_same, rfl, p, _, _, _, rfl, rfl, (Same.seq S1 hp), g3, a0, _, _, _, rfl, rfl, g4 _ S1, rfl, ?_⟩
      refine ⟨fun m σ H2 => ∃ (c : Nat) (v3 : Option V), m = d - (c + 1) ∧ c + 1 ≤ d ∧ σ = [some (.ref p), some (.ref bd), some (.str x), v3, some (.ref R), some (.str (Bf.itr lits s0.by_ x (c + 1)))] ∧ Same H' H2 ∧ H2 R = some (.lst (((List.range (c + 1)).map fun j => (s0.by_ (Bf.itr lits s0.by_ x j)).getD 0).map natV)),
        ⟨_, 0, v3, rfl, hdp, rfl, S1, ?_⟩, ?_⟩
      · rw [upd_same]
        show some (HO.lst [.int (j0 : Nat)]) = some (HO.lst [natV ((s0.by_ x).getD 0)])
        rw [g1]
        rfl
      · rintro m σ H2 ⟨c, v3, rfl, hcd, rfl, S2, hR⟩
        refine ⟨_, rfl, _, rfl, rfl, _, rfl, ?_⟩
        by_cases hq : Bf.itr lits s0.by_ x (c + 1) = x
        · have e2 : (!decide (V.str (Bf.itr lits s0.by_ x (c + 1)) = V.str x)) = false := by
            rw [decide_eq_true (congrArg V.str hq)]
            rfl
          rw [e2]
          refine iteF ?_
          -- return tuple(ring)
          refine ⟨_, rfl, R, _, rfl, .inl ⟨SqL.of hR, fun q nq => ?_⟩⟩
          have hlen : ((List.range (c + 1)).map fun j => (s0.by_ (Bf.itr lits s0.by_ x j)).getD 0).length = c + 1 := by simp
          refine k q _ _ _ (S2.trans (Same.new nq)) (SqT.of upd_same) (Bf.ring_of G hnx hq (fun j h1 h2 h3 => ?_) hlen fun j hj => ?_) (by rw [hlen]; omega)
          · exact hmin j (by omega) ⟨h1, h3⟩
          · obtain ⟨i, hi⟩ := Option.ne_none_iff_exists'.mp (hnx j)
            rw [List.getElem?_map, List.getElem?_range (by omega)]
            show some ((s0.by_ (Bf.itr lits s0.by_ x j)).getD 0) = _
            rw [hi]
            rfl
        · have e2 : (!decide (V.str (Bf.itr lits s0.by_ x (c + 1)) = V.str x)) = true := by
            rw [decide_eq_false (fun h => hq (by injection h))]
            rfl
          rw [e2]
          refine iteT ?_
          have hcd2 : c + 1 < d := Nat.lt_of_le_of_ne hcd fun e => hq (by rw [e]; exact hdx)
          obtain ⟨j1, a1, n1, f1, f2, f3, f4⟩ := back _ (hnx (c + 1))
          refine ⟨fun σ H3 => ∃ v3, σ = [some (.ref p), some (.ref bd), some (.str x), v3, some (.ref R), some (.str (Bf.itr lits s0.by_ x (c + 1 + 1)))] ∧ Same H' H3 ∧ H3 R = some (.lst (((List.range (c + 1 + 1)).map fun j => (s0.by_ (Bf.itr lits s0.by_ x j)).getD 0).map natV)),
            fun σ H3 ⟨v3, e3, S3, hR3⟩ => ⟨d - (c + 1 + 1), by omega, c + 1, v3, rfl, hcd2, e3, S3, hR3⟩, ?_⟩
          refine ⟨_, rfl, .inl ⟨rfl, _, .inl (.inl hR)⟩, _, rfl, _, rfl, bd, _, rfl, f2 _ S2, R, _, _, rfl, rfl, hR, szs (by simp; omega), ?_⟩
          have S3 : Same H' (upd H2 R (.lst (((List.range (c + 1)).map fun j => (s0.by_ (Bf.itr lits s0.by_ x j)).getD 0).map natV ++ [.int (j1 : Nat)]))) := Same.mut S2 nR
          refine ⟨_, rfl, _, rfl, _, rfl, R, _, _, _, rfl, rfl, SqL.of upd_same, atI_last _ _, p, _, _, _, rfl, rfl, (Same.seq S3 hp), f3, a1, _, _, _, rfl, rfl, f4 _ S3, rfl, ?_⟩
          refine ⟨_, rfl, S3, ?_⟩
          have e3 : ((List.range (c + 1 + 1)).map fun j => (s0.by_ (Bf.itr lits s0.by_ x j)).getD 0).map natV = ((List.range (c + 1)).map fun j => (s0.by_ (Bf.itr lits s0.by_ x j)).getD 0).map natV ++ [natV j1] := by
            rw [List.range_succ (n := c + 1), List.map_append, List.map_append]
            show _ ++ [natV ((s0.by_ (Bf.itr lits s0.by_ x (c + 1))).getD 0)] = _
            rw [f1]
            rfl
          rw [upd_same, e3]
          rfl
def spBehindT (K : PySem.W.Frag) : Sp := fun vs H Q _ => ∃ (p bd : Addr) (ts : List Addr) (lits : List (Str × Str × Int)) (bs : List Str) (s : Bf.Sta Str) (t : Str), vs = [.ref p, .ref bd, .str t] ∧ SqT K H p (ts.map V.ref) ∧ LitsAt K H ts lits ∧ H bd = some (.dK (bk bs s.by_)) ∧ ByOk bs s.by_ ∧ bs.length ≤ 1000 ∧ Bf.Good lits s ∧
  (∀ k, s.by_ (Bf.itr lits s.by_ t k) ≠ none) ∧ ∀ (c : Addr) (is : List Nat) (f : Nat → Str) (H' : Hp), Same H H' → SqT K H' c (is.map natV) → Bf.IsRing lits is f → is.length ≤ bs.length → Q (.ref c) H'
theorem ok_ring_behindT {f : Addr} {fd : FuncData} (F : C8.Def K mg "ring_behind" s_ring_behind f fd) (b : Binds K fd ["literals", "lowered_by", "term"] []) (T : Txt mg) : C8.Cal P w K mg base 1 "ring_behind" (spBehindT K) [] := by
  refine C8.cal0 F b .nil sc_ring_behind (fun vs H Q E h => ?_) (fun cdv A outer s H vs Q E hr h => ?_)
  · obtain ⟨p, bd, ts, lits, bs, s, t, rfl, _⟩ := h
    rfl
  · obtain ⟨p, bd, ts, lits, bs, s0, t, rfl, hp, hL, hb, hok, hb1, G, hn, k⟩ := h
    have hu := hu_of hr
    refine ⟨_, (pss_cons (ps_for PassesOwn.never rfl (pi_range1 (by rfl) T.z_range (pa_cons (pe_callB call_lenD (by rfl) T.z_len (by decide +kernel) (pa_cons (pv 1) pa_nil)) pa_nil)) (pg_name (i := 3) sc_ring_behind.nd rfl (Or.inl rfl))
    (pss_one (ps_set (i := 2) sc_ring_behind.nd rfl (Or.inl rfl) (pe_ix ix_tup (pe_ix ix_tup (pv 0) (pe_dget hu (pv 1) (pv 2) (fun _ _ => rfl)) (fun _ _ => rfl)) pe_int (fun _ _ => rfl)))))
    (pss_cons (ps_set (i := 4) sc_ring_behind.nd rfl (Or.inl rfl) (pe_lst (pa_cons (pe_dget hu (pv 1) (pv 2) (fun _ _ => rfl)) pa_nil)))
    (pss_cons (ps_set (i := 5) sc_ring_behind.nd rfl (Or.inl rfl) (pe_ix ix_tup (pe_ix ix_tup (pv 0) (pe_ix ix_list (pv 4) pe_int (fun _ _ => rfl)) (fun _ _ => rfl)) pe_int (fun _ _ => rfl)))
    (pss_cons (ps_while PassesOwn.never (pt_cmpR op_ne (pv 5) (pv 2) (nomark _)) (pss_cons (ps_expr (pe_bm PySem.F.plainAttrs_list PySem.F.slot_list_append PySem.F.type_list_append mt_append (pv 4) (pa_cons (pe_dget hu (pv 1) (pv 5) (fun _ _ => rfl)) pa_nil)))
    (pss_one (ps_set (i := 5) sc_ring_behind.nd rfl (Or.inl rfl) (pe_ix ix_tup (pe_ix ix_tup (pv 0) (pe_ix ix_list (pv 4) (pe_un un_neg pe_int) (fun _ _ => rfl)) (fun _ _ => rfl)) pe_int (fun _ _ => rfl))))))
    (pss_one (ps_ret (pe_callTy call_tuple_of (by rfl) T.z_tuple (by decide +kernel) (pa_cons (pv 4) pa_nil)))))))), ?_⟩
    -- one step back
    have back : ∀ (x : Str), s0.by_ x ≠ none → ∃ (i : Nat) (a : Addr) (n : Int), s0.by_ x = some i ∧ (∀ H', Same H H' → DGet H' bd (.str x) (some (.int (i : Nat)))) ∧ atI (ts.map V.ref) (i : Int) = some (.ref a) ∧ ∀ H', Same H H' → SqT K H' a [.str x, .str (Bf.nxt lits s0.by_ x), .int n] := fun x hx => by
      obtain ⟨i, hi⟩ := Option.ne_none_iff_exists'.mp hx
      obtain ⟨r, n, hLi, _⟩ := G.own x i hi
      obtain ⟨a, ha, hs⟩ := hL.2 i _ hLi
      refine ⟨i, a, n, hi, fun H' S => dget_bk (S _ _ hb) hok hi, atI_nat (by rw [List.getElem?_map, ha]; rfl), fun H' S => ?_⟩
      rw [Bf.nxt_at hi hLi]
      exact Same.seqT S hs
    refine ⟨_, rfl, bd, _, rfl, hb, _, rfl, by omega, by rw [bk_len]; omega, for_range (lo := 0) (n := (((bk bs s0.by_).length : Nat) : Int).toNat) (fun i σ H' => ∃ (v3 v4 v5 : Option V), σ = [some (.ref p), some (.ref bd), some (.str (Bf.itr lits s0.by_ t i)), v3, v4, v5] ∧ H' = H) ⟨none, none, none, rfl, rfl⟩ ?_ ?_⟩
    · rintro i σ H' hi ⟨v3, v4, v5, rfl, rfl⟩
      obtain ⟨j, a, n, h1, h2, h3, h4⟩ := back _ (hn i)
      refine ⟨_, rfl, _, rfl, _, rfl, bd, _, rfl, h2 _ (Same.refl _), p, _, _, _, rfl, rfl, hp, h3, a, _, _, _, rfl, rfl, h4 _ (Same.refl _), rfl, ?_⟩
      exact ⟨_, _, _, rfl, rfl⟩
    · rintro σ H' ⟨v3, v4, v5, rfl, rfl⟩
      have el : (((bk bs s0.by_).length : Nat) : Int).toNat = bs.length := by rw [bk_len]; omega
      rw [el]
      generalize hx : Bf.itr lits s0.by_ t bs.length = x
      have hnx : ∀ k, s0.by_ (Bf.itr lits s0.by_ x k) ≠ none := fun k => by
        rw [← hx, ← Bf.itr_add]
        exact hn _
      obtain ⟨d0, hd0, hd1, hd2⟩ := Bf.on_ring (fun y hy => (hok.2 y).mpr hy) hn
      rw [Bf.itr_add, hx] at hd2
      obtain ⟨d, hdl, ⟨hdp, hdx⟩, hmin⟩ := Bf.least (p := fun d => 0 < d ∧ Bf.itr lits s0.by_ x d = x) d0 ⟨hd0, hd2⟩
      obtain ⟨j0, a0, n0, g1, g2, g3, g4⟩ := back _ (hnx 0)
      have e0 : Bf.itr lits s0.by_ x 0 = x := rfl
      rw [e0] at g1 g2 g4
      -- ring = [lowered_by[term]]
      refine ⟨_, rfl, _, rfl, bd, _, rfl, g2 _ (Same.refl _), (by show 1 ≤ sizeLine; decide), fun R nR => ?_⟩
      have S1 : Same H' (upd H' R (.lst [.int (j0 : Nat)])) := Same.new nR
      -- following = literals[ring[0]][1]
      refine ⟨_, rfl, _, rfl, R, _, _, _, rfl, rfl, SqL.of upd_same, rfl, p, _, _, _, rfl, rfl, (Same.seqT S1 hp), g3, a0, _, _, _, rfl, rfl, g4 _ S1, rfl, ?_⟩
      refine ⟨fun m σ H2 => ∃ (c : Nat) (v3 : Option V), m = d - (c + 1) ∧ c + 1 ≤ d ∧ σ = [some (.ref p), some (.ref bd), some (.str x), v3, some (.ref R), some (.str (Bf.itr lits s0.by_ x (c + 1)))] ∧ Same H' H2 ∧ H2 R = some (.lst (((List.range (c + 1)).map fun j => (s0.by_ (Bf.itr lits s0.by_ x j)).getD 0).map natV)),
        ⟨_, 0, v3, rfl, hdp, rfl, S1, ?_⟩, ?_⟩
      · rw [upd_same]
        show some (HO.lst [.int (j0 : Nat)]) = some (HO.lst [natV ((s0.by_ x).getD 0)])
        rw [g1]
        rfl
      · rintro m σ H2 ⟨c, v3, rfl, hcd, rfl, S2, hR⟩
        refine ⟨_, rfl, _, rfl, rfl, _, rfl, ?_⟩
        by_cases hq : Bf.itr lits s0.by_ x (c + 1) = x
        · have e2 : (!decide (V.str (Bf.itr lits s0.by_ x (c + 1)) = V.str x)) = false := by
            rw [decide_eq_true (congrArg V.str hq)]
            rfl
          rw [e2]
          refine iteF ?_
          -- return tuple(ring)
          refine ⟨_, rfl, R, _, rfl, .inl ⟨SqL.of hR, fun q nq => ?_⟩⟩
          have hlen : ((List.range (c + 1)).map fun j => (s0.by_ (Bf.itr lits s0.by_ x j)).getD 0).length = c + 1 := by simp
          refine k q _ _ _ (S2.trans (Same.new nq)) (SqT.of upd_same) (Bf.ring_of G hnx hq (fun j h1 h2 h3 => ?_) hlen fun j hj => ?_) (by rw [hlen]; omega)
          · exact hmin j (by omega) ⟨h1, h3⟩
          · obtain ⟨i, hi⟩ := Option.ne_none_iff_exists'.mp (hnx j)
            rw [List.getElem?_map, List.getElem?_range (by omega)]
            show some ((s0.by_ (Bf.itr lits s0.by_ x j)).getD 0) = _
            rw [hi]
            rfl
        · have e2 : (!decide (V.str (Bf.itr lits s0.by_ x (c + 1)) = V.str x)) = true := by
            rw [decide_eq_false (fun h => hq (by injection h))]
            rfl
          rw [e2]
          refine iteT ?_
          have hcd2 : c + 1 < d := Nat.lt_of_le_of_ne hcd fun e => hq (by rw [e]; exact hdx)
          obtain ⟨j1, a1, n1, f1, f2, f3, f4⟩ := back _ (hnx (c + 1))
          refine ⟨fun σ H3 => ∃ v3, σ = [some (.ref p), some (.ref bd), some (.str x), v3, some (.ref R), some (.str (Bf.itr lits s0.by_ x (c + 1 + 1)))] ∧ Same H' H3 ∧ H3 R = some (.lst (((List.range (c + 1 + 1)).map fun j => (s0.by_ (Bf.itr lits s0.by_ x j)).getD 0).map natV)),
            fun σ H3 ⟨v3, e3, S3, hR3⟩ => ⟨d - (c + 1 + 1), by omega, c + 1, v3, rfl, hcd2, e3, S3, hR3⟩, ?_⟩
          refine ⟨_, rfl, .inl ⟨rfl, _, .inl (.inl hR)⟩, _, rfl, _, rfl, bd, _, rfl, f2 _ S2, R, _, _, rfl, rfl, hR, szs (by simp; omega), ?_⟩
          have S3 : Same H' (upd H2 R (.lst (((List.range (c + 1)).map fun j => (s0.by_ (Bf.itr lits s0.by_ x j)).getD 0).map natV ++ [.int (j1 : Nat)]))) := Same.mut S2 nR
          refine ⟨_, rfl, _, rfl, _, rfl, R, _, _, _, rfl, rfl, SqL.of upd_same, atI_last _ _, p, _, _, _, rfl, rfl, (Same.seqT S3 hp), f3, a1, _, _, _, rfl, rfl, f4 _ S3, rfl, ?_⟩
          refine ⟨_, rfl, S3, ?_⟩
          have e3 : ((List.range (c + 1 + 1)).map fun j => (s0.by_ (Bf.itr lits s0.by_ x j)).getD 0).map natV = ((List.range (c + 1)).map fun j => (s0.by_ (Bf.itr lits s0.by_ x j)).getD 0).map natV ++ [natV j1] := by
            rw [List.range_succ (n := c + 1), List.map_append, List.map_append]
            show _ ++ [natV ((s0.by_ (Bf.itr lits s0.by_ x (c + 1))).getD 0)] = _
            rw [f1]
            rfl
          rw [upd_same, e3]
          rfl
end
end Q1

namespace Bx
open PySem L2
theorem itk_run {d : Addr} {o : Obj} {kvs : List (Key × V)} {F : V → Hp → (Hp → Prop) → Prop} {H4 : Hp} {Nx : Hp → Prop} (Pv : Nat → Hp → Prop) (h0 : Pv 0 H4) (hl : ∀ j H, Pv j H → H d = some (.frz o (.dK kvs)))
    (hs : ∀ j k v H, kvs[j]? = some (k, v) → Pv j H → F (kV k) H (Pv (j + 1))) (hd : ∀ H, Pv kvs.length H → Nx H) :
    ∃ W1 : Nat → Nat → Hp → Prop, (∃ m, W1 0 m H4) ∧ ∀ j k H, W1 j k H → ((Itk d o kvs).stop j H ∧ Nx H) ∨ ((Itk d o kvs).go j H ∧ ∃ Nx1 : Hp → Prop, (∀ H', Nx1 H' → ∃ k', k' < k ∧ W1 (j + 1) k' H') ∧ ∀ x H', (Itk d o kvs).yld j H x H' → F x H' Nx1) := by
  refine ⟨fun j k H => k = kvs.length - j ∧ j ≤ kvs.length ∧ Pv j H, ⟨kvs.length, rfl, Nat.zero_le _, h0⟩, ?_⟩
  rintro j k H ⟨rfl, hj, p⟩
  have q := hl j H p
  by_cases hlt : j < kvs.length
  · refine .inr ⟨⟨q, hlt⟩, Pv (j + 1), fun H' p' => ⟨kvs.length - (j + 1), by omega, rfl, hlt, p'⟩, fun x H' y => ?_⟩
    obtain ⟨e, k, v, y, ex⟩ := y
    subst e ex
    exact hs j k v _ y p
  · have e : j = kvs.length := by omega
    subst e
    exact .inl ⟨⟨q, Nat.le_refl _⟩, hd H p⟩
/-- one key more, its value the function's -/
theorem hk_more {g : Str → Int} {t : Str} (ks : List Str) : ∃ ks', putK (hk ks g) (Sum.inr t) (.int (g t)) = hk ks' g ∧ (∀ x, x ∈ ks' ↔ x ∈ ks ∨ x = t) ∧ (ks.Nodup → ks'.Nodup) ∧ ks'.length ≤ ks.length + 1 := by
  by_cases m : t ∈ ks
  · refine ⟨ks, (hk_put m).trans ?_, fun x => ⟨.inl, fun h => h.elim id fun e => e ▸ m⟩, id, Nat.le_succ _⟩
    congr 1
    funext x
    unfold Bf.put
    by_cases e : x = t <;> simp [e]
  · refine ⟨ks ++ [t], (fk_new (v := fun t => V.int (g t)) m).trans ?_, fun x => by simp, fun nd => List.nodup_append.mpr ⟨nd, by simp, fun x hx y hy e => ?_⟩, by simp⟩
    · unfold fk hk
      refine List.map_congr_left fun k _ => ?_
      by_cases e : k = t <;> simp [e]
    · have : y = t := by simpa using hy
      rw [← this, ← e] at m
      exact m hx
end Bx
namespace Q1
open PySem L2 Bx
section
variable {P : Program} {w : World} {K : PySem.W.Frag} {mg : Str → Option Value} {base : Heap}
def val (g : Str → Int) (t : Str) : Int := if t = "" then 0 else g t
def spSolved (K : PySem.W.Frag) : Sp := fun vs H Q _ => ∃ (p : Addr) (ts : List Addr) (lits : List (Str × Str × Int)), vs = [.ref p] ∧ SqL K H p (ts.map V.ref) ∧ LitsAt K H ts lits ∧ lits.length ≤ 300 ∧
  (∀ (r d : Addr) (ks : List Str) (g : Str → Int) (H' : Hp), Same H H' → SqT K H' r [.str "values", .ref d] → H d = none → H' d = some (.dK (hk ks g)) → ks.Nodup → ks.length ≤ 1000 → (∀ x, x ∈ ks ↔ x ≠ "" ∧ ∃ q ∈ lits, x = q.1 ∨ x = q.2.1) → (∀ q ∈ lits, val g q.1 ≤ val g q.2.1 + q.2.2) → Q (.ref r) H') ∧
  (∀ (r c : Addr) (is : List Nat) (f : Nat → Str) (H' : Hp), Same H H' → SqT K H' r [.str "ring", .ref c] → SqT K H' c (is.map natV) → Bf.IsRing lits is f → is.length ≤ 1000 → Q (.ref r) H')
def spSolvedT (K : PySem.W.Frag) : Sp := fun vs H Q _ => ∃ (p : Addr) (ts : List Addr) (lits : List (Str × Str × Int)), vs = [.ref p] ∧ SqT K H p (ts.map V.ref) ∧ LitsAt K H ts lits ∧ lits.length ≤ 300 ∧
  (∀ (r d : Addr) (ks : List Str) (g : Str → Int) (H' : Hp), Same H H' → SqT K H' r [.str "values", .ref d] → H d = none → H' d = some (.dK (hk ks g)) → ks.Nodup → ks.length ≤ 1000 → (∀ x, x ∈ ks ↔ x ≠ "" ∧ ∃ q ∈ lits, x = q.1 ∨ x = q.2.1) → (∀ q ∈ lits, val g q.1 ≤ val g q.2.1 + q.2.2) → Q (.ref r) H') ∧
  (∀ (r c : Addr) (is : List Nat) (f : Nat → Str) (H' : Hp), Same H H' → SqT K H' r [.str "ring", .ref c] → SqT K H' c (is.map natV) → Bf.IsRing lits is f → is.length ≤ 1000 → Q (.ref r) H')
theorem but2_same {x y : Addr} {H H1 H2 : Hp} (a : Same H H1) (b : But2 x y H1 H2) (hx : H x = none) (hy : H y = none) : Same H H2 := fun c o h => b c o (a c o h) (ne_of_none h hx) (ne_of_none h hy)
theorem same_none {H H' : Hp} (a : Same H H') {p : Addr} (h : H' p = none) : H p = none := by
  cases q : H p with
  | none => rfl
  | some o =>
    rw [a p o q] at h
    cases h
theorem ok_solved {f : Addr} {fd : FuncData} (F : C8.Def K mg "solved" s_solved f fd) (b : Binds K fd ["literals"] []) (T : Txt mg) (K_check_literals : C8.Cal P w K mg base 3 "check_literals" (spChkG K) []) (K_lower_once : C8.Cal P w K mg base 1 "lower_once" (spLower K) []) (K_ring_behind : C8.Cal P w K mg base 1 "ring_behind" (spBehind K) []) : C8.Cal P w K mg base 4 "solved" (spSolved K) [] := by
  refine C8.cal0 F b .nil sc_solved (fun vs H Q E h => ?_) (fun cdv A outer s H vs Q E hr h => ?_)
  · obtain ⟨p, ts, lits, rfl, _⟩ := h
    rfl
  · obtain ⟨p, ts, lits, rfl, hp, hL, hl, kv, kr⟩ := h
    have hu := hu_of hr
    refine ⟨_, (pss_cons (ps_expr (C8.pe_c K_check_literals hr (by decide) (by rfl) (pa_cons (pv 0) pa_nil)))
    (pss_cons (ps_set (i := 1) sc_solved.nd rfl (Or.inr rfl) (pe_dc2 (own := [("left", 6), ("right", 7), ("number", 8), ("term", 9)]) (vs1 := [9]) rfl sc_solved.nd (pi_list (pv 0)) (blkOk_by (own := [("left", 6), ("right", 7), ("number", 8), ("term", 9)]) (N := N_solved) (sc := C8.fnScope s_solved) (by decide +kernel)) (by decide) (fun _ _ _ _ _ => (pgTK K 3 (pgs_cons (pg_name (i := 6) sc_solved.nd rfl (Or.inl rfl)) (pgs_cons (pg_name (i := 7) sc_solved.nd rfl (Or.inl rfl)) (pgs_cons (pg_name (i := 8) sc_solved.nd rfl (Or.inl rfl)) pgs_nil))))) (fun _ _ _ _ _ => pts_nil) (fun _ _ _ _ _ => ((piTK K) (pe_tup (pa_cons (pv 6) (pa_cons (pv 7) pa_nil))))) (fun _ _ _ _ _ => (pg_name (i := 9) sc_solved.nd rfl (Or.inl rfl))) (fun _ _ _ _ _ => pts_nil) (fun _ _ _ _ _ => (pv 9)) (fun _ _ _ _ _ => pe_int)))
    (pss_cons (ps_set (i := 2) sc_solved.nd rfl (Or.inl rfl) pe_dnewK)
    (pss_cons (ps_for PassesOwn.never rfl (pi_range1 (by rfl) T.z_range (pa_cons (pe_op op_add (pe_callB call_lenD (by rfl) T.z_len (by decide +kernel) (pa_cons (pv 1) pa_nil)) pe_int) pa_nil)) (pg_name (i := 3) sc_solved.nd rfl (Or.inl rfl))
    (pss_cons (ps_set (i := 4) sc_solved.nd rfl (Or.inl rfl) (C8.pe_c K_lower_once hr (by decide) (by rfl) (pa_cons (pv 0) (pa_cons (pv 1) (pa_cons (pv 2) pa_nil)))))
    (pss_one (ps_if (pt_cmpR op_isN (pv 4) pe_non (nomark _)) (pss_cons (ps_set (i := 5) sc_solved.nd rfl (Or.inr rfl) (pe_dget2 hu (pv 1) pe_str pe_int ⟨rfl, rfl, rfl, rfl⟩))
    (pss_one (ps_ret (pe_tup (pa_cons pe_str (pa_cons (pe_lock (pe_dc (own := [("term", 9)]) rfl sc_solved.nd (pi_keys (pv 1)) (blkOk_by (own := [("term", 9)]) (N := N_solved) (sc := C8.fnScope s_solved) (by decide +kernel)) (fun _ _ _ _ _ => (pg_name (i := 9) sc_solved.nd rfl (Or.inl rfl))) (fun _ _ _ _ _ => (pts_one (pt_cmpR op_ne (pv 9) pe_str (nomark _)))) (fun _ _ _ _ _ => (pv 9)) (fun _ _ _ _ _ => (pe_op op_sub (pe_dget hu (pv 1) (pv 9) (fun _ _ => rfl)) (pv 5))))) pa_nil)))))) pss_nil))))
    (pss_one (ps_ret (pe_tup (pa_cons pe_str (pa_cons (C8.pe_c K_ring_behind hr (by decide) (by rfl) (pa_cons (pv 0) (pa_cons (pv 2) (pa_cons (pv 4) pa_nil)))) pa_nil))))))))), ?_⟩
    refine ⟨_, rfl, p, ts, lits, rfl, hp, hL, hl, fun H1 S1 => ?_⟩
    have hp1 := Same.seq S1 hp
    have hL1 := hL.mono S1
    -- heights
    refine ⟨_, rfl, p, rfl, ⟨_, hp1⟩, fun hd nhd => itl_run (xs := ts.map V.ref) (fun i H' => Same H1 H' ∧ ∃ ks : List Str, H' hd = some (.dK (hk ks fun _ => 0)) ∧ ks.length ≤ 2 * i ∧ ks.Nodup ∧ ∀ x, x ∈ ks ↔ ∃ j q, j < i ∧ lits[j]? = some q ∧ (x = q.1 ∨ x = q.2.1)) ?_ ?_ ?_ ?_⟩
    · exact ⟨Same.new nhd, [], upd_same, Nat.zero_le _, List.nodup_nil, fun x => ⟨fun h => (by cases h), fun ⟨j, q, h, _⟩ => absurd h (Nat.not_lt_zero j)⟩⟩
    · rintro j H' _ ⟨B, _⟩
      exact Same.seq B hp1
    · rintro i x H2 hx ⟨S2, ks, hk2, hl2, nd2, hm2⟩
      rw [List.getElem?_map] at hx
      obtain ⟨t, ht, rfl⟩ := Option.map_eq_some_iff.mp hx
      have hil : i < lits.length := by
        rw [← hL.1]
        exact (List.getElem?_eq_some_iff.mp ht).1
      have hlq := List.getElem?_eq_getElem hil
      obtain ⟨t', ht', hs⟩ := hL1.2 i _ hlq
      have et : t' = t := Option.some.inj (ht'.symm.trans ht)
      subst et
      have hs2 := Same.seqT S2 hs
      generalize hq : lits[i] = q0 at *
      obtain ⟨lf, rg, n⟩ := q0
      refine ⟨t', _, rfl, hs2, rfl, _, _, rfl, _, _, rfl, _, _, rfl, rfl, rfl, ?_⟩
      refine ⟨_, rfl, _, rfl, (by show 2 ≤ sizeLine; decide), fun q nq => ?_⟩
      have n1 : H1 q = none := same_none S2 nq
      have hq2 : q ≠ hd := fun e => by rw [e, hk2] at nq; cases nq
      refine ⟨q, rfl, ⟨_, SqT.of upd_same⟩, itt_run (xs := [.str lf, .str rg]) (fun j H' => Same H1 H' ∧ H' q = some (.tup [.str lf, .str rg]) ∧ ∃ ks : List Str, H' hd = some (.dK (hk ks fun _ => 0)) ∧ ks.length ≤ 2 * i + j ∧ ks.Nodup ∧ ∀ x, x ∈ ks ↔ (∃ j q, j < i ∧ lits[j]? = some q ∧ (x = q.1 ∨ x = q.2.1)) ∨ (0 < j ∧ x = lf) ∨ (1 < j ∧ x = rg)) ?_ ?_ ?_ ?_⟩
      · exact ⟨Same.mut S2 n1, upd_same, ks, by rw [upd_ne hq2.symm]; exact hk2, hl2, nd2, fun x => (hm2 x).trans ⟨.inl, fun h => h.elim id fun h => h.elim (fun h => absurd h.1 (by omega)) fun h => absurd h.1 (by omega)⟩⟩
      · rintro j H' _ ⟨_, h, _⟩
        exact SqT.of h
      · rintro j x H3 hx ⟨S3, h3, ks3, hk3, hl3, nd3, hm3⟩
        have hj3 : j < 2 := (List.getElem?_eq_some_iff.mp hx).1
        have hx2 : ∃ y : Str, x = .str y ∧ ∀ z, (0 < j ∧ z = lf) ∨ (1 < j ∧ z = rg) ∨ z = y ↔ (0 < j + 1 ∧ z = lf) ∨ (1 < j + 1 ∧ z = rg) := by
          match j, hx with
          | 0, hx => exact ⟨lf, (Option.some.inj hx).symm, fun z => by simp⟩
          | 1, hx => exact ⟨rg, (Option.some.inj hx).symm, fun z => by simp⟩
          | j + 2, hx => cases hx
        obtain ⟨y, rfl, hy⟩ := hx2
        obtain ⟨ks4, e4, m4, n4, l4⟩ := hk_more (g := fun _ => 0) (t := y) ks3
        refine ⟨rfl, _, rfl, _, Sum.inr y, rfl, hk3, szs (by rw [hk_len]; omega), ?_⟩
        rw [e4]
        refine ⟨Same.mut S3 nhd, by rw [upd_ne hq2]; exact h3, ks4, upd_same, by omega, n4 nd3, fun z => ?_⟩
        rw [m4, hm3, ← hy]
        constructor
        · rintro ((h | h | h) | h)
          · exact .inl h
          · exact .inr (.inl h)
          · exact .inr (.inr (.inl h))
          · exact .inr (.inr (.inr h))
        · rintro (h | h | h | h)
          · exact .inl (.inl h)
          · exact .inl (.inr (.inl h))
          · exact .inl (.inr (.inr h))
          · exact .inr h
      · rintro H3 ⟨S3, h3, ks3, hk3, hl3, nd3, hm3⟩
        refine ⟨S3, ks3, hk3, by simp at hl3; omega, nd3, fun x => ?_⟩
        rw [hm3]
        constructor
        · rintro (⟨j, q0, hj, hq0, h⟩ | ⟨_, h⟩ | ⟨_, h⟩)
          · exact ⟨j, q0, by omega, hq0, h⟩
          · exact ⟨i, _, Nat.lt_succ_self i, hlq, .inl h⟩
          · exact ⟨i, _, Nat.lt_succ_self i, hlq, .inr h⟩
        · rintro ⟨j, q0, hj, hq0, h⟩
          by_cases e : j = i
          · subst e
            rw [hlq] at hq0
            cases hq0
            rcases h with h | h
            · exact .inr (.inl ⟨by simp, h⟩)
            · exact .inr (.inr ⟨by simp, h⟩)
          · exact .inl ⟨j, q0, by omega, hq0, h⟩
    · rintro H2 ⟨S2, ks, hk2, hl2, nd2, hm2⟩
      have el : (ts.map V.ref).length = lits.length := by rw [List.length_map, hL.1]
      rw [el] at hl2 hm2
      have mem2 : ∀ x, x ∈ ks ↔ ∃ q ∈ lits, x = q.1 ∨ x = q.2.1 := fun x => (hm2 x).trans ⟨fun ⟨j, q, _, e, h⟩ => ⟨q, List.mem_of_getElem? e, h⟩, fun ⟨q, hq, h⟩ => by
        obtain ⟨j, hj, e⟩ := List.mem_iff_getElem.mp hq
        exact ⟨j, q, hj, by rw [List.getElem?_eq_getElem hj, e], h⟩⟩
      have ends : ∀ q ∈ lits, q.1 ∈ ks ∧ q.2.1 ∈ ks := fun q hq => ⟨(mem2 _).mpr ⟨q, hq, .inl rfl⟩, (mem2 _).mpr ⟨q, hq, .inr rfl⟩⟩
      refine fun bd nbd => ?_
      have ne : hd ≠ bd := fun e => by rw [← e, hk2] at nbd; cases nbd
      have S3 : Same H1 (upd H2 bd (.dK [])) := Same.mut S2 (same_none S2 nbd)
      have hh3 : (upd H2 bd (.dK [])) hd = some (.dK (hk ks fun _ => 0)) := by rw [upd_ne ne]; exact hk2
      have hb3 : (upd H2 bd (.dK [])) bd = some (.dK []) := upd_same
      have n1bd : H1 bd = none := same_none S2 nbd
      generalize upd H2 bd (.dK []) = H3 at *
      have A0 : At K H3 p hd bd ts lits ks [] (Bf.passes lits 0) := ⟨Same.seq S3 hp1, hL1.mono S3, hl, hh3, hb3, ne, ends, ⟨List.nodup_nil, fun t => ⟨fun h => (by cases h), fun h => absurd rfl h⟩⟩, by omega, Bf.passes_good lits 0⟩
      refine ⟨_, rfl, hd, _, rfl, hh3, _, _, rfl, rfl, _, rfl, by omega, by rw [hk_len]; omega, for_range (lo := 0) (n := ((((hk ks fun _ => 0).length : Nat) : Int) + 1).toNat) (fun i σ H' => ∃ (v3 v4 v5 : Option V) (bs : List Str), σ = [some (.ref p), some (.ref hd), some (.ref bd), v3, v4, v5, none, none, none, none] ∧ Same H1 H' ∧ At K H' p hd bd ts lits ks bs (Bf.passes lits i) ∧ (0 < i → ∃ t, v4 = some (.str t) ∧ (Bf.passes lits i).low = some t)) ?_ ?_ ?_⟩
      · exact ⟨none, none, none, [], rfl, S3, A0, fun h => absurd h (Nat.not_lt_zero 0)⟩
      · rintro i σ H4 hi ⟨v3, v4, v5, bs, rfl, S4, A4, _⟩
        refine ⟨_, rfl, _, rfl, _, rfl, p, hd, bd, ts, lits, ks, bs, _, rfl, A4, fun bs5 H5 B5 A5 => ?_⟩
        have S5 : Same H1 H5 := but2_same S4 B5 nhd n1bd
        have ep : Bf.pass lits (Bf.passes lits i) = Bf.passes lits (i + 1) := rfl
        have hlow := Bf.some_none (L := lits) (s := { Bf.passes lits i with low := none }) rfl lits.length
        rw [ep] at A5
        rw [ep]
        rw [show Bf.some_ lits { Bf.passes lits i with low := none } lits.length = Bf.passes lits (i + 1) from rfl] at hlow
        generalize Bf.passes lits (i + 1) = s6 at *
        refine ⟨_, rfl, rfl, _, rfl, ?_⟩
        cases hlw : s6.low with
        | some t => exact iteF ⟨_, some (.str t), v5, bs5, rfl, S5, A5, fun _ => ⟨t, rfl, rfl⟩⟩
        | none =>
          obtain ⟨e6, hle⟩ := hlow hlw
          refine iteT ?_
          have hz : ∃ o, DGet H5 hd (.str "") o ∧ o.getD (.int 0) = .int (s6.h "") := by
            by_cases m : ("" : Str) ∈ ks
            · exact ⟨_, dget_hk A5.hh m, rfl⟩
            · refine ⟨_, DGet.k (k := Sum.inr "") A5.hh, ?_⟩
              rw [show valV (hk ks s6.h) (Sum.inr "") = none from fk_no (v := fun t => V.int (s6.h t)) m, A5.good.root "" ?_]
              · rfl
              · cases hb : s6.by_ "" with
                | none => rfl
                | some i =>
                  obtain ⟨r, n, h1, _⟩ := A5.good.own "" i hb
                  exact absurd (ends _ (List.mem_of_getElem? h1)).1 m
          obtain ⟨o, ho, eo⟩ := hz
          refine ⟨_, rfl, hd, rfl, .inl ⟨_, .inl A5.hh⟩, o, ho, ?_⟩
          rw [eo]
          refine ⟨hd, _, A5.hh, trivial, fun od => ⟨_, rfl, hd, od, rfl, .inl ⟨_, upd_same, fun D nD => ?_⟩⟩⟩
          have neD : D ≠ hd := fun e => by rw [e, upd_same] at nD; cases nD
          have n5D : H5 D = none := by rw [upd_ne neD] at nD; exact nD
          generalize hH6 : upd H5 hd (.frz od (.dK (hk ks s6.h))) = H6 at *
          have f6 : H6 hd = some (.frz od (.dK (hk ks s6.h))) := by rw [← hH6, upd_same]
          refine itk_run (fun j H' => Same H6 H' ∧ ∃ ks', H' D = some (.dK (hk ks' fun t => s6.h t - s6.h "")) ∧ ks'.length ≤ j ∧ ks'.Nodup ∧ ∀ x, x ∈ ks' ↔ x ≠ "" ∧ ∃ i, i < j ∧ ks[i]? = some x) ?_ ?_ ?_ ?_
          · exact ⟨Same.new nD, [], upd_same, Nat.zero_le _, List.nodup_nil, fun x => ⟨fun h => (by cases h), fun ⟨_, i, h, _⟩ => absurd h (Nat.not_lt_zero i)⟩⟩
          · rintro j H' ⟨S, _⟩
            exact S _ _ f6
          · rintro j k v H7 hj ⟨S7, ks7, h7, l7, n7, m7⟩
            unfold hk at hj
            rw [List.getElem?_map] at hj
            obtain ⟨x, hx, ex⟩ := Option.map_eq_some_iff.mp hj
            have ek : k = Sum.inr x := (congrArg Prod.fst ex).symm
            subst ek
            have hjl : j < ks.length := (List.getElem?_eq_some_iff.mp hx).1
            refine ⟨rfl, _, rfl, rfl, _, rfl, ?_⟩
            by_cases e : x = ""
            · have e2 : (!decide (kV (Sum.inr x) = V.str "")) = false := by rw [e]; rfl
              rw [e2]
              refine iteF ⟨S7, ks7, h7, by omega, n7, fun y => (m7 y).trans ⟨fun ⟨hne, i, hi, hy⟩ => ⟨hne, i, by omega, hy⟩, fun ⟨hne, i, hi, hy⟩ => ⟨hne, i, ?_, hy⟩⟩⟩
              by_cases e3 : i = j
              · subst e3
                rw [hx] at hy
                cases hy
                exact absurd e hne
              · omega
            · have e2 : (!decide (kV (Sum.inr x) = V.str "")) = true := by
                rw [decide_eq_false fun h => e (by injection h)]
                rfl
              rw [e2]
              obtain ⟨ks8, e8, m8, n8, l8⟩ := hk_more (g := fun t => s6.h t - s6.h "") (t := x) ks7
              refine iteT ⟨_, rfl, _, rfl, _, rfl, hd, _, rfl, .inl ⟨_, Sum.inr x, .inr ⟨od, S7 _ _ f6⟩, rfl, (hk_get (List.mem_of_getElem? hx)).symm⟩, _, rfl, _, _, rfl, rfl, _, Sum.inr x, rfl, h7, szs (by rw [hk_len]; have := A5.k1000; omega), ?_⟩
              rw [e8]
              refine ⟨Same.mut S7 nD, ks8, upd_same, by omega, n8 n7, fun y => ?_⟩
              rw [m8, m7]
              constructor
              · rintro (⟨hne, i, hi, hy⟩ | h)
                · exact ⟨hne, i, by omega, hy⟩
                · exact ⟨h ▸ e, j, Nat.lt_succ_self j, h ▸ hx⟩
              · rintro ⟨hne, i, hi, hy⟩
                by_cases e3 : i = j
                · subst e3
                  rw [hx] at hy
                  exact .inr (Option.some.inj hy).symm
                · exact .inl ⟨hne, i, by omega, hy⟩
          · rintro H7 ⟨S7, ks7, h7, l7, n7, m7⟩
            refine ⟨S7 _ _ f6, (by show 2 ≤ sizeLine; decide), fun R nR => ?_⟩
            have Sb : Same H5 (upd H7 hd (.dK (hk ks s6.h))) := fun c o hc => by
              by_cases e : c = hd
              · rw [e, upd_same, ← A5.hh, ← e, hc]
              · rw [upd_ne e]
                refine S7 _ _ ?_
                rw [← hH6, upd_ne e]
                exact hc
            have hD : (upd H7 hd (.dK (hk ks s6.h))) D = some (.dK (hk ks7 fun t => s6.h t - s6.h "")) := by rw [upd_ne neD]; exact h7
            rw [hk_len] at m7 l7
            have hm : ∀ x, x ∈ ks7 ↔ x ≠ "" ∧ ∃ q ∈ lits, x = q.1 ∨ x = q.2.1 := fun x => by
              rw [m7, ← mem2]
              constructor
              · rintro ⟨hne, i, _, h⟩
                exact ⟨hne, List.mem_of_getElem? h⟩
              · rintro ⟨hne, h⟩
                obtain ⟨i, hi, e⟩ := List.mem_iff_getElem.mp h
                exact ⟨hne, i, hi, by rw [List.getElem?_eq_getElem hi, e]⟩
            have hv : ∀ t, val (fun t => s6.h t - s6.h "") t = s6.h t - s6.h "" := fun t => by
              unfold val
              split
              · rename_i e
                rw [e]
                omega
              · rfl
            have SR := Same.new (o := .tup [.str "values", .ref D]) nR
            refine kv R D ks7 (fun t => s6.h t - s6.h "") _ (S1.trans (S5.trans (Sb.trans SR))) (SqT.of upd_same) (same_none S1 (same_none S5 n5D)) (SR _ _ hD) n7 (by have := A5.k1000; omega) hm fun q hq => ?_
            rw [hv, hv]
            obtain ⟨j, hj, e⟩ := List.mem_iff_getElem.mp hq
            have := hle j q hj (by rw [List.getElem?_eq_getElem hj, e])
            rw [e6]
            show (Bf.passes lits i).h _ - _ ≤ (Bf.passes lits i).h _ - _ + _
            have h2 : (Bf.passes lits i).h q.1 ≤ (Bf.passes lits i).h q.2.1 + q.2.2 := this
            omega
      · rintro σ H4 ⟨v3, v4, v5, bs, rfl, S4, A4, h4⟩
        have en : ((((hk ks fun _ => 0).length : Nat) : Int) + 1).toNat = ks.length + 1 := by rw [hk_len]; omega
        rw [en] at A4 h4
        obtain ⟨t, rfl, ht⟩ := h4 (Nat.succ_pos _)
        refine ⟨_, rfl, _, rfl, _, rfl, p, bd, ts, lits, bs, _, t, rfl, A4.hp, A4.hL, A4.hb, A4.ok, A4.b1000, A4.good, Bf.no_root ends ht, fun c is f H5 S5 hc R hlen => ?_⟩
        refine ⟨(by show 2 ≤ sizeLine; decide), fun q nq => ?_⟩
        have SR := Same.new (o := .tup [.str "ring", .ref c]) nq
        exact kr q c is f _ (S1.trans (S4.trans (S5.trans SR))) (SqT.of upd_same) (Same.seqT SR hc) R (by have := A4.b1000; omega)
theorem ok_solvedT {f : Addr} {fd : FuncData} (F : C8.Def K mg "solved" s_solved f fd) (b : Binds K fd ["literals"] []) (T : Txt mg) (K_check_literals : C8.Cal P w K mg base 3 "check_literals" (spChkGT K) []) (K_lower_once : C8.Cal P w K mg base 1 "lower_once" (spLowerT K) []) (K_ring_behind : C8.Cal P w K mg base 1 "ring_behind" (spBehindT K) []) : C8.Cal P w K mg base 4 "solved" (spSolvedT K) [] := by
  refine C8.cal0 F b .nil sc_solved (fun vs H Q E h => ?_) (fun cdv A outer s H vs Q E hr h => ?_)
  · obtain ⟨p, ts, lits, rfl, _⟩ := h
    rfl
  · obtain ⟨p, ts, lits, rfl, hp, hL, hl, kv, kr⟩ := h
    have hu := hu_of hr
    refine ⟨_, (pss_cons (ps_expr (C8.pe_c K_check_literals hr (by decide) (by rfl) (pa_cons (pv 0) pa_nil)))
    (pss_cons (ps_set (i := 1) sc_solved.nd rfl (Or.inr rfl) (pe_dc2 (own := [("left", 6), ("right", 7), ("number", 8), ("term", 9)]) (vs1 := [9]) rfl sc_solved.nd (pi_tup (pv 0)) (blkOk_by (own := [("left", 6), ("right", 7), ("number", 8), ("term", 9)]) (N := N_solved) (sc := C8.fnScope s_solved) (by decide +kernel)) (by decide) (fun _ _ _ _ _ => (pgTK K 3 (pgs_cons (pg_name (i := 6) sc_solved.nd rfl (Or.inl rfl)) (pgs_cons (pg_name (i := 7) sc_solved.nd rfl (Or.inl rfl)) (pgs_cons (pg_name (i := 8) sc_solved.nd rfl (Or.inl rfl)) pgs_nil))))) (fun _ _ _ _ _ => pts_nil) (fun _ _ _ _ _ => ((piTK K) (pe_tup (pa_cons (pv 6) (pa_cons (pv 7) pa_nil))))) (fun _ _ _ _ _ => (pg_name (i := 9) sc_solved.nd rfl (Or.inl rfl))) (fun _ _ _ _ _ => pts_nil) (fun _ _ _ _ _ => (pv 9)) (fun _ _ _ _ _ => pe_int)))
    (pss_cons (ps_set (i := 2) sc_solved.nd rfl (Or.inl rfl) pe_dnewK)
    (pss_cons (ps_for PassesOwn.never rfl (pi_range1 (by rfl) T.z_range (pa_cons (pe_op op_add (pe_callB call_lenD (by rfl) T.z_len (by decide +kernel) (pa_cons (pv 1) pa_nil)) pe_int) pa_nil)) (pg_name (i := 3) sc_solved.nd rfl (Or.inl rfl))
    (pss_cons (ps_set (i := 4) sc_solved.nd rfl (Or.inl rfl) (C8.pe_c K_lower_once hr (by decide) (by rfl) (pa_cons (pv 0) (pa_cons (pv 1) (pa_cons (pv 2) pa_nil)))))
    (pss_one (ps_if (pt_cmpR op_isN (pv 4) pe_non (nomark _)) (pss_cons (ps_set (i := 5) sc_solved.nd rfl (Or.inr rfl) (pe_dget2 hu (pv 1) pe_str pe_int ⟨rfl, rfl, rfl, rfl⟩))
    (pss_one (ps_ret (pe_tup (pa_cons pe_str (pa_cons (pe_lock (pe_dc (own := [("term", 9)]) rfl sc_solved.nd (pi_keys (pv 1)) (blkOk_by (own := [("term", 9)]) (N := N_solved) (sc := C8.fnScope s_solved) (by decide +kernel)) (fun _ _ _ _ _ => (pg_name (i := 9) sc_solved.nd rfl (Or.inl rfl))) (fun _ _ _ _ _ => (pts_one (pt_cmpR op_ne (pv 9) pe_str (nomark _)))) (fun _ _ _ _ _ => (pv 9)) (fun _ _ _ _ _ => (pe_op op_sub (pe_dget hu (pv 1) (pv 9) (fun _ _ => rfl)) (pv 5))))) pa_nil)))))) pss_nil))))
    (pss_one (ps_ret (pe_tup (pa_cons pe_str (pa_cons (C8.pe_c K_ring_behind hr (by decide) (by rfl) (pa_cons (pv 0) (pa_cons (pv 2) (pa_cons (pv 4) pa_nil)))) pa_nil))))))))), ?_⟩
    refine ⟨_, rfl, p, ts, lits, rfl, hp, hL, hl, fun H1 S1 => ?_⟩
    have hp1 := Same.seqT S1 hp
    have hL1 := hL.mono S1
    -- heights
    refine ⟨_, rfl, p, rfl, ⟨_, hp1⟩, fun hd nhd => itt_run (xs := ts.map V.ref) (fun i H' => Same H1 H' ∧ ∃ ks : List Str, H' hd = some (.dK (hk ks fun _ => 0)) ∧ ks.length ≤ 2 * i ∧ ks.Nodup ∧ ∀ x, x ∈ ks ↔ ∃ j q, j < i ∧ lits[j]? = some q ∧ (x = q.1 ∨ x = q.2.1)) ?_ ?_ ?_ ?_⟩
    · exact ⟨Same.new nhd, [], upd_same, Nat.zero_le _, List.nodup_nil, fun x => ⟨fun h => (by cases h), fun ⟨j, q, h, _⟩ => absurd h (Nat.not_lt_zero j)⟩⟩
    · rintro j H' _ ⟨B, _⟩
      exact Same.seqT B hp1
    · rintro i x H2 hx ⟨S2, ks, hk2, hl2, nd2, hm2⟩
      rw [List.getElem?_map] at hx
      obtain ⟨t, ht, rfl⟩ := Option.map_eq_some_iff.mp hx
      have hil : i < lits.length := by
        rw [← hL.1]
        exact (List.getElem?_eq_some_iff.mp ht).1
      have hlq := List.getElem?_eq_getElem hil
      obtain ⟨t', ht', hs⟩ := hL1.2 i _ hlq
      have et : t' = t := Option.some.inj (ht'.symm.trans ht)
      subst et
      have hs2 := Same.seqT S2 hs
      generalize hq : lits[i] = q0 at *
      obtain ⟨lf, rg, n⟩ := q0
      refine ⟨t', _, rfl, hs2, rfl, _, _, rfl, _, _, rfl, _, _, rfl, rfl, rfl, ?_⟩
      refine ⟨_, rfl, _, rfl, (by show 2 ≤ sizeLine; decide), fun q nq => ?_⟩
      have n1 : H1 q = none := same_none S2 nq
      have hq2 : q ≠ hd := fun e => by rw [e, hk2] at nq; cases nq
      refine ⟨q, rfl, ⟨_, SqT.of upd_same⟩, itt_run (xs := [.str lf, .str rg]) (fun j H' => Same H1 H' ∧ H' q = some (.tup [.str lf, .str rg]) ∧ ∃ ks : List Str, H' hd = some (.dK (hk ks fun _ => 0)) ∧ ks.length ≤ 2 * i + j ∧ ks.Nodup ∧ ∀ x, x ∈ ks ↔ (∃ j q, j < i ∧ lits[j]? = some q ∧ (x = q.1 ∨ x = q.2.1)) ∨ (0 < j ∧ x = lf) ∨ (1 < j ∧ x = rg)) ?_ ?_ ?_ ?_⟩
      · exact ⟨Same.mut S2 n1, upd_same, ks, by rw [upd_ne hq2.symm]; exact hk2, hl2, nd2, fun x => (hm2 x).trans ⟨.inl, fun h => h.elim id fun h => h.elim (fun h => absurd h.1 (by omega)) fun h => absurd h.1 (by omega)⟩⟩
      · rintro j H' _ ⟨_, h, _⟩
        exact SqT.of h
      · rintro j x H3 hx ⟨S3, h3, ks3, hk3, hl3, nd3, hm3⟩
        have hj3 : j < 2 := (List.getElem?_eq_some_iff.mp hx).1
        have hx2 : ∃ y : Str, x = .str y ∧ ∀ z, (0 < j ∧ z = lf) ∨ (1 < j ∧ z = rg) ∨ z = y ↔ (0 < j + 1 ∧ z = lf) ∨ (1 < j + 1 ∧ z = rg) := by
          match j, hx with
          | 0, hx => exact ⟨lf, (Option.some.inj hx).symm, fun z => by simp⟩
          | 1, hx => exact ⟨rg, (Option.some.inj hx).symm, fun z => by simp⟩
          | j + 2, hx => cases hx
        obtain ⟨y, rfl, hy⟩ := hx2
        obtain ⟨ks4, e4, m4, n4, l4⟩ := hk_more (g := fun _ => 0) (t := y) ks3
        refine ⟨rfl, _, rfl, _, Sum.inr y, rfl, hk3, szs (by rw [hk_len]; omega), ?_⟩
        rw [e4]
        refine ⟨Same.mut S3 nhd, by rw [upd_ne hq2]; exact h3, ks4, upd_same, by omega, n4 nd3, fun z => ?_⟩
        rw [m4, hm3, ← hy]
        constructor
        · rintro ((h | h | h) | h)
          · exact .inl h
          · exact .inr (.inl h)
          · exact .inr (.inr (.inl h))
          · exact .inr (.inr (.inr h))
        · rintro (h | h | h | h)
          · exact .inl (.inl h)
          · exact .inl (.inr (.inl h))
          · exact .inl (.inr (.inr h))
          · exact .inr h
      · rintro H3 ⟨S3, h3, ks3, hk3, hl3, nd3, hm3⟩
        refine ⟨S3, ks3, hk3, by simp at hl3; omega, nd3, fun x => ?_⟩
        rw [hm3]
        constructor
        · rintro (⟨j, q0, hj, hq0, h⟩ | ⟨_, h⟩ | ⟨_, h⟩)
          · exact ⟨j, q0, by omega, hq0, h⟩
          · exact ⟨i, _, Nat.lt_succ_self i, hlq, .inl h⟩
          · exact ⟨i, _, Nat.lt_succ_self i, hlq, .inr h⟩
        · rintro ⟨j, q0, hj, hq0, h⟩
          by_cases e : j = i
          · subst e
            rw [hlq] at hq0
            cases hq0
            rcases h with h | h
            · exact .inr (.inl ⟨by simp, h⟩)
            · exact .inr (.inr ⟨by simp, h⟩)
          · exact .inl ⟨j, q0, by omega, hq0, h⟩
    · rintro H2 ⟨S2, ks, hk2, hl2, nd2, hm2⟩
      have el : (ts.map V.ref).length = lits.length := by rw [List.length_map, hL.1]
      rw [el] at hl2 hm2
      have mem2 : ∀ x, x ∈ ks ↔ ∃ q ∈ lits, x = q.1 ∨ x = q.2.1 := fun x => (hm2 x).trans ⟨fun ⟨j, q, _, e, h⟩ => ⟨q, List.mem_of_getElem? e, h⟩, fun ⟨q, hq, h⟩ => by
        obtain ⟨j, hj, e⟩ := List.mem_iff_getElem.mp hq
        exact ⟨j, q, hj, by rw [List.getElem?_eq_getElem hj, e], h⟩⟩
      have ends : ∀ q ∈ lits, q.1 ∈ ks ∧ q.2.1 ∈ ks := fun q hq => ⟨(mem2 _).mpr ⟨q, hq, .inl rfl⟩, (mem2 _).mpr ⟨q, hq, .inr rfl⟩⟩
      refine fun bd nbd => ?_
      have ne : hd ≠ bd := fun e => by rw [← e, hk2] at nbd; cases nbd
      have S3 : Same H1 (upd H2 bd (.dK [])) := Same.mut S2 (same_none S2 nbd)
      have hh3 : (upd H2 bd (.dK [])) hd = some (.dK (hk ks fun _ => 0)) := by rw [upd_ne ne]; exact hk2
      have hb3 : (upd H2 bd (.dK [])) bd = some (.dK []) := upd_same
      have n1bd : H1 bd = none := same_none S2 nbd
      generalize upd H2 bd (.dK []) = H3 at *
      have A0 : AtT K H3 p hd bd ts lits ks [] (Bf.passes lits 0) := ⟨Same.seqT S3 hp1, hL1.mono S3, hl, hh3, hb3, ne, ends, ⟨List.nodup_nil, fun t => ⟨fun h => (by cases h), fun h => absurd rfl h⟩⟩, by omega, Bf.passes_good lits 0⟩
      refine ⟨_, rfl, hd, _, rfl, hh3, _, _, rfl, rfl, _, rfl, by omega, by rw [hk_len]; omega, for_range (lo := 0) (n := ((((hk ks fun _ => 0).length : Nat) : Int) + 1).toNat) (fun i σ H' => ∃ (v3 v4 v5 : Option V) (bs : List Str), σ = [some (.ref p), some (.ref hd), some (.ref bd), v3, v4, v5, none, none, none, none] ∧ Same H1 H' ∧ AtT K H' p hd bd ts lits ks bs (Bf.passes lits i) ∧ (0 < i → ∃ t, v4 = some (.str t) ∧ (Bf.passes lits i).low = some t)) ?_ ?_ ?_⟩
      · exact ⟨none, none, none, [], rfl, S3, A0, fun h => absurd h (Nat.not_lt_zero 0)⟩
      · rintro i σ H4 hi ⟨v3, v4, v5, bs, rfl, S4, A4, _⟩
        refine ⟨_, rfl, _, rfl, _, rfl, p, hd, bd, ts, lits, ks, bs, _, rfl, A4, fun bs5 H5 B5 A5 => ?_⟩
        have S5 : Same H1 H5 := but2_same S4 B5 nhd n1bd
        have ep : Bf.pass lits (Bf.passes lits i) = Bf.passes lits (i + 1) := rfl
        have hlow := Bf.some_none (L := lits) (s := { Bf.passes lits i with low := none }) rfl lits.length
        rw [ep] at A5
        rw [ep]
        rw [show Bf.some_ lits { Bf.passes lits i with low := none } lits.length = Bf.passes lits (i + 1) from rfl] at hlow
        generalize Bf.passes lits (i + 1) = s6 at *
        refine ⟨_, rfl, rfl, _, rfl, ?_⟩
        cases hlw : s6.low with
        | some t => exact iteF ⟨_, some (.str t), v5, bs5, rfl, S5, A5, fun _ => ⟨t, rfl, rfl⟩⟩
        | none =>
          obtain ⟨e6, hle⟩ := hlow hlw
          refine iteT ?_
          have hz : ∃ o, DGet H5 hd (.str "") o ∧ o.getD (.int 0) = .int (s6.h "") := by
            by_cases m : ("" : Str) ∈ ks
            · exact ⟨_, dget_hk A5.hh m, rfl⟩
            · refine ⟨_, DGet.k (k := Sum.inr "") A5.hh, ?_⟩
              rw [show valV (hk ks s6.h) (Sum.inr "") = none from fk_no (v := fun t => V.int (s6.h t)) m, A5.good.root "" ?_]
              · rfl
              · cases hb : s6.by_ "" with
                | none => rfl
                | some i =>
                  obtain ⟨r, n, h1, _⟩ := A5.good.own "" i hb
                  exact absurd (ends _ (List.mem_of_getElem? h1)).1 m
          obtain ⟨o, ho, eo⟩ := hz
          refine ⟨_, rfl, hd, rfl, .inl ⟨_, .inl A5.hh⟩, o, ho, ?_⟩
          rw [eo]
          refine ⟨hd, _, A5.hh, trivial, fun od => ⟨_, rfl, hd, od, rfl, .inl ⟨_, upd_same, fun D nD => ?_⟩⟩⟩
          have neD : D ≠ hd := fun e => by rw [e, upd_same] at nD; cases nD
          have n5D : H5 D = none := by rw [upd_ne neD] at nD; exact nD
          generalize hH6 : upd H5 hd (.frz od (.dK (hk ks s6.h))) = H6 at *
          have f6 : H6 hd = some (.frz od (.dK (hk ks s6.h))) := by rw [← hH6, upd_same]
          refine itk_run (fun j H' => Same H6 H' ∧ ∃ ks', H' D = some (.dK (hk ks' fun t => s6.h t - s6.h "")) ∧ ks'.length ≤ j ∧ ks'.Nodup ∧ ∀ x, x ∈ ks' ↔ x ≠ "" ∧ ∃ i, i < j ∧ ks[i]? = some x) ?_ ?_ ?_ ?_
          · exact ⟨Same.new nD, [], upd_same, Nat.zero_le _, List.nodup_nil, fun x => ⟨fun h => (by cases h), fun ⟨_, i, h, _⟩ => absurd h (Nat.not_lt_zero i)⟩⟩
          · rintro j H' ⟨S, _⟩
            exact S _ _ f6
          · rintro j k v H7 hj ⟨S7, ks7, h7, l7, n7, m7⟩
            unfold hk at hj
            rw [List.getElem?_map] at hj
            obtain ⟨x, hx, ex⟩ := Option.map_eq_some_iff.mp hj
            have ek : k = Sum.inr x := (congrArg Prod.fst ex).symm
            subst ek
            have hjl : j < ks.length := (List.getElem?_eq_some_iff.mp hx).1
            refine ⟨rfl, _, rfl, rfl, _, rfl, ?_⟩
            by_cases e : x = ""
            · have e2 : (!decide (kV (Sum.inr x) = V.str "")) = false := by rw [e]; rfl
              rw [e2]
              refine iteF ⟨S7, ks7, h7, by omega, n7, fun y => (m7 y).trans ⟨fun ⟨hne, i, hi, hy⟩ => ⟨hne, i, by omega, hy⟩, fun ⟨hne, i, hi, hy⟩ => ⟨hne, i, ?_, hy⟩⟩⟩
              by_cases e3 : i = j
              · subst e3
                rw [hx] at hy
                cases hy
                exact absurd e hne
              · omega
            · have e2 : (!decide (kV (Sum.inr x) = V.str "")) = true := by
                rw [decide_eq_false fun h => e (by injection h)]
                rfl
              rw [e2]
              obtain ⟨ks8, e8, m8, n8, l8⟩ := hk_more (g := fun t => s6.h t - s6.h "") (t := x) ks7
              refine iteT ⟨_, rfl, _, rfl, _, rfl, hd, _, rfl, .inl ⟨_, Sum.inr x, .inr ⟨od, S7 _ _ f6⟩, rfl, (hk_get (List.mem_of_getElem? hx)).symm⟩, _, rfl, _, _, rfl, rfl, _, Sum.inr x, rfl, h7, szs (by rw [hk_len]; have := A5.k1000; omega), ?_⟩
              rw [e8]
              refine ⟨Same.mut S7 nD, ks8, upd_same, by omega, n8 n7, fun y => ?_⟩
              rw [m8, m7]
              constructor
              · rintro (⟨hne, i, hi, hy⟩ | h)
                · exact ⟨hne, i, by omega, hy⟩
                · exact ⟨h ▸ e, j, Nat.lt_succ_self j, h ▸ hx⟩
              · rintro ⟨hne, i, hi, hy⟩
                by_cases e3 : i = j
                · subst e3
                  rw [hx] at hy
                  exact .inr (Option.some.inj hy).symm
                · exact .inl ⟨hne, i, by omega, hy⟩
          · rintro H7 ⟨S7, ks7, h7, l7, n7, m7⟩
            refine ⟨S7 _ _ f6, (by show 2 ≤ sizeLine; decide), fun R nR => ?_⟩
            have Sb : Same H5 (upd H7 hd (.dK (hk ks s6.h))) := fun c o hc => by
              by_cases e : c = hd
              · rw [e, upd_same, ← A5.hh, ← e, hc]
              · rw [upd_ne e]
                refine S7 _ _ ?_
                rw [← hH6, upd_ne e]
                exact hc
            have hD : (upd H7 hd (.dK (hk ks s6.h))) D = some (.dK (hk ks7 fun t => s6.h t - s6.h "")) := by rw [upd_ne neD]; exact h7
            rw [hk_len] at m7 l7
            have hm : ∀ x, x ∈ ks7 ↔ x ≠ "" ∧ ∃ q ∈ lits, x = q.1 ∨ x = q.2.1 := fun x => by
              rw [m7, ← mem2]
              constructor
              · rintro ⟨hne, i, _, h⟩
                exact ⟨hne, List.mem_of_getElem? h⟩
              · rintro ⟨hne, h⟩
                obtain ⟨i, hi, e⟩ := List.mem_iff_getElem.mp h
                exact ⟨hne, i, hi, by rw [List.getElem?_eq_getElem hi, e]⟩
            have hv : ∀ t, val (fun t => s6.h t - s6.h "") t = s6.h t - s6.h "" := fun t => by
              unfold val
              split
              · rename_i e
                rw [e]
                omega
              · rfl
            have SR := Same.new (o := .tup [.str "values", .ref D]) nR
            refine kv R D ks7 (fun t => s6.h t - s6.h "") _ (S1.trans (S5.trans (Sb.trans SR))) (SqT.of upd_same) (same_none S1 (same_none S5 n5D)) (SR _ _ hD) n7 (by have := A5.k1000; omega) hm fun q hq => ?_
            rw [hv, hv]
            obtain ⟨j, hj, e⟩ := List.mem_iff_getElem.mp hq
            have := hle j q hj (by rw [List.getElem?_eq_getElem hj, e])
            rw [e6]
            show (Bf.passes lits i).h _ - _ ≤ (Bf.passes lits i).h _ - _ + _
            have h2 : (Bf.passes lits i).h q.1 ≤ (Bf.passes lits i).h q.2.1 + q.2.2 := this
            omega
      · rintro σ H4 ⟨v3, v4, v5, bs, rfl, S4, A4, h4⟩
        have en : ((((hk ks fun _ => 0).length : Nat) : Int) + 1).toNat = ks.length + 1 := by rw [hk_len]; omega
        rw [en] at A4 h4
        obtain ⟨t, rfl, ht⟩ := h4 (Nat.succ_pos _)
        refine ⟨_, rfl, _, rfl, _, rfl, p, bd, ts, lits, bs, _, t, rfl, A4.hp, A4.hL, A4.hb, A4.ok, A4.b1000, A4.good, Bf.no_root ends ht, fun c is f H5 S5 hc R hlen => ?_⟩
        refine ⟨(by show 2 ≤ sizeLine; decide), fun q nq => ?_⟩
        have SR := Same.new (o := .tup [.str "ring", .ref c]) nq
        exact kr q c is f _ (S1.trans (S4.trans (S5.trans SR))) (SqT.of upd_same) (Same.seqT SR hc) R (by have := A4.b1000; omega)
end
end Q1

namespace K9
open PySem L2 Bx
def top (i : Nat) : Stmt := PySem.Challenge.pw_behindexits_k09_whole_bounds_are_tight.main.body.getD i (.Pass ⟨0, 0, 0, 0⟩)
abbrev s_whole : Stmt := top 2
abbrev N_whole : List Str := ["many", "i", "j"]
theorem sc_whole : FnScope N_whole ["many"] (C8.fnScope s_whole) := ⟨rfl, rfl, rfl, by decide +kernel, rfl, by decide +kernel, by decide +kernel⟩
abbrev s_met : Stmt := top 5
abbrev N_met : List Str := ["zone", "literal", "i", "j", "number", "there", "back", "tail", "k", "step", "row"]
theorem sc_met : FnScope N_met ["zone", "literal"] (C8.fnScope s_met) := ⟨rfl, rfl, rfl, by decide +kernel, rfl, by decide +kernel, by decide +kernel⟩
abbrev s_shortened : Stmt := top 6
abbrev N_shortened : List Str := ["row", "start", "tail", "found", "k", "step", "old"]
theorem sc_shortened : FnScope N_shortened ["row", "start", "tail"] (C8.fnScope s_shortened) := ⟨rfl, rfl, rfl, by decide +kernel, rfl, by decide +kernel, by decide +kernel⟩
abbrev s_met_all : Stmt := top 7
abbrev N_met_all : List Str := ["zone", "literals", "literal"]
theorem sc_met_all : FnScope N_met_all ["zone", "literals"] (C8.fnScope s_met_all) := ⟨rfl, rfl, rfl, by decide +kernel, rfl, by decide +kernel, by decide +kernel⟩
abbrev s_is_inside : Stmt := top 8
abbrev N_is_inside : List Str := ["zone", "other", "row", "wide", "least", "most"]
theorem sc_is_inside : FnScope N_is_inside ["zone", "other"] (C8.fnScope s_is_inside) := ⟨rfl, rfl, rfl, by decide +kernel, rfl, by decide +kernel, by decide +kernel⟩
abbrev s_literals_of : Stmt := top 9
abbrev N_literals_of : List Str := ["zone"]
theorem sc_literals_of : FnScope N_literals_of ["zone"] (C8.fnScope s_literals_of) := ⟨rfl, rfl, rfl, by decide +kernel, rfl, by decide +kernel, by decide +kernel⟩
abbrev s_literals_among : Stmt := top 10
abbrev N_literals_among : List Str := ["zone", "indexes", "heads", "found", "firsts", "head", "group", "i", "others", "j"]
theorem sc_literals_among : FnScope N_literals_among ["zone", "indexes"] (C8.fnScope s_literals_among) := ⟨rfl, rfl, rfl, by decide +kernel, rfl, by decide +kernel, by decide +kernel⟩
abbrev s_head_of : Stmt := top 11
abbrev N_head_of : List Str := ["zone", "indexes", "i", "row", "j"]
theorem sc_head_of : FnScope N_head_of ["zone", "indexes", "i"] (C8.fnScope s_head_of) := ⟨rfl, rfl, rfl, by decide +kernel, rfl, by decide +kernel, by decide +kernel⟩
abbrev s_is_needed : Stmt := top 12
abbrev N_is_needed : List Str := ["zone", "firsts", "i", "j", "row", "number", "k", "step"]
theorem sc_is_needed : FnScope N_is_needed ["zone", "firsts", "i", "j"] (C8.fnScope s_is_needed) := ⟨rfl, rfl, rfl, by decide +kernel, rfl, by decide +kernel, by decide +kernel⟩
abbrev s_point_of : Stmt := top 15
abbrev N_point_of : List Str := ["zone", "found", "i", "least", "most", "j", "number"]
theorem sc_point_of : FnScope N_point_of ["zone"] (C8.fnScope s_point_of) := ⟨rfl, rfl, rfl, by decide +kernel, rfl, by decide +kernel, by decide +kernel⟩
abbrev s_has_point : Stmt := top 16
abbrev N_has_point : List Str := ["zone", "numbers", "row", "left", "most", "right"]
theorem sc_has_point : FnScope N_has_point ["zone", "numbers"] (C8.fnScope s_has_point) := ⟨rfl, rfl, rfl, by decide +kernel, rfl, by decide +kernel, by decide +kernel⟩
abbrev s_opened : Stmt := top 30
abbrev N_opened : List Str := ["part", "zone", "clauses", "left", "literals"]
theorem sc_opened : FnScope N_opened ["part"] (C8.fnScope s_opened) := ⟨rfl, rfl, rfl, by decide +kernel, rfl, by decide +kernel, by decide +kernel⟩
abbrev s_free_zone : Stmt := top 34
abbrev N_free_zone : List Str := ["part", "waiting", "left"]
theorem sc_free_zone : FnScope N_free_zone ["part"] (C8.fnScope s_free_zone) := ⟨rfl, rfl, rfl, by decide +kernel, rfl, by decide +kernel, by decide +kernel⟩
abbrev s_free_zones : Stmt := top 35
abbrev N_free_zones : List Str := ["part", "looks", "found", "waiting", "looked", "left"]
theorem sc_free_zones : FnScope N_free_zones ["part", "looks"] (C8.fnScope s_free_zones) := ⟨rfl, rfl, rfl, by decide +kernel, rfl, by decide +kernel, by decide +kernel⟩
abbrev s_is_part_inside : Stmt := top 39
abbrev N_is_part_inside : List Str := ["part", "other", "zone", "clauses", "wide", "more", "clause", "left"]
theorem sc_is_part_inside : FnScope N_is_part_inside ["part", "other"] (C8.fnScope s_is_part_inside) := ⟨rfl, rfl, rfl, by decide +kernel, rfl, by decide +kernel, by decide +kernel⟩
abbrev s_has_state : Stmt := top 40
abbrev N_has_state : List Str := ["part", "numbers", "zone", "clauses"]
theorem sc_has_state : FnScope N_has_state ["part", "numbers"] (C8.fnScope s_has_state) := ⟨rfl, rfl, rfl, by decide +kernel, rfl, by decide +kernel, by decide +kernel⟩
abbrev s_fits : Stmt := top 41
abbrev N_fits : List Str := ["group", "numbers", "is_case", "literals", "others", "i", "j", "number", "other"]
theorem sc_fits : FnScope N_fits ["group", "numbers", "is_case"] (C8.fnScope s_fits) := ⟨rfl, rfl, rfl, by decide +kernel, rfl, by decide +kernel, by decide +kernel⟩
abbrev s_Cover_init : Stmt := inClass (top 76) 0
abbrev N_Cover_init : List Str := ["self", "parts"]
theorem sc_Cover_init : FnScope N_Cover_init ["self", "parts"] (C8.fnScope s_Cover_init) := ⟨rfl, rfl, rfl, by decide +kernel, rfl, by decide +kernel, by decide +kernel⟩
abbrev s_of_rows : Stmt := top 77
abbrev N_of_rows : List Str := ["rows", "many", "zones", "row", "zone"]
theorem sc_of_rows : FnScope N_of_rows ["rows", "many"] (C8.fnScope s_of_rows) := ⟨rfl, rfl, rfl, by decide +kernel, rfl, by decide +kernel, by decide +kernel⟩
abbrev s_trimmed : Stmt := top 78
abbrev N_trimmed : List Str := ["parts", "kept", "part", "other"]
theorem sc_trimmed : FnScope N_trimmed ["parts"] (C8.fnScope s_trimmed) := ⟨rfl, rfl, rfl, by decide +kernel, rfl, by decide +kernel, by decide +kernel⟩
abbrev s_is_inside_one : Stmt := top 79
abbrev N_is_inside_one : List Str := ["part", "others", "other"]
theorem sc_is_inside_one : FnScope N_is_inside_one ["part", "others"] (C8.fnScope s_is_inside_one) := ⟨rfl, rfl, rfl, by decide +kernel, rfl, by decide +kernel, by decide +kernel⟩
abbrev s_most_apart : Stmt := top 86
abbrev N_most_apart : List Str := ["parts", "i", "j", "most", "waiting", "left", "apart"]
theorem sc_most_apart : FnScope N_most_apart ["parts", "i", "j"] (C8.fnScope s_most_apart) := ⟨rfl, rfl, rfl, by decide +kernel, rfl, by decide +kernel, by decide +kernel⟩
abbrev s_rows_of : Stmt := top 90
abbrev N_rows_of : List Str := ["parts", "part", "zone"]
theorem sc_rows_of : FnScope N_rows_of ["parts"] (C8.fnScope s_rows_of) := ⟨rfl, rfl, rfl, by decide +kernel, rfl, by decide +kernel, by decide +kernel⟩
abbrev s_is_number : Stmt := top 101
abbrev N_is_number : List Str := ["thing"]
theorem sc_is_number : FnScope N_is_number ["thing"] (C8.fnScope s_is_number) := ⟨rfl, rfl, rfl, by decide +kernel, rfl, by decide +kernel, by decide +kernel⟩
abbrev s_is_word : Stmt := top 102
abbrev N_is_word : List Str := ["thing"]
theorem sc_is_word : FnScope N_is_word ["thing"] (C8.fnScope s_is_word) := ⟨rfl, rfl, rfl, by decide +kernel, rfl, by decide +kernel, by decide +kernel⟩
abbrev s_is_label : Stmt := top 103
abbrev N_is_label : List Str := ["thing"]
theorem sc_is_label : FnScope N_is_label ["thing"] (C8.fnScope s_is_label) := ⟨rfl, rfl, rfl, by decide +kernel, rfl, by decide +kernel, by decide +kernel⟩
abbrev s_are_different : Stmt := top 104
abbrev N_are_different : List Str := ["things"]
theorem sc_are_different : FnScope N_are_different ["things"] (C8.fnScope s_are_different) := ⟨rfl, rfl, rfl, by decide +kernel, rfl, by decide +kernel, by decide +kernel⟩
abbrev s_are_labels : Stmt := top 105
abbrev N_are_labels : List Str := ["thing", "part"]
theorem sc_are_labels : FnScope N_are_labels ["thing"] (C8.fnScope s_are_labels) := ⟨rfl, rfl, rfl, by decide +kernel, rfl, by decide +kernel, by decide +kernel⟩
abbrev s_is_literal : Stmt := top 106
abbrev N_is_literal : List Str := ["thing", "left", "right", "number"]
theorem sc_is_literal : FnScope N_is_literal ["thing"] (C8.fnScope s_is_literal) := ⟨rfl, rfl, rfl, by decide +kernel, rfl, by decide +kernel, by decide +kernel⟩
abbrev s_are_numbers : Stmt := top 107
abbrev N_are_numbers : List Str := ["thing", "names", "name"]
theorem sc_are_numbers : FnScope N_are_numbers ["thing", "names"] (C8.fnScope s_are_numbers) := ⟨rfl, rfl, rfl, by decide +kernel, rfl, by decide +kernel, by decide +kernel⟩
abbrev s_check_term : Stmt := top 110
abbrev N_check_term : List Str := ["term", "names"]
theorem sc_check_term : FnScope N_check_term ["term", "names"] (C8.fnScope s_check_term) := ⟨rfl, rfl, rfl, by decide +kernel, rfl, by decide +kernel, by decide +kernel⟩
abbrev s_are_rows : Stmt := top 113
abbrev N_are_rows : List Str := ["rows", "names", "row", "literal"]
theorem sc_are_rows : FnScope N_are_rows ["rows", "names"] (C8.fnScope s_are_rows) := ⟨rfl, rfl, rfl, by decide +kernel, rfl, by decide +kernel, by decide +kernel⟩
abbrev s_is_over : Stmt := top 114
abbrev N_is_over : List Str := ["literal", "names", "term"]
theorem sc_is_over : FnScope N_is_over ["literal", "names"] (C8.fnScope s_is_over) := ⟨rfl, rfl, rfl, by decide +kernel, rfl, by decide +kernel, by decide +kernel⟩
abbrev s_States_init : Stmt := inClass (top 116) 0
abbrev N_States_init : List Str := ["self", "names", "rows"]
theorem sc_States_init : FnScope N_States_init ["self", "names", "rows"] (C8.fnScope s_States_init) := ⟨rfl, rfl, rfl, by decide +kernel, rfl, by decide +kernel, by decide +kernel⟩
abbrev s_States__covered : Stmt := inClass (top 116) 1
abbrev N_States__covered : List Str := ["self", "rows", "found", "row", "left", "right", "number"]
theorem sc_States__covered : FnScope N_States__covered ["self", "rows"] (C8.fnScope s_States__covered) := ⟨rfl, rfl, rfl, by decide +kernel, rfl, by decide +kernel, by decide +kernel⟩
abbrev s_States__index : Stmt := inClass (top 116) 2
abbrev N_States__index : List Str := ["self", "term"]
theorem sc_States__index : FnScope N_States__index ["self", "term"] (C8.fnScope s_States__index) := ⟨rfl, rfl, rfl, by decide +kernel, rfl, by decide +kernel, by decide +kernel⟩
abbrev s_States_rows : Stmt := inClass (top 116) 3
abbrev N_States_rows : List Str := ["self", "terms", "found", "row", "i", "j", "number"]
theorem sc_States_rows : FnScope N_States_rows ["self"] (C8.fnScope s_States_rows) := ⟨rfl, rfl, rfl, by decide +kernel, rfl, by decide +kernel, by decide +kernel⟩
abbrev s_States_contains : Stmt := inClass (top 116) 4
abbrev N_States_contains : List Str := ["self", "state", "numbers", "name", "part"]
theorem sc_States_contains : FnScope N_States_contains ["self", "state"] (C8.fnScope s_States_contains) := ⟨rfl, rfl, rfl, by decide +kernel, rfl, by decide +kernel, by decide +kernel⟩
abbrev s_States_is_empty : Stmt := inClass (top 116) 10
abbrev N_States_is_empty : List Str := ["self"]
theorem sc_States_is_empty : FnScope N_States_is_empty ["self"] (C8.fnScope s_States_is_empty) := ⟨rfl, rfl, rfl, by decide +kernel, rfl, by decide +kernel, by decide +kernel⟩
abbrev s_States_some : Stmt := inClass (top 116) 11
abbrev N_States_some : List Str := ["self", "numbers", "at", "name"]
theorem sc_States_some : FnScope N_States_some ["self"] (C8.fnScope s_States_some) := ⟨rfl, rfl, rfl, by decide +kernel, rfl, by decide +kernel, by decide +kernel⟩
abbrev s_States_bound : Stmt := inClass (top 116) 13
abbrev N_States_bound : List Str := ["self", "left", "right"]
theorem sc_States_bound : FnScope N_States_bound ["self", "left", "right"] (C8.fnScope s_States_bound) := ⟨rfl, rfl, rfl, by decide +kernel, rfl, by decide +kernel, by decide +kernel⟩
abbrev s_l_well : Stmt := top 124
abbrev N_l_well : List Str := ["_law_cell"]
theorem sc_l_well : FnScope N_l_well ["_law_cell"] (C8.fnScope s_l_well) := ⟨rfl, rfl, rfl, by decide +kernel, rfl, by decide +kernel, by decide +kernel⟩
abbrev s_l_draw : Stmt := top 125
abbrev N_l_draw : List Str := ["_law_well_here", "_law_base", "_law_digit", "_law_number"]
theorem sc_l_draw : FnScope N_l_draw ["_law_well_here", "_law_base"] (C8.fnScope s_l_draw) := ⟨rfl, rfl, rfl, by decide +kernel, rfl, by decide +kernel, by decide +kernel⟩
abbrev s_l_one : Stmt := top 126
abbrev N_l_one : List Str := ["_law_well_here", "_law_some"]
theorem sc_l_one : FnScope N_l_one ["_law_well_here", "_law_some"] (C8.fnScope s_l_one) := ⟨rfl, rfl, rfl, by decide +kernel, rfl, by decide +kernel, by decide +kernel⟩
abbrev s_l_names : Stmt := top 127
abbrev N_l_names : List Str := ["_law_well_here", "_law_many", "_law_some", "_law_names_here", "_law_k"]
theorem sc_l_names : FnScope N_l_names ["_law_well_here", "_law_many"] (C8.fnScope s_l_names) := ⟨rfl, rfl, rfl, by decide +kernel, rfl, by decide +kernel, by decide +kernel⟩
abbrev s_l_rows : Stmt := top 128
abbrev N_l_rows : List Str := ["_law_well_here", "_law_names_here", "_law_many", "_law_most", "_law_rows_here", "_law_k", "_law_row", "_law_j", "_law_left", "_law_right"]
theorem sc_l_rows : FnScope N_l_rows ["_law_well_here", "_law_names_here", "_law_many", "_law_most"] (C8.fnScope s_l_rows) := ⟨rfl, rfl, rfl, by decide +kernel, rfl, by decide +kernel, by decide +kernel⟩
abbrev s_l_grid : Stmt := top 129
abbrev N_l_grid : List Str := ["_law_names_here", "_law_far", "_law_states", "_law_name", "_law_more", "_law_one_here", "_law_number", "_law_state"]
theorem sc_l_grid : FnScope N_l_grid ["_law_names_here", "_law_far"] (C8.fnScope s_l_grid) := ⟨rfl, rfl, rfl, by decide +kernel, rfl, by decide +kernel, by decide +kernel⟩
abbrev s_l_at : Stmt := top 130
abbrev N_l_at : List Str := ["_law_state", "_law_term"]
theorem sc_l_at : FnScope N_l_at ["_law_state", "_law_term"] (C8.fnScope s_l_at) := ⟨rfl, rfl, rfl, by decide +kernel, rfl, by decide +kernel, by decide +kernel⟩
abbrev s_l_meets : Stmt := top 131
abbrev N_l_meets : List Str := ["_law_state", "_law_row", "_law_left", "_law_right", "_law_number"]
theorem sc_l_meets : FnScope N_l_meets ["_law_state", "_law_row"] (C8.fnScope s_l_meets) := ⟨rfl, rfl, rfl, by decide +kernel, rfl, by decide +kernel, by decide +kernel⟩
abbrev s_l_is_in : Stmt := top 132
abbrev N_l_is_in : List Str := ["_law_state", "_law_rows_here", "_law_row"]
theorem sc_l_is_in : FnScope N_l_is_in ["_law_state", "_law_rows_here"] (C8.fnScope s_l_is_in) := ⟨rfl, rfl, rfl, by decide +kernel, rfl, by decide +kernel, by decide +kernel⟩
abbrev s_l_open : Stmt := top 133
abbrev N_l_open : List Str := ["_law_rows_here", "_law_more", "_law_row"]
theorem sc_l_open : FnScope N_l_open ["_law_rows_here", "_law_more"] (C8.fnScope s_l_open) := ⟨rfl, rfl, rfl, by decide +kernel, rfl, by decide +kernel, by decide +kernel⟩
abbrev s_l_bound : Stmt := top 134
abbrev N_l_bound : List Str := ["_law_one_here", "_law_left", "_law_right"]
theorem sc_l_bound : FnScope N_l_bound ["_law_one_here", "_law_left", "_law_right"] (C8.fnScope s_l_bound) := ⟨rfl, rfl, rfl, by decide +kernel, rfl, by decide +kernel, by decide +kernel⟩
abbrev s_law : Stmt := top 135
abbrev N_law : List Str := ["_law_script", "_law_cell", "_law_well_here", "_law_names_here", "_law_times", "_law_rows_here", "_law_row", "_law_one_here", "_law_left", "_law_right", "_law_told", "_law_lit"]
theorem sc_law : FnScope N_law ["_law_script"] (C8.fnScope s_law) := ⟨rfl, rfl, rfl, by decide +kernel, rfl, by decide +kernel, by decide +kernel⟩
def barred : List Str := ["again", "always", "any", "as", "ask", "below", "catch", "choose", "else", "end", "error", "for", "from", "if", "inputs", "leave", "none", "or", "out", "raise", "read", "return", "set", "try", "value"]
structure Txt (K : PySem.W.Frag) (mg : Str → Option Value) (CC CS aB : Addr) : Prop where
  g_Cover : mg "Cover" = some (.ref CC)
  g_States : mg "States" = some (.ref CS)
  cC : Cls K CC
  cS : Cls K CS
  nC : NoAttr K CC "parts"
  nS : NoAttr K CS "names" ∧ NoAttr K CS "_cover"
  c_LONGEST : ∃ u, mg "LONGEST" = some u ∧ RelV (.int 8) u
  c_MOST_PAIRS : ∃ u, mg "MOST_PAIRS" = some u ∧ RelV (.int 100000) u
  c_BARRED : ∃ u, mg "BARRED" = some u ∧ RelV (.ref aB) u
  z_isinstance : mg "isinstance" = none
  z_len : mg "len" = none
  z_int : mg "int" = none
  z_bool : mg "bool" = none
  z_str : mg "str" = none
  z_tuple : mg "tuple" = none
  z_list : mg "list" = none
  z_dict : mg "dict" = none
  z_set : mg "set" = none
  z_range : mg "range" = none
  z_enumerate : mg "enumerate" = none
  z_zip : mg "zip" = none
  z_sorted : mg "sorted" = none
  z_all : mg "all" = none
  z_any : mg "any" = none
end K9

namespace K9
open PySem L2 Bx
theorem lg {n : Nat} (h : n < 2 ^ 64) : n.log2 < 9000 := Nat.lt_trans (PySem.Flt.log2_lt_of (by decide) h) (by decide)
theorem butT {K : PySem.W.Frag} {l : Addr} {H H' : Hp} {xs ys : List V} {a : Addr} (hl : H l = some (.lst xs)) (e : But l H H') (h : SqT K H a ys) : SqT K H' a ys := by
  rcases h with (h | ⟨o, h⟩) | h
  · exact .inl (.inl (e _ _ h (ne_of h hl (by intro z; cases z))))
  · exact .inl (.inr ⟨o, e _ _ h (ne_of h hl (by intro z; cases z))⟩)
  · exact .inr h

section
variable {K : PySem.W.Frag}
/-- literals at ts -/
def LitsAt (K : PySem.W.Frag) (H : Hp) (ts : List Addr) (lits : List (Str × Str × Int)) : Prop :=
  ts.length = lits.length ∧ ∀ (j : Nat) (q : Str × Str × Int), lits[j]? = some q → ∃ t, ts[j]? = some t ∧ SqT K H t [.str q.1, .str q.2.1, .int q.2.2]
theorem LitsAt.mono {H H' : Hp} {ts : List Addr} {lits : List (Str × Str × Int)} (e : Same H H') (h : LitsAt K H ts lits) : LitsAt K H' ts lits :=
  ⟨h.1, fun j q hj => (h.2 j q hj).imp fun t z => ⟨z.1, Same.seqT e z.2⟩⟩

theorem LitsAt.but {l : Addr} {H H' : Hp} {xs : List V} {ts : List Addr} {lits : List (Str × Str × Int)} (hl : H l = some (.lst xs)) (e : But l H H') (h : LitsAt K H ts lits) : LitsAt K H' ts lits :=
  ⟨h.1, fun j q hj => (h.2 j q hj).imp fun t z => ⟨z.1, butT hl e z.2⟩⟩
/-- a row of literals -/
def RowAt (K : PySem.W.Frag) (H : Hp) (r : Addr) (lits : List (Str × Str × Int)) : Prop := ∃ ts, SqT K H r (ts.map V.ref) ∧ LitsAt K H ts lits
theorem RowAt.mono {H H' : Hp} {r : Addr} {lits : List (Str × Str × Int)} (e : Same H H') (h : RowAt K H r lits) : RowAt K H' r lits := h.imp fun ts z => ⟨Same.seqT e z.1, z.2.mono e⟩
theorem RowAt.but {l : Addr} {H H' : Hp} {xs : List V} {r : Addr} {lits : List (Str × Str × Int)} (hl : H l = some (.lst xs)) (e : But l H H') (h : RowAt K H r lits) : RowAt K H' r lits := h.imp fun ts z => ⟨butT hl e z.1, z.2.but hl e⟩
def RowsIn (K : PySem.W.Frag) (H : Hp) (rs : List Addr) (rows : List (List (Str × Str × Int))) : Prop := rs.length = rows.length ∧ ∀ (j : Nat) q, rows[j]? = some q → ∃ r, rs[j]? = some r ∧ RowAt K H r q
theorem RowsIn.mono {H H' : Hp} {rs : List Addr} {rows : List (List (Str × Str × Int))} (e : Same H H') (h : RowsIn K H rs rows) : RowsIn K H' rs rows := ⟨h.1, fun j q hj => (h.2 j q hj).imp fun r z => ⟨z.1, z.2.mono e⟩⟩
theorem RowsIn.but {l : Addr} {H H' : Hp} {xs : List V} {rs : List Addr} {rows : List (List (Str × Str × Int))} (hl : H l = some (.lst xs)) (e : But l H H') (h : RowsIn K H rs rows) : RowsIn K H' rs rows := ⟨h.1, fun j q hj => (h.2 j q hj).imp fun r z => ⟨z.1, z.2.but hl e⟩⟩
def RowsAt (K : PySem.W.Frag) (H : Hp) (p : Addr) (rows : List (List (Str × Str × Int))) : Prop := ∃ rs, SqT K H p (rs.map V.ref) ∧ RowsIn K H rs rows
theorem RowsAt.mono {H H' : Hp} {p : Addr} {rows : List (List (Str × Str × Int))} (e : Same H H') (h : RowsAt K H p rows) : RowsAt K H' p rows := h.imp fun rs z => ⟨Same.seqT e z.1, z.2.mono e⟩
theorem RowsAt.but {l : Addr} {H H' : Hp} {xs : List V} {p : Addr} {rows : List (List (Str × Str × Int))} (hl : H l = some (.lst xs)) (e : But l H H') (h : RowsAt K H p rows) : RowsAt K H' p rows := h.imp fun rs z => ⟨butT hl e z.1, z.2.but hl e⟩
theorem LitsAt.snoc {H : Hp} {ts : List Addr} {lits : List (Str × Str × Int)} {t : Addr} {q : Str × Str × Int} (h : LitsAt K H ts lits) (ht : SqT K H t [.str q.1, .str q.2.1, .int q.2.2]) : LitsAt K H (ts ++ [t]) (lits ++ [q]) := by
  refine ⟨by simp [h.1], fun j q' hj => ?_⟩
  by_cases e : j < lits.length
  · rw [List.getElem?_append_left e] at hj
    obtain ⟨t', h1, h2⟩ := h.2 j q' hj
    exact ⟨t', by rw [List.getElem?_append_left (by rw [h.1]; exact e)]; exact h1, h2⟩
  · have ej : j = lits.length := by
      have := (List.getElem?_eq_some_iff.mp hj).1
      simp at this
      omega
    subst ej
    rw [List.getElem?_append_right (Nat.le_refl _)] at hj
    have eq : q' = q := by simpa using hj.symm
    subst eq
    exact ⟨t, by rw [← h.1, List.getElem?_append_right (Nat.le_refl _)]; simp, ht⟩
theorem RowsIn.snoc {H : Hp} {rs : List Addr} {rows : List (List (Str × Str × Int))} {t : Addr} {q : List (Str × Str × Int)} (h : RowsIn K H rs rows) (ht : RowAt K H t q) : RowsIn K H (rs ++ [t]) (rows ++ [q]) := by
  refine ⟨by simp [h.1], fun j q' hj => ?_⟩
  by_cases e : j < rows.length
  · rw [List.getElem?_append_left e] at hj
    obtain ⟨t', h1, h2⟩ := h.2 j q' hj
    exact ⟨t', by rw [List.getElem?_append_left (by rw [h.1]; exact e)]; exact h1, h2⟩
  · have ej : j = rows.length := by
      have := (List.getElem?_eq_some_iff.mp hj).1
      simp at this
      omega
    subst ej
    rw [List.getElem?_append_right (Nat.le_refl _)] at hj
    have eq : q' = q := by simpa using hj.symm
    subst eq
    exact ⟨t, by rw [← h.1, List.getElem?_append_right (Nat.le_refl _)]; simp, ht⟩
end
def WellAt (H : Hp) (l : Addr) : Prop := ∃ x y z : Int, H l = some (.lst [.int x, .int y, .int z])
section
variable {P : Program} {w : World} {K : PySem.W.Frag} {mg : Str → Option Value} {base : Heap} {CC CS aB : Addr}
def spWell : Sp := fun vs H Q _ => ∃ (c : Int), vs = [.int c] ∧ ∀ p H', H p = none → Same H H' → WellAt H' p → Q (.ref p) H'
theorem ok_l_well {f : Addr} {fd : FuncData} (F : C8.Def K mg "_law_well" s_l_well f fd) (b : Binds K fd ["_law_cell"] []) (T : Txt K mg CC CS aB) : C8.Cal P w K mg base 1 "_law_well" spWell [] := by
  refine C8.cal0 F b .nil sc_l_well (fun vs H Q E h => ?_) (fun cdv A outer s H vs Q E hr h => ?_)
  · obtain ⟨c, rfl, _⟩ := h
    rfl
  · obtain ⟨c, rfl, k⟩ := h
    refine ⟨_, (pss_one (ps_ret (pe_lst (pa_cons (pe_op op_mul (pv 0) (pe_callTy call_int1 (by rfl) T.z_int (by decide +kernel) (pa_cons (pe_cmpR op_ge (pv 0) (pe_op op_pow pe_int pe_int) (nomark _)) pa_nil))) (pa_cons (pe_op op_mod (pe_callTy call_int1 (by rfl) T.z_int (by decide +kernel) (pa_cons (pv 0) pa_nil)) pe_int) (pa_cons pe_int pa_nil)))))), ?_⟩
    refine ⟨_, rfl, _, rfl, _, _, rfl, rfl, ⟨by decide, by decide, by decide⟩, _, _, rfl, rfl, .inr ⟨_, rfl, _, _, rfl, rfl, .inr ⟨by split <;> decide, by split <;> decide⟩, _, rfl, .inl ⟨_, rfl, _, _, rfl, rfl, (by show (0 : Int) < 2147483587; decide), (by show 3 ≤ sizeLine; decide), fun p hp => ?_⟩⟩⟩
    exact k p _ hp (Same.new hp) ⟨_, _, _, upd_same⟩
def spDraw : Sp := fun vs H Q _ => ∃ (l : Addr) (b : Int), vs = [.ref l, .int b] ∧ WellAt H l ∧ 0 < b ∧ b.natAbs.log2 < 9000 ∧ ∀ (r : Int) (H' : Hp), 0 ≤ r → r < b → WellAt H' l → But l H H' → Q (.int r) H'
theorem ok_l_draw {f : Addr} {fd : FuncData} (F : C8.Def K mg "_law_draw" s_l_draw f fd) (b : Binds K fd ["_law_well_here", "_law_base"] []) (T : Txt K mg CC CS aB) : C8.Cal P w K mg base 1 "_law_draw" spDraw [] := by
  refine C8.cal0 F b .nil sc_l_draw (fun vs H Q E h => ?_) (fun cdv A outer s H vs Q E hr h => ?_)
  · obtain ⟨l, b, rfl, _⟩ := h
    rfl
  · obtain ⟨l, b, rfl, ⟨x, y, z, hW⟩, hb, hlg, k⟩ := h
    refine ⟨_, (pss_cons (ps_if (pt_cmpR op_gt (pe_ix ix_list (pv 0) pe_int (fun _ _ => rfl)) pe_int (nomark _)) (pss_cons (ps_set (i := 2) sc_l_draw.nd rfl (Or.inl rfl) (pe_op op_mod (pe_callTy call_int1 (by rfl) T.z_int (by decide +kernel) (pa_cons (pe_ix ix_list (pv 0) pe_int (fun _ _ => rfl)) pa_nil)) (pv 1)))
    (pss_cons (ps_asg (pe_op op_fdivW (pe_ix ix_list (pv 0) pe_int (fun _ _ => rfl)) (pv 1)) (pg_sub (pv 0) pe_int set_list))
    (pss_one (ps_ret (pv 2))))) pss_nil)
    (pss_cons (ps_asg (pe_op op_add (pe_ix ix_list (pv 0) pe_int (fun _ _ => rfl)) pe_int) (pg_sub (pv 0) pe_int set_list))
    (pss_cons (ps_set (i := 3) sc_l_draw.nd rfl (Or.inl rfl) (pe_op op_mod (pe_callTy call_int1 (by rfl) T.z_int (by decide +kernel) (pa_cons (pe_op op_mul (pe_callTy call_int1 (by rfl) T.z_int (by decide +kernel) (pa_cons (pe_op op_add (pe_op op_add (pe_ix ix_list (pv 0) pe_int (fun _ _ => rfl)) (pe_op op_mul pe_int (pe_ix ix_list (pv 0) pe_int (fun _ _ => rfl)))) pe_int) pa_nil)) pe_int) pa_nil)) pe_int))
    (pss_cons (ps_set (i := 3) sc_l_draw.nd rfl (Or.inl rfl) (pe_op op_mod (pe_callTy call_int1 (by rfl) T.z_int (by decide +kernel) (pa_cons (pe_op op_mul (pv 3) (pe_op op_add (pe_op op_fdiv (pv 3) pe_int) pe_int)) pa_nil)) pe_int))
    (pss_one (ps_ret (pe_op op_mod (pe_op op_fdiv (pe_op op_mod (pe_callTy call_int1 (by rfl) T.z_int (by decide +kernel) (pa_cons (pe_op op_mul (pv 3) (pe_op op_add (pe_op op_fdiv (pv 3) pe_int) pe_int)) pa_nil)) pe_int) pe_int) (pv 1)))))))), ?_⟩
    refine ⟨_, rfl, l, _, _, _, rfl, rfl, SqL.of hW, rfl, _, _, rfl, rfl, _, rfl, ?_⟩
    refine ite2 (fun hx => ?_) (fun hx => ?_)
    · refine ⟨_, rfl, l, _, _, _, rfl, rfl, SqL.of hW, rfl, .inl ⟨_, rfl, _, rfl, _, _, rfl, rfl, hb, ?_⟩⟩
      refine ⟨_, rfl, l, _, _, _, rfl, rfl, SqL.of hW, rfl, _, rfl, _, _, rfl, rfl, ⟨hb, hlg⟩, _, rfl, l, _, _, _, rfl, rfl, hW, rfl, ?_⟩
      refine ⟨_, rfl, ?_⟩
      exact k _ _ (Int.emod_nonneg _ (by omega)) (Int.emod_lt_of_pos _ hb) ⟨_, _, _, upd_same⟩ But.upd
    · refine ⟨_, rfl, l, _, _, _, rfl, rfl, SqL.of hW, rfl, _, _, rfl, rfl, _, rfl, l, _, _, _, rfl, rfl, hW, rfl, ?_⟩
      refine ⟨_, rfl, l, _, _, _, rfl, rfl, SqL.of upd_same, rfl, _, rfl, l, _, _, _, rfl, rfl, SqL.of upd_same, rfl, _, _, rfl, rfl, .inl ⟨by decide, by decide⟩, _, _, rfl, rfl, _, _, rfl, rfl, .inl ⟨_, rfl, _, _, rfl, rfl, .inr ⟨by decide, by decide⟩, .inl ⟨_, rfl, _, _, rfl, rfl, (by show (0 : Int) < 2147483647; decide), ?_⟩⟩⟩
      generalize hn : ((y + 6131 * (z + 1) + 17) * 48271) % 2147483647 = n
      have n0 : 0 ≤ n := by omega
      have n1 : n < 2147483647 := by omega
      refine ⟨_, rfl, _, rfl, _, _, rfl, rfl, ⟨by decide, by decide⟩, _, _, rfl, rfl, _, _, rfl, rfl, .inl ⟨by omega, by omega⟩, .inl ⟨_, rfl, _, _, rfl, rfl, (by show (0 : Int) < 2147483647; decide), ?_⟩⟩
      generalize hm : (n * (n / 1013 + 69621)) % 2147483647 = m
      have m0 : 0 ≤ m := by rw [← hm]; exact Int.emod_nonneg _ (by decide)
      have m1 : m < 2147483647 := by rw [← hm]; exact Int.emod_lt_of_pos _ (by decide)
      refine ⟨_, rfl, _, rfl, _, _, rfl, rfl, ⟨by decide, by decide⟩, _, _, rfl, rfl, _, _, rfl, rfl, .inl ⟨by omega, by omega⟩, .inl ⟨_, rfl, _, _, rfl, rfl, (by show (0 : Int) < 2147483399; decide), _, _, rfl, rfl, ⟨by decide, by decide⟩, _, rfl, _, _, rfl, rfl, hb, ?_⟩⟩
      exact k _ _ (Int.emod_nonneg _ (by omega)) (Int.emod_lt_of_pos _ hb) ⟨_, _, _, upd_same⟩ But.upd
def spOne (K : PySem.W.Frag) : Sp := fun vs H Q _ => ∃ (l p : Addr) (xs : List V), vs = [.ref l, .ref p] ∧ WellAt H l ∧ p ≠ l ∧ SqL K H p xs ∧ 0 < xs.length ∧ xs.length < 100000 ∧ ∀ (v : V) (H' : Hp), v ∈ xs → WellAt H' l → But l H H' → Q v H'
theorem ok_l_one {f : Addr} {fd : FuncData} (F : C8.Def K mg "_law_one" s_l_one f fd) (b : Binds K fd ["_law_well_here", "_law_some"] []) (T : Txt K mg CC CS aB) (K_l_draw : C8.Cal P w K mg base 1 "_law_draw" spDraw []) : C8.Cal P w K mg base 2 "_law_one" (spOne K) [] := by
  refine C8.cal0 F b .nil sc_l_one (fun vs H Q E h => ?_) (fun cdv A outer s H vs Q E hr h => ?_)
  · obtain ⟨l, p, xs, rfl, _⟩ := h
    rfl
  · obtain ⟨l, p, xs, rfl, hW, hpl, hp, h0, h1, k⟩ := h
    refine ⟨_, (pss_one (ps_ret (pe_ix ix_list (pv 1) (C8.pe_c K_l_draw hr (by decide) (by rfl) (pa_cons (pv 0) (pa_cons (pe_callB call_len_seq (by rfl) T.z_len (by decide +kernel) (pa_cons (pv 1) pa_nil)) pa_nil))) (fun _ _ => rfl)))), ?_⟩
    refine ⟨_, rfl, _, rfl, _, rfl, p, _, rfl, .inl hp, l, _, rfl, hW, by omega, lg (by omega), fun r H' r0 r1 W' B' => ?_⟩
    obtain ⟨j, rfl⟩ : ∃ j : Nat, r = (j : Int) := ⟨r.toNat, by omega⟩
    have hj : j < xs.length := by omega
    refine ⟨p, _, _, _, rfl, rfl, B'.seq hpl hp, atI_nat (List.getElem?_eq_getElem hj), ?_⟩
    exact k _ _ (List.getElem_mem hj) W' B'
end
end K9

namespace K9
open PySem L2 Bx
theorem sz {n : Nat} (h : n ≤ 1000) : n ≤ sizeLine := Nat.le_trans h (by decide)
theorem szs {n : Nat} (h : n ≤ 1000) : n < sizeLine := Nat.lt_of_le_of_lt h (by decide)
theorem er_map {α β : Type} (f : α → β) : ∀ (xs : List α) (i : Nat), (xs.map f).eraseIdx i = (xs.eraseIdx i).map f
  | [], i => rfl
  | x :: xs, 0 => rfl
  | x :: xs, i + 1 => by simp [er_map f xs i]
theorem er_perm0 {α : Type} : ∀ {ys : List α} {q : Nat} (h : q < ys.length), (ys[q] :: ys.eraseIdx q).Perm ys
  | y :: ys, 0, h => List.Perm.refl _
  | y :: ys, q + 1, h => by
    have h' : q < ys.length := by simpa using h
    simp only [List.getElem_cons_succ, List.eraseIdx_cons_succ]
    exact (List.Perm.swap _ _ _).trans (List.Perm.cons _ (er_perm0 h'))
theorem er_perm {α : Type} {ys ns : List α} {q : Nat} (h : q < ys.length) : (ys.eraseIdx q ++ (ns ++ [ys[q]])).Perm (ys ++ ns) := by
  refine List.Perm.trans ?_ (List.Perm.append_right ns (er_perm0 h))
  rw [← List.append_assoc]
  exact List.perm_append_comm
def pool : List Str := ["zz", "b", "value", "ab", "y", "longname"]
theorem WellAt.same {H H' : Hp} {l : Addr} (h : WellAt H l) (S : Same H H') : WellAt H' l := by
  obtain ⟨x, y, z, e⟩ := h
  exact ⟨x, y, z, S _ _ e⟩
theorem WellAt.ne {H : Hp} {l q : Addr} (h : WellAt H l) (n : H q = none) : q ≠ l := fun e => by
  obtain ⟨x, y, z, h⟩ := h
  rw [e, h] at n
  cases n
theorem WellAt.upd {H : Hp} {l q : Addr} {o : HO} (h : WellAt H l) (n : q ≠ l) : WellAt (L2.upd H q o) l := by
  obtain ⟨x, y, z, e⟩ := h
  exact ⟨x, y, z, by rw [upd_ne (fun q => n q.symm)]; exact e⟩
theorem _root_.Bx.But.updN {l p : Addr} {H H' : Hp} {o : HO} (e : But l H H') (n : H p = none) : But l H (L2.upd H' p o) := fun b u h ne => by
  rw [upd_ne (fun q => by rw [q, n] at h; cases h)]
  exact e b u h ne
theorem _root_.Bx.But.none {l p : Addr} {H H' : Hp} (e : But l H H') (n : p ≠ l) (h : H' p = Option.none) : H p = Option.none := e.free n h
section
variable {P : Program} {w : World} {K : PySem.W.Frag} {mg : Str → Option Value} {base : Heap} {CC CS aB : Addr}
/-- different names of the pool -/
def spNames (K : PySem.W.Frag) : Sp := fun vs H Q _ => ∃ (l : Addr) (m : Nat), vs = [.ref l, .int (m : Nat)] ∧ WellAt H l ∧ m ≤ 6 ∧ ∀ (p : Addr) (ns : List Str) (H' : Hp), ns.length = m → ns.Nodup → (∀ x ∈ ns, x ∈ pool) → SqT K H' p (ns.map V.str) → WellAt H' l → But l H H' → Q (.ref p) H'
theorem ok_l_names {f : Addr} {fd : FuncData} (F : C8.Def K mg "_law_names" s_l_names f fd) (b : Binds K fd ["_law_well_here", "_law_many"] []) (T : Txt K mg CC CS aB) (K_l_draw : C8.Cal P w K mg base 1 "_law_draw" spDraw []) : C8.Cal P w K mg base 2 "_law_names" (spNames K) [] := by
  refine C8.cal0 F b .nil sc_l_names (fun vs H Q E h => ?_) (fun cdv A outer s H vs Q E hr h => ?_)
  · obtain ⟨l, m, rfl, _⟩ := h
    rfl
  · obtain ⟨l, m, rfl, hW, hm, k⟩ := h
    refine ⟨_, (pss_cons (ps_set (i := 2) sc_l_names.nd rfl (Or.inl rfl) (pe_lst (pa_cons pe_str (pa_cons pe_str (pa_cons pe_str (pa_cons pe_str (pa_cons pe_str (pa_cons pe_str pa_nil))))))))
    (pss_cons (ps_set (i := 3) sc_l_names.nd rfl (Or.inl rfl) (pe_lst pa_nil))
    (pss_cons (ps_for PassesOwn.never rfl (pi_range1 (by rfl) T.z_range (pa_cons (pv 1) pa_nil)) (pg_name (i := 4) sc_l_names.nd rfl (Or.inl rfl))
    (pss_one (ps_expr (pe_bm PySem.F.plainAttrs_list PySem.F.slot_list_append PySem.F.type_list_append mt_append (pv 3) (pa_cons (pe_bm PySem.F.plainAttrs_list PySem.F.slot_list_pop PySem.F.type_list_pop mt_popAt (pv 2) (pa_cons (C8.pe_c K_l_draw hr (by decide) (by rfl) (pa_cons (pv 0) (pa_cons (pe_callB call_len_seq (by rfl) T.z_len (by decide +kernel) (pa_cons (pv 2) pa_nil)) pa_nil))) pa_nil)) pa_nil)))))
    (pss_one (ps_ret (pe_callTy call_tuple_of (by rfl) T.z_tuple (by decide +kernel) (pa_cons (pv 3) pa_nil))))))), ?_⟩
    refine ⟨sz (by show 6 ≤ 1000; decide), fun a na => ⟨sz (by simp), fun c nc => ⟨_, rfl, _, rfl, (by omega), (by omega), ?_⟩⟩⟩
    have ca : c ≠ a := fun e => by rw [e, upd_same] at nc; cases nc
    have nc0 : H c = none := by rw [upd_ne ca] at nc; exact nc
    have hal := hW.ne na
    have hcl := hW.ne nc0
    refine for_range (lo := 0) (n := (m : Int).toNat) (fun i σ H' => ∃ (v4 : Option V) (ys ns : List Str), σ = [some (.ref l), some (.int (m : Nat)), some (.ref a), some (.ref c), v4] ∧ H' a = some (.lst (ys.map V.str)) ∧ H' c = some (.lst (ns.map V.str)) ∧ ns.length = i ∧ ys.length = 6 - i ∧ (ys ++ ns).Nodup ∧ (∀ x ∈ ys ++ ns, x ∈ pool) ∧ WellAt H' l ∧ But l H H')
      ⟨none, pool, [], rfl, by rw [upd_ne (fun e => ca e.symm), upd_same]; rfl, upd_same, rfl, rfl, by decide +kernel, fun x hx => by simpa using hx, (hW.upd hal).upd hcl, ((But.refl l H).updN na).updN nc0⟩ ?_ ?_
    · rintro j σ H1 hj ⟨v4, ys, ns, rfl, ha, hc, hn, hy, nd, hp, W1, B1⟩
      have hj2 : j < m := by omega
      refine ⟨_, rfl, .inl ⟨rfl, _, .inl (.inl hc)⟩, _, rfl, .inl ⟨rfl, _, .inl (.inl ha)⟩, _, rfl, _, rfl, a, _, rfl, .inl (SqL.of ha), l, _, rfl, W1, (by rw [List.length_map]; omega), lg (by rw [List.length_map]; omega), fun r H2 r0 r1 W2 B2 => ?_⟩
      obtain ⟨q, rfl⟩ : ∃ q : Nat, r = (q : Int) := ⟨r.toNat, by omega⟩
      have hq : q < ys.length := by simp at r1; omega
      have ha2 := B2 _ _ ha hal
      have hc2 := B2 _ _ hc hcl
      have hyq : (ys.map V.str)[q]? = some (.str ys[q]) := by rw [List.getElem?_map, List.getElem?_eq_getElem hq]; rfl
      refine ⟨a, _, _, q, _, rfl, rfl, ha2, by omega, by omega, ?_, hyq, ?_⟩
      · rw [seqIndex_of (by omega) (by simp; omega)]
        simp
      refine ⟨c, _, _, rfl, rfl, by rw [upd_ne ca]; exact hc2, szs (by simp; omega), ?_⟩
      refine ⟨some (.int (0 + (j : Int))), ys.eraseIdx q, ns ++ [ys[q]], rfl, ?_, ?_, by simp [hn], by rw [List.length_eraseIdx_of_lt hq]; omega, ?_, ?_, (W2.upd hal).upd hcl, ((B1.trans B2).updN na).updN nc0⟩
      · rw [upd_ne (fun e => ca e.symm), upd_same, er_map]
      · rw [upd_same, List.map_append]
        rfl
      · exact (er_perm hq).nodup_iff.mpr nd
      · exact fun x hx => hp x ((er_perm hq).mem_iff.mp hx)
    · rintro σ H1 ⟨v4, ys, ns, rfl, ha, hc, hn, hy, nd, hp, W1, B1⟩
      refine ⟨_, rfl, c, _, rfl, .inl ⟨SqL.of hc, fun p np => ?_⟩⟩
      have hpl := W1.ne np
      have S := Same.new (o := HO.tup (ns.map V.str)) np
      exact k p ns _ (by omega) (List.nodup_append.mp nd).2.1 (fun x hx => hp x (List.mem_append_right _ hx)) (SqT.of upd_same) (W1.upd hpl) (B1.trans (But.of S))
end
end K9

namespace K9
open PySem L2 Bx
def TermsOk (ns : List Str) (q : Str × Str × Int) : Prop := (q.1 = "" ∨ q.1 ∈ ns) ∧ (q.2.1 = "" ∨ q.2.1 ∈ ns)
def LitOk (ns : List Str) (q : Str × Str × Int) : Prop := TermsOk ns q ∧ -3 ≤ q.2.2 ∧ q.2.2 ≤ 3
section
variable {P : Program} {w : World} {K : PySem.W.Frag} {mg : Str → Option Value} {base : Heap} {CC CS aB : Addr}
theorem But.rows {l : Addr} {H H' : Hp} {p : Addr} {rows : List (List (Str × Str × Int))} (W : WellAt H l) (e : But l H H') (h : RowsAt K H p rows) : RowsAt K H' p rows := by
  obtain ⟨x, y, z, hl⟩ := W
  exact h.but hl e
theorem But.row {l : Addr} {H H' : Hp} {p : Addr} {rows : List (Str × Str × Int)} (W : WellAt H l) (e : But l H H') (h : RowAt K H p rows) : RowAt K H' p rows := by
  obtain ⟨x, y, z, hl⟩ := W
  exact h.but hl e
theorem But.tup {l : Addr} {H H' : Hp} {p : Addr} {xs : List V} (W : WellAt H l) (e : But l H H') (h : SqT K H p xs) : SqT K H' p xs := by
  obtain ⟨x, y, z, hl⟩ := W
  exact butT hl e h
def spRows (K : PySem.W.Frag) : Sp := fun vs H Q _ => ∃ (l p : Addr) (ns : List Str) (m t : Nat), vs = [.ref l, .ref p, .int (m : Nat), .int (t : Nat)] ∧ WellAt H l ∧ SqT K H p (ns.map V.str) ∧ ns.length ≤ 100 ∧ m ≤ 50 ∧ t ≤ 50 ∧
  ∀ (r : Addr) (rows : List (List (Str × Str × Int))) (H' : Hp), rows.length ≤ m → (∀ q ∈ rows, q.length ≤ t ∧ ∀ x ∈ q, LitOk ns x) → RowsAt K H' r rows → WellAt H' l → But l H H' → Q (.ref r) H'
theorem ok_l_rows {f : Addr} {fd : FuncData} (F : C8.Def K mg "_law_rows" s_l_rows f fd) (b : Binds K fd ["_law_well_here", "_law_names_here", "_law_many", "_law_most"] []) (T : Txt K mg CC CS aB) (K_l_draw : C8.Cal P w K mg base 1 "_law_draw" spDraw []) (K_l_one : C8.Cal P w K mg base 2 "_law_one" (spOne K) []) :
    C8.Cal P w K mg base 3 "_law_rows" (spRows K) [] := by
  refine C8.cal0 F b .nil sc_l_rows (fun vs H Q E h => ?_) (fun cdv A outer s H vs Q E hr h => ?_)
  · obtain ⟨l, p, ns, m, t, rfl, _⟩ := h
    rfl
  · obtain ⟨l, p, ns, m, t, rfl, hW, hp, hns, hm, ht, k⟩ := h
    refine ⟨_, (pss_cons (ps_set (i := 4) sc_l_rows.nd rfl (Or.inl rfl) (pe_tup pa_nil))
    (pss_cons (ps_for PassesOwn.never rfl (pi_range1 (by rfl) T.z_range (pa_cons (C8.pe_c K_l_draw hr (by decide) (by rfl) (pa_cons (pv 0) (pa_cons (pe_op op_add (pv 2) pe_int) pa_nil))) pa_nil)) (pg_name (i := 5) sc_l_rows.nd rfl (Or.inl rfl))
    (pss_cons (ps_set (i := 6) sc_l_rows.nd rfl (Or.inl rfl) (pe_tup pa_nil))
    (pss_cons (ps_for PassesOwn.never rfl (pi_range1 (by rfl) T.z_range (pa_cons (C8.pe_c K_l_draw hr (by decide) (by rfl) (pa_cons (pv 0) (pa_cons (pe_op op_add (pv 3) pe_int) pa_nil))) pa_nil)) (pg_name (i := 7) sc_l_rows.nd rfl (Or.inl rfl))
    (pss_cons (ps_set (i := 8) sc_l_rows.nd rfl (Or.inl rfl) (C8.pe_c K_l_one hr (by decide) (by rfl) (pa_cons (pv 0) (pa_cons (pe_op op_catS (pe_callTy call_list_of (by rfl) T.z_list (by decide +kernel) (pa_cons (pv 1) pa_nil)) (pe_lst (pa_cons pe_str pa_nil))) pa_nil))))
    (pss_cons (ps_set (i := 9) sc_l_rows.nd rfl (Or.inl rfl) (C8.pe_c K_l_one hr (by decide) (by rfl) (pa_cons (pv 0) (pa_cons (pe_op op_catS (pe_callTy call_list_of (by rfl) T.z_list (by decide +kernel) (pa_cons (pv 1) pa_nil)) (pe_lst (pa_cons pe_str pa_nil))) pa_nil))))
    (pss_one (ps_set (i := 6) sc_l_rows.nd rfl (Or.inl rfl) (pe_op op_catU (pv 6) (pe_tup (pa_cons (pe_tup (pa_cons (pv 8) (pa_cons (pv 9) (pa_cons (pe_op op_sub (C8.pe_c K_l_draw hr (by decide) (by rfl) (pa_cons (pv 0) (pa_cons pe_int pa_nil))) pe_int) pa_nil)))) pa_nil))))))))
    (pss_one (ps_set (i := 4) sc_l_rows.nd rfl (Or.inl rfl) (pe_op op_catU (pv 4) (pe_tup (pa_cons (pv 6) pa_nil))))))))
    (pss_one (ps_ret (pv 4))))), ?_⟩
    refine ⟨(by show 0 ≤ sizeLine; decide), fun c nc => ⟨_, rfl, _, rfl, _, _, rfl, rfl, l, _, rfl, hW.same (Same.new nc), by omega, lg (by omega), fun r H1 r0 r1 W1 B1 => ⟨_, rfl, by omega, by omega, ?_⟩⟩⟩
    have Bc := (But.of (l := l) (Same.new (o := HO.tup []) nc)).trans B1
    have hc1 : SqT K H1 c [] := But.tup (hW.same (Same.new nc)) B1 (SqT.of upd_same)
    refine for_range (lo := 0) (n := r.toNat) (fun i σ H' => ∃ (v5 v6 v7 v8 v9 : Option V) (c : Addr) (rows : List (List (Str × Str × Int))), σ = [some (.ref l), some (.ref p), some (.int (m : Nat)), some (.int (t : Nat)), some (.ref c), v5, v6, v7, v8, v9] ∧
        RowsAt K H' c rows ∧ rows.length = i ∧ (∀ q ∈ rows, q.length ≤ t ∧ ∀ x ∈ q, LitOk ns x) ∧ WellAt H' l ∧ But l H H') ⟨none, none, none, none, none, c, [], rfl, ⟨[], hc1, rfl, fun j q h => (by cases h)⟩, rfl, fun q h => (by cases h), W1, Bc⟩ ?_ ?_
    · rintro i σ H2 hi ⟨v5, v6, v7, v8, v9, c, rows, rfl, hR, hlen, hok, W2, B2⟩
      refine ⟨(by show 0 ≤ sizeLine; decide), fun d nd => ⟨_, rfl, _, rfl, _, _, rfl, rfl, l, _, rfl, W2.same (Same.new nd), by omega, lg (by omega), fun u H3 u0 u1 W3 B3 => ⟨_, rfl, by omega, by omega, ?_⟩⟩⟩
      have Bd := B2.trans ((But.of (l := l) (Same.new (o := HO.tup []) nd)).trans B3)
      have hd3 : SqT K H3 d [] := But.tup (W2.same (Same.new nd)) B3 (SqT.of upd_same)
      have hR3 : RowsAt K H3 c rows := But.rows (W2.same (Same.new nd)) B3 (hR.mono (Same.new nd))
      refine for_range (lo := 0) (n := u.toNat) (fun j σ H' => ∃ (v7 v8 v9 : Option V) (d : Addr) (lits : List (Str × Str × Int)), σ = [some (.ref l), some (.ref p), some (.int (m : Nat)), some (.int (t : Nat)), some (.ref c), some (.int (0 + (i : Int))), some (.ref d), v7, v8, v9] ∧
          RowAt K H' d lits ∧ lits.length = j ∧ (∀ x ∈ lits, LitOk ns x) ∧ RowsAt K H' c rows ∧ WellAt H' l ∧ But l H H') ⟨v7, v8, v9, d, [], rfl, ⟨[], hd3, rfl, fun j q h => (by cases h)⟩, rfl, fun q h => (by cases h), hR3, W3, Bd⟩ ?_ ?_
      · rintro j σ H4 hj ⟨v7, v8, v9, d, lits, rfl, hL, hlj, hokL, hR4, W4, B4⟩
        have hp4 := But.tup hW B4 hp
        have drawn : ∀ {v : V}, v ∈ ns.map V.str ++ [.str ""] → ∃ s : Str, v = .str s ∧ (s = "" ∨ s ∈ ns) := fun {v} hv => by
          rcases List.mem_append.mp hv with h | h
          · obtain ⟨s, hs, rfl⟩ := List.mem_map.mp h
            exact ⟨s, rfl, .inr hs⟩
          · exact ⟨"", by simpa using h, .inl rfl⟩
        refine ⟨_, rfl, _, rfl, p, _, rfl, .inr hp4, fun z nz => ⟨sz (by simp), fun y ny => ⟨z, y, _, _, rfl, rfl, (Same.new ny).seq (SqL.of upd_same), SqL.of upd_same, sz (by simp; omega), fun x nx => ?_⟩⟩⟩
        have Szy := (Same.new (o := HO.lst (ns.map V.str)) nz).trans (Same.new (o := HO.lst [V.str ""]) ny)
        have Szx := Szy.trans (Same.new (o := HO.lst (ns.map V.str ++ [V.str ""])) nx)
        refine ⟨l, x, _, rfl, W4.same Szx, (W4.same Szy).ne nx, SqL.of upd_same, by simp, by simp; omega, fun v1 H5 hv1 W5 B5 => ?_⟩
        obtain ⟨s1, rfl, o1⟩ := drawn hv1
        have B45 := (But.of (l := l) Szx).trans B5
        have hp5 := But.tup W4 B45 hp4
        refine ⟨_, rfl, _, rfl, p, _, rfl, .inr hp5, fun z' nz' => ⟨sz (by simp), fun y' ny' => ⟨z', y', _, _, rfl, rfl, (Same.new ny').seq (SqL.of upd_same), SqL.of upd_same, sz (by simp; omega), fun x' nx' => ?_⟩⟩⟩
        have Szy' := (Same.new (o := HO.lst (ns.map V.str)) nz').trans (Same.new (o := HO.lst [V.str ""]) ny')
        have Szx' := Szy'.trans (Same.new (o := HO.lst (ns.map V.str ++ [V.str ""])) nx')
        refine ⟨l, x', _, rfl, W5.same Szx', (W5.same Szy').ne nx', SqL.of upd_same, by simp, by simp; omega, fun v2 H6 hv2 W6 B6 => ?_⟩
        obtain ⟨s2, rfl, o2⟩ := drawn hv2
        have B46 := B45.trans ((But.of (l := l) Szx').trans B6)
        have hL6 := But.row W4 B46 hL
        refine ⟨_, rfl, _, rfl, _, rfl, _, rfl, l, 7, rfl, W6, by decide, by decide, fun n H7 n0 n1 W7 B7 => ⟨_, _, rfl, rfl, (by show 3 ≤ sizeLine; decide), fun e ne => ⟨(by show 1 ≤ sizeLine; decide), fun g ng => ?_⟩⟩⟩
        obtain ⟨ts, hd, hLt⟩ := hL6
        have Seg := (Same.new (o := HO.tup [V.str s1, V.str s2, V.int (n - 3)]) ne).trans (Same.new (o := HO.tup [V.ref e]) ng)
        have hd7 := But.tup W6 B7 hd
        obtain ⟨wx, wy, wz, hw6⟩ := id W6
        have hts : ts.length = j := hLt.1.trans hlj
        have hR7 : RowsAt K H7 c rows := (((hR4.mono Szx).but (by exact (W4.same Szx).choose_spec.choose_spec.choose_spec) B5).mono Szx' |>.but (by exact (W5.same Szx').choose_spec.choose_spec.choose_spec) B6).but hw6 B7
        refine ⟨d, g, _, _, rfl, rfl, Same.seqT Seg hd7, SqT.of upd_same, sz (by simp; omega), fun d' H8 S8 h8 => ?_⟩
        have S78 := Seg.trans S8
        refine ⟨_, _, _, d', lits ++ [(s1, s2, n - 3)], rfl, ⟨ts ++ [e], (by rw [List.map_append]; exact h8), ((hLt.but hw6 B7).mono S78).snoc (q := (s1, s2, n - 3)) (Same.seqT ((Same.new (o := HO.tup [V.ref e]) ng).trans S8) (SqT.of upd_same))⟩, by simp; omega, fun x hx => ?_, hR7.mono S78, W7.same S78, ((B4.trans B46).trans B7).trans (But.of S78)⟩
        rcases List.mem_append.mp hx with h | h
        · exact hokL x h
        · have e : x = (s1, s2, n - 3) := by simpa using h
          rw [e]
          exact ⟨⟨o1, o2⟩, by show -3 ≤ n - 3; omega, by show n - 3 ≤ 3; omega⟩
      · rintro σ H4 ⟨v7, v8, v9, d, lits, rfl, hL, hlj, hokL, hR4, W4, B4⟩
        obtain ⟨rs, hc, hRs⟩ := hR4
        refine ⟨_, rfl, _, rfl, (by show 1 ≤ sizeLine; decide), fun g ng => ⟨c, g, _, _, rfl, rfl, Same.seqT (Same.new ng) hc, SqT.of upd_same, sz (by simp [hRs.1]; omega), fun c' H8 S8 h8 => ?_⟩⟩
        have S := (Same.new (o := HO.tup [V.ref d]) ng).trans S8
        refine ⟨_, _, _, _, _, c', rows ++ [lits], rfl, ⟨rs ++ [d], (by rw [List.map_append]; exact h8), (hRs.mono S).snoc (hL.mono S)⟩, by simp; omega, fun q hq => ?_, W4.same S, B4.trans (But.of S)⟩
        rcases List.mem_append.mp hq with h | h
        · exact hok q h
        · have e : q = lits := by simpa using h
          rw [e]
          exact ⟨by omega, hokL⟩
    · rintro σ H2 ⟨v5, v6, v7, v8, v9, c, rows, rfl, hR, hlen, hok, W2, B2⟩
      exact ⟨_, rfl, k c rows _ (by omega) hok hR W2 B2⟩
end
end K9

namespace K9
open PySem L2 Bx
theorem hk_new {h : Str → Int} {t : Str} {n : Int} {ks : List Str} (m : t ∉ ks) : putK (hk ks h) (Sum.inr t) (.int n) = hk (ks ++ [t]) (Bf.put h t n) := by
  refine (fk_new (v := fun t => V.int (h t)) m).trans ?_
  unfold fk hk
  refine List.map_congr_left fun k _ => ?_
  unfold Bf.put
  by_cases e : k = t <;> simp [e]
theorem hk_len (ks : List Str) (h : Str → Int) : (hk ks h).length = ks.length := by
  unfold hk
  rw [List.length_map]
/-- a state: its integers are near 0 -/
def StateAt (H : Hp) (far : Nat) (ks : List Str) (d : Addr) : Prop := ∃ f : Str → Int, H d = some (.dK (hk ks f)) ∧ ∀ t ∈ ks, -(far : Int) ≤ f t ∧ f t ≤ far
theorem StateAt.mono {H H' : Hp} {far : Nat} {ks : List Str} {d : Addr} (e : Same H H') (h : StateAt H far ks d) : StateAt H' far ks d := h.imp fun f z => ⟨e _ _ z.1, z.2⟩
theorem take_snoc {α : Type} {xs : List α} {i : Nat} {x : α} (h : xs[i]? = some x) : xs.take (i + 1) = xs.take i ++ [x] := by
  rw [List.take_succ, h]
  rfl
section
variable {P : Program} {w : World} {K : PySem.W.Frag} {mg : Str → Option Value} {base : Heap} {CC CS aB : Addr}
def spGrid (K : PySem.W.Frag) : Sp := fun vs H Q _ => ∃ (p : Addr) (ns : List Str) (far : Nat), vs = [.ref p, .int (far : Nat)] ∧ SqT K H p (ns.map V.str) ∧ ns.Nodup ∧ ns.length ≤ 10 ∧ far ≤ 100 ∧ (∀ i, i ≤ ns.length → (2 * far + 1) ^ i ≤ 900) ∧
  ∀ (g : Addr) (ds : List Addr) (H' : Hp), Same H H' → SqL K H' g (ds.map V.ref) → (∀ d ∈ ds, StateAt H' far ns d) → ds.length ≤ 900 → Q (.ref g) H'
theorem ok_l_grid {f : Addr} {fd : FuncData} (F : C8.Def K mg "_law_grid" s_l_grid f fd) (b : Binds K fd ["_law_names_here", "_law_far"] []) (T : Txt K mg CC CS aB) : C8.Cal P w K mg base 1 "_law_grid" (spGrid K) [] := by
  refine C8.cal0 F b .nil sc_l_grid (fun vs H Q E h => ?_) (fun cdv A outer s H vs Q E hr h => ?_)
  · obtain ⟨p, ns, far, rfl, _⟩ := h
    rfl
  · obtain ⟨p, ns, far, rfl, hp, nd, hns, hfar, hpow, k⟩ := h
    have hu := hu_of hr
    refine ⟨_, (pss_cons (ps_set (i := 2) sc_l_grid.nd rfl (Or.inl rfl) (pe_lst (pa_cons pe_dnewK pa_nil)))
    (pss_cons (ps_for PassesOwn.never rfl (pi_tup (pv 0)) (pg_name (i := 3) sc_l_grid.nd rfl (Or.inl rfl))
    (pss_cons (ps_set (i := 4) sc_l_grid.nd rfl (Or.inl rfl) (pe_lst pa_nil))
    (pss_cons (ps_for PassesOwn.never rfl (pi_list (pv 2)) (pg_name (i := 5) sc_l_grid.nd rfl (Or.inl rfl))
    (pss_one (ps_for PassesOwn.never rfl (pi_range2 (by rfl) T.z_range (pa_cons (pe_un un_neg (pv 1)) (pa_cons (pe_op op_add (pv 1) pe_int) pa_nil))) (pg_name (i := 6) sc_l_grid.nd rfl (Or.inl rfl))
    (pss_cons (ps_set (i := 7) sc_l_grid.nd rfl (Or.inl rfl) (pe_callTy call_dictD (by rfl) T.z_dict (by decide +kernel) (pa_cons (pv 5) pa_nil)))
    (pss_cons (ps_dput hu (pv 7) (pv 3) (pv 6) rfl)
    (pss_one (ps_expr (pe_bm PySem.F.plainAttrs_list PySem.F.slot_list_append PySem.F.type_list_append mt_append (pv 4) (pa_cons (pv 7) pa_nil)))))))))
    (pss_one (ps_set (i := 2) sc_l_grid.nd rfl (Or.inl rfl) (pv 4))))))
    (pss_one (ps_ret (pv 2))))), ?_⟩
    refine fun d0 n0 => ⟨sz (by simp), fun s ns0 => ?_⟩
    have S0 := (Same.new (o := HO.dK []) n0).trans (Same.new (o := HO.lst [V.ref d0]) ns0)
    refine ⟨_, rfl, p, rfl, ⟨_, Same.seqT S0 hp⟩, for_tup (xs := ns.map V.str) (fun i σ H' => ∃ (v3 v4 v5 v6 v7 : Option V) (s : Addr) (ds : List Addr), σ = [some (.ref p), some (.int (far : Nat)), some (.ref s), v3, v4, v5, v6, v7] ∧ Same H H' ∧ H' s = some (.lst (ds.map V.ref)) ∧ ds.length = (2 * far + 1) ^ i ∧ ∀ d ∈ ds, StateAt H' far (ns.take i) d)
      ⟨none, none, none, none, none, s, [d0], rfl, S0, upd_same, rfl, fun d hd => ?_⟩ (fun i σ H' _ h => ?_) ?_ ?_⟩
    · have e : d = d0 := by simpa using hd
      subst e
      exact ⟨fun _ => 0, by rw [upd_ne (ne_of_none upd_same ns0), upd_same]; rfl, fun t ht => (by simp at ht)⟩
    · obtain ⟨_, _, _, _, _, _, _, _, S, _⟩ := h
      exact Same.seqT S hp
    · rintro i x σ H1 hx ⟨v3, v4, v5, v6, v7, s, ds, rfl, S1, hs, hl, hd⟩
      rw [List.getElem?_map] at hx
      obtain ⟨t, ht, rfl⟩ := Option.map_eq_some_iff.mp hx
      have hi : i < ns.length := (List.getElem?_eq_some_iff.mp ht).1
      have htn : t ∉ ns.take i := by
        intro hm
        obtain ⟨j, hj, e⟩ := List.mem_iff_getElem.mp hm
        rw [List.length_take] at hj
        rw [List.getElem_take] at e
        have := List.pairwise_iff_getElem.mp (List.nodup_iff_pairwise_ne.mp nd) j i (by omega) hi (by omega)
        have e2 := (List.getElem?_eq_some_iff.mp ht).2
        exact this (e.trans e2.symm)
      have hp1 := hpow (i + 1) (by omega)
      have hmul : (2 * far + 1) ^ (i + 1) = ds.length * (2 * far + 1) := by rw [Nat.pow_succ, hl]
      refine ⟨sz (by simp), fun m nm => ?_⟩
      have Sm := Same.new (o := HO.lst []) nm
      refine ⟨_, rfl, s, rfl, ⟨_, SqL.of (Sm _ _ hs)⟩, for_list (xs := ds.map V.ref) (fun j σ H' => ∃ (v5 v6 v7 : Option V) (es : List Addr), σ = [some (.ref p), some (.int (far : Nat)), some (.ref s), some (.str t), some (.ref m), v5, v6, v7] ∧ Same H1 H' ∧ H' m = some (.lst (es.map V.ref)) ∧ es.length = j * (2 * far + 1) ∧ ∀ d ∈ es, StateAt H' far (ns.take (i + 1)) d)
        ⟨v5, v6, v7, [], rfl, Sm, upd_same, by simp, fun d hd => (by cases hd)⟩ (fun j σ H' _ h => ?_) ?_ ?_⟩
      · obtain ⟨_, _, _, _, _, S, _⟩ := h
        exact SqL.of (S _ _ hs)
      · rintro j x σ H2 hx ⟨v5, v6, v7, es, rfl, S2, hm, hle, he⟩
        rw [List.getElem?_map] at hx
        obtain ⟨d, hdj, rfl⟩ := Option.map_eq_some_iff.mp hx
        have hj : j < ds.length := (List.getElem?_eq_some_iff.mp hdj).1
        obtain ⟨f0, hf0, hb0⟩ := hd d (List.mem_of_getElem? hdj)
        refine ⟨_, rfl, _, rfl, _, rfl, _, _, rfl, rfl, _, _, rfl, ⟨by omega, by omega, by omega, by omega⟩, ?_⟩
        refine for_range (lo := -(far : Int)) (n := ((far : Int) + 1 - -(far : Int)).toNat) (fun u σ H' => ∃ (v6 v7 : Option V) (es : List Addr), σ = [some (.ref p), some (.int (far : Nat)), some (.ref s), some (.str t), some (.ref m), some (.ref d), v6, v7] ∧ Same H1 H' ∧ H' m = some (.lst (es.map V.ref)) ∧ es.length = j * (2 * far + 1) + u ∧ ∀ d ∈ es, StateAt H' far (ns.take (i + 1)) d)
          ⟨v6, v7, es, rfl, S2, hm, by omega, he⟩ ?_ ?_
        · rintro u σ H3 hu3 ⟨v6, v7, es, rfl, S3, hm, hle, he⟩
          have hle2 : es.length < 900 := by
            have h1 : (j + 1) * (2 * far + 1) ≤ ds.length * (2 * far + 1) := Nat.mul_le_mul_right _ hj
            rw [Nat.succ_mul] at h1
            omega
          refine ⟨_, rfl, d, _, rfl, .inl (S3 _ _ hf0), fun q nq => ?_⟩
          have Sq := Same.new (o := HO.dK (hk (ns.take i) f0)) nq
          refine ⟨_, rfl, _, rfl, _, rfl, q, _, rfl, DPut.k (k := Sum.inr t) upd_same (szs (by rw [hk_len, List.length_take]; omega)), ?_⟩
          rw [hk_new htn]
          have Sq2 := Same.mut (o := HO.dK (hk (ns.take i ++ [t]) (Bf.put f0 t (-(far : Int) + (u : Int))))) Sq nq
          have hm2 := Sq2 _ _ hm
          have qm : q ≠ m := fun e => by rw [e, hm] at nq; cases nq
          refine ⟨_, rfl, .inl ⟨rfl, _, SqL.of hm2⟩, _, rfl, m, _, _, rfl, rfl, hm2, szs (by simp; omega), ?_⟩
          refine ⟨_, _, es ++ [q], rfl, Same.mut (S3.trans Sq2) nm, by rw [upd_same, List.map_append]; rfl, by simp; omega, fun e hee => ?_⟩
          rw [take_snoc ht]
          rcases List.mem_append.mp hee with h | h
          · obtain ⟨g, hg, bg⟩ := he e h
            rw [take_snoc ht] at hg bg
            exact ⟨g, by rw [upd_ne (ne_of hg hm (by intro z; cases z))]; exact Sq2 _ _ hg, bg⟩
          · have e2 : e = q := by simpa using h
            subst e2
            refine ⟨Bf.put f0 t (-(far : Int) + (u : Int)), by rw [upd_ne qm, upd_same], fun z hz => ?_⟩
            unfold Bf.put
            by_cases ez : z = t
            · rw [if_pos ez]
              omega
            · rw [if_neg ez]
              rcases List.mem_append.mp hz with hz | hz
              · exact hb0 z hz
              · exact absurd (by simpa using hz) ez
        · rintro σ H3 ⟨v6, v7, es, rfl, S3, hm, hle, he⟩
          refine ⟨_, _, _, es, rfl, S3, hm, ?_, he⟩
          rw [Nat.succ_mul]
          omega
      · rintro σ H2 ⟨v5, v6, v7, es, rfl, S2, hm, hle, he⟩
        refine ⟨_, rfl, _, _, _, _, _, m, es, rfl, S1.trans S2, hm, ?_, he⟩
        rw [hmul, hle, List.length_map]
    · rintro σ H1 ⟨v3, v4, v5, v6, v7, s, ds, rfl, S1, hs, hl, hd⟩
      rw [List.length_map] at hl hd
      rw [List.take_length] at hd
      exact ⟨_, rfl, k s ds _ S1 (SqL.of hs) hd (by rw [hl]; exact hpow _ (Nat.le_refl _))⟩
end
end K9

namespace Bx
open PySem PySem.Spec PyProof.Rows L2
theorem eqv_lit (a b : Str × Str × Int) : PyData.eqv (.tuple [.str a.1, .str a.2.1, .int a.2.2]) (.tuple [.str b.1, .str b.2.1, .int b.2.2]) = decide (a = b) := by
  obtain ⟨a1, a2, a3⟩ := a
  obtain ⟨b1, b2, b3⟩ := b
  rw [Bool.eq_iff_iff, decide_eq_true_eq]
  simp [PyData.eqv, PyData.eqvAll]
def litD (a : Str × Str × Int) : PyData := .tuple [.str a.1, .str a.2.1, .int a.2.2]
theorem any_lit (q : Str × Str × Int) (C : List (Str × Str × Int)) : ((C.map litD).any fun z => PyData.eqv z (litD q)) = decide (q ∈ C) := by
  rw [Bool.eq_iff_iff, List.any_eq_true, decide_eq_true_eq]
  constructor
  · rintro ⟨z, hz, e⟩
    obtain ⟨a, ha, rfl⟩ := List.mem_map.mp hz
    have e := (eqv_lit a q).symm.trans e
    rw [← of_decide_eq_true e]
    exact ha
  · intro h
    refine ⟨litD q, List.mem_map_of_mem h, (eqv_lit q q).trans (decide_eq_true rfl)⟩
theorem lay_lit {a : Str × Str × Int} (h : PyData.strOk a.1 = true ∧ PyData.strOk a.2.1 = true) : PyData.canLay0 (litD a) = true := by
  simp [litD, PyData.canLay0, PyData.canLayAll0, h.1, h.2]
theorem shaped_lit {a : Str × Str × Int} (h : PyData.strOk a.1 = true ∧ PyData.strOk a.2.1 = true) : SeqAt.shaped (litD a) = true := by
  unfold SeqAt.shaped
  rw [Bool.and_eq_true, decide_eq_true_eq]
  refine ⟨lay_lit h, ?_⟩
  simp [litD, PyData.depth, PyData.depthAll]
theorem shaped_lits {C : List (Str × Str × Int)} (h : ∀ a ∈ C, PyData.strOk a.1 = true ∧ PyData.strOk a.2.1 = true) : SeqAt.shaped (.list (C.map litD)) = true := by
  have h1 : ∀ {C : List (Str × Str × Int)}, (∀ a ∈ C, PyData.strOk a.1 = true ∧ PyData.strOk a.2.1 = true) → PyData.canLayAll0 (C.map litD) = true := by
    intro C
    induction C with
    | nil => intro _; simp [PyData.canLayAll0]
    | cons a C ih => intro h; simp [PyData.canLayAll0, lay_lit (h a List.mem_cons_self), ih fun b hb => h b (List.mem_cons_of_mem _ hb)]
  have h2 : ∀ C : List (Str × Str × Int), PyData.depthAll (C.map litD) ≤ 3 := by
    intro C
    induction C with
    | nil => simp [PyData.depthAll]
    | cons a C ih =>
      simp [PyData.depthAll, litD, PyData.depth]
      omega
  unfold SeqAt.shaped
  rw [Bool.and_eq_true, decide_eq_true_eq]
  refine ⟨by simp [PyData.canLay0, h1 h], ?_⟩
  have := h2 C
  simp [PyData.depth]
  omega
def rowD (L : List (Str × Str × Int)) : PyData := .tuple (L.map litD)
def OkS (L : List (Str × Str × Int)) : Prop := ∀ a ∈ L, PyData.strOk a.1 = true ∧ PyData.strOk a.2.1 = true
theorem lay_row {L : List (Str × Str × Int)} (h : OkS L) : PyData.canLay0 (rowD L) = true := by
  have h1 := shaped_lits h
  unfold SeqAt.shaped at h1
  rw [Bool.and_eq_true] at h1
  have := h1.1
  simp [PyData.canLay0] at this
  simp [rowD, PyData.canLay0, this]
theorem depth_lits (C : List (Str × Str × Int)) : PyData.depthAll (C.map litD) ≤ 3 := by
  induction C with
  | nil => simp [PyData.depthAll]
  | cons a C ih =>
    simp [PyData.depthAll, litD, PyData.depth]
    omega
theorem shaped_rows {R : List (List (Str × Str × Int))} (h : ∀ L ∈ R, OkS L) : SeqAt.shaped (.list (R.map rowD)) = true := by
  have h1 : ∀ {R : List (List (Str × Str × Int))}, (∀ L ∈ R, OkS L) → PyData.canLayAll0 (R.map rowD) = true := by
    intro R
    induction R with
    | nil => intro _; simp [PyData.canLayAll0]
    | cons a C ih => intro h; simp [PyData.canLayAll0, lay_row (h a List.mem_cons_self), ih fun b hb => h b (List.mem_cons_of_mem _ hb)]
  have h2 : ∀ R : List (List (Str × Str × Int)), PyData.depthAll (R.map rowD) ≤ 4 := by
    intro R
    induction R with
    | nil => simp [PyData.depthAll]
    | cons a C ih =>
      have := depth_lits a
      simp [PyData.depthAll, rowD, PyData.depth]
      omega
  unfold SeqAt.shaped
  rw [Bool.and_eq_true, decide_eq_true_eq]
  refine ⟨by simp [PyData.canLay0, h1 h], ?_⟩
  have := h2 R
  simp [PyData.depth]
  omega
theorem eqv_nil (ds : List PyData) : PyData.eqv (.list ds) (.list []) = decide (ds = []) := by
  cases ds with
  | nil => simp [PyData.eqv, PyData.eqvAll]
  | cons a ds => simp [PyData.eqv, PyData.eqvAll]
theorem dget_hk {H : Hp} {a : Addr} {ks : List Str} {h : Str → Int} {t : Str} (e : H a = some (.dK (hk ks h))) (m : t ∈ ks) : DGet H a (.str t) (some (.int (h t))) := by
  have := DGet.k (k := (Sum.inr t : Key)) e
  rw [hk_get m] at this
  exact this
end Bx
namespace K9
open PySem L2 Bx
section
variable {K : PySem.W.Frag} {H : Hp}
theorem LitsAt.dp {ts : List Addr} {L : List (Str × Str × Int)} (h : LitsAt K H ts L) : DpAll K H (ts.map V.ref) (L.map litD) := by
  induction L generalizing ts with
  | nil =>
    have : ts = [] := List.length_eq_zero_iff.mp h.1
    subst this
    exact .nil
  | cons q L ih =>
    cases ts with
    | nil => cases h.1
    | cons t ts =>
      obtain ⟨t', h1, h2⟩ := h.2 0 q rfl
      cases h1
      exact .cons (.tup h2 (.cons (.str _) (.cons (.str _) (.cons (.int _) .nil)))) (ih ⟨Nat.succ.inj h.1, fun j q' hj => h.2 (j + 1) q' hj⟩)
theorem RowAt.dp {r : Addr} {L : List (Str × Str × Int)} (h : RowAt K H r L) : Dp K H (.ref r) (rowD L) := by
  obtain ⟨ts, h1, h2⟩ := h
  exact .tup h1 h2.dp
theorem RowsIn.dp {rs : List Addr} {R : List (List (Str × Str × Int))} (h : RowsIn K H rs R) : DpAll K H (rs.map V.ref) (R.map rowD) := by
  induction R generalizing rs with
  | nil =>
    have : rs = [] := List.length_eq_zero_iff.mp h.1
    subst this
    exact .nil
  | cons q L ih =>
    cases rs with
    | nil => cases h.1
    | cons t ts =>
      obtain ⟨t', h1, h2⟩ := h.2 0 q rfl
      cases h1
      exact .cons h2.dp (ih ⟨Nat.succ.inj h.1, fun j q' hj => h.2 (j + 1) q' hj⟩)
end
/-- a term's integer -/
def vl (f : Str → Int) (t : Str) : Int := if t = "" then 0 else f t
def meetsB (f : Str → Int) (L : List (Str × Str × Int)) : Bool := L.all fun q => decide (vl f q.1 ≤ vl f q.2.1 + q.2.2)
def inB (f : Str → Int) (R : List (List (Str × Str × Int))) : Bool := R.any (meetsB f)
section
variable {P : Program} {w : World} {K : PySem.W.Frag} {mg : Str → Option Value} {base : Heap} {CC CS aB : Addr}
def spAt : Sp := fun vs H Q _ => ∃ (d : Addr) (t : Str) (ks : List Str) (f : Str → Int), vs = [.ref d, .str t] ∧ H d = some (.dK (hk ks f)) ∧ (t = "" ∨ t ∈ ks) ∧ Q (.int (vl f t)) H
theorem ok_l_at {f : Addr} {fd : FuncData} (F : C8.Def K mg "_law_at" s_l_at f fd) (b : Binds K fd ["_law_state", "_law_term"] []) (T : Txt K mg CC CS aB) : C8.Cal P w K mg base 1 "_law_at" spAt [] := by
  refine C8.cal0 F b .nil sc_l_at (fun vs H Q E h => ?_) (fun cdv A outer s H vs Q E hr h => ?_)
  · obtain ⟨d, t, ks, f, rfl, _⟩ := h
    rfl
  · obtain ⟨d, t, ks, f, rfl, hd, ht, k⟩ := h
    have hu := hu_of hr
    refine ⟨_, (pss_one (ps_ret (pe_ifExp (pt_cmpR op_eq (pv 1) pe_str (nomark _)) pe_int (pe_dget hu (pv 0) (pv 1) (fun _ _ => rfl))))), ?_⟩
    refine ⟨_, rfl, rfl, _, rfl, ?_⟩
    by_cases e : t = ""
    · subst e
      exact iteT k
    · rw [decide_eq_false (fun z => e (V.str.inj z))]
      refine iteF ⟨_, rfl, _, rfl, d, .int (f t), rfl, dget_hk hd (ht.resolve_left e), ?_⟩
      have : vl f t = f t := if_neg e
      rw [← this]
      exact k
def spMeets (K : PySem.W.Frag) : Sp := fun vs H Q _ => ∃ (d r : Addr) (ks : List Str) (f : Str → Int) (L : List (Str × Str × Int)), vs = [.ref d, .ref r] ∧ H d = some (.dK (hk ks f)) ∧ RowAt K H r L ∧ (∀ q ∈ L, TermsOk ks q) ∧ ∀ H', Same H H' → Q (.bl (meetsB f L)) H'
theorem ok_l_meets {f : Addr} {fd : FuncData} (F : C8.Def K mg "_law_meets" s_l_meets f fd) (b : Binds K fd ["_law_state", "_law_row"] []) (T : Txt K mg CC CS aB) (K_l_at : C8.Cal P w K mg base 1 "_law_at" spAt []) : C8.Cal P w K mg base 2 "_law_meets" (spMeets K) [] := by
  refine C8.cal0 F b .nil sc_l_meets (fun vs H Q E h => ?_) (fun cdv A outer s H vs Q E hr h => ?_)
  · obtain ⟨d, r, ks, f, L, rfl, _⟩ := h
    rfl
  · obtain ⟨d, r, ks, f, L, rfl, hd, hR, hT, k⟩ := h
    obtain ⟨ts, hr0, hL⟩ := id hR
    refine ⟨_, (pss_cons (ps_for PassesOwn.never rfl (pi_tup (pv 1)) (pg_tup (by rfl) (pgs_cons (pg_name (i := 2) sc_l_meets.nd rfl (Or.inl rfl)) (pgs_cons (pg_name (i := 3) sc_l_meets.nd rfl (Or.inl rfl)) (pgs_cons (pg_name (i := 4) sc_l_meets.nd rfl (Or.inl rfl)) pgs_nil))))
    (pss_one (ps_if (pt_cmpR op_gt (C8.pe_c K_l_at hr (by decide) (by rfl) (pa_cons (pv 0) (pa_cons (pv 2) pa_nil))) (pe_op op_add (C8.pe_c K_l_at hr (by decide) (by rfl) (pa_cons (pv 0) (pa_cons (pv 3) pa_nil))) (pv 4)) (nomark _)) (pss_one (ps_ret pe_bl)) pss_nil)))
    (pss_one (ps_ret pe_bl))), ?_⟩
    refine ⟨_, rfl, r, rfl, ⟨_, hr0⟩, for_tup (xs := ts.map V.ref) (fun i σ H' => ∃ v2 v3 v4, σ = [some (.ref d), some (.ref r), v2, v3, v4] ∧ H' = H ∧ meetsB f (L.take i) = true) ⟨none, none, none, rfl, rfl, rfl⟩ (fun i σ H' _ h => ?_) ?_ ?_⟩
    · obtain ⟨_, _, _, _, rfl, _⟩ := h
      exact hr0
    · rintro i x σ H1 hx ⟨v2, v3, v4, rfl, rfl, hm⟩
      rw [List.getElem?_map] at hx
      obtain ⟨t, ht, rfl⟩ := Option.map_eq_some_iff.mp hx
      have hi : i < L.length := by
        rw [← hL.1]
        exact (List.getElem?_eq_some_iff.mp ht).1
      have hq := List.getElem?_eq_getElem hi
      obtain ⟨t', h1, h2⟩ := hL.2 i _ hq
      rw [ht] at h1
      cases h1
      obtain ⟨o1, o2⟩ := hT _ (List.getElem_mem hi)
      refine ⟨t, _, rfl, h2, rfl, _, _, rfl, _, _, rfl, _, _, rfl, rfl, ?_⟩
      refine ⟨_, rfl, _, rfl, d, _, ks, f, rfl, hd, o1, ?_⟩
      refine ⟨_, rfl, _, rfl, d, _, ks, f, rfl, hd, o2, _, rfl, _, _, rfl, rfl, _, _, rfl, rfl, _, rfl, ?_⟩
      have e : meetsB f (L.take (i + 1)) = (meetsB f (L.take i) && decide (vl f L[i].1 ≤ vl f L[i].2.1 + L[i].2.2)) := by
        unfold meetsB
        rw [take_snoc hq, List.all_append]
        simp
      by_cases c : vl f L[i].1 ≤ vl f L[i].2.1 + L[i].2.2
      · rw [decide_eq_false (by omega)]
        exact iteF ⟨_, _, _, rfl, rfl, by rw [e, hm, decide_eq_true c]; rfl⟩
      · rw [decide_eq_true (by omega)]
        refine iteT ?_
        have e2 : meetsB f L = false := by
          unfold meetsB
          rw [List.all_eq_false]
          exact ⟨L[i], List.getElem_mem hi, by simp; omega⟩
        have := k H1 (Same.refl H1)
        rw [e2] at this
        exact this
    · rintro σ H1 ⟨v2, v3, v4, rfl, rfl, hm⟩
      rw [List.length_map, hL.1, List.take_length] at hm
      have := k H1 (Same.refl _)
      rw [hm] at this
      exact this
def spIsIn (K : PySem.W.Frag) : Sp := fun vs H Q _ => ∃ (d p : Addr) (ks : List Str) (f : Str → Int) (R : List (List (Str × Str × Int))), vs = [.ref d, .ref p] ∧ H d = some (.dK (hk ks f)) ∧ RowsAt K H p R ∧ R.length ≤ 900 ∧ (∀ L ∈ R, OkS L ∧ ∀ q ∈ L, TermsOk ks q) ∧ ∀ H', Same H H' → Q (.bl (inB f R)) H'
theorem ok_l_is_in {f : Addr} {fd : FuncData} (F : C8.Def K mg "_law_is_in" s_l_is_in f fd) (b : Binds K fd ["_law_state", "_law_rows_here"] []) (T : Txt K mg CC CS aB) (K_l_meets : C8.Cal P w K mg base 2 "_law_meets" (spMeets K) []) : C8.Cal P w K mg base 3 "_law_is_in" (spIsIn K) [] := by
  refine C8.cal0 F b .nil sc_l_is_in (fun vs H Q E h => ?_) (fun cdv A outer s H vs Q E hr h => ?_)
  · obtain ⟨d, p, ks, f, R, rfl, _⟩ := h
    rfl
  · obtain ⟨d, p, ks, f, R, rfl, hd, hR, hlen, hT, k⟩ := h
    obtain ⟨rs, hp0, hI⟩ := id hR
    refine ⟨_, (pss_one (ps_ret (pe_cmpR (op_neD hr.units) (pe_lc (own := [("_law_row", 2)]) (g := gName 2) rfl sc_l_is_in.nd (pi_tup (pv 1)) (blkOk_by (own := [("_law_row", 2)]) (N := N_l_is_in) (sc := C8.fnScope s_l_is_in) (by decide +kernel)) (fun _ _ _ _ _ => (pg_name (i := 2) sc_l_is_in.nd rfl (Or.inl rfl))) (fun _ _ _ _ _ => (pts_one (pt_val (C8.pe_c K_l_meets hr (by decide) (by rfl) (pa_cons (pv 0) (pa_cons (pv 2) pa_nil)))))) (fun _ _ _ _ _ => (pv 2))) (pe_lst pa_nil) (nomark _)))), ?_⟩
    refine ⟨_, rfl, p, rfl, ⟨_, hp0⟩, fun D nD => lc_tup (xs := rs.map V.ref) (fun j H' => ∃ (as : List Addr) (S : List (List (Str × Str × Int))), Same H H' ∧ H' D = some (.lst (as.map V.ref)) ∧ RowsIn K H' as S ∧ S = (R.take j).filter (meetsB f)) ⟨[], [], Same.new nD, upd_same, ⟨rfl, fun j q h => (by cases h)⟩, rfl⟩ (fun i H' _ h => ?_) ?_ ?_⟩
    · obtain ⟨_, _, S, _⟩ := h
      exact Same.seqT S hp0
    · rintro i x H1 hx ⟨as, S, S1, hD, hS, eS⟩
      rw [List.getElem?_map] at hx
      obtain ⟨r, hr1, rfl⟩ := Option.map_eq_some_iff.mp hx
      have hi : i < R.length := by
        rw [← hI.1]
        exact (List.getElem?_eq_some_iff.mp hr1).1
      have hq := List.getElem?_eq_getElem hi
      obtain ⟨r', h1, h2⟩ := hI.2 i _ hq
      rw [hr1] at h1
      cases h1
      refine ⟨rfl, ?_⟩
      refine ⟨_, rfl, _, rfl, d, r, ks, f, R[i], rfl, S1 _ _ hd, h2.mono S1, (hT _ (List.getElem_mem hi)).2, fun H2 S2 => ?_⟩
      refine ⟨_, rfl, ?_⟩
      have hD2 := S2 _ _ hD
      cases hb : meetsB f R[i] with
      | false =>
        refine iteF ⟨as, S, S1.trans S2, hD2, hS.mono S2, ?_⟩
        rw [take_snoc hq, List.filter_append, eS]
        simp [hb]
      | true =>
        have hl : as.length ≤ 900 := by
          have h1 : S.length ≤ (R.take i).length := by rw [eS]; exact List.length_filter_le _ _
          rw [List.length_take] at h1
          rw [hS.1]
          omega
        refine iteT ⟨_, rfl, _, hD2, szs (by rw [List.length_map]; omega), as ++ [r], S ++ [R[i]], Same.mut (S1.trans S2) nD, by rw [upd_same, List.map_append]; rfl, ?_, ?_⟩
        · exact ((hS.mono S2).but hD2 But.upd).snoc (h2.mono (Same.mut (S1.trans S2) nD))
        · rw [take_snoc hq, List.filter_append, eS]
          simp [hb]
    · rintro H1 ⟨as, S, S1, hD, hS, eS⟩
      refine ⟨sz (by simp), fun z nz => ?_⟩
      have Sz := Same.new (o := HO.lst []) nz
      have hok : ∀ L ∈ S, OkS L := fun L hL => by
        rw [eS] at hL
        exact (hT L (List.mem_of_mem_take (List.mem_filter.mp hL).1)).1
      refine ⟨.list (S.map rowD), .list [], .lst (SqL.of (Sz _ _ hD)) (hS.mono Sz).dp, .lst (SqL.of upd_same) .nil, shaped_rows hok, by decide +kernel, ?_⟩
      have e : (!PyData.eqv (.list (S.map rowD)) (.list [])) = inB f R := by
        rw [eqv_nil, eS, List.length_map, hI.1, List.take_length]
        unfold inB
        cases hA : R.any (meetsB f) with
        | false =>
          have : R.filter (meetsB f) = [] := List.filter_eq_nil_iff.mpr fun a ha hm => by
            have := List.any_eq_false.mp hA a ha
            exact this hm
          rw [this]
          rfl
        | true =>
          obtain ⟨a, ha, hm⟩ := List.any_eq_true.mp hA
          have : (R.filter (meetsB f)).map rowD ≠ [] := fun z => by
            have := List.map_eq_nil_iff.mp z
            have h2 := List.mem_filter.mpr ⟨ha, hm⟩
            rw [this] at h2
            cases h2
          rw [decide_eq_false this]
          rfl
      rw [e]
      exact k _ (S1.trans Sz)
end
end K9

namespace K9
open PySem L2 Bx
def wordB (x : Str) : Bool := decide (1 ≤ (x.length : Int)) && decide ((x.length : Int) ≤ 8) && (Txt.isascii x && (Txt.isalpha x && Txt.islower x))
def labelB (x : Str) : Bool := wordB x && (decide (x = "value") || !decide (x ∈ barred))
theorem inV_strs (x : Str) (xs : List Str) : inV (.str x) (xs.map V.str) = decide (x ∈ xs) := by
  unfold inV
  rw [Bool.eq_iff_iff, List.any_eq_true, decide_eq_true_eq]
  constructor
  · rintro ⟨v, hv, e⟩
    obtain ⟨j, hj, rfl⟩ := List.mem_map.mp hv
    have : j = x := by simpa [eqV] using e
    exact this ▸ hj
  · intro h
    exact ⟨.str x, List.mem_map_of_mem h, by simp [eqV]⟩
theorem flat_strs (xs : List Str) : (xs.map V.str).all flatV = true := by
  rw [List.all_eq_true]
  intro v hv
  obtain ⟨j, _, rfl⟩ := List.mem_map.mp hv
  rfl
theorem pool_label : ∀ x ∈ pool, labelB x = true := by decide +kernel
section
variable {P : Program} {w : World} {K : PySem.W.Frag} {mg : Str → Option Value} {base : Heap} {CC CS aB : Addr}
/-- is it a whole number: any value whose class is known -/
def spNum (K : PySem.W.Frag) : Sp := fun vs H Q _ => ∃ (v : V) (t : Value) (a c : Bool), vs = [v] ∧ TyX K H v t ∧ PySem.W.kitOne K t (.type "int") = some a ∧ PySem.W.kitOne K t (.type "bool") = some c ∧ Q (.bl (a && !c)) H
theorem ok_is_number {f : Addr} {fd : FuncData} (F : C8.Def K mg "is_number" s_is_number f fd) (b : Binds K fd ["thing"] []) (T : Txt K mg CC CS aB) : C8.Cal P w K mg base 1 "is_number" (spNum K) [] := by
  refine C8.cal0 F b .nil sc_is_number (fun vs H Q E h => ?_) (fun cdv A outer s H vs Q E hr h => ?_)
  · obtain ⟨v, t, a, c, rfl, _⟩ := h
    rfl
  · obtain ⟨v, t, a, c, rfl, ty, ka, kc, k⟩ := h
    refine ⟨_, (pss_one (ps_ret (pe_and (pe_callB call_isi (by rfl) T.z_isinstance (by decide +kernel) (pa_cons (pv 0) (pa_cons (pe_bltn (v := .ty "int") (by rfl) T.z_int (by decide +kernel) rfl) pa_nil))) (pe_one (pe_not (pe_callB call_isi (by rfl) T.z_isinstance (by decide +kernel) (pa_cons (pv 0) (pa_cons (pe_bltn (v := .ty "bool") (by rfl) T.z_bool (by decide +kernel) rfl) pa_nil)))))))), ?_⟩
    refine ⟨_, rfl, _, _, _, _, _, rfl, .ty _, ty, ka, _, rfl, ?_⟩
    cases a with
    | false => exact iteF k
    | true => exact iteT ⟨_, rfl, _, _, _, _, _, rfl, .ty _, ty, kc, _, rfl, k⟩
/-- is it a literal: here only of good ones -/
def spLitG (K : PySem.W.Frag) : Sp := fun vs H Q _ => ∃ (p : Addr) (l r : Str) (n : Int), vs = [.ref p] ∧ SqT K H p [.str l, .str r, .int n] ∧ Q (.bl true) H
theorem ok_is_literal {f : Addr} {fd : FuncData} (F : C8.Def K mg "is_literal" s_is_literal f fd) (b : Binds K fd ["thing"] []) (T : Txt K mg CC CS aB) (K_is_number : C8.Cal P w K mg base 1 "is_number" (spNum K) []) : C8.Cal P w K mg base 2 "is_literal" (spLitG K) [] := by
  refine C8.cal0 F b .nil sc_is_literal (fun vs H Q E h => ?_) (fun cdv A outer s H vs Q E hr h => ?_)
  · obtain ⟨p, l, r, n, rfl, _⟩ := h
    rfl
  · obtain ⟨p, l, r, n, rfl, hp, k⟩ := h
    refine ⟨_, (pss_cons (ps_if (PW.pt (pw_or (pt_not (pt_val (pe_callB call_isi (by rfl) T.z_isinstance (by decide +kernel) (pa_cons (pv 0) (pa_cons (pe_bltn (v := .ty "tuple") (by rfl) T.z_tuple (by decide +kernel) rfl) pa_nil))))) (pw_or1 (pt_cmpR op_ne (pe_callB call_len_seq (by rfl) T.z_len (by decide +kernel) (pa_cons (pv 0) pa_nil)) pe_int (nomark _))))) (pss_one (ps_ret pe_bl)) pss_nil)
    (pss_cons (ps_asg (pv 0) (pg_tup (by rfl) (pgs_cons (pg_name (i := 1) sc_is_literal.nd rfl (Or.inl rfl)) (pgs_cons (pg_name (i := 2) sc_is_literal.nd rfl (Or.inl rfl)) (pgs_cons (pg_name (i := 3) sc_is_literal.nd rfl (Or.inl rfl)) pgs_nil)))))
    (pss_one (ps_ret (pe_and (pe_callB call_isi (by rfl) T.z_isinstance (by decide +kernel) (pa_cons (pv 1) (pa_cons (pe_bltn (v := .ty "str") (by rfl) T.z_str (by decide +kernel) rfl) pa_nil))) (pe_and (pe_callB call_isi (by rfl) T.z_isinstance (by decide +kernel) (pa_cons (pv 2) (pa_cons (pe_bltn (v := .ty "str") (by rfl) T.z_str (by decide +kernel) rfl) pa_nil))) (pe_one (C8.pe_c K_is_number hr (by decide) (by rfl) (pa_cons (pv 3) pa_nil))))))))), ?_⟩
    refine ⟨_, rfl, _, _, _, _, true, rfl, .ty _, tyT hp, rfl, _, rfl, ?_⟩
    refine iteF ?_
    refine ⟨_, rfl, p, _, rfl, .inr hp, rfl, _, rfl, ?_⟩
    refine iteF ?_
    refine ⟨_, rfl, p, _, rfl, hp, rfl, _, _, rfl, _, _, rfl, _, _, rfl, rfl, ?_⟩
    refine ⟨_, rfl, _, _, _, _, true, rfl, .ty _, .base (.str l), rfl, _, rfl, ?_⟩
    refine iteT ⟨_, rfl, _, _, _, _, true, rfl, .ty _, .base (.str r), rfl, _, rfl, ?_⟩
    refine iteT ⟨_, rfl, _, _, true, false, rfl, .base (.int n), rfl, rfl, ?_⟩
    exact k
/-- is it written like a name: any text -/
def spWord : Sp := fun vs H Q _ => ∃ x : Str, vs = [.str x] ∧ x.length ≤ 1000 ∧ ∀ H', Same H H' → Q (.bl (wordB x)) H'
theorem ok_is_word {f : Addr} {fd : FuncData} (F : C8.Def K mg "is_word" s_is_word f fd) (b : Binds K fd ["thing"] []) (T : Txt K mg CC CS aB) : C8.Cal P w K mg base 1 "is_word" spWord [] := by
  refine C8.cal0 F b .nil sc_is_word (fun vs H Q E h => ?_) (fun cdv A outer s H vs Q E hr h => ?_)
  · obtain ⟨x, rfl, _⟩ := h
    rfl
  · obtain ⟨x, rfl, hx, k⟩ := h
    refine ⟨_, (pss_cons (ps_if (PW.pt (pw_or (pt_not (pt_val (pe_callB call_isi (by rfl) T.z_isinstance (by decide +kernel) (pa_cons (pv 0) (pa_cons (pe_bltn (v := .ty "str") (by rfl) T.z_str (by decide +kernel) rfl) pa_nil))))) (pw_or1 (pt_not (pt_chain op_le op_le pe_int (pe_callB call_len_str (by rfl) T.z_len (by decide +kernel) (pa_cons (pv 0) pa_nil)) (C8.pe_gc (by rfl) T.c_LONGEST)))))) (pss_one (ps_ret pe_bl)) pss_nil)
    (pss_one (ps_ret (pe_and (pe_bm0 PySem.F.plainAttrs_str PySem.F.slot_str_isascii PySem.F.type_str_isascii mt_isascii (pv 0)) (pe_and (pe_bm0 PySem.F.plainAttrs_str PySem.F.slot_str_isalpha PySem.F.type_str_isalpha mt_isalpha (pv 0)) (pe_one (pe_bm0 PySem.F.plainAttrs_str PySem.F.slot_str_islower PySem.F.type_str_islower mt_islower (pv 0)))))))), ?_⟩
    refine ⟨_, rfl, _, _, _, _, true, rfl, .ty _, .base (.str _), rfl, _, rfl, ?_⟩
    refine iteF ?_
    refine ⟨_, rfl, _, rfl, sz hx, _, _, rfl, rfl, _, rfl, ?_⟩
    by_cases h1 : (1 : Int) ≤ (x.length : Int)
    · rw [decide_eq_true h1]
      refine iteT ⟨_, _, rfl, rfl, _, rfl, ?_⟩
      by_cases h2 : ((x.length : Int)) ≤ 8
      · rw [decide_eq_true h2]
        refine iteF ?_
        have k1 := k H (Same.refl H)
        unfold wordB at k1
        rw [decide_eq_true h1, decide_eq_true h2, Bool.true_and] at k1
        refine ⟨_, rfl, rfl, _, rfl, rfl, trivial, _, rfl, ?_⟩
        cases ha : Txt.isascii x with
        | false =>
          rw [ha] at k1
          simp only [Bool.false_and, Bool.true_and] at k1
          exact iteF k1
        | true =>
          rw [ha] at k1
          refine iteT ⟨_, rfl, rfl, _, rfl, rfl, trivial, _, rfl, ?_⟩
          cases hb : Txt.isalpha x with
          | false =>
            rw [hb] at k1
            simp only [Bool.false_and, Bool.true_and] at k1
            exact iteF k1
          | true =>
            rw [hb] at k1
            simp only [Bool.true_and] at k1
            exact iteT ⟨_, rfl, rfl, _, rfl, rfl, trivial, k1⟩
      · rw [decide_eq_false h2]
        refine iteT ?_
        have e : wordB x = false := by
          unfold wordB
          rw [decide_eq_false h2]
          simp
        have := k H (Same.refl H)
        rw [e] at this
        exact this
    · rw [decide_eq_false h1]
      refine iteF ⟨_, rfl, ?_⟩
      refine iteT ?_
      have e : wordB x = false := by
        unfold wordB
        rw [decide_eq_false h1]
        simp
      have := k H (Same.refl H)
      rw [e] at this
      exact this
/-- is it a label: any text -/
theorem ok_is_label {f : Addr} {fd : FuncData} (F : C8.Def K mg "is_label" s_is_label f fd) (b : Binds K fd ["thing"] []) (T : Txt K mg CC CS aB) (B : Kd.SD K w aB barred) (K_is_word : C8.Cal P w K mg base 1 "is_word" spWord []) :
    C8.Cal P w K mg base 2 "is_label" (fun vs H Q _ => ∃ x : Str, vs = [.str x] ∧ x.length ≤ 1000 ∧ ∀ H', Same H H' → Q (.bl (labelB x)) H') [] := by
  refine C8.cal0 F b .nil sc_is_label (fun vs H Q E h => ?_) (fun cdv A outer s H vs Q E hr h => ?_)
  · obtain ⟨x, rfl, _⟩ := h
    rfl
  · obtain ⟨x, rfl, hx, k⟩ := h
    refine ⟨_, (pss_one (ps_ret (pe_and (C8.pe_c K_is_word hr (by decide) (by rfl) (pa_cons (pv 0) pa_nil)) (pe_one (pe_or (pe_cmpR op_eq (pv 0) pe_str (nomark _)) (pe_one (pe_cmpR (Kd.op_notInSD B) (pv 0) (C8.pe_gc (by rfl) T.c_BARRED) (by rfl)))))))), ?_⟩
    refine ⟨_, rfl, x, rfl, hx, fun H1 S1 => ?_⟩
    have k1 := k H1 S1
    unfold labelB at k1
    refine ⟨_, rfl, ?_⟩
    cases hw : wordB x with
    | false =>
      rw [hw] at k1
      exact iteF k1
    | true =>
      rw [hw, Bool.true_and] at k1
      refine iteT ⟨_, rfl, rfl, _, rfl, ?_⟩
      by_cases hv : x = "value"
      · rw [decide_eq_true (congrArg V.str hv)]
        rw [decide_eq_true hv, Bool.true_or] at k1
        exact iteT k1
      · rw [decide_eq_false fun z => hv (V.str.inj z)]
        rw [decide_eq_false hv, Bool.false_or] at k1
        exact iteF ⟨_, rfl, _, rfl, rfl, k1⟩
def spLabels (K : PySem.W.Frag) : Sp := fun vs H Q _ => ∃ (p : Addr) (xs : List Str), vs = [.ref p] ∧ SqT K H p (xs.map V.str) ∧ xs.length ≤ 900 ∧ (∀ x ∈ xs, x.length ≤ 1000) ∧ (∀ x ∈ xs, labelB x = true) ∧ xs.Nodup ∧ ∀ H', Same H H' → Q (.bl true) H'
theorem ok_are_different {f : Addr} {fd : FuncData} (F : C8.Def K mg "are_different" s_are_different f fd) (b : Binds K fd ["things"] []) (T : Txt K mg CC CS aB) : C8.Cal P w K mg base 1 "are_different" (spLabels K) [] := by
  refine C8.cal0 F b .nil sc_are_different (fun vs H Q E h => ?_) (fun cdv A outer s H vs Q E hr h => ?_)
  · obtain ⟨p, xs, rfl, _⟩ := h
    rfl
  · obtain ⟨p, xs, rfl, hp, hl, _, _, nd, k⟩ := h
    refine ⟨_, (pss_one (ps_ret (pe_cmpR op_eq (Tx.pe_lenSetX T.z_len T.z_set (pv 0)) (pe_callB call_len_seq (by rfl) T.z_len (by decide +kernel) (pa_cons (pv 0) pa_nil)) (nomark _)))), ?_⟩
    refine ⟨_, rfl, p, xs, rfl, hp, by omega, fun out no mo => ⟨_, rfl, p, _, rfl, .inr hp, rfl, ?_⟩⟩
    have e : out.length = xs.length := Nat.le_antisymm (Bf.len_le no fun k hk => (mo k).mp hk) (Bf.len_le nd fun k hk => (mo k).mpr hk)
    show Q (.bl (decide (V.int (out.length : Nat) = V.int ((xs.map V.str).length : Nat)))) H
    rw [e, List.length_map, decide_eq_true rfl]
    exact k H (Same.refl H)
theorem ok_are_labels {f : Addr} {fd : FuncData} (F : C8.Def K mg "are_labels" s_are_labels f fd) (b : Binds K fd ["thing"] []) (T : Txt K mg CC CS aB)
    (K_is_label : C8.Cal P w K mg base 2 "is_label" (fun vs H Q _ => ∃ x : Str, vs = [.str x] ∧ x.length ≤ 1000 ∧ ∀ H', Same H H' → Q (.bl (labelB x)) H') []) (K_are_different : C8.Cal P w K mg base 1 "are_different" (spLabels K) []) : C8.Cal P w K mg base 3 "are_labels" (spLabels K) [] := by
  refine C8.cal0 F b .nil sc_are_labels (fun vs H Q E h => ?_) (fun cdv A outer s H vs Q E hr h => ?_)
  · obtain ⟨p, xs, rfl, _⟩ := h
    rfl
  · obtain ⟨p, xs, rfl, hp, hl, h1000, hL, nd, k⟩ := h
    refine ⟨_, (pss_one (ps_ret (pe_and (pe_callB call_isi (by rfl) T.z_isinstance (by decide +kernel) (pa_cons (pv 0) (pa_cons (pe_bltn (v := .ty "tuple") (by rfl) T.z_tuple (by decide +kernel) rfl) pa_nil))) (pe_and (pe_callB (cr_all rfl) (by rfl) T.z_all (by decide +kernel) (pa_cons (pe_lc (own := [("part", 1)]) (g := gName 1) (tt := tYes) rfl sc_are_labels.nd (pi_tup (pv 0)) (blkOk_by (own := [("part", 1)]) (N := N_are_labels) (sc := C8.fnScope s_are_labels) (by decide +kernel)) (fun _ _ _ _ _ => (pg_name (i := 1) sc_are_labels.nd rfl (Or.inl rfl))) (fun _ _ _ _ _ => pts_nil) (fun _ _ _ _ _ => (C8.pe_c K_is_label hr (by decide) (by rfl) (pa_cons (pv 1) pa_nil)))) pa_nil)) (pe_one (C8.pe_c K_are_different hr (by decide) (by rfl) (pa_cons (pv 0) pa_nil))))))), ?_⟩
    refine ⟨_, rfl, _, _, _, _, true, rfl, .ty _, tyT hp, rfl, _, rfl, ?_⟩
    refine iteT ?_
    refine ⟨_, rfl, p, rfl, ⟨_, hp⟩, fun D nD => lc_tup (xs := xs.map V.str) (fun j H' => Same H H' ∧ H' D = some (.lst ((List.replicate j true).map V.bl))) ⟨Same.new nD, upd_same⟩ (fun i H' _ h => Same.seqT h.1 hp) ?_ ?_⟩
    · rintro i x H1 hx ⟨S1, h1⟩
      rw [List.getElem?_map] at hx
      obtain ⟨t, ht, rfl⟩ := Option.map_eq_some_iff.mp hx
      have hi := (List.getElem?_eq_some_iff.mp ht).1
      have hm := List.mem_of_getElem? ht
      refine ⟨rfl, ?_⟩
      refine ⟨_, rfl, t, rfl, h1000 t hm, fun H2 S2 => ⟨_, S2 _ _ h1, szs (by simp; omega), (Same.mut (Same.trans S1 S2) nD), ?_⟩⟩
      rw [upd_same, hL t hm, List.replicate_succ', List.map_append]
      rfl
    · rintro H1 ⟨S1, h1⟩
      refine ⟨D, _, rfl, SqL.of h1, _, rfl, ?_⟩
      have e : (List.replicate (xs.map V.str).length true).all id = true := by simp
      rw [e]
      refine iteT ?_
      exact ⟨_, rfl, p, xs, rfl, Same.seqT S1 hp, hl, h1000, hL, nd, fun H' S => k H' (S1.trans S)⟩
/-- does a dict give integers to just the names: here of good ones -/
def spNumbers (K : PySem.W.Frag) : Sp := fun vs H Q _ => ∃ (d p : Addr) (ks ns : List Str) (f : Str → Int), vs = [.ref d, .ref p] ∧ H d = some (.dK (hk ks f)) ∧ SqT K H p (ns.map V.str) ∧ ks.length = ns.length ∧ ns.length ≤ 900 ∧ (∀ x ∈ ns, x ∈ ks) ∧ ∀ H', Same H H' → Q (.bl true) H'
theorem ok_are_numbers {f : Addr} {fd : FuncData} (F : C8.Def K mg "are_numbers" s_are_numbers f fd) (b : Binds K fd ["thing", "names"] []) (T : Txt K mg CC CS aB) (K_is_number : C8.Cal P w K mg base 1 "is_number" (spNum K) []) : C8.Cal P w K mg base 2 "are_numbers" (spNumbers K) [] := by
  refine C8.cal0 F b .nil sc_are_numbers (fun vs H Q E h => ?_) (fun cdv A outer s H vs Q E hr h => ?_)
  · obtain ⟨d, p, ks, ns, f, rfl, _⟩ := h
    rfl
  · obtain ⟨d, p, ks, ns, f, rfl, hd, hp, hl, h900, hm, k⟩ := h
    have hu := hu_of hr
    refine ⟨_, (pss_cons (ps_if (PW.pt (pw_or (pt_not (pt_val (pe_callB call_isi (by rfl) T.z_isinstance (by decide +kernel) (pa_cons (pv 0) (pa_cons (pe_bltn (v := .ty "dict") (by rfl) T.z_dict (by decide +kernel) rfl) pa_nil))))) (pw_or1 (pt_cmpR op_ne (pe_callB call_lenD (by rfl) T.z_len (by decide +kernel) (pa_cons (pv 0) pa_nil)) (pe_callB call_len_seq (by rfl) T.z_len (by decide +kernel) (pa_cons (pv 1) pa_nil)) (nomark _))))) (pss_one (ps_ret pe_bl)) pss_nil)
    (pss_one (ps_ret (pe_callB (cr_all rfl) (by rfl) T.z_all (by decide +kernel) (pa_cons (pe_lc (own := [("name", 2)]) (g := gName 2) (tt := tYes) rfl sc_are_numbers.nd (pi_tup (pv 1)) (blkOk_by (own := [("name", 2)]) (N := N_are_numbers) (sc := C8.fnScope s_are_numbers) (by decide +kernel)) (fun _ _ _ _ _ => (pg_name (i := 2) sc_are_numbers.nd rfl (Or.inl rfl))) (fun _ _ _ _ _ => pts_nil) (fun _ _ _ _ _ => (pe_and (pe_cmp (pc_din hu (pv 2) (pv 0)) rfl) (pe_one (C8.pe_c K_is_number hr (by decide) (by rfl) (pa_cons (pe_dget hu (pv 0) (pv 2) (fun _ _ => rfl)) pa_nil)))))) pa_nil))))), ?_⟩
    refine ⟨_, rfl, _, _, _, _, true, rfl, .ty _, .base (.dK hd), rfl, _, rfl, ?_⟩
    refine iteF ?_
    refine ⟨_, rfl, d, _, rfl, hd, _, rfl, p, _, rfl, .inr hp, rfl, _, rfl, ?_⟩
    have e0 : (!decide (V.int ((hk ks f).length : Nat) = V.int ((ns.map V.str).length : Nat))) = false := by
      rw [hk_len, List.length_map, hl, decide_eq_true rfl]
      rfl
    rw [e0]
    refine iteF ?_
    refine ⟨_, rfl, p, rfl, ⟨_, hp⟩, fun D nD => lc_tup (xs := ns.map V.str) (fun j H' => Same H H' ∧ H' D = some (.lst ((List.replicate j true).map V.bl))) ⟨Same.new nD, upd_same⟩ (fun i H' _ h => Same.seqT h.1 hp) ?_ ?_⟩
    · rintro i x H1 hx ⟨S1, h1⟩
      rw [List.getElem?_map] at hx
      obtain ⟨t, ht, rfl⟩ := Option.map_eq_some_iff.mp hx
      have hi := (List.getElem?_eq_some_iff.mp ht).1
      have htk := hm t (List.mem_of_getElem? ht)
      refine ⟨rfl, ?_⟩
      refine ⟨_, rfl, _, rfl, d, _, rfl, DGet.k (k := Sum.inr t) (S1 _ _ hd), ?_⟩
      rw [hk_get htk]
      refine ⟨_, rfl, iteT ⟨_, rfl, _, rfl, d, .int (f t), rfl, dget_hk (S1 _ _ hd) htk, _, _, true, false, rfl, .base (.int (f t)), rfl, rfl, _, h1, szs (by simp; omega), Same.mut S1 nD, ?_⟩⟩
      rw [upd_same, List.replicate_succ', List.map_append]
      rfl
    · rintro H1 ⟨S1, h1⟩
      refine ⟨D, _, rfl, SqL.of h1, ?_⟩
      have e : (List.replicate (ns.map V.str).length true).all id = true := by simp
      rw [e]
      exact k H1 S1
/-- is it a literal over the names: here of good ones -/
def spOver (K : PySem.W.Frag) : Sp := fun vs H Q _ => ∃ (t p : Addr) (ns : List Str) (q : Str × Str × Int), vs = [.ref t, .ref p] ∧ SqT K H t [.str q.1, .str q.2.1, .int q.2.2] ∧ SqT K H p (ns.map V.str) ∧ TermsOk ns q ∧ ∀ H', Same H H' → Q (.bl true) H'
theorem ok_is_over {f : Addr} {fd : FuncData} (F : C8.Def K mg "is_over" s_is_over f fd) (b : Binds K fd ["literal", "names"] []) (T : Txt K mg CC CS aB) (K_is_literal : C8.Cal P w K mg base 2 "is_literal" (spLitG K) []) : C8.Cal P w K mg base 3 "is_over" (spOver K) [] := by
  refine C8.cal0 F b .nil sc_is_over (fun vs H Q E h => ?_) (fun cdv A outer s H vs Q E hr h => ?_)
  · obtain ⟨t, p, ns, q, rfl, _⟩ := h
    rfl
  · obtain ⟨t, p, ns, q, rfl, ht, hp, ⟨o1, o2⟩, k⟩ := h
    refine ⟨_, (pss_cons (ps_if (pt_not (pt_val (C8.pe_c K_is_literal hr (by decide) (by rfl) (pa_cons (pv 0) pa_nil)))) (pss_one (ps_ret pe_bl)) pss_nil)
    (pss_one (ps_ret (pe_callB (cr_all rfl) (by rfl) T.z_all (by decide +kernel) (pa_cons (pe_lc (own := [("term", 2)]) (g := gName 2) (tt := tYes) rfl sc_is_over.nd (pi_tup (pe_slice sl_tupU (pv 0) po_none (po_some pe_int))) (blkOk_by (own := [("term", 2)]) (N := N_is_over) (sc := C8.fnScope s_is_over) (by decide +kernel)) (fun _ _ _ _ _ => (pg_name (i := 2) sc_is_over.nd rfl (Or.inl rfl))) (fun _ _ _ _ _ => pts_nil) (fun _ _ _ _ _ => (pe_or (pe_cmpR op_eq (pv 2) pe_str (nomark _)) (pe_one (pe_cmpR (inK K) (pv 2) (pv 1) (by rfl)))))) pa_nil))))), ?_⟩
    refine ⟨_, rfl, t, _, _, _, rfl, ht, _, rfl, ?_⟩
    refine iteF ?_
    refine ⟨_, rfl, _, rfl, t, _, rfl, ht, fun c H1 S1 hc => ?_⟩
    have ec : cutV [V.str q.1, V.str q.2.1, V.int q.2.2] none (some 2) = [V.str q.1, V.str q.2.1] := by rfl
    rw [ec] at hc
    refine ⟨c, rfl, ⟨_, hc⟩, fun D nD => lc_tup (xs := [V.str q.1, V.str q.2.1]) (fun j H' => Same H1 H' ∧ H' D = some (.lst ((List.replicate j true).map V.bl))) ⟨Same.new nD, upd_same⟩ (fun i H' _ h => Same.seqT h.1 hc) ?_ ?_⟩
    · rintro i x H2 hx ⟨S2, h1⟩
      obtain ⟨z, rfl, oz, hi⟩ : ∃ z : Str, x = .str z ∧ (z = "" ∨ z ∈ ns) ∧ i < 2 := by
        match i, hx with
        | 0, hx => exact ⟨q.1, (Option.some.inj hx).symm, o1, by decide⟩
        | 1, hx => exact ⟨q.2.1, (Option.some.inj hx).symm, o2, by decide⟩
      refine ⟨rfl, ?_⟩
      have fin : ∃ acc, H2 D = some (.lst acc) ∧ acc.length < sizeLine ∧ Same H1 (upd H2 D (.lst (acc ++ [V.bl true]))) ∧ (upd H2 D (.lst (acc ++ [V.bl true]))) D = some (.lst ((List.replicate (i + 1) true).map V.bl)) := by
        refine ⟨_, h1, szs (by simp; omega), Same.mut S2 nD, ?_⟩
        rw [upd_same, List.replicate_succ', List.map_append]
        rfl
      refine ⟨_, rfl, rfl, _, rfl, ?_⟩
      by_cases e : z = ""
      · rw [decide_eq_true (congrArg V.str e)]
        exact iteT fin
      · rw [decide_eq_false fun y => e (V.str.inj y)]
        refine iteF ⟨_, rfl, _, rfl, p, _, rfl, .inr (Same.seqT (S1.trans S2) hp), rfl, flat_strs _, ?_⟩
        rw [inV_strs, decide_eq_true (oz.resolve_left e)]
        exact fin
    · rintro H2 ⟨S2, h1⟩
      refine ⟨D, _, rfl, SqL.of h1, ?_⟩
      have e : (List.replicate ([V.str q.1, V.str q.2.1] : List V).length true).all id = true := by rfl
      rw [e]
      exact k H2 (S1.trans S2)
/-- is it a tuple of rows over the names: here of good ones -/
def spRowsOk (K : PySem.W.Frag) : Sp := fun vs H Q _ => ∃ (r p : Addr) (ns : List Str) (R : List (List (Str × Str × Int))), vs = [.ref r, .ref p] ∧ RowsAt K H r R ∧ SqT K H p (ns.map V.str) ∧ (∀ L ∈ R, L.length ≤ 900 ∧ ∀ q ∈ L, TermsOk ns q) ∧ ∀ H', Same H H' → Q (.bl true) H'
theorem ok_are_rows {f : Addr} {fd : FuncData} (F : C8.Def K mg "are_rows" s_are_rows f fd) (b : Binds K fd ["rows", "names"] []) (T : Txt K mg CC CS aB) (K_is_over : C8.Cal P w K mg base 3 "is_over" (spOver K) []) : C8.Cal P w K mg base 4 "are_rows" (spRowsOk K) [] := by
  refine C8.cal0 F b .nil sc_are_rows (fun vs H Q E h => ?_) (fun cdv A outer s H vs Q E hr h => ?_)
  · obtain ⟨r, p, ns, R, rfl, _⟩ := h
    rfl
  · obtain ⟨r, p, ns, R, rfl, ⟨rs, hr0, hR⟩, hp, hT, k⟩ := h
    refine ⟨_, (pss_cons (ps_if (pt_not (pt_val (pe_callB call_isi (by rfl) T.z_isinstance (by decide +kernel) (pa_cons (pv 0) (pa_cons (pe_bltn (v := .ty "tuple") (by rfl) T.z_tuple (by decide +kernel) rfl) pa_nil))))) (pss_one (ps_ret pe_bl)) pss_nil)
    (pss_cons (ps_for PassesOwn.never rfl (pi_tup (pv 0)) (pg_name (i := 2) sc_are_rows.nd rfl (Or.inl rfl))
    (pss_one (ps_if (PW.pt (pw_or (pt_not (pt_val (pe_callB call_isi (by rfl) T.z_isinstance (by decide +kernel) (pa_cons (pv 2) (pa_cons (pe_bltn (v := .ty "tuple") (by rfl) T.z_tuple (by decide +kernel) rfl) pa_nil))))) (pw_or1 (pt_not (pt_val (pe_callB (cr_all rfl) (by rfl) T.z_all (by decide +kernel) (pa_cons (pe_lc (own := [("literal", 3)]) (g := gName 3) (tt := tYes) rfl sc_are_rows.nd (pi_tup (pv 2)) (blkOk_by (own := [("literal", 3)]) (N := N_are_rows) (sc := C8.fnScope s_are_rows) (by decide +kernel)) (fun _ _ _ _ _ => (pg_name (i := 3) sc_are_rows.nd rfl (Or.inl rfl))) (fun _ _ _ _ _ => pts_nil) (fun _ _ _ _ _ => (C8.pe_c K_is_over hr (by decide) (by rfl) (pa_cons (pv 3) (pa_cons (pv 1) pa_nil))))) pa_nil))))))) (pss_one (ps_ret pe_bl)) pss_nil)))
    (pss_one (ps_ret pe_bl)))), ?_⟩
    refine ⟨_, rfl, _, _, _, _, true, rfl, .ty _, tyT hr0, rfl, _, rfl, ?_⟩
    refine iteF ?_
    refine ⟨_, rfl, r, rfl, ⟨_, hr0⟩, for_tup (xs := rs.map V.ref) (fun i σ H' => ∃ v2 v3, σ = [some (.ref r), some (.ref p), v2, v3] ∧ Same H H') ⟨none, none, rfl, Same.refl H⟩ (fun i σ H' _ h => ?_) ?_ ?_⟩
    · obtain ⟨_, _, _, S⟩ := h
      exact Same.seqT S hr0
    · rintro i x σ H1 hx ⟨v2, v3, rfl, S1⟩
      rw [List.getElem?_map] at hx
      obtain ⟨y, hy, rfl⟩ := Option.map_eq_some_iff.mp hx
      have hi : i < R.length := by
        rw [← hR.1]
        exact (List.getElem?_eq_some_iff.mp hy).1
      obtain ⟨y', h1, h2⟩ := hR.2 i _ (List.getElem?_eq_getElem hi)
      rw [hy] at h1
      cases h1
      obtain ⟨ts, hts, hL⟩ := h2.mono S1
      obtain ⟨hlen, hT1⟩ := hT _ (List.getElem_mem hi)
      refine ⟨_, rfl, _, _, _, _, true, rfl, .ty _, tyT hts, rfl, _, rfl, ?_⟩
      refine iteF ?_
      refine ⟨_, rfl, y, rfl, ⟨_, hts⟩, fun D nD => lc_tup (xs := ts.map V.ref) (fun j H' => Same H1 H' ∧ H' D = some (.lst ((List.replicate j true).map V.bl))) ⟨Same.new nD, upd_same⟩ (fun i H' _ h => Same.seqT h.1 hts) ?_ ?_⟩
      · rintro j x H2 hx ⟨S2, h1⟩
        rw [List.getElem?_map] at hx
        obtain ⟨t, ht, rfl⟩ := Option.map_eq_some_iff.mp hx
        have hj : j < R[i].length := by
          rw [← hL.1]
          exact (List.getElem?_eq_some_iff.mp ht).1
        obtain ⟨t', h3, h4⟩ := hL.2 j _ (List.getElem?_eq_getElem hj)
        rw [ht] at h3
        cases h3
        refine ⟨rfl, ?_⟩
        refine ⟨_, rfl, _, rfl, t, p, ns, _, rfl, Same.seqT S2 h4, Same.seqT (S1.trans S2) hp, hT1 _ (List.getElem_mem hj), fun H3 S3 => ⟨_, S3 _ _ h1, szs (by simp; omega), Same.mut (S2.trans S3) nD, ?_⟩⟩
        rw [upd_same, List.replicate_succ', List.map_append]
        rfl
      · rintro H2 ⟨S2, h1⟩
        refine ⟨D, _, rfl, SqL.of h1, ?_⟩
        have e : (List.replicate (ts.map V.ref).length true).all id = true := by simp
        rw [e]
        refine ⟨_, rfl, ?_⟩
        exact iteF ⟨_, _, rfl, S1.trans S2⟩
    · rintro σ H1 ⟨v2, v3, rfl, S1⟩
      exact k H1 S1
end
end K9

namespace K9
open PySem L2 Bx
def optV : Option Int → V
  | none => .non
  | some c => .int c
def rowV (d : Zn.Z) (m i : Nat) : List V := (List.range m).map fun j => optV (d i j)
theorem rowV_len (d : Zn.Z) (m i : Nat) : (rowV d m i).length = m := by
  unfold rowV
  rw [List.length_map, List.length_range]
theorem rowV_at {d : Zn.Z} {m i j : Nat} (hj : j < m) : (rowV d m i)[j]? = some (optV (d i j)) := by
  unfold rowV
  rw [List.getElem?_map, List.getElem?_range hj]
  rfl
/-- a zone over m integers -/
def IsZ (K : PySem.W.Frag) (H : Hp) (z : Addr) (m : Nat) (d : Zn.Z) : Prop := ∃ rs : List Addr, SqT K H z (rs.map V.ref) ∧ rs.length = m ∧ ∀ (i : Nat) (r : Addr), rs[i]? = some r → SqT K H r (rowV d m i)
theorem IsZ.mono {K : PySem.W.Frag} {H H' : Hp} {z : Addr} {m : Nat} {d : Zn.Z} (e : Same H H') (h : IsZ K H z m d) : IsZ K H' z m d := h.imp fun rs x => ⟨Same.seqT e x.1, x.2.1, fun i r hr => Same.seqT e (x.2.2 i r hr)⟩
theorem IsZ.row {K : PySem.W.Frag} {H : Hp} {z : Addr} {m : Nat} {d : Zn.Z} (h : IsZ K H z m d) : ∃ xs, SqT K H z xs ∧ xs.length = m ∧ ∀ i, i < m → ∃ r, xs[i]? = some (.ref r) ∧ SqT K H r (rowV d m i) := by
  obtain ⟨rs, h1, h2, h3⟩ := h
  refine ⟨rs.map V.ref, h1, by rw [List.length_map, h2], fun i hi => ?_⟩
  have e := List.getElem?_eq_getElem (l := rs) (i := i) (by omega)
  exact ⟨rs[i], by rw [List.getElem?_map, e]; rfl, h3 i _ e⟩
def LitZ (K : PySem.W.Frag) (H : Hp) (l : Addr) (q : Zn.Lit) : Prop := SqT K H l [.int (q.1 : Nat), .int (q.2.1 : Nat), .int q.2.2]
theorem LitZ.mono {K : PySem.W.Frag} {H H' : Hp} {l : Addr} {q : Zn.Lit} (e : Same H H') (h : LitZ K H l q) : LitZ K H' l q := Same.seqT e h
theorem ixN_nat {n j : Nat} (h : j < n) : ixN n (j : Int) = some j := by
  unfold ixN
  rw [if_pos (Int.natCast_nonneg j), if_pos (by omega)]
  rfl
/-- a number shortened -/
def shv (s c : Int) : Option Int → Option Int
  | none => some (s + c)
  | some o => if s + c < o then some (s + c) else some o
def sh1 (os : List (Option Int)) (s : Int) (fs : List (Option Int)) (p : Nat × Int) : List (Option Int) := match os.getD p.1 none with
  | none => fs.set p.1 (some (s + p.2))
  | some o => if s + p.2 < o then fs.set p.1 (some (s + p.2)) else fs
theorem sh1_len (os : List (Option Int)) (s : Int) (fs : List (Option Int)) (p : Nat × Int) : (sh1 os s fs p).length = fs.length := by
  unfold sh1
  split
  · rw [List.length_set]
  · split
    · rw [List.length_set]
    · rfl
theorem fold_len (os : List (Option Int)) (s : Int) : ∀ (T : List (Nat × Int)) (fs : List (Option Int)), (T.foldl (sh1 os s) fs).length = fs.length
  | [], _ => rfl
  | p :: T, fs => by rw [List.foldl_cons, fold_len os s T, sh1_len]
theorem sh1_other {os : List (Option Int)} {s : Int} {fs : List (Option Int)} {p : Nat × Int} {v : Nat} (h : v ≠ p.1) : (sh1 os s fs p)[v]? = fs[v]? := by
  unfold sh1
  split
  · rw [List.getElem?_set_ne (fun e => h e.symm)]
  · split
    · rw [List.getElem?_set_ne (fun e => h e.symm)]
    · rfl
theorem sh1_at {os : List (Option Int)} {s : Int} {fs : List (Option Int)} {p : Nat × Int} (hl : p.1 < os.length) (hf : fs[p.1]? = os[p.1]?) : (sh1 os s fs p)[p.1]? = (os[p.1]?).map (shv s p.2) := by
  have hlf : p.1 < fs.length := by
    rw [List.getElem?_eq_getElem hl] at hf
    exact (List.getElem?_eq_some_iff.mp hf).1
  unfold sh1
  rw [List.getD_eq_getElem?_getD]
  rw [List.getElem?_eq_getElem hl] at hf ⊢
  cases q : os[p.1] with
  | none =>
    show (fs.set p.1 (some (s + p.2)))[p.1]? = _
    rw [List.getElem?_set_self hlf]
    rfl
  | some o =>
    rw [q] at hf
    show (if s + p.2 < o then fs.set p.1 (some (s + p.2)) else fs)[p.1]? = some (if s + p.2 < o then some (s + p.2) else some o)
    by_cases c : s + p.2 < o
    · rw [if_pos c, if_pos c, List.getElem?_set_self hlf]
    · rw [if_neg c, if_neg c, hf]
theorem fold_other {os : List (Option Int)} {s : Int} {v : Nat} : ∀ {T : List (Nat × Int)} {fs : List (Option Int)}, v ∉ T.map Prod.fst → (T.foldl (sh1 os s) fs)[v]? = fs[v]?
  | [], _, _ => rfl
  | p :: T, fs, h => by
    rw [List.map_cons, List.mem_cons, not_or] at h
    rw [List.foldl_cons, fold_other h.2, sh1_other h.1]
theorem fold_at {os : List (Option Int)} {s : Int} : ∀ {T : List (Nat × Int)} {fs : List (Option Int)}, (T.map Prod.fst).Nodup → (∀ p ∈ T, p.1 < os.length) → (∀ p ∈ T, fs[p.1]? = os[p.1]?) → ∀ p ∈ T, (T.foldl (sh1 os s) fs)[p.1]? = (os[p.1]?).map (shv s p.2)
  | [], _, _, _, _, p, h => by cases h
  | q :: T, fs, nd, hl, hf, p, h => by
    rw [List.map_cons, List.nodup_cons] at nd
    rw [List.foldl_cons]
    rcases List.mem_cons.mp h with e | h
    · subst e
      rw [fold_other nd.1, sh1_at (hl _ List.mem_cons_self) (hf _ List.mem_cons_self)]
    · refine fold_at nd.2 (fun r hr => hl r (List.mem_cons_of_mem _ hr)) (fun r hr => ?_) p h
      rw [sh1_other, hf r (List.mem_cons_of_mem _ hr)]
      intro e
      exact nd.1 (e ▸ List.mem_map_of_mem hr)
/-- what is taken of a row -/
def tailN (row : Nat → Option Int) (n : Int) (i : Nat) : List (Nat × Int) := (List.range i).filterMap fun k => (row k).map fun c => (k, c + n)
theorem tail_mem {row : Nat → Option Int} {n : Int} {i : Nat} {p : Nat × Int} : p ∈ tailN row n i ↔ p.1 < i ∧ ∃ c, row p.1 = some c ∧ p.2 = c + n := by
  unfold tailN
  rw [List.mem_filterMap]
  constructor
  · rintro ⟨k, hk, e⟩
    obtain ⟨c, hc, e2⟩ := Option.map_eq_some_iff.mp e
    subst e2
    exact ⟨List.mem_range.mp hk, c, hc, rfl⟩
  · rintro ⟨hk, c, hc, e⟩
    exact ⟨p.1, List.mem_range.mpr hk, by rw [hc, Option.map_some, ← e]⟩
theorem tail_succ (row : Nat → Option Int) (n : Int) (i : Nat) : tailN row n (i + 1) = tailN row n i ++ (match row i with | none => [] | some c => [(i, c + n)]) := by
  unfold tailN
  rw [List.range_succ, List.filterMap_append]
  congr 1
  cases h : row i <;> simp [h]
theorem tail_nodup (row : Nat → Option Int) (n : Int) : ∀ i, ((tailN row n i).map Prod.fst).Nodup
  | 0 => by simp [tailN]
  | i + 1 => by
    rw [tail_succ, List.map_append]
    refine List.nodup_append.mpr ⟨tail_nodup row n i, ?_, ?_⟩
    · cases row i <;> simp
    · intro a ha b hb e
      obtain ⟨p, hp, rfl⟩ := List.mem_map.mp ha
      have h1 := (tail_mem.mp hp).1
      cases h : row i with
      | none => rw [h] at hb; simp at hb
      | some c =>
        rw [h] at hb
        have : b = i := by simpa using hb
        omega
theorem tail_len (row : Nat → Option Int) (n : Int) (i : Nat) : (tailN row n i).length ≤ i := by
  have h : (tailN row n i).length ≤ (List.range i).length := List.length_filterMap_le _ _
  rw [List.length_range] at h
  exact h
/-- all numbers of a row shortened by a tail -/
theorem short_row {d : Zn.Z} {q : Zn.Lit} {m i : Nat} {a : Int} (ha : d i q.1 = some a) : ((tailN (d q.2.1) q.2.2 m).foldl (sh1 ((List.range m).map (d i)) a) ((List.range m).map (d i))).map optV = rowV (Zn.metD d q) m i := by
  have e : (tailN (d q.2.1) q.2.2 m).foldl (sh1 ((List.range m).map (d i)) a) ((List.range m).map (d i)) = (List.range m).map (Zn.metD d q i) := by
    refine List.ext_getElem? fun v => ?_
    by_cases hv : v < m
    · have g : ∀ f : Nat → Option Int, ((List.range m).map f)[v]? = some (f v) := fun f => by rw [List.getElem?_map, List.getElem?_range hv]; rfl
      cases hr : d q.2.1 v with
      | none =>
        rw [fold_other, g, g]
        · unfold Zn.metD Zn.sh
          rw [ha, hr]
        · intro h
          obtain ⟨p, hp, rfl⟩ := List.mem_map.mp h
          obtain ⟨_, c, hc, _⟩ := tail_mem.mp hp
          rw [hr] at hc
          cases hc
      | some c =>
        have := fold_at (os := (List.range m).map (d i)) (s := a) (T := tailN (d q.2.1) q.2.2 m) (fs := (List.range m).map (d i)) (tail_nodup _ _ _) (fun p hp => by simpa using (tail_mem.mp hp).1) (fun _ _ => rfl) (v, c + q.2.2) (tail_mem.mpr ⟨hv, c, hr, rfl⟩)
        rw [this]
        show (((List.range m).map (d i))[v]?).map (shv a (c + q.2.2)) = _
        rw [g, g]
        show some (shv a (c + q.2.2) (d i v)) = some (Zn.metD d q i v)
        unfold Zn.metD
        rw [ha, hr]
        have e3 : a + (c + q.2.2) = a + q.2.2 + c := by omega
        cases ho : d i v with
        | none => simp [shv, Zn.sh, e3]
        | some o =>
          simp only [shv, Zn.sh, e3]
          by_cases c1 : o ≤ a + q.2.2 + c
          · rw [if_pos c1, if_neg (by omega)]
          · rw [if_neg c1, if_pos (by omega)]
    · rw [List.getElem?_eq_none (by rw [fold_len]; simp; omega), List.getElem?_eq_none (by simp; omega)]
  rw [e]
  unfold rowV
  rw [List.map_map]
  rfl
theorem rowV_map (d : Zn.Z) (m i : Nat) : rowV d m i = ((List.range m).map (d i)).map optV := by
  unfold rowV
  rw [List.map_map]
  rfl
def TailAt (K : PySem.W.Frag) (H : Hp) (us : List Addr) (T : List (Nat × Int)) : Prop := us.length = T.length ∧ ∀ (j : Nat) (p : Nat × Int), T[j]? = some p → ∃ u, us[j]? = some u ∧ SqT K H u [.int (p.1 : Nat), .int p.2]
theorem TailAt.mono {K : PySem.W.Frag} {H H' : Hp} {us : List Addr} {T : List (Nat × Int)} (e : Same H H') (h : TailAt K H us T) : TailAt K H' us T := ⟨h.1, fun j p hj => (h.2 j p hj).imp fun u x => ⟨x.1, Same.seqT e x.2⟩⟩
section
variable {P : Program} {w : World} {K : PySem.W.Frag} {mg : Str → Option Value} {base : Heap} {CC CS aB : Addr}
def spShort (K : PySem.W.Frag) : Sp := fun vs H Q _ => ∃ (r t : Addr) (s : Int) (os : List (Option Int)) (us : List Addr) (T : List (Nat × Int)), vs = [.ref r, .int s, .ref t] ∧ SqT K H r (os.map optV) ∧ SqL K H t (us.map V.ref) ∧ TailAt K H us T ∧ (∀ p ∈ T, p.1 < os.length) ∧ os.length ≤ 900 ∧
  ∀ p H', Same H H' → SqT K H' p ((T.foldl (sh1 os s) os).map optV) → Q (.ref p) H'
theorem ok_shortened {f : Addr} {fd : FuncData} (F : C8.Def K mg "shortened" s_shortened f fd) (b : Binds K fd ["row", "start", "tail"] []) (T : Txt K mg CC CS aB) : C8.Cal P w K mg base 1 "shortened" (spShort K) [] := by
  refine C8.cal0 F b .nil sc_shortened (fun vs H Q E h => ?_) (fun cdv A outer s H vs Q E hr h => ?_)
  · obtain ⟨r, t, s, os, us, T', rfl, _⟩ := h
    rfl
  · obtain ⟨r, t, s, os, us, T', rfl, hr0, ht0, hT, hk, h900, k⟩ := h
    refine ⟨_, (pss_cons (ps_set (i := 3) sc_shortened.nd rfl (Or.inl rfl) (pe_callTy call_list_of (by rfl) T.z_list (by decide +kernel) (pa_cons (pv 0) pa_nil)))
    (pss_cons (ps_for PassesOwn.never rfl (pi_list (pv 2)) (pg_tup (by rfl) (pgs_cons (pg_name (i := 4) sc_shortened.nd rfl (Or.inl rfl)) (pgs_cons (pg_name (i := 5) sc_shortened.nd rfl (Or.inl rfl)) pgs_nil)))
    (pss_cons (ps_set (i := 6) sc_shortened.nd rfl (Or.inl rfl) (pe_ix ix_tup (pv 0) (pv 4) (fun _ _ => rfl)))
    (pss_one (ps_if (PW.pt (pw_or (pt_cmpR op_isN (pv 6) pe_non (nomark _)) (pw_or1 (pt_cmpR op_gt (pv 6) (pe_op op_add (pv 1) (pv 5)) (nomark _))))) (pss_one (ps_asg (pe_op op_add (pv 1) (pv 5)) (pg_sub (pv 3) (pv 4) set_list))) pss_nil))))
    (pss_one (ps_ret (pe_callTy call_tuple_of (by rfl) T.z_tuple (by decide +kernel) (pa_cons (pv 3) pa_nil)))))), ?_⟩
    refine ⟨_, rfl, r, _, rfl, .inr hr0, fun p np => ?_⟩
    have Sp := Same.new (o := HO.lst (os.map optV)) np
    refine ⟨_, rfl, t, rfl, ⟨_, Sp.seq ht0⟩, for_list (xs := us.map V.ref) (fun i σ H' => ∃ v4 v5 v6, σ = [some (.ref r), some (.int s), some (.ref t), some (.ref p), v4, v5, v6] ∧ Same H H' ∧ H' p = some (.lst (((T'.take i).foldl (sh1 os s) os).map optV)))
      ⟨none, none, none, rfl, Sp, upd_same⟩ (fun i σ H' _ h => ?_) ?_ ?_⟩
    · obtain ⟨_, _, _, _, S, _⟩ := h
      exact S.seq ht0
    · rintro i x σ H1 hx ⟨v4, v5, v6, rfl, S1, hp⟩
      rw [List.getElem?_map] at hx
      obtain ⟨u, hu, rfl⟩ := Option.map_eq_some_iff.mp hx
      have hi : i < T'.length := by
        rw [← hT.1]
        exact (List.getElem?_eq_some_iff.mp hu).1
      have hq := List.getElem?_eq_getElem hi
      obtain ⟨u', h1, h2⟩ := hT.2 i _ hq
      rw [hu] at h1
      cases h1
      have hk1 := hk _ (List.getElem_mem hi)
      have hr1 := Same.seqT S1 hr0
      have hat : atI (os.map optV) ((T'[i].1 : Nat) : Int) = some (optV (os.getD T'[i].1 none)) := atI_nat (by
        rw [List.getElem?_map, List.getD_eq_getElem?_getD, List.getElem?_eq_getElem hk1]
        rfl)
      have stp : ((T'.take (i + 1)).foldl (sh1 os s) os) = sh1 os s ((T'.take i).foldl (sh1 os s) os) T'[i] := by
        rw [take_snoc hq, List.foldl_append]
        rfl
      refine ⟨u, _, rfl, Same.seqT S1 h2, rfl, _, _, rfl, _, _, rfl, rfl, ?_⟩
      refine ⟨_, rfl, _, rfl, r, _, _, _, rfl, rfl, hr1, hat, ?_⟩
      have hlf : T'[i].1 < ((T'.take i).foldl (sh1 os s) os).length := by
        rw [fold_len]
        exact hk1
      have store : ∀ c : Int, sh1 os s ((T'.take i).foldl (sh1 os s) os) T'[i] = ((T'.take i).foldl (sh1 os s) os).set T'[i].1 (some c) → ∃ v4 v5 v6, [some (V.ref r), some (V.int s), some (V.ref t), some (V.ref p), some (V.int (T'[i].1 : Nat)), some (V.int T'[i].2), some (optV (os.getD T'[i].1 none))] = [some (.ref r), some (.int s), some (.ref t), some (.ref p), v4, v5, v6] ∧
          Same H (upd H1 p (.lst ((((T'.take i).foldl (sh1 os s) os).map optV).set T'[i].1 (.int c)))) ∧ (upd H1 p (.lst ((((T'.take i).foldl (sh1 os s) os).map optV).set T'[i].1 (.int c)))) p = some (.lst (((T'.take (i + 1)).foldl (sh1 os s) os).map optV)) := fun c e => by
        refine ⟨_, _, _, rfl, Same.mut S1 np, ?_⟩
        rw [upd_same, stp, e, List.map_set]
        rfl
      have keep : sh1 os s ((T'.take i).foldl (sh1 os s) os) T'[i] = ((T'.take i).foldl (sh1 os s) os) → ∃ v4 v5 v6, [some (V.ref r), some (V.int s), some (V.ref t), some (V.ref p), some (V.int (T'[i].1 : Nat)), some (V.int T'[i].2), some (optV (os.getD T'[i].1 none))] = [some (.ref r), some (.int s), some (.ref t), some (.ref p), v4, v5, v6] ∧
          Same H H1 ∧ H1 p = some (.lst (((T'.take (i + 1)).foldl (sh1 os s) os).map optV)) := fun e => by
        refine ⟨_, _, _, rfl, S1, ?_⟩
        rw [hp, stp, e]
      cases ho : os.getD T'[i].1 none with
      | none =>
        rw [ho] at store
        refine ⟨_, rfl, rfl, _, rfl, iteT (iteT ?_)⟩
        refine ⟨_, rfl, _, rfl, _, _, rfl, rfl, _, rfl, _, rfl, p, _, _, _, rfl, rfl, hp, ixN_nat (by rw [List.length_map]; exact hlf), ?_⟩
        exact store (s + T'[i].2) (by unfold sh1; rw [ho])
      | some o =>
        rw [ho] at store keep
        refine ⟨_, rfl, rfl, _, rfl, iteF ⟨_, rfl, _, rfl, _, rfl, _, _, rfl, rfl, _, _, rfl, rfl, _, rfl, ?_⟩⟩
        by_cases c : s + T'[i].2 < o
        · rw [decide_eq_true (show o > s + T'[i].2 from c)]
          refine iteT ⟨_, rfl, _, rfl, _, _, rfl, rfl, _, rfl, _, rfl, p, _, _, _, rfl, rfl, hp, ixN_nat (by rw [List.length_map]; exact hlf), ?_⟩
          exact store (s + T'[i].2) (by unfold sh1; rw [ho]; exact if_pos c)
        · rw [decide_eq_false (show ¬ o > s + T'[i].2 from c)]
          exact iteF (keep (by unfold sh1; rw [ho]; exact if_neg c))
    · rintro σ H1 ⟨v4, v5, v6, rfl, S1, hp⟩
      rw [List.length_map, hT.1, List.take_length] at hp
      refine ⟨_, rfl, p, _, rfl, .inl ⟨SqL.of hp, fun q nq => ?_⟩⟩
      exact k q _ (S1.trans (Same.new nq)) (SqT.of upd_same)
/-- a list of rows that grows -/
def RowsUp (K : PySem.W.Frag) (H : Hp) (D : Addr) (m : Nat) (d : Zn.Z) (j : Nat) : Prop := ∃ ss : List Addr, H D = some (.lst (ss.map V.ref)) ∧ ss.length = j ∧ ∀ (i : Nat) (r : Addr), ss[i]? = some r → SqT K H r (rowV d m i)
theorem RowsUp.mono {H H' : Hp} {D : Addr} {m j : Nat} {d : Zn.Z} (e : Same H H') (h : RowsUp K H D m d j) : RowsUp K H' D m d j := h.imp fun ss x => ⟨e _ _ x.1, x.2.1, fun i r hr => Same.seqT e (x.2.2 i r hr)⟩
theorem RowsUp.push {H : Hp} {D r : Addr} {m j : Nat} {d : Zn.Z} (h : RowsUp K H D m d j) (hr : SqT K H r (rowV d m j)) (hj : j ≤ 900) : ∃ acc, H D = some (.lst acc) ∧ acc.length < sizeLine ∧ RowsUp K (upd H D (.lst (acc ++ [.ref r]))) D m d (j + 1) := by
  obtain ⟨ss, h1, h2, h3⟩ := h
  refine ⟨_, h1, szs (by rw [List.length_map]; omega), ss ++ [r], by rw [upd_same, List.map_append]; rfl, by simp [h2], fun i r' hi => ?_⟩
  by_cases e : i < ss.length
  · rw [List.getElem?_append_left e] at hi
    exact butT h1 But.upd (h3 i r' hi)
  · have ei : i = ss.length := by
      have := (List.getElem?_eq_some_iff.mp hi).1
      simp at this
      omega
    subst ei
    rw [List.getElem?_append_right (Nat.le_refl _)] at hi
    have er : r' = r := by simpa using hi.symm
    subst er
    rw [h2]
    exact butT h1 But.upd hr
theorem RowsUp.done {H : Hp} {D : Addr} {m : Nat} {d : Zn.Z} (h : RowsUp K H D m d m) : ∃ ss : List Addr, SqL K H D (ss.map V.ref) ∧ ∀ (p : Addr), H p = none → IsZ K (upd H p (.tup (ss.map V.ref))) p m d := by
  obtain ⟨ss, h1, h2, h3⟩ := h
  exact ⟨ss, SqL.of h1, fun p np => ⟨ss, SqT.of upd_same, h2, fun i r hr => Same.seqT (Same.new np) (h3 i r hr)⟩⟩
def spMet (K : PySem.W.Frag) : Sp := fun vs H Q _ => ∃ (z l : Addr) (m : Nat) (d : Zn.Z) (q : Zn.Lit), vs = [.ref z, .ref l] ∧ IsZ K H z m d ∧ LitZ K H l q ∧ q.1 < m ∧ q.2.1 < m ∧ m ≤ 900 ∧
  (∀ H', Same H H' → Zn.met d q = none → Q .non H') ∧ ∀ z' d' H', Same H H' → Zn.met d q = some d' → IsZ K H' z' m d' → Q (.ref z') H'
theorem TailAt.snoc {H : Hp} {us : List Addr} {T : List (Nat × Int)} {u : Addr} {k : Nat} {c : Int} (h : TailAt K H us T) (hu : SqT K H u [.int (k : Nat), .int c]) : TailAt K H (us ++ [u]) (T ++ [(k, c)]) := by
  refine ⟨by rw [List.length_append, List.length_append, h.1]; rfl, fun j p hj => ?_⟩
  by_cases e : j < T.length
  · rw [List.getElem?_append_left e] at hj
    obtain ⟨u', h1, h2⟩ := h.2 j p hj
    exact ⟨u', by rw [List.getElem?_append_left (by rw [h.1]; exact e)]; exact h1, h2⟩
  · rw [List.getElem?_append_right (by omega)] at hj
    have e0 : j - T.length = 0 := by
      have := (List.getElem?_eq_some_iff.mp hj).1
      simpa using this
    rw [e0] at hj
    cases hj
    exact ⟨u, by rw [List.getElem?_append_right (by rw [h.1]; omega), h.1, e0]; rfl, hu⟩
theorem TailAt.but {l : Addr} {H H' : Hp} {xs : List V} {us : List Addr} {T : List (Nat × Int)} (hl : H l = some (.lst xs)) (e : But l H H') (h : TailAt K H us T) : TailAt K H' us T := ⟨h.1, fun j p hj => (h.2 j p hj).imp fun u x => ⟨x.1, butT hl e x.2⟩⟩
theorem met_eq (d : Zn.Z) (q : Zn.Lit) : Zn.met d q = match d q.1 q.2.1 with
    | some a => if a ≤ q.2.2 then some d else (match d q.2.1 q.1 with | some b => if b + q.2.2 < 0 then none else some (Zn.metD d q) | none => some (Zn.metD d q))
    | none => (match d q.2.1 q.1 with | some b => if b + q.2.2 < 0 then none else some (Zn.metD d q) | none => some (Zn.metD d q)) := by
  unfold Zn.met Zn.follows Zn.fails
  cases d q.1 q.2.1 with
  | none =>
    cases d q.2.1 q.1 with
    | none => rfl
    | some b => by_cases c : b + q.2.2 < 0 <;> simp [c]
  | some a =>
    cases d q.2.1 q.1 with
    | none => by_cases c : a ≤ q.2.2 <;> simp [c]
    | some b => by_cases c : a ≤ q.2.2 <;> by_cases c2 : b + q.2.2 < 0 <;> simp [c, c2]
theorem ok_met {f : Addr} {fd : FuncData} (F : C8.Def K mg "met" s_met f fd) (b : Binds K fd ["zone", "literal"] []) (T : Txt K mg CC CS aB) (K_shortened : C8.Cal P w K mg base 1 "shortened" (spShort K) []) : C8.Cal P w K mg base 2 "met" (spMet K) [] := by
  refine C8.cal0 F b .nil sc_met (fun vs H Q E h => ?_) (fun cdv A outer s H vs Q E hr h => ?_)
  · obtain ⟨z, l, m, d, q, rfl, _⟩ := h
    rfl
  · obtain ⟨z, l, m, d, q, rfl, hz, hl, h1, h2, h900, k1, k2⟩ := h
    obtain ⟨xs, hx, hxl, hrow⟩ := hz.row
    obtain ⟨r, hr1, hr2⟩ := hrow _ h1
    obtain ⟨t, ht1, ht2⟩ := hrow _ h2
    rw [met_eq] at k1 k2
    refine ⟨_, (pss_cons (ps_asg (pv 1) (pg_tup (by rfl) (pgs_cons (pg_name (i := 2) sc_met.nd rfl (Or.inr rfl)) (pgs_cons (pg_name (i := 3) sc_met.nd rfl (Or.inl rfl)) (pgs_cons (pg_name (i := 4) sc_met.nd rfl (Or.inr rfl)) pgs_nil)))))
    (pss_cons (ps_set (i := 5) sc_met.nd rfl (Or.inl rfl) (pe_ix ix_tup (pe_ix ix_tup (pv 0) (pv 2) (fun _ _ => rfl)) (pv 3) (fun _ _ => rfl)))
    (C8.pss_cut (ps_if (PW.pt (pw_and (pt_cmpR op_notN (pv 5) pe_non (nomark _)) (pw_and1 (pt_cmpR op_le (pv 5) (pv 4) (nomark _))))) (pss_one (ps_ret (pv 0))) pss_nil)
    (pss_cons (ps_set (i := 6) sc_met.nd rfl (Or.inl rfl) (pe_ix ix_tup (pe_ix ix_tup (pv 0) (pv 3) (fun _ _ => rfl)) (pv 2) (fun _ _ => rfl)))
    (C8.pss_cut (ps_if (PW.pt (pw_and (pt_cmpR op_notN (pv 6) pe_non (nomark _)) (pw_and1 (pt_cmpR op_lt (pe_op op_add (pv 6) (pv 4)) pe_int (nomark _))))) (pss_one (ps_ret pe_non)) pss_nil)
    (pss_cons (ps_set (i := 7) sc_met.nd rfl (Or.inr rfl) (pe_lc (own := [("k", 8), ("step", 9)]) (g := _) rfl sc_met.nd (En.pi_enumT (by rfl) T.z_enumerate (pa_cons (pe_ix ix_tup (pv 0) (pv 3) (fun _ _ => rfl)) pa_nil)) (blkOk_by (own := [("k", 8), ("step", 9)]) (N := N_met) (sc := C8.fnScope s_met) (by decide +kernel)) (fun _ _ _ _ _ => (pgTK K 2 (pgs_cons (pg_name (i := 8) sc_met.nd rfl (Or.inl rfl)) (pgs_cons (pg_name (i := 9) sc_met.nd rfl (Or.inl rfl)) pgs_nil)))) (fun _ _ _ _ _ => (pts_one (pt_cmpR op_notN (pv 9) pe_non (nomark _)))) (fun _ _ _ _ _ => (pe_tup (pa_cons (pv 8) (pa_cons (pe_op op_add (pv 9) (pv 4)) pa_nil))))))
    (pss_one (ps_ret (pe_callTy call_tuple_of (by rfl) T.z_tuple (by decide +kernel) (pa_cons (pe_lc (own := [("row", 10)]) (g := gName 10) (tt := tYes) rfl sc_met.nd (pi_tup (pv 0)) (blkOk_by (own := [("row", 10)]) (N := N_met) (sc := C8.fnScope s_met) (by decide +kernel)) (fun _ _ _ _ _ => (pg_name (i := 10) sc_met.nd rfl (Or.inl rfl))) (fun _ _ _ _ _ => pts_nil) (fun _ _ _ _ _ => (pe_ifExp (pt_cmpR op_isN (pe_ix (ixTK K) (pv 10) (pv 2) (fun _ _ => rfl)) pe_non (nomark _)) (pv 10) (C8.pe_c K_shortened hr (by decide) (by rfl) (pa_cons (pv 10) (pa_cons (pe_ix (ixTK K) (pv 10) (pv 2) (fun _ _ => rfl)) (pa_cons (pv 7) pa_nil))))))) pa_nil)))))))))), ?_⟩
    refine ⟨_, rfl, l, _, rfl, hl, rfl, _, _, rfl, _, _, rfl, _, _, rfl, rfl, ?_⟩
    refine ⟨_, rfl, _, rfl, z, _, _, _, rfl, rfl, hx, atI_nat hr1, _, rfl, r, _, _, _, rfl, rfl, hr2, atI_nat (rowV_at h2), ?_⟩
    -- the first test
    refine ⟨fun σ' H' => H' = H ∧ σ' = [some (.ref z), some (.ref l), some (.int (q.1 : Nat)), some (.int (q.2.1 : Nat)), some (.int q.2.2), some (optV (d q.1 q.2.1)), none, none, none, none, none] ∧ ∀ a, d q.1 q.2.1 = some a → ¬ a ≤ q.2.2, ?_, ?_⟩
    · cases ed : d q.1 q.2.1 with
      | none => exact ⟨_, rfl, rfl, _, rfl, iteF (iteF ⟨rfl, rfl, fun a h => by cases h⟩)⟩
      | some a =>
        refine ⟨_, rfl, rfl, _, rfl, iteT ⟨_, rfl, _, rfl, _, _, rfl, rfl, _, rfl, ?_⟩⟩
        by_cases c : a ≤ q.2.2
        · rw [decide_eq_true c]
          refine iteT ⟨_, rfl, k2 z d H (Same.refl H) ?_ hz⟩
          rw [ed]
          exact if_pos c
        · rw [decide_eq_false c]
          exact iteF ⟨rfl, rfl, fun a' h => by cases h; exact c⟩
    rintro σ H' ⟨rfl, rfl, hno⟩
    refine ⟨_, rfl, _, rfl, z, _, _, _, rfl, rfl, hx, atI_nat ht1, _, rfl, t, _, _, _, rfl, rfl, ht2, atI_nat (rowV_at h1), ?_⟩
    have kk : (match d q.1 q.2.1 with
        | some a => if a ≤ q.2.2 then some d else (match d q.2.1 q.1 with | some b => if b + q.2.2 < 0 then none else some (Zn.metD d q) | none => some (Zn.metD d q))
        | none => (match d q.2.1 q.1 with | some b => if b + q.2.2 < 0 then none else some (Zn.metD d q) | none => some (Zn.metD d q))) = (match d q.2.1 q.1 with | some b => if b + q.2.2 < 0 then none else some (Zn.metD d q) | none => some (Zn.metD d q)) := by
      cases ed : d q.1 q.2.1 with
      | none => rfl
      | some a => exact if_neg (hno a ed)
    rw [kk] at k1 k2
    -- the second test
    refine ⟨fun σ' H2 => H2 = H' ∧ σ' = [some (.ref z), some (.ref l), some (.int (q.1 : Nat)), some (.int (q.2.1 : Nat)), some (.int q.2.2), some (optV (d q.1 q.2.1)), some (optV (d q.2.1 q.1)), none, none, none, none] ∧ ∀ b, d q.2.1 q.1 = some b → ¬ b + q.2.2 < 0, ?_, ?_⟩
    · cases ed : d q.2.1 q.1 with
      | none => exact ⟨_, rfl, rfl, _, rfl, iteF (iteF ⟨rfl, rfl, fun a h => by cases h⟩)⟩
      | some b =>
        refine ⟨_, rfl, rfl, _, rfl, iteT ⟨_, rfl, _, rfl, _, _, rfl, rfl, _, _, rfl, rfl, _, rfl, ?_⟩⟩
        by_cases c : b + q.2.2 < 0
        · rw [decide_eq_true c]
          refine iteT (k1 H' (Same.refl H') ?_)
          rw [ed]
          exact if_pos c
        · rw [decide_eq_false c]
          exact iteF ⟨rfl, rfl, fun a' h => by cases h; exact c⟩
    rintro σ H2 ⟨rfl, rfl, hno2⟩
    have kk2 : (match d q.2.1 q.1 with | some b => if b + q.2.2 < 0 then none else some (Zn.metD d q) | none => some (Zn.metD d q)) = some (Zn.metD d q) := by
      cases ed : d q.2.1 q.1 with
      | none => rfl
      | some a => exact if_neg (hno2 a ed)
    rw [kk2] at k2
    -- the tail
    refine ⟨_, rfl, _, rfl, z, _, _, _, rfl, rfl, hx, atI_nat ht1, t, _, rfl, ht2, fun D nD => lc_it Wk.walk_Itu (fun j H' => Same H2 H' ∧ ∃ us, H' D = some (.lst (us.map V.ref)) ∧ TailAt K H' us (tailN (d q.2.1) q.2.2 j)) ⟨Same.new nD, [], upd_same, rfl, fun j p h => by simp [tailN] at h⟩ (fun j H' _ h => Same.seqT h.1 ht2) ?_ ?_⟩
    · rintro i y H3 H4 hi ⟨S3, us, h3, hT⟩ ⟨T', a, b, rfl, nT, rfl, ea, eb⟩
      cases ea
      rw [rowV_len] at hi
      have eb2 : some (optV (d q.2.1 i)) = some b := (rowV_at hi).symm.trans eb
      cases eb2
      have hts := tail_succ (d q.2.1) q.2.2 i
      generalize d q.2.1 i = o at hts ⊢
      have ST := Same.new (o := HO.tup [.int (i : Nat), optV o]) nT
      refine ⟨T', _, rfl, .inl (.inl upd_same), rfl, _, _, rfl, _, _, rfl, rfl, rfl, _, rfl, rfl, _, rfl, ?_⟩
      cases o with
      | none => exact iteF ⟨S3.trans ST, us, ST _ _ h3, by rw [hts, List.append_nil]; exact hT.mono ST⟩
      | some c =>
        refine iteT ⟨_, rfl, _, rfl, _, rfl, _, _, rfl, rfl, (by show 2 ≤ sizeLine; decide), fun u nu => ?_⟩
        have Su := Same.new (o := HO.tup [.int (i : Nat), .int (c + q.2.2)]) nu
        have h5 := Su _ _ (ST _ _ h3)
        refine ⟨_, h5, szs (by rw [List.length_map, hT.1]; have := tail_len (d q.2.1) q.2.2 i; omega), Same.mut ((S3.trans ST).trans Su) nD, us ++ [u], by rw [upd_same, List.map_append]; rfl, ?_⟩
        rw [hts]
        refine TailAt.but h5 But.upd ?_
        exact ((hT.mono ST).mono Su).snoc (SqT.of upd_same)
    rintro H3 ⟨S3, us, h3, hT⟩
    rw [rowV_len] at hT
    -- the rows
    have hx3 := Same.seqT S3 hx
    refine ⟨_, rfl, z, rfl, ⟨_, hx3⟩, fun E nE => lc_tup (xs := xs) (fun j H' => Same H3 H' ∧ RowsUp K H' E m (Zn.metD d q) j) ⟨Same.new nE, [], upd_same, rfl, fun i r hi => (by cases hi)⟩ (fun i H' _ h => Same.seqT h.1 hx3) ?_ ?_⟩
    · rintro i x H1 hxi ⟨S1, hU⟩
      have hi : i < m := by
        rw [← hxl]
        exact (List.getElem?_eq_some_iff.mp hxi).1
      obtain ⟨r, hr1, hr2⟩ := hrow i hi
      rw [hxi] at hr1
      cases hr1
      have hr3 := Same.seqT (S3.trans S1) hr2
      refine ⟨rfl, ?_⟩
      refine ⟨_, rfl, _, rfl, r, _, _, _, rfl, rfl, hr3, atI_nat (rowV_at h1), rfl, _, rfl, ?_⟩
      cases ed : d i q.1 with
      | none =>
        refine iteT ⟨_, rfl, ?_⟩
        have er : rowV d m i = rowV (Zn.metD d q) m i := by
          unfold rowV
          refine List.map_congr_left fun v _ => ?_
          unfold Zn.metD
          rw [ed]
        rw [er] at hr3
        obtain ⟨acc, g1, g2, g3⟩ := hU.push hr3 (by omega)
        exact ⟨acc, g1, g2, Same.mut S1 nE, g3⟩
      | some a =>
        have hr4 := hr3
        rw [rowV_map] at hr4
        refine iteF ⟨_, rfl, _, rfl, _, rfl, r, _, _, _, rfl, rfl, hr3, atI_nat (rowV_at h1), _, rfl, ?_⟩
        rw [ed]
        refine ⟨r, D, a, (List.range m).map (d i), us, tailN (d q.2.1) q.2.2 m, rfl, hr4, SqL.of (S1 _ _ h3), hT.mono S1, fun p hp => by simpa using (tail_mem.mp hp).1, by simp; omega, fun p H5 S5 hp5 => ?_⟩
        rw [short_row ed] at hp5
        obtain ⟨acc, g1, g2, g3⟩ := (hU.mono S5).push hp5 (by omega)
        exact ⟨acc, g1, g2, Same.mut (S1.trans S5) nE, g3⟩
    · rintro H1 ⟨S1, hU⟩
      rw [hxl] at hU
      obtain ⟨ss, g1, g2⟩ := hU.done
      exact ⟨E, _, rfl, .inl ⟨g1, fun p np => k2 p _ _ ((S3.trans S1).trans (Same.new np)) rfl (g2 p np)⟩⟩
def LitsZ (K : PySem.W.Frag) (H : Hp) (ts : List Addr) (qs : List Zn.Lit) : Prop := ts.length = qs.length ∧ ∀ (j : Nat) (q : Zn.Lit), qs[j]? = some q → ∃ t, ts[j]? = some t ∧ LitZ K H t q
theorem LitsZ.mono {H H' : Hp} {ts : List Addr} {qs : List Zn.Lit} (e : Same H H') (h : LitsZ K H ts qs) : LitsZ K H' ts qs := ⟨h.1, fun j q hj => (h.2 j q hj).imp fun t x => ⟨x.1, x.2.mono e⟩⟩
def spMetAll (K : PySem.W.Frag) : Sp := fun vs H Q _ => ∃ (z l : Addr) (ts : List Addr) (m : Nat) (d : Zn.Z) (qs : List Zn.Lit), vs = [.ref z, .ref l] ∧ IsZ K H z m d ∧ SqL K H l (ts.map V.ref) ∧ LitsZ K H ts qs ∧ Zn.Ok m qs ∧ m ≤ 900 ∧
  (∀ H', Same H H' → Zn.metAll d qs = none → Q .non H') ∧ ∀ z' d' H', Same H H' → Zn.metAll d qs = some d' → IsZ K H' z' m d' → Q (.ref z') H'
theorem metAll_step {d : Zn.Z} {qs : List Zn.Lit} {i : Nat} {q : Zn.Lit} (h : qs[i]? = some q) : Zn.metAll d (qs.take (i + 1)) = match Zn.metAll d (qs.take i) with | none => none | some d' => Zn.met d' q := by
  have app : ∀ (as bs : List Zn.Lit) (d : Zn.Z), Zn.metAll d (as ++ bs) = match Zn.metAll d as with | none => none | some d' => Zn.metAll d' bs := by
    intro as
    induction as with
    | nil => intro bs d; rfl
    | cons a as ih =>
      intro bs d
      show (match Zn.met d a with | none => none | some d' => Zn.metAll d' (as ++ bs)) = match (match Zn.met d a with | none => none | some d' => Zn.metAll d' as) with | none => none | some d' => Zn.metAll d' bs
      cases Zn.met d a with
      | none => rfl
      | some d1 => exact ih bs d1
  rw [take_snoc h, app]
  cases Zn.metAll d (qs.take i) with
  | none => rfl
  | some d1 =>
    show (match Zn.met d1 q with | none => none | some d' => some d') = Zn.met d1 q
    cases Zn.met d1 q <;> rfl
theorem metAll_none_take {d : Zn.Z} {qs : List Zn.Lit} {i : Nat} (h : Zn.metAll d (qs.take i) = none) : Zn.metAll d qs = none := by
  have : ∀ k, Zn.metAll d (qs.take (i + k)) = none := by
    intro k
    induction k with
    | zero => exact h
    | succ k ih =>
      by_cases e : i + k < qs.length
      · rw [show i + (k + 1) = i + k + 1 by omega, metAll_step (List.getElem?_eq_getElem e), ih]
      · rw [List.take_of_length_le (by omega)]
        rw [List.take_of_length_le (by omega)] at ih
        exact ih
  have := this qs.length
  rw [List.take_of_length_le (by omega)] at this
  exact this
theorem ok_met_all {f : Addr} {fd : FuncData} (F : C8.Def K mg "met_all" s_met_all f fd) (b : Binds K fd ["zone", "literals"] []) (T : Txt K mg CC CS aB) (K_met : C8.Cal P w K mg base 2 "met" (spMet K) []) : C8.Cal P w K mg base 3 "met_all" (spMetAll K) [] := by
  refine C8.cal0 F b .nil sc_met_all (fun vs H Q E h => ?_) (fun cdv A outer s H vs Q E hr h => ?_)
  · obtain ⟨z, l, ts, m, d, qs, rfl, _⟩ := h
    rfl
  · obtain ⟨z, l, ts, m, d, qs, rfl, hz, hl, hL, hok, h900, k1, k2⟩ := h
    refine ⟨_, (pss_cons (ps_for PassesOwn.never rfl (pi_list (pv 1)) (pg_name (i := 2) sc_met_all.nd rfl (Or.inl rfl))
    (pss_cons (ps_set (i := 0) sc_met_all.nd rfl (Or.inl rfl) (C8.pe_c K_met hr (by decide) (by rfl) (pa_cons (pv 0) (pa_cons (pv 2) pa_nil))))
    (pss_one (ps_if (pt_cmpR op_isN (pv 0) pe_non (nomark _)) (pss_one (ps_ret pe_non)) pss_nil))))
    (pss_one (ps_ret (pv 0)))), ?_⟩
    refine ⟨_, rfl, l, rfl, ⟨_, hl⟩, for_list (xs := ts.map V.ref) (fun i σ H' => ∃ (v2 : Option V) (z' : Addr) (d' : Zn.Z), σ = [some (.ref z'), some (.ref l), v2] ∧ Same H H' ∧ IsZ K H' z' m d' ∧ Zn.metAll d (qs.take i) = some d') ⟨none, z, d, rfl, Same.refl H, hz, rfl⟩ (fun i σ H' _ h => ?_) ?_ ?_⟩
    · obtain ⟨_, _, _, _, S, _⟩ := h
      exact S.seq hl
    · rintro i x σ H1 hx ⟨v2, z', d', rfl, S1, hz1, hm⟩
      rw [List.getElem?_map] at hx
      obtain ⟨t, ht, rfl⟩ := Option.map_eq_some_iff.mp hx
      have hi : i < qs.length := by
        rw [← hL.1]
        exact (List.getElem?_eq_some_iff.mp ht).1
      have hq := List.getElem?_eq_getElem hi
      obtain ⟨t', h1, h2⟩ := hL.2 i _ hq
      rw [ht] at h1
      cases h1
      obtain ⟨o1, o2⟩ := hok _ (List.getElem_mem hi)
      have st := metAll_step (d := d) hq
      rw [hm] at st
      refine ⟨_, rfl, _, rfl, z', t, m, d', qs[i], rfl, hz1, h2.mono S1, o1, o2, h900, fun H2 S2 e => ?_, fun z2 d2 H2 S2 e hz2 => ?_⟩
      · refine ⟨_, rfl, rfl, _, rfl, iteT ?_⟩
        refine k1 H2 (S1.trans S2) (metAll_none_take (i := i + 1) ?_)
        rw [st]
        exact e
      · refine ⟨_, rfl, rfl, _, rfl, iteF ?_⟩
        exact ⟨_, z2, d2, rfl, S1.trans S2, hz2, by rw [st]; exact e⟩
    · rintro σ H1 ⟨v2, z', d', rfl, S1, hz1, hm⟩
      rw [List.length_map, hL.1, List.take_length] at hm
      exact ⟨_, rfl, k2 z' d' H1 S1 hm hz1⟩
end
end K9

namespace K9
open PySem L2 Bx
def rTupOf (K : PySem.W.Frag) : List V → Hp → VK → Prop := fun xs H Q => ∃ p ys, xs = [.ref p] ∧ ((SqL K H p ys ∧ ∀ l, H l = none → Q (.ref l) (upd H l (.tup ys))) ∨ (SqT K H p ys ∧ Q (.ref p) H))
theorem tupOfK {X : Cx} (K : PySem.W.Frag) (h : X.K = K := by rfl) : CallR X (.type "tuple") (rTupOf K) := by
  subst h
  exact call_tuple_of
def reSc (o sc : Scope) : Scope := { sc with names := sc.names.map fun (n, k) => if (k == .free && o.kind == .function && (o.names.lookup n) == some .cell) then (n, .cell) else (n, k) }
def compSc : Expr → Scope
  | .ListComp _ _ sc _ => sc
  | _ => C8.fnScope s_whole
abbrev cs_whole : Scope := match C8.fnBody s_whole with
  | [.Return (some (.Call _ [e] _ _)) _] => reSc (C8.fnScope s_whole) (compSc e)
  | _ => C8.fnScope s_whole
def pdO : Option Int → PyData
  | none => .none
  | some c => .int c
theorem lay_opts : ∀ is : List (Option Int), PyData.canLayAll0 (is.map pdO) = true
  | [] => by simp [PyData.canLayAll0]
  | none :: is => by simp [PyData.canLayAll0, PyData.canLay0, lay_opts is, pdO]
  | some i :: is => by simp [PyData.canLayAll0, PyData.canLay0, lay_opts is, pdO]
theorem dep_opts : ∀ is : List (Option Int), PyData.depthAll (is.map pdO) ≤ 1
  | [] => by simp [PyData.depthAll]
  | none :: is => by
    have := dep_opts is
    simp [PyData.depthAll, PyData.depth, pdO]
    omega
  | some i :: is => by
    have := dep_opts is
    simp [PyData.depthAll, PyData.depth, pdO]
    omega
theorem shaped_opts (is : List (Option Int)) : SeqAt.shaped (.tuple (is.map pdO)) = true := by
  unfold SeqAt.shaped
  rw [Bool.and_eq_true, decide_eq_true_eq]
  refine ⟨by simp [PyData.canLay0, lay_opts], ?_⟩
  have := dep_opts is
  simp [PyData.depth]
  omega
theorem dp_opts {K : PySem.W.Frag} {H : Hp} : ∀ is : List (Option Int), DpAll K H (is.map optV) (is.map pdO)
  | [] => .nil
  | none :: is => .cons .non (dp_opts is)
  | some i :: is => .cons (.int i) (dp_opts is)
theorem eqv_opts : ∀ {xs ys : List (Option Int)}, PyData.eqvAll (xs.map pdO) (ys.map pdO) = true ↔ xs = ys
  | [], [] => by simp [PyData.eqvAll]
  | [], y :: _ => by simp [PyData.eqvAll]
  | x :: _, [] => by simp [PyData.eqvAll]
  | x :: xs, y :: ys => by
    have ih := eqv_opts (xs := xs) (ys := ys)
    cases x <;> cases y <;> simp [PyData.eqvAll, PyData.eqv, pdO, ih]
theorem dp_row {K : PySem.W.Frag} {H : Hp} {r : Addr} {d : Zn.Z} {m i : Nat} (h : SqT K H r (rowV d m i)) : Dp K H (.ref r) (.tuple (((List.range m).map (d i)).map pdO)) := by
  rw [rowV_map] at h
  exact .tup h (dp_opts _)
theorem rowE {d e : Zn.Z} {m i : Nat} (h : PyData.eqv (.tuple (((List.range m).map (d i)).map pdO)) (.tuple (((List.range m).map (e i)).map pdO)) = true) {v : Nat} (hv : v < m) : d i v = e i v := by
  have h2 : PyData.eqvAll (((List.range m).map (d i)).map pdO) (((List.range m).map (e i)).map pdO) = true := by simpa [PyData.eqv] using h
  have h3 := congrArg (fun l => l[v]?) (eqv_opts.mp h2)
  simpa [hv] using h3
section
variable {P : Program} {w : World} {K : PySem.W.Frag} {mg : Str → Option Value} {base : Heap} {CC CS aB : Addr}
def spWhole (K : PySem.W.Frag) : Sp := fun vs H Q _ => ∃ (n : Nat), vs = [.int (n : Nat)] ∧ n ≤ 800 ∧ ∀ z H', Same H H' → IsZ K H' z (n + 1) Zn.whole → Q (.ref z) H'
theorem ok_whole {f : Addr} {fd : FuncData} (F : C8.Def K mg "whole" s_whole f fd) (b : Binds K fd ["many"] []) (T : Txt K mg CC CS aB) : C8.Cal P w K mg base 1 "whole" (spWhole K) [] := by
  refine C8.cal0 F b .nil sc_whole (fun vs H Q E h => ?_) (fun cdv A outer s H vs Q E hr h => ?_)
  · obtain ⟨n, rfl, _⟩ := h
    rfl
  · obtain ⟨n, rfl, hn, k⟩ := h
    refine ⟨_, (pss_one (ps_ret (pe_callTy call_tuple_of (by rfl) T.z_tuple (by decide +kernel) (pa_cons (pe_lc (own := [("i", 1)]) (g := gName 1) (tt := tYes) rfl sc_whole.nd (pi_range1 (by rfl) T.z_range (pa_cons (pe_op op_add (pv 0) pe_int) pa_nil)) (blkOk_by (own := [("i", 1)]) (N := N_whole) (sc := C8.fnScope s_whole) (by decide +kernel)) (fun _ _ _ _ _ => (pg_name (i := 1) sc_whole.nd rfl (Or.inr rfl))) (fun _ _ _ _ _ => pts_nil) (fun _ _ _ _ _ => (pe_callTy (tupOfK K) (by rfl) T.z_tuple (by decide +kernel) (pa_cons (pe_lc (own := [("j", 2)]) (g := gName 2) (tt := tYes) rfl sc_whole.nd (pi_range1 (by rfl) T.z_range (pa_cons (pe_op op_add (pv 0) pe_int) pa_nil)) (blkOk_by (own := [("j", 2)]) (N := N_whole) (sc := cs_whole) (by decide +kernel)) (fun _ _ _ _ _ => (pg_name (i := 2) sc_whole.nd rfl (Or.inl rfl))) (fun _ _ _ _ _ => pts_nil) (fun _ _ _ _ _ => (pe_ifExp (pt_cmpR op_eq (pv 1) (pv 2) (nomark _)) pe_int pe_non))) pa_nil)))) pa_nil)))), ?_⟩
    refine ⟨_, rfl, _, _, rfl, rfl, _, rfl, (by omega), (by omega), fun D nD => lc_range (lo := 0) (n := ((n : Int) + 1).toNat) (fun j H' => Same H H' ∧ RowsUp K H' D (n + 1) Zn.whole j) ⟨Same.new nD, [], upd_same, rfl, fun i r hi => (by cases hi)⟩ ?_ ?_⟩
    · rintro i H1 hi ⟨S1, hU⟩
      refine ⟨rfl, ?_⟩
      refine ⟨_, rfl, _, _, rfl, rfl, _, rfl, (by omega), (by omega), fun D2 nD2 => lc_range (lo := 0) (n := ((n : Int) + 1).toNat) (fun j H' => Same H1 H' ∧ H' D2 = some (.lst ((rowV Zn.whole (n + 1) i).take j))) ⟨Same.new nD2, upd_same⟩ ?_ ?_⟩
      · rintro j H2 hj ⟨S2, h2⟩
        refine ⟨rfl, ?_⟩
        have hj2 : j < n + 1 := by omega
        have e := take_snoc (rowV_at (d := Zn.whole) (i := i) hj2)
        refine ⟨_, rfl, _, rfl, rfl, _, rfl, ?_⟩
        have fin : ∀ v, optV (Zn.whole i j) = v → ∃ acc, H2 D2 = some (.lst acc) ∧ acc.length < sizeLine ∧ Same H1 (upd H2 D2 (.lst (acc ++ [v]))) ∧ (upd H2 D2 (.lst (acc ++ [v]))) D2 = some (.lst ((rowV Zn.whole (n + 1) i).take (j + 1))) := fun v hv => by
          refine ⟨_, h2, szs (by rw [List.length_take, rowV_len]; omega), Same.mut S2 nD2, ?_⟩
          rw [upd_same, e, hv]
        by_cases c : i = j
        · rw [decide_eq_true (by rw [c])]
          exact iteT (fin _ (by unfold Zn.whole; rw [if_pos c]; rfl))
        · rw [decide_eq_false fun z => c (by injection z with z; omega)]
          exact iteF (fin _ (by unfold Zn.whole; rw [if_neg c]; rfl))
      · rintro H2 ⟨S2, h2⟩
        have e : (rowV Zn.whole (n + 1) i).take ((n : Int) + 1).toNat = rowV Zn.whole (n + 1) i := List.take_of_length_le (by rw [rowV_len]; omega)
        rw [e] at h2
        refine ⟨D2, _, rfl, .inl ⟨SqL.of h2, fun p np => ?_⟩⟩
        have S3 := S2.trans (Same.new (o := HO.tup (rowV Zn.whole (n + 1) i)) np)
        obtain ⟨acc, g1, g2, g3⟩ := (hU.mono S3).push (SqT.of upd_same) (by omega)
        exact ⟨acc, g1, g2, Same.mut (S1.trans S3) nD, g3⟩
    · rintro H1 ⟨S1, hU⟩
      rw [show ((n : Int) + 1).toNat = n + 1 by omega] at hU
      obtain ⟨ss, g1, g2⟩ := hU.done
      exact ⟨D, _, rfl, .inl ⟨g1, fun p np => k p _ (S1.trans (Same.new np)) (g2 p np)⟩⟩
/-- is a zone within another one, as it is seen -/
def spInside (K : PySem.W.Frag) : Sp := fun vs H Q _ => ∃ (z y : Addr) (m : Nat) (d e : Zn.Z), vs = [.ref z, .ref y] ∧ IsZ K H z m d ∧ IsZ K H y m e ∧ ∀ (b : Bool) H', Same H H' → (b = true → Zn.inside m d e) → Q (.bl b) H'
theorem ok_is_inside {f : Addr} {fd : FuncData} (F : C8.Def K mg "is_inside" s_is_inside f fd) (b : Binds K fd ["zone", "other"] []) (T : Txt K mg CC CS aB) : C8.Cal P w K mg base 1 "is_inside" (spInside K) [] := by
  refine C8.cal0 F b .nil sc_is_inside (fun vs H Q E h => ?_) (fun cdv A outer s H vs Q E hr h => ?_)
  · obtain ⟨z, y, m, d, e, rfl, _⟩ := h
    rfl
  · obtain ⟨z, y, m, d, e, rfl, hz, hy, k⟩ := h
    obtain ⟨xs, hx, hxl, hrow⟩ := hz.row
    obtain ⟨ys, hys, hyl, hrow2⟩ := hy.row
    refine ⟨_, (pss_cons (ps_for PassesOwn.never rfl (RZ.pi_zipA (by rfl) T.z_zip (pa_cons (pv 0) (pa_cons (pv 1) pa_nil))) (pg_tup (by rfl) (pgs_cons (pg_name (i := 2) sc_is_inside.nd rfl (Or.inl rfl)) (pgs_cons (pg_name (i := 3) sc_is_inside.nd rfl (Or.inl rfl)) pgs_nil)))
    (pss_one (ps_if (pt_cmpR (op_neD hr.units) (pv 2) (pv 3) (nomark _)) (pss_one (ps_for PassesOwn.never rfl (RZ.pi_zipA (by rfl) T.z_zip (pa_cons (pv 2) (pa_cons (pv 3) pa_nil))) (pg_tup (by rfl) (pgs_cons (pg_name (i := 4) sc_is_inside.nd rfl (Or.inl rfl)) (pgs_cons (pg_name (i := 5) sc_is_inside.nd rfl (Or.inl rfl)) pgs_nil)))
    (pss_one (ps_if (PW.pt (pw_and (pt_cmpR op_notN (pv 5) pe_non (nomark _)) (pw_and1 (PW.pt (pw_or (pt_cmpR op_isN (pv 4) pe_non (nomark _)) (pw_or1 (pt_cmpR op_gt (pv 4) (pv 5) (nomark _)))))))) (pss_one (ps_ret pe_bl)) pss_nil)))) pss_nil)))
    (pss_one (ps_ret pe_bl))), ?_⟩
    refine ⟨_, rfl, _, rfl, z, y, _, _, rfl, .inr ⟨hx, hys, RZ.for_zipT (xs := xs) (ys := ys) (by omega) (fun i σ H' => ∃ v2 v3 v4 v5, σ = [some (.ref z), some (.ref y), v2, v3, v4, v5] ∧ Same H H' ∧ ∀ u v c, u < i → v < m → e u v = some c → ∃ a, d u v = some a ∧ a ≤ c) ⟨none, none, none, none, rfl, Same.refl H, fun u v c hu => absurd hu (Nat.not_lt_zero u)⟩ (fun i σ H' h => ?_) ?_ ?_⟩⟩
    · obtain ⟨_, _, _, _, _, S, _⟩ := h
      exact ⟨Same.seqT S hx, Same.seqT S hys⟩
    · rintro i x y' T' σ H1 hxi hyi ⟨v2, v3, v4, v5, rfl, S1, hin⟩ nT
      have hi : i < m := by
        rw [← hxl]
        exact (List.getElem?_eq_some_iff.mp hxi).1
      obtain ⟨r, hr1, hr2⟩ := hrow i hi
      rw [hxi] at hr1
      cases hr1
      obtain ⟨t, ht1, ht2⟩ := hrow2 i hi
      rw [hyi] at ht1
      cases ht1
      have ST := S1.trans (Same.new (o := HO.tup [V.ref r, V.ref t]) nT)
      refine ⟨T', _, rfl, .inl (.inl upd_same), rfl, _, _, rfl, _, _, rfl, rfl, ?_⟩
      have same : (∀ v, v < m → d i v = e i v) → ∀ u v c, u < i + 1 → v < m → e u v = some c → ∃ a, d u v = some a ∧ a ≤ c := fun h u v c hu hv hc => by
        by_cases q : u = i
        · subst q
          exact ⟨c, (h v hv).trans hc, Int.le_refl c⟩
        · exact hin u v c (by omega) hv hc
      refine ⟨_, rfl, _, rfl, _, _, dp_row (Same.seqT ST hr2), dp_row (Same.seqT ST ht2), shaped_opts _, shaped_opts _, _, rfl, ?_⟩
      refine ite2 (fun _ => ?_) (fun hq => ?_)
      rotate_left
      · refine ⟨_, _, _, _, rfl, ST, same fun v hv => rowE ?_ hv⟩
        simpa using hq
      refine ⟨_, rfl, _, rfl, r, t, _, _, rfl, .inr ⟨Same.seqT ST hr2, Same.seqT ST ht2, RZ.for_zipT (xs := rowV d m i) (ys := rowV e m i) (by rw [rowV_len, rowV_len]) (fun j σ H' => ∃ v4 v5, σ = [some (.ref z), some (.ref y), some (.ref r), some (.ref t), v4, v5] ∧ Same H H' ∧ ∀ v c, v < j → e i v = some c → ∃ a, d i v = some a ∧ a ≤ c) ⟨v4, v5, rfl, ST, fun v c hv => absurd hv (Nat.not_lt_zero v)⟩ (fun j σ H' h => ?_) ?_ ?_⟩⟩
      · obtain ⟨_, _, _, S, _⟩ := h
        exact ⟨Same.seqT S hr2, Same.seqT S ht2⟩
      · rintro j x y2 T2 σ H2 hxj hyj ⟨v4, v5, rfl, S2, hin2⟩ nT2
        have hj : j < m := by
          have := (List.getElem?_eq_some_iff.mp hxj).1
          rw [rowV_len] at this
          exact this
        rw [rowV_at hj] at hxj hyj
        cases hxj
        cases hyj
        have S3 := S2.trans (Same.new (o := HO.tup [optV (d i j), optV (e i j)]) nT2)
        refine ⟨T2, _, rfl, .inl (.inl upd_same), rfl, _, _, rfl, _, _, rfl, rfl, ?_⟩
        have fin : (∀ c, e i j = some c → ∃ a, d i j = some a ∧ a ≤ c) → ∀ v c, v < j + 1 → e i v = some c → ∃ a, d i v = some a ∧ a ≤ c := fun h v c hv hc => by
          by_cases q : v = j
          · subst q
            exact h c hc
          · exact hin2 v c (by omega) hc
        generalize upd H2 T2 (.tup [optV (d i j), optV (e i j)]) = H3 at S3 ⊢
        cases he : e i j with
        | none =>
          refine ⟨_, rfl, rfl, _, rfl, iteF (iteF ?_)⟩
          exact ⟨_, _, rfl, S3, fin fun c hc => by rw [he] at hc; cases hc⟩
        | some c =>
          refine ⟨_, rfl, rfl, _, rfl, iteT ?_⟩
          cases hd : d i j with
          | none =>
            refine ⟨_, rfl, rfl, _, rfl, iteT (iteT ?_)⟩
            exact k false _ S3 fun z => by cases z
          | some a =>
            refine ⟨_, rfl, rfl, _, rfl, iteF ⟨_, rfl, _, rfl, _, _, rfl, rfl, _, rfl, ?_⟩⟩
            by_cases q : c < a
            · rw [decide_eq_true q]
              exact iteT (k false _ S3 fun z => by cases z)
            · rw [decide_eq_false q]
              exact iteF ⟨_, _, rfl, S3, fin fun c' hc => by rw [he] at hc; cases hc; exact ⟨a, hd, by omega⟩⟩
      · rintro σ H2 ⟨v4, v5, rfl, S2, hin2⟩
        rw [rowV_len] at hin2
        refine ⟨_, _, _, _, rfl, S2, fun u v c hu hv hc => ?_⟩
        by_cases q : u = i
        · subst q
          exact hin2 v c hv hc
        · exact hin u v c (by omega) hv hc
    · rintro σ H1 ⟨v2, v3, v4, v5, rfl, S1, hin⟩
      rw [hxl] at hin
      exact k true H1 S1 fun _ u v c hu hv hc => hin u v c hu hv hc
end
end K9

namespace K9
open PySem L2 Bx
section
variable {P : Program} {w : World} {K : PySem.W.Frag} {mg : Str → Option Value} {base : Heap} {CC CS aB : Addr}
theorem head_find {d : Zn.Z} {i j : Nat} (hj : j < i) (ht : Zn.tied d i j = true) (hn : ∀ k, k < j → Zn.tied d i k = false) : Zn.headOf d i = j := by
  unfold Zn.headOf
  cases q : (List.range i).find? (Zn.tied d i) with
  | none =>
    have := List.find?_eq_none.mp q j (List.mem_range.mpr hj)
    exact absurd ht this
  | some k =>
    obtain ⟨h1, h2, h3⟩ := Zn.find_range q
    show k = j
    rcases Nat.lt_trichotomy k j with c | c | c
    · rw [hn k c] at h2
      cases h2
    · exact c
    · have := h3 j c
      rw [ht] at this
      cases this
theorem head_none {d : Zn.Z} {i : Nat} (hn : ∀ k, k < i → Zn.tied d i k = false) : Zn.headOf d i = i := by
  unfold Zn.headOf
  cases q : (List.range i).find? (Zn.tied d i) with
  | none => rfl
  | some k =>
    obtain ⟨h1, h2, _⟩ := Zn.find_range q
    rw [hn k h1] at h2
    cases h2
def natV (n : Nat) : V := .int (n : Nat)
def spHead (K : PySem.W.Frag) : Sp := fun vs H Q _ => ∃ (z l : Addr) (m i : Nat) (d : Zn.Z), vs = [.ref z, .ref l, .int (i : Nat)] ∧ IsZ K H z m d ∧ SqL K H l ((List.range m).map natV) ∧ i < m ∧ ∀ H', Same H H' → Q (.int (Zn.headOf d i : Nat)) H'
theorem nat_dec {a b : Nat} : decide (natV a = natV b) = decide (a = b) := by
  rw [Bool.eq_iff_iff, decide_eq_true_eq, decide_eq_true_eq]
  exact ⟨fun z => Int.ofNat.inj (V.int.inj z), fun z => by rw [z]⟩
theorem ok_head_of {f : Addr} {fd : FuncData} (F : C8.Def K mg "head_of" s_head_of f fd) (b : Binds K fd ["zone", "indexes", "i"] []) (T : Txt K mg CC CS aB) : C8.Cal P w K mg base 1 "head_of" (spHead K) [] := by
  refine C8.cal0 F b .nil sc_head_of (fun vs H Q E h => ?_) (fun cdv A outer s H vs Q E hr h => ?_)
  · obtain ⟨z, l, m, i, d, rfl, _⟩ := h
    rfl
  · obtain ⟨z, l, m, i, d, rfl, hz, hl, hi, k⟩ := h
    obtain ⟨xs, hx, hxl, hrow⟩ := hz.row
    obtain ⟨r, hr1, hr2⟩ := hrow i hi
    refine ⟨_, (pss_cons (ps_set (i := 3) sc_head_of.nd rfl (Or.inl rfl) (pe_ix ix_tup (pv 0) (pv 2) (fun _ _ => rfl)))
    (pss_cons (ps_for PassesOwn.never rfl (pi_list (pv 1)) (pg_name (i := 4) sc_head_of.nd rfl (Or.inl rfl))
    (pss_one (ps_if (PW.pt (pw_or (pt_cmpR op_eq (pv 4) (pv 2) (nomark _)) (pw_or1 (PW.pt (pw_and (pt_cmpR op_notN (pe_ix ix_tup (pv 3) (pv 4) (fun _ _ => rfl)) pe_non (nomark _)) (pw_and (pt_cmpR op_notN (pe_ix ix_tup (pe_ix ix_tup (pv 0) (pv 4) (fun _ _ => rfl)) (pv 2) (fun _ _ => rfl)) pe_non (nomark _)) (pw_and1 (pt_cmpR op_eq (pe_op op_add (pe_ix ix_tup (pv 3) (pv 4) (fun _ _ => rfl)) (pe_ix ix_tup (pe_ix ix_tup (pv 0) (pv 4) (fun _ _ => rfl)) (pv 2) (fun _ _ => rfl))) pe_int (nomark _))))))))) (pss_one (ps_ret (pv 4))) pss_nil)))
    (pss_one (ps_ret (pv 2))))), ?_⟩
    refine ⟨_, rfl, _, rfl, z, _, _, _, rfl, rfl, hx, atI_nat hr1, ?_⟩
    refine ⟨_, rfl, l, rfl, ⟨_, hl⟩, for_list (xs := (List.range m).map natV) (fun j σ H' => ∃ v4, σ = [some (.ref z), some (.ref l), some (.int (i : Nat)), some (.ref r), v4] ∧ H' = H ∧ ∀ k, k < j → Zn.tied d i k = false ∧ k ≠ i) ⟨none, rfl, rfl, fun k hk => absurd hk (Nat.not_lt_zero k)⟩ (fun j σ H' _ h => ?_) ?_ ?_⟩
    · obtain ⟨_, _, rfl, _⟩ := h
      exact hl
    · rintro j x σ H1 hxj ⟨v4, rfl, rfl, hn⟩
      rw [List.getElem?_map] at hxj
      obtain ⟨j', hj', rfl⟩ := Option.map_eq_some_iff.mp hxj
      obtain ⟨hjm, ej⟩ := List.getElem?_eq_some_iff.mp hj'
      rw [List.length_range] at hjm
      have ej2 : j' = j := by rw [← ej, List.getElem_range]
      subst ej2
      have k0 := k H1 (Same.refl H1)
      have nlt : ¬ i < j' := fun c => (hn i c).2 rfl
      refine ⟨_, rfl, _, rfl, rfl, _, rfl, ?_⟩
      have e0 : decide (natV j' = V.int (i : Nat)) = decide (j' = i) := nat_dec (b := i)
      rw [e0]
      by_cases c0 : j' = i
      · rw [decide_eq_true c0]
        have e := head_none (d := d) (i := i) fun k hk => (hn k (by omega)).1
        rw [e] at k0
        refine iteT (iteT ⟨_, rfl, ?_⟩)
        rw [c0]
        exact k0
      rw [decide_eq_false c0]
      have hji : j' < i := by omega
      have no : Zn.tied d i j' = false → ∃ v4, [some (V.ref z), some (V.ref l), some (V.int (i : Nat)), some (V.ref r), some (natV j')] = [some (.ref z), some (.ref l), some (.int (i : Nat)), some (.ref r), v4] ∧ H1 = H1 ∧ ∀ k, k < j' + 1 → Zn.tied d i k = false ∧ k ≠ i := fun h => ⟨_, rfl, rfl, fun k hk => by
        by_cases q : k = j'
        · rw [q]; exact ⟨h, c0⟩
        · exact hn k (by omega)⟩
      obtain ⟨t, ht1, ht2⟩ := hrow j' hjm
      have aj : atI xs ((j' : Nat) : Int) = some (.ref t) := atI_nat ht1
      have bj : atI (rowV d m i) ((j' : Nat) : Int) = some (optV (d i j')) := atI_nat (rowV_at hjm)
      refine iteF ⟨_, rfl, _, rfl, r, _, _, _, rfl, rfl, hr2, bj, ?_⟩
      cases h1 : d i j' with
      | none =>
        refine ⟨rfl, _, rfl, iteF (iteF (no ?_))⟩
        unfold Zn.tied
        rw [h1]
      | some a =>
        refine ⟨rfl, _, rfl, iteT ⟨_, rfl, _, rfl, z, _, _, _, rfl, rfl, hx, aj, _, rfl, t, _, _, _, rfl, rfl, ht2, atI_nat (rowV_at hi), ?_⟩⟩
        cases h2 : d j' i with
        | none =>
          refine ⟨rfl, _, rfl, iteF (iteF (no ?_))⟩
          unfold Zn.tied
          rw [h1, h2]
        | some c =>
          refine ⟨rfl, _, rfl, iteT ⟨_, rfl, _, rfl, r, _, _, _, rfl, rfl, hr2, bj, _, rfl, _, rfl, z, _, _, _, rfl, rfl, hx, aj, _, rfl, t, _, _, _, rfl, rfl, ht2, atI_nat (rowV_at hi), a, c, by rw [h1]; rfl, by rw [h2]; rfl, rfl, _, rfl, ?_⟩⟩
          have et : Zn.tied d i j' = decide (a + c = 0) := by
            unfold Zn.tied
            rw [h1, h2]
          by_cases q : a + c = 0
          · rw [decide_eq_true (congrArg V.int q)]
            refine iteT ⟨_, rfl, ?_⟩
            have e := head_find hji (by rw [et, decide_eq_true q]) fun k hk => (hn k hk).1
            rw [e] at k0
            exact k0
          · rw [decide_eq_false fun y => q (V.int.inj y)]
            exact iteF (no (by rw [et, decide_eq_false q]))
    · rintro σ H1 ⟨v4, rfl, rfl, hn⟩
      rw [List.length_map, List.length_range] at hn
      exact absurd rfl (hn i hi).2
def spNeeded (K : PySem.W.Frag) : Sp := fun vs H Q _ => ∃ (z l : Addr) (m i j : Nat) (d : Zn.Z) (F : List Nat) (n : Int), vs = [.ref z, .ref l, .int (i : Nat), .int (j : Nat)] ∧ IsZ K H z m d ∧ i < m ∧ j < m ∧ d i j = some n ∧ SqL K H l (F.map natV) ∧ (∀ k ∈ F, k < m) ∧ ∀ H', Same H H' → Q (.bl (Zn.needed d F i j)) H'
theorem ok_is_needed {f : Addr} {fd : FuncData} (F : C8.Def K mg "is_needed" s_is_needed f fd) (b : Binds K fd ["zone", "firsts", "i", "j"] []) (T : Txt K mg CC CS aB) : C8.Cal P w K mg base 1 "is_needed" (spNeeded K) [] := by
  refine C8.cal0 F b .nil sc_is_needed (fun vs H Q E h => ?_) (fun cdv A outer s H vs Q E hr h => ?_)
  · obtain ⟨z, l, m, i, j, d, F, n, rfl, _⟩ := h
    rfl
  · obtain ⟨z, l, m, i, j, d, G, n, rfl, hz, hi, hj, hd, hl, hG, k⟩ := h
    obtain ⟨xs, hx, hxl, hrow⟩ := hz.row
    obtain ⟨r, hr1, hr2⟩ := hrow i hi
    refine ⟨_, (pss_cons (ps_set (i := 4) sc_is_needed.nd rfl (Or.inl rfl) (pe_ix ix_tup (pv 0) (pv 2) (fun _ _ => rfl)))
    (pss_cons (ps_set (i := 5) sc_is_needed.nd rfl (Or.inl rfl) (pe_ix ix_tup (pv 4) (pv 3) (fun _ _ => rfl)))
    (pss_cons (ps_for PassesOwn.never rfl (pi_list (pv 1)) (pg_name (i := 6) sc_is_needed.nd rfl (Or.inl rfl))
    (pss_cons (ps_set (i := 7) sc_is_needed.nd rfl (Or.inl rfl) (pe_ix ix_tup (pv 4) (pv 6) (fun _ _ => rfl)))
    (pss_one (ps_if (PW.pt (pw_and (pt_cmpR op_notN (pv 7) pe_non (nomark _)) (pw_and (pt_cmpR op_notN (pe_ix ix_tup (pe_ix ix_tup (pv 0) (pv 6) (fun _ _ => rfl)) (pv 3) (fun _ _ => rfl)) pe_non (nomark _)) (pw_and (pt_cmpR op_ne (pv 6) (pv 2) (nomark _)) (pw_and (pt_cmpR op_ne (pv 6) (pv 3) (nomark _)) (pw_and1 (pt_cmpR op_le (pe_op op_add (pv 7) (pe_ix ix_tup (pe_ix ix_tup (pv 0) (pv 6) (fun _ _ => rfl)) (pv 3) (fun _ _ => rfl))) (pv 5) (nomark _)))))))) (pss_one (ps_ret pe_bl)) pss_nil))))
    (pss_one (ps_ret pe_bl))))), ?_⟩
    refine ⟨_, rfl, _, rfl, z, _, _, _, rfl, rfl, hx, atI_nat hr1, _, rfl, _, rfl, r, _, _, _, rfl, rfl, hr2, atI_nat (rowV_at hj), ?_⟩
    rw [hd]
    have k0 : Q (.bl (!G.any (Zn.btw d n i j))) H := by
      have := k H (Same.refl H)
      unfold Zn.needed at this
      rw [hd] at this
      exact this
    refine ⟨_, rfl, l, rfl, ⟨_, hl⟩, for_list (xs := G.map natV) (fun u σ H' => ∃ v6 v7, σ = [some (.ref z), some (.ref l), some (.int (i : Nat)), some (.int (j : Nat)), some (.ref r), some (.int n), v6, v7] ∧ H' = H ∧ (G.take u).any (Zn.btw d n i j) = false) ⟨none, none, rfl, rfl, rfl⟩ (fun u σ H' _ h => ?_) ?_ ?_⟩
    · obtain ⟨_, _, _, rfl, _⟩ := h
      exact hl
    · rintro u x σ H1 hx' ⟨v6, v7, rfl, rfl, hn⟩
      rw [List.getElem?_map] at hx'
      obtain ⟨c, hc, rfl⟩ := Option.map_eq_some_iff.mp hx'
      have hcm := hG c (List.mem_of_getElem? hc)
      obtain ⟨t, ht1, ht2⟩ := hrow c hcm
      have ic : atI (rowV d m i) ((c : Nat) : Int) = some (optV (d i c)) := atI_nat (rowV_at hcm)
      have no : ∀ w7 : V, Zn.btw d n i j c = false → ∃ v6 v7, [some (V.ref z), some (V.ref l), some (V.int (i : Nat)), some (V.int (j : Nat)), some (V.ref r), some (V.int n), some (natV c), some w7] = [some (.ref z), some (.ref l), some (.int (i : Nat)), some (.int (j : Nat)), some (.ref r), some (.int n), v6, v7] ∧ H1 = H1 ∧ (G.take (u + 1)).any (Zn.btw d n i j) = false := fun w7 h => ⟨_, _, rfl, rfl, by
        rw [take_snoc hc, List.any_append, hn]
        simp [h]⟩
      refine ⟨_, rfl, _, rfl, r, _, _, _, rfl, rfl, hr2, ic, ?_⟩
      cases h1 : d i c with
      | none =>
        refine ⟨_, rfl, rfl, _, rfl, iteF (iteF (no _ ?_))⟩
        unfold Zn.btw
        simp [h1]
      | some a =>
        refine ⟨_, rfl, rfl, _, rfl, iteT ⟨_, rfl, _, rfl, z, _, _, _, rfl, rfl, hx, atI_nat ht1, _, rfl, t, _, _, _, rfl, rfl, ht2, atI_nat (rowV_at hj), ?_⟩⟩
        cases h2 : d c j with
        | none =>
          refine ⟨rfl, _, rfl, iteF (iteF (no _ ?_))⟩
          unfold Zn.btw
          simp [h2]
        | some e =>
          refine ⟨rfl, _, rfl, iteT ⟨_, rfl, _, rfl, rfl, _, rfl, ?_⟩⟩
          have e0 : (!decide (natV c = V.int (i : Nat))) = (!decide (c = i)) := congrArg Bool.not (nat_dec (b := i))
          have e1 : (!decide (natV c = V.int (j : Nat))) = (!decide (c = j)) := congrArg Bool.not (nat_dec (b := j))
          rw [e0]
          by_cases ci : c = i
          · rw [decide_eq_true ci]
            refine iteF (iteF (no _ ?_))
            unfold Zn.btw
            simp [ci]
          rw [decide_eq_false ci]
          refine iteT ⟨_, rfl, _, rfl, rfl, _, rfl, ?_⟩
          rw [e1]
          by_cases cj : c = j
          · rw [decide_eq_true cj]
            refine iteF (iteF (no _ ?_))
            unfold Zn.btw
            simp [cj]
          rw [decide_eq_false cj]
          refine iteT ⟨_, rfl, _, rfl, _, rfl, z, _, _, _, rfl, rfl, hx, atI_nat ht1, _, rfl, t, _, _, _, rfl, rfl, ht2, atI_nat (rowV_at hj), a, e, rfl, by rw [h2]; rfl, _, rfl, _, _, rfl, rfl, _, rfl, ?_⟩
          have eb : Zn.btw d n i j c = decide (a + e ≤ n) := by
            unfold Zn.btw
            rw [h1, h2, bne_iff_ne.mpr ci, bne_iff_ne.mpr cj]
            rfl
          by_cases q : a + e ≤ n
          · rw [decide_eq_true q]
            refine iteT ?_
            have : G.any (Zn.btw d n i j) = true := List.any_eq_true.mpr ⟨c, List.mem_of_getElem? hc, by rw [eb, decide_eq_true q]⟩
            rw [this] at k0
            exact k0
          · rw [decide_eq_false q]
            exact iteF (no _ (by rw [eb, decide_eq_false q]))
    · rintro σ H1 ⟨v6, v7, rfl, rfl, hn⟩
      rw [List.length_map, List.take_length] at hn
      rw [hn] at k0
      exact k0
theorem cut_to {xs : List V} {k : Nat} (h : k ≤ xs.length) : cutV xs none (some (k : Int)) = xs.take k := by
  unfold cutV
  rw [HT.sIx_none, HT.sIx_nat, List.drop_zero, Nat.sub_zero, Nat.min_eq_left h]
theorem cut_from {xs : List V} {k : Nat} (h : k ≤ xs.length) : cutV xs (some (k : Int)) none = xs.drop k := by
  unfold cutV
  rw [HT.sIx_nat, HT.sIx_none, Nat.min_eq_left h, List.take_of_length_le (by rw [List.length_drop]; omega)]
theorem flatMap_len {α β : Type} {f : α → List β} {c : Nat} : ∀ {l : List α}, (∀ x ∈ l, (f x).length ≤ c) → (l.flatMap f).length ≤ l.length * c
  | [], _ => by simp
  | a :: l, h => by
    have := flatMap_len (l := l) (f := f) (c := c) fun x hx => h x (List.mem_cons_of_mem _ hx)
    have h1 := h a List.mem_cons_self
    rw [List.flatMap_cons, List.length_append, List.length_cons, Nat.succ_mul]
    omega
theorem group_len (d : Zn.Z) (m h : Nat) : (Zn.group d m h).length ≤ m := by
  have : (Zn.group d m h).length ≤ (List.range m).length := List.length_filter_le _ _
  rw [List.length_range] at this
  exact this
theorem firsts_len (d : Zn.Z) (m : Nat) : (Zn.firsts d m).length ≤ m := by
  have : (Zn.firsts d m).length ≤ (List.range m).length := List.length_filter_le _ _
  rw [List.length_range] at this
  exact this
theorem pairs_len (g : List Nat) : (Zn.pairs g).length ≤ g.length := by
  unfold Zn.pairs
  rw [List.length_zip]
  omega
theorem ring_len (d : Zn.Z) (m h : Nat) : (Zn.ringLits d m h).length ≤ m := by
  unfold Zn.ringLits
  split
  · rw [List.length_map]
    exact Nat.le_trans (pairs_len _) (group_len d m h)
  · simp
theorem rest_len (d : Zn.Z) (m i : Nat) : (Zn.restLits d m i).length ≤ m := by
  unfold Zn.restLits
  rw [List.length_map]
  exact Nat.le_trans (List.length_filter_le _ _) (firsts_len d m)
theorem rings_len (d : Zn.Z) {m h : Nat} (hm : m ≤ 20) (hh : h ≤ 20) : ((List.range h).flatMap (Zn.ringLits d m)).length ≤ 400 := by
  have := flatMap_len (l := List.range h) (f := Zn.ringLits d m) (c := 20) fun x _ => Nat.le_trans (ring_len d m x) hm
  rw [List.length_range] at this
  omega
theorem rests_len (d : Zn.Z) {m : Nat} (hm : m ≤ 20) (u : Nat) : (((Zn.firsts d m).take u).flatMap (Zn.restLits d m)).length ≤ 400 := by
  have := flatMap_len (l := (Zn.firsts d m).take u) (f := Zn.restLits d m) (c := 20) fun x _ => Nat.le_trans (rest_len d m x) hm
  have h2 := firsts_len d m
  rw [List.length_take] at this
  have h3 : min u (Zn.firsts d m).length ≤ 20 := by omega
  have := Nat.le_trans this (Nat.mul_le_mul_right 20 h3)
  omega
/-- the literals told so far -/
def LitsUp (K : PySem.W.Frag) (H : Hp) (D : Addr) (qs : List Zn.Lit) : Prop := ∃ ts : List Addr, H D = some (.lst (ts.map V.ref)) ∧ LitsZ K H ts qs
theorem LitsZ.but {l : Addr} {H H' : Hp} {xs : List V} {ts : List Addr} {qs : List Zn.Lit} (hl : H l = some (.lst xs)) (e : But l H H') (h : LitsZ K H ts qs) : LitsZ K H' ts qs := ⟨h.1, fun j q hj => (h.2 j q hj).imp fun t x => ⟨x.1, butT hl e x.2⟩⟩
theorem LitsZ.app {H : Hp} {ts us : List Addr} {qs rs : List Zn.Lit} (h : LitsZ K H ts qs) (h' : LitsZ K H us rs) : LitsZ K H (ts ++ us) (qs ++ rs) := by
  refine ⟨by rw [List.length_append, List.length_append, h.1, h'.1], fun j q hj => ?_⟩
  by_cases e : j < qs.length
  · rw [List.getElem?_append_left e] at hj
    obtain ⟨t, h1, h2⟩ := h.2 j q hj
    exact ⟨t, by rw [List.getElem?_append_left (by rw [h.1]; exact e)]; exact h1, h2⟩
  · rw [List.getElem?_append_right (by omega)] at hj
    obtain ⟨t, h1, h2⟩ := h'.2 _ q hj
    exact ⟨t, by rw [List.getElem?_append_right (by rw [h.1]; omega), h.1]; exact h1, h2⟩
theorem LitsZ.nil {H : Hp} : LitsZ K H [] [] := ⟨rfl, fun j q h => by cases h⟩
theorem LitsUp.mono {H H' : Hp} {D : Addr} {qs : List Zn.Lit} (e : Same H H') (h : LitsUp K H D qs) : LitsUp K H' D qs := h.imp fun ts x => ⟨e _ _ x.1, x.2.mono e⟩
theorem LitsUp.push {H : Hp} {D t : Addr} {qs : List Zn.Lit} {q : Zn.Lit} (h : LitsUp K H D qs) (ht : LitZ K H t q) (hj : qs.length ≤ 900) : ∃ acc, H D = some (.lst acc) ∧ acc.length < sizeLine ∧ LitsUp K (upd H D (.lst (acc ++ [.ref t]))) D (qs ++ [q]) := by
  obtain ⟨ts, h1, h2⟩ := h
  refine ⟨_, h1, szs (by rw [List.length_map, h2.1]; exact Nat.le_trans hj (by decide)), ts ++ [t], by rw [upd_same, List.map_append]; rfl, ?_⟩
  refine (h2.but h1 But.upd).app ⟨rfl, fun j q' hj => ?_⟩
  cases j with
  | zero =>
    cases hj
    exact ⟨t, rfl, butT h1 But.upd ht⟩
  | succ j => cases hj
/-- what is taken of numbers by a test, in a list that grows -/
theorem nat_push {H : Hp} {D : Addr} {ns : List Nat} {n : Nat} (h : H D = some (.lst (ns.map natV))) (hl : ns.length ≤ 900) : ∃ acc, H D = some (.lst acc) ∧ acc.length < sizeLine ∧ (upd H D (.lst (acc ++ [natV n]))) D = some (.lst ((ns ++ [n]).map natV)) :=
  ⟨_, h, szs (by rw [List.length_map]; exact Nat.le_trans hl (by decide)), by rw [upd_same, List.map_append]; rfl⟩
theorem filter_range_succ (p : Nat → Bool) (i : Nat) : (List.range (i + 1)).filter p = (List.range i).filter p ++ if p i then [i] else [] := by
  rw [List.range_succ, List.filter_append]
  congr 1
  by_cases h : p i = true
  · simp [h]
  · simp [h]
theorem rings_len2 (d : Zn.Z) {m : Nat} (hm : m ≤ 20) (u : Nat) : (((Zn.firsts d m).take u).flatMap (Zn.ringLits d m)).length ≤ 400 := by
  have := flatMap_len (l := (Zn.firsts d m).take u) (f := Zn.ringLits d m) (c := 20) fun x _ => Nat.le_trans (ring_len d m x) hm
  have h2 := firsts_len d m
  rw [List.length_take] at this
  have h3 : min u (Zn.firsts d m).length ≤ 20 := by omega
  have := Nat.le_trans this (Nat.mul_le_mul_right 20 h3)
  omega
theorem firsts_le {d : Zn.Z} {m : Nat} (h : ¬ (Zn.firsts d m).length < m) : ∀ i, i < m → Zn.headOf d i = i := by
  have e : (Zn.firsts d m).length = (List.range m).length := by
    have := firsts_len d m
    rw [List.length_range]
    omega
  have e2 : ∀ a ∈ List.range m, (Zn.headOf d a == a) = true := List.length_filter_eq_length_iff.mp e
  intro i hi
  exact beq_iff_eq.mp (e2 i (List.mem_range.mpr hi))
theorem flat_nil {α β : Type} {f : α → List β} : ∀ {l : List α}, (∀ x ∈ l, f x = []) → l.flatMap f = []
  | [], _ => rfl
  | a :: l, h => by rw [List.flatMap_cons, h a List.mem_cons_self, flat_nil fun x hx => h x (List.mem_cons_of_mem _ hx)]; rfl
theorem flat_filter {α β : Type} {f : α → List β} {p : α → Bool} : ∀ {l : List α}, (∀ x ∈ l, p x = false → f x = []) → l.flatMap f = (l.filter p).flatMap f
  | [], _ => rfl
  | a :: l, h => by
    have ih := flat_filter (f := f) (p := p) (l := l) fun x hx => h x (List.mem_cons_of_mem _ hx)
    cases c : p a with
    | true => rw [List.flatMap_cons, List.filter_cons, if_pos c, List.flatMap_cons, ih]
    | false => rw [List.flatMap_cons, List.filter_cons, if_neg (by rw [c]; exact Bool.false_ne_true), h a List.mem_cons_self c, ih]; rfl
theorem rings_firsts {d : Zn.Z} {m : Nat} (C : Zn.Closed m d) : (List.range m).flatMap (Zn.ringLits d m) = (Zn.firsts d m).flatMap (Zn.ringLits d m) := by
  refine flat_filter fun h hh hp => ?_
  have hm := List.mem_range.mp hh
  have e : Zn.group d m h = [] := by
    refine List.eq_nil_iff_forall_not_mem.mpr fun i hi => ?_
    obtain ⟨im, ei⟩ := Zn.mem_group.mp hi
    have := Zn.head_head C im
    rw [ei] at this
    rw [this] at hp
    simp at hp
  unfold Zn.ringLits
  rw [e]
  rfl
theorem rings_none {d : Zn.Z} {m : Nat} (h : ¬ (Zn.firsts d m).length < m) : (Zn.firsts d m).flatMap (Zn.ringLits d m) = [] := by
  refine flat_nil fun a _ => ?_
  have e := firsts_le h
  unfold Zn.ringLits
  rw [if_neg]
  intro hl
  obtain ⟨u, v, hu, hv, ne⟩ : ∃ u v, u ∈ Zn.group d m a ∧ v ∈ Zn.group d m a ∧ u ≠ v := by
    have nd : (Zn.group d m a).Nodup := List.nodup_range.filter _
    match q : Zn.group d m a, hl, nd with
    | [], hl, _ => simp at hl
    | [_], hl, _ => simp at hl
    | x :: y :: l, _, nd =>
      refine ⟨x, y, by simp, by simp, ?_⟩
      have := (List.nodup_cons.mp nd).1
      intro h
      exact this (by rw [h]; simp)
  obtain ⟨um, eu⟩ := Zn.mem_group.mp hu
  obtain ⟨vm, ev⟩ := Zn.mem_group.mp hv
  rw [e u um] at eu
  rw [e v vm] at ev
  exact ne (eu.trans ev.symm)
theorem rest_two (d : Zn.Z) (m i : Nat) : Zn.restLits d m i = (((Zn.firsts d m).filter fun j => (d i j).isSome && (i != j)).filter fun j => Zn.needed d (Zn.firsts d m) i j).map fun j => (i, j, Zn.num d i j) := by
  unfold Zn.restLits
  rw [List.filter_filter]
  congr 1
  refine List.filter_congr fun j _ => ?_
  unfold Zn.needed
  cases d i j with
  | none => simp
  | some n => simp [Bool.and_comm]
/-- the heads, told -/
def headK (d : Zn.Z) (j : Nat) : List (Key × V) := (List.range j).map fun i => ((Sum.inl (i : Nat) : Key), natV (Zn.headOf d i))
theorem headK_get {d : Zn.Z} : ∀ {j i : Nat}, i < j → valV (headK d j) (Sum.inl (i : Nat) : Key) = some (natV (Zn.headOf d i)) ∧ (∀ i, j ≤ i → valV (headK d j) (Sum.inl (i : Nat) : Key) = none)
  | 0, i, h => absurd h (Nat.not_lt_zero i)
  | j + 1, i, h => by
    have e : headK d (j + 1) = headK d j ++ [((Sum.inl (j : Nat) : Key), natV (Zn.headOf d j))] := by
      unfold headK
      rw [List.range_succ, List.map_append]
      rfl
    have hn : ∀ i, j ≤ i → valV (headK d j) (Sum.inl (i : Nat) : Key) = none := by
      cases j with
      | zero => intro i _; rfl
      | succ j => exact (headK_get (d := d) (j := j + 1) (i := 0) (Nat.succ_pos j)).2
    refine ⟨?_, fun i' h' => ?_⟩
    · rw [e, valV_snoc _ _ _ _ (hn j (Nat.le_refl j))]
      by_cases q : i = j
      · rw [q, if_pos rfl]
      · rw [if_neg (fun z => q (by injection z with z; omega))]
        exact (headK_get (d := d) (j := j) (i := i) (by omega)).1
    · rw [e, valV_snoc _ _ _ _ (hn j (Nat.le_refl j)), if_neg (fun z => by injection z with z; omega)]
      exact hn i' (by omega)
theorem headK_put (d : Zn.Z) (j : Nat) : putK (headK d j) (Sum.inl (j : Nat) : Key) (natV (Zn.headOf d j)) = headK d (j + 1) := by
  have hn : valV (headK d j) (Sum.inl (j : Nat) : Key) = none := by
    cases j with
    | zero => rfl
    | succ j => exact (headK_get (d := d) (j := j + 1) (i := 0) (Nat.succ_pos j)).2 _ (Nat.le_refl _)
  rw [putK_new _ hn]
  unfold headK
  rw [List.range_succ, List.map_append]
  rfl
def spAmong (K : PySem.W.Frag) : Sp := fun vs H Q _ => ∃ (z l : Addr) (m : Nat) (d : Zn.Z), vs = [.ref z, .ref l] ∧ IsZ K H z m d ∧ SqL K H l ((List.range m).map natV) ∧ Zn.Closed m d ∧ m ≤ 20 ∧ ∀ p ts H', Same H H' → SqT K H' p (ts.map V.ref) → LitsZ K H' ts (Zn.lits d m) → Q (.ref p) H'
theorem ok_literals_among {f : Addr} {fd : FuncData} (F : C8.Def K mg "literals_among" s_literals_among f fd) (b : Binds K fd ["zone", "indexes"] []) (T : Txt K mg CC CS aB) (K_head_of : C8.Cal P w K mg base 1 "head_of" (spHead K) []) (K_is_needed : C8.Cal P w K mg base 1 "is_needed" (spNeeded K) []) :
    C8.Cal P w K mg base 2 "literals_among" (spAmong K) [] := by
  refine C8.cal0 F b .nil sc_literals_among (fun vs H Q E h => ?_) (fun cdv A outer s H vs Q E hr h => ?_)
  · obtain ⟨z, l, m, d, rfl, _⟩ := h
    rfl
  · obtain ⟨z, l, m, d, rfl, hz, hl, C, hm, k⟩ := h
    have hu := hu_of hr
    obtain ⟨xs, hx, hxl, hrow⟩ := hz.row
    refine ⟨_, (pss_cons (ps_set (i := 2) sc_literals_among.nd rfl (Or.inr rfl) (pe_dc (own := [("i", 7)]) rfl sc_literals_among.nd (pi_list (pv 1)) (blkOk_by (own := [("i", 7)]) (N := N_literals_among) (sc := C8.fnScope s_literals_among) (by decide +kernel)) (fun _ _ _ _ _ => (pg_name (i := 7) sc_literals_among.nd rfl (Or.inl rfl))) (fun _ _ _ _ _ => pts_nil) (fun _ _ _ _ _ => (pv 7)) (fun _ _ _ _ _ => (C8.pe_c K_head_of hr (by decide) (by rfl) (pa_cons (pv 0) (pa_cons (pv 1) (pa_cons (pv 7) pa_nil)))))))
    (pss_cons (ps_set (i := 3) sc_literals_among.nd rfl (Or.inl rfl) (pe_lst pa_nil))
    (pss_cons (ps_set (i := 4) sc_literals_among.nd rfl (Or.inr rfl) (pe_lc (own := [("i", 7)]) (g := gName 7) rfl sc_literals_among.nd (pi_list (pv 1)) (blkOk_by (own := [("i", 7)]) (N := N_literals_among) (sc := C8.fnScope s_literals_among) (by decide +kernel)) (fun _ _ _ _ _ => (pg_name (i := 7) sc_literals_among.nd rfl (Or.inl rfl))) (fun _ _ _ _ _ => (pts_one (pt_cmpR op_eq (pe_dget hu (pv 2) (pv 7) (fun _ _ => rfl)) (pv 7) (nomark _)))) (fun _ _ _ _ _ => (pv 7))))
    (C8.pss_cut (ps_if (pt_cmpR op_lt (pe_callB call_len_seq (by rfl) T.z_len (by decide +kernel) (pa_cons (pv 4) pa_nil)) (pe_callB call_len_seq (by rfl) T.z_len (by decide +kernel) (pa_cons (pv 1) pa_nil)) (nomark _)) (pss_one (ps_for PassesOwn.never rfl (pi_list (pv 4)) (pg_name (i := 5) sc_literals_among.nd rfl (Or.inr rfl))
    (pss_cons (ps_setLc (i := 6) (own := [("i", 7)]) (g := gName 7) rfl sc_literals_among.nd rfl rfl (sw_true rfl rfl rfl (by decide +kernel)) (pi_list (pv 1)) (blkOk_by (own := [("i", 7)]) (N := N_literals_among) (sc := C8.fnScope s_literals_among) (by decide +kernel)) (fun _ _ _ _ _ => (pg_name (i := 7) sc_literals_among.nd rfl (Or.inl rfl))) (fun _ _ _ _ _ => (pts_one (pt_cmpR op_eq (pe_dget hu (pv 2) (pv 7) (fun _ _ => rfl)) (pv 5) (nomark _)))) (fun _ _ _ _ _ => (pv 7)))
    (pss_one (ps_if (pt_cmpR op_gt (pe_callB call_len_seq (by rfl) T.z_len (by decide +kernel) (pa_cons (pv 6) pa_nil)) pe_int (nomark _)) (pss_one (ps_set (i := 3) sc_literals_among.nd rfl (Or.inl rfl) (pe_op op_catS (pv 3) (pe_lc (own := [("i", 7), ("j", 9)]) (g := _) (tt := tYes) rfl sc_literals_among.nd (pi_zip (by rfl) T.z_zip (pa_cons (pv 6) (pa_cons (pe_op op_catS (pe_slice sl_list (pv 6) (po_some pe_int) po_none) (pe_slice sl_list (pv 6) po_none (po_some pe_int))) pa_nil))) (blkOk_by (own := [("i", 7), ("j", 9)]) (N := N_literals_among) (sc := C8.fnScope s_literals_among) (by decide +kernel)) (fun _ _ _ _ _ => (pgTK K 2 (pgs_cons (pg_name (i := 7) sc_literals_among.nd rfl (Or.inl rfl)) (pgs_cons (pg_name (i := 9) sc_literals_among.nd rfl (Or.inl rfl)) pgs_nil)))) (fun _ _ _ _ _ => pts_nil) (fun _ _ _ _ _ => (pe_tup (pa_cons (pv 7) (pa_cons (pv 9) (pa_cons (pe_ix (ixTK K) (pe_ix (ixTK K) (pv 0) (pv 7) (fun _ _ => rfl)) (pv 9) (fun _ _ => rfl)) pa_nil))))))))) pss_nil))))) pss_nil)
    (pss_cons (ps_for PassesOwn.never rfl (pi_list (pv 4)) (pg_name (i := 7) sc_literals_among.nd rfl (Or.inr rfl))
    (pss_cons (ps_setLc (i := 8) (own := [("j", 9)]) (g := gName 9) rfl sc_literals_among.nd rfl rfl (sw_true rfl rfl rfl (by decide +kernel)) (pi_list (pv 4)) (blkOk_by (own := [("j", 9)]) (N := N_literals_among) (sc := C8.fnScope s_literals_among) (by decide +kernel)) (fun _ _ _ _ _ => (pg_name (i := 9) sc_literals_among.nd rfl (Or.inl rfl))) (fun _ _ _ _ _ => (pts_one (PW.pt (pw_and (pt_cmpR op_notN (pe_ix (ixTK K) (pe_ix (ixTK K) (pv 0) (pv 7) (fun _ _ => rfl)) (pv 9) (fun _ _ => rfl)) pe_non (nomark _)) (pw_and1 (pt_cmpR op_ne (pv 7) (pv 9) (nomark _))))))) (fun _ _ _ _ _ => (pv 9)))
    (pss_one (ps_set (i := 3) sc_literals_among.nd rfl (Or.inl rfl) (pe_op op_catS (pv 3) (pe_lc (own := [("j", 9)]) (g := gName 9) rfl sc_literals_among.nd (pi_list (pv 8)) (blkOk_by (own := [("j", 9)]) (N := N_literals_among) (sc := C8.fnScope s_literals_among) (by decide +kernel)) (fun _ _ _ _ _ => (pg_name (i := 9) sc_literals_among.nd rfl (Or.inl rfl))) (fun _ _ _ _ _ => (pts_one (pt_val (C8.pe_c K_is_needed hr (by decide) (by rfl) (pa_cons (pv 0) (pa_cons (pv 4) (pa_cons (pv 7) (pa_cons (pv 9) pa_nil)))))))) (fun _ _ _ _ _ => (pe_tup (pa_cons (pv 7) (pa_cons (pv 9) (pa_cons (pe_ix (ixTK K) (pe_ix (ixTK K) (pv 0) (pv 7) (fun _ _ => rfl)) (pv 9) (fun _ _ => rfl)) pa_nil)))))))))))
    (pss_one (ps_ret (pe_callTy call_tuple_of (by rfl) T.z_tuple (by decide +kernel) (pa_cons (pv 3) pa_nil))))))))), ?_⟩
    have lenM : ((List.range m).map natV).length = m := by rw [List.length_map, List.length_range]
    have ixs : ∀ {j : Nat} {x : V}, ((List.range m).map natV)[j]? = some x → j < m ∧ x = natV j := fun {j x} h => by
      rw [List.getElem?_map] at h
      obtain ⟨j', hj', rfl⟩ := Option.map_eq_some_iff.mp h
      obtain ⟨hjm, ej⟩ := List.getElem?_eq_some_iff.mp hj'
      rw [List.length_range] at hjm
      refine ⟨hjm, ?_⟩
      rw [← ej, List.getElem_range]
    have cell : ∀ {H' : Hp} {i j : Nat}, Same H H' → i < m → j < m → ∃ r, atI xs (i : Int) = some (.ref r) ∧ SqT K H' r (rowV d m i) ∧ atI (rowV d m i) (j : Int) = some (optV (d i j)) := fun S hi hj => by
      obtain ⟨r, h1, h2⟩ := hrow _ hi
      exact ⟨r, atI_nat h1, Same.seqT S h2, atI_nat (rowV_at hj)⟩
    -- heads
    refine ⟨_, rfl, l, rfl, ⟨_, hl⟩, fun D nD => Wk.dc_it walk_list (fun j H' => Same H H' ∧ H' D = some (.dK (headK d j))) ⟨Same.new nD, upd_same⟩ (fun i H' _ p => p.1.seq hl) ?_ ?_⟩
    · rintro i x H1 H2 hi ⟨S1, h1⟩ ⟨rfl, hxi⟩
      obtain ⟨him, rfl⟩ := ixs hxi
      refine ⟨rfl, ?_⟩
      refine ⟨_, rfl, _, rfl, _, rfl, _, rfl, z, l, m, i, d, rfl, hz.mono S1, S1.seq hl, him, fun H3 S3 => ?_⟩
      refine ⟨_, Sum.inl (i : Nat), rfl, S3 _ _ h1, szs (by unfold headK; simp; omega), Same.mut (S1.trans S3) nD, ?_⟩
      rw [upd_same]
      exact congrArg (fun x => some (HO.dK x)) (headK_put d i)
    rintro H1 ⟨S1, hD⟩
    rw [lenM] at hD
    have hget : ∀ {H' : Hp} {i : Nat}, Same H1 H' → i < m → DGet H' D (natV i) (some (natV (Zn.headOf d i))) := fun {H' i} S hi => by
      have := DGet.k (k := (Sum.inl (i : Nat) : Key)) (S _ _ hD)
      rw [(headK_get hi).1] at this
      exact this
    refine ⟨sz (by simp), fun f0 nf => ?_⟩
    have Sf := Same.new (o := HO.lst []) nf
    have hf0 : (upd H1 f0 (.lst [])) f0 = some (.lst []) := upd_same
    generalize upd H1 f0 (.lst []) = H2 at Sf hf0 ⊢
    have S02 := S1.trans Sf
    -- firsts
    refine ⟨_, rfl, l, rfl, ⟨_, S02.seq hl⟩, fun g ng => lc_list (xs := (List.range m).map natV) (fun j H' => Same H2 H' ∧ H' g = some (.lst (((List.range j).filter fun i => Zn.headOf d i == i).map natV))) ⟨Same.new ng, upd_same⟩ (fun i H' _ p => p.1.seq (S02.seq hl)) ?_ ?_⟩
    · rintro i x H3 hxi ⟨S3, h3⟩
      obtain ⟨him, rfl⟩ := ixs hxi
      refine ⟨rfl, ?_⟩
      refine ⟨_, rfl, _, rfl, D, _, rfl, hget (Sf.trans S3) him, _, rfl, rfl, _, rfl, ?_⟩
      have ed : decide (natV (Zn.headOf d i) = natV i) = decide (Zn.headOf d i = i) := nat_dec
      rw [ed]
      by_cases c : Zn.headOf d i = i
      · rw [decide_eq_true c]
        refine iteT ⟨_, rfl, ?_⟩
        obtain ⟨acc, g1, g2, g3⟩ := nat_push (n := i) h3 (by have := List.length_filter_le (fun i => Zn.headOf d i == i) (List.range i); rw [List.length_range] at this; omega)
        refine ⟨acc, g1, g2, Same.mut S3 ng, ?_⟩
        rw [filter_range_succ, if_pos (by simp [c])]
        exact g3
      · rw [decide_eq_false c]
        refine iteF ⟨S3, ?_⟩
        rw [filter_range_succ, if_neg (by simp [c]), List.append_nil]
        exact h3
    rintro H3 ⟨S3, h3⟩
    rw [lenM] at h3
    have h3 : H3 g = some (.lst ((Zn.firsts d m).map natV)) := h3
    have S03 := S02.trans S3
    have FL := firsts_len d m
    have hFm : ∀ k ∈ Zn.firsts d m, k < m := fun k hk => (Zn.mem_firsts.mp hk).1
    have hf3 : LitsUp K H3 f0 [] := ⟨[], S3 _ _ hf0, LitsZ.nil⟩
    -- the rings
    refine ⟨fun σ' H' => ∃ (v5 v6 v7 : Option V) (fa : Addr), σ' = [some (.ref z), some (.ref l), some (.ref D), some (.ref fa), some (.ref g), v5, v6, v7, none, none] ∧ Same H3 H' ∧ LitsUp K H' fa ((Zn.firsts d m).flatMap (Zn.ringLits d m)), ?_, ?_⟩
    · refine ⟨_, rfl, g, _, rfl, .inl (SqL.of h3), _, rfl, l, _, rfl, .inl (S03.seq hl), _, _, rfl, rfl, _, rfl, ?_⟩
      rw [lenM, List.length_map]
      by_cases cl : (Zn.firsts d m).length < m
      rotate_left
      · rw [decide_eq_false (by omega)]
        refine iteF ⟨_, _, _, f0, rfl, Same.refl H3, ?_⟩
        rw [rings_none cl]
        exact hf3
      rw [decide_eq_true (by omega)]
      refine iteT ?_
      refine ⟨_, rfl, g, rfl, ⟨_, SqL.of h3⟩, for_list (xs := (Zn.firsts d m).map natV) (fun h σ H' => ∃ (v5 v6 v7 : Option V) (fa : Addr), σ = [some (.ref z), some (.ref l), some (.ref D), some (.ref fa), some (.ref g), v5, v6, v7, none, none] ∧ Same H3 H' ∧ LitsUp K H' fa (((Zn.firsts d m).take h).flatMap (Zn.ringLits d m)))
        ⟨none, none, none, f0, rfl, Same.refl H3, hf3⟩ (fun h σ H' _ p => ?_) ?_ ?_⟩
      · obtain ⟨_, _, _, _, _, S, _⟩ := p
        exact SqL.of (S _ _ h3)
      · rintro hI x σ H4 hxh ⟨v5, v6, v7, fa, rfl, S4, hF⟩
        rw [List.getElem?_map] at hxh
        obtain ⟨h, hh, rfl⟩ := Option.map_eq_some_iff.mp hxh
        have hh2 := hFm h (List.mem_of_getElem? hh)
        have V0 := S03.trans S4
        refine ⟨_, rfl, l, rfl, ⟨_, V0.seq hl⟩, fun gr ngr => lc_list (xs := (List.range m).map natV) (fun j H' => Same H4 H' ∧ H' gr = some (.lst (((List.range j).filter fun i => Zn.headOf d i == h).map natV))) ⟨Same.new ngr, upd_same⟩ (fun i H' _ p => p.1.seq (V0.seq hl)) ?_ ?_⟩
        · rintro i x J3 hxi ⟨U3, k3⟩
          obtain ⟨him, rfl⟩ := ixs hxi
          refine ⟨rfl, ?_⟩
          refine ⟨_, rfl, _, rfl, D, _, rfl, hget ((Sf.trans S3).trans (S4.trans U3)) him, _, rfl, rfl, _, rfl, ?_⟩
          have ed : decide (natV (Zn.headOf d i) = natV h) = decide (Zn.headOf d i = h) := nat_dec
          rw [ed]
          by_cases c : Zn.headOf d i = h
          · rw [decide_eq_true c]
            refine iteT ⟨_, rfl, ?_⟩
            obtain ⟨acc, g1, g2, g3⟩ := nat_push (n := i) k3 (by have := List.length_filter_le (fun i => Zn.headOf d i == h) (List.range i); rw [List.length_range] at this; omega)
            refine ⟨acc, g1, g2, Same.mut U3 ngr, ?_⟩
            rw [filter_range_succ, if_pos (by simp [c])]
            exact g3
          · rw [decide_eq_false c]
            refine iteF ⟨U3, ?_⟩
            rw [filter_range_succ, if_neg (by simp [c]), List.append_nil]
            exact k3
        rintro J3 ⟨U3, k3⟩
        rw [lenM] at k3
        have k3 : J3 gr = some (.lst ((Zn.group d m h).map natV)) := k3
        have gl := group_len d m h
        have kF3 := hF.mono U3
        refine ⟨_, rfl, gr, _, rfl, .inl (SqL.of k3), _, _, rfl, rfl, _, rfl, ?_⟩
        have rl := rings_len2 d hm hI
        have eS : ((Zn.firsts d m).take (hI + 1)).flatMap (Zn.ringLits d m) = ((Zn.firsts d m).take hI).flatMap (Zn.ringLits d m) ++ Zn.ringLits d m h := by
          rw [take_snoc hh, List.flatMap_append]
          simp
        by_cases q : 1 < (Zn.group d m h).length
        · rw [decide_eq_true (by rw [List.length_map]; omega)]
          refine iteT ?_
          have c1 : cutV ((Zn.group d m h).map natV) (some 1) none = ((Zn.group d m h).drop 1).map natV := by
            have := cut_from (xs := (Zn.group d m h).map natV) (k := 1) (by rw [List.length_map]; omega)
            rw [List.map_drop]
            exact this
          have c2 : cutV ((Zn.group d m h).map natV) none (some 1) = ((Zn.group d m h).take 1).map natV := by
            have := cut_to (xs := (Zn.group d m h).map natV) (k := 1) (by rw [List.length_map]; omega)
            rw [List.map_take]
            exact this
          refine ⟨_, rfl, _, rfl, _, rfl, _, rfl, gr, _, rfl, SqL.of k3, fun a na => ?_⟩
          rw [c1]
          have Sa := Same.new (o := HO.lst (((Zn.group d m h).drop 1).map natV)) na
          refine ⟨_, rfl, _, rfl, gr, _, rfl, SqL.of (Sa _ _ k3), fun a2 na2 => ?_⟩
          rw [c2]
          have Sb := Same.new (o := HO.lst (((Zn.group d m h).take 1).map natV)) na2
          refine ⟨a, a2, _, _, rfl, rfl, Sb.seq (SqL.of upd_same), SqL.of upd_same, sz (by simp; omega), fun a3 na3 => ?_⟩
          have Sc := Same.new (o := HO.lst (((Zn.group d m h).drop 1).map natV ++ ((Zn.group d m h).take 1).map natV)) na3
          have Sabc := (Sa.trans Sb).trans Sc
          have U4 := U3.trans Sabc
          have kg4 := Sabc _ _ k3
          have kF4 := kF3.mono Sabc
          have ka3 := upd_same (H := upd (upd J3 a (.lst (((Zn.group d m h).drop 1).map natV))) a2 (.lst (((Zn.group d m h).take 1).map natV))) (a := a3) (o := HO.lst (((Zn.group d m h).drop 1).map natV ++ ((Zn.group d m h).take 1).map natV))
          generalize upd (upd (upd J3 a (.lst (((Zn.group d m h).drop 1).map natV))) a2 (.lst (((Zn.group d m h).take 1).map natV))) a3 (.lst (((Zn.group d m h).drop 1).map natV ++ ((Zn.group d m h).take 1).map natV)) = J4 at *
          have hys : ((Zn.group d m h).drop 1).map natV ++ ((Zn.group d m h).take 1).map natV = ((Zn.group d m h).drop 1 ++ (Zn.group d m h).take 1).map natV := by rw [List.map_append]
          rw [hys] at ka3
          have hleng : ((Zn.group d m h).drop 1 ++ (Zn.group d m h).take 1).length = (Zn.group d m h).length := by
            rw [List.length_append, List.length_drop, List.length_take]
            omega
          have U14 := S4.trans U4
          have U04 := V0.trans U4
          refine ⟨gr, a3, _, _, rfl, SqL.of kg4, SqL.of ka3, fun D3 nD3 => lc_it (walk_zip (xs := (Zn.group d m h).map natV) (ys := ((Zn.group d m h).drop 1 ++ (Zn.group d m h).take 1).map natV) rfl)
            (fun j H' => Same J4 H' ∧ LitsUp K H' D3 (((Zn.pairs (Zn.group d m h)).take j).map fun p => (p.1, p.2, Zn.num d p.1 p.2))) ⟨Same.new nD3, [], upd_same, LitsZ.nil⟩ (fun i H' _ p => ⟨p.1.seq (SqL.of kg4), p.1.seq (SqL.of ka3)⟩) ?_ ?_⟩
          · rintro i x J5 J6 hi ⟨U5, hU⟩ ⟨T', y1, y2, rfl, nT, rfl, hy1, hy2⟩
            simp only [List.getElem?_map] at hy1 hy2
            obtain ⟨u, hu, rfl⟩ := Option.map_eq_some_iff.mp hy1
            obtain ⟨v, hv, rfl⟩ := Option.map_eq_some_iff.mp hy2
            have hp : (Zn.pairs (Zn.group d m h))[i]? = some (u, v) := by
              unfold Zn.pairs
              rw [List.getElem?_zip_eq_some]
              exact ⟨hu, hv⟩
            obtain ⟨m1, m2⟩ := Zn.mem_pairs (List.mem_of_getElem? hp)
            obtain ⟨um, eu⟩ := Zn.mem_group.mp m1
            obtain ⟨vm, ev⟩ := Zn.mem_group.mp m2
            have t1 := Zn.head_tied C um
            have t2 := Zn.head_tied C vm
            simp only at eu ev
            rw [eu] at t1
            rw [ev] at t2
            obtain ⟨c, hc, _⟩ := Zn.tied_iff.mp (Zn.tied_trans C um hh2 vm t1 (Zn.tied_symm t2))
            have ST := Same.new (o := HO.tup [natV u, natV v]) nT
            obtain ⟨r, q1, q2, q3⟩ := cell (U04.trans (U5.trans ST)) um vm
            refine ⟨T', _, rfl, .inl (.inl upd_same), rfl, _, _, rfl, _, _, rfl, rfl, ?_⟩
            refine ⟨rfl, ?_⟩
            refine ⟨_, rfl, _, rfl, _, rfl, _, rfl, z, _, _, _, rfl, rfl, Same.seqT (U04.trans (U5.trans ST)) hx, q1, _, rfl, r, _, _, _, rfl, rfl, q2, q3, (by show 3 ≤ sizeLine; decide), fun t nt => ?_⟩
            rw [hc]
            have St := Same.new (o := HO.tup [natV u, natV v, optV (some c)]) nt
            have hl : (((Zn.pairs (Zn.group d m h)).take i).map fun p => (p.1, p.2, Zn.num d p.1 p.2)).length ≤ 900 := by
              rw [List.length_map, List.length_take]
              have := pairs_len (Zn.group d m h)
              omega
            obtain ⟨acc, g1, g2, g3⟩ := (hU.mono (ST.trans St)).push (t := t) (q := (u, v, Zn.num d u v)) (by rw [Zn.num_of hc]; exact SqT.of upd_same) hl
            refine ⟨acc, g1, g2, Same.mut ((U5.trans ST).trans St) nD3, ?_⟩
            rw [take_snoc hp, List.map_append]
            exact g3
          · rintro J5 ⟨U5, hU⟩
            have en : (Zn.pairs (Zn.group d m h)).take (min ((Zn.group d m h).map natV).length (((Zn.group d m h).drop 1 ++ (Zn.group d m h).take 1).map natV).length) = Zn.pairs (Zn.group d m h) := by
              refine List.take_of_length_le ?_
              rw [List.length_map, List.length_map, hleng]
              have := pairs_len (Zn.group d m h)
              omega
            rw [en] at hU
            obtain ⟨ts, e1, e2⟩ := kF4.mono U5
            obtain ⟨us, e3, e4⟩ := hU
            have pl := pairs_len (Zn.group d m h)
            refine ⟨fa, D3, _, _, rfl, rfl, SqL.of e1, SqL.of e3, sz (by rw [List.length_map, List.length_map, e2.1, e4.1, List.length_map]; omega), fun p np => ?_⟩
            have Sp := Same.new (o := HO.lst (ts.map V.ref ++ us.map V.ref)) np
            refine ⟨_, _, _, p, rfl, (U14.trans U5).trans Sp, ts ++ us, by rw [upd_same, List.map_append], ?_⟩
            rw [eS, show Zn.ringLits d m h = (Zn.pairs (Zn.group d m h)).map fun p => (p.1, p.2, Zn.num d p.1 p.2) from if_pos q]
            exact (e2.mono Sp).app (e4.mono Sp)
        · rw [decide_eq_false (by rw [List.length_map]; omega)]
          refine iteF ⟨_, _, _, fa, rfl, S4.trans U3, ?_⟩
          rw [eS, show Zn.ringLits d m h = [] from if_neg q, List.append_nil]
          exact kF3
      · rintro σ H4 ⟨v5, v6, v7, fa, rfl, S4, hF⟩
        rw [List.length_map, List.take_length] at hF
        exact ⟨_, _, _, fa, rfl, S4, hF⟩
    rintro σ H4 ⟨v5, v6, v7, fa, rfl, S4, hF⟩
    -- the rest
    refine ⟨_, rfl, g, rfl, ⟨_, SqL.of (S4 _ _ h3)⟩, for_list (xs := (Zn.firsts d m).map natV) (fun u σ H' => ∃ (v7 v8 v9 : Option V) (fa : Addr), σ = [some (.ref z), some (.ref l), some (.ref D), some (.ref fa), some (.ref g), v5, v6, v7, v8, v9] ∧ Same H3 H' ∧ LitsUp K H' fa ((Zn.firsts d m).flatMap (Zn.ringLits d m) ++ ((Zn.firsts d m).take u).flatMap (Zn.restLits d m)))
      ⟨v7, none, none, fa, rfl, S4, by simpa using hF⟩ (fun u σ H' _ p => ?_) ?_ ?_⟩
    · obtain ⟨_, _, _, _, _, S, _⟩ := p
      exact SqL.of (S _ _ h3)
    · rintro u x σ H5 hxu ⟨v7, v8, v9, fa, rfl, S5, hF5⟩
      rw [List.getElem?_map] at hxu
      obtain ⟨i, hiu, rfl⟩ := Option.map_eq_some_iff.mp hxu
      have hi := hFm i (List.mem_of_getElem? hiu)
      have hg5 := S5 _ _ h3
      have V0 := S03.trans S5
      have eS : ((Zn.firsts d m).take (u + 1)).flatMap (Zn.restLits d m) = ((Zn.firsts d m).take u).flatMap (Zn.restLits d m) ++ Zn.restLits d m i := by
        rw [take_snoc hiu, List.flatMap_append]
        simp
      -- others
      refine ⟨_, rfl, g, rfl, ⟨_, SqL.of hg5⟩, fun oo noo => lc_list (xs := (Zn.firsts d m).map natV) (fun j H' => Same H5 H' ∧ H' oo = some (.lst ((((Zn.firsts d m).take j).filter fun j => (d i j).isSome && (i != j)).map natV))) ⟨Same.new noo, upd_same⟩ (fun j H' _ p => p.1.seq (SqL.of hg5)) ?_ ?_⟩
      · rintro jj x H6 hxj ⟨S6, h6⟩
        rw [List.getElem?_map] at hxj
        obtain ⟨j, hjj, rfl⟩ := Option.map_eq_some_iff.mp hxj
        have hj := hFm j (List.mem_of_getElem? hjj)
        obtain ⟨r, q1, q2, q3⟩ := cell (V0.trans S6) hi hj
        refine ⟨rfl, ?_⟩
        refine ⟨_, rfl, _, rfl, z, _, _, _, rfl, rfl, Same.seqT (V0.trans S6) hx, q1, _, rfl, r, _, _, _, rfl, rfl, q2, q3, ?_⟩
        cases hd : d i j with
        | none =>
          refine ⟨rfl, _, rfl, iteF (iteF ⟨S6, ?_⟩)⟩
          rw [take_snoc hjj, List.filter_append]
          simpa [hd] using h6
        | some c =>
          refine ⟨rfl, _, rfl, iteT ⟨_, rfl, _, rfl, rfl, _, rfl, ?_⟩⟩
          have e0 : (!decide (natV i = natV j)) = (!decide (i = j)) := congrArg Bool.not nat_dec
          rw [e0]
          by_cases cij : i = j
          · rw [decide_eq_true cij]
            refine iteF ⟨S6, ?_⟩
            rw [take_snoc hjj, List.filter_append]
            simpa [cij] using h6
          · rw [decide_eq_false cij]
            refine iteT ⟨_, rfl, ?_⟩
            obtain ⟨acc, g1, g2, g3⟩ := nat_push (n := j) h6 (by have := List.length_filter_le (fun j => (d i j).isSome && (i != j)) ((Zn.firsts d m).take jj); rw [List.length_take] at this; omega)
            refine ⟨acc, g1, g2, Same.mut S6 noo, ?_⟩
            rw [take_snoc hjj, List.filter_append]
            simpa [hd, cij] using g3
      rintro H6 ⟨S6, h6⟩
      rw [List.length_map, List.take_length] at h6
      have hOm : ∀ j ∈ (Zn.firsts d m).filter fun j => (d i j).isSome && (i != j), j < m ∧ ∃ c, d i j = some c := fun j hj => by
        obtain ⟨h1, h2⟩ := List.mem_filter.mp hj
        refine ⟨hFm j h1, ?_⟩
        cases hd : d i j with
        | none => rw [hd] at h2; simp at h2
        | some c => exact ⟨c, rfl⟩
      have r2 := rest_len d m i
      rw [rest_two] at eS r2
      generalize hG : (Zn.firsts d m).filter (fun j => (d i j).isSome && (i != j)) = G at h6 hOm eS r2
      have GL : G.length ≤ m := by
        rw [← hG]
        exact Nat.le_trans (List.length_filter_le _ _) FL
      refine ⟨_, rfl, _, rfl, oo, rfl, ⟨_, SqL.of h6⟩, fun D3 nD3 => lc_list (xs := G.map natV) (fun j H' => Same H6 H' ∧ LitsUp K H' D3 (((G.take j).filter fun j => Zn.needed d (Zn.firsts d m) i j).map fun j => (i, j, Zn.num d i j))) ⟨Same.new nD3, [], upd_same, LitsZ.nil⟩ (fun j H' _ p => p.1.seq (SqL.of h6)) ?_ ?_⟩
      · rintro jj x H7 hxj ⟨S7, hU⟩
        rw [List.getElem?_map] at hxj
        obtain ⟨j, hjj, rfl⟩ := Option.map_eq_some_iff.mp hxj
        obtain ⟨hj, c, hc⟩ := hOm j (List.mem_of_getElem? hjj)
        have ll : (((G.take jj).filter fun j => Zn.needed d (Zn.firsts d m) i j).map fun j => (i, j, Zn.num d i j)).length ≤ 900 := by
          rw [List.length_map]
          have h1 := List.length_filter_le (fun j => Zn.needed d (Zn.firsts d m) i j) (G.take jj)
          rw [List.length_take] at h1
          omega
        have V7 := (V0.trans S6).trans S7
        refine ⟨rfl, ?_⟩
        refine ⟨_, rfl, _, rfl, _, rfl, _, rfl, z, g, m, i, j, d, Zn.firsts d m, c, rfl, hz.mono V7, hi, hj, hc, SqL.of ((S6.trans S7) _ _ hg5), hFm, fun H8 S8 => ?_⟩
        refine ⟨_, rfl, ?_⟩
        cases cn : Zn.needed d (Zn.firsts d m) i j with
        | false =>
          refine iteF ⟨S7.trans S8, ?_⟩
          rw [take_snoc hjj, List.filter_append]
          simpa [cn] using hU.mono S8
        | true =>
          obtain ⟨r, q1, q2, q3⟩ := cell (V7.trans S8) hi hj
          refine iteT ⟨_, rfl, _, rfl, _, rfl, _, rfl, z, _, _, _, rfl, rfl, Same.seqT (V7.trans S8) hx, q1, _, rfl, r, _, _, _, rfl, rfl, q2, q3, (by show 3 ≤ sizeLine; decide), fun t nt => ?_⟩
          rw [hc]
          have St := Same.new (o := HO.tup [natV i, natV j, optV (some c)]) nt
          obtain ⟨acc, g1, g2, g3⟩ := (hU.mono (S8.trans St)).push (t := t) (q := (i, j, Zn.num d i j)) (by rw [Zn.num_of hc]; exact SqT.of upd_same) ll
          refine ⟨acc, g1, g2, Same.mut ((S7.trans S8).trans St) nD3, ?_⟩
          rw [take_snoc hjj, List.filter_append]
          simpa [cn] using g3
      · rintro H7 ⟨S7, hU⟩
        rw [List.length_map, List.take_length] at hU
        obtain ⟨ts, e1, e2⟩ := hF5.mono (S6.trans S7)
        obtain ⟨us, e3, e4⟩ := hU
        have r1 := rests_len d hm u
        have r0 := rings_len2 d hm (Zn.firsts d m).length
        rw [List.take_length] at r0
        have e4' := e4.1
        refine ⟨fa, D3, _, _, rfl, rfl, SqL.of e1, SqL.of e3, sz (by rw [List.length_map, List.length_map, e2.1, e4', List.length_append]; omega), fun p np => ?_⟩
        have Sp := Same.new (o := HO.lst (ts.map V.ref ++ us.map V.ref)) np
        refine ⟨_, _, _, p, rfl, ((S5.trans S6).trans S7).trans Sp, ts ++ us, by rw [upd_same, List.map_append], ?_⟩
        rw [eS, ← List.append_assoc]
        exact (e2.mono Sp).app (e4.mono Sp)
    · rintro σ H5 ⟨v7, v8, v9, fa, rfl, S5, hF5⟩
      rw [List.length_map, List.take_length] at hF5
      obtain ⟨ts, e1, e2⟩ := hF5
      refine ⟨_, rfl, fa, _, rfl, .inl ⟨SqL.of e1, fun p np => ?_⟩⟩
      have Sp := Same.new (o := HO.tup (ts.map V.ref)) np
      refine k p ts _ ((S03.trans S5).trans Sp) (SqT.of upd_same) ?_
      unfold Zn.lits
      rw [rings_firsts C]
      exact e2.mono Sp
def spLitsOf (K : PySem.W.Frag) : Sp := fun vs H Q _ => ∃ (z : Addr) (m : Nat) (d : Zn.Z), vs = [.ref z] ∧ IsZ K H z m d ∧ Zn.Closed m d ∧ m ≤ 20 ∧ ∀ p ts H', Same H H' → SqT K H' p (ts.map V.ref) → LitsZ K H' ts (Zn.lits d m) → Q (.ref p) H'
theorem ok_literals_of {f : Addr} {fd : FuncData} (F : C8.Def K mg "literals_of" s_literals_of f fd) (b : Binds K fd ["zone"] []) (T : Txt K mg CC CS aB) (K_literals_among : C8.Cal P w K mg base 2 "literals_among" (spAmong K) []) :
    C8.Cal P w K mg base 3 "literals_of" (spLitsOf K) [] := by
  refine C8.cal0 F b .nil sc_literals_of (fun vs H Q E h => ?_) (fun cdv A outer s H vs Q E hr h => ?_)
  · obtain ⟨z, m, d, rfl, _⟩ := h
    rfl
  · obtain ⟨z, m, d, rfl, hz, C, hm, k⟩ := h
    obtain ⟨xs, hx, hxl, hrow⟩ := hz.row
    refine ⟨_, (pss_one (ps_ret (C8.pe_c K_literals_among hr (by decide) (by rfl) (pa_cons (pv 0) (pa_cons (pe_listRg rfl (by rfl) T.z_list (prg_1 (by rfl) T.z_range (pe_callB call_len_seq (by rfl) T.z_len (by decide +kernel) (pa_cons (pv 0) pa_nil)))) pa_nil))))), ?_⟩
    refine ⟨_, rfl, _, rfl, z, _, rfl, .inr hx, _, rfl, RgOk.of_le (by omega) (by omega) (by omega) (by omega), fun q nq => ?_⟩
    have Sq := Same.new (o := HO.lst (rgV 0 ((xs.length : Nat) : Int))) nq
    have e : rgV 0 ((xs.length : Nat) : Int) = (List.range m).map natV := by
      unfold rgV
      rw [show (((xs.length : Nat) : Int) - 0).toNat = m by omega]
      refine List.map_congr_left fun i _ => ?_
      show V.int (0 + (i : Int)) = V.int (i : Int)
      rw [Int.zero_add]
    refine ⟨z, q, m, d, rfl, hz.mono Sq, ?_, C, hm, fun p ts H' S => k p ts H' (Sq.trans S)⟩
    rw [← e]
    exact SqL.of upd_same
end
end K9

namespace K9
open PySem L2 Bx
section
variable {P : Program} {w : World} {K : PySem.W.Frag} {mg : Str → Option Value} {base : Heap} {CC CS aB : Addr}
/-- the integers of a state, the 0 at their front -/
def numsV (x : Nat → Int) (m : Nat) : List V := (List.range m).map fun i => .int (x i)
theorem numsV_at {x : Nat → Int} {m i : Nat} (h : i < m) : (numsV x m)[i]? = some (.int (x i)) := by
  unfold numsV
  rw [List.getElem?_map, List.getElem?_range h]
  rfl
theorem numsV_len (x : Nat → Int) (m : Nat) : (numsV x m).length = m := by
  unfold numsV
  rw [List.length_map, List.length_range]
def spPoint (K : PySem.W.Frag) : Sp := fun vs H Q _ => ∃ (z : Addr) (m : Nat) (d : Zn.Z), vs = [.ref z] ∧ IsZ K H z (m + 1) d ∧ m ≤ 900 ∧ ∀ p H', Same H H' → H p = none → H' p = some (.lst (numsV (Zn.pt d m) (m + 1))) → Q (.ref p) H'
theorem ok_point_of {f : Addr} {fd : FuncData} (F : C8.Def K mg "point_of" s_point_of f fd) (b : Binds K fd ["zone"] []) (T : Txt K mg CC CS aB) : C8.Cal P w K mg base 1 "point_of" (spPoint K) [] := by
  refine C8.cal0 F b .nil sc_point_of (fun vs H Q E h => ?_) (fun cdv A outer s H vs Q E hr h => ?_)
  · obtain ⟨z, m, d, rfl, _⟩ := h
    rfl
  · obtain ⟨z, m, d, rfl, hz, hm, k⟩ := h
    obtain ⟨xs, hx, hxl, hrow⟩ := hz.row
    refine ⟨_, (pss_cons (ps_set (i := 1) sc_point_of.nd rfl (Or.inl rfl) (pe_lst (pa_cons pe_int pa_nil)))
    (pss_cons (ps_for PassesOwn.never rfl (pi_range2 (by rfl) T.z_range (pa_cons pe_int (pa_cons (pe_callB call_len_seq (by rfl) T.z_len (by decide +kernel) (pa_cons (pv 0) pa_nil)) pa_nil))) (pg_name (i := 2) sc_point_of.nd rfl (Or.inl rfl))
    (pss_cons (ps_set (i := 3) sc_point_of.nd rfl (Or.inl rfl) pe_non)
    (pss_cons (ps_set (i := 4) sc_point_of.nd rfl (Or.inl rfl) pe_non)
    (pss_cons (ps_for PassesOwn.never rfl (pi_enum (by rfl) T.z_enumerate (pa_cons (pv 1) pa_nil)) (pg_tup (by rfl) (pgs_cons (pg_name (i := 5) sc_point_of.nd rfl (Or.inl rfl)) (pgs_cons (pg_name (i := 6) sc_point_of.nd rfl (Or.inl rfl)) pgs_nil)))
    (C8.pss_cut (ps_if (PW.pt (pw_and (pt_cmpR op_notN (pe_ix ix_tup (pe_ix ix_tup (pv 0) (pv 2) (fun _ _ => rfl)) (pv 5) (fun _ _ => rfl)) pe_non (nomark _)) (pw_and1 (PW.pt (pw_or (pt_cmpR op_isN (pv 4) pe_non (nomark _)) (pw_or1 (pt_cmpR op_lt (pe_op op_add (pv 6) (pe_ix ix_tup (pe_ix ix_tup (pv 0) (pv 2) (fun _ _ => rfl)) (pv 5) (fun _ _ => rfl))) (pv 4) (nomark _)))))))) (pss_one (ps_set (i := 4) sc_point_of.nd rfl (Or.inl rfl) (pe_op op_add (pv 6) (pe_ix ix_tup (pe_ix ix_tup (pv 0) (pv 2) (fun _ _ => rfl)) (pv 5) (fun _ _ => rfl))))) pss_nil)
    (pss_one (ps_if (PW.pt (pw_and (pt_cmpR op_notN (pe_ix ix_tup (pe_ix ix_tup (pv 0) (pv 5) (fun _ _ => rfl)) (pv 2) (fun _ _ => rfl)) pe_non (nomark _)) (pw_and1 (PW.pt (pw_or (pt_cmpR op_isN (pv 3) pe_non (nomark _)) (pw_or1 (pt_cmpR op_gt (pe_op op_sub (pv 6) (pe_ix ix_tup (pe_ix ix_tup (pv 0) (pv 5) (fun _ _ => rfl)) (pv 2) (fun _ _ => rfl))) (pv 3) (nomark _)))))))) (pss_one (ps_set (i := 3) sc_point_of.nd rfl (Or.inl rfl) (pe_op op_sub (pv 6) (pe_ix ix_tup (pe_ix ix_tup (pv 0) (pv 5) (fun _ _ => rfl)) (pv 2) (fun _ _ => rfl))))) pss_nil))))
    (C8.pss_cut (ps_if (pt_cmpR op_isN (pv 3) pe_non (nomark _)) (pss_one (ps_set (i := 3) sc_point_of.nd rfl (Or.inl rfl) (pe_ifExp (pt_cmpR op_isN (pv 4) pe_non (nomark _)) pe_int (pv 4)))) pss_nil)
    (pss_one (ps_expr (pe_bm PySem.F.plainAttrs_list PySem.F.slot_list_append PySem.F.type_list_append mt_append (pv 1) (pa_cons (pv 3) pa_nil)))))))))
    (pss_one (ps_ret (pv 1))))), ?_⟩
    refine ⟨sz (by simp), fun p np => ?_⟩
    have Sp := Same.new (o := HO.lst [V.int 0]) np
    refine ⟨_, rfl, z, _, rfl, .inr (Same.seqT Sp hx), _, _, rfl, ⟨by omega, by omega, by omega, by omega⟩, ?_⟩
    refine for_range (lo := 1) (n := (((xs.length : Nat) : Int) - 1).toNat) (fun i σ H' => ∃ (v2 v3 v4 v5 v6 : Option V), σ = [some (.ref z), some (.ref p), v2, v3, v4, v5, v6] ∧ Same H H' ∧ H' p = some (.lst (numsV (Zn.pt d i) (i + 1)))) ⟨none, none, none, none, none, rfl, Sp, by rw [upd_same]; rfl⟩ ?_ ?_
    · rintro i σ H1 hi ⟨v2, v3, v4, v5, v6, rfl, S1, hp⟩
      have hi2 : i + 1 < m + 1 := by omega
      obtain ⟨r, hr1, hr2⟩ := hrow (i + 1) hi2
      refine ⟨_, rfl, p, _, rfl, SqL.of hp, for_enumL (xs := numsV (Zn.pt d i) (i + 1)) (fun j σ H' => ∃ (v5 v6 : Option V), σ = [some (.ref z), some (.ref p), some (.int (1 + (i : Int))), some (optV ((List.range j).foldl (Zn.stepL d (Zn.pt d i) (i + 1)) none)), some (optV ((List.range j).foldl (Zn.stepM d (Zn.pt d i) (i + 1)) none)), v5, v6] ∧ Same H1 H') ⟨v5, v6, rfl, Same.refl H1⟩ (fun j σ H' q => ?_) ?_ ?_⟩
      · obtain ⟨_, _, _, S⟩ := q
        exact SqL.of (S _ _ hp)
      · rintro j x q σ H2 hxj ⟨v5, v6, rfl, S2⟩ nq
        have hj : j < i + 1 := by
          have := (List.getElem?_eq_some_iff.mp hxj).1
          rw [numsV_len] at this
          exact this
        rw [numsV_at hj] at hxj
        cases hxj
        have S3 := S2.trans (Same.new (o := HO.tup [.int (j : Nat), .int (Zn.pt d i j)]) nq)
        refine ⟨q, _, rfl, .inl (.inl upd_same), rfl, _, _, rfl, _, _, rfl, rfl, ?_⟩
        generalize upd H2 q (.tup [.int (j : Nat), .int (Zn.pt d i j)]) = H3 at S3 ⊢
        have hx3 := Same.seqT (S1.trans S3) hx
        have hr3 := Same.seqT (S1.trans S3) hr2
        obtain ⟨t, ht1, ht2⟩ := hrow j (by omega)
        have ht3 := Same.seqT (S1.trans S3) ht2
        have ai : atI xs (1 + (i : Int)) = some (.ref r) := by
          rw [show (1 : Int) + (i : Int) = ((i + 1 : Nat) : Int) by omega]
          exact atI_nat hr1
        have aij : atI (rowV d (m + 1) (i + 1)) ((j : Nat) : Int) = some (optV (d (i + 1) j)) := atI_nat (rowV_at (by omega))
        have aji : atI (rowV d (m + 1) j) (1 + (i : Int)) = some (optV (d j (i + 1))) := by
          rw [show (1 : Int) + (i : Int) = ((i + 1 : Nat) : Int) by omega]
          exact atI_nat (rowV_at hi2)
        have eL : (List.range (j + 1)).foldl (Zn.stepL d (Zn.pt d i) (i + 1)) none = Zn.stepL d (Zn.pt d i) (i + 1) ((List.range j).foldl (Zn.stepL d (Zn.pt d i) (i + 1)) none) j := by
          rw [List.range_succ, List.foldl_append]
          rfl
        have eM : (List.range (j + 1)).foldl (Zn.stepM d (Zn.pt d i) (i + 1)) none = Zn.stepM d (Zn.pt d i) (i + 1) ((List.range j).foldl (Zn.stepM d (Zn.pt d i) (i + 1)) none) j := by
          rw [List.range_succ, List.foldl_append]
          rfl
        rw [eL, eM]
        generalize (List.range j).foldl (Zn.stepL d (Zn.pt d i) (i + 1)) none = oL
        generalize (List.range j).foldl (Zn.stepM d (Zn.pt d i) (i + 1)) none = oM
        refine ⟨fun σ' H' => σ' = [some (.ref z), some (.ref p), some (.int (1 + (i : Int))), some (optV oL), some (optV (Zn.stepM d (Zn.pt d i) (i + 1) oM j)), some (.int (j : Nat)), some (.int (Zn.pt d i j))] ∧ H' = H3, ?_, ?_⟩
        · refine ⟨_, rfl, _, rfl, z, _, _, _, rfl, rfl, hx3, ai, _, rfl, r, _, _, _, rfl, rfl, hr3, aij, ?_⟩
          unfold Zn.stepM
          cases hd : d (i + 1) j with
          | none => exact ⟨rfl, _, rfl, iteF (iteF ⟨rfl, rfl⟩)⟩
          | some c =>
            refine ⟨rfl, _, rfl, iteT ?_⟩
            cases oM with
            | none => exact ⟨_, rfl, rfl, _, rfl, iteT (iteT ⟨_, rfl, _, rfl, _, rfl, z, _, _, _, rfl, rfl, hx3, ai, _, rfl, r, _, _, _, rfl, rfl, hr3, aij, _, c, rfl, by rw [hd]; rfl, rfl, rfl⟩)⟩
            | some v =>
              refine ⟨_, rfl, rfl, _, rfl, iteF ⟨_, rfl, _, rfl, _, rfl, z, _, _, _, rfl, rfl, hx3, ai, _, rfl, r, _, _, _, rfl, rfl, hr3, aij, _, c, rfl, by rw [hd]; rfl, _, rfl, _, _, rfl, rfl, _, rfl, ?_⟩⟩
              by_cases q : Zn.pt d i j + c < v
              · simp only [q, decide_true, if_true]
                exact ⟨_, rfl, _, rfl, _, rfl, z, _, _, _, rfl, rfl, hx3, ai, _, rfl, r, _, _, _, rfl, rfl, hr3, aij, _, c, rfl, by rw [hd]; rfl, rfl, rfl⟩
              · rw [decide_eq_false q]
                simp only [q, if_false]
                exact ⟨rfl, rfl⟩
        · rintro σ' H' ⟨rfl, rfl⟩
          refine ⟨_, rfl, _, rfl, z, _, _, _, rfl, rfl, hx3, atI_nat ht1, _, rfl, t, _, _, _, rfl, rfl, ht3, aji, ?_⟩
          unfold Zn.stepL
          cases hd : d j (i + 1) with
          | none => exact ⟨rfl, _, rfl, iteF (iteF ⟨_, _, rfl, S3⟩)⟩
          | some c =>
            refine ⟨rfl, _, rfl, iteT ?_⟩
            cases oL with
            | none => exact ⟨_, rfl, rfl, _, rfl, iteT (iteT ⟨_, rfl, _, rfl, _, rfl, z, _, _, _, rfl, rfl, hx3, atI_nat ht1, _, rfl, t, _, _, _, rfl, rfl, ht3, aji, _, c, rfl, by rw [hd]; rfl, _, _, rfl, S3⟩)⟩
            | some v =>
              refine ⟨_, rfl, rfl, _, rfl, iteF ⟨_, rfl, _, rfl, _, rfl, z, _, _, _, rfl, rfl, hx3, atI_nat ht1, _, rfl, t, _, _, _, rfl, rfl, ht3, aji, _, c, rfl, by rw [hd]; rfl, _, rfl, _, _, rfl, rfl, _, rfl, ?_⟩⟩
              by_cases q : v < Zn.pt d i j - c
              · simp only [q, decide_true, if_true]
                exact ⟨_, rfl, _, rfl, _, rfl, z, _, _, _, rfl, rfl, hx3, atI_nat ht1, _, rfl, t, _, _, _, rfl, rfl, ht3, aji, _, c, rfl, by rw [hd]; rfl, _, _, rfl, S3⟩
              · rw [decide_eq_false q]
                simp only [q, if_false]
                exact ⟨_, _, rfl, S3⟩
      · rintro σ H2 ⟨v5, v6, rfl, S2⟩
        rw [numsV_len]
        have hp2 := S2 _ _ hp
        refine ⟨fun σ' H' => σ'[1]? = some (some (.ref p)) ∧ σ'[3]? = some (some (.int (Zn.val d (Zn.pt d i) (i + 1) (List.range (i + 1))))) ∧ (∃ w4, σ' = [some (.ref z), some (.ref p), some (.int (1 + (i : Int))), some (.int (Zn.val d (Zn.pt d i) (i + 1) (List.range (i + 1)))), w4, v5, v6]) ∧ H' = H2, ?_, ?_⟩
        · unfold Zn.val
          cases hL : (List.range (i + 1)).foldl (Zn.stepL d (Zn.pt d i) (i + 1)) none with
          | some v => exact ⟨_, rfl, rfl, _, rfl, iteF ⟨rfl, rfl, ⟨_, rfl⟩, rfl⟩⟩
          | none =>
            refine ⟨_, rfl, rfl, _, rfl, iteT ?_⟩
            cases hM : (List.range (i + 1)).foldl (Zn.stepM d (Zn.pt d i) (i + 1)) none with
            | none => exact ⟨_, rfl, rfl, _, rfl, iteT ⟨rfl, rfl, ⟨_, rfl⟩, rfl⟩⟩
            | some v => exact ⟨_, rfl, rfl, _, rfl, iteF ⟨_, rfl, rfl, rfl, ⟨_, rfl⟩, rfl⟩⟩
        · rintro σ' H' ⟨_, _, ⟨w4, rfl⟩, rfl⟩
          refine ⟨_, rfl, .inl ⟨rfl, _, SqL.of hp2⟩, _, rfl, p, _, _, rfl, rfl, hp2, szs (by rw [numsV_len]; omega), ?_⟩
          refine ⟨_, _, _, _, _, rfl, Same.mut (S1.trans S2) np, ?_⟩
          rw [upd_same]
          have e : numsV (Zn.pt d i) (i + 1) ++ [V.int (Zn.val d (Zn.pt d i) (i + 1) (List.range (i + 1)))] = numsV (Zn.pt d (i + 1)) (i + 1 + 1) := by
            unfold numsV
            rw [List.range_succ (n := i + 1), List.map_append]
            congr 1
            · refine List.map_congr_left fun u hu => ?_
              have := List.mem_range.mp hu
              rw [Zn.pt_keep d i u (by omega) 1]
            · show _ = [V.int (Zn.upd (Zn.pt d i) (i + 1) _ (i + 1))]
              unfold Zn.upd
              rw [if_pos rfl]
          rw [e]
    · rintro σ H1 ⟨v2, v3, v4, v5, v6, rfl, S1, hp⟩
      rw [show (((xs.length : Nat) : Int) - 1).toNat = m by omega] at hp
      exact ⟨_, rfl, k p H1 S1 np hp⟩
end
end K9

namespace K9
open PySem L2 Bx
section
variable {P : Program} {w : World} {K : PySem.W.Frag} {mg : Str → Option Value} {base : Heap} {CC CS aB : Addr}
def spHasPoint (K : PySem.W.Frag) : Sp := fun vs H Q _ => ∃ (z l : Addr) (m : Nat) (d : Zn.Z) (x : Nat → Int), vs = [.ref z, .ref l] ∧ IsZ K H z m d ∧ SqL K H l (numsV x m) ∧ ∀ (b : Bool) H', Same H H' → (b = true ↔ Zn.Sat m d x) → Q (.bl b) H'
theorem ok_has_point {f : Addr} {fd : FuncData} (F : C8.Def K mg "has_point" s_has_point f fd) (b : Binds K fd ["zone", "numbers"] []) (T : Txt K mg CC CS aB) : C8.Cal P w K mg base 1 "has_point" (spHasPoint K) [] := by
  refine C8.cal0 F b .nil sc_has_point (fun vs H Q E h => ?_) (fun cdv A outer s H vs Q E hr h => ?_)
  · obtain ⟨z, l, m, d, x, rfl, _⟩ := h
    rfl
  · obtain ⟨z, l, m, d, x, rfl, hz, hl, k⟩ := h
    obtain ⟨xs, hx, hxl, hrow⟩ := hz.row
    refine ⟨_, (pss_cons (ps_for PassesOwn.never rfl (Zm.pi_zipM (by rfl) T.z_zip (pa_cons (pv 0) (pa_cons (pv 1) pa_nil))) (pg_tup (by rfl) (pgs_cons (pg_name (i := 2) sc_has_point.nd rfl (Or.inl rfl)) (pgs_cons (pg_name (i := 3) sc_has_point.nd rfl (Or.inl rfl)) pgs_nil)))
    (pss_one (ps_for PassesOwn.never rfl (Zm.pi_zipM (by rfl) T.z_zip (pa_cons (pv 2) (pa_cons (pv 1) pa_nil))) (pg_tup (by rfl) (pgs_cons (pg_name (i := 4) sc_has_point.nd rfl (Or.inl rfl)) (pgs_cons (pg_name (i := 5) sc_has_point.nd rfl (Or.inl rfl)) pgs_nil)))
    (pss_one (ps_if (PW.pt (pw_and (pt_cmpR op_notN (pv 4) pe_non (nomark _)) (pw_and1 (pt_cmpR op_gt (pe_op op_sub (pv 3) (pv 5)) (pv 4) (nomark _))))) (pss_one (ps_ret pe_bl)) pss_nil)))))
    (pss_one (ps_ret pe_bl))), ?_⟩
    refine ⟨_, rfl, _, rfl, z, l, _, _, rfl, hx, hl, Zm.for_zipM (xs := xs) (ys := numsV x m) (by rw [numsV_len]; exact hxl) (fun i σ H' => ∃ v2 v3 v4 v5, σ = [some (.ref z), some (.ref l), v2, v3, v4, v5] ∧ Same H H' ∧ ∀ u v c, u < i → v < m → d u v = some c → x u ≤ x v + c) ⟨none, none, none, none, rfl, Same.refl H, fun u v c hu => absurd hu (Nat.not_lt_zero u)⟩ (fun i σ H' h => ?_) ?_ ?_⟩
    · obtain ⟨_, _, _, _, _, S, _⟩ := h
      exact ⟨Same.seqT S hx, S.seq hl⟩
    · rintro i y1 y2 T' σ H1 h1 h2 ⟨v2, v3, v4, v5, rfl, S1, hin⟩ nT
      have hi : i < m := by
        rw [← hxl]
        exact (List.getElem?_eq_some_iff.mp h1).1
      obtain ⟨r, hr1, hr2⟩ := hrow i hi
      rw [h1] at hr1
      cases hr1
      rw [numsV_at hi] at h2
      cases h2
      have ST := S1.trans (Same.new (o := HO.tup [V.ref r, V.int (x i)]) nT)
      refine ⟨T', _, rfl, .inl (.inl upd_same), rfl, _, _, rfl, _, _, rfl, rfl, ?_⟩
      refine ⟨_, rfl, _, rfl, r, l, _, _, rfl, Same.seqT ST hr2, ST.seq hl, Zm.for_zipM (xs := rowV d m i) (ys := numsV x m) (by rw [rowV_len, numsV_len]) (fun j σ H' => ∃ v4 v5, σ = [some (.ref z), some (.ref l), some (.ref r), some (.int (x i)), v4, v5] ∧ Same H H' ∧ ∀ v c, v < j → d i v = some c → x i ≤ x v + c) ⟨v4, v5, rfl, ST, fun v c hv => absurd hv (Nat.not_lt_zero v)⟩ (fun j σ H' h => ?_) ?_ ?_⟩
      · obtain ⟨_, _, _, S, _⟩ := h
        exact ⟨Same.seqT S hr2, S.seq hl⟩
      · rintro j y1 y2 T2 σ H2 h1 h2 ⟨v4, v5, rfl, S2, hin2⟩ nT2
        have hj : j < m := by
          have := (List.getElem?_eq_some_iff.mp h1).1
          rw [rowV_len] at this
          exact this
        rw [rowV_at hj] at h1
        rw [numsV_at hj] at h2
        cases h1
        cases h2
        have S3 := S2.trans (Same.new (o := HO.tup [optV (d i j), V.int (x j)]) nT2)
        refine ⟨T2, _, rfl, .inl (.inl upd_same), rfl, _, _, rfl, _, _, rfl, rfl, ?_⟩
        generalize upd H2 T2 (.tup [optV (d i j), V.int (x j)]) = H3 at S3 ⊢
        have fin : (∀ c, d i j = some c → x i ≤ x j + c) → ∀ v c, v < j + 1 → d i v = some c → x i ≤ x v + c := fun h v c hv hc => by
          by_cases q : v = j
          · subst q
            exact h c hc
          · exact hin2 v c (by omega) hc
        cases hd : d i j with
        | none =>
          refine ⟨_, rfl, rfl, _, rfl, iteF (iteF ?_)⟩
          exact ⟨_, _, rfl, S3, fin fun c hc => by rw [hd] at hc; cases hc⟩
        | some c =>
          refine ⟨_, rfl, rfl, _, rfl, iteT ⟨_, rfl, _, rfl, _, _, rfl, rfl, _, rfl, _, _, rfl, rfl, _, rfl, ?_⟩⟩
          by_cases q : c < x i - x j
          · rw [decide_eq_true q]
            refine iteT (k false H3 S3 ⟨fun y => (by cases y), fun S => ?_⟩)
            have := S i j c hi hj hd
            omega
          · rw [decide_eq_false q]
            exact iteF ⟨_, _, rfl, S3, fin fun c' hc => by rw [hd] at hc; cases hc; omega⟩
      · rintro σ H2 ⟨v4, v5, rfl, S2, hin2⟩
        rw [rowV_len] at hin2
        refine ⟨_, _, _, _, rfl, S2, fun u v c hu hv hc => ?_⟩
        by_cases q : u = i
        · subst q
          exact hin2 v c hv hc
        · exact hin u v c (by omega) hv hc
    · rintro σ H1 ⟨v2, v3, v4, v5, rfl, S1, hin⟩
      rw [hxl] at hin
      exact k true H1 S1 ⟨fun _ u v c hu hv hc => hin u v c hu hv hc, fun _ => rfl⟩
end
end K9

namespace K9
open PySem L2 Bx
/-- a part without clauses -/
def IsP (K : PySem.W.Frag) (H : Hp) (p : Addr) (m : Nat) (d : Zn.Z) : Prop := ∃ z c, SqT K H p [.ref z, .ref c] ∧ IsZ K H z m d ∧ SqT K H c []
theorem IsP.mono {K : PySem.W.Frag} {H H' : Hp} {p : Addr} {m : Nat} {d : Zn.Z} (e : Same H H') (h : IsP K H p m d) : IsP K H' p m d := by
  obtain ⟨z, c, h1, h2, h3⟩ := h
  exact ⟨z, c, Same.seqT e h1, h2.mono e, Same.seqT e h3⟩
section
variable {P : Program} {w : World} {K : PySem.W.Frag} {mg : Str → Option Value} {base : Heap} {CC CS aB : Addr}
/-- a case or clause of nothing -/
def IsE (K : PySem.W.Frag) (H : Hp) (g : Addr) : Prop := ∃ a c, SqT K H g [.ref a, .ref c] ∧ SqT K H a [] ∧ SqT K H c []
def spFits (K : PySem.W.Frag) : Sp := fun vs H Q _ => ∃ (g : Addr) (v : V), vs = [.ref g, v, .bl true] ∧ IsE K H g ∧ Q (.bl true) H
theorem ok_fits {f : Addr} {fd : FuncData} (F : C8.Def K mg "fits" s_fits f fd) (b : Binds K fd ["group", "numbers", "is_case"] []) (T : Txt K mg CC CS aB) : C8.Cal P w K mg base 1 "fits" (spFits K) [] := by
  refine C8.cal0 F b .nil sc_fits (fun vs H Q E h => ?_) (fun cdv A outer s H vs Q E hr h => ?_)
  · obtain ⟨g, v, rfl, _⟩ := h
    rfl
  · obtain ⟨g, v, rfl, ⟨a, c, hg, ha, hc⟩, k⟩ := h
    refine ⟨_, (pss_cons (ps_asg (pv 0) (pg_tup (by rfl) (pgs_cons (pg_name (i := 3) sc_fits.nd rfl (Or.inl rfl)) (pgs_cons (pg_name (i := 4) sc_fits.nd rfl (Or.inl rfl)) pgs_nil))))
    (pss_cons (ps_for PassesOwn.never rfl (pi_tup (pv 3)) (pg_tup (by rfl) (pgs_cons (pg_name (i := 5) sc_fits.nd rfl (Or.inl rfl)) (pgs_cons (pg_name (i := 6) sc_fits.nd rfl (Or.inl rfl)) (pgs_cons (pg_name (i := 7) sc_fits.nd rfl (Or.inl rfl)) pgs_nil))))
    pss_never)
    (pss_cons (ps_for PassesOwn.never rfl (pi_tup (pv 4)) (pg_name (i := 8) sc_fits.nd rfl (Or.inl rfl))
    pss_never)
    (pss_one (ps_ret (pv 2)))))), ?_⟩
    refine ⟨_, rfl, g, _, rfl, hg, rfl, _, _, rfl, _, _, rfl, rfl, ?_⟩
    refine ⟨_, rfl, a, rfl, ⟨_, ha⟩, for_tup (xs := []) (fun i σ H' => σ = [some (.ref g), some v, some (.bl true), some (.ref a), some (.ref c), none, none, none, none] ∧ H' = H) ⟨rfl, rfl⟩ (fun i σ H' _ h => by rw [h.2]; exact ha) (fun i x σ H' hx _ => by cases hx) ?_⟩
    rintro σ H' ⟨rfl, rfl⟩
    refine ⟨_, rfl, c, rfl, ⟨_, hc⟩, for_tup (xs := []) (fun i σ H2 => σ = [some (.ref g), some v, some (.bl true), some (.ref a), some (.ref c), none, none, none, none] ∧ H2 = H') ⟨rfl, rfl⟩ (fun i σ H2 _ h => by rw [h.2]; exact hc) (fun i x σ H2 hx _ => by cases hx) ?_⟩
    rintro σ H2 ⟨rfl, rfl⟩
    exact ⟨_, rfl, k⟩
def spHasState (K : PySem.W.Frag) : Sp := fun vs H Q _ => ∃ (p l : Addr) (m : Nat) (d : Zn.Z) (x : Nat → Int), vs = [.ref p, .ref l] ∧ IsP K H p m d ∧ SqL K H l (numsV x m) ∧ ∀ (b : Bool) H', Same H H' → (b = true ↔ Zn.Sat m d x) → Q (.bl b) H'
theorem ok_has_state {f : Addr} {fd : FuncData} (F : C8.Def K mg "has_state" s_has_state f fd) (b : Binds K fd ["part", "numbers"] []) (T : Txt K mg CC CS aB) (K_has_point : C8.Cal P w K mg base 1 "has_point" (spHasPoint K) []) (K_fits : C8.Cal P w K mg base 1 "fits" (spFits K) []) :
    C8.Cal P w K mg base 2 "has_state" (spHasState K) [] := by
  refine C8.cal0 F b .nil sc_has_state (fun vs H Q E h => ?_) (fun cdv A outer s H vs Q E hr h => ?_)
  · obtain ⟨p, l, m, d, x, rfl, _⟩ := h
    rfl
  · obtain ⟨p, l, m, d, x, rfl, ⟨z, c, hp, hz, hc⟩, hl, k⟩ := h
    refine ⟨_, (pss_cons (ps_asg (pv 0) (pg_tup (by rfl) (pgs_cons (pg_name (i := 2) sc_has_state.nd rfl (Or.inl rfl)) (pgs_cons (pg_name (i := 3) sc_has_state.nd rfl (Or.inl rfl)) pgs_nil))))
    (pss_one (ps_ret (pe_and (C8.pe_c K_has_point hr (by decide) (by rfl) (pa_cons (pv 2) (pa_cons (pv 1) pa_nil))) (pe_one (C8.pe_c K_fits hr (by decide) (by rfl) (pa_cons (pe_tup (pa_cons (pe_tup pa_nil) (pa_cons (pv 3) pa_nil))) (pa_cons (pv 1) (pa_cons pe_bl pa_nil))))))))), ?_⟩
    refine ⟨_, rfl, p, _, rfl, hp, rfl, _, _, rfl, _, _, rfl, rfl, ?_⟩
    refine ⟨_, rfl, _, rfl, z, l, m, d, x, rfl, hz, hl, fun b H1 S1 hb => ⟨_, rfl, ?_⟩⟩
    cases b with
    | false => exact iteF (k false H1 S1 hb)
    | true =>
      refine iteT ⟨(by show 0 ≤ sizeLine; decide), fun a na => ⟨_, rfl, (by show 2 ≤ sizeLine; decide), fun g ng => ?_⟩⟩
      have Sa := Same.new (o := HO.tup []) na
      have Sg := Same.new (o := HO.tup [V.ref a, V.ref c]) ng
      refine ⟨_, rfl, g, _, rfl, ⟨a, c, SqT.of upd_same, Same.seqT Sg (SqT.of upd_same), Same.seqT (S1.trans (Sa.trans Sg)) hc⟩, ?_⟩
      exact k true _ (S1.trans (Sa.trans Sg)) hb
def spOpened (K : PySem.W.Frag) : Sp := fun vs H Q _ => ∃ (p : Addr) (m : Nat) (d : Zn.Z), vs = [.ref p] ∧ IsP K H p m d ∧ ∀ q H', Same H H' → IsP K H' q m d → Q (.ref q) H'
theorem ok_opened {f : Addr} {fd : FuncData} (F : C8.Def K mg "opened" s_opened f fd) (b : Binds K fd ["part"] []) (T : Txt K mg CC CS aB) : C8.Cal P w K mg base 1 "opened" (spOpened K) [] := by
  refine C8.cal0 F b .nil sc_opened (fun vs H Q E h => ?_) (fun cdv A outer s H vs Q E hr h => ?_)
  · obtain ⟨p, m, d, rfl, _⟩ := h
    rfl
  · obtain ⟨p, m, d, rfl, ⟨z, c, hp, hz, hc⟩, k⟩ := h
    refine ⟨_, (pss_cons (ps_asg (pv 0) (pg_tup (by rfl) (pgs_cons (pg_name (i := 1) sc_opened.nd rfl (Or.inl rfl)) (pgs_cons (pg_name (i := 2) sc_opened.nd rfl (Or.inl rfl)) pgs_nil))))
    (pss_cons (ps_while PassesOwn.never (PW.pt (pw_and (pt_truth (pv 2) (by intro _; rfl)) (pw_and1 (pt_cmpR op_notN (pv 1) pe_non (nomark _))))) pss_never)
    (pss_one (ps_ret (pe_ifExp (pt_cmpR op_isN (pv 1) pe_non (nomark _)) pe_non (pe_tup (pa_cons (pv 1) (pa_cons (pe_tup pa_nil) pa_nil)))))))), ?_⟩
    refine ⟨_, rfl, p, _, rfl, hp, rfl, _, _, rfl, _, _, rfl, rfl, ?_⟩
    refine while_by (fun σ H' => σ = [some (.ref p), some (.ref z), some (.ref c), none, none] ∧ H' = H) (fun _ _ => 0) ⟨rfl, rfl⟩ ?_ ?_
    · rintro σ H' ⟨rfl, rfl⟩
      refine ⟨_, rfl, false, .inr (.inl ⟨[], hc, rfl⟩), iteF (iteF ?_)⟩
      refine ⟨_, rfl, rfl, _, rfl, iteF ?_⟩
      refine ⟨_, rfl, (by show 0 ≤ sizeLine; decide), fun a na => ⟨(by show 2 ≤ sizeLine; decide), fun g ng => ?_⟩⟩
      have Sa := Same.new (o := HO.tup []) na
      have Sg := Same.new (o := HO.tup [V.ref z, V.ref a]) ng
      exact k g _ (Sa.trans Sg) ⟨z, a, SqT.of upd_same, hz.mono (Sa.trans Sg), Same.seqT Sg (SqT.of upd_same)⟩
    · rintro σ H Q Q' hq ⟨v, hv, kk, t, q⟩
      refine ⟨v, hv, kk, t, ?_⟩
      cases kk with
      | false => exact hq _ _ q
      | true =>
        obtain ⟨u, hu, e, c, ec, q⟩ := q
        exact ⟨u, hu, e, c, ec, hq _ _ q⟩
def spFreeZone (K : PySem.W.Frag) : Sp := fun vs H Q _ => ∃ (p : Addr) (m : Nat) (d : Zn.Z), vs = [.ref p] ∧ IsP K H p m d ∧ ∀ z H', Same H H' → IsZ K H' z m d → Q (.ref z) H'
theorem ok_free_zone {f : Addr} {fd : FuncData} (F : C8.Def K mg "free_zone" s_free_zone f fd) (b : Binds K fd ["part"] []) (T : Txt K mg CC CS aB) (K_opened : C8.Cal P w K mg base 1 "opened" (spOpened K) []) : C8.Cal P w K mg base 2 "free_zone" (spFreeZone K) [] := by
  refine C8.cal0 F b .nil sc_free_zone (fun vs H Q E h => ?_) (fun cdv A outer s H vs Q E hr h => ?_)
  · obtain ⟨p, m, d, rfl, _⟩ := h
    rfl
  · obtain ⟨p, m, d, rfl, hp, k⟩ := h
    refine ⟨_, (pss_cons (ps_set (i := 1) sc_free_zone.nd rfl (Or.inl rfl) (pe_lst (pa_cons (pv 0) pa_nil)))
    (pss_cons (ps_while PassesOwn.never (pt_truth (pv 1) (by intro _; rfl)) (pss_cons (ps_set (i := 2) sc_free_zone.nd rfl (Or.inl rfl) (C8.pe_c K_opened hr (by decide) (by rfl) (pa_cons (pe_bm0 PySem.F.plainAttrs_list PySem.F.slot_list_pop PySem.F.type_list_pop mt_pop (pv 1)) pa_nil)))
    (pss_one (ps_if (pt_cmpR op_notN (pv 2) pe_non (nomark _)) (pss_cons (ps_if (pt_not (pt_truth (pe_ix ix_tup (pv 2) pe_int (fun _ _ => rfl)) (by intro _; rfl))) (pss_one (ps_ret (pe_ix ix_tup (pv 2) pe_int (fun _ _ => rfl)))) pss_nil)
    pss_never) pss_nil))))
    (pss_one (ps_ret pe_non)))), ?_⟩
    refine ⟨_, rfl, sz (by simp), fun l nl => ?_⟩
    have Sl := Same.new (o := HO.lst [V.ref p]) nl
    dsimp only [gName, tSeq]
    refine while_by (fun σ H' => σ = [some (.ref p), some (.ref l), none] ∧ H' = upd H l (.lst [V.ref p])) (fun _ _ => 0) ⟨rfl, rfl⟩ ?_ ?_
    · rintro σ H' ⟨rfl, rfl⟩
      refine ⟨_, rfl, true, .inl ⟨[V.ref p], SqL.of upd_same, rfl⟩, iteT ?_⟩
      refine ⟨_, rfl, .inl ⟨rfl, _, SqL.of upd_same⟩, l, [V.ref p], _, rfl, rfl, upd_same, rfl, ?_⟩
      have S2 := Same.mut (o := HO.lst ([V.ref p] : List V).dropLast) Sl nl
      refine ⟨p, m, d, rfl, hp.mono S2, fun q H3 S3 ⟨z, c, h1, h2, h3⟩ => ?_⟩
      refine ⟨_, rfl, rfl, _, rfl, iteT ?_⟩
      refine ⟨_, rfl, q, _, _, _, rfl, rfl, h1, rfl, false, .inr (.inl ⟨[], h3, rfl⟩), iteT ?_⟩
      exact ⟨_, rfl, q, _, _, _, rfl, rfl, h1, rfl, k z H3 (S2.trans S3) h2⟩
    · rintro σ H Q Q' hq ⟨v, hv, kk, t, q⟩
      exact ⟨v, hv, kk, t, hq _ _ q⟩
def spFreeZones (K : PySem.W.Frag) : Sp := fun vs H Q _ => ∃ (p : Addr) (m : Nat) (d : Zn.Z), vs = [.ref p, .non] ∧ IsP K H p m d ∧ ∀ l z H', Same H H' → H l = none → H' l = some (.lst [.ref z]) → IsZ K H' z m d → Q (.ref l) H'
theorem ok_free_zones {f : Addr} {fd : FuncData} (F : C8.Def K mg "free_zones" s_free_zones f fd) (b : Binds K fd ["part", "looks"] []) (T : Txt K mg CC CS aB) (K_opened : C8.Cal P w K mg base 1 "opened" (spOpened K) []) : C8.Cal P w K mg base 2 "free_zones" (spFreeZones K) [] := by
  refine C8.cal0 F b .nil sc_free_zones (fun vs H Q E h => ?_) (fun cdv A outer s H vs Q E hr h => ?_)
  · obtain ⟨p, m, d, rfl, _⟩ := h
    rfl
  · obtain ⟨p, m, d, rfl, hp, k⟩ := h
    refine ⟨_, (pss_cons (ps_set (i := 2) sc_free_zones.nd rfl (Or.inl rfl) (pe_lst pa_nil))
    (pss_cons (ps_set (i := 3) sc_free_zones.nd rfl (Or.inl rfl) (pe_lst (pa_cons (pv 0) pa_nil)))
    (pss_cons (ps_set (i := 4) sc_free_zones.nd rfl (Or.inl rfl) pe_int)
    (pss_cons (ps_while PassesOwn.never (pt_truth (pv 3) (by intro _; rfl)) (pss_cons (ps_if (pt_cmpR op_eq (pv 4) (pv 1) (nomark _)) (pss_one (ps_ret pe_non)) pss_nil)
    (pss_cons (ps_aug (i := 4) sc_free_zones.nd rfl (Or.inl rfl) pe_int ip_add)
    (pss_cons (ps_set (i := 5) sc_free_zones.nd rfl (Or.inl rfl) (C8.pe_c K_opened hr (by decide) (by rfl) (pa_cons (pe_bm0 PySem.F.plainAttrs_list PySem.F.slot_list_pop PySem.F.type_list_pop mt_pop (pv 3)) pa_nil)))
    (pss_one (ps_if (pt_cmpR op_notN (pv 5) pe_non (nomark _)) (pss_one (ps_if (pt_truth (pe_ix ix_tup (pv 5) pe_int (fun _ _ => rfl)) (by intro _; rfl)) pss_never (pss_one (ps_expr (pe_bm PySem.F.plainAttrs_list PySem.F.slot_list_append PySem.F.type_list_append mt_append (pv 2) (pa_cons (pe_ix ix_tup (pv 5) pe_int (fun _ _ => rfl)) pa_nil)))))) pss_nil))))))
    (pss_one (ps_ret (pv 2))))))), ?_⟩
    refine ⟨sz (by simp), fun g ng => ⟨_, rfl, sz (by simp), fun l nl => ?_⟩⟩
    have lg' : l ≠ g := fun e => by rw [e, upd_same] at nl; cases nl
    have nl0 : H l = none := by rw [upd_ne lg'] at nl; exact nl
    have Sg := Same.new (o := HO.lst []) ng
    have Sl := Sg.trans (Same.new (o := HO.lst [V.ref p]) nl)
    dsimp only [gName, tSeq, tAsg, tC]
    refine while_by (fun σ H' => (σ = [some (.ref p), some .non, some (.ref g), some (.ref l), some (.int 0), none] ∧ H' = upd (upd H g (.lst [])) l (.lst [V.ref p])) ∨
      ∃ z v5, σ = [some (.ref p), some .non, some (.ref g), some (.ref l), some (.int 1), v5] ∧ Same H H' ∧ H' g = some (.lst [.ref z]) ∧ H' l = some (.lst []) ∧ IsZ K H' z m d) (fun σ _ => if σ[4]? = some (some (V.int 0)) then 1 else 0) (.inl ⟨rfl, rfl⟩) ?_ ?_
    · rintro σ H' (⟨rfl, rfl⟩ | ⟨z, v5, rfl, S, hg, hl, hz⟩)
      · refine ⟨_, rfl, true, .inl ⟨[V.ref p], SqL.of upd_same, rfl⟩, iteT ?_⟩
        refine ⟨_, rfl, _, rfl, rfl, _, rfl, iteF ?_⟩
        refine ⟨_, rfl, 0, 1, rfl, rfl, ?_⟩
        refine ⟨_, rfl, .inl ⟨rfl, _, SqL.of upd_same⟩, l, [V.ref p], _, rfl, rfl, upd_same, rfl, ?_⟩
        have S2 := Same.mut (o := HO.lst ([V.ref p] : List V).dropLast) Sl nl0
        refine ⟨p, m, d, rfl, hp.mono S2, fun q H3 S3 ⟨z, c, h1, h2, h3⟩ => ?_⟩
        have hg3 : H3 g = some (.lst []) := S3 _ _ (by rw [upd_ne (fun e => lg' e.symm), upd_ne (fun e => lg' e.symm), upd_same])
        have hl3 : H3 l = some (.lst []) := S3 _ _ upd_same
        refine ⟨_, rfl, rfl, _, rfl, iteT ?_⟩
        refine ⟨_, rfl, q, _, _, _, rfl, rfl, h1, rfl, false, .inr (.inl ⟨[], h3, rfl⟩), iteF ?_⟩
        refine ⟨_, rfl, .inl ⟨rfl, _, SqL.of hg3⟩, _, rfl, q, _, _, _, rfl, rfl, h1, rfl, g, _, _, rfl, rfl, hg3, szs (by simp), ?_⟩
        refine ⟨.inr ⟨z, _, rfl, Same.mut (S2.trans S3) ng, upd_same, by rw [upd_ne lg']; exact hl3, ?_⟩, ?_⟩
        · obtain ⟨rs, a1, a2, a3⟩ := h2
          exact ⟨rs, butT hg3 But.upd a1, a2, fun i r hr => butT hg3 But.upd (a3 i r hr)⟩
        · simp
      · refine ⟨_, rfl, false, .inl ⟨[], SqL.of hl, rfl⟩, iteF ?_⟩
        exact ⟨_, rfl, k g z H' S ng hg hz⟩
    · rintro σ H Q Q' hq ⟨v, hv, kk, t, q⟩
      exact ⟨v, hv, kk, t, hq _ _ q⟩
def spPartIn (K : PySem.W.Frag) : Sp := fun vs H Q _ => ∃ (p q : Addr) (m : Nat) (d e : Zn.Z), vs = [.ref p, .ref q] ∧ IsP K H p m d ∧ IsP K H q m e ∧ ∀ (b : Bool) H', Same H H' → (b = true → Zn.inside m d e) → Q (.bl b) H'
theorem ok_is_part_inside {f : Addr} {fd : FuncData} (F : C8.Def K mg "is_part_inside" s_is_part_inside f fd) (b : Binds K fd ["part", "other"] []) (T : Txt K mg CC CS aB) (K_is_inside : C8.Cal P w K mg base 1 "is_inside" (spInside K) []) :
    C8.Cal P w K mg base 2 "is_part_inside" (spPartIn K) [] := by
  refine C8.cal0 F b .nil sc_is_part_inside (fun vs H Q E h => ?_) (fun cdv A outer s H vs Q E hr h => ?_)
  · obtain ⟨p, q, m, d, e, rfl, _⟩ := h
    rfl
  · obtain ⟨p, q, m, d, e, rfl, ⟨z, c, hp, hz, hc⟩, ⟨y, a, hq, hy, ha⟩, k⟩ := h
    refine ⟨_, (pss_cons (ps_asg (pv 0) (pg_tup (by rfl) (pgs_cons (pg_name (i := 2) sc_is_part_inside.nd rfl (Or.inl rfl)) (pgs_cons (pg_name (i := 3) sc_is_part_inside.nd rfl (Or.inl rfl)) pgs_nil))))
    (pss_cons (ps_asg (pv 1) (pg_tup (by rfl) (pgs_cons (pg_name (i := 4) sc_is_part_inside.nd rfl (Or.inl rfl)) (pgs_cons (pg_name (i := 5) sc_is_part_inside.nd rfl (Or.inl rfl)) pgs_nil))))
    (pss_cons (ps_if (pt_not (pt_val (C8.pe_c K_is_inside hr (by decide) (by rfl) (pa_cons (pv 2) (pa_cons (pv 4) pa_nil))))) (pss_one (ps_ret pe_bl)) pss_nil)
    (pss_cons (ps_for PassesOwn.never rfl (pi_tup (pv 5)) (pg_name (i := 6) sc_is_part_inside.nd rfl (Or.inl rfl))
    pss_never)
    (pss_one (ps_ret pe_bl)))))), ?_⟩
    refine ⟨_, rfl, p, _, rfl, hp, rfl, _, _, rfl, _, _, rfl, rfl, ?_⟩
    refine ⟨_, rfl, q, _, rfl, hq, rfl, _, _, rfl, _, _, rfl, rfl, ?_⟩
    refine ⟨_, rfl, _, rfl, z, y, m, d, e, rfl, hz, hy, fun b H1 S1 hb => ⟨_, rfl, ?_⟩⟩
    cases b with
    | false => exact iteT (k false H1 S1 hb)
    | true =>
      have ha1 := Same.seqT S1 ha
      refine iteF ⟨_, rfl, a, rfl, ⟨_, ha1⟩, for_tup (xs := []) (fun i σ H' => H' = H1) rfl (fun i σ H' _ h => by rw [h]; exact ha1) (fun i x σ H' hx _ => by cases hx) ?_⟩
      rintro σ H' rfl
      exact k true H' S1 hb
/-- parts at ps -/
def PartsIn (K : PySem.W.Frag) (H : Hp) (m : Nat) (ps : List Addr) (ds : List Zn.Z) : Prop := ps.length = ds.length ∧ ∀ (j : Nat) (d : Zn.Z), ds[j]? = some d → ∃ p, ps[j]? = some p ∧ IsP K H p m d
theorem PartsIn.mono {H H' : Hp} {m : Nat} {ps : List Addr} {ds : List Zn.Z} (e : Same H H') (h : PartsIn K H m ps ds) : PartsIn K H' m ps ds := ⟨h.1, fun j d hj => (h.2 j d hj).imp fun p x => ⟨x.1, x.2.mono e⟩⟩
def spInOne (K : PySem.W.Frag) : Sp := fun vs H Q _ => ∃ (p l : Addr) (ps : List Addr) (m : Nat) (d : Zn.Z) (ds : List Zn.Z), vs = [.ref p, .ref l] ∧ IsP K H p m d ∧ SqL K H l (ps.map V.ref) ∧ PartsIn K H m ps ds ∧ ∀ (b : Bool) H', Same H H' → (b = true → ∃ e ∈ ds, Zn.inside m d e) → Q (.bl b) H'
theorem ok_is_inside_one {f : Addr} {fd : FuncData} (F : C8.Def K mg "is_inside_one" s_is_inside_one f fd) (b : Binds K fd ["part", "others"] []) (T : Txt K mg CC CS aB) (K_is_part_inside : C8.Cal P w K mg base 2 "is_part_inside" (spPartIn K) []) :
    C8.Cal P w K mg base 3 "is_inside_one" (spInOne K) [] := by
  refine C8.cal0 F b .nil sc_is_inside_one (fun vs H Q E h => ?_) (fun cdv A outer s H vs Q E hr h => ?_)
  · obtain ⟨p, l, ps, m, d, ds, rfl, _⟩ := h
    rfl
  · obtain ⟨p, l, ps, m, d, ds, rfl, hp, hl, hD, k⟩ := h
    refine ⟨_, (pss_cons (ps_for PassesOwn.never rfl (pi_list (pv 1)) (pg_name (i := 2) sc_is_inside_one.nd rfl (Or.inl rfl))
    (pss_one (ps_if (pt_val (C8.pe_c K_is_part_inside hr (by decide) (by rfl) (pa_cons (pv 0) (pa_cons (pv 2) pa_nil)))) (pss_one (ps_ret pe_bl)) pss_nil)))
    (pss_one (ps_ret pe_bl))), ?_⟩
    refine ⟨_, rfl, l, rfl, ⟨_, hl⟩, for_list (xs := ps.map V.ref) (fun i σ H' => ∃ v2, σ = [some (.ref p), some (.ref l), v2] ∧ Same H H') ⟨none, rfl, Same.refl H⟩ (fun i σ H' _ h => ?_) ?_ ?_⟩
    · obtain ⟨_, _, S⟩ := h
      exact S.seq hl
    · rintro i x σ H1 hx ⟨v2, rfl, S1⟩
      rw [List.getElem?_map] at hx
      obtain ⟨q, hq, rfl⟩ := Option.map_eq_some_iff.mp hx
      have hi : i < ds.length := by
        rw [← hD.1]
        exact (List.getElem?_eq_some_iff.mp hq).1
      obtain ⟨q', h1, h2⟩ := hD.2 i _ (List.getElem?_eq_getElem hi)
      rw [hq] at h1
      cases h1
      refine ⟨_, rfl, _, rfl, p, q, m, d, ds[i], rfl, hp.mono S1, h2.mono S1, fun b H2 S2 hb => ⟨_, rfl, ?_⟩⟩
      cases b with
      | true => exact iteT (k true H2 (S1.trans S2) fun _ => ⟨ds[i], List.getElem_mem hi, hb rfl⟩)
      | false => exact iteF ⟨_, rfl, S1.trans S2⟩
    · rintro σ H1 ⟨v2, rfl, S1⟩
      exact k false H1 S1 fun y => by cases y
end
end K9

namespace K9
open PySem L2 Bx
theorem inside_trans {m : Nat} {d e f : Zn.Z} (h : Zn.inside m d e) (g : Zn.inside m e f) : Zn.inside m d f := fun i j c hi hj hc => by
  obtain ⟨a, ha, la⟩ := g i j c hi hj hc
  obtain ⟨b, hb, lb⟩ := h i j a hi hj ha
  exact ⟨b, hb, by omega⟩
theorem inside_refl (m : Nat) (d : Zn.Z) : Zn.inside m d d := fun i j c _ _ hc => ⟨c, hc, Int.le_refl _⟩
section
variable {P : Program} {w : World} {K : PySem.W.Frag} {mg : Str → Option Value} {base : Heap} {CC CS aB : Addr}
theorem isP_but {l : Addr} {H H' : Hp} {xs : List V} {p : Addr} {m : Nat} {d : Zn.Z} (hl : H l = some (.lst xs)) (e : But l H H') (h : IsP K H p m d) : IsP K H' p m d := by
  obtain ⟨z, c, h1, ⟨rs, a1, a2, a3⟩, h3⟩ := h
  exact ⟨z, c, butT hl e h1, ⟨rs, butT hl e a1, a2, fun i r hr => butT hl e (a3 i r hr)⟩, butT hl e h3⟩
theorem PartsIn.but {l : Addr} {H H' : Hp} {xs : List V} {ps : List Addr} {m : Nat} {ds : List Zn.Z} (hl : H l = some (.lst xs)) (e : But l H H') (h : PartsIn K H m ps ds) : PartsIn K H' m ps ds := ⟨h.1, fun j d hj => (h.2 j d hj).imp fun p x => ⟨x.1, isP_but hl e x.2⟩⟩
theorem PartsIn.snoc {H : Hp} {m : Nat} {ps : List Addr} {ds : List Zn.Z} {p : Addr} {d : Zn.Z} (h : PartsIn K H m ps ds) (hp : IsP K H p m d) : PartsIn K H m (ps ++ [p]) (ds ++ [d]) := by
  refine ⟨by simp [h.1], fun j e hj => ?_⟩
  by_cases q : j < ds.length
  · rw [List.getElem?_append_left q] at hj
    obtain ⟨t, h1, h2⟩ := h.2 j e hj
    exact ⟨t, by rw [List.getElem?_append_left (by rw [h.1]; exact q)]; exact h1, h2⟩
  · have ej : j = ds.length := by
      have := (List.getElem?_eq_some_iff.mp hj).1
      simp at this
      omega
    subst ej
    rw [List.getElem?_append_right (Nat.le_refl _)] at hj
    have ee : e = d := by simpa using hj.symm
    subst ee
    exact ⟨p, by rw [← h.1, List.getElem?_append_right (Nat.le_refl _)]; simp, hp⟩
theorem PartsIn.nil {H : Hp} {m : Nat} : PartsIn K H m [] [] := ⟨rfl, fun j d h => by cases h⟩
/-- Cover(parts) -/
def spCover (CC : Addr) : Sp := fun vs H Q _ => ∃ (x dx : Addr) (v : V), vs = [.ref x, v] ∧ H x = some (.ins CC dx []) ∧ Q .non (upd H x (.ins CC dx [("parts", v)]))
theorem ok_Cover_init {f : Addr} {fd : FuncData} (M : Mk K CC f) (F : C8.Fun K "__init__" "Cover.__init__" s_Cover_init f fd) (b : Binds K fd ["self", "parts"] []) (T : Txt K mg CC CS aB) : C8.Mak P w K mg base 1 "Cover" CC (spCover CC) [] := by
  refine C8.mak0 M T.g_Cover F b .nil sc_Cover_init (fun vs H Q E h => ?_) (fun cdv A outer s H vs Q E hr h => ?_)
  · obtain ⟨x, dx, v, rfl, _⟩ := h
    rfl
  · obtain ⟨x, dx, v, rfl, hx, k⟩ := h
    refine ⟨_, (pss_one (ps_fld (pv 0) (pv 1) rfl)), ?_⟩
    exact ⟨_, rfl, _, rfl, x, CC, dx, _, rfl, hx, T.cC, T.nC, by decide, k⟩
def spTrim (K : PySem.W.Frag) : Sp := fun vs H Q _ => ∃ (l : Addr) (ps : List Addr) (m : Nat) (ds : List Zn.Z), vs = [.ref l] ∧ SqL K H l (ps.map V.ref) ∧ PartsIn K H m ps ds ∧ ds.length ≤ 300 ∧
  ∀ p qs es H', Same H H' → SqT K H' p (qs.map V.ref) → PartsIn K H' m qs es → (∀ e ∈ es, e ∈ ds) → (∀ d ∈ ds, ∃ e ∈ es, Zn.inside m d e) → es.length ≤ ds.length → Q (.ref p) H'
theorem ok_trimmed {f : Addr} {fd : FuncData} (F : C8.Def K mg "trimmed" s_trimmed f fd) (b : Binds K fd ["parts"] []) (T : Txt K mg CC CS aB) (K_is_part_inside : C8.Cal P w K mg base 2 "is_part_inside" (spPartIn K) []) (K_is_inside_one : C8.Cal P w K mg base 3 "is_inside_one" (spInOne K) []) :
    C8.Cal P w K mg base 4 "trimmed" (spTrim K) [] := by
  refine C8.cal0 F b .nil sc_trimmed (fun vs H Q E h => ?_) (fun cdv A outer s H vs Q E hr h => ?_)
  · obtain ⟨l, ps, m, ds, rfl, _⟩ := h
    rfl
  · obtain ⟨l, ps, m, ds, rfl, hl, hD, h300, k⟩ := h
    refine ⟨_, (pss_cons (ps_if (pt_cmpR op_gt (pe_op op_mul (pe_callB call_len_seq (by rfl) T.z_len (by decide +kernel) (pa_cons (pv 0) pa_nil)) (pe_callB call_len_seq (by rfl) T.z_len (by decide +kernel) (pa_cons (pv 0) pa_nil))) (C8.pe_gc (by rfl) T.c_MOST_PAIRS) (nomark _)) (pss_one (ps_ret (pe_callTy call_tuple_of (by rfl) T.z_tuple (by decide +kernel) (pa_cons (pv 0) pa_nil)))) pss_nil)
    (pss_cons (ps_set (i := 1) sc_trimmed.nd rfl (Or.inl rfl) (pe_lst pa_nil))
    (pss_cons (ps_for PassesOwn.never rfl (pi_list (pv 0)) (pg_name (i := 2) sc_trimmed.nd rfl (Or.inr rfl))
    (pss_one (ps_if (pt_not (pt_val (C8.pe_c K_is_inside_one hr (by decide) (by rfl) (pa_cons (pv 2) (pa_cons (pv 1) pa_nil))))) (pss_one (ps_set (i := 1) sc_trimmed.nd rfl (Or.inl rfl) (pe_op op_catS (pe_lc (own := [("other", 3)]) (g := gName 3) rfl sc_trimmed.nd (pi_list (pv 1)) (blkOk_by (own := [("other", 3)]) (N := N_trimmed) (sc := C8.fnScope s_trimmed) (by decide +kernel)) (fun _ _ _ _ _ => (pg_name (i := 3) sc_trimmed.nd rfl (Or.inl rfl))) (fun _ _ _ _ _ => (pts_one (pt_not (pt_val (C8.pe_c K_is_part_inside hr (by decide) (by rfl) (pa_cons (pv 3) (pa_cons (pv 2) pa_nil))))))) (fun _ _ _ _ _ => (pv 3))) (pe_lst (pa_cons (pv 2) pa_nil))))) pss_nil)))
    (pss_one (ps_ret (pe_callTy call_tuple_of (by rfl) T.z_tuple (by decide +kernel) (pa_cons (pv 1) pa_nil))))))), ?_⟩
    have lp : (ps.map V.ref).length = ds.length := by rw [List.length_map, hD.1]
    refine ⟨_, rfl, l, _, rfl, .inl hl, _, rfl, l, _, rfl, .inl hl, _, _, rfl, rfl, .inl ⟨by omega, by omega⟩, _, _, rfl, rfl, _, rfl, ?_⟩
    have hmul : ((ps.map V.ref).length : Int) * ((ps.map V.ref).length : Int) ≤ 100000 := by
      rw [lp]
      have h1 : ds.length * ds.length ≤ 300 * 300 := Nat.mul_le_mul h300 h300
      have h2 : ((ds.length * ds.length : Nat) : Int) ≤ 90000 := by omega
      rw [Int.natCast_mul] at h2
      omega
    rw [decide_eq_false (by omega)]
    refine iteF ⟨sz (by simp), fun k0 nk0 => ?_⟩
    have Sk := Same.new (o := HO.lst []) nk0
    refine ⟨_, rfl, l, rfl, ⟨_, Sk.seq hl⟩, for_list (xs := ps.map V.ref) (fun i σ H' => ∃ (v2 v3 : Option V) (ka : Addr) (qs : List Addr) (es : List Zn.Z), σ = [some (.ref l), some (.ref ka), v2, v3] ∧ Same H H' ∧ H' ka = some (.lst (qs.map V.ref)) ∧ PartsIn K H' m qs es ∧ (∀ e ∈ es, e ∈ ds) ∧ (∀ d ∈ ds.take i, ∃ e ∈ es, Zn.inside m d e) ∧ es.length ≤ i)
      ⟨none, none, k0, [], [], rfl, Sk, upd_same, PartsIn.nil, fun e he => (by cases he), fun d hd => (by simp at hd), Nat.le_refl _⟩ (fun i σ H' _ h => ?_) ?_ ?_⟩
    · obtain ⟨_, _, _, _, _, _, S, _⟩ := h
      exact S.seq hl
    · rintro i x σ H1 hx ⟨v2, v3, ka, qs, es, rfl, S1, hka, hE, hin, hcov, hlen⟩
      rw [List.getElem?_map] at hx
      obtain ⟨p, hp, rfl⟩ := Option.map_eq_some_iff.mp hx
      have hi : i < ds.length := by
        rw [← hD.1]
        exact (List.getElem?_eq_some_iff.mp hp).1
      have hdi := List.getElem?_eq_getElem hi
      obtain ⟨p', h1, h2⟩ := hD.2 i _ hdi
      rw [hp] at h1
      cases h1
      refine ⟨_, rfl, _, rfl, p, ka, qs, m, ds[i], es, rfl, h2.mono S1, SqL.of hka, hE, fun b H2 S2 hb => ⟨_, rfl, ?_⟩⟩
      have S12 := S1.trans S2
      have hka2 := S2 _ _ hka
      cases b with
      | true =>
        refine iteF ⟨_, _, ka, qs, es, rfl, S12, hka2, hE.mono S2, hin, fun d hd => ?_, by omega⟩
        rw [take_snoc hdi] at hd
        rcases List.mem_append.mp hd with h | h
        · exact hcov d h
        · have e : d = ds[i] := by simpa using h
          rw [e]
          exact hb rfl
      | false =>
        refine iteT ⟨_, rfl, ka, rfl, ⟨_, SqL.of hka2⟩, fun D nD => lc_list (xs := qs.map V.ref) (fun j H' => ∃ (rs : List Addr) (gs : List Zn.Z), Same H2 H' ∧ H' D = some (.lst (rs.map V.ref)) ∧ PartsIn K H' m rs gs ∧ (∀ g ∈ gs, g ∈ es) ∧ (∀ e ∈ es.take j, e ∈ gs ∨ Zn.inside m e ds[i]) ∧ gs.length ≤ j)
          ⟨[], [], Same.new nD, upd_same, PartsIn.nil, fun e he => (by cases he), fun d hd => (by simp at hd), Nat.le_refl _⟩ (fun j H' _ h => ?_) ?_ ?_⟩
        · obtain ⟨_, _, S, _⟩ := h
          exact S.seq (SqL.of hka2)
        · rintro j x H3 hxj ⟨rs, gs, S3, hD3, hG, hg1, hg2, hgl⟩
          rw [List.getElem?_map] at hxj
          obtain ⟨q, hq, rfl⟩ := Option.map_eq_some_iff.mp hxj
          have hj : j < es.length := by
            rw [← hE.1]
            exact (List.getElem?_eq_some_iff.mp hq).1
          have hej := List.getElem?_eq_getElem hj
          obtain ⟨q', h3, h4⟩ := hE.2 j _ hej
          rw [hq] at h3
          cases h3
          refine ⟨rfl, ?_⟩
          refine ⟨_, rfl, _, rfl, q, p, m, es[j], ds[i], rfl, h4.mono (S2.trans S3), h2.mono (S12.trans S3), fun b H4 S4 hb => ⟨_, rfl, ?_⟩⟩
          have hD4 := S4 _ _ hD3
          cases b with
          | true =>
            refine iteF ⟨rs, gs, S3.trans S4, hD4, hG.mono S4, hg1, fun e he => ?_, by omega⟩
            rw [take_snoc hej] at he
            rcases List.mem_append.mp he with h | h
            · exact hg2 e h
            · have ee : e = es[j] := by simpa using h
              rw [ee]
              exact .inr (hb rfl)
          | false =>
            refine iteT ⟨_, rfl, _, hD4, szs (by rw [List.length_map, hG.1]; omega), rs ++ [q], gs ++ [es[j]], Same.mut (S3.trans S4) nD, by rw [upd_same, List.map_append]; rfl, ((hG.mono S4).but hD4 But.upd).snoc (isP_but hD4 But.upd (h4.mono ((S2.trans S3).trans S4))), fun g hg => ?_, fun e he => ?_, by simp; omega⟩
            · rcases List.mem_append.mp hg with h | h
              · exact hg1 g h
              · have ee : g = es[j] := by simpa using h
                rw [ee]
                exact List.getElem_mem hj
            · rw [take_snoc hej] at he
              rcases List.mem_append.mp he with h | h
              · exact (hg2 e h).imp (fun h => List.mem_append_left _ h) id
              · exact .inl (List.mem_append_right _ h)
        · rintro H3 ⟨rs, gs, S3, hD3, hG, hg1, hg2, hgl⟩
          rw [List.length_map, hE.1] at hg2 hgl
          rw [List.take_length] at hg2
          refine ⟨_, rfl, sz (by simp), fun o no => ⟨D, o, _, _, rfl, rfl, (Same.new no).seq (SqL.of hD3), SqL.of upd_same, sz (by rw [List.length_map, hG.1]; simp; omega), fun kb nkb => ?_⟩⟩
          have So := Same.new (o := HO.lst [V.ref p]) no
          have Sb := So.trans (Same.new (o := HO.lst (rs.map V.ref ++ [V.ref p])) nkb)
          have S0 := (S12.trans S3).trans Sb
          refine ⟨_, _, kb, rs ++ [p], gs ++ [ds[i]], rfl, S0, by rw [upd_same, List.map_append]; rfl, (hG.mono Sb).snoc (h2.mono S0), fun e he => ?_, fun d hd => ?_, by simp; omega⟩
          · rcases List.mem_append.mp he with h | h
            · exact hin e (hg1 e h)
            · have ee : e = ds[i] := by simpa using h
              rw [ee]
              exact List.getElem_mem hi
          · rw [take_snoc hdi] at hd
            rcases List.mem_append.mp hd with h | h
            · obtain ⟨e, he, hde⟩ := hcov d h
              rcases hg2 e he with q | q
              · exact ⟨e, List.mem_append_left _ q, hde⟩
              · exact ⟨ds[i], List.mem_append_right _ (by simp), inside_trans hde q⟩
            · have ee : d = ds[i] := by simpa using h
              rw [ee]
              exact ⟨ds[i], List.mem_append_right _ (by simp), inside_refl m _⟩
    · rintro σ H1 ⟨v2, v3, ka, qs, es, rfl, S1, hka, hE, hin, hcov, hlen⟩
      rw [lp] at hcov hlen
      rw [List.take_length] at hcov
      refine ⟨_, rfl, ka, _, rfl, .inl ⟨SqL.of hka, fun p np => ?_⟩⟩
      have Sp := Same.new (o := HO.tup (qs.map V.ref)) np
      exact k p qs es _ (S1.trans Sp) (SqT.of upd_same) (hE.mono Sp) hin hcov hlen
end
end K9

namespace K9
open PySem L2 Bx
section
variable {P : Program} {w : World} {K : PySem.W.Frag} {mg : Str → Option Value} {base : Heap} {CC CS aB : Addr}
/-- rows of literals at rs, tuples each -/
def ZRows (K : PySem.W.Frag) (H : Hp) (rs : List Addr) (R : List (List Zn.Lit)) : Prop := rs.length = R.length ∧ ∀ (j : Nat) q, R[j]? = some q → ∃ r ts, rs[j]? = some r ∧ SqT K H r (ts.map V.ref) ∧ LitsZ K H ts q
theorem ZRows.mono {H H' : Hp} {rs : List Addr} {R : List (List Zn.Lit)} (e : Same H H') (h : ZRows K H rs R) : ZRows K H' rs R := ⟨h.1, fun j q hj => by
  obtain ⟨r, ts, h1, h2, h3⟩ := h.2 j q hj
  exact ⟨r, ts, h1, Same.seqT e h2, h3.mono e⟩⟩
theorem ZRows.but {l : Addr} {H H' : Hp} {xs : List V} {rs : List Addr} {R : List (List Zn.Lit)} (hl : H l = some (.lst xs)) (e : But l H H') (h : ZRows K H rs R) : ZRows K H' rs R := ⟨h.1, fun j q hj => by
  obtain ⟨r, ts, h1, h2, h3⟩ := h.2 j q hj
  exact ⟨r, ts, h1, butT hl e h2, h3.but hl e⟩⟩
theorem ZRows.snoc {H : Hp} {rs : List Addr} {R : List (List Zn.Lit)} {r : Addr} {q : List Zn.Lit} (h : ZRows K H rs R) (hr : ∃ ts : List Addr, SqT K H r (ts.map V.ref) ∧ LitsZ K H ts q) : ZRows K H (rs ++ [r]) (R ++ [q]) := by
  refine ⟨by simp [h.1], fun j e hj => ?_⟩
  by_cases c : j < R.length
  · rw [List.getElem?_append_left c] at hj
    obtain ⟨t, ts, h1, h2⟩ := h.2 j e hj
    exact ⟨t, ts, by rw [List.getElem?_append_left (by rw [h.1]; exact c)]; exact h1, h2⟩
  · have ej : j = R.length := by
      have := (List.getElem?_eq_some_iff.mp hj).1
      simp at this
      omega
    subst ej
    rw [List.getElem?_append_right (Nat.le_refl _)] at hj
    have ee : e = q := by simpa using hj.symm
    subst ee
    obtain ⟨ts, h2, h3⟩ := hr
    exact ⟨r, ts, by rw [← h.1, List.getElem?_append_right (Nat.le_refl _)]; simp, h2, h3⟩
def spRowsOf (K : PySem.W.Frag) : Sp := fun vs H Q _ => ∃ (p : Addr) (ps : List Addr) (m : Nat) (ds : List Zn.Z), vs = [.ref p] ∧ SqT K H p (ps.map V.ref) ∧ PartsIn K H m ps ds ∧ (∀ d ∈ ds, Zn.Closed m d) ∧ m ≤ 20 ∧ ds.length ≤ 300 ∧
  ∀ l rs H', Same H H' → H l = none → H' l = some (.lst (rs.map V.ref)) → ZRows K H' rs (ds.map fun d => Zn.lits d m) → Q (.ref l) H'
theorem ok_rows_of {f : Addr} {fd : FuncData} (F : C8.Def K mg "rows_of" s_rows_of f fd) (b : Binds K fd ["parts"] []) (T : Txt K mg CC CS aB) (K_free_zones : C8.Cal P w K mg base 2 "free_zones" (spFreeZones K) []) (K_literals_of : C8.Cal P w K mg base 3 "literals_of" (spLitsOf K) []) :
    C8.Cal P w K mg base 4 "rows_of" (spRowsOf K) [] := by
  refine C8.cal0 F b .nil sc_rows_of (fun vs H Q E h => ?_) (fun cdv A outer s H vs Q E hr h => ?_)
  · obtain ⟨p, ps, m, ds, rfl, _⟩ := h
    rfl
  · obtain ⟨p, ps, m, ds, rfl, hp, hD, hC, hm, h300, k⟩ := h
    refine ⟨_, (pss_one (ps_ret (pe_lc2 (own := [("part", 1), ("zone", 2)]) (vs1 := [2]) rfl sc_rows_of.nd (pi_tup (pv 0)) (blkOk_by (own := [("part", 1), ("zone", 2)]) (N := N_rows_of) (sc := C8.fnScope s_rows_of) (by decide +kernel)) (by decide) (fun _ _ _ _ _ => (pg_name (i := 1) sc_rows_of.nd rfl (Or.inl rfl))) (fun _ _ _ _ _ => pts_nil) (fun _ _ _ _ _ => (piLK (K := K) (C8.pe_c K_free_zones hr (by decide) (by rfl) (pa_cons (pv 1) (pa_cons pe_non pa_nil))))) (fun _ _ _ _ _ => (pg_name (i := 2) sc_rows_of.nd rfl (Or.inl rfl))) (fun _ _ _ _ _ => pts_nil) (fun _ _ _ _ _ => (C8.pe_c K_literals_of hr (by decide) (by rfl) (pa_cons (pv 2) pa_nil)))))), ?_⟩
    refine ⟨_, rfl, p, rfl, ⟨_, hp⟩, fun D nD => itt_run (xs := ps.map V.ref) (fun j H' => ∃ rs : List Addr, Same H H' ∧ H' D = some (.lst (rs.map V.ref)) ∧ ZRows K H' rs ((ds.take j).map fun d => Zn.lits d m)) ⟨[], Same.new nD, upd_same, rfl, fun j q h => (by cases h)⟩ (fun j H' _ h => ?_) ?_ ?_⟩
    · obtain ⟨_, S, _⟩ := h
      exact Same.seqT S hp
    · rintro i x H1 hx ⟨rs, S1, hD1, hR⟩
      rw [List.getElem?_map] at hx
      obtain ⟨q, hq, rfl⟩ := Option.map_eq_some_iff.mp hx
      have hi : i < ds.length := by
        rw [← hD.1]
        exact (List.getElem?_eq_some_iff.mp hq).1
      have hdi := List.getElem?_eq_getElem hi
      obtain ⟨q', h1, h2⟩ := hD.2 i _ hdi
      rw [hq] at h1
      cases h1
      refine ⟨rfl, ?_⟩
      refine ⟨_, rfl, q, m, ds[i], rfl, h2.mono S1, fun l z H2 S2 nl hl hz => ⟨l, rfl, ⟨_, SqL.of hl⟩, itl_run (xs := [V.ref z]) (fun j H' => ∃ rs : List Addr, Same H H' ∧ H' l = some (.lst [.ref z]) ∧ H' D = some (.lst (rs.map V.ref)) ∧ IsZ K H' z m ds[i] ∧ ZRows K H' rs (((ds.take i).map fun d => Zn.lits d m) ++ if j = 0 then [] else [Zn.lits ds[i] m])) ⟨rs, S1.trans S2, hl, S2 _ _ hD1, hz, by simpa using hR.mono S2⟩ (fun j H' _ h => ?_) ?_ ?_⟩⟩
      · obtain ⟨_, _, h, _⟩ := h
        exact SqL.of h
      · rintro j x H3 hx ⟨rs, S3, hl3, hD3, hz3, hR3⟩
        have hj : j = 0 ∧ x = .ref z := by
          match j, hx with
          | 0, hx => exact ⟨rfl, (Option.some.inj hx).symm⟩
        obtain ⟨rfl, rfl⟩ := hj
        refine ⟨rfl, ?_⟩
        refine ⟨_, rfl, z, m, ds[i], rfl, hz3, hC _ (List.getElem_mem hi), hm, fun t ts H4 S4 ht hL => ?_⟩
        have hD4 := S4 _ _ hD3
        have lD : l ≠ D := fun e => by
          rw [e] at nl
          rw [hD1] at nl
          cases nl
        refine ⟨_, hD4, szs (by rw [List.length_map, hR3.1]; simp; omega), rs ++ [t], Same.mut (S3.trans S4) nD, by rw [upd_ne lD]; exact S4 _ _ hl3, by rw [upd_same, List.map_append]; rfl, ?_, ?_⟩
        · obtain ⟨us, a1, a2, a3⟩ := hz3.mono S4
          exact ⟨us, butT hD4 But.upd a1, a2, fun i r hr => butT hD4 But.upd (a3 i r hr)⟩
        · have e0 : ((ds.take i).map fun d => Zn.lits d m) ++ (if 0 + 1 = 0 then [] else [Zn.lits ds[i] m]) = (((ds.take i).map fun d => Zn.lits d m) ++ if 0 = 0 then [] else [Zn.lits ds[i] m]) ++ [Zn.lits ds[i] m] := by simp
          rw [e0]
          exact ((hR3.mono S4).but hD4 But.upd).snoc ⟨ts, butT hD4 But.upd ht, hL.but hD4 But.upd⟩
      · rintro H3 ⟨rs, S3, hl3, hD3, hz3, hR3⟩
        refine ⟨rs, S3, hD3, ?_⟩
        rw [take_snoc hdi, List.map_append]
        simpa using hR3
    · rintro H1 ⟨rs, S1, hD1, hR⟩
      rw [List.length_map, hD.1, List.take_length] at hR
      exact k D rs H1 S1 nD hD1 hR
end
end K9

namespace K9
open PySem L2 Bx
section
variable {P : Program} {w : World} {K : PySem.W.Frag} {mg : Str → Option Value} {base : Heap} {CC CS aB : Addr}
/-- rows of literals at ls, lists each -/
def LRows (K : PySem.W.Frag) (H : Hp) (ls : List Addr) (R : List (List Zn.Lit)) : Prop := ls.length = R.length ∧ ∀ (j : Nat) q, R[j]? = some q → ∃ l ts, ls[j]? = some l ∧ SqL K H l (ts.map V.ref) ∧ LitsZ K H ts q
theorem LRows.mono {H H' : Hp} {ls : List Addr} {R : List (List Zn.Lit)} (e : Same H H') (h : LRows K H ls R) : LRows K H' ls R := ⟨h.1, fun j q hj => by
  obtain ⟨r, ts, h1, h2, h3⟩ := h.2 j q hj
  exact ⟨r, ts, h1, e.seq h2, h3.mono e⟩⟩
/-- the parts of a cover: closed zones, together the states of the rows -/
structure Covers (m : Nat) (ds : List Zn.Z) (R : List (List Zn.Lit)) : Prop where
  cl : ∀ d ∈ ds, Zn.Closed m d
  st : ∀ x : Nat → Int, (∃ d ∈ ds, Zn.Sat m d x) ↔ ∃ q ∈ R, Zn.All x q
theorem isZ_but {l : Addr} {H H' : Hp} {xs : List V} {z : Addr} {m : Nat} {d : Zn.Z} (hl : H l = some (.lst xs)) (e : But l H H') (h : IsZ K H z m d) : IsZ K H' z m d := by
  obtain ⟨rs, a1, a2, a3⟩ := h
  exact ⟨rs, butT hl e a1, a2, fun i r hr => butT hl e (a3 i r hr)⟩
/-- what a row's zone is, as a value -/
def ZoneV (K : PySem.W.Frag) (H : Hp) (m : Nat) (q : List Zn.Lit) (v : V) : Prop := (v = .non ∧ Zn.metAll Zn.whole q = none) ∨ ∃ z d, v = .ref z ∧ Zn.metAll Zn.whole q = some d ∧ IsZ K H z m d
theorem ZoneV.mono {H H' : Hp} {m : Nat} {q : List Zn.Lit} {v : V} (e : Same H H') (h : ZoneV K H m q v) : ZoneV K H' m q v := h.imp id fun ⟨z, d, h1, h2, h3⟩ => ⟨z, d, h1, h2, h3.mono e⟩
theorem ZoneV.but {l : Addr} {H H' : Hp} {xs : List V} {m : Nat} {q : List Zn.Lit} {v : V} (hl : H l = some (.lst xs)) (e : But l H H') (h : ZoneV K H m q v) : ZoneV K H' m q v := h.imp id fun ⟨z, d, h1, h2, h3⟩ => ⟨z, d, h1, h2, isZ_but hl e h3⟩
def ZonesUp (K : PySem.W.Frag) (H : Hp) (D : Addr) (m : Nat) (R : List (List Zn.Lit)) (j : Nat) : Prop := ∃ zs : List V, H D = some (.lst zs) ∧ zs.length = j ∧ ∀ (k : Nat) (v : V) (q : List Zn.Lit), zs[k]? = some v → R[k]? = some q → ZoneV K H m q v
theorem ZonesUp.mono {H H' : Hp} {D : Addr} {m j : Nat} {R : List (List Zn.Lit)} (e : Same H H') (h : ZonesUp K H D m R j) : ZonesUp K H' D m R j := h.imp fun zs x => ⟨e _ _ x.1, x.2.1, fun k v q h1 h2 => (x.2.2 k v q h1 h2).mono e⟩
theorem ZonesUp.push {H : Hp} {D : Addr} {m j : Nat} {R : List (List Zn.Lit)} {v : V} {q : List Zn.Lit} (h : ZonesUp K H D m R j) (hq : R[j]? = some q) (hv : ZoneV K H m q v) (hj : j ≤ 900) : ∃ acc, H D = some (.lst acc) ∧ acc.length < sizeLine ∧ ZonesUp K (upd H D (.lst (acc ++ [v]))) D m R (j + 1) := by
  obtain ⟨zs, h1, h2, h3⟩ := h
  refine ⟨zs, h1, szs (by omega), zs ++ [v], upd_same, by simp [h2], fun k u e hk he => ?_⟩
  by_cases c : k < zs.length
  · rw [List.getElem?_append_left c] at hk
    exact (h3 k u e hk he).but h1 But.upd
  · have ek : k = zs.length := by
      have := (List.getElem?_eq_some_iff.mp hk).1
      simp at this
      omega
    subst ek
    rw [List.getElem?_append_right (Nat.le_refl _)] at hk
    have eu : u = v := by simpa using hk.symm
    subst eu
    rw [h2, hq] at he
    cases he
    exact hv.but h1 But.upd
def spOfRows (K : PySem.W.Frag) : Sp := fun vs H Q _ => ∃ (r : Addr) (ls : List Addr) (n : Nat) (R : List (List Zn.Lit)), vs = [.ref r, .int (n : Nat)] ∧ SqL K H r (ls.map V.ref) ∧ LRows K H ls R ∧ (∀ q ∈ R, Zn.Ok (n + 1) q) ∧ n ≤ 19 ∧ R.length ≤ 300 ∧
  ∀ p ps ds H', Same H H' → SqT K H' p (ps.map V.ref) → PartsIn K H' (n + 1) ps ds → Covers (n + 1) ds R → ds.length ≤ 300 → Q (.ref p) H'
theorem ok_of_rows {f : Addr} {fd : FuncData} (F : C8.Def K mg "of_rows" s_of_rows f fd) (b : Binds K fd ["rows", "many"] []) (T : Txt K mg CC CS aB) (K_whole : C8.Cal P w K mg base 1 "whole" (spWhole K) []) (K_met_all : C8.Cal P w K mg base 3 "met_all" (spMetAll K) [])
    (K_trimmed : C8.Cal P w K mg base 4 "trimmed" (spTrim K) []) : C8.Cal P w K mg base 5 "of_rows" (spOfRows K) [] := by
  refine C8.cal0 F b .nil sc_of_rows (fun vs H Q E h => ?_) (fun cdv A outer s H vs Q E hr h => ?_)
  · obtain ⟨r, ls, n, R, rfl, _⟩ := h
    rfl
  · obtain ⟨r, ls, n, R, rfl, hr0, hL, hok, hn, h300, k⟩ := h
    refine ⟨_, (pss_cons (ps_setLc (i := 2) (own := [("row", 3)]) (g := gName 3) (tt := tYes) rfl sc_of_rows.nd rfl rfl (sw_true rfl rfl rfl (by decide +kernel)) (pi_list (pv 0)) (blkOk_by (own := [("row", 3)]) (N := N_of_rows) (sc := C8.fnScope s_of_rows) (by decide +kernel)) (fun _ _ _ _ _ => (pg_name (i := 3) sc_of_rows.nd rfl (Or.inl rfl))) (fun _ _ _ _ _ => pts_nil) (fun _ _ _ _ _ => (C8.pe_c K_met_all hr (by decide) (by rfl) (pa_cons (C8.pe_c K_whole hr (by decide) (by rfl) (pa_cons (pv 1) pa_nil)) (pa_cons (pv 3) pa_nil)))))
    (pss_one (ps_ret (C8.pe_c K_trimmed hr (by decide) (by rfl) (pa_cons (pe_lc (own := [("zone", 4)]) (g := gName 4) rfl sc_of_rows.nd (pi_list (pv 2)) (blkOk_by (own := [("zone", 4)]) (N := N_of_rows) (sc := C8.fnScope s_of_rows) (by decide +kernel)) (fun _ _ _ _ _ => (pg_name (i := 4) sc_of_rows.nd rfl (Or.inl rfl))) (fun _ _ _ _ _ => (pts_one (pt_cmpR op_notN (pv 4) pe_non (nomark _)))) (fun _ _ _ _ _ => (pe_tup (pa_cons (pv 4) (pa_cons (pe_tup pa_nil) pa_nil))))) pa_nil))))), ?_⟩
    refine ⟨_, rfl, r, rfl, ⟨_, hr0⟩, fun D nD => lc_list (xs := ls.map V.ref) (fun j H' => Same H H' ∧ ZonesUp K H' D (n + 1) R j) ⟨Same.new nD, [], upd_same, rfl, fun k v q h => (by cases h)⟩ (fun j H' _ h => h.1.seq hr0) ?_ ?_⟩
    · rintro i x H1 hx ⟨S1, hZ⟩
      rw [List.getElem?_map] at hx
      obtain ⟨l, hl, rfl⟩ := Option.map_eq_some_iff.mp hx
      have hi : i < R.length := by
        rw [← hL.1]
        exact (List.getElem?_eq_some_iff.mp hl).1
      have hq := List.getElem?_eq_getElem hi
      obtain ⟨l', ts, h1, h2, h3⟩ := hL.2 i _ hq
      rw [hl] at h1
      cases h1
      refine ⟨rfl, ?_⟩
      refine ⟨_, rfl, n, rfl, by omega, fun z0 H2 S2 hz0 => ⟨_, rfl, z0, l, ts, n + 1, Zn.whole, R[i], rfl, hz0, (S1.trans S2).seq h2, h3.mono (S1.trans S2), hok _ (List.getElem_mem hi), by omega, fun H3 S3 e => ?_, fun z d H3 S3 e hz => ?_⟩⟩
      · obtain ⟨acc, g1, g2, g3⟩ := (hZ.mono (S2.trans S3)).push hq (v := .non) (.inl ⟨rfl, e⟩) (by omega)
        exact ⟨acc, g1, g2, Same.mut (S1.trans (S2.trans S3)) nD, g3⟩
      · obtain ⟨acc, g1, g2, g3⟩ := (hZ.mono (S2.trans S3)).push hq (v := .ref z) (.inr ⟨z, d, rfl, e, hz⟩) (by omega)
        exact ⟨acc, g1, g2, Same.mut (S1.trans (S2.trans S3)) nD, g3⟩
    rintro H1 ⟨S1, hZ⟩
    rw [List.length_map, hL.1] at hZ
    obtain ⟨zs, hD, hlen, hV⟩ := hZ
    refine ⟨_, rfl, D, rfl, ⟨_, SqL.of hD⟩, fun D2 nD2 => lc_list (xs := zs) (fun j H' => ∃ (ps : List Addr) (ds : List Zn.Z), Same H1 H' ∧ H' D2 = some (.lst (ps.map V.ref)) ∧ PartsIn K H' (n + 1) ps ds ∧ ds = (R.take j).filterMap (Zn.metAll Zn.whole)) ⟨[], [], Same.new nD2, upd_same, PartsIn.nil, rfl⟩ (fun j H' _ h => ?_) ?_ ?_⟩
    · obtain ⟨_, _, S, _⟩ := h
      exact S.seq (SqL.of hD)
    · rintro i x H2 hx ⟨ps, ds, S2, hD2, hP, eds⟩
      have hi : i < R.length := by
        rw [← hlen]
        exact (List.getElem?_eq_some_iff.mp hx).1
      have hq := List.getElem?_eq_getElem hi
      have hfl : ds.length ≤ 300 := by
        have h1 : ds.length ≤ (R.take i).length := by rw [eds]; exact List.length_filterMap_le _ _
        rw [List.length_take] at h1
        omega
      refine ⟨rfl, ?_⟩
      rcases hV i x _ hx hq with ⟨rfl, e⟩ | ⟨z, d, rfl, e, hz⟩
      · refine ⟨_, rfl, rfl, _, rfl, iteF ⟨ps, ds, S2, hD2, hP, ?_⟩⟩
        rw [take_snoc hq, List.filterMap_append, ← eds]
        simp [e]
      · refine ⟨_, rfl, rfl, _, rfl, iteT ⟨_, rfl, (by show 0 ≤ sizeLine; decide), fun c nc => ⟨(by show 2 ≤ sizeLine; decide), fun p np => ?_⟩⟩⟩
        have Sc := Same.new (o := HO.tup []) nc
        have Sp := Sc.trans (Same.new (o := HO.tup [V.ref z, V.ref c]) np)
        have hD2' := Sp _ _ hD2
        have hp : IsP K (upd (upd H2 c (.tup [])) p (.tup [V.ref z, V.ref c])) p (n + 1) d := ⟨z, c, SqT.of upd_same, hz.mono (S2.trans Sp), Same.seqT (Same.new (o := HO.tup [V.ref z, V.ref c]) np) (SqT.of upd_same)⟩
        refine ⟨_, hD2', szs (by rw [List.length_map, hP.1]; omega), ps ++ [p], ds ++ [d], Same.mut (S2.trans Sp) nD2, by rw [upd_same, List.map_append]; rfl, ((hP.mono Sp).but hD2' But.upd).snoc (isP_but hD2' But.upd hp), ?_⟩
        rw [take_snoc hq, List.filterMap_append, ← eds]
        simp [e]
    · rintro H2 ⟨ps, ds, S2, hD2, hP, eds⟩
      rw [hlen, List.take_length] at eds
      have hfl : ds.length ≤ 300 := by
        have h1 : ds.length ≤ R.length := by rw [eds]; exact List.length_filterMap_le _ _
        omega
      refine ⟨D2, ps, n + 1, ds, rfl, SqL.of hD2, hP, hfl, fun p qs es H3 S3 hp hE hin hcov hle => ?_⟩
      have cl : ∀ d ∈ ds, ∃ q ∈ R, Zn.metAll Zn.whole q = some d ∧ Zn.Closed (n + 1) d ∧ ∀ x, Zn.Sat (n + 1) d x ↔ Zn.All x q := fun d hd => by
        rw [eds] at hd
        obtain ⟨q, hq, e⟩ := List.mem_filterMap.mp hd
        obtain ⟨c, st⟩ := Zn.metAll_some (Zn.whole_closed (n + 1)) (hok q hq) e
        exact ⟨q, hq, e, c, fun x => (st x).trans ⟨fun h => h.2, fun h => ⟨Zn.whole_sat _ x, h⟩⟩⟩
      refine k p qs es H3 ((S1.trans S2).trans S3) hp hE ⟨fun d hd => ?_, fun x => ⟨?_, ?_⟩⟩ (by omega)
      · obtain ⟨_, _, _, c, _⟩ := cl d (hin d hd)
        exact c
      · rintro ⟨d, hd, S⟩
        obtain ⟨q, hq, _, _, st⟩ := cl d (hin d hd)
        exact ⟨q, hq, (st x).mp S⟩
      · rintro ⟨q, hq, hA⟩
        cases e : Zn.metAll Zn.whole q with
        | none => exact absurd hA (Zn.metAll_none (Zn.whole_closed (n + 1)) (hok q hq) e x (Zn.whole_sat _ x))
        | some d =>
          have hd : d ∈ ds := by
            rw [eds]
            exact List.mem_filterMap.mpr ⟨q, hq, e⟩
          obtain ⟨_, st⟩ := Zn.metAll_some (Zn.whole_closed (n + 1)) (hok q hq) e
          obtain ⟨f, hf, hi⟩ := hcov d hd
          exact ⟨f, hf, Zn.inside_sat hi ((st x).mpr ⟨Zn.whole_sat _ x, hA⟩)⟩
end
end K9

namespace K9
open PySem L2 Bx
/-- the place of a name among names -/
def posOf : List Str → Str → Nat
  | [], _ => 0
  | y :: r, t => if y = t then 0 else posOf r t + 1
theorem posOf_spec : ∀ {ys : List Str} {t : Str}, t ∈ ys → ys[posOf ys t]? = some t ∧ ∀ m, m < posOf ys t → ys[m]? ≠ some t
  | [], t, h => by cases h
  | y :: r, t, h => by
    unfold posOf
    by_cases e : y = t
    · rw [if_pos e]
      exact ⟨by rw [e]; rfl, fun m hm => by omega⟩
    · rw [if_neg e]
      have h' : t ∈ r := (List.mem_cons.mp h).resolve_left fun z => e z.symm
      obtain ⟨h1, h2⟩ := posOf_spec h'
      refine ⟨by simpa using h1, fun m hm => ?_⟩
      cases m with
      | zero => simpa using e
      | succ m => simpa using h2 m (by omega)
def nm (ys : List Str) (i : Nat) : Str := ((("" : Str)) :: ys).getD i ""
def xOf (ys : List Str) (f : Str → Int) (i : Nat) : Int := vl f (nm ys i)
def ixOf (ys : List Str) (t : Str) : Nat := if t = "" then 0 else 1 + posOf ys t
def litZ (ys : List Str) (q : Str × Str × Int) : Zn.Lit := (ixOf ys q.1, ixOf ys q.2.1, q.2.2)
def litS (ys : List Str) (l : Zn.Lit) : Str × Str × Int := (nm ys l.1, nm ys l.2.1, l.2.2)
theorem nm_at {ys : List Str} {i : Nat} (h : i < ys.length + 1) : ((("" : Str)) :: ys)[i]? = some (nm ys i) := by
  unfold nm
  have h' : i < ((("" : Str)) :: ys).length := by simpa using h
  rw [List.getD_eq_getElem?_getD, List.getElem?_eq_getElem h']
  rfl
theorem nm_in {ys : List Str} {i : Nat} (h : i < ys.length + 1) : nm ys i = "" ∨ nm ys i ∈ ys := by
  have e := nm_at h
  have m := List.mem_of_getElem? e
  exact List.mem_cons.mp m
theorem ix_lt {ys : List Str} {t : Str} (h : t = "" ∨ t ∈ ys) : ixOf ys t < ys.length + 1 := by
  unfold ixOf
  by_cases e : t = ""
  · rw [if_pos e]
    omega
  · rw [if_neg e]
    have := (List.getElem?_eq_some_iff.mp (posOf_spec (h.resolve_left e)).1).1
    omega
theorem nm_ix {ys : List Str} {t : Str} (h : t = "" ∨ t ∈ ys) : nm ys (ixOf ys t) = t := by
  have e := nm_at (ix_lt h)
  unfold ixOf at e ⊢
  by_cases c : t = ""
  · rw [if_pos c] at e ⊢
    rw [c]
    rfl
  · rw [if_neg c] at e ⊢
    rw [Nat.add_comm, List.getElem?_cons_succ, (posOf_spec (h.resolve_left c)).1] at e
    rw [Nat.add_comm]
    exact (Option.some.inj e).symm
theorem all_lits {ys : List Str} {f : Str → Int} {L : List (Str × Str × Int)} (h : ∀ q ∈ L, TermsOk ys q) : Zn.All (xOf ys f) (L.map (litZ ys)) ↔ meetsB f L = true := by
  unfold Zn.All meetsB
  rw [List.all_eq_true]
  constructor
  · intro g q hq
    have := g _ (List.mem_map.mpr ⟨q, hq, rfl⟩)
    unfold Zn.Hl xOf litZ at this
    dsimp only at this
    rw [nm_ix (h q hq).1, nm_ix (h q hq).2] at this
    exact decide_eq_true this
  · intro g l hl
    obtain ⟨q, hq, rfl⟩ := List.mem_map.mp hl
    unfold Zn.Hl xOf litZ
    dsimp only
    rw [nm_ix (h q hq).1, nm_ix (h q hq).2]
    exact of_decide_eq_true (g q hq)
theorem lits_all {ys : List Str} {f : Str → Int} {ls : List Zn.Lit} : meetsB f (ls.map (litS ys)) = true ↔ Zn.All (xOf ys f) ls := by
  unfold Zn.All meetsB
  rw [List.all_eq_true]
  constructor
  · intro g l hl
    have h : decide (vl f (nm ys l.1) ≤ vl f (nm ys l.2.1) + l.2.2) = true := g _ (List.mem_map.mpr ⟨l, hl, rfl⟩)
    show vl f (nm ys l.1) ≤ vl f (nm ys l.2.1) + l.2.2
    exact of_decide_eq_true h
  · intro g q hq
    obtain ⟨l, hl, rfl⟩ := List.mem_map.mp hq
    have h : vl f (nm ys l.1) ≤ vl f (nm ys l.2.1) + l.2.2 := g l hl
    exact decide_eq_true h
theorem ok_lits {ys : List Str} {L : List (Str × Str × Int)} (h : ∀ q ∈ L, TermsOk ys q) : Zn.Ok (ys.length + 1) (L.map (litZ ys)) := fun l hl => by
  obtain ⟨q, hq, rfl⟩ := List.mem_map.mp hl
  exact ⟨ix_lt (h q hq).1, ix_lt (h q hq).2⟩
theorem terms_lits {ys : List Str} {ls : List Zn.Lit} (h : Zn.Ok (ys.length + 1) ls) : ∀ q ∈ ls.map (litS ys), TermsOk ys q := fun q hq => by
  obtain ⟨l, hl, rfl⟩ := List.mem_map.mp hq
  exact ⟨nm_in (h l hl).1, nm_in (h l hl).2⟩
/-- a cover -/
def CoverAt (K : PySem.W.Frag) (CC : Addr) (H : Hp) (c : Addr) (m : Nat) (ds : List Zn.Z) : Prop := ∃ dc p ps, H c = some (.ins CC dc [("parts", .ref p)]) ∧ SqT K H p (ps.map V.ref) ∧ PartsIn K H m ps ds
theorem CoverAt.mono {K : PySem.W.Frag} {CC : Addr} {H H' : Hp} {c : Addr} {m : Nat} {ds : List Zn.Z} (e : Same H H') (h : CoverAt K CC H c m ds) : CoverAt K CC H' c m ds := by
  obtain ⟨dc, p, ps, h1, h2, h3⟩ := h
  exact ⟨dc, p, ps, e _ _ h1, Same.seqT e h2, h3.mono e⟩
section
variable {P : Program} {w : World} {K : PySem.W.Frag} {mg : Str → Option Value} {base : Heap} {CC CS aB : Addr}
/-- States._index -/
def spIndex (K : PySem.W.Frag) (CS : Addr) : Sp := fun vs H Q _ => ∃ (o dx tn : Addr) (fs : List (Str × V)) (ys : List Str) (t : Str), vs = [.ref o, .str t] ∧ H o = some (.ins CS dx fs) ∧ fs.lookup ("names" : Str) = some (V.ref tn) ∧ Tf.TupAt H tn (ys.map V.str) ∧ (t = "" ∨ t ∈ ys) ∧ Q (.int (ixOf ys t : Nat)) H
theorem ok_States__index {f : Addr} {fd : FuncData} (me : Meth K CS "_index" f) (F : C8.Fun K "_index" "States._index" s_States__index f fd) (b : Binds K fd ["self", "term"] []) (T : Txt K mg CC CS aB) : C8.Met P w K mg base 1 CS "_index" (spIndex K CS) [] := by
  refine C8.met0 T.cS me F b sc_States__index (fun vs H Q E h => ?_) (fun cdv A outer s H vs Q E hr h => ?_)
  · obtain ⟨o, dx, tn, fs, ys, t, rfl, _⟩ := h
    rfl
  · obtain ⟨o, dx, tn, fs, ys, t, rfl, ho, hn, ht, hin, k⟩ := h
    refine ⟨_, (pss_one (ps_ret (pe_ifExp (pt_cmpR op_eq (pv 1) pe_str (nomark _)) pe_int (pe_op op_add pe_int (Tf.pe_bmF PySem.F.plainAttrs_tuple PySem.F.slot_tuple_index PySem.F.type_tuple_index mt_tup_index (pe_fld (pv 0) rfl) (pa_cons (pv 1) pa_nil)))))), ?_⟩
    refine ⟨_, rfl, rfl, _, rfl, ?_⟩
    by_cases e : t = ""
    · subst e
      have : ixOf ys ("" : Str) = 0 := if_pos rfl
      rw [this] at k
      exact iteT k
    · rw [decide_eq_false (fun z => e (V.str.inj z))]
      obtain ⟨h1, h2⟩ := posOf_spec (hin.resolve_left e)
      refine iteF ⟨_, rfl, o, CS, dx, fs, .ref tn, rfl, ho, T.cS, T.nS.1, hn, ⟨tn, _, rfl, ht⟩, _, rfl, tn, ys, t, _, rfl, rfl, ht.sq, h1, h2, 1, ((posOf ys t : Nat) : Int), rfl, rfl, ?_⟩
      have : ixOf ys t = 1 + posOf ys t := if_neg e
      rw [this] at k
      have e2 : ((1 + posOf ys t : Nat) : Int) = 1 + ((posOf ys t : Nat) : Int) := by omega
      rw [e2] at k
      exact k
end
end K9

namespace K9
open PySem L2 Bx
abbrev cs_covered : Scope := match C8.fnBody s_States__covered with
  | .Assign _ e _ :: _ => reSc (C8.fnScope s_States__covered) (compSc e)
  | _ => C8.fnScope s_States__covered
section
variable {P : Program} {w : World} {K : PySem.W.Frag} {mg : Str → Option Value} {base : Heap} {CC CS aB : Addr}
theorem butL {l a : Addr} {H H' : Hp} {xs : List V} (e : But l H H') (n : a ≠ l) (h : SqL K H a xs) : SqL K H' a xs := by
  rcases h with (h | ⟨o, h⟩) | h
  · exact .inl (.inl (e _ _ h n))
  · exact .inl (.inr ⟨o, e _ _ h n⟩)
  · exact .inr h
theorem LRows.push {H : Hp} {D l : Addr} {ls : List Addr} {R : List (List Zn.Lit)} {q : List Zn.Lit} (hD : H D = some (.lst (ls.map V.ref))) (h : LRows K H ls R) (hne : ∀ x ∈ ls, x ≠ D) (hl : l ≠ D) (hq : ∃ ts : List Addr, SqL K H l (ts.map V.ref) ∧ LitsZ K H ts q) :
    LRows K (upd H D (.lst ((ls ++ [l]).map V.ref))) (ls ++ [l]) (R ++ [q]) := by
  refine ⟨by simp [h.1], fun j e hj => ?_⟩
  by_cases c : j < R.length
  · rw [List.getElem?_append_left c] at hj
    obtain ⟨r, ts, h1, h2, h3⟩ := h.2 j e hj
    exact ⟨r, ts, by rw [List.getElem?_append_left (by rw [h.1]; exact c)]; exact h1, butL But.upd (hne r (List.mem_of_getElem? h1)) h2, h3.but hD But.upd⟩
  · have ej : j = R.length := by
      have := (List.getElem?_eq_some_iff.mp hj).1
      simp at this
      omega
    subst ej
    rw [List.getElem?_append_right (Nat.le_refl _)] at hj
    have ee : e = q := by simpa using hj.symm
    subst ee
    obtain ⟨ts, h2, h3⟩ := hq
    exact ⟨l, ts, by rw [← h.1, List.getElem?_append_right (Nat.le_refl _)]; simp, butL But.upd hl h2, h3.but hD But.upd⟩
/-- States._covered -/
def spCovered (K : PySem.W.Frag) (CC CS : Addr) : Sp := fun vs H Q _ => ∃ (o dx tn r : Addr) (fs : List (Str × V)) (ys : List Str) (R : List (List (Str × Str × Int))), vs = [.ref o, .ref r] ∧ H o = some (.ins CS dx fs) ∧ fs.lookup ("names" : Str) = some (V.ref tn) ∧ fs.lookup ("_index" : Str) = none ∧ Tf.TupAt H tn (ys.map V.str) ∧
  RowsAt K H r R ∧ R.length ≤ 300 ∧ (∀ L ∈ R, L.length ≤ 900 ∧ ∀ q ∈ L, TermsOk ys q) ∧ ys.length ≤ 19 ∧
  ∀ c ds H', Same H H' → CoverAt K CC H' c (ys.length + 1) ds → Covers (ys.length + 1) ds (R.map fun L => L.map (litZ ys)) → ds.length ≤ 300 → Q (.ref c) H'
theorem ok_States__covered {f : Addr} {fd : FuncData} (me : Meth K CS "_covered" f) (F : C8.Fun K "_covered" "States._covered" s_States__covered f fd) (b : Binds K fd ["self", "rows"] []) (T : Txt K mg CC CS aB) (K__index : C8.Met P w K mg base 1 CS "_index" (spIndex K CS) [])
    (K_of_rows : C8.Cal P w K mg base 5 "of_rows" (spOfRows K) []) (K_Cover : C8.Mak P w K mg base 1 "Cover" CC (spCover CC) []) : C8.Met P w K mg base 6 CS "_covered" (spCovered K CC CS) [] := by
  refine C8.met0 T.cS me F b sc_States__covered (fun vs H Q E h => ?_) (fun cdv A outer s H vs Q E hr h => ?_)
  · obtain ⟨o, dx, tn, r, fs, ys, R, rfl, _⟩ := h
    rfl
  · obtain ⟨o, dx, tn, r, fs, ys, R, rfl, ho, hn, hni, htn, hR, h300, hT, h19, k⟩ := h
    obtain ⟨rs, hr0, hI⟩ := id hR
    refine ⟨_, (pss_cons (ps_setLc (i := 2) (own := [("row", 3)]) (g := gName 3) (tt := tYes) rfl sc_States__covered.nd rfl rfl (sw_true rfl rfl rfl (by decide +kernel)) (pi_tup (pv 1)) (blkOk_by (own := [("row", 3)]) (N := N_States__covered) (sc := C8.fnScope s_States__covered) (by decide +kernel)) (fun _ _ _ _ _ => (pg_name (i := 3) sc_States__covered.nd rfl (Or.inl rfl))) (fun _ _ _ _ _ => pts_nil) (fun _ _ _ _ _ => (pe_lc (own := [("left", 4), ("right", 5), ("number", 6)]) (g := _) (tt := tYes) rfl sc_States__covered.nd (piTK K (pv 3)) (blkOk_by (own := [("left", 4), ("right", 5), ("number", 6)]) (N := N_States__covered) (sc := cs_covered) (by decide +kernel)) (fun _ _ _ _ _ => (pgTK K 3 (pgs_cons (pg_name (i := 4) sc_States__covered.nd rfl (Or.inl rfl)) (pgs_cons (pg_name (i := 5) sc_States__covered.nd rfl (Or.inl rfl)) (pgs_cons (pg_name (i := 6) sc_States__covered.nd rfl (Or.inl rfl)) pgs_nil))))) (fun _ _ _ _ _ => pts_nil) (fun _ _ _ _ _ => (pe_tup (pa_cons (C8.pe_mt K__index hr (by decide) (pv 0) (pa_cons (pv 4) pa_nil)) (pa_cons (C8.pe_mt K__index hr (by decide) (pv 0) (pa_cons (pv 5) pa_nil)) (pa_cons (pv 6) pa_nil))))))))
    (pss_one (ps_ret (C8.pe_mk K_Cover hr (by decide) (by rfl) (pa_cons (C8.pe_c K_of_rows hr (by decide) (by rfl) (pa_cons (pv 2) (pa_cons (pe_callB call_len_seq (by rfl) T.z_len (by decide +kernel) (pa_cons (pe_fld (pv 0) rfl) pa_nil)) pa_nil))) pa_nil))))), ?_⟩
    refine ⟨_, rfl, r, rfl, ⟨_, hr0⟩, fun D nD => lc_tup (xs := rs.map V.ref) (fun j H' => ∃ ls : List Addr, Same H H' ∧ H' D = some (.lst (ls.map V.ref)) ∧ LRows K H' ls ((R.take j).map fun L => L.map (litZ ys)) ∧ ∀ x ∈ ls, x ≠ D) ⟨[], Same.new nD, upd_same, ⟨rfl, fun j q h => (by cases h)⟩, fun x hx => (by cases hx)⟩ (fun j H' _ h => ?_) ?_ ?_⟩
    · obtain ⟨_, S, _⟩ := h
      exact Same.seqT S hr0
    · rintro i x H1 hx ⟨ls, S1, hD, hL, hne⟩
      rw [List.getElem?_map] at hx
      obtain ⟨p, hp, rfl⟩ := Option.map_eq_some_iff.mp hx
      have hi : i < R.length := by
        rw [← hI.1]
        exact (List.getElem?_eq_some_iff.mp hp).1
      have hq := List.getElem?_eq_getElem hi
      obtain ⟨p', h1, ts, h2, h3⟩ := hI.2 i _ hq
      rw [hp] at h1
      cases h1
      obtain ⟨hT1, hT2⟩ := hT _ (List.getElem_mem hi)
      generalize R[i] = L at hq h3 hT1 hT2
      refine ⟨rfl, ?_⟩
      refine ⟨_, rfl, p, rfl, ⟨_, Same.seqT S1 h2⟩, fun D2 nD2 => lc_tup (xs := ts.map V.ref) (fun j H' => Same H1 H' ∧ LitsUp K H' D2 ((L.take j).map (litZ ys))) ⟨Same.new nD2, [], upd_same, LitsZ.nil⟩ (fun j H' _ h => Same.seqT (S1.trans h.1) h2) ?_ ?_⟩
      · rintro j x H2 hx2 ⟨S2, hU⟩
        rw [List.getElem?_map] at hx2
        obtain ⟨t, ht, rfl⟩ := Option.map_eq_some_iff.mp hx2
        have hj : j < L.length := by
          rw [← h3.1]
          exact (List.getElem?_eq_some_iff.mp ht).1
        have hqj := List.getElem?_eq_getElem hj
        obtain ⟨t', g1, g2⟩ := h3.2 j _ hqj
        rw [ht] at g1
        cases g1
        have hTq := hT2 _ (List.getElem_mem hj)
        generalize L[j] = q at hqj g2 hTq
        have S02 := S1.trans S2
        have g2' : SqT K H2 t [.str q.1, .str q.2.1, .int q.2.2] := Same.seqT S02 g2
        have htn2 : Tf.TupAt H2 tn (ys.map V.str) := by
          obtain ⟨ob, z1, z2⟩ := htn
          exact ⟨ob, S02 _ _ z1, z2⟩
        refine ⟨t, _, rfl, g2', rfl, _, _, rfl, _, _, rfl, _, _, rfl, rfl, rfl, ?_⟩
        refine ⟨_, rfl, o, dx, fs, rfl, S02 _ _ ho, hni, _, rfl, o, dx, tn, fs, ys, q.1, rfl, S02 _ _ ho, hn, htn2, hTq.1, ?_⟩
        refine ⟨_, rfl, o, dx, fs, rfl, S02 _ _ ho, hni, _, rfl, o, dx, tn, fs, ys, q.2.1, rfl, S02 _ _ ho, hn, htn2, hTq.2, ?_⟩
        refine ⟨_, rfl, (by show 3 ≤ sizeLine; decide), fun a na => ?_⟩
        have Sa := Same.new (o := HO.tup [.int (ixOf ys q.1 : Nat), .int (ixOf ys q.2.1 : Nat), .int q.2.2]) na
        obtain ⟨acc, z1, z2, z3⟩ := (hU.mono Sa).push (t := a) (q := litZ ys q) (SqT.of upd_same) (by rw [List.length_map, List.length_take]; omega)
        refine ⟨acc, z1, z2, Same.mut (S2.trans Sa) nD2, ?_⟩
        rw [take_snoc hqj, List.map_append]
        exact z3
      · rintro H2 ⟨S2, ts2, hD2, hz⟩
        rw [List.length_map, h3.1, List.take_length] at hz
        have D2D : D2 ≠ D := fun e => by
          rw [e, hD] at nD2
          cases nD2
        have hDh := S2 _ _ hD
        refine ⟨_, hDh, szs (by rw [List.length_map, hL.1, List.length_map, List.length_take]; omega), ls ++ [D2], Same.mut (S1.trans S2) nD, by rw [upd_same, List.map_append]; rfl, ?_, fun x hx => ?_⟩
        · rw [take_snoc hq, List.map_append]
          have := LRows.push (q := L.map (litZ ys)) hDh (hL.mono S2) hne D2D ⟨ts2, SqL.of hD2, hz⟩
          rw [List.map_append] at this
          exact this
        · rcases List.mem_append.mp hx with h | h
          · exact hne x h
          · rw [List.mem_singleton.mp h]
            exact D2D
    · rintro H1 ⟨ls, S1, hD, hL, hne⟩
      rw [List.length_map, hI.1, List.take_length] at hL
      have htn2 : Tf.TupAt H1 tn (ys.map V.str) := by
        obtain ⟨ob, z1, z2⟩ := htn
        exact ⟨ob, S1 _ _ z1, z2⟩
      refine ⟨_, rfl, _, rfl, o, CS, dx, fs, .ref tn, rfl, S1 _ _ ho, T.cS, T.nS.1, hn, tn, _, rfl, .inr htn2.sq, D, ls, ys.length, _, by rw [List.length_map]; rfl, SqL.of hD, hL, fun q hq => ?_, h19, by rw [List.length_map]; exact h300, fun p ps ds H2 S2 hp hP hC hds x dx' nx ndx hxd => ?_⟩
      · obtain ⟨L, hL2, rfl⟩ := List.mem_map.mp hq
        exact ok_lits (hT L hL2).2
      · refine ⟨x, dx', .ref p, rfl, upd_same, rfl, ?_⟩
        have S3 : Same H2 (upd (upd (upd H2 dx' (HO.own x)) x (HO.ins CC dx' [])) x (HO.ins CC dx' [("parts", V.ref p)])) := Same.mut (Same.mut (Same.new ndx) nx) nx
        exact k x ds _ (S1.trans (S2.trans S3)) ⟨dx', p, ps, upd_same, Same.seqT S3 hp, hP.mono S3⟩ hC hds
end
end K9

namespace K9
open PySem L2 Bx
theorem _root_.Tf.TupAt.mono {H H' : Hp} {t : Addr} {xs : List V} (e : Same H H') (h : Tf.TupAt H t xs) : Tf.TupAt H' t xs := by
  obtain ⟨o, h1, h2⟩ := h
  exact ⟨o, e _ _ h1, h2⟩
/-- a set of states: its names, in order, and the zones of its cover -/
def StsAt (K : PySem.W.Frag) (CC CS : Addr) (H : Hp) (o : Addr) (ys : List Str) (ds : List Zn.Z) : Prop := ∃ dx tn c, H o = some (.ins CS dx [("names", .ref tn), ("_cover", .ref c)]) ∧ Tf.TupAt H tn (ys.map V.str) ∧ CoverAt K CC H c (ys.length + 1) ds
theorem StsAt.mono {K : PySem.W.Frag} {CC CS : Addr} {H H' : Hp} {o : Addr} {ys : List Str} {ds : List Zn.Z} (e : Same H H') (h : StsAt K CC CS H o ys ds) : StsAt K CC CS H' o ys ds := by
  obtain ⟨dx, tn, c, h1, h2, h3⟩ := h
  exact ⟨dx, tn, c, e _ _ h1, h2.mono e, h3.mono e⟩
/-- names that a set may have -/
structure NamesOk (ns : List Str) : Prop where
  few : ns.length ≤ 19
  len : ∀ x ∈ ns, x.length ≤ 1000
  lab : ∀ x ∈ ns, labelB x = true
  nd : ns.Nodup
theorem NamesOk.perm {ns ys : List Str} (h : NamesOk ns) (p : ys.Perm ns) : NamesOk ys := ⟨by rw [p.length_eq]; exact h.few, fun x hx => h.len x (p.mem_iff.mp hx), fun x hx => h.lab x (p.mem_iff.mp hx), p.nodup_iff.mpr h.nd⟩
theorem terms_perm {ns ys : List Str} {q : Str × Str × Int} (h : TermsOk ns q) (p : ys.Perm ns) : TermsOk ys q := ⟨h.1.imp id p.mem_iff.mpr, h.2.imp id p.mem_iff.mpr⟩
def KeepT (K : PySem.W.Frag) (H H' : Hp) : Prop := ∀ (a : Addr) (xs : List V), SqT K H a xs → SqT K H' a xs
theorem PartsIn.kt {K : PySem.W.Frag} {H H' : Hp} {m : Nat} {ps : List Addr} {ds : List Zn.Z} (e : KeepT K H H') (h : PartsIn K H m ps ds) : PartsIn K H' m ps ds := ⟨h.1, fun j d hj => (h.2 j d hj).imp fun p x => ⟨x.1, by
  obtain ⟨z, c, h1, ⟨rs, a1, a2, a3⟩, h3⟩ := x.2
  exact ⟨z, c, e _ _ h1, ⟨rs, e _ _ a1, a2, fun i r hr => e _ _ (a3 i r hr)⟩, e _ _ h3⟩⟩⟩
/-- States(names, rows), the rows given as rows -/
def spStates (K : PySem.W.Frag) (CC CS : Addr) : Sp := fun vs H Q _ => ∃ (H0 : Hp) (x dx nt rt : Addr) (ns : List Str) (R : List (List (Str × Str × Int))), vs = [.ref x, .ref nt, .ref rt] ∧ H0 x = none ∧ Same H0 H ∧ H x = some (.ins CS dx []) ∧ SqT K H0 nt (ns.map V.str) ∧ NamesOk ns ∧
  RowsAt K H0 rt R ∧ R.length ≤ 300 ∧ (∀ L ∈ R, L.length ≤ 900 ∧ ∀ q ∈ L, TermsOk ns q) ∧
  ∀ ys ds H', ys.Perm ns → ys.Pairwise Sk.LeS → Same H0 H' → StsAt K CC CS H' x ys ds → Covers (ys.length + 1) ds (R.map fun L => L.map (litZ ys)) → ds.length ≤ 300 → Q .non H'
section
variable {P : Program} {w : World} {K : PySem.W.Frag} {mg : Str → Option Value} {base : Heap} {CC CS aB : Addr}
theorem ok_States {f : Addr} {fd : FuncData} (M : Mk K CS f) (F : C8.Fun K "__init__" "States.__init__" s_States_init f fd) (b : Binds K fd ["self", "names", "rows"] []) (T : Txt K mg CC CS aB) (iT : PySem.W.kitOne K (.type "tuple") (.ref CC) = some false) (K_are_labels : C8.Cal P w K mg base 3 "are_labels" (spLabels K) [])
    (K_are_rows : C8.Cal P w K mg base 4 "are_rows" (spRowsOk K) []) (K__covered : C8.Met P w K mg base 6 CS "_covered" (spCovered K CC CS) []) : C8.Mak P w K mg base 7 "States" CS (spStates K CC CS) [] := by
  refine C8.mak0 M T.g_States F b .nil sc_States_init (fun vs H Q E h => ?_) (fun cdv A outer s H vs Q E hr h => ?_)
  · obtain ⟨H0, x, dx, nt, rt, ns, R, rfl, _⟩ := h
    rfl
  · obtain ⟨H0, x, dx, nt, rt, ns, R, rfl, nx, S0, hx, hnt, hN, hR, h300, hT, k⟩ := h
    refine ⟨_, (pss_cons (ps_if (pt_not (pt_val (C8.pe_c K_are_labels hr (by decide) (by rfl) (pa_cons (pv 1) pa_nil)))) pss_never pss_nil)
    (pss_cons (ps_fld (pv 0) (pe_callTy Tf.call_tupleF (by rfl) T.z_tuple (by decide +kernel) (pa_cons (pe_callBK (Sk.cr_sortedStr hr.units) (by rfl) T.z_sorted (by decide +kernel) (pa_cons (pv 1) pa_nil) (pk_cons (pe_bltn (v := .ty "str") (by rfl) T.z_str (by decide +kernel) rfl) pk_nil)) pa_nil)) rfl)
    (pss_one (ps_if (pt_val (pe_callB call_isi (by rfl) T.z_isinstance (by decide +kernel) (pa_cons (pv 2) (pa_cons (pe_glob (v := .ref CC) (by rfl) T.g_Cover rfl) pa_nil)))) (pss_one (ps_fld (pv 0) (pv 2) rfl)) (pss_one (ps_if (pt_val (C8.pe_c K_are_rows hr (by decide) (by rfl) (pa_cons (pv 2) (pa_cons (pv 1) pa_nil)))) (pss_one (ps_fld (pv 0) (C8.pe_mt K__covered hr (by decide) (pv 0) (pa_cons (pv 2) pa_nil)) rfl)) pss_never)))))), ?_⟩
    refine ⟨_, rfl, nt, ns, rfl, Same.seqT S0 hnt, by have := hN.few; omega, hN.len, hN.lab, hN.nd, fun H1 S1 => ⟨_, rfl, iteF ?_⟩⟩
    have S01 := S0.trans S1
    refine ⟨_, rfl, nt, ns, rfl, rfl, Same.seqT S01 hnt, fun ys p hperm hpw np => ⟨p, _, rfl, SqL.of upd_same, fun tn ot ntn ec ed => ?_⟩⟩
    have Sp := S01.trans (Same.new (o := HO.lst (ys.map V.str)) np)
    have Stn := Sp.trans (Same.new (o := HO.frz ot (HO.tup (ys.map V.str))) ntn)
    have hx1 := S1 _ _ hx
    have npx : x ≠ p := fun e => by rw [e, np] at hx1; cases hx1
    have hx2 : upd H1 p (HO.lst (ys.map V.str)) x = some (.ins CS dx []) := by rw [upd_ne npx]; exact hx1
    have ntx : x ≠ tn := fun e => by rw [e, ntn] at hx2; cases hx2
    have hx3 : upd (upd H1 p (HO.lst (ys.map V.str))) tn (HO.frz ot (HO.tup (ys.map V.str))) x = some (.ins CS dx []) := by rw [upd_ne ntx]; exact hx2
    have htn : Tf.TupAt (upd (upd H1 p (HO.lst (ys.map V.str))) tn (HO.frz ot (HO.tup (ys.map V.str)))) tn (ys.map V.str) := ⟨ot, upd_same, ec, ed⟩
    generalize upd (upd H1 p (HO.lst (ys.map V.str))) tn (HO.frz ot (HO.tup (ys.map V.str))) = H2 at Stn hx3 htn
    refine ⟨_, rfl, x, CS, dx, _, rfl, hx3, T.cS, T.nS.1, by decide, ?_⟩
    have S2 : Same H0 (upd H2 x (HO.ins CS dx (putF "names" (V.ref tn) []))) := Same.mut Stn nx
    have htn2 : Tf.TupAt (upd H2 x (HO.ins CS dx (putF "names" (V.ref tn) []))) tn (ys.map V.str) := by
      obtain ⟨o, h1, h2⟩ := htn
      have ne : tn ≠ x := fun e => by rw [e, hx3] at h1; cases h1
      exact ⟨o, by rw [upd_ne ne]; exact h1, h2⟩
    have hx4 : upd H2 x (HO.ins CS dx (putF "names" (V.ref tn) [])) x = some (.ins CS dx [("names", V.ref tn)]) := upd_same
    generalize upd H2 x (HO.ins CS dx (putF "names" (V.ref tn) [])) = H3 at S2 htn2 hx4 ⊢
    have hR3 := hR.mono S2
    obtain ⟨rs, hr0, _⟩ := id hR3
    refine ⟨_, rfl, _, _, _, _, false, rfl, .own CC, tyT hr0, iT, _, rfl, iteF ?_⟩
    refine ⟨_, rfl, _, rfl, rt, nt, ns, R, rfl, hR3, Same.seqT S2 hnt, hT, fun H4 S4 => ⟨_, rfl, iteT ?_⟩⟩
    have S24 := S2.trans S4
    refine ⟨_, rfl, x, dx, _, rfl, S4 _ _ hx4, rfl, _, rfl, x, dx, tn, rt, _, ys, R, rfl, S4 _ _ hx4, rfl, rfl, htn2.mono S4, hR.mono S24, h300, fun L hL => ⟨(hT L hL).1, fun q hq => terms_perm ((hT L hL).2 q hq) hperm⟩, (hN.perm hperm).few, fun c ds H5 S5 hC hcov hds => ?_⟩
    have hx5 := S5 _ _ (S4 _ _ hx4)
    refine ⟨_, rfl, x, CS, dx, _, rfl, hx5, T.cS, T.nS.2, (show 1 < 1000 by decide), ?_⟩
    have ne1 : ∀ (a : Addr) (u : HO), H5 a = some u → (∀ fs, u ≠ .ins CS dx fs) → a ≠ x := fun a u e h z => by
      rw [z, hx5] at e
      cases e
      exact h _ rfl
    have kt : KeepT K H5 (upd H5 x (HO.ins CS dx (putF "_cover" (V.ref c) [("names", V.ref tn)]))) := fun a xs h => by
      rcases h with (h | ⟨o, h⟩) | h
      · exact .inl (.inl (by rw [upd_ne (ne1 a _ h fun _ z => by cases z)]; exact h))
      · exact .inl (.inr ⟨o, by rw [upd_ne (ne1 a _ h fun _ z => by cases z)]; exact h⟩)
      · exact .inr h
    refine k ys ds _ hperm hpw (Same.mut (S24.trans S5) nx) ⟨dx, tn, c, upd_same, ?_, ?_⟩ hcov hds
    · obtain ⟨o, h1, h2⟩ := htn2.mono (S4.trans S5)
      exact ⟨o, by rw [upd_ne (ne1 tn _ h1 fun _ z => by cases z)]; exact h1, h2⟩
    · obtain ⟨dc, p5, ps, h1, h2, h3⟩ := hC
      have nc : c ≠ x := fun e => by
        rw [e, hx5] at h1
        injection h1 with h1
        injection h1 with _ _ h1
        injection h1 with h1 _
        injection h1 with h1 _
        exact absurd h1 (by decide)
      exact ⟨dc, p5, ps, by rw [upd_ne nc]; exact h1, kt _ _ h2, h3.kt kt⟩
end
end K9

namespace K9
open PySem L2 Bx
/-- a property of the class at C -/
structure Prp (P : Program) (w : World) (K : PySem.W.Frag) (mg : Str → Option Value) (base : Heap) (k : Nat) (C : Addr) (f : Str) (sp : Sp) : Prop where
  ex : ∃ (p g : Addr) (fd : FuncData) (ps : List Str), Cls K C ∧ PropOf K C f p g ∧ FnOk P w K mg base C8.CX0 k g fd ps sp ∧ Binds K fd ps []
theorem prp0 {P : Program} {w : World} {K : PySem.W.Frag} {mg : Str → Option Value} {base : Heap} {m f qual : Str} {C p g : Addr} {fd : FuncData} {st : Stmt} {N ps : List Str} {k : Nat} {sp : Sp} (c : Cls K C) (pr : PropOf K C f p g) (F : C8.Fun K m qual st g fd) (b : Binds K fd ps []) (S : FnScope N ps (C8.fnScope st)) (len : ∀ vs H Q E, sp vs H Q E → vs.length = ps.length)
    (hbody : ∀ (cdv : Value) (A : Around) (outer : List Env) (s : Shared) (H : Hp) (vs : List V) (Q : VK) (E : XK), Room k (A.deeper (PyProof.Rows.envOfC qual (C8.fnScope st) s.heap.objs.size g cdv)) → sp vs H Q E →
      ∃ t, PSs (cxOf C8.CX0 P w K mg base N qual (C8.fnScope st) g cdv A outer s H E).nox (C8.fnBody st) t ∧ t { nx := fun _ H' => Q .non H', rt := Q } (L2.start N vs) H) : Prp P w K mg base (k + 1) C f sp :=
  ⟨p, g, fd, ps, c, pr, C8.fn0 F S len hbody, b⟩
theorem pe_prp {X : Cx} {k j : Nat} {C : Addr} {f : Str} {sp : Sp} {e : Expr} {pos : Pos} {ta : TE} (c : Prp X.prog X.w X.K X.mg X.base k C f sp) (hr : Room j X.A) (hk : k + 1 ≤ j) (he : PE X e ta) (hab : attributeBase e f X.env (eval e X.env) = eval e X.env) : PE X (.Attribute e f pos) (tProp C sp [] C8.E0 ta) := by
  obtain ⟨p, g, fd, ps, cl, pr, F, b⟩ := c.ex
  exact pe_prop he cl pr F (hr.mono hk) b .nil C8.pass0 hab
abbrev cs_rows : Scope := match C8.fnBody s_States_rows with
  | [_, _, .Return (some (.Call _ [e] _ _)) _] => reSc (C8.fnScope s_States_rows) (compSc e)
  | _ => C8.fnScope s_States_rows
section
variable {P : Program} {w : World} {K : PySem.W.Frag} {mg : Str → Option Value} {base : Heap} {CC CS aB : Addr}
theorem lits_len (d : Zn.Z) {m : Nat} (hm : m ≤ 20) : (Zn.lits d m).length ≤ 800 := by
  unfold Zn.lits
  rw [List.length_append]
  have h1 := rings_len d hm hm
  have h2 := rests_len d hm (Zn.firsts d m).length
  rw [List.take_length] at h2
  omega
/-- the rows of zones, as texts -/
def rowsS (ys : List Str) (ds : List Zn.Z) : List (List (Str × Str × Int)) := ds.map fun d => (Zn.lits d (ys.length + 1)).map (litS ys)
def spRowsP (K : PySem.W.Frag) (CC CS : Addr) : Sp := fun vs H Q _ => ∃ (o : Addr) (ys : List Str) (ds : List Zn.Z), vs = [.ref o] ∧ StsAt K CC CS H o ys ds ∧ (∀ d ∈ ds, Zn.Closed (ys.length + 1) d) ∧ ys.length ≤ 19 ∧ ds.length ≤ 300 ∧
  ∀ p H', Same H H' → RowsAt K H' p (rowsS ys ds) → Q (.ref p) H'
theorem ok_States_rows {f pa : Addr} {fd : FuncData} (pr : PropOf K CS "rows" pa f) (F : C8.Fun K "rows" "States.rows" s_States_rows f fd) (b : Binds K fd ["self"] []) (T : Txt K mg CC CS aB) (K_rows_of : C8.Cal P w K mg base 4 "rows_of" (spRowsOf K) []) : Prp P w K mg base 5 CS "rows" (spRowsP K CC CS) := by
  refine prp0 T.cS pr F b sc_States_rows (fun vs H Q E h => ?_) (fun cdv A outer s H vs Q E hr h => ?_)
  · obtain ⟨o, ys, ds, rfl, _⟩ := h
    rfl
  · obtain ⟨o, ys, ds, rfl, ho, hC, h19, h300, k⟩ := h
    obtain ⟨dx, tn, c, h1, h2, dc, pp, ps, h3, h4, h5⟩ := id ho
    refine ⟨_, (pss_cons (ps_set (i := 1) sc_States_rows.nd rfl (Or.inr rfl) (pe_op op_catU (pe_tup (pa_cons pe_str pa_nil)) (pe_fld (pv 0) rfl)))
    (pss_cons (ps_set (i := 2) sc_States_rows.nd rfl (Or.inl rfl) (C8.pe_c K_rows_of hr (by decide) (by rfl) (pa_cons (pe_fld (pe_fld (pv 0) rfl) rfl) pa_nil)))
    (pss_one (ps_ret (pe_callTy call_tuple_of (by rfl) T.z_tuple (by decide +kernel) (pa_cons (pe_lc (own := [("row", 3)]) (g := gName 3) (tt := tYes) rfl sc_States_rows.nd (pi_list (pv 2)) (blkOk_by (own := [("row", 3)]) (N := N_States_rows) (sc := C8.fnScope s_States_rows) (by decide +kernel)) (fun _ _ _ _ _ => (pg_name (i := 3) sc_States_rows.nd rfl (Or.inl rfl))) (fun _ _ _ _ _ => pts_nil) (fun _ _ _ _ _ => (pe_callTy (tupOfK K) (by rfl) T.z_tuple (by decide +kernel) (pa_cons (pe_lc (own := [("i", 4), ("j", 5), ("number", 6)]) (g := _) (tt := tYes) rfl sc_States_rows.nd (piTK K (pv 3)) (blkOk_by (own := [("i", 4), ("j", 5), ("number", 6)]) (N := N_States_rows) (sc := cs_rows) (by decide +kernel)) (fun _ _ _ _ _ => (pgTK K 3 (pgs_cons (pg_name (i := 4) sc_States_rows.nd rfl (Or.inl rfl)) (pgs_cons (pg_name (i := 5) sc_States_rows.nd rfl (Or.inl rfl)) (pgs_cons (pg_name (i := 6) sc_States_rows.nd rfl (Or.inl rfl)) pgs_nil))))) (fun _ _ _ _ _ => pts_nil) (fun _ _ _ _ _ => (pe_tup (pa_cons (pe_ix (ixTK K) (pv 1) (pv 4) (fun _ _ => rfl)) (pa_cons (pe_ix (ixTK K) (pv 1) (pv 5) (fun _ _ => rfl)) (pa_cons (pv 6) pa_nil)))))) pa_nil)))) pa_nil)))))), ?_⟩
    refine ⟨(by show 1 ≤ sizeLine; decide), fun e ne => ⟨_, rfl, o, CS, dx, [("names", .ref tn), ("_cover", .ref c)], .ref tn, rfl, ?_, T.cS, T.nS.1, rfl, e, tn, [V.str ""], ys.map V.str, rfl, rfl, SqT.of upd_same, ?_, ?_, fun tt H1 S1 htt => ?_⟩⟩
    · exact (Same.new ne) _ _ h1
    · exact Same.seqT (Same.new ne) h2.sq
    · rw [List.length_map]
      exact sz (by simp; omega)
    have S01 := (Same.new ne).trans S1
    refine ⟨_, rfl, o, CS, dx, _, .ref c, rfl, S01 _ _ h1, T.cS, T.nS.2, rfl, c, CC, dc, _, .ref pp, rfl, S01 _ _ h3, T.cC, T.nC, rfl, pp, ps, _, ds, rfl, Same.seqT S01 h4, h5.mono S01, hC, by omega, h300, fun l rs H2 S2 nl hl hZ => ?_⟩
    have htt2 := Same.seqT S2 htt
    have S02 := S01.trans S2
    refine ⟨_, rfl, l, rfl, ⟨_, SqL.of hl⟩, fun D nD => lc_list (xs := rs.map V.ref) (fun j H' => ∃ ts : List Addr, Same H2 H' ∧ H' D = some (.lst (ts.map V.ref)) ∧ RowsIn K H' ts ((ds.take j).map fun d => (Zn.lits d (ys.length + 1)).map (litS ys))) ⟨[], Same.new nD, upd_same, ⟨rfl, fun j q h => (by cases h)⟩⟩ (fun j H' _ h => ?_) ?_ ?_⟩
    · obtain ⟨_, S, _⟩ := h
      exact S.seq (SqL.of hl)
    · rintro i x H3 hx ⟨ts, S3, hD, hR⟩
      rw [List.getElem?_map] at hx
      obtain ⟨r, hr1, rfl⟩ := Option.map_eq_some_iff.mp hx
      have hi : i < ds.length := by
        have h := (List.getElem?_eq_some_iff.mp hr1).1
        rw [hZ.1, List.length_map] at h
        exact h
      have hdi := List.getElem?_eq_getElem hi
      obtain ⟨r', us, g1, g2, g3⟩ := hZ.2 i _ (by rw [List.getElem?_map, hdi]; rfl)
      rw [hr1] at g1
      cases g1
      have hok := Zn.lits_ok (hC _ (List.getElem_mem hi))
      have g3 : LitsZ K H2 us (Zn.lits ds[i] (ys.length + 1)) := g3
      have hlen := lits_len ds[i] (m := ys.length + 1) (by omega)
      generalize hLs : Zn.lits ds[i] (ys.length + 1) = Ls at g3 hok hlen
      refine ⟨rfl, ?_⟩
      refine ⟨_, rfl, r, rfl, ⟨_, Same.seqT S3 g2⟩, fun D2 nD2 => lc_tup (xs := us.map V.ref) (fun j H' => ∃ vs : List Addr, Same H3 H' ∧ H' D2 = some (.lst (vs.map V.ref)) ∧ LitsAt K H' vs ((Ls.take j).map (litS ys))) ⟨[], Same.new nD2, upd_same, ⟨rfl, fun j q h => (by cases h)⟩⟩ (fun j H' _ h => ?_) ?_ ?_⟩
      · obtain ⟨_, S, _⟩ := h
        exact Same.seqT (S3.trans S) g2
      · rintro j x H4 hx4 ⟨vs, S4, hD2, hV⟩
        rw [List.getElem?_map] at hx4
        obtain ⟨t, ht, rfl⟩ := Option.map_eq_some_iff.mp hx4
        have hj : j < Ls.length := by
          have h := (List.getElem?_eq_some_iff.mp ht).1
          rw [g3.1] at h
          exact h
        have hqj := List.getElem?_eq_getElem hj
        obtain ⟨t', z1, z2⟩ := g3.2 j _ hqj
        rw [ht] at z1
        cases z1
        obtain ⟨o1, o2⟩ := hok _ (List.getElem_mem hj)
        generalize Ls[j] = q at hqj z2 o1 o2
        have S34 := S3.trans S4
        have nmV : ∀ n, n < ys.length + 1 → ([V.str ""] ++ ys.map V.str)[n]? = some (.str (nm ys n)) := fun n hn => by
          have := nm_at hn
          have e : [V.str ""] ++ ys.map V.str = ((("" : Str)) :: ys).map V.str := rfl
          rw [e, List.getElem?_map, this]
          rfl
        refine ⟨t, _, rfl, Same.seqT S34 z2, rfl, _, _, rfl, _, _, rfl, _, _, rfl, rfl, rfl, ?_⟩
        refine ⟨_, rfl, _, rfl, tt, _, _, _, rfl, rfl, Same.seqT S34 htt2, atI_nat (nmV _ o1), ?_⟩
        refine ⟨_, rfl, _, rfl, tt, _, _, _, rfl, rfl, Same.seqT S34 htt2, atI_nat (nmV _ o2), ?_⟩
        refine ⟨_, rfl, (by show 3 ≤ sizeLine; decide), fun a na => ?_⟩
        have Sa := S4.trans (Same.new (o := HO.tup [.str (nm ys q.1), .str (nm ys q.2.1), .int q.2.2]) na)
        have hDa := (Same.new (o := HO.tup [.str (nm ys q.1), .str (nm ys q.2.1), .int q.2.2]) na) _ _ hD2
        refine ⟨_, hDa, ?_, vs ++ [a], Same.mut Sa nD2, by rw [upd_same, List.map_append]; rfl, ?_⟩
        · rw [List.length_map, hV.1, List.length_map, List.length_take]
          exact szs (by omega)
        · rw [take_snoc hqj, List.map_append]
          exact ((hV.mono (Same.new na)).but hDa But.upd).snoc (butT hDa But.upd (SqT.of upd_same))
      · rintro H4 ⟨vs, S4, hD2, hV⟩
        rw [List.length_map, g3.1, List.take_length] at hV
        refine ⟨D2, _, rfl, .inl ⟨SqL.of hD2, fun p np => ?_⟩⟩
        have S5 := S4.trans (Same.new (o := HO.tup (vs.map V.ref)) np)
        have hDp := S5 _ _ hD
        refine ⟨_, hDp, szs (by rw [List.length_map, hR.1, List.length_map, List.length_take]; omega), ts ++ [p], Same.mut (S3.trans S5) nD, by rw [upd_same, List.map_append]; rfl, ?_⟩
        rw [take_snoc hdi, List.map_append]
        show RowsIn K _ _ (_ ++ [(Zn.lits ds[i] (ys.length + 1)).map (litS ys)])
        rw [hLs]
        exact ((hR.mono S5).but hDp But.upd).snoc ⟨vs, butT hDp But.upd (SqT.of upd_same), (hV.mono (Same.new np)).but hDp But.upd⟩
    · rintro H3 ⟨ts, S3, hD, hR⟩
      rw [List.length_map, hZ.1, List.length_map, List.take_length] at hR
      refine ⟨D, _, rfl, .inl ⟨SqL.of hD, fun p np => ?_⟩⟩
      have Sp := Same.new (o := HO.tup (ts.map V.ref)) np
      exact k p _ (S02.trans (S3.trans Sp)) ⟨ts, SqT.of upd_same, hR.mono Sp⟩
end
end K9

namespace K9
open PySem L2 Bx
section
variable {P : Program} {w : World} {K : PySem.W.Frag} {mg : Str → Option Value} {base : Heap} {CC CS aB : Addr}
/-- state in set -/
def spContains (K : PySem.W.Frag) (CC CS : Addr) : Sp := fun vs H Q _ => ∃ (o d : Addr) (ys ks : List Str) (f : Str → Int) (ds : List Zn.Z), vs = [.ref o, .ref d] ∧ StsAt K CC CS H o ys ds ∧ H d = some (.dK (hk ks f)) ∧ ks.length = ys.length ∧ (∀ x ∈ ys, x ∈ ks) ∧ (∀ x ∈ ys, x ≠ "") ∧ ys.length ≤ 19 ∧ ds.length ≤ 300 ∧
  ∀ (b : Bool) H', Same H H' → (b = true ↔ ∃ z ∈ ds, Zn.Sat (ys.length + 1) z (xOf ys f)) → Q (.bl b) H'
theorem ok_States_contains {f : Addr} {fd : FuncData} (me : Meth K CS "__contains__" f) (F : C8.Fun K "__contains__" "States.__contains__" s_States_contains f fd) (b : Binds K fd ["self", "state"] []) (T : Txt K mg CC CS aB) (K_are_numbers : C8.Cal P w K mg base 2 "are_numbers" (spNumbers K) []) (K_has_state : C8.Cal P w K mg base 2 "has_state" (spHasState K) []) :
    C8.Met P w K mg base 3 CS "__contains__" (spContains K CC CS) [] := by
  refine C8.met0 T.cS me F b sc_States_contains (fun vs H Q E h => ?_) (fun cdv A outer s H vs Q E hr h => ?_)
  · obtain ⟨o, d, ys, ks, f, ds, rfl, _⟩ := h
    rfl
  · obtain ⟨o, d, ys, ks, f, ds, rfl, ho, hd, hl, hin, hne, h19, h300, k⟩ := h
    have hu := hu_of hr
    obtain ⟨dx, tn, c, h1, h2, dc, pp, ps, h3, h4, h5⟩ := id ho
    refine ⟨_, (pss_cons (ps_if (pt_not (pt_val (C8.pe_c K_are_numbers hr (by decide) (by rfl) (pa_cons (pv 1) (pa_cons (pe_fld (pv 0) rfl) pa_nil))))) (pss_one (ps_ret pe_bl)) pss_nil)
    (pss_cons (ps_set (i := 2) sc_States_contains.nd rfl (Or.inr rfl) (pe_op op_catS (pe_lst (pa_cons pe_int pa_nil)) (pe_lc (own := [("name", 3)]) (g := gName 3) (tt := tYes) rfl sc_States_contains.nd (pi_tup (pe_fld (pv 0) rfl)) (blkOk_by (own := [("name", 3)]) (N := N_States_contains) (sc := C8.fnScope s_States_contains) (by decide +kernel)) (fun _ _ _ _ _ => (pg_name (i := 3) sc_States_contains.nd rfl (Or.inl rfl))) (fun _ _ _ _ _ => pts_nil) (fun _ _ _ _ _ => (pe_dget hu (pv 1) (pv 3) (fun _ _ => rfl))))))
    (pss_one (ps_ret (pe_callB (cr_any rfl) (by rfl) T.z_any (by decide +kernel) (pa_cons (pe_lc (own := [("part", 4)]) (g := gName 4) (tt := tYes) rfl sc_States_contains.nd (pi_tup (pe_fld (pe_fld (pv 0) rfl) rfl)) (blkOk_by (own := [("part", 4)]) (N := N_States_contains) (sc := C8.fnScope s_States_contains) (by decide +kernel)) (fun _ _ _ _ _ => (pg_name (i := 4) sc_States_contains.nd rfl (Or.inl rfl))) (fun _ _ _ _ _ => pts_nil) (fun _ _ _ _ _ => (C8.pe_c K_has_state hr (by decide) (by rfl) (pa_cons (pv 4) (pa_cons (pv 2) pa_nil))))) pa_nil)))))), ?_⟩
    refine ⟨_, rfl, _, rfl, o, CS, dx, [("names", .ref tn), ("_cover", .ref c)], .ref tn, rfl, h1, T.cS, T.nS.1, rfl, d, tn, ks, ys, f, rfl, hd, h2.sq, hl, by omega, hin, fun H1 S1 => ⟨_, rfl, iteF ?_⟩⟩
    refine ⟨sz (by simp), fun k0 nk0 => ?_⟩
    have Sk := S1.trans (Same.new (o := HO.lst [V.int 0]) nk0)
    refine ⟨_, rfl, o, CS, dx, [("names", .ref tn), ("_cover", .ref c)], .ref tn, rfl, Sk _ _ h1, T.cS, T.nS.1, rfl, tn, rfl, ⟨_, (h2.mono Sk).sq⟩, fun D nD => lc_tup (xs := ys.map V.str) (fun j H' => Same (upd H1 k0 (HO.lst [V.int 0])) H' ∧ H' D = some (.lst ((ys.take j).map fun t => V.int (f t)))) ⟨Same.new nD, upd_same⟩ (fun j H' _ h => (h2.mono (Sk.trans h.1)).sq) ?_ ?_⟩
    · rintro j x H2 hx ⟨S2, hD⟩
      rw [List.getElem?_map] at hx
      obtain ⟨t, ht, rfl⟩ := Option.map_eq_some_iff.mp hx
      have hj := (List.getElem?_eq_some_iff.mp ht).1
      refine ⟨rfl, ?_⟩
      refine ⟨_, rfl, _, rfl, d, .int (f t), rfl, dget_hk ((Sk.trans S2) _ _ hd) (hin t (List.mem_of_getElem? ht)), _, hD, szs (by rw [List.length_map, List.length_take]; omega), Same.mut S2 nD, ?_⟩
      rw [upd_same, take_snoc ht, List.map_append]
      rfl
    rintro H2 ⟨S2, hD⟩
    rw [List.length_map, List.take_length] at hD
    have Sk2 := Sk.trans S2
    have hk0 := S2 _ _ (show upd H1 k0 (HO.lst [V.int 0]) k0 = _ from upd_same)
    have eN : [V.int 0] ++ (ys.map fun t => V.int (f t)) = numsV (xOf ys f) (ys.length + 1) := by
      refine List.ext_getElem? fun i => ?_
      by_cases c : i < ys.length + 1
      · rw [numsV_at c]
        have hm := nm_at c
        cases i with
        | zero => rfl
        | succ i =>
          rw [List.getElem?_cons_succ] at hm
          show (ys.map fun t => V.int (f t))[i]? = _
          rw [List.getElem?_map, hm]
          have hv : xOf ys f (i + 1) = f (nm ys (i + 1)) := if_neg (hne _ (List.mem_of_getElem? hm))
          rw [hv]
          rfl
      · rw [List.getElem?_eq_none (by simp; omega), List.getElem?_eq_none (by rw [numsV_len]; omega)]
    refine ⟨k0, D, _, _, rfl, rfl, SqL.of hk0, SqL.of hD, sz (by simp; omega), fun l nl => ?_⟩
    rw [eN]
    have Sl := Sk2.trans (Same.new (o := HO.lst (numsV (xOf ys f) (ys.length + 1))) nl)
    have hlx : (upd H2 l (HO.lst (numsV (xOf ys f) (ys.length + 1)))) l = some (.lst (numsV (xOf ys f) (ys.length + 1))) := upd_same
    generalize upd H2 l (HO.lst (numsV (xOf ys f) (ys.length + 1))) = H3 at Sl hlx ⊢
    refine ⟨_, rfl, o, CS, dx, [("names", .ref tn), ("_cover", .ref c)], .ref c, rfl, Sl _ _ h1, T.cS, T.nS.2, rfl, c, CC, dc, _, .ref pp, rfl, Sl _ _ h3, T.cC, T.nC, rfl, pp, rfl, ⟨_, Same.seqT Sl h4⟩, fun D2 nD2 => lc_tup (xs := ps.map V.ref) (fun j H' => ∃ bs : List Bool, Same H3 H' ∧ H' D2 = some (.lst (bs.map V.bl)) ∧ bs.length = j ∧ (bs.any id = true ↔ ∃ z ∈ ds.take j, Zn.Sat (ys.length + 1) z (xOf ys f))) ⟨[], Same.new nD2, upd_same, rfl, by simp⟩ (fun j H' _ h => ?_) ?_ ?_⟩
    · obtain ⟨_, S, _⟩ := h
      exact Same.seqT (Sl.trans S) h4
    · rintro i x H4 hx ⟨bs, S4, hD2, hbl, hb⟩
      rw [List.getElem?_map] at hx
      obtain ⟨p, hp, rfl⟩ := Option.map_eq_some_iff.mp hx
      have hi : i < ds.length := by
        rw [← h5.1]
        exact (List.getElem?_eq_some_iff.mp hp).1
      have hdi := List.getElem?_eq_getElem hi
      obtain ⟨p', g1, g2⟩ := h5.2 i _ hdi
      rw [hp] at g1
      cases g1
      refine ⟨rfl, ?_⟩
      refine ⟨_, rfl, _, rfl, p, l, _, ds[i], xOf ys f, rfl, g2.mono (Sl.trans S4), SqL.of (S4 _ _ hlx), fun b H5 S5 hbb => ?_⟩
      have hD5 := S5 _ _ hD2
      refine ⟨_, hD5, szs (by rw [List.length_map]; omega), bs ++ [b], Same.mut (S4.trans S5) nD2, by rw [upd_same, List.map_append]; rfl, by simp [hbl], ?_⟩
      rw [take_snoc hdi, List.any_append, Bool.or_eq_true, hb]
      constructor
      · rintro (⟨z, hz, hs⟩ | hz)
        · exact ⟨z, List.mem_append_left _ hz, hs⟩
        · exact ⟨ds[i], List.mem_append_right _ (by simp), hbb.mp (by simpa using hz)⟩
      · rintro ⟨z, hz, hs⟩
        rcases List.mem_append.mp hz with h | h
        · exact .inl ⟨z, h, hs⟩
        · rw [List.mem_singleton.mp h] at hs
          exact .inr (by simpa using hbb.mpr hs)
    · rintro H4 ⟨bs, S4, hD2, hbl, hb⟩
      rw [List.length_map, h5.1, List.take_length] at hb
      exact ⟨D2, bs, rfl, SqL.of hD2, k _ _ (Sl.trans S4) hb⟩
/-- is there no state -/
def spEmpty (K : PySem.W.Frag) (CC CS : Addr) : Sp := fun vs H Q _ => ∃ (o : Addr) (ys : List Str) (ds : List Zn.Z), vs = [.ref o] ∧ StsAt K CC CS H o ys ds ∧ Q (.bl (decide (ds = []))) H
theorem ok_States_is_empty {f : Addr} {fd : FuncData} (me : Meth K CS "is_empty" f) (F : C8.Fun K "is_empty" "States.is_empty" s_States_is_empty f fd) (b : Binds K fd ["self"] []) (T : Txt K mg CC CS aB) : C8.Met P w K mg base 1 CS "is_empty" (spEmpty K CC CS) [] := by
  refine C8.met0 T.cS me F b sc_States_is_empty (fun vs H Q E h => ?_) (fun cdv A outer s H vs Q E hr h => ?_)
  · obtain ⟨o, ys, ds, rfl, _⟩ := h
    rfl
  · obtain ⟨o, ys, ds, rfl, ⟨dx, tn, c, h1, h2, dc, pp, ps, h3, h4, h5⟩, k⟩ := h
    refine ⟨_, (pss_one (ps_ret (pe_notT (pe_fld (pe_fld (pv 0) rfl) rfl)))), ?_⟩
    refine ⟨_, rfl, o, CS, dx, [("names", .ref tn), ("_cover", .ref c)], .ref c, rfl, h1, T.cS, T.nS.2, rfl, c, CC, dc, _, .ref pp, rfl, h3, T.cC, T.nC, rfl, ?_⟩
    refine ⟨!(ps.map V.ref).isEmpty, .inr (.inl ⟨_, h4, rfl⟩), ?_⟩
    have e : (!(!(ps.map V.ref).isEmpty)) = decide (ds = []) := by
      rw [Bool.not_not]
      have hl := h5.1
      cases ds with
      | nil => cases ps with
        | nil => rfl
        | cons a r => simp at hl
      | cons d r => cases ps with
        | nil => simp at hl
        | cons a r => rfl
    rw [e]
    exact k
theorem dc_enumT {K : PySem.W.Frag} {a : Addr} {xs : List V} {g : TG} {tt : TT} {tk tv : TE} {vs : List Nat} {σ : L2.St} {H1 : Hp} {D : Addr} {Qd : Hp → Prop} (Pv : Nat → Hp → Prop) (h0 : Pv 0 (upd H1 D (.dK []))) (hl : ∀ i H, Pv i H → SqT K H a xs)
    (hs : ∀ (i : Nat) (x : V) (T : Addr) (H : Hp), xs[i]? = some x → Pv i H → H T = none → g (.ref T) (wipe σ vs) (upd H T (.tup [.int (i : Nat), x])) fun σ2 H2 => wipe σ2 vs = wipe σ vs ∧ tt σ2 H2 fun b H3 =>
      if b = true then tk σ2 H3 fun y H4 => tv σ2 H4 fun z H5 => ∃ kvs k, y = kV k ∧ H5 D = some (.dK kvs) ∧ kvs.length < sizeLine ∧ Pv (i + 1) (upd H5 D (.dK (putK kvs k z))) else Pv (i + 1) H3) (hd : ∀ H, Pv xs.length H → Qd H) :
    ∃ W : Nat → Nat → Hp → Prop, (∃ m, W 0 m (upd H1 D (.dK []))) ∧ ∀ i m H, W i m H →
      ((En.Itu K a).stop i H ∧ Qd H) ∨ ((En.Itu K a).go i H ∧ ∃ Nx : Hp → Prop, (∀ H', Nx H' → ∃ m', m' < m ∧ W (i + 1) m' H') ∧ ∀ x H', (En.Itu K a).yld i H x H' → g x (wipe σ vs) H' fun σ2 H2 => wipe σ2 vs = wipe σ vs ∧ tt σ2 H2 fun b H3 =>
        if b = true then tk σ2 H3 fun y H4 => tv σ2 H4 fun z H5 => ∃ kvs k, y = kV k ∧ H5 D = some (.dK kvs) ∧ kvs.length < sizeLine ∧ Nx (upd H5 D (.dK (putK kvs k z))) else Nx H3) := by
  refine ⟨fun i m H => m = xs.length - i ∧ i ≤ xs.length ∧ Pv i H, ⟨xs.length, by simp, Nat.zero_le _, h0⟩, ?_⟩
  rintro i m H ⟨rfl, hi, p⟩
  have q := hl i H p
  by_cases hlt : i < xs.length
  · refine .inr ⟨⟨xs, xs[i], q, by simp [hlt]⟩, Pv (i + 1), fun H' p' => ⟨xs.length - (i + 1), by omega, rfl, hlt, p'⟩, fun v H' y => ?_⟩
    obtain ⟨T, x', rfl, hT, rfl, f1⟩ := y
    exact hs i x' T H (f1 xs q) p hT
  · have e : i = xs.length := by omega
    subst e
    exact .inl ⟨⟨xs, q, Nat.le_refl _⟩, hd H p⟩
/-- a state, or None -/
def spSome (K : PySem.W.Frag) (CC CS : Addr) : Sp := fun vs H Q _ => ∃ (o : Addr) (ys : List Str) (ds : List Zn.Z), vs = [.ref o] ∧ StsAt K CC CS H o ys ds ∧ (∀ d ∈ ds, Zn.Closed (ys.length + 1) d) ∧ ys.Nodup ∧ (∀ x ∈ ys, x ≠ "") ∧ ys.length ≤ 19 ∧
  (ds = [] → Q .non H) ∧ ∀ D f d H', Same H H' → d ∈ ds → H' D = some (.dK (hk ys f)) → Zn.Sat (ys.length + 1) d (xOf ys f) → Q (.ref D) H'
theorem ok_States_some {f : Addr} {fd : FuncData} (me : Meth K CS "some" f) (F : C8.Fun K "some" "States.some" s_States_some f fd) (b : Binds K fd ["self"] []) (T : Txt K mg CC CS aB) (K_is_empty : C8.Met P w K mg base 1 CS "is_empty" (spEmpty K CC CS) []) (K_point_of : C8.Cal P w K mg base 1 "point_of" (spPoint K) [])
    (K_free_zone : C8.Cal P w K mg base 2 "free_zone" (spFreeZone K) []) : C8.Met P w K mg base 4 CS "some" (spSome K CC CS) [] := by
  refine C8.met0 T.cS me F b sc_States_some (fun vs H Q E h => ?_) (fun cdv A outer s H vs Q E hr h => ?_)
  · obtain ⟨o, ys, ds, rfl, _⟩ := h
    rfl
  · obtain ⟨o, ys, ds, rfl, ho, hC, hnd, hne, h19, k1, k2⟩ := h
    obtain ⟨dx, tn, c, h1, h2, dc, pp, ps, h3, h4, h5⟩ := id ho
    refine ⟨_, (pss_cons (ps_if (pt_val (C8.pe_mt0 K_is_empty hr (by decide) (pv 0))) (pss_one (ps_ret pe_non)) pss_nil)
    (pss_cons (ps_set (i := 1) sc_States_some.nd rfl (Or.inr rfl) (C8.pe_c K_point_of hr (by decide) (by rfl) (pa_cons (C8.pe_c K_free_zone hr (by decide) (by rfl) (pa_cons (pe_ix ix_tup (pe_fld (pe_fld (pv 0) rfl) rfl) pe_int (fun _ _ => rfl)) pa_nil)) pa_nil)))
    (pss_one (ps_ret (pe_dc (own := [("at", 2), ("name", 3)]) rfl sc_States_some.nd (En.pi_enumT (by rfl) T.z_enumerate (pa_cons (pe_fld (pv 0) rfl) pa_nil)) (blkOk_by (own := [("at", 2), ("name", 3)]) (N := N_States_some) (sc := C8.fnScope s_States_some) (by decide +kernel)) (fun _ _ _ _ _ => (pgTK K 2 (pgs_cons (pg_name (i := 2) sc_States_some.nd rfl (Or.inl rfl)) (pgs_cons (pg_name (i := 3) sc_States_some.nd rfl (Or.inl rfl)) pgs_nil)))) (fun _ _ _ _ _ => pts_nil) (fun _ _ _ _ _ => (pv 3)) (fun _ _ _ _ _ => (pe_ix (ixLK K) (pv 1) (pe_op op_add pe_int (pv 2)) (fun _ _ => rfl)))))))), ?_⟩
    refine ⟨_, rfl, o, dx, _, rfl, h1, rfl, o, ys, ds, rfl, ho, _, rfl, ?_⟩
    cases ds with
    | nil => exact iteT (k1 rfl)
    | cons d r =>
      refine iteF ?_
      obtain ⟨p, g1, g2⟩ := h5.2 0 d rfl
      have gp : (ps.map V.ref)[0]? = some (.ref p) := by rw [List.getElem?_map, g1]; rfl
      have hCd := hC d List.mem_cons_self
      refine ⟨_, rfl, o, CS, dx, [("names", .ref tn), ("_cover", .ref c)], .ref c, rfl, h1, T.cS, T.nS.2, rfl, c, CC, dc, _, .ref pp, rfl, h3, T.cC, T.nC, rfl, pp, _, _, _, rfl, rfl, h4, atI_nat gp, p, ys.length + 1, d, rfl, g2, fun z H1 S1 hz => ⟨z, ys.length, d, rfl, hz, by omega, fun l H2 S2 nl hl => ?_⟩⟩
      have S12 := S1.trans S2
      refine ⟨_, rfl, o, CS, dx, [("names", .ref tn), ("_cover", .ref c)], .ref tn, rfl, S12 _ _ h1, T.cS, T.nS.1, rfl, tn, ys.map V.str, rfl, (h2.mono S12).sq, fun D nD => dc_enumT (xs := ys.map V.str) (fun j H' => ∃ f : Str → Int, Same H2 H' ∧ H' D = some (.dK (hk (ys.take j) f)) ∧ ∀ i t, i < j → ys[i]? = some t → f t = Zn.pt d ys.length (i + 1)) ⟨fun _ => 0, Same.new nD, upd_same, fun i t h => absurd h (Nat.not_lt_zero i)⟩ (fun j H' h => ?_) ?_ ?_⟩
      · obtain ⟨_, S, _⟩ := h
        exact (h2.mono (S12.trans S)).sq
      · rintro j x T' H3 hx ⟨f, S3, hD, hf⟩ nT
        rw [List.getElem?_map] at hx
        obtain ⟨t, ht, rfl⟩ := Option.map_eq_some_iff.mp hx
        have hj := (List.getElem?_eq_some_iff.mp ht).1
        have S3' := S3.trans (Same.new (o := HO.tup [.int (j : Nat), .str t]) nT)
        have hD' := (Same.new (o := HO.tup [.int (j : Nat), .str t]) nT) _ _ hD
        have ix : atI (numsV (Zn.pt d ys.length) (ys.length + 1)) (1 + (j : Int)) = some (.int (Zn.pt d ys.length (j + 1))) := by
          have e : 1 + (j : Int) = ((j + 1 : Nat) : Int) := by omega
          rw [e]
          exact atI_nat (numsV_at (by omega))
        have hno : t ∉ ys.take j := fun hm => by
          obtain ⟨i, hi⟩ := List.getElem?_of_mem hm
          rw [List.getElem?_take] at hi
          split at hi
          · rename_i hij
            have e1 := (List.getElem?_eq_some_iff.mp hi)
            have e2 := (List.getElem?_eq_some_iff.mp ht)
            have := (List.getElem_inj (h₀ := e1.1) (h₁ := e2.1) hnd).mp (by rw [e1.2, e2.2])
            omega
          · cases hi
        refine ⟨T', _, rfl, SqT.of upd_same, rfl, _, _, rfl, _, _, rfl, rfl, rfl, ?_⟩
        refine ⟨_, rfl, _, rfl, _, rfl, 1, (j : Int), rfl, rfl, l, _, _, _, rfl, rfl, SqL.of (S3' _ _ hl), ix, _, Sum.inr t, rfl, hD', szs (by rw [hk_len, List.length_take]; omega), Bf.put f t (Zn.pt d ys.length (j + 1)), Same.mut S3' nD, ?_, fun i u hi hu => ?_⟩
        · rw [upd_same, hk_new hno, take_snoc ht]
        · by_cases e : i = j
          · subst e
            rw [ht] at hu
            cases hu
            exact if_pos rfl
          · have ne : u ≠ t := fun z => by
              rw [z] at hu
              have e1 := (List.getElem?_eq_some_iff.mp hu)
              have e2 := (List.getElem?_eq_some_iff.mp ht)
              exact e ((List.getElem_inj (h₀ := e1.1) (h₁ := e2.1) hnd).mp (by rw [e1.2, e2.2]))
            exact (if_neg ne).trans (hf i u (by omega) hu)
      · rintro H3 ⟨f, S3, hD, hf⟩
        rw [List.length_map, List.take_length] at hD
        refine k2 D f d H3 (S12.trans S3) List.mem_cons_self hD fun i j c hi hj hc => ?_
        have ev : ∀ i, i < ys.length + 1 → xOf ys f i = Zn.pt d ys.length i := fun i hi => by
          have hm := nm_at hi
          cases i with
          | zero => rw [Zn.pt_zero]; rfl
          | succ i =>
            rw [List.getElem?_cons_succ] at hm
            have hv : xOf ys f (i + 1) = f (nm ys (i + 1)) := if_neg (hne _ (List.mem_of_getElem? hm))
            rw [hv]
            exact hf i _ (by simpa using (List.getElem?_eq_some_iff.mp hm).1) hm
        rw [ev i hi, ev j hj]
        exact (Zn.some_state hCd).1 i j c hi hj hc
end
end K9

namespace K9
open PySem L2 Bx
section
variable {P : Program} {w : World} {K : PySem.W.Frag} {mg : Str → Option Value} {base : Heap} {CC CS aB : Addr}
/-- the most that the zones let apart -/
def mostOk (ds : List Zn.Z) (i j : Nat) : Option Int → Prop
  | none => ∃ d ∈ ds, d i j = none
  | some n => (∀ d ∈ ds, ∃ c, d i j = some c ∧ c ≤ n) ∧ ∃ d ∈ ds, d i j = some n
def spMost (K : PySem.W.Frag) : Sp := fun vs H Q _ => ∃ (p : Addr) (ps : List Addr) (m i j : Nat) (ds : List Zn.Z), vs = [.ref p, .int (i : Nat), .int (j : Nat)] ∧ SqT K H p (ps.map V.ref) ∧ PartsIn K H m ps ds ∧ ds ≠ [] ∧ ds.length ≤ 300 ∧ i < m ∧ j < m ∧
  ∀ o H', Same H H' → mostOk ds i j o → Q (optV o) H'
theorem drop_pred {α : Type} {xs : List α} {k : Nat} {x : α} (h : xs[k]? = some x) : xs.drop k = x :: xs.drop (k + 1) := by
  obtain ⟨h1, h2⟩ := List.getElem?_eq_some_iff.mp h
  rw [List.drop_eq_getElem_cons h1, h2]
theorem ok_most_apart {f : Addr} {fd : FuncData} (F : C8.Def K mg "most_apart" s_most_apart f fd) (b : Binds K fd ["parts", "i", "j"] []) (T : Txt K mg CC CS aB) (K_opened : C8.Cal P w K mg base 1 "opened" (spOpened K) []) : C8.Cal P w K mg base 2 "most_apart" (spMost K) [] := by
  refine C8.cal0 F b .nil sc_most_apart (fun vs H Q E h => ?_) (fun cdv A outer s H vs Q E hr h => ?_)
  · obtain ⟨p, ps, m, i, j, ds, rfl, _⟩ := h
    rfl
  · obtain ⟨p, ps, m, i, j, ds, rfl, hp, hP, hne, h300, hi, hj, k⟩ := h
    refine ⟨_, (pss_cons (ps_set (i := 3) sc_most_apart.nd rfl (Or.inl rfl) pe_non)
    (pss_cons (ps_set (i := 4) sc_most_apart.nd rfl (Or.inl rfl) (pe_callTy call_list_of (by rfl) T.z_list (by decide +kernel) (pa_cons (pv 0) pa_nil)))
    (pss_cons (ps_while PassesOwn.never (pt_truth (pv 4) (by intro _; rfl)) (pss_cons (ps_set (i := 5) sc_most_apart.nd rfl (Or.inl rfl) (C8.pe_c K_opened hr (by decide) (by rfl) (pa_cons (pe_bm0 PySem.F.plainAttrs_list PySem.F.slot_list_pop PySem.F.type_list_pop mt_pop (pv 4)) pa_nil)))
    (pss_one (ps_if (pt_cmpR op_notN (pv 5) pe_non (nomark _)) (pss_cons (ps_set (i := 6) sc_most_apart.nd rfl (Or.inl rfl) (pe_ix ix_tup (pe_ix ix_tup (pe_ix ix_tup (pv 5) pe_int (fun _ _ => rfl)) (pv 1) (fun _ _ => rfl)) (pv 2) (fun _ _ => rfl)))
    (pss_one (ps_if (PW.pt (pw_or (pt_cmpR op_isN (pv 3) pe_non (nomark _)) (pw_or (pt_cmpR op_isN (pv 6) pe_non (nomark _)) (pw_or1 (pt_cmpR op_gt (pv 6) (pv 3) (nomark _)))))) (pss_one (ps_if (pt_truth (pe_ix ix_tup (pv 5) pe_int (fun _ _ => rfl)) (by intro _; rfl)) pss_never (pss_one (ps_if (pt_cmpR op_isN (pv 6) pe_non (nomark _)) (pss_one (ps_ret pe_non)) (pss_one (ps_set (i := 3) sc_most_apart.nd rfl (Or.inl rfl) (pv 6))))))) pss_nil))) pss_nil))))
    (pss_one (ps_ret (pv 3)))))), ?_⟩
    refine ⟨_, rfl, p, _, rfl, .inr hp, fun l nl => ?_⟩
    have Sl := Same.new (o := HO.lst (ps.map V.ref)) nl
    dsimp only [gName, tSeq, tAsg, tC]
    refine while_by (fun σ H' => ∃ (q : Nat) (vm : V) (v5 v6 : Option V), σ = [some (.ref p), some (.int (i : Nat)), some (.int (j : Nat)), some vm, some (.ref l), v5, v6] ∧ Same H H' ∧ H' l = some (.lst ((ps.take q).map V.ref)) ∧ q ≤ ps.length ∧
      ((vm = .non ∧ q = ps.length) ∨ ∃ n, vm = .int n ∧ (∀ d ∈ ds.drop q, ∃ c, d i j = some c ∧ c ≤ n) ∧ ∃ d ∈ ds, d i j = some n)) (fun _ H' => match H' l with | some (.lst xs) => xs.length | _ => 0) ⟨ps.length, .non, none, none, rfl, Sl, by rw [List.take_length]; exact upd_same, Nat.le_refl _, .inl ⟨rfl, rfl⟩⟩ ?_ ?_
    · rintro σ H1 ⟨q, vm, v5, v6, rfl, S1, hl, hq, hm⟩
      refine ⟨_, rfl, _, .inl ⟨_, SqL.of hl, rfl⟩, ?_⟩
      cases q with
      | zero =>
        refine iteF ?_
        refine ⟨_, rfl, ?_⟩
        rcases hm with ⟨rfl, h0⟩ | ⟨n, rfl, h1, h2⟩
        · exfalso
          apply hne
          have := hP.1
          rw [← h0] at this
          exact List.eq_nil_of_length_eq_zero this.symm
        · exact k (some n) H1 S1 ⟨fun d hd => h1 d (by simpa using hd), h2⟩
      | succ q =>
        have hqd : q < ds.length := by
          rw [← hP.1]
          omega
        obtain ⟨pp, g1, g2⟩ := hP.2 q _ (List.getElem?_eq_getElem hqd)
        have et : (ps.take (q + 1)).map V.ref = (ps.take q).map V.ref ++ [V.ref pp] := by
          rw [take_snoc g1, List.map_append]
          rfl
        rw [et] at hl ⊢
        have ee : (!((ps.take q).map V.ref ++ [V.ref pp]).isEmpty) = true := by cases (ps.take q).map V.ref <;> rfl
        rw [ee]
        refine iteT ?_
        refine ⟨_, rfl, .inl ⟨rfl, _, SqL.of hl⟩, l, (ps.take q).map V.ref ++ [V.ref pp], .ref pp, rfl, rfl, hl, by simp, ?_⟩
        rw [List.dropLast_concat]
        have S2 := Same.mut (o := HO.lst ((ps.take q).map V.ref)) S1 nl
        refine ⟨pp, m, _, rfl, g2.mono S2, fun r H3 S3 ⟨z, c, z1, z2, z3⟩ => ?_⟩
        have hl3 : H3 l = some (.lst ((ps.take q).map V.ref)) := S3 _ _ upd_same
        have S13 := S2.trans S3
        generalize hd0 : ds[q] = d0 at g2 z2
        have hdq : ds[q]? = some d0 := by rw [List.getElem?_eq_getElem hqd, hd0]
        have hdm : d0 ∈ ds := List.mem_of_getElem? hdq
        obtain ⟨xs, x1, x2, x3⟩ := z2.row
        obtain ⟨rr, y1, y2⟩ := x3 i hi
        have hmes : ∀ n : Nat, n ≤ ps.length → ((match H3 l with | some (.lst xs) => xs.length | _ => 0) : Nat) < (match H1 l with | some (.lst xs) => xs.length | _ => 0) := fun _ _ => by
          rw [hl3, hl]
          simp
        refine ⟨_, rfl, rfl, _, rfl, iteT ?_⟩
        refine ⟨_, rfl, r, _, _, _, rfl, rfl, z1, rfl, _, rfl, z, _, _, _, rfl, rfl, x1, atI_nat y1, _, rfl, rr, _, _, _, rfl, rfl, y2, atI_nat (rowV_at hj), ?_⟩
        have hrest : ∀ n, vm = .int n → ∀ c, d0 i j = some c → c ≤ n → (∀ d ∈ ds.drop (q + 1), ∃ c, d i j = some c ∧ c ≤ n) → ∀ d ∈ ds.drop q, ∃ c, d i j = some c ∧ c ≤ n := fun n _ c hc hcn hh d hd => by
          rw [drop_pred hdq] at hd
          rcases List.mem_cons.mp hd with e | hd
          · rw [e]
            exact ⟨c, hc, hcn⟩
          · exact hh d hd
        rcases hm with ⟨rfl, h0⟩ | ⟨n, rfl, h1, h2⟩
        · refine ⟨_, rfl, rfl, _, rfl, iteT (iteT ?_)⟩
          refine ⟨_, rfl, r, _, _, _, rfl, rfl, z1, rfl, false, .inr (.inl ⟨[], z3, rfl⟩), iteF ?_⟩
          cases ec : d0 i j with
          | none => exact ⟨_, rfl, rfl, _, rfl, iteT (k none H3 S13 ⟨d0, hdm, ec⟩)⟩
          | some c =>
            refine ⟨_, rfl, rfl, _, rfl, iteF ?_⟩
            refine ⟨_, rfl, ⟨q, .int c, _, _, rfl, S13, hl3, by omega, .inr ⟨c, rfl, fun d hd => ?_, d0, hdm, ec⟩⟩, hmes 0 (by omega)⟩
            rw [drop_pred hdq] at hd
            rcases List.mem_cons.mp hd with e | hd
            · rw [e]
              exact ⟨c, ec, Int.le_refl _⟩
            · exfalso
              rw [List.drop_eq_nil_of_le (by rw [← hP.1, ← h0]; omega)] at hd
              cases hd
        · refine ⟨_, rfl, rfl, _, rfl, iteF ?_⟩
          cases ec : d0 i j with
          | none =>
            refine ⟨_, rfl, rfl, _, rfl, iteT (iteT ?_)⟩
            refine ⟨_, rfl, r, _, _, _, rfl, rfl, z1, rfl, false, .inr (.inl ⟨[], z3, rfl⟩), iteF ?_⟩
            exact ⟨_, rfl, rfl, _, rfl, iteT (k none H3 S13 ⟨d0, hdm, ec⟩)⟩
          | some c =>
            refine ⟨_, rfl, rfl, _, rfl, iteF ?_⟩
            refine ⟨_, rfl, _, rfl, c, n, rfl, rfl, _, rfl, ?_⟩
            by_cases hc : n < c
            · rw [decide_eq_true hc]
              refine iteT ?_
              refine ⟨_, rfl, r, _, _, _, rfl, rfl, z1, rfl, false, .inr (.inl ⟨[], z3, rfl⟩), iteF ?_⟩
              refine ⟨_, rfl, rfl, _, rfl, iteF ?_⟩
              refine ⟨_, rfl, ⟨q, .int c, _, _, rfl, S13, hl3, by omega, .inr ⟨c, rfl, fun d hd => ?_, d0, hdm, ec⟩⟩, hmes 0 (by omega)⟩
              rw [drop_pred hdq] at hd
              rcases List.mem_cons.mp hd with e | hd
              · rw [e]
                exact ⟨c, ec, Int.le_refl _⟩
              · obtain ⟨c', g1, g2⟩ := h1 d hd
                exact ⟨c', g1, by omega⟩
            · rw [decide_eq_false hc]
              refine iteF ?_
              exact ⟨⟨q, .int n, _, _, rfl, S13, hl3, by omega, .inr ⟨n, rfl, hrest n rfl c ec (by omega) h1, h2⟩⟩, hmes 0 (by omega)⟩
    · rintro σ H Q Q' hq ⟨v, hv, kk, t, q⟩
      exact ⟨v, hv, kk, t, hq _ _ q⟩
/-- a term that is known -/
def spTerm (K : PySem.W.Frag) : Sp := fun vs H Q _ => ∃ (t : Str) (tn : Addr) (ys : List Str), vs = [.str t, .ref tn] ∧ Tf.TupAt H tn (ys.map V.str) ∧ (t = "" ∨ t ∈ ys) ∧ Q .non H
theorem ok_check_term {f : Addr} {fd : FuncData} (F : C8.Def K mg "check_term" s_check_term f fd) (b : Binds K fd ["term", "names"] []) (T : Txt K mg CC CS aB) : C8.Cal P w K mg base 1 "check_term" (spTerm K) [] := by
  refine C8.cal0 F b .nil sc_check_term (fun vs H Q E h => ?_) (fun cdv A outer s H vs Q E hr h => ?_)
  · obtain ⟨t, tn, ys, rfl, _⟩ := h
    rfl
  · obtain ⟨t, tn, ys, rfl, htn, hin, k⟩ := h
    refine ⟨_, (pss_one (ps_if (PW.pt (pw_or (pt_not (pt_val (pe_callB call_isi (by rfl) T.z_isinstance (by decide +kernel) (pa_cons (pv 0) (pa_cons (pe_bltn (v := .ty "str") (by rfl) T.z_str (by decide +kernel) rfl) pa_nil))))) (pw_or1 (PW.pt (pw_and (pt_cmpR op_ne (pv 0) pe_str (nomark _)) (pw_and1 (pt_cmpR op_notIn_seq (pv 0) (pv 1) (by rfl)))))))) (pss_one ps_never) pss_nil)), ?_⟩
    refine ⟨_, rfl, _, _, _, _, true, rfl, .ty _, .base (.str t), rfl, _, rfl, iteF ?_⟩
    refine ⟨_, rfl, rfl, _, rfl, ?_⟩
    by_cases e : t = ""
    · subst e
      exact iteF (iteF k)
    · have : (!decide (V.str t = V.str "")) = true := by
        rw [decide_eq_false (fun z => e (V.str.inj z))]
        rfl
      rw [this]
      refine iteT ?_
      have hm := hin.resolve_left e
      have hf : ((ys.map V.str).all flatV) = true := by
        rw [List.all_eq_true]
        intro x hx
        obtain ⟨u, _, rfl⟩ := List.mem_map.mp hx
        rfl
      have hv : inV (.str t) (ys.map V.str) = true := by
        rw [inV_strs]
        exact decide_eq_true hm
      refine ⟨_, rfl, _, rfl, tn, _, rfl, .inr htn.sq, rfl, hf, _, rfl, ?_⟩
      rw [if_pos rfl, hv]
      exact iteF k
/-- what is known of NoStates -/
structure TxtN (K : PySem.W.Frag) (mg : Str → Option Value) (CN : Addr) : Prop where
  gN : mg "NoStates" = some (.ref CN)
  xN : PySem.W.excIn K CN [.type "ValueError", .type "Exception", .type "BaseException", .type "object"] "ValueError.__new__" = true
  kN : PySem.W.keepIn K (.ref CN) = true
  bN : PySem.W.subIn K (.ref CN) (.type "BaseException") = some true
  tN : PySem.W.typeIn K (.ref CN) = some (.type "type")
  eN : PySem.W.exmOne K (.ref CN) (.ref CN) = some true
variable {CN : Addr}
/-- States.bound -/
def spBound (K : PySem.W.Frag) (CC CS CN : Addr) : Sp := fun vs H Q E => ∃ (o : Addr) (ys : List Str) (ds : List Zn.Z) (t u : Str), vs = [.ref o, .str t, .str u] ∧ StsAt K CC CS H o ys ds ∧ ds.length ≤ 300 ∧ (t = "" ∨ t ∈ ys) ∧ (u = "" ∨ u ∈ ys) ∧
  (ds = [] → E (.ref CN) none H) ∧ (ds ≠ [] → ∀ p H', Same H H' → mostOk ds (ixOf ys t) (ixOf ys u) p → Q (optV p) H')
theorem ok_bound {f : Addr} {fd : FuncData} (F : C8.Fun K "bound" "States.bound" s_States_bound f fd) (T : Txt K mg CC CS aB) (TN : TxtN K mg CN) (K_check_term : C8.Cal P w K mg base 1 "check_term" (spTerm K) []) (K_is_empty : C8.Met P w K mg base 1 CS "is_empty" (spEmpty K CC CS) [])
    (K_most_apart : C8.Cal P w K mg base 2 "most_apart" (spMost K) []) (K__index : C8.Met P w K mg base 1 CS "_index" (spIndex K CS) []) : FnOk P w K mg base (L2.CX P w) 3 f fd ["self", "left", "right"] (spBound K CC CS CN) := by
  refine fnX F sc_States_bound (fun vs H Q E h => ?_) (fun cdv A outer s H vs Q E hr h => ?_)
  · obtain ⟨o, ys, ds, t, u, rfl, _⟩ := h
    rfl
  · obtain ⟨o, ys, ds, t, u, rfl, ho, h300, ht, hu, k1, k2⟩ := h
    obtain ⟨dx, tn, c, h1, h2, dc, pp, ps, h3, h4, h5⟩ := id ho
    refine ⟨_, (pss_cons (ps_expr (C8.pe_c K_check_term hr (by decide) (by rfl) (pa_cons (pv 1) (pa_cons (pe_fld (pv 0) rfl) pa_nil))))
    (pss_cons (ps_expr (C8.pe_c K_check_term hr (by decide) (by rfl) (pa_cons (pv 2) (pa_cons (pe_fld (pv 0) rfl) pa_nil))))
    (pss_cons (ps_if (pt_val (C8.pe_mt0 K_is_empty hr (by decide) (pv 0))) (pss_one (ps_raise rfl (takes_of rfl rfl rfl rfl) (pmk_own0 PySem.F.excBase_ValueError TN.xN TN.gN TN.kN (raises_own TN.bN TN.tN) (by exact rfl)))) pss_nil)
    (pss_one (ps_ret (C8.pe_c K_most_apart hr (by decide) (by rfl) (pa_cons (pe_fld (pe_fld (pv 0) rfl) rfl) (pa_cons (C8.pe_mt K__index hr (by decide) (pv 0) (pa_cons (pv 1) pa_nil)) (pa_cons (C8.pe_mt K__index hr (by decide) (pv 0) (pa_cons (pv 2) pa_nil)) pa_nil))))))))), ?_⟩
    refine ⟨_, rfl, _, rfl, o, CS, dx, [("names", .ref tn), ("_cover", .ref c)], .ref tn, rfl, h1, T.cS, T.nS.1, rfl, t, tn, ys, rfl, h2, ht, ?_⟩
    refine ⟨_, rfl, _, rfl, o, CS, dx, [("names", .ref tn), ("_cover", .ref c)], .ref tn, rfl, h1, T.cS, T.nS.1, rfl, u, tn, ys, rfl, h2, hu, ?_⟩
    refine ⟨_, rfl, o, dx, _, rfl, h1, rfl, o, ys, ds, rfl, ho, _, rfl, ?_⟩
    by_cases e : ds = []
    · rw [decide_eq_true e]
      exact iteT (k1 e)
    · rw [decide_eq_false e]
      refine iteF ?_
      refine ⟨_, rfl, o, CS, dx, [("names", .ref tn), ("_cover", .ref c)], .ref c, rfl, h1, T.cS, T.nS.2, rfl, c, CC, dc, _, .ref pp, rfl, h3, T.cC, T.nC, rfl, ?_⟩
      refine ⟨_, rfl, o, dx, _, rfl, h1, rfl, _, rfl, o, dx, tn, _, ys, t, rfl, h1, rfl, h2, ht, ?_⟩
      refine ⟨_, rfl, o, dx, _, rfl, h1, rfl, _, rfl, o, dx, tn, _, ys, u, rfl, h1, rfl, h2, hu, ?_⟩
      exact ⟨pp, ps, ys.length + 1, ixOf ys t, ixOf ys u, ds, rfl, h4, h5, e, h300, ix_lt ht, ix_lt hu, fun p H' S hp => k2 e p H' S hp⟩
end
end K9

namespace K9
open PySem L2 Bx
theorem ring_sum {L : List (Str × Str × Int)} {y : Str → Int} (h : ∀ q ∈ L, y q.1 ≤ y q.2.1 + q.2.2) : ∀ (is : List Nat) (f : Nat → Str), (∀ j, j < is.length → ∃ i n, is[j]? = some i ∧ L[i]? = some (f j, f (j + 1), n)) → y (f 0) ≤ y (f is.length) + Bf.tot L is
  | [], f, _ => by simp [Bf.tot]
  | i :: is, f, g => by
    obtain ⟨i', n, h1, h2⟩ := g 0 (by simp)
    cases h1
    have e1 := h _ (List.mem_of_getElem? h2)
    have e2 := ring_sum h is (fun j => f (j + 1)) fun j hj => g (j + 1) (by simpa using hj)
    have e3 : Bf.num L i = n := Bf.num_at h2
    simp only [Bf.tot, List.length_cons]
    dsimp only at e1 e2
    rw [e3]
    omega
/-- some integers meet the literals -/
def Sbl (L : List (Str × Str × Int)) : Prop := ∃ g, meetsB g L = true
theorem sbl_iff {L : List (Str × Str × Int)} : Sbl L ↔ ∃ g : Str → Int, ∀ q ∈ L, vl g q.1 ≤ vl g q.2.1 + q.2.2 := by
  unfold Sbl meetsB
  constructor
  · rintro ⟨g, h⟩
    exact ⟨g, fun q hq => of_decide_eq_true (List.all_eq_true.mp h q hq)⟩
  · rintro ⟨g, h⟩
    exact ⟨g, List.all_eq_true.mpr fun q hq => decide_eq_true (h q hq)⟩
theorem ring_none {L : List (Str × Str × Int)} {is : List Nat} {f : Nat → Str} (R : Bf.IsRing L is f) : ¬ Sbl L := fun h => by
  obtain ⟨g, hg⟩ := sbl_iff.mp h
  have e := ring_sum (y := vl g) hg is f R.at_
  rw [R.back] at e
  have := R.neg
  omega
theorem LitsAt.app {K : PySem.W.Frag} {H : Hp} {ts us : List Addr} {L M : List (Str × Str × Int)} (h : LitsAt K H ts L) (g : LitsAt K H us M) : LitsAt K H (ts ++ us) (L ++ M) := by
  refine ⟨by rw [List.length_append, List.length_append, h.1, g.1], fun j q hj => ?_⟩
  by_cases c : j < L.length
  · rw [List.getElem?_append_left c] at hj
    obtain ⟨t, h1, h2⟩ := h.2 j q hj
    exact ⟨t, by rw [List.getElem?_append_left (by rw [h.1]; exact c)]; exact h1, h2⟩
  · rw [List.getElem?_append_right (by omega)] at hj
    obtain ⟨t, h1, h2⟩ := g.2 _ q hj
    exact ⟨t, by rw [List.getElem?_append_right (by rw [h.1]; omega), h.1]; exact h1, h2⟩
section
variable {P : Program} {w : World} {K : PySem.W.Frag} {mg : Str → Option Value} {base : Heap} {CC CS aB CN : Addr}
/-- _law_bound -/
def spLBound (K : PySem.W.Frag) (CC CS : Addr) : Sp := fun vs H Q _ => ∃ (o : Addr) (ys : List Str) (ds : List Zn.Z) (t u : Str), vs = [.ref o, .str t, .str u] ∧ StsAt K CC CS H o ys ds ∧ ds.length ≤ 300 ∧ (t = "" ∨ t ∈ ys) ∧ (u = "" ∨ u ∈ ys) ∧
  (ds = [] → ∀ r H', Same H H' → SqT K H' r [.str "empty"] → Q (.ref r) H') ∧ (ds ≠ [] → ∀ p r H', Same H H' → mostOk ds (ixOf ys t) (ixOf ys u) p → SqT K H' r [.str "told", optV p] → Q (.ref r) H')
theorem ok_l_bound {f fB : Addr} {fd fdB : FuncData} (F : C8.Def K mg "_law_bound" s_l_bound f fd) (b : Binds K fd ["_law_one_here", "_law_left", "_law_right"] []) (T : Txt K mg CC CS aB) (TN : TxtN K mg CN)
    (mB : Meth K CS "bound" fB) (FB : FnOk P w K mg base (L2.CX P w) 3 fB fdB ["self", "left", "right"] (spBound K CC CS CN)) (bB : Binds K fdB ["self", "left", "right"] []) : C8.Cal P w K mg base 4 "_law_bound" (spLBound K CC CS) [] := by
  refine C8.cal0 F b .nil sc_l_bound (fun vs H Q E h => ?_) (fun cdv A outer s H vs Q E hr h => ?_)
  · obtain ⟨o, ys, ds, t, u, rfl, _⟩ := h
    rfl
  · obtain ⟨o, ys, ds, t, u, rfl, ho, h300, ht, hu, k1, k2⟩ := h
    obtain ⟨dx, tn, c, h1, h2, h3⟩ := id ho
    refine ⟨_, (pss_one (ps_try_only (c := .ref CN) (tb := fun W => tRet (tTup (tCons (tC (.str "told")) (tCons (tMethX CS "bound" (spBound K CC CS CN) (WE W) (tVar 0) (tCons (tVar 1) (tCons (tVar 2) tNil))) tNil)))) (ts := fun _ _ _ => tRet (tTup (tCons (tC (.str "empty")) tNil))) (Wout := fun _ _ _ _ => False) rfl rfl ⟨rfl, by decide, .inl TN.gN⟩ takesN
      (fun W pn xe tk _ => pss_one (ps_ret (pe_tup (pa_cons pe_str (pa_cons (pe_methX (pv 0) T.cS mB FB (hr.mono (by decide)) bB (fun σ => passAt tk σ) (pa_cons (pv 1) (pa_cons (pv 2) pa_nil))) pa_nil)))))
      (fun _ _ _ _ _ _ _ => pss_one (ps_ret (pe_tup (pa_cons pe_str pa_nil)))))), ?_⟩
    refine ⟨_, rfl, o, dx, _, rfl, h1, rfl, _, rfl, _, rfl, o, ys, ds, t, u, rfl, ho, h300, ht, hu, fun e => ?_, fun e p H' S hp => ?_⟩
    · refine ⟨true, TN.eN, fun _ a na => ?_, fun z => by cases z⟩
      exact ⟨sz (by simp), fun r nr => k1 e r _ (Same.new nr) (SqT.of upd_same)⟩
    · exact ⟨sz (by simp), fun r nr => k2 e p r _ (S.trans (Same.new nr)) hp (SqT.of upd_same)⟩
theorem catUK {X : Cx} (K : PySem.W.Frag) (h : X.K = K := by rfl) : OpR X (binaryOp .Add) (rCatU K) := by subst h; exact op_catU
/-- _law_open -/
def spOpen (K : PySem.W.Frag) : Sp := fun vs H Q _ => ∃ (p r : Addr) (R : List (List (Str × Str × Int))) (M : List (Str × Str × Int)), vs = [.ref p, .ref r] ∧ RowsAt K H p R ∧ RowAt K H r M ∧ R.length ≤ 300 ∧ M.length ≤ 100 ∧ (∀ L ∈ R, OkS L ∧ L.length ≤ 100) ∧ ∀ (b : Bool) H', Same H H' → (b = true ↔ ∃ L ∈ R, Sbl (L ++ M)) → Q (.bl b) H'
theorem ok_l_open {f : Addr} {fd : FuncData} (F : C8.Def K mg "_law_open" s_l_open f fd) (b : Binds K fd ["_law_rows_here", "_law_more"] []) (T : Txt K mg CC CS aB) (K_solved : C8.Cal P w K mg base 4 "solved" (Q1.spSolvedT K) []) : C8.Cal P w K mg base 5 "_law_open" (spOpen K) [] := by
  refine C8.cal0 F b .nil sc_l_open (fun vs H Q E h => ?_) (fun cdv A outer s H vs Q E hr h => ?_)
  · obtain ⟨p, r, R, M, rfl, _⟩ := h
    rfl
  · obtain ⟨p, rm, R, M, rfl, hR, hM, hlen, hml, hT, k⟩ := h
    obtain ⟨rs, hp0, hI⟩ := id hR
    obtain ⟨ms, hm0, hm1⟩ := id hM
    refine ⟨_, (pss_one (ps_ret (pe_cmpR (op_neD hr.units) (pe_lc (own := [("_law_row", 2)]) (g := gName 2) rfl sc_l_open.nd (pi_tup (pv 0)) (blkOk_by (own := [("_law_row", 2)]) (N := N_l_open) (sc := C8.fnScope s_l_open) (by decide +kernel)) (fun _ _ _ _ _ => (pg_name (i := 2) sc_l_open.nd rfl (Or.inl rfl))) (fun _ _ _ _ _ => (pts_one (pt_cmpR op_eq (pe_ix (ixTK K) (C8.pe_c K_solved hr (by decide) (by rfl) (pa_cons (pe_op (catUK K) (pv 2) (pv 1)) pa_nil)) pe_int (fun _ _ => rfl)) pe_str (nomark _)))) (fun _ _ _ _ _ => (pv 2))) (pe_lst pa_nil) (nomark _)))), ?_⟩
    refine ⟨_, rfl, p, rfl, ⟨_, hp0⟩, fun D nD => lc_tup (xs := rs.map V.ref) (fun j H' => ∃ (as : List Addr) (S : List (List (Str × Str × Int))), Same H H' ∧ H' D = some (.lst (as.map V.ref)) ∧ RowsIn K H' as S ∧ S.length ≤ j ∧ (∀ L ∈ S, OkS L) ∧ (S ≠ [] ↔ ∃ L ∈ R.take j, Sbl (L ++ M))) ⟨[], [], Same.new nD, upd_same, ⟨rfl, fun j q h => (by cases h)⟩, Nat.le_refl _, fun _ h => (by cases h), by simp⟩ (fun i H' _ h => ?_) ?_ ?_⟩
    · obtain ⟨_, _, S, _⟩ := h
      exact Same.seqT S hp0
    · rintro i x H1 hx ⟨as, S, S1, hD, hS, hSl, hSo, eS⟩
      rw [List.getElem?_map] at hx
      obtain ⟨r, hr1, rfl⟩ := Option.map_eq_some_iff.mp hx
      have hi : i < R.length := by
        rw [← hI.1]
        exact (List.getElem?_eq_some_iff.mp hr1).1
      have hq := List.getElem?_eq_getElem hi
      obtain ⟨r', h1, h2⟩ := hI.2 i _ hq
      rw [hr1] at h1
      cases h1
      obtain ⟨hO, h100⟩ := hT _ (List.getElem_mem hi)
      obtain ⟨ts, hr2, hr3⟩ := id h2
      generalize hL : R[i] = L at hq h2 hr3 hO h100
      refine ⟨rfl, ?_⟩
      refine ⟨_, rfl, _, rfl, r, rm, _, _, rfl, rfl, Same.seqT S1 hr2, Same.seqT S1 hm0, sz (by simp [hr3.1, hm1.1]; omega), fun c H2 S2 hc => ?_⟩
      have S12 := S1.trans S2
      have fin : ∀ (y : Bool) H3, Same H2 H3 → (y = true ↔ Sbl (L ++ M)) → (if y = true then ∃ acc, H3 D = some (.lst acc) ∧ acc.length < sizeLine ∧ (∃ (as : List Addr) (S : List (List (Str × Str × Int))), Same H (upd H3 D (.lst (acc ++ [V.ref r]))) ∧ (upd H3 D (.lst (acc ++ [V.ref r]))) D = some (.lst (as.map V.ref)) ∧ RowsIn K (upd H3 D (.lst (acc ++ [V.ref r]))) as S ∧ S.length ≤ i + 1 ∧ (∀ L ∈ S, OkS L) ∧ (S ≠ [] ↔ ∃ L ∈ R.take (i + 1), Sbl (L ++ M)))
          else (∃ (as : List Addr) (S : List (List (Str × Str × Int))), Same H H3 ∧ H3 D = some (.lst (as.map V.ref)) ∧ RowsIn K H3 as S ∧ S.length ≤ i + 1 ∧ (∀ L ∈ S, OkS L) ∧ (S ≠ [] ↔ ∃ L ∈ R.take (i + 1), Sbl (L ++ M)))) := fun y H3 S3 hy => by
        have hD3 := S3 _ _ (S2 _ _ hD)
        have S13 := S12.trans S3
        have S23 := S2.trans S3
        have mem : (∃ L' ∈ R.take (i + 1), Sbl (L' ++ M)) ↔ (∃ L' ∈ R.take i, Sbl (L' ++ M)) ∨ Sbl (L ++ M) := by
          rw [take_snoc hq]
          constructor
          · rintro ⟨L', h, s⟩
            rcases List.mem_append.mp h with h | h
            · exact .inl ⟨L', h, s⟩
            · rw [List.mem_singleton.mp h] at s
              exact .inr s
          · rintro (⟨L', h, s⟩ | s)
            · exact ⟨L', List.mem_append_left _ h, s⟩
            · exact ⟨L, List.mem_append_right _ (by simp), s⟩
        cases y with
        | false =>
          refine (if_neg (by simp)).mpr ⟨as, S, S13, hD3, hS.mono S23, by omega, hSo, ?_⟩
          rw [mem, eS]
          constructor
          · exact .inl
          · rintro (h | h)
            · exact h
            · exact absurd (hy.mpr h) (by simp)
        | true =>
          refine (if_pos rfl).mpr ⟨_, hD3, szs (by rw [List.length_map, hS.1]; omega), as ++ [r], S ++ [L], Same.mut S13 nD, by rw [upd_same, List.map_append]; rfl, ?_, by simp; omega, fun L' h => ?_, ?_⟩
          · exact ((hS.mono S23).but hD3 But.upd).snoc (h2.mono (Same.mut S13 nD))
          · rcases List.mem_append.mp h with h | h
            · exact hSo L' h
            · rw [List.mem_singleton.mp h]
              exact hO
          · rw [mem]
            exact ⟨fun _ => .inr (hy.mp rfl), fun _ => by simp⟩
      refine ⟨c, ts ++ ms, L ++ M, rfl, by rw [List.map_append]; exact hc, (hr3.mono S12).app (hm1.mono S12), by simp; omega, fun r2 d ks g H3 S3 hr2 _ _ _ _ _ hg => ?_, fun r2 d is g H3 S3 hr2 _ hg _ => ?_⟩
      · refine ⟨r2, _, _, _, rfl, rfl, hr2, rfl, rfl, _, rfl, ?_⟩
        exact iteT ⟨_, rfl, (if_pos rfl).mp (fin true H3 S3 ⟨fun _ => sbl_iff.mpr ⟨g, hg⟩, fun _ => rfl⟩)⟩
      · refine ⟨r2, _, _, _, rfl, rfl, hr2, rfl, rfl, _, rfl, ?_⟩
        exact iteF ((if_neg (by simp)).mp (fin false H3 S3 ⟨fun z => (by cases z), fun z => absurd z (ring_none hg)⟩))
    · rintro H1 ⟨as, S, S1, hD, hS, hSl, hSo, eS⟩
      refine ⟨sz (by simp), fun z nz => ?_⟩
      have Sz := Same.new (o := HO.lst []) nz
      refine ⟨.list (S.map rowD), .list [], .lst (SqL.of (Sz _ _ hD)) (hS.mono Sz).dp, .lst (SqL.of upd_same) .nil, shaped_rows hSo, by decide +kernel, ?_⟩
      refine k _ _ (S1.trans Sz) ?_
      rw [eqv_nil]
      rw [List.length_map, hI.1, List.take_length] at eS
      rw [← eS]
      cases S <;> simp
end
end K9

namespace K9
open PySem L2 Bx
theorem cut_mem {xs : List V} {lo hi : Option Int} {x : V} (h : x ∈ cutV xs lo hi) : x ∈ xs := by
  unfold cutV at h
  exact List.mem_of_mem_drop (List.mem_of_mem_take h)
theorem pool_ok : ∀ x ∈ pool, PyData.strOk x = true := by decide +kernel
theorem pool_ne : ∀ x ∈ pool, x ≠ ("" : Str) := by decide +kernel
theorem pool_len : ∀ x ∈ pool, x.length ≤ 1000 := by decide +kernel
theorem pool_names {ns : List Str} (h : ns.length ≤ 19) (hp : ∀ x ∈ ns, x ∈ pool) (nd : ns.Nodup) : NamesOk ns := ⟨h, fun x hx => pool_len x (hp x hx), fun x hx => pool_label x (hp x hx), nd⟩
theorem ite_tC {c : Bool} {v u : V} {σ : L2.St} {H : Hp} {Q : VK} (h : ∀ x, (c = true ∧ x = v ∨ c = false ∧ x = u) → Q x H) : if c = true then tC v σ H Q else tC u σ H Q := by
  cases c with
  | true => exact iteT (h v (.inl ⟨rfl, rfl⟩))
  | false => exact iteF (h u (.inr ⟨rfl, rfl⟩))
theorem ite_TE {c : Bool} {ta tb : TE} {σ : L2.St} {H : Hp} {Q : VK} (h1 : ∀ Q : VK, (∀ k : Int, Q (.int k) H) → ta σ H Q) (h2 : ∀ Q : VK, (∀ k : Int, Q (.int k) H) → tb σ H Q) (h : ∀ k : Int, Q (.int k) H) : if c = true then ta σ H Q else tb σ H Q := by
  cases c with
  | true => exact iteT (h1 Q h)
  | false => exact iteF (h2 Q h)
theorem told_ok : PyData.strOk "told" = true := by decide +kernel
def litV (q : Str × Str × Int) : List V := [.str q.1, .str q.2.1, .int q.2.2]
theorem row_one {K : PySem.W.Frag} {H : Hp} {q1 q2 : Addr} {x : Str × Str × Int} (n1 : H q1 = none) (n2 : (upd H q1 (.tup (litV x))) q2 = none) : RowAt K (upd (upd H q1 (.tup (litV x))) q2 (.tup [.ref q1])) q2 [x] := by
  refine ⟨[q1], SqT.of upd_same, rfl, fun j q hj => ?_⟩
  cases j with
  | zero =>
    cases hj
    exact ⟨q1, rfl, Same.seqT (Same.new n2) (SqT.of upd_same)⟩
  | succ j => cases hj
theorem row_two {K : PySem.W.Frag} {H : Hp} {q1 q2 q3 : Addr} {x y : Str × Str × Int} (n1 : H q1 = none) (n2 : (upd H q1 (.tup (litV x))) q2 = none) (n3 : (upd (upd H q1 (.tup (litV x))) q2 (.tup (litV y))) q3 = none) :
    RowAt K (upd (upd (upd H q1 (.tup (litV x))) q2 (.tup (litV y))) q3 (.tup [.ref q1, .ref q2])) q3 [x, y] := by
  refine ⟨[q1, q2], SqT.of upd_same, rfl, fun j q hj => ?_⟩
  match j, hj with
  | 0, hj =>
    cases hj
    exact ⟨q1, rfl, Same.seqT ((Same.new n2).trans (Same.new n3)) (SqT.of upd_same)⟩
  | 1, hj =>
    cases hj
    exact ⟨q2, rfl, Same.seqT (Same.new n3) (SqT.of upd_same)⟩
/-- the literals' numbers times k -/
def mulL (k : Int) (L : List (Str × Str × Int)) : List (Str × Str × Int) := L.map fun q => (q.1, q.2.1, q.2.2 * k)
theorem mul_terms {k : Int} {ys : List Str} {L : List (Str × Str × Int)} (h : ∀ q ∈ L, TermsOk ys q) : ∀ q ∈ mulL k L, TermsOk ys q := fun q hq => by
  obtain ⟨q', hq', rfl⟩ := List.mem_map.mp hq
  exact h q' hq'
/-- the names' integers of a state -/
def gOf (ys : List Str) (x : Nat → Int) : Str → Int := fun s => x (ixOf ys s)
theorem vl_gOf {ys : List Str} {x : Nat → Int} (h0 : x 0 = 0) (t : Str) : vl (gOf ys x) t = x (ixOf ys t) := by
  unfold vl gOf ixOf
  by_cases e : t = ""
  · rw [if_pos e, if_pos e, h0]
  · rw [if_neg e]
theorem meets_iff {g : Str → Int} {L : List (Str × Str × Int)} : meetsB g L = true ↔ ∀ q ∈ L, vl g q.1 ≤ vl g q.2.1 + q.2.2 := by
  unfold meetsB
  rw [List.all_eq_true]
  exact ⟨fun h q hq => of_decide_eq_true (h q hq), fun h q hq => decide_eq_true (h q hq)⟩
theorem meets_app {g : Str → Int} {L M : List (Str × Str × Int)} : meetsB g (L ++ M) = true ↔ meetsB g L = true ∧ meetsB g M = true := by
  unfold meetsB
  rw [List.all_append, Bool.and_eq_true]
variable {ys : List Str} {ds : List Zn.Z} {R : List (List (Str × Str × Int))}
theorem cov_point (C : Covers (ys.length + 1) ds (R.map fun L => L.map (litZ ys))) {d : Zn.Z} {x : Nat → Int} (hd : d ∈ ds) (S : Zn.Sat (ys.length + 1) d x) (h0 : x 0 = 0) : ∃ L ∈ R, meetsB (gOf ys x) L = true := by
  obtain ⟨q, hq, hA⟩ := (C.st x).mp ⟨d, hd, S⟩
  obtain ⟨L, hL, rfl⟩ := List.mem_map.mp hq
  refine ⟨L, hL, meets_iff.mpr fun q hq => ?_⟩
  have := hA _ (List.mem_map.mpr ⟨q, hq, rfl⟩)
  rw [vl_gOf h0, vl_gOf h0]
  exact this
theorem cov_state (hT : ∀ L ∈ R, ∀ q ∈ L, TermsOk ys q) (C : Covers (ys.length + 1) ds (R.map fun L => L.map (litZ ys))) {L : List (Str × Str × Int)} {g : Str → Int} (hL : L ∈ R) (h : meetsB g L = true) : ∃ d ∈ ds, Zn.Sat (ys.length + 1) d (xOf ys g) :=
  (C.st _).mpr ⟨_, List.mem_map.mpr ⟨L, hL, rfl⟩, (all_lits (hT L hL)).mpr h⟩
theorem open_none (hT : ∀ L ∈ R, ∀ q ∈ L, TermsOk ys q) (C : Covers (ys.length + 1) ds (R.map fun L => L.map (litZ ys))) : (∃ L ∈ R, Sbl (L ++ [])) ↔ ds ≠ [] := by
  constructor
  · rintro ⟨L, hL, g, hg⟩ e
    rw [List.append_nil] at hg
    obtain ⟨d, hd, _⟩ := cov_state hT C hL hg
    rw [e] at hd
    cases hd
  · intro h
    cases ds with
    | nil => exact absurd rfl h
    | cons d r =>
      obtain ⟨h1, h2⟩ := Zn.some_state (C.cl d List.mem_cons_self)
      obtain ⟨L, hL, hm⟩ := cov_point C List.mem_cons_self h1 h2
      exact ⟨L, hL, _, by rw [List.append_nil]; exact hm⟩
variable {t u : Str}
theorem far_open (C : Covers (ys.length + 1) ds (R.map fun L => L.map (litZ ys))) (ht : t = "" ∨ t ∈ ys) (hu : u = "" ∨ u ∈ ys) (h : mostOk ds (ixOf ys t) (ixOf ys u) none) (n : Int) : t ≠ u ∧ ∃ L ∈ R, Sbl (L ++ [(u, t, -n)]) := by
  obtain ⟨d, hd, e⟩ := h
  have hc := C.cl d hd
  refine ⟨fun z => ?_, ?_⟩
  · rw [z, hc.dia _ (ix_lt hu)] at e
    cases e
  · obtain ⟨x, h1, h2, h3⟩ := Zn.no_bound hc (ix_lt ht) (ix_lt hu) e n
    obtain ⟨L, hL, hm⟩ := cov_point C hd h1 h2
    refine ⟨L, hL, gOf ys x, meets_app.mpr ⟨hm, meets_iff.mpr fun q hq => ?_⟩⟩
    rw [List.mem_singleton.mp hq]
    show vl (gOf ys x) u ≤ vl (gOf ys x) t + -n
    rw [vl_gOf h2, vl_gOf h2]
    omega
theorem more_shut (hT : ∀ L ∈ R, ∀ q ∈ L, TermsOk ys q) (C : Covers (ys.length + 1) ds (R.map fun L => L.map (litZ ys))) (ht : t = "" ∨ t ∈ ys) (hu : u = "" ∨ u ∈ ys) {n : Int} (h : mostOk ds (ixOf ys t) (ixOf ys u) (some n)) : ¬ ∃ L ∈ R, Sbl (L ++ [(u, t, -n - 1)]) := by
  rintro ⟨L, hL, g, hg⟩
  obtain ⟨h1, h2⟩ := meets_app.mp hg
  obtain ⟨d, hd, hS⟩ := cov_state hT C hL h1
  obtain ⟨c, hc, hcn⟩ := h.1 d hd
  have e1 := hS _ _ c (ix_lt ht) (ix_lt hu) hc
  have e2 := meets_iff.mp h2 _ List.mem_cons_self
  dsimp only at e2
  unfold xOf at e1
  rw [nm_ix ht, nm_ix hu] at e1
  omega
theorem just_open (C : Covers (ys.length + 1) ds (R.map fun L => L.map (litZ ys))) (ht : t = "" ∨ t ∈ ys) (hu : u = "" ∨ u ∈ ys) {n : Int} (h : mostOk ds (ixOf ys t) (ixOf ys u) (some n)) : ∃ L ∈ R, Sbl (L ++ [(t, u, n), (u, t, -n)]) := by
  obtain ⟨d, hd, e⟩ := h.2
  obtain ⟨x, h1, h2, h3⟩ := Zn.at_bound (C.cl d hd) (ix_lt ht) (ix_lt hu) e
  obtain ⟨L, hL, hm⟩ := cov_point C hd h1 h2
  refine ⟨L, hL, gOf ys x, meets_app.mpr ⟨hm, meets_iff.mpr fun q hq => ?_⟩⟩
  rcases List.mem_cons.mp hq with e | hq
  · rw [e]
    show vl (gOf ys x) t ≤ vl (gOf ys x) u + n
    rw [vl_gOf h2, vl_gOf h2]
    omega
  · rw [List.mem_singleton.mp hq]
    show vl (gOf ys x) u ≤ vl (gOf ys x) t + -n
    rw [vl_gOf h2, vl_gOf h2]
    omega
end K9

namespace K9
open PySem L2 Bx
section
variable {P : Program} {w : World} {K : PySem.W.Frag} {mg : Str → Option Value} {base : Heap} {CC CS aB : Addr}
def spLaw (K : PySem.W.Frag) : Sp := fun vs H Q _ => ∃ (a : Addr) (ns : List Int), vs = [.ref a] ∧ SqL K H a (ns.map V.int) ∧ ns.length ≤ 63 ∧ ∀ H', Q (.bl true) H'
theorem ok_law {f : Addr} {fd : FuncData} (F : C8.Fun K "law" "law" s_law f fd) (T : Txt K mg CC CS aB)
    (K_l_well : C8.Cal P w K mg base 1 "_law_well" spWell []) (K_l_draw : C8.Cal P w K mg base 1 "_law_draw" spDraw []) (K_l_names : C8.Cal P w K mg base 2 "_law_names" (spNames K) []) (K_l_rows : C8.Cal P w K mg base 3 "_law_rows" (spRows K) [])
    (K_States : C8.Mak P w K mg base 7 "States" CS (spStates K CC CS) []) (K_l_bound : C8.Cal P w K mg base 4 "_law_bound" (spLBound K CC CS) []) (K_l_open : C8.Cal P w K mg base 5 "_law_open" (spOpen K) []) :
    FnOk P w K mg base C8.CX0 9 f fd ["_law_script"] (spLaw K) := by
  refine C8.fn0 F sc_law (fun vs H Q E h => ?_) (fun cdv A outer s H vs Q E hr h => ?_)
  · obtain ⟨a, ns, rfl, _⟩ := h
    rfl
  · obtain ⟨a, ns, rfl, hS, hlen, k⟩ := h
    refine ⟨_, (pss_cons (ps_for PassesOwn.never rfl (pi_list (pe_slice sl_list (pe_op op_catS (pv 0) (pe_lst (pa_cons pe_int pa_nil))) po_none (po_some pe_int))) (pg_name (i := 1) sc_law.nd rfl (Or.inl rfl))
    (pss_cons (ps_set (i := 2) sc_law.nd rfl (Or.inl rfl) (C8.pe_c K_l_well hr (by decide) (by rfl) (pa_cons (pv 1) pa_nil)))
    (pss_cons (ps_set (i := 3) sc_law.nd rfl (Or.inl rfl) (C8.pe_c K_l_names hr (by decide) (by rfl) (pa_cons (pv 2) (pa_cons (pe_op op_add pe_int (C8.pe_c K_l_draw hr (by decide) (by rfl) (pa_cons (pv 2) (pa_cons pe_int pa_nil)))) pa_nil))))
    (pss_cons (ps_set (i := 4) sc_law.nd rfl (Or.inr rfl) (pe_ifExp (pt_cmpR op_eq (C8.pe_c K_l_draw hr (by decide) (by rfl) (pa_cons (pv 2) (pa_cons pe_int pa_nil))) pe_int (nomark _)) (pe_op op_add (pe_op op_pow pe_int pe_int) pe_int) pe_int))
    (pss_cons (ps_set (i := 5) sc_law.nd rfl (Or.inl rfl) (pe_tup pa_nil))
    (pss_cons (ps_for PassesOwn.never rfl (pi_tup (C8.pe_c K_l_rows hr (by decide) (by rfl) (pa_cons (pv 2) (pa_cons (pv 3) (pa_cons pe_int (pa_cons pe_int pa_nil)))))) (pg_name (i := 6) sc_law.nd rfl (Or.inl rfl))
    (pss_one (ps_set (i := 5) sc_law.nd rfl (Or.inl rfl) (pe_op op_catU (pv 5) (pe_tup (pa_cons (pe_callTy call_tuple_of (by rfl) T.z_tuple (by decide +kernel) (pa_cons (pe_lc (own := [("_law_lit", 11)]) (g := gName 11) (tt := tYes) rfl sc_law.nd (pi_tup (pv 6)) (blkOk_by (own := [("_law_lit", 11)]) (N := N_law) (sc := C8.fnScope s_law) (by decide +kernel)) (fun _ _ _ _ _ => (pg_name (i := 11) sc_law.nd rfl (Or.inl rfl))) (fun _ _ _ _ _ => pts_nil) (fun _ _ _ _ _ => (pe_tup (pa_cons (pe_ix (ixTK K) (pv 11) pe_int (fun _ _ => rfl)) (pa_cons (pe_ix (ixTK K) (pv 11) pe_int (fun _ _ => rfl)) (pa_cons (pe_op op_mul (pe_ix (ixTK K) (pv 11) pe_int (fun _ _ => rfl)) (pv 4)) pa_nil)))))) pa_nil)) pa_nil))))))
    (pss_cons (ps_set (i := 7) sc_law.nd rfl (Or.inl rfl) (C8.pe_mk K_States hr (by decide) (by rfl) (pa_cons (pv 3) (pa_cons (pv 5) pa_nil))))
    (pss_one (ps_for PassesOwn.never rfl (pi_tup (pe_op op_catU (pv 3) (pe_tup (pa_cons pe_str pa_nil)))) (pg_name (i := 8) sc_law.nd rfl (Or.inl rfl))
    (pss_one (ps_for PassesOwn.never rfl (pi_tup (pe_op op_catU (pv 3) (pe_tup (pa_cons pe_str pa_nil)))) (pg_name (i := 9) sc_law.nd rfl (Or.inl rfl))
    (pss_cons (ps_set (i := 10) sc_law.nd rfl (Or.inl rfl) (C8.pe_c K_l_bound hr (by decide) (by rfl) (pa_cons (pv 7) (pa_cons (pv 8) (pa_cons (pv 9) pa_nil)))))
    (pss_one (ps_if (pt_not (pt_val (C8.pe_c K_l_open hr (by decide) (by rfl) (pa_cons (pv 5) (pa_cons (pe_tup pa_nil) pa_nil))))) (pss_one (ps_if (pt_cmpR (op_neD hr.units) (pv 10) (pe_tup (pa_cons pe_str pa_nil)) (nomark _)) (pss_one (ps_ret pe_bl)) pss_nil)) (pss_one (ps_if (pt_cmpR (op_eqD hr.units) (pv 10) (pe_tup (pa_cons pe_str (pa_cons pe_non pa_nil))) (nomark _)) (pss_one (ps_if (PW.pt (pw_or (pt_cmpR op_eq (pv 8) (pv 9) (nomark _)) (pw_or1 (pt_not (pt_val (C8.pe_c K_l_open hr (by decide) (by rfl) (pa_cons (pv 5) (pa_cons (pe_tup (pa_cons (pe_tup (pa_cons (pv 9) (pa_cons (pv 8) (pa_cons (pe_un un_neg (pe_op op_pow pe_int pe_int)) pa_nil)))) pa_nil)) pa_nil)))))))) (pss_one (ps_ret pe_bl)) pss_nil)) (pss_one (ps_if (PW.pt (pw_or (pt_cmpR op_ne (pe_ix ix_tup (pv 10) pe_int (fun _ _ => rfl)) pe_str (nomark _)) (pw_or (pt_not (pt_val (pe_callB call_isi (by rfl) T.z_isinstance (by decide +kernel) (pa_cons (pe_ix ix_tup (pv 10) pe_int (fun _ _ => rfl)) (pa_cons (pe_bltn (v := .ty "int") (by rfl) T.z_int (by decide +kernel) rfl) pa_nil))))) (pw_or1 (pt_val (pe_callB call_isi (by rfl) T.z_isinstance (by decide +kernel) (pa_cons (pe_ix ix_tup (pv 10) pe_int (fun _ _ => rfl)) (pa_cons (pe_bltn (v := .ty "bool") (by rfl) T.z_bool (by decide +kernel) rfl) pa_nil)))))))) (pss_one (ps_ret pe_bl)) (pss_one (ps_if (pt_val (C8.pe_c K_l_open hr (by decide) (by rfl) (pa_cons (pv 5) (pa_cons (pe_tup (pa_cons (pe_tup (pa_cons (pv 9) (pa_cons (pv 8) (pa_cons (pe_op op_sub (pe_un un_neg (pe_ix ix_tup (pv 10) pe_int (fun _ _ => rfl))) pe_int) pa_nil)))) pa_nil)) pa_nil)))) (pss_one (ps_ret pe_bl)) (pss_one (ps_if (pt_not (pt_val (C8.pe_c K_l_open hr (by decide) (by rfl) (pa_cons (pv 5) (pa_cons (pe_tup (pa_cons (pe_tup (pa_cons (pv 8) (pa_cons (pv 9) (pa_cons (pe_ix ix_tup (pv 10) pe_int (fun _ _ => rfl)) pa_nil)))) (pa_cons (pe_tup (pa_cons (pv 9) (pa_cons (pv 8) (pa_cons (pe_un un_neg (pe_ix ix_tup (pv 10) pe_int (fun _ _ => rfl))) pa_nil)))) pa_nil))) pa_nil))))) (pss_one (ps_ret pe_bl)) pss_nil))))))))))))))))))))))
    (pss_one (ps_ret pe_bl))), ?_⟩
    refine ⟨_, rfl, sz (by simp), fun z nz => ⟨a, z, _, _, rfl, rfl, (Same.new nz).seq hS, SqL.of upd_same, sz (by simp; omega), fun y ny => ⟨_, rfl, y, _, rfl, SqL.of upd_same, fun t nt => ⟨t, rfl, ⟨_, SqL.of upd_same⟩, ?_⟩⟩⟩⟩
    generalize hcs : cutV (ns.map V.int ++ [.int 0]) none (some 5) = cs
    have hint : ∀ x ∈ cs, ∃ c, x = V.int c := fun x hx => by
      rw [← hcs] at hx
      rcases List.mem_append.mp (cut_mem hx) with h | h
      · obtain ⟨c, _, rfl⟩ := List.mem_map.mp h
        exact ⟨c, rfl⟩
      · exact ⟨0, by simpa using h⟩
    refine for_list (xs := cs) (fun i σ H' => ∃ (v1 v2 v3 v4 v5 v6 v7 v8 v9 v10 v11 : Option V), σ = [some (.ref a), v1, v2, v3, v4, v5, v6, v7, v8, v9, v10, v11] ∧ H' t = some (.lst cs)) ⟨none, none, none, none, none, none, none, none, none, none, none, rfl, upd_same⟩ (fun i σ H' _ h => ?_) ?_ ?_
    · obtain ⟨_, _, _, _, _, _, _, _, _, _, _, _, h⟩ := h
      exact SqL.of h
    · rintro i x σ H0 hx ⟨v1, v2, v3, v4, v5, v6, v7, v8, v9, v10, v11, rfl, ht⟩
      obtain ⟨cc, rfl⟩ := hint x (List.mem_of_getElem? hx)
      refine ⟨_, rfl, cc, rfl, fun l H1 nl S1 W1 => ?_⟩
      have tl : t ≠ l := fun z => by rw [z, nl] at ht; cases ht
      refine ⟨_, rfl, _, rfl, l, 2, rfl, W1, by decide, by decide, fun r H2 r0 r1 W2 B2 => ⟨2, r, rfl, rfl, ?_⟩⟩
      obtain ⟨m, rfl⟩ : ∃ m : Nat, r = (m : Int) := ⟨r.toNat, by omega⟩
      have hm3 : 2 + m ≤ 3 := by omega
      refine ⟨l, 2 + m, ?_, W2, by omega, fun p ns H3 hnl hnd hnp hp3 W3 B3 => ?_⟩
      · show [V.ref l, V.int (2 + (m : Int))] = [V.ref l, V.int ((2 + m : Nat) : Int)]
        rw [Int.natCast_add]
        rfl
      refine ⟨_, rfl, l, 3, rfl, W3, by decide, by decide, fun r' H3' r0' r1' W3' B3' => ?_⟩
      refine ⟨rfl, _, rfl, ?_⟩
      refine ite_TE (fun Q h => ⟨_, _, rfl, rfl, ⟨by decide, by decide, by decide⟩, _, _, rfl, rfl, h _⟩) (fun Q h => h _) fun kk => ?_
      refine ⟨sz (by simp), fun e ne => ?_⟩
      have We := W3'.same (Same.new (o := HO.tup []) ne)
      have Be := B3'.trans (But.of (Same.new (o := HO.tup []) ne))
      have hpe := But.tup W3 Be hp3
      have het : (upd H3' e (HO.tup [])) t = some (.lst cs) := by
        exact Be _ _ (B3 _ _ (B2 _ _ (S1 _ _ ht) tl) tl) tl
      have hee : SqT K (upd H3' e (HO.tup [])) e [] := SqT.of upd_same
      generalize upd H3' e (HO.tup []) = H4 at We hpe het hee ⊢
      clear Be B3' W3' B2 B3 W1 W2 W3 hp3 ht S1 ne
      refine ⟨_, rfl, _, rfl, l, p, ns, 3, 4, rfl, We, hpe, by omega, by decide, by decide, fun rr R H5 hRl hR hRa W5 B5 => ?_⟩
      obtain ⟨rs, hrr, hrI⟩ := id hRa
      have hpe := But.tup We B5 hpe
      have het5 : H5 t = some (.lst cs) := B5 _ _ het tl
      have hee5 : SqT K H5 e [] := But.tup We B5 hee
      refine ⟨rr, rfl, ⟨_, hrr⟩, for_tup (xs := rs.map V.ref) (fun i σ H' => ∃ (c : Addr) (v6 v11 : Option V), σ = [some (.ref a), some (.int cc), some (.ref l), some (.ref p), some (.int kk), some (.ref c), v6, v7, v8, v9, v10, v11] ∧ Same H5 H' ∧ RowsAt K H' c ((R.take i).map (mulL kk))) ⟨e, v6, v11, rfl, Same.refl H5, [], hee5, ⟨rfl, fun j q h => (by cases h)⟩⟩ (fun i σ H' _ h => ?_) ?_ ?_⟩
      · obtain ⟨_, _, _, _, S, _⟩ := h
        exact Same.seqT S hrr
      · rintro i x σ H6 hx ⟨c, w6, w11, rfl, S6, hC6⟩
        rw [List.getElem?_map] at hx
        obtain ⟨r, hr1, rfl⟩ := Option.map_eq_some_iff.mp hx
        have hi : i < R.length := by
          rw [← hrI.1]
          exact (List.getElem?_eq_some_iff.mp hr1).1
        have hq := List.getElem?_eq_getElem hi
        obtain ⟨r', h1, ts, h2, h3⟩ := hrI.2 i _ hq
        rw [hr1] at h1
        cases h1
        obtain ⟨hL4, hLo⟩ := hR _ (List.getElem_mem hi)
        generalize R[i] = L at hq h2 h3 hL4 hLo
        obtain ⟨cs6, hc6, hcI⟩ := hC6
        refine ⟨_, rfl, _, rfl, r, rfl, ⟨_, Same.seqT S6 h2⟩, fun D nD => lc_tup (xs := ts.map V.ref) (fun j H' => ∃ us : List Addr, Same H6 H' ∧ H' D = some (.lst (us.map V.ref)) ∧ LitsAt K H' us (mulL kk (L.take j))) ⟨[], Same.new nD, upd_same, ⟨rfl, fun j q h => (by cases h)⟩⟩ (fun j H' _ h => ?_) ?_ ?_⟩
        · obtain ⟨_, S, _⟩ := h
          exact Same.seqT (S6.trans S) h2
        · rintro j x H7 hx7 ⟨us, S7, hD, hU⟩
          rw [List.getElem?_map] at hx7
          obtain ⟨u, hu, rfl⟩ := Option.map_eq_some_iff.mp hx7
          have hj : j < L.length := by
            rw [← h3.1]
            exact (List.getElem?_eq_some_iff.mp hu).1
          have hqj := List.getElem?_eq_getElem hj
          obtain ⟨u', g1, g2⟩ := h3.2 j _ hqj
          rw [hu] at g1
          cases g1
          obtain ⟨_, hb1, hb2⟩ := hLo _ (List.getElem_mem hj)
          generalize L[j] = q at hqj g2 hb1 hb2
          have g7 : SqT K H7 u [.str q.1, .str q.2.1, .int q.2.2] := Same.seqT (S6.trans S7) g2
          refine ⟨rfl, ?_⟩
          refine ⟨_, rfl, u, _, _, _, rfl, rfl, g7, rfl, ?_⟩
          refine ⟨_, rfl, u, _, _, _, rfl, rfl, g7, rfl, ?_⟩
          refine ⟨_, rfl, u, _, _, _, rfl, rfl, g7, rfl, _, rfl, _, _, rfl, rfl, .inl ⟨by omega, by omega⟩, sz (by simp), fun b nb => ?_⟩
          have Sb := Same.new (o := HO.tup [.str q.1, .str q.2.1, .int (q.2.2 * kk)]) nb
          refine ⟨_, Sb _ _ hD, szs (by rw [List.length_map, hU.1]; unfold mulL; rw [List.length_map, List.length_take]; omega), us ++ [b], Same.mut (S7.trans Sb) nD, by rw [upd_same, List.map_append]; rfl, ?_⟩
          rw [take_snoc hqj]
          unfold mulL
          rw [List.map_append]
          exact ((hU.mono Sb).but (Sb _ _ hD) But.upd).snoc (q := (q.1, q.2.1, q.2.2 * kk)) (SqT.of (by rw [upd_ne (fun z => by rw [z, hD] at nb; cases nb), upd_same]))
        · rintro H7 ⟨us, S7, hD, hU⟩
          rw [List.length_map, h3.1, List.take_length] at hU
          refine ⟨D, _, rfl, .inl ⟨SqL.of hD, fun q nq => ⟨sz (by simp), fun g ng => ?_⟩⟩⟩
          have Sq := Same.new (o := HO.tup (us.map V.ref)) nq
          have Sg := Sq.trans (Same.new (o := HO.tup [V.ref q]) ng)
          have hqq : SqT K _ q (us.map V.ref) := Same.seqT (Same.new (o := HO.tup [V.ref q]) ng) (SqT.of upd_same)
          refine ⟨c, g, _, _, rfl, rfl, Same.seqT (S7.trans Sg) hc6, SqT.of upd_same, sz (by simp [hcI.1]; omega), fun c' H8 S8 hc8 => ?_⟩
          have S68 := S7.trans (Sg.trans S8)
          refine ⟨c', _, _, rfl, S6.trans S68, cs6 ++ [q], by rw [List.map_append]; exact hc8, ?_⟩
          rw [take_snoc hq, List.map_append]
          exact (hcI.mono S68).snoc ⟨us, Same.seqT S8 hqq, hU.mono (Sg.trans S8)⟩
      · rintro σ H6 ⟨c, w6, w11, rfl, S6, hC6⟩
        rw [List.length_map, hrI.1, List.take_length] at hC6
        have hp6 := Same.seqT S6 hpe
        have het6 := S6 _ _ het5
        have hN := pool_names (by omega) hnp hnd
        have hTr : ∀ L ∈ R.map (mulL kk), ∀ q ∈ L, TermsOk ns q := fun L hL => by
          obtain ⟨L', h1, rfl⟩ := List.mem_map.mp hL
          exact mul_terms fun q hq => ((hR L' h1).2 q hq).1
        have hLn : ∀ L ∈ R.map (mulL kk), L.length ≤ 4 := fun L hL => by
          obtain ⟨L', h1, rfl⟩ := List.mem_map.mp hL
          unfold mulL
          rw [List.length_map]
          exact (hR L' h1).1
        have hRl' : (R.map (mulL kk)).length ≤ 3 := by rw [List.length_map]; exact hRl
        generalize R.map (mulL kk) = M at hC6 hTr hLn hRl'
        clear hrI hrr hRa hR
        refine ⟨_, rfl, _, rfl, fun o do_ no nd hne => ⟨H6, o, do_, p, c, ns, M, rfl, no, Same.mut (Same.new nd) no, upd_same, hp6, hN, hC6, by omega, fun L hL => ⟨by have := hLn L hL; omega, hTr L hL⟩, fun ys ds H7 hperm hpw S7 hst hcov hds => ⟨rfl, ?_⟩⟩⟩
        have hOk : ∀ L ∈ M, OkS L := fun L hL q hq => ⟨((hTr L hL q hq).1).elim (fun e => by rw [e]; decide +kernel) fun h => pool_ok _ (hnp _ h), ((hTr L hL q hq).2).elim (fun e => by rw [e]; decide +kernel) fun h => pool_ok _ (hnp _ h)⟩
        have hTy : ∀ L ∈ M, ∀ q ∈ L, TermsOk ys q := fun L hL q hq => terms_perm (hTr L hL q hq) hperm
        have hp7 := Same.seqT S7 hp6
        have hC7 := hC6.mono S7
        have het7 := S7 _ _ het6
        have htm : ∀ (x : V), x ∈ ns.map V.str ++ [V.str ""] → ∃ t : Str, x = .str t ∧ (t = "" ∨ t ∈ ys) := fun x hx => by
          rcases List.mem_append.mp hx with h | h
          · obtain ⟨u, hu, rfl⟩ := List.mem_map.mp h
            exact ⟨u, rfl, .inr (hperm.mem_iff.mpr hu)⟩
          · exact ⟨"", List.mem_singleton.mp h, .inl rfl⟩
        clear hp6 hC6 het6
        refine ⟨_, rfl, sz (by simp), fun e1 ne1 => ⟨p, e1, _, _, rfl, rfl, Same.seqT (Same.new ne1) hp7, SqT.of upd_same, sz (by simp; omega), fun nt H8 S8 hnt => ⟨nt, rfl, ⟨_, hnt⟩, ?_⟩⟩⟩
        have S78 := (Same.new ne1).trans S8
        have hst8 := hst.mono S78
        have hp8 := Same.seqT S78 hp7
        have hC8 := hC7.mono S78
        have het8 := S78 _ _ het7
        refine for_tup (xs := ns.map V.str ++ [.str ""]) (fun i σ H' => ∃ (v8 v9 v10 : Option V), σ = [some (.ref a), some (.int cc), some (.ref l), some (.ref p), some (.int kk), some (.ref c), w6, some (.ref o), v8, v9, v10, w11] ∧ Same H8 H') ⟨v8, v9, v10, rfl, Same.refl H8⟩ (fun i σ H' _ h => ?_) ?_ ?_
        · obtain ⟨_, _, _, _, S⟩ := h
          exact Same.seqT S hnt
        · rintro i x σ H9 hx ⟨y8, y9, y10, rfl, S9⟩
          obtain ⟨lt, rfl, hlt⟩ := htm x (List.mem_of_getElem? hx)
          refine ⟨_, rfl, sz (by simp), fun e2 ne2 => ⟨p, e2, _, _, rfl, rfl, Same.seqT (S9.trans (Same.new ne2)) hp8, SqT.of upd_same, sz (by simp; omega), fun nt2 H10 S10 hnt2 => ⟨nt2, rfl, ⟨_, hnt2⟩, ?_⟩⟩⟩
          have S810 := S9.trans ((Same.new ne2).trans S10)
          refine for_tup (xs := ns.map V.str ++ [.str ""]) (fun i σ H' => ∃ (v9 v10 : Option V), σ = [some (.ref a), some (.int cc), some (.ref l), some (.ref p), some (.int kk), some (.ref c), w6, some (.ref o), some (.str lt), v9, v10, w11] ∧ Same H8 H' ∧ Same H10 H') ⟨y9, y10, rfl, S810, Same.refl H10⟩ (fun i σ H' _ h => ?_) ?_ ?_
          · obtain ⟨_, _, _, _, S⟩ := h
            exact Same.seqT S hnt2
          · rintro i x σ H11 hx ⟨z9, z10, rfl, S11, S11b⟩
            obtain ⟨rt, rfl, hrt⟩ := htm x (List.mem_of_getElem? hx)
            have hst11 := hst8.mono S11
            have hC11 := hC8.mono S11
            have hop : ∀ {H' : Hp} {r : Addr} {N : List (Str × Str × Int)}, Same H11 H' → RowAt K H' r N → N.length ≤ 100 → RowsAt K H' c M ∧ RowAt K H' r N ∧ M.length ≤ 300 ∧ N.length ≤ 100 ∧ (∀ L ∈ M, OkS L ∧ L.length ≤ 100) := fun S h1 h2 => ⟨hC11.mono S, h1, by omega, h2, fun L hL => ⟨hOk L hL, by have := hLn L hL; omega⟩⟩
            refine ⟨_, rfl, _, rfl, _, rfl, o, ys, ds, lt, rt, rfl, hst11, hds, hlt, hrt, fun e r H12 S12 hr12 => ?_, fun e pp r H12 S12 hm hr12 => ?_⟩
            · refine ⟨_, rfl, sz (by simp), fun e3 ne3 => ?_⟩
              have Se := S12.trans (Same.new (o := HO.tup []) ne3)
              obtain ⟨o1, o2, o3, o4, o5⟩ := hop (N := []) (r := e3) Se ⟨[], SqT.of upd_same, rfl, fun j q h => by cases h⟩ (by simp)
              refine ⟨c, e3, M, [], rfl, o1, o2, o3, o4, o5, fun b H13 S13 hb => ⟨_, rfl, ?_⟩⟩
              have eb : b = false := by
                cases b with
                | false => rfl
                | true => exact absurd e ((open_none hTy hcov).mp (hb.mp rfl))
              subst eb
              refine iteT ?_
              refine ⟨_, rfl, sz (by simp), fun e4 ne4 => ?_⟩
              have Sf := Se.trans (S13.trans (Same.new (o := HO.tup [V.str "empty"]) ne4))
              refine ⟨.tuple [.str "empty"], .tuple [.str "empty"], .tup (Same.seqT ((Same.new (o := HO.tup []) ne3).trans (S13.trans (Same.new (o := HO.tup [V.str "empty"]) ne4))) hr12) (.cons (.str _) .nil), .tup (SqT.of upd_same) (.cons (.str _) .nil), by decide +kernel, by decide +kernel, _, rfl, ?_⟩
              rw [show (!PyData.eqv (.tuple [.str "empty"]) (.tuple [.str "empty"])) = false by decide +kernel]
              exact iteF ⟨_, _, rfl, S11.trans Sf, S11b.trans Sf⟩
            · refine ⟨_, rfl, sz (by simp), fun e3 ne3 => ?_⟩
              have Se := S12.trans (Same.new (o := HO.tup []) ne3)
              obtain ⟨o1, o2, o3, o4, o5⟩ := hop (N := []) (r := e3) Se ⟨[], SqT.of upd_same, rfl, fun j q h => by cases h⟩ (by simp)
              refine ⟨c, e3, M, [], rfl, o1, o2, o3, o4, o5, fun b H13 S13 hb => ⟨_, rfl, ?_⟩⟩
              have eb : b = true := hb.mpr ((open_none hTy hcov).mpr e)
              subst eb
              refine iteF ?_
              have hr13 := Same.seqT ((Same.new (o := HO.tup []) ne3).trans S13) hr12
              have S1113 := Se.trans S13
              clear hb o1 o2 o3 o4 o5
              refine ⟨_, rfl, sz (by simp), fun e4 ne4 => ?_⟩
              have Sn4 := Same.new (o := HO.tup [V.str "told", V.non]) ne4
              have hc4 : RowsAt K (upd H13 e4 (HO.tup [V.str "told", V.non])) c M := hC11.mono (S1113.trans Sn4)
              have S1114 := S1113.trans Sn4
              have hr14 := Same.seqT Sn4 hr13
              cases pp with
              | none =>
                refine ⟨.tuple [.str "told", .none], .tuple [.str "told", .none], .tup hr14 (.cons (.str _) (.cons .non .nil)), .tup (SqT.of upd_same) (.cons (.str _) (.cons .non .nil)), by decide +kernel, by decide +kernel, _, rfl, ?_⟩
                rw [show (PyData.eqv (.tuple [.str "told", .none]) (.tuple [.str "told", .none])) = true by decide +kernel]
                refine iteT ?_
                obtain ⟨hne, hopn⟩ := far_open hcov hlt hrt hm (10 ^ Int.toNat 50)
                refine ⟨_, rfl, _, rfl, rfl, _, rfl, ?_⟩
                rw [decide_eq_false (fun z => hne (V.str.inj z))]
                refine iteF ?_
                refine ⟨_, rfl, _, rfl, _, rfl, _, _, rfl, rfl, ⟨by decide, by decide, by decide⟩, _, rfl, sz (by simp), fun q1 nq1 => ⟨sz (by simp), fun q2 nq2 => ?_⟩⟩
                have S15 := S1114.trans ((Same.new nq1).trans (Same.new (o := HO.tup [V.ref q1]) nq2))
                obtain ⟨o1, o2, o3, o4, o5⟩ := hop (N := [(rt, lt, -(10 ^ Int.toNat 50))]) (r := q2) S15 (row_one (x := (rt, lt, -(10 ^ Int.toNat 50))) nq1 nq2) (by simp)
                refine ⟨c, q2, M, _, rfl, o1, o2, o3, o4, o5, fun b H16 S16 hb => ⟨_, rfl, ?_⟩⟩
                have eb : b = true := hb.mpr hopn
                subst eb
                exact iteF ⟨_, _, rfl, S11.trans (S15.trans S16), S11b.trans (S15.trans S16)⟩
              | some n =>
                refine ⟨.tuple [.str "told", .int n], .tuple [.str "told", .none], .tup hr14 (.cons (.str _) (.cons (.int _) .nil)), .tup (SqT.of upd_same) (.cons (.str _) (.cons .non .nil)), ?_, by decide +kernel, _, rfl, ?_⟩
                · simp [SeqAt.shaped, PyData.canLay0, PyData.canLayAll0, PyData.depth, PyData.depthAll, told_ok]
                rw [show (PyData.eqv (.tuple [.str "told", .int n]) (.tuple [.str "told", .none])) = false by simp [PyData.eqv, PyData.eqvAll]]
                refine iteF ?_
                refine ⟨_, rfl, r, _, _, _, rfl, rfl, hr14, rfl, rfl, _, rfl, iteF ?_⟩
                refine ⟨_, rfl, r, _, _, _, rfl, rfl, hr14, rfl, _, _, _, _, true, rfl, .ty _, .base (.int n), rfl, _, rfl, iteF ?_⟩
                refine ⟨_, rfl, r, _, _, _, rfl, rfl, hr14, rfl, _, _, _, _, false, rfl, .ty _, .base (.int n), rfl, _, rfl, iteF ?_⟩
                refine ⟨_, rfl, _, rfl, _, rfl, _, rfl, r, _, _, _, rfl, rfl, hr14, rfl, _, rfl, _, _, rfl, rfl, sz (by simp), fun q1 nq1 => ⟨sz (by simp), fun q2 nq2 => ?_⟩⟩
                have S15 := S1114.trans ((Same.new nq1).trans (Same.new (o := HO.tup [V.ref q1]) nq2))
                have hr15 := Same.seqT ((Same.new nq1).trans (Same.new (o := HO.tup [V.ref q1]) nq2)) hr14
                obtain ⟨o1, o2, o3, o4, o5⟩ := hop (N := [(rt, lt, -n - 1)]) (r := q2) S15 (row_one (x := (rt, lt, -n - 1)) nq1 nq2) (by simp)
                refine ⟨c, q2, M, _, rfl, o1, o2, o3, o4, o5, fun b H16 S16 hb => ⟨_, rfl, ?_⟩⟩
                have eb : b = false := by
                  cases b with
                  | false => rfl
                  | true => exact absurd (hb.mp rfl) (more_shut hTy hcov hlt hrt hm)
                subst eb
                clear o1 o2 o3 o4 o5 hb
                refine iteF ?_
                have S16' := S15.trans S16
                have hr16 := Same.seqT S16 hr15
                refine ⟨_, rfl, _, rfl, _, rfl, _, rfl, r, _, _, _, rfl, rfl, hr16, rfl, sz (by simp), fun q3 nq3 => ?_⟩
                have hr17 := Same.seqT (Same.new (o := HO.tup [V.str lt, V.str rt, V.int n]) nq3) hr16
                refine ⟨_, rfl, _, rfl, _, rfl, r, _, _, _, rfl, rfl, hr17, rfl, _, rfl, sz (by simp), fun q4 nq4 => ⟨sz (by simp), fun q5 nq5 => ?_⟩⟩
                have S17 := S16'.trans ((Same.new (o := HO.tup [V.str lt, V.str rt, V.int n]) nq3).trans ((Same.new (o := HO.tup [V.str rt, V.str lt, V.int (-n)]) nq4).trans (Same.new (o := HO.tup [V.ref q3, V.ref q4]) nq5)))
                obtain ⟨o1, o2, o3, o4, o5⟩ := hop (N := [(lt, rt, n), (rt, lt, -n)]) (r := q5) S17 (row_two (x := (lt, rt, n)) (y := (rt, lt, -n)) nq3 nq4 nq5) (by simp)
                refine ⟨c, q5, M, _, rfl, o1, o2, o3, o4, o5, fun b H18 S18 hb => ⟨_, rfl, ?_⟩⟩
                have eb : b = true := hb.mpr (just_open hcov hlt hrt hm)
                subst eb
                exact iteF ⟨_, _, rfl, S11.trans (S17.trans S18), S11b.trans (S17.trans S18)⟩
          · rintro σ H11 ⟨z9, z10, rfl, S11, _⟩
            exact ⟨_, _, _, rfl, S11⟩
        · rintro σ H9 ⟨y8, y9, y10, rfl, S9⟩
          exact ⟨_, _, _, _, _, _, _, _, _, _, _, rfl, S9 _ _ het8⟩
    · rintro σ H' ⟨v1, v2, v3, v4, v5, v6, v7, v8, v9, v10, v11, rfl, ht⟩
      exact k H'
end
end K9

namespace K9
open PySem L2 Bx He
def faX : List Fa := [.glo "_law_well", .glo "_law_draw", .glo "_law_one", .glo "_law_names", .glo "_law_rows", .glo "is_number", .glo "is_literal", .glo "is_word", .glo "is_label", .glo "are_different", .glo "are_labels", .glo "is_over", .glo "are_rows", .glo "shortened", .glo "met", .glo "met_all", .glo "whole", .glo "is_inside", .glo "opened", .glo "is_part_inside", .glo "is_inside_one", .glo "trimmed", .glo "of_rows", .glo "most_apart", .glo "check_term", .glo "check_literals", .glo "lower_once", .glo "ring_behind", .glo "solved", .glo "_law_bound", .glo "_law_open", .glo "law", .glo "Cover", .glo "States", .glo "BARRED", .glo "NoStates", .int "LONGEST" 8, .int "MOST_PAIRS" 100000, .int "MOST_LITERALS" 300, .free "isinstance", .free "len", .free "int", .free "bool", .free "str", .free "tuple", .free "list", .free "dict", .free "set", .free "range", .free "enumerate", .free "zip", .free "sorted", .free "all", .free "any", .cls "Cover", .cls "States", .noat "Cover" "parts", .noat "States" "names", .noat "States" "_cover", .mkr "Cover", .mkr "States", .meth "States" "_index", .meth "States" "_covered", .meth "States" "is_empty", .meth "States" "bound", .exc "NoStates", .exm "NoStates" "NoStates" true]
def moreX (K : PySem.W.Frag) : Bool := (decide (PySem.W.kitOne K (.type "tuple") (.ref (ga K "Cover")) = some false) && true)
def BX (K : PySem.W.Frag) : Bool := (faX.all fun f => f.ok K) && moreX K
def fnX : List Hy.DX := [⟨fun K => ga K "_law_well", "_law_well", "_law_well", C8.fnArgs s_l_well, C8.fnBody s_l_well, C8.fnScope s_l_well⟩, ⟨fun K => ga K "_law_draw", "_law_draw", "_law_draw", C8.fnArgs s_l_draw, C8.fnBody s_l_draw, C8.fnScope s_l_draw⟩, ⟨fun K => ga K "_law_one", "_law_one", "_law_one", C8.fnArgs s_l_one, C8.fnBody s_l_one, C8.fnScope s_l_one⟩, ⟨fun K => ga K "_law_names", "_law_names", "_law_names", C8.fnArgs s_l_names, C8.fnBody s_l_names, C8.fnScope s_l_names⟩, ⟨fun K => ga K "_law_rows", "_law_rows", "_law_rows", C8.fnArgs s_l_rows, C8.fnBody s_l_rows, C8.fnScope s_l_rows⟩, ⟨fun K => ga K "is_number", "is_number", "is_number", C8.fnArgs s_is_number, C8.fnBody s_is_number, C8.fnScope s_is_number⟩, ⟨fun K => ga K "is_literal", "is_literal", "is_literal", C8.fnArgs s_is_literal, C8.fnBody s_is_literal, C8.fnScope s_is_literal⟩, ⟨fun K => ga K "is_word", "is_word", "is_word", C8.fnArgs s_is_word, C8.fnBody s_is_word, C8.fnScope s_is_word⟩, ⟨fun K => ga K "is_label", "is_label", "is_label", C8.fnArgs s_is_label, C8.fnBody s_is_label, C8.fnScope s_is_label⟩, ⟨fun K => ga K "are_different", "are_different", "are_different", C8.fnArgs s_are_different, C8.fnBody s_are_different, C8.fnScope s_are_different⟩, ⟨fun K => ga K "are_labels", "are_labels", "are_labels", C8.fnArgs s_are_labels, C8.fnBody s_are_labels, C8.fnScope s_are_labels⟩, ⟨fun K => ga K "is_over", "is_over", "is_over", C8.fnArgs s_is_over, C8.fnBody s_is_over, C8.fnScope s_is_over⟩, ⟨fun K => ga K "are_rows", "are_rows", "are_rows", C8.fnArgs s_are_rows, C8.fnBody s_are_rows, C8.fnScope s_are_rows⟩, ⟨fun K => ga K "shortened", "shortened", "shortened", C8.fnArgs s_shortened, C8.fnBody s_shortened, C8.fnScope s_shortened⟩, ⟨fun K => ga K "met", "met", "met", C8.fnArgs s_met, C8.fnBody s_met, C8.fnScope s_met⟩, ⟨fun K => ga K "met_all", "met_all", "met_all", C8.fnArgs s_met_all, C8.fnBody s_met_all, C8.fnScope s_met_all⟩, ⟨fun K => ga K "whole", "whole", "whole", C8.fnArgs s_whole, C8.fnBody s_whole, C8.fnScope s_whole⟩, ⟨fun K => ga K "is_inside", "is_inside", "is_inside", C8.fnArgs s_is_inside, C8.fnBody s_is_inside, C8.fnScope s_is_inside⟩, ⟨fun K => ga K "opened", "opened", "opened", C8.fnArgs s_opened, C8.fnBody s_opened, C8.fnScope s_opened⟩, ⟨fun K => ga K "is_part_inside", "is_part_inside", "is_part_inside", C8.fnArgs s_is_part_inside, C8.fnBody s_is_part_inside, C8.fnScope s_is_part_inside⟩, ⟨fun K => ga K "is_inside_one", "is_inside_one", "is_inside_one", C8.fnArgs s_is_inside_one, C8.fnBody s_is_inside_one, C8.fnScope s_is_inside_one⟩, ⟨fun K => ga K "trimmed", "trimmed", "trimmed", C8.fnArgs s_trimmed, C8.fnBody s_trimmed, C8.fnScope s_trimmed⟩, ⟨fun K => ga K "of_rows", "of_rows", "of_rows", C8.fnArgs s_of_rows, C8.fnBody s_of_rows, C8.fnScope s_of_rows⟩, ⟨fun K => ga K "most_apart", "most_apart", "most_apart", C8.fnArgs s_most_apart, C8.fnBody s_most_apart, C8.fnScope s_most_apart⟩, ⟨fun K => ga K "check_term", "check_term", "check_term", C8.fnArgs s_check_term, C8.fnBody s_check_term, C8.fnScope s_check_term⟩, ⟨fun K => ga K "check_literals", "check_literals", "check_literals", C8.fnArgs Q1.s_check_literals, C8.fnBody Q1.s_check_literals, C8.fnScope Q1.s_check_literals⟩, ⟨fun K => ga K "lower_once", "lower_once", "lower_once", C8.fnArgs Q1.s_lower_once, C8.fnBody Q1.s_lower_once, C8.fnScope Q1.s_lower_once⟩, ⟨fun K => ga K "ring_behind", "ring_behind", "ring_behind", C8.fnArgs Q1.s_ring_behind, C8.fnBody Q1.s_ring_behind, C8.fnScope Q1.s_ring_behind⟩, ⟨fun K => ga K "solved", "solved", "solved", C8.fnArgs Q1.s_solved, C8.fnBody Q1.s_solved, C8.fnScope Q1.s_solved⟩, ⟨fun K => ga K "_law_bound", "_law_bound", "_law_bound", C8.fnArgs s_l_bound, C8.fnBody s_l_bound, C8.fnScope s_l_bound⟩, ⟨fun K => ga K "_law_open", "_law_open", "_law_open", C8.fnArgs s_l_open, C8.fnBody s_l_open, C8.fnScope s_l_open⟩, ⟨fun K => ga K "law", "law", "law", C8.fnArgs s_law, C8.fnBody s_law, C8.fnScope s_law⟩, ⟨fun K => ma K (ga K "Cover") "__init__", "__init__", "Cover.__init__", C8.fnArgs s_Cover_init, C8.fnBody s_Cover_init, C8.fnScope s_Cover_init⟩, ⟨fun K => ma K (ga K "States") "__init__", "__init__", "States.__init__", C8.fnArgs s_States_init, C8.fnBody s_States_init, C8.fnScope s_States_init⟩, ⟨fun K => ma K (ga K "States") "_covered", "_covered", "States._covered", C8.fnArgs s_States__covered, C8.fnBody s_States__covered, C8.fnScope s_States__covered⟩, ⟨fun K => ma K (ga K "States") "_index", "_index", "States._index", C8.fnArgs s_States__index, C8.fnBody s_States__index, C8.fnScope s_States__index⟩, ⟨fun K => ma K (ga K "States") "is_empty", "is_empty", "States.is_empty", C8.fnArgs s_States_is_empty, C8.fnBody s_States_is_empty, C8.fnScope s_States_is_empty⟩, ⟨fun K => ma K (ga K "States") "bound", "bound", "States.bound", C8.fnArgs s_States_bound, C8.fnBody s_States_bound, C8.fnScope s_States_bound⟩]
def tsX : List Tab := [(fun K => ga K "BARRED", barred)]
theorem facts {l : PySem.W.OpenLaw} {w : World} {K : PySem.W.Frag} {h : Heap} {mg : Str → Option Value} {fa : Addr} (X : K.In h) (G : h.Ns mainGlobals mg) (hfa : mg ("law" : Str) = some (.ref fa)) (c : Hy.obsY BX fnX tsX K = Hy.valY fnX tsX w) :
    ∃ fd : FuncData, (∀ (s : Shared) (v : Value), BindsTo s fd ⟨[v], []⟩ [("_law_script", v)]) ∧ ∀ base : Heap, K.In base → base.Ns mainGlobals mg → FnOk l.prog w K mg base C8.CX0 9 fa fd ["_law_script"] (spLaw K) := by
  have hB := Hy.says_fact c
  obtain ⟨hf, mm⟩ := ba (show ((faX.all fun f => f.ok K) && moreX K) = true from hB)
  have fact : ∀ (i : Nat) {f : Fa}, faX[i]? = some f → f.ok K = true := fun i {f} h => List.all_eq_true.mp hf f (List.mem_of_getElem? h)
  obtain ⟨m0, mm⟩ := ba mm
  have e := hfa.symm.trans (glo_ok X G (fact 31 (f := .glo "law") rfl))
  cases e
  have BB_BARRED : Kd.SD K w (ga K "BARRED") barred := Hy.says_tab c 0 (t := (fun K => ga K "BARRED", barred)) rfl
  have T : Txt K mg (ga K "Cover") (ga K "States") (ga K "BARRED") := { g_Cover := (glo_ok X G (fact 32 (f := .glo "Cover") rfl)), g_States := (glo_ok X G (fact 33 (f := .glo "States") rfl)), cC := cls_ok (fact 54 (f := .cls "Cover") rfl), cS := cls_ok (fact 55 (f := .cls "States") rfl), nC := noat_ok (fact 56 (f := .noat "Cover" "parts") rfl), nS := ⟨noat_ok (fact 57 (f := .noat "States" "names") rfl), noat_ok (fact 58 (f := .noat "States" "_cover") rfl)⟩, c_LONGEST := (by obtain ⟨t, h⟩ := int_ok X G (fact 36 (f := .int "LONGEST" 8) rfl); exact ⟨_, h, t, rfl⟩), c_MOST_PAIRS := (by obtain ⟨t, h⟩ := int_ok X G (fact 37 (f := .int "MOST_PAIRS" 100000) rfl); exact ⟨_, h, t, rfl⟩), c_BARRED := ⟨_, (glo_ok X G (fact 34 (f := .glo "BARRED") rfl)), rfl⟩, z_isinstance := free_ok X G (fact 39 (f := .free "isinstance") rfl), z_len := free_ok X G (fact 40 (f := .free "len") rfl), z_int := free_ok X G (fact 41 (f := .free "int") rfl), z_bool := free_ok X G (fact 42 (f := .free "bool") rfl), z_str := free_ok X G (fact 43 (f := .free "str") rfl), z_tuple := free_ok X G (fact 44 (f := .free "tuple") rfl), z_list := free_ok X G (fact 45 (f := .free "list") rfl), z_dict := free_ok X G (fact 46 (f := .free "dict") rfl), z_set := free_ok X G (fact 47 (f := .free "set") rfl), z_range := free_ok X G (fact 48 (f := .free "range") rfl), z_enumerate := free_ok X G (fact 49 (f := .free "enumerate") rfl), z_zip := free_ok X G (fact 50 (f := .free "zip") rfl), z_sorted := free_ok X G (fact 51 (f := .free "sorted") rfl), z_all := free_ok X G (fact 52 (f := .free "all") rfl), z_any := free_ok X G (fact 53 (f := .free "any") rfl) }
  have TQ : Q1.Txt mg := { c_MOST_LITERALS := (by obtain ⟨t, h⟩ := int_ok X G (fact 38 (f := .int "MOST_LITERALS" 300) rfl); exact ⟨_, h, t, rfl⟩), z_isinstance := free_ok X G (fact 39 (f := .free "isinstance") rfl), z_len := free_ok X G (fact 40 (f := .free "len") rfl), z_int := free_ok X G (fact 41 (f := .free "int") rfl), z_bool := free_ok X G (fact 42 (f := .free "bool") rfl), z_tuple := free_ok X G (fact 44 (f := .free "tuple") rfl), z_list := free_ok X G (fact 45 (f := .free "list") rfl), z_str := free_ok X G (fact 43 (f := .free "str") rfl), z_set := free_ok X G (fact 47 (f := .free "set") rfl), z_range := free_ok X G (fact 48 (f := .free "range") rfl), z_enumerate := free_ok X G (fact 49 (f := .free "enumerate") rfl), z_sorted := free_ok X G (fact 51 (f := .free "sorted") rfl), z_dict := free_ok X G (fact 46 (f := .free "dict") rfl) }
  have xx := exc_ok (fact 65 (f := .exc "NoStates") rfl)
  have TN : TxtN K mg (ga K "NoStates") := ⟨(glo_ok X G (fact 35 (f := .glo "NoStates") rfl)), xx.1, xx.2.1, xx.2.2.1, xx.2.2.2, exm_ok (fact 66 (f := .exm "NoStates" "NoStates" true) rfl)⟩
  obtain ⟨oc0, od0, kV0, dc0, pm0, an0, cd0, ct0, sl0, l0, c0, k0⟩ := Hy.says_fun c 0 (d := ⟨fun K => ga K "_law_well", "_law_well", "_law_well", C8.fnArgs s_l_well, C8.fnBody s_l_well, C8.fnScope s_l_well⟩) rfl
  have F0 : C8.Fun K "_law_well" "_law_well" s_l_well (ga K "_law_well") _ := ⟨⟨_, _, _, _, _, _, _, _, _, _, rfl, l0, c0⟩⟩
  have D0 : C8.Def K mg "_law_well" s_l_well (ga K "_law_well") _ := ⟨F0, (glo_ok X G (fact 0 (f := .glo "_law_well") rfl)), k0⟩
  have b0 : Binds K _ ["_law_cell"] [] := C8.Fun.binds F0 rfl fun _ _ _ _ _ _ us hl => match us, hl with | [_], _ => rfl
  obtain ⟨oc1, od1, kV1, dc1, pm1, an1, cd1, ct1, sl1, l1, c1, k1⟩ := Hy.says_fun c 1 (d := ⟨fun K => ga K "_law_draw", "_law_draw", "_law_draw", C8.fnArgs s_l_draw, C8.fnBody s_l_draw, C8.fnScope s_l_draw⟩) rfl
  have F1 : C8.Fun K "_law_draw" "_law_draw" s_l_draw (ga K "_law_draw") _ := ⟨⟨_, _, _, _, _, _, _, _, _, _, rfl, l1, c1⟩⟩
  have D1 : C8.Def K mg "_law_draw" s_l_draw (ga K "_law_draw") _ := ⟨F1, (glo_ok X G (fact 1 (f := .glo "_law_draw") rfl)), k1⟩
  have b1 : Binds K _ ["_law_well_here", "_law_base"] [] := C8.Fun.binds F1 rfl fun _ _ _ _ _ _ us hl => match us, hl with | [_, _], _ => rfl
  obtain ⟨oc2, od2, kV2, dc2, pm2, an2, cd2, ct2, sl2, l2, c2, k2⟩ := Hy.says_fun c 2 (d := ⟨fun K => ga K "_law_one", "_law_one", "_law_one", C8.fnArgs s_l_one, C8.fnBody s_l_one, C8.fnScope s_l_one⟩) rfl
  have F2 : C8.Fun K "_law_one" "_law_one" s_l_one (ga K "_law_one") _ := ⟨⟨_, _, _, _, _, _, _, _, _, _, rfl, l2, c2⟩⟩
  have D2 : C8.Def K mg "_law_one" s_l_one (ga K "_law_one") _ := ⟨F2, (glo_ok X G (fact 2 (f := .glo "_law_one") rfl)), k2⟩
  have b2 : Binds K _ ["_law_well_here", "_law_some"] [] := C8.Fun.binds F2 rfl fun _ _ _ _ _ _ us hl => match us, hl with | [_, _], _ => rfl
  obtain ⟨oc3, od3, kV3, dc3, pm3, an3, cd3, ct3, sl3, l3, c3, k3⟩ := Hy.says_fun c 3 (d := ⟨fun K => ga K "_law_names", "_law_names", "_law_names", C8.fnArgs s_l_names, C8.fnBody s_l_names, C8.fnScope s_l_names⟩) rfl
  have F3 : C8.Fun K "_law_names" "_law_names" s_l_names (ga K "_law_names") _ := ⟨⟨_, _, _, _, _, _, _, _, _, _, rfl, l3, c3⟩⟩
  have D3 : C8.Def K mg "_law_names" s_l_names (ga K "_law_names") _ := ⟨F3, (glo_ok X G (fact 3 (f := .glo "_law_names") rfl)), k3⟩
  have b3 : Binds K _ ["_law_well_here", "_law_many"] [] := C8.Fun.binds F3 rfl fun _ _ _ _ _ _ us hl => match us, hl with | [_, _], _ => rfl
  obtain ⟨oc4, od4, kV4, dc4, pm4, an4, cd4, ct4, sl4, l4, c4, k4⟩ := Hy.says_fun c 4 (d := ⟨fun K => ga K "_law_rows", "_law_rows", "_law_rows", C8.fnArgs s_l_rows, C8.fnBody s_l_rows, C8.fnScope s_l_rows⟩) rfl
  have F4 : C8.Fun K "_law_rows" "_law_rows" s_l_rows (ga K "_law_rows") _ := ⟨⟨_, _, _, _, _, _, _, _, _, _, rfl, l4, c4⟩⟩
  have D4 : C8.Def K mg "_law_rows" s_l_rows (ga K "_law_rows") _ := ⟨F4, (glo_ok X G (fact 4 (f := .glo "_law_rows") rfl)), k4⟩
  have b4 : Binds K _ ["_law_well_here", "_law_names_here", "_law_many", "_law_most"] [] := C8.Fun.binds F4 rfl fun _ _ _ _ _ _ us hl => match us, hl with | [_, _, _, _], _ => rfl
  obtain ⟨oc5, od5, kV5, dc5, pm5, an5, cd5, ct5, sl5, l5, c5, k5⟩ := Hy.says_fun c 5 (d := ⟨fun K => ga K "is_number", "is_number", "is_number", C8.fnArgs s_is_number, C8.fnBody s_is_number, C8.fnScope s_is_number⟩) rfl
  have F5 : C8.Fun K "is_number" "is_number" s_is_number (ga K "is_number") _ := ⟨⟨_, _, _, _, _, _, _, _, _, _, rfl, l5, c5⟩⟩
  have D5 : C8.Def K mg "is_number" s_is_number (ga K "is_number") _ := ⟨F5, (glo_ok X G (fact 5 (f := .glo "is_number") rfl)), k5⟩
  have b5 : Binds K _ ["thing"] [] := C8.Fun.binds F5 rfl fun _ _ _ _ _ _ us hl => match us, hl with | [_], _ => rfl
  obtain ⟨oc6, od6, kV6, dc6, pm6, an6, cd6, ct6, sl6, l6, c6, k6⟩ := Hy.says_fun c 6 (d := ⟨fun K => ga K "is_literal", "is_literal", "is_literal", C8.fnArgs s_is_literal, C8.fnBody s_is_literal, C8.fnScope s_is_literal⟩) rfl
  have F6 : C8.Fun K "is_literal" "is_literal" s_is_literal (ga K "is_literal") _ := ⟨⟨_, _, _, _, _, _, _, _, _, _, rfl, l6, c6⟩⟩
  have D6 : C8.Def K mg "is_literal" s_is_literal (ga K "is_literal") _ := ⟨F6, (glo_ok X G (fact 6 (f := .glo "is_literal") rfl)), k6⟩
  have b6 : Binds K _ ["thing"] [] := C8.Fun.binds F6 rfl fun _ _ _ _ _ _ us hl => match us, hl with | [_], _ => rfl
  obtain ⟨oc7, od7, kV7, dc7, pm7, an7, cd7, ct7, sl7, l7, c7, k7⟩ := Hy.says_fun c 7 (d := ⟨fun K => ga K "is_word", "is_word", "is_word", C8.fnArgs s_is_word, C8.fnBody s_is_word, C8.fnScope s_is_word⟩) rfl
  have F7 : C8.Fun K "is_word" "is_word" s_is_word (ga K "is_word") _ := ⟨⟨_, _, _, _, _, _, _, _, _, _, rfl, l7, c7⟩⟩
  have D7 : C8.Def K mg "is_word" s_is_word (ga K "is_word") _ := ⟨F7, (glo_ok X G (fact 7 (f := .glo "is_word") rfl)), k7⟩
  have b7 : Binds K _ ["thing"] [] := C8.Fun.binds F7 rfl fun _ _ _ _ _ _ us hl => match us, hl with | [_], _ => rfl
  obtain ⟨oc8, od8, kV8, dc8, pm8, an8, cd8, ct8, sl8, l8, c8, k8⟩ := Hy.says_fun c 8 (d := ⟨fun K => ga K "is_label", "is_label", "is_label", C8.fnArgs s_is_label, C8.fnBody s_is_label, C8.fnScope s_is_label⟩) rfl
  have F8 : C8.Fun K "is_label" "is_label" s_is_label (ga K "is_label") _ := ⟨⟨_, _, _, _, _, _, _, _, _, _, rfl, l8, c8⟩⟩
  have D8 : C8.Def K mg "is_label" s_is_label (ga K "is_label") _ := ⟨F8, (glo_ok X G (fact 8 (f := .glo "is_label") rfl)), k8⟩
  have b8 : Binds K _ ["thing"] [] := C8.Fun.binds F8 rfl fun _ _ _ _ _ _ us hl => match us, hl with | [_], _ => rfl
  obtain ⟨oc9, od9, kV9, dc9, pm9, an9, cd9, ct9, sl9, l9, c9, k9⟩ := Hy.says_fun c 9 (d := ⟨fun K => ga K "are_different", "are_different", "are_different", C8.fnArgs s_are_different, C8.fnBody s_are_different, C8.fnScope s_are_different⟩) rfl
  have F9 : C8.Fun K "are_different" "are_different" s_are_different (ga K "are_different") _ := ⟨⟨_, _, _, _, _, _, _, _, _, _, rfl, l9, c9⟩⟩
  have D9 : C8.Def K mg "are_different" s_are_different (ga K "are_different") _ := ⟨F9, (glo_ok X G (fact 9 (f := .glo "are_different") rfl)), k9⟩
  have b9 : Binds K _ ["things"] [] := C8.Fun.binds F9 rfl fun _ _ _ _ _ _ us hl => match us, hl with | [_], _ => rfl
  obtain ⟨oc10, od10, kV10, dc10, pm10, an10, cd10, ct10, sl10, l10, c10, k10⟩ := Hy.says_fun c 10 (d := ⟨fun K => ga K "are_labels", "are_labels", "are_labels", C8.fnArgs s_are_labels, C8.fnBody s_are_labels, C8.fnScope s_are_labels⟩) rfl
  have F10 : C8.Fun K "are_labels" "are_labels" s_are_labels (ga K "are_labels") _ := ⟨⟨_, _, _, _, _, _, _, _, _, _, rfl, l10, c10⟩⟩
  have D10 : C8.Def K mg "are_labels" s_are_labels (ga K "are_labels") _ := ⟨F10, (glo_ok X G (fact 10 (f := .glo "are_labels") rfl)), k10⟩
  have b10 : Binds K _ ["thing"] [] := C8.Fun.binds F10 rfl fun _ _ _ _ _ _ us hl => match us, hl with | [_], _ => rfl
  obtain ⟨oc11, od11, kV11, dc11, pm11, an11, cd11, ct11, sl11, l11, c11, k11⟩ := Hy.says_fun c 11 (d := ⟨fun K => ga K "is_over", "is_over", "is_over", C8.fnArgs s_is_over, C8.fnBody s_is_over, C8.fnScope s_is_over⟩) rfl
  have F11 : C8.Fun K "is_over" "is_over" s_is_over (ga K "is_over") _ := ⟨⟨_, _, _, _, _, _, _, _, _, _, rfl, l11, c11⟩⟩
  have D11 : C8.Def K mg "is_over" s_is_over (ga K "is_over") _ := ⟨F11, (glo_ok X G (fact 11 (f := .glo "is_over") rfl)), k11⟩
  have b11 : Binds K _ ["literal", "names"] [] := C8.Fun.binds F11 rfl fun _ _ _ _ _ _ us hl => match us, hl with | [_, _], _ => rfl
  obtain ⟨oc12, od12, kV12, dc12, pm12, an12, cd12, ct12, sl12, l12, c12, k12⟩ := Hy.says_fun c 12 (d := ⟨fun K => ga K "are_rows", "are_rows", "are_rows", C8.fnArgs s_are_rows, C8.fnBody s_are_rows, C8.fnScope s_are_rows⟩) rfl
  have F12 : C8.Fun K "are_rows" "are_rows" s_are_rows (ga K "are_rows") _ := ⟨⟨_, _, _, _, _, _, _, _, _, _, rfl, l12, c12⟩⟩
  have D12 : C8.Def K mg "are_rows" s_are_rows (ga K "are_rows") _ := ⟨F12, (glo_ok X G (fact 12 (f := .glo "are_rows") rfl)), k12⟩
  have b12 : Binds K _ ["rows", "names"] [] := C8.Fun.binds F12 rfl fun _ _ _ _ _ _ us hl => match us, hl with | [_, _], _ => rfl
  obtain ⟨oc13, od13, kV13, dc13, pm13, an13, cd13, ct13, sl13, l13, c13, k13⟩ := Hy.says_fun c 13 (d := ⟨fun K => ga K "shortened", "shortened", "shortened", C8.fnArgs s_shortened, C8.fnBody s_shortened, C8.fnScope s_shortened⟩) rfl
  have F13 : C8.Fun K "shortened" "shortened" s_shortened (ga K "shortened") _ := ⟨⟨_, _, _, _, _, _, _, _, _, _, rfl, l13, c13⟩⟩
  have D13 : C8.Def K mg "shortened" s_shortened (ga K "shortened") _ := ⟨F13, (glo_ok X G (fact 13 (f := .glo "shortened") rfl)), k13⟩
  have b13 : Binds K _ ["row", "start", "tail"] [] := C8.Fun.binds F13 rfl fun _ _ _ _ _ _ us hl => match us, hl with | [_, _, _], _ => rfl
  obtain ⟨oc14, od14, kV14, dc14, pm14, an14, cd14, ct14, sl14, l14, c14, k14⟩ := Hy.says_fun c 14 (d := ⟨fun K => ga K "met", "met", "met", C8.fnArgs s_met, C8.fnBody s_met, C8.fnScope s_met⟩) rfl
  have F14 : C8.Fun K "met" "met" s_met (ga K "met") _ := ⟨⟨_, _, _, _, _, _, _, _, _, _, rfl, l14, c14⟩⟩
  have D14 : C8.Def K mg "met" s_met (ga K "met") _ := ⟨F14, (glo_ok X G (fact 14 (f := .glo "met") rfl)), k14⟩
  have b14 : Binds K _ ["zone", "literal"] [] := C8.Fun.binds F14 rfl fun _ _ _ _ _ _ us hl => match us, hl with | [_, _], _ => rfl
  obtain ⟨oc15, od15, kV15, dc15, pm15, an15, cd15, ct15, sl15, l15, c15, k15⟩ := Hy.says_fun c 15 (d := ⟨fun K => ga K "met_all", "met_all", "met_all", C8.fnArgs s_met_all, C8.fnBody s_met_all, C8.fnScope s_met_all⟩) rfl
  have F15 : C8.Fun K "met_all" "met_all" s_met_all (ga K "met_all") _ := ⟨⟨_, _, _, _, _, _, _, _, _, _, rfl, l15, c15⟩⟩
  have D15 : C8.Def K mg "met_all" s_met_all (ga K "met_all") _ := ⟨F15, (glo_ok X G (fact 15 (f := .glo "met_all") rfl)), k15⟩
  have b15 : Binds K _ ["zone", "literals"] [] := C8.Fun.binds F15 rfl fun _ _ _ _ _ _ us hl => match us, hl with | [_, _], _ => rfl
  obtain ⟨oc16, od16, kV16, dc16, pm16, an16, cd16, ct16, sl16, l16, c16, k16⟩ := Hy.says_fun c 16 (d := ⟨fun K => ga K "whole", "whole", "whole", C8.fnArgs s_whole, C8.fnBody s_whole, C8.fnScope s_whole⟩) rfl
  have F16 : C8.Fun K "whole" "whole" s_whole (ga K "whole") _ := ⟨⟨_, _, _, _, _, _, _, _, _, _, rfl, l16, c16⟩⟩
  have D16 : C8.Def K mg "whole" s_whole (ga K "whole") _ := ⟨F16, (glo_ok X G (fact 16 (f := .glo "whole") rfl)), k16⟩
  have b16 : Binds K _ ["many"] [] := C8.Fun.binds F16 rfl fun _ _ _ _ _ _ us hl => match us, hl with | [_], _ => rfl
  obtain ⟨oc17, od17, kV17, dc17, pm17, an17, cd17, ct17, sl17, l17, c17, k17⟩ := Hy.says_fun c 17 (d := ⟨fun K => ga K "is_inside", "is_inside", "is_inside", C8.fnArgs s_is_inside, C8.fnBody s_is_inside, C8.fnScope s_is_inside⟩) rfl
  have F17 : C8.Fun K "is_inside" "is_inside" s_is_inside (ga K "is_inside") _ := ⟨⟨_, _, _, _, _, _, _, _, _, _, rfl, l17, c17⟩⟩
  have D17 : C8.Def K mg "is_inside" s_is_inside (ga K "is_inside") _ := ⟨F17, (glo_ok X G (fact 17 (f := .glo "is_inside") rfl)), k17⟩
  have b17 : Binds K _ ["zone", "other"] [] := C8.Fun.binds F17 rfl fun _ _ _ _ _ _ us hl => match us, hl with | [_, _], _ => rfl
  obtain ⟨oc18, od18, kV18, dc18, pm18, an18, cd18, ct18, sl18, l18, c18, k18⟩ := Hy.says_fun c 18 (d := ⟨fun K => ga K "opened", "opened", "opened", C8.fnArgs s_opened, C8.fnBody s_opened, C8.fnScope s_opened⟩) rfl
  have F18 : C8.Fun K "opened" "opened" s_opened (ga K "opened") _ := ⟨⟨_, _, _, _, _, _, _, _, _, _, rfl, l18, c18⟩⟩
  have D18 : C8.Def K mg "opened" s_opened (ga K "opened") _ := ⟨F18, (glo_ok X G (fact 18 (f := .glo "opened") rfl)), k18⟩
  have b18 : Binds K _ ["part"] [] := C8.Fun.binds F18 rfl fun _ _ _ _ _ _ us hl => match us, hl with | [_], _ => rfl
  obtain ⟨oc19, od19, kV19, dc19, pm19, an19, cd19, ct19, sl19, l19, c19, k19⟩ := Hy.says_fun c 19 (d := ⟨fun K => ga K "is_part_inside", "is_part_inside", "is_part_inside", C8.fnArgs s_is_part_inside, C8.fnBody s_is_part_inside, C8.fnScope s_is_part_inside⟩) rfl
  have F19 : C8.Fun K "is_part_inside" "is_part_inside" s_is_part_inside (ga K "is_part_inside") _ := ⟨⟨_, _, _, _, _, _, _, _, _, _, rfl, l19, c19⟩⟩
  have D19 : C8.Def K mg "is_part_inside" s_is_part_inside (ga K "is_part_inside") _ := ⟨F19, (glo_ok X G (fact 19 (f := .glo "is_part_inside") rfl)), k19⟩
  have b19 : Binds K _ ["part", "other"] [] := C8.Fun.binds F19 rfl fun _ _ _ _ _ _ us hl => match us, hl with | [_, _], _ => rfl
  obtain ⟨oc20, od20, kV20, dc20, pm20, an20, cd20, ct20, sl20, l20, c20, k20⟩ := Hy.says_fun c 20 (d := ⟨fun K => ga K "is_inside_one", "is_inside_one", "is_inside_one", C8.fnArgs s_is_inside_one, C8.fnBody s_is_inside_one, C8.fnScope s_is_inside_one⟩) rfl
  have F20 : C8.Fun K "is_inside_one" "is_inside_one" s_is_inside_one (ga K "is_inside_one") _ := ⟨⟨_, _, _, _, _, _, _, _, _, _, rfl, l20, c20⟩⟩
  have D20 : C8.Def K mg "is_inside_one" s_is_inside_one (ga K "is_inside_one") _ := ⟨F20, (glo_ok X G (fact 20 (f := .glo "is_inside_one") rfl)), k20⟩
  have b20 : Binds K _ ["part", "others"] [] := C8.Fun.binds F20 rfl fun _ _ _ _ _ _ us hl => match us, hl with | [_, _], _ => rfl
  obtain ⟨oc21, od21, kV21, dc21, pm21, an21, cd21, ct21, sl21, l21, c21, k21⟩ := Hy.says_fun c 21 (d := ⟨fun K => ga K "trimmed", "trimmed", "trimmed", C8.fnArgs s_trimmed, C8.fnBody s_trimmed, C8.fnScope s_trimmed⟩) rfl
  have F21 : C8.Fun K "trimmed" "trimmed" s_trimmed (ga K "trimmed") _ := ⟨⟨_, _, _, _, _, _, _, _, _, _, rfl, l21, c21⟩⟩
  have D21 : C8.Def K mg "trimmed" s_trimmed (ga K "trimmed") _ := ⟨F21, (glo_ok X G (fact 21 (f := .glo "trimmed") rfl)), k21⟩
  have b21 : Binds K _ ["parts"] [] := C8.Fun.binds F21 rfl fun _ _ _ _ _ _ us hl => match us, hl with | [_], _ => rfl
  obtain ⟨oc22, od22, kV22, dc22, pm22, an22, cd22, ct22, sl22, l22, c22, k22⟩ := Hy.says_fun c 22 (d := ⟨fun K => ga K "of_rows", "of_rows", "of_rows", C8.fnArgs s_of_rows, C8.fnBody s_of_rows, C8.fnScope s_of_rows⟩) rfl
  have F22 : C8.Fun K "of_rows" "of_rows" s_of_rows (ga K "of_rows") _ := ⟨⟨_, _, _, _, _, _, _, _, _, _, rfl, l22, c22⟩⟩
  have D22 : C8.Def K mg "of_rows" s_of_rows (ga K "of_rows") _ := ⟨F22, (glo_ok X G (fact 22 (f := .glo "of_rows") rfl)), k22⟩
  have b22 : Binds K _ ["rows", "many"] [] := C8.Fun.binds F22 rfl fun _ _ _ _ _ _ us hl => match us, hl with | [_, _], _ => rfl
  obtain ⟨oc23, od23, kV23, dc23, pm23, an23, cd23, ct23, sl23, l23, c23, k23⟩ := Hy.says_fun c 23 (d := ⟨fun K => ga K "most_apart", "most_apart", "most_apart", C8.fnArgs s_most_apart, C8.fnBody s_most_apart, C8.fnScope s_most_apart⟩) rfl
  have F23 : C8.Fun K "most_apart" "most_apart" s_most_apart (ga K "most_apart") _ := ⟨⟨_, _, _, _, _, _, _, _, _, _, rfl, l23, c23⟩⟩
  have D23 : C8.Def K mg "most_apart" s_most_apart (ga K "most_apart") _ := ⟨F23, (glo_ok X G (fact 23 (f := .glo "most_apart") rfl)), k23⟩
  have b23 : Binds K _ ["parts", "i", "j"] [] := C8.Fun.binds F23 rfl fun _ _ _ _ _ _ us hl => match us, hl with | [_, _, _], _ => rfl
  obtain ⟨oc24, od24, kV24, dc24, pm24, an24, cd24, ct24, sl24, l24, c24, k24⟩ := Hy.says_fun c 24 (d := ⟨fun K => ga K "check_term", "check_term", "check_term", C8.fnArgs s_check_term, C8.fnBody s_check_term, C8.fnScope s_check_term⟩) rfl
  have F24 : C8.Fun K "check_term" "check_term" s_check_term (ga K "check_term") _ := ⟨⟨_, _, _, _, _, _, _, _, _, _, rfl, l24, c24⟩⟩
  have D24 : C8.Def K mg "check_term" s_check_term (ga K "check_term") _ := ⟨F24, (glo_ok X G (fact 24 (f := .glo "check_term") rfl)), k24⟩
  have b24 : Binds K _ ["term", "names"] [] := C8.Fun.binds F24 rfl fun _ _ _ _ _ _ us hl => match us, hl with | [_, _], _ => rfl
  obtain ⟨oc25, od25, kV25, dc25, pm25, an25, cd25, ct25, sl25, l25, c25, k25⟩ := Hy.says_fun c 25 (d := ⟨fun K => ga K "check_literals", "check_literals", "check_literals", C8.fnArgs Q1.s_check_literals, C8.fnBody Q1.s_check_literals, C8.fnScope Q1.s_check_literals⟩) rfl
  have F25 : C8.Fun K "check_literals" "check_literals" Q1.s_check_literals (ga K "check_literals") _ := ⟨⟨_, _, _, _, _, _, _, _, _, _, rfl, l25, c25⟩⟩
  have D25 : C8.Def K mg "check_literals" Q1.s_check_literals (ga K "check_literals") _ := ⟨F25, (glo_ok X G (fact 25 (f := .glo "check_literals") rfl)), k25⟩
  have b25 : Binds K _ ["literals"] [] := C8.Fun.binds F25 rfl fun _ _ _ _ _ _ us hl => match us, hl with | [_], _ => rfl
  obtain ⟨oc26, od26, kV26, dc26, pm26, an26, cd26, ct26, sl26, l26, c26, k26⟩ := Hy.says_fun c 26 (d := ⟨fun K => ga K "lower_once", "lower_once", "lower_once", C8.fnArgs Q1.s_lower_once, C8.fnBody Q1.s_lower_once, C8.fnScope Q1.s_lower_once⟩) rfl
  have F26 : C8.Fun K "lower_once" "lower_once" Q1.s_lower_once (ga K "lower_once") _ := ⟨⟨_, _, _, _, _, _, _, _, _, _, rfl, l26, c26⟩⟩
  have D26 : C8.Def K mg "lower_once" Q1.s_lower_once (ga K "lower_once") _ := ⟨F26, (glo_ok X G (fact 26 (f := .glo "lower_once") rfl)), k26⟩
  have b26 : Binds K _ ["literals", "heights", "lowered_by"] [] := C8.Fun.binds F26 rfl fun _ _ _ _ _ _ us hl => match us, hl with | [_, _, _], _ => rfl
  obtain ⟨oc27, od27, kV27, dc27, pm27, an27, cd27, ct27, sl27, l27, c27, k27⟩ := Hy.says_fun c 27 (d := ⟨fun K => ga K "ring_behind", "ring_behind", "ring_behind", C8.fnArgs Q1.s_ring_behind, C8.fnBody Q1.s_ring_behind, C8.fnScope Q1.s_ring_behind⟩) rfl
  have F27 : C8.Fun K "ring_behind" "ring_behind" Q1.s_ring_behind (ga K "ring_behind") _ := ⟨⟨_, _, _, _, _, _, _, _, _, _, rfl, l27, c27⟩⟩
  have D27 : C8.Def K mg "ring_behind" Q1.s_ring_behind (ga K "ring_behind") _ := ⟨F27, (glo_ok X G (fact 27 (f := .glo "ring_behind") rfl)), k27⟩
  have b27 : Binds K _ ["literals", "lowered_by", "term"] [] := C8.Fun.binds F27 rfl fun _ _ _ _ _ _ us hl => match us, hl with | [_, _, _], _ => rfl
  obtain ⟨oc28, od28, kV28, dc28, pm28, an28, cd28, ct28, sl28, l28, c28, k28⟩ := Hy.says_fun c 28 (d := ⟨fun K => ga K "solved", "solved", "solved", C8.fnArgs Q1.s_solved, C8.fnBody Q1.s_solved, C8.fnScope Q1.s_solved⟩) rfl
  have F28 : C8.Fun K "solved" "solved" Q1.s_solved (ga K "solved") _ := ⟨⟨_, _, _, _, _, _, _, _, _, _, rfl, l28, c28⟩⟩
  have D28 : C8.Def K mg "solved" Q1.s_solved (ga K "solved") _ := ⟨F28, (glo_ok X G (fact 28 (f := .glo "solved") rfl)), k28⟩
  have b28 : Binds K _ ["literals"] [] := C8.Fun.binds F28 rfl fun _ _ _ _ _ _ us hl => match us, hl with | [_], _ => rfl
  obtain ⟨oc29, od29, kV29, dc29, pm29, an29, cd29, ct29, sl29, l29, c29, k29⟩ := Hy.says_fun c 29 (d := ⟨fun K => ga K "_law_bound", "_law_bound", "_law_bound", C8.fnArgs s_l_bound, C8.fnBody s_l_bound, C8.fnScope s_l_bound⟩) rfl
  have F29 : C8.Fun K "_law_bound" "_law_bound" s_l_bound (ga K "_law_bound") _ := ⟨⟨_, _, _, _, _, _, _, _, _, _, rfl, l29, c29⟩⟩
  have D29 : C8.Def K mg "_law_bound" s_l_bound (ga K "_law_bound") _ := ⟨F29, (glo_ok X G (fact 29 (f := .glo "_law_bound") rfl)), k29⟩
  have b29 : Binds K _ ["_law_one_here", "_law_left", "_law_right"] [] := C8.Fun.binds F29 rfl fun _ _ _ _ _ _ us hl => match us, hl with | [_, _, _], _ => rfl
  obtain ⟨oc30, od30, kV30, dc30, pm30, an30, cd30, ct30, sl30, l30, c30, k30⟩ := Hy.says_fun c 30 (d := ⟨fun K => ga K "_law_open", "_law_open", "_law_open", C8.fnArgs s_l_open, C8.fnBody s_l_open, C8.fnScope s_l_open⟩) rfl
  have F30 : C8.Fun K "_law_open" "_law_open" s_l_open (ga K "_law_open") _ := ⟨⟨_, _, _, _, _, _, _, _, _, _, rfl, l30, c30⟩⟩
  have D30 : C8.Def K mg "_law_open" s_l_open (ga K "_law_open") _ := ⟨F30, (glo_ok X G (fact 30 (f := .glo "_law_open") rfl)), k30⟩
  have b30 : Binds K _ ["_law_rows_here", "_law_more"] [] := C8.Fun.binds F30 rfl fun _ _ _ _ _ _ us hl => match us, hl with | [_, _], _ => rfl
  obtain ⟨oc31, od31, kV31, dc31, pm31, an31, cd31, ct31, sl31, l31, c31, k31⟩ := Hy.says_fun c 31 (d := ⟨fun K => ga K "law", "law", "law", C8.fnArgs s_law, C8.fnBody s_law, C8.fnScope s_law⟩) rfl
  have F31 : C8.Fun K "law" "law" s_law (ga K "law") _ := ⟨⟨_, _, _, _, _, _, _, _, _, _, rfl, l31, c31⟩⟩
  obtain ⟨oc_vi, od_vi, kV_vi, dc_vi, pm_vi, an_vi, cd_vi, ct_vi, sl_vi, l_vi, c_vi, k_vi⟩ := Hy.says_fun c 32 (d := ⟨fun K => ma K (ga K "Cover") "__init__", "__init__", "Cover.__init__", C8.fnArgs s_Cover_init, C8.fnBody s_Cover_init, C8.fnScope s_Cover_init⟩) rfl
  have F_vi : C8.Fun K "__init__" "Cover.__init__" s_Cover_init (ma K (ga K "Cover") "__init__") _ := ⟨⟨_, _, _, _, _, _, _, _, _, _, rfl, l_vi, c_vi⟩⟩
  have b_vi : Binds K _ ["self", "parts"] [] := C8.Fun.binds F_vi rfl fun _ _ _ _ _ _ us hl => match us, hl with | [_, _], _ => rfl
  obtain ⟨oc_si, od_si, kV_si, dc_si, pm_si, an_si, cd_si, ct_si, sl_si, l_si, c_si, k_si⟩ := Hy.says_fun c 33 (d := ⟨fun K => ma K (ga K "States") "__init__", "__init__", "States.__init__", C8.fnArgs s_States_init, C8.fnBody s_States_init, C8.fnScope s_States_init⟩) rfl
  have F_si : C8.Fun K "__init__" "States.__init__" s_States_init (ma K (ga K "States") "__init__") _ := ⟨⟨_, _, _, _, _, _, _, _, _, _, rfl, l_si, c_si⟩⟩
  have b_si : Binds K _ ["self", "names", "rows"] [] := C8.Fun.binds F_si rfl fun _ _ _ _ _ _ us hl => match us, hl with | [_, _, _], _ => rfl
  obtain ⟨oc_cv, od_cv, kV_cv, dc_cv, pm_cv, an_cv, cd_cv, ct_cv, sl_cv, l_cv, c_cv, k_cv⟩ := Hy.says_fun c 34 (d := ⟨fun K => ma K (ga K "States") "_covered", "_covered", "States._covered", C8.fnArgs s_States__covered, C8.fnBody s_States__covered, C8.fnScope s_States__covered⟩) rfl
  have F_cv : C8.Fun K "_covered" "States._covered" s_States__covered (ma K (ga K "States") "_covered") _ := ⟨⟨_, _, _, _, _, _, _, _, _, _, rfl, l_cv, c_cv⟩⟩
  have b_cv : Binds K _ ["self", "rows"] [] := C8.Fun.binds F_cv rfl fun _ _ _ _ _ _ us hl => match us, hl with | [_, _], _ => rfl
  obtain ⟨oc_ix, od_ix, kV_ix, dc_ix, pm_ix, an_ix, cd_ix, ct_ix, sl_ix, l_ix, c_ix, k_ix⟩ := Hy.says_fun c 35 (d := ⟨fun K => ma K (ga K "States") "_index", "_index", "States._index", C8.fnArgs s_States__index, C8.fnBody s_States__index, C8.fnScope s_States__index⟩) rfl
  have F_ix : C8.Fun K "_index" "States._index" s_States__index (ma K (ga K "States") "_index") _ := ⟨⟨_, _, _, _, _, _, _, _, _, _, rfl, l_ix, c_ix⟩⟩
  have b_ix : Binds K _ ["self", "term"] [] := C8.Fun.binds F_ix rfl fun _ _ _ _ _ _ us hl => match us, hl with | [_, _], _ => rfl
  obtain ⟨oc_ie, od_ie, kV_ie, dc_ie, pm_ie, an_ie, cd_ie, ct_ie, sl_ie, l_ie, c_ie, k_ie⟩ := Hy.says_fun c 36 (d := ⟨fun K => ma K (ga K "States") "is_empty", "is_empty", "States.is_empty", C8.fnArgs s_States_is_empty, C8.fnBody s_States_is_empty, C8.fnScope s_States_is_empty⟩) rfl
  have F_ie : C8.Fun K "is_empty" "States.is_empty" s_States_is_empty (ma K (ga K "States") "is_empty") _ := ⟨⟨_, _, _, _, _, _, _, _, _, _, rfl, l_ie, c_ie⟩⟩
  have b_ie : Binds K _ ["self"] [] := C8.Fun.binds F_ie rfl fun _ _ _ _ _ _ us hl => match us, hl with | [_], _ => rfl
  obtain ⟨oc_bo, od_bo, kV_bo, dc_bo, pm_bo, an_bo, cd_bo, ct_bo, sl_bo, l_bo, c_bo, k_bo⟩ := Hy.says_fun c 37 (d := ⟨fun K => ma K (ga K "States") "bound", "bound", "States.bound", C8.fnArgs s_States_bound, C8.fnBody s_States_bound, C8.fnScope s_States_bound⟩) rfl
  have F_bo : C8.Fun K "bound" "States.bound" s_States_bound (ma K (ga K "States") "bound") _ := ⟨⟨_, _, _, _, _, _, _, _, _, _, rfl, l_bo, c_bo⟩⟩
  have b_bo : Binds K _ ["self", "left", "right"] [] := C8.Fun.binds F_bo rfl fun _ _ _ _ _ _ us hl => match us, hl with | [_, _, _], _ => rfl
  refine ⟨PySem.W.fnOf "law" "law" (C8.fnArgs s_law) (C8.fnBody s_law) (C8.fnScope s_law) .none kV31 dc31 pm31 an31 cd31 ct31, fun s v => .of_eq rfl, fun base _ _ => ?_⟩
  have Q_l_well : C8.Cal l.prog w K mg base 1 "_law_well" spWell [] := ok_l_well D0 b0 T
  have Q_l_draw : C8.Cal l.prog w K mg base 1 "_law_draw" spDraw [] := ok_l_draw D1 b1 T
  have Q_l_one : C8.Cal l.prog w K mg base 2 "_law_one" (spOne K) [] := ok_l_one D2 b2 T Q_l_draw
  have Q_l_names : C8.Cal l.prog w K mg base 2 "_law_names" (spNames K) [] := ok_l_names D3 b3 T Q_l_draw
  have Q_l_rows : C8.Cal l.prog w K mg base 3 "_law_rows" (spRows K) [] := ok_l_rows D4 b4 T Q_l_draw Q_l_one
  have Q_is_number : C8.Cal l.prog w K mg base 1 "is_number" (spNum K) [] := ok_is_number D5 b5 T
  have Q_is_literal : C8.Cal l.prog w K mg base 2 "is_literal" (spLitG K) [] := ok_is_literal D6 b6 T Q_is_number
  have Q_is_word : C8.Cal l.prog w K mg base 1 "is_word" spWord [] := ok_is_word D7 b7 T
  have Q_is_label : C8.Cal l.prog w K mg base 2 "is_label" (fun vs H Q _ => ∃ x : Str, vs = [.str x] ∧ x.length ≤ 1000 ∧ ∀ H', Same H H' → Q (.bl (labelB x)) H') [] := ok_is_label D8 b8 T BB_BARRED Q_is_word
  have Q_are_different : C8.Cal l.prog w K mg base 1 "are_different" (spLabels K) [] := ok_are_different D9 b9 T
  have Q_are_labels : C8.Cal l.prog w K mg base 3 "are_labels" (spLabels K) [] := ok_are_labels D10 b10 T Q_is_label Q_are_different
  have Q_is_over : C8.Cal l.prog w K mg base 3 "is_over" (spOver K) [] := ok_is_over D11 b11 T Q_is_literal
  have Q_are_rows : C8.Cal l.prog w K mg base 4 "are_rows" (spRowsOk K) [] := ok_are_rows D12 b12 T Q_is_over
  have Q_shortened : C8.Cal l.prog w K mg base 1 "shortened" (spShort K) [] := ok_shortened D13 b13 T
  have Q_met : C8.Cal l.prog w K mg base 2 "met" (spMet K) [] := ok_met D14 b14 T Q_shortened
  have Q_met_all : C8.Cal l.prog w K mg base 3 "met_all" (spMetAll K) [] := ok_met_all D15 b15 T Q_met
  have Q_whole : C8.Cal l.prog w K mg base 1 "whole" (spWhole K) [] := ok_whole D16 b16 T
  have Q_is_inside : C8.Cal l.prog w K mg base 1 "is_inside" (spInside K) [] := ok_is_inside D17 b17 T
  have Q_opened : C8.Cal l.prog w K mg base 1 "opened" (spOpened K) [] := ok_opened D18 b18 T
  have Q_is_part_inside : C8.Cal l.prog w K mg base 2 "is_part_inside" (spPartIn K) [] := ok_is_part_inside D19 b19 T Q_is_inside
  have Q_is_inside_one : C8.Cal l.prog w K mg base 3 "is_inside_one" (spInOne K) [] := ok_is_inside_one D20 b20 T Q_is_part_inside
  have Q_trimmed : C8.Cal l.prog w K mg base 4 "trimmed" (spTrim K) [] := ok_trimmed D21 b21 T Q_is_part_inside Q_is_inside_one
  have Q_of_rows : C8.Cal l.prog w K mg base 5 "of_rows" (spOfRows K) [] := ok_of_rows D22 b22 T Q_whole Q_met_all Q_trimmed
  have Q_Cover : C8.Mak l.prog w K mg base 1 "Cover" (ga K "Cover") (spCover (ga K "Cover")) [] := ok_Cover_init (mkr_ok (fact 59 (f := .mkr "Cover") rfl)) F_vi b_vi T
  have Q__index : C8.Met l.prog w K mg base 1 (ga K "States") "_index" (spIndex K (ga K "States")) [] := ok_States__index (meth_ok (fact 61 (f := .meth "States" "_index") rfl)) F_ix b_ix T
  have Q__covered : C8.Met l.prog w K mg base 6 (ga K "States") "_covered" (spCovered K (ga K "Cover") (ga K "States")) [] := ok_States__covered (meth_ok (fact 62 (f := .meth "States" "_covered") rfl)) F_cv b_cv T Q__index Q_of_rows Q_Cover
  have Q_States : C8.Mak l.prog w K mg base 7 "States" (ga K "States") (spStates K (ga K "Cover") (ga K "States")) [] := ok_States (mkr_ok (fact 60 (f := .mkr "States") rfl)) F_si b_si T (of_decide_eq_true m0) Q_are_labels Q_are_rows Q__covered
  have Q_is_empty : C8.Met l.prog w K mg base 1 (ga K "States") "is_empty" (spEmpty K (ga K "Cover") (ga K "States")) [] := ok_States_is_empty (meth_ok (fact 63 (f := .meth "States" "is_empty") rfl)) F_ie b_ie T
  have Q_most_apart : C8.Cal l.prog w K mg base 2 "most_apart" (spMost K) [] := ok_most_apart D23 b23 T Q_opened
  have Q_check_term : C8.Cal l.prog w K mg base 1 "check_term" (spTerm K) [] := ok_check_term D24 b24 T
  have FBd := ok_bound (P := l.prog) (w := w) (base := base) F_bo T TN Q_check_term Q_is_empty Q_most_apart Q__index
  have QQ1_is_number : C8.Cal l.prog w K mg base 1 "is_number" (Q1.spNum K) [] := Q1.ok_is_number D5 b5 TQ
  have QQ1_is_literal : C8.Cal l.prog w K mg base 2 "is_literal" (Q1.spLitG K) [] := Q1.ok_is_literal D6 b6 TQ QQ1_is_number
  have QQ1_check_literalsT : C8.Cal l.prog w K mg base 3 "check_literals" (Q1.spChkGT K) [] := Q1.ok_check_literalsT D25 b25 TQ QQ1_is_literal
  have QQ1_lower_onceT : C8.Cal l.prog w K mg base 1 "lower_once" (Q1.spLowerT K) [] := Q1.ok_lower_onceT D26 b26 TQ
  have QQ1_ring_behindT : C8.Cal l.prog w K mg base 1 "ring_behind" (Q1.spBehindT K) [] := Q1.ok_ring_behindT D27 b27 TQ
  have QQ1_solvedT : C8.Cal l.prog w K mg base 4 "solved" (Q1.spSolvedT K) [] := Q1.ok_solvedT D28 b28 TQ QQ1_check_literalsT QQ1_lower_onceT QQ1_ring_behindT
  have Q_l_bound : C8.Cal l.prog w K mg base 4 "_law_bound" (spLBound K (ga K "Cover") (ga K "States")) [] := ok_l_bound D29 b29 T TN (meth_ok (fact 64 (f := .meth "States" "bound") rfl)) FBd b_bo
  have Q_l_open : C8.Cal l.prog w K mg base 5 "_law_open" (spOpen K) [] := ok_l_open D30 b30 T QQ1_solvedT
  exact ok_law F31 T Q_l_well Q_l_draw Q_l_names Q_l_rows Q_States Q_l_bound Q_l_open
end K9

set_option maxHeartbeats 0
namespace K9
open PySem PySem.W PySem.Calls PyProof.Rows
def nm0 : List PySem.Str := ["_wall", "__name__", "whole", "opposite", "follows", "met", "shortened", "met_all", "is_inside", "literals_of", "literals_among", "head_of", "is_needed", "spread", "number_at", "point_of", "has_point", "freed", "are_linked", "is_link"]
def nm1 : List PySem.Str := ["greater", "EMPTY", "FULL", "LARGE", "A_ZONE", "DEEP", "denied", "open_group", "flat", "opened", "weight", "lightest", "branches", "free_zone", "free_zones", "settled", "size_of", "depth_of", "is_part_inside", "has_state"]
def nm2 : List PySem.Str := ["fits", "merged", "shared_pairs", "merged_along", "is_between", "strip_of", "bounds", "united", "any_of", "options_of", "narrowed", "has_some", "case_within", "A_FLOOR", "moved", "moved_group", "moved_literal", "shadow", "shadow_cases", "is_about"]
def nm3 : List PySem.Str := ["replaced", "groups_of", "is_in_reach", "split_up", "split_by_options", "split_by_floors", "floors", "inner_literals", "sunk_clauses", "sunk_cases", "MOST_PAIRS", "Cover", "of_rows", "trimmed", "is_inside_one", "case_of", "either", "widened", "both", "less"]
def nm4 : List PySem.Str := ["are_inside", "most_apart", "all_hold", "shadow_of", "spread_out", "rows_of", "BehindError", "NoLiterals", "BadStates", "NoName", "NoStates", "Unlike", "LONGEST", "BARRED", "is_number", "is_word", "is_label", "are_different", "are_labels", "is_literal"]
def nm5 : List PySem.Str := ["are_numbers", "check_literal", "check_term", "check_terms", "are_rows", "is_over", "check_alike", "States", "MOST_LITERALS", "check_literals", "solved", "lower_once", "ring_behind", "_law_well", "_law_draw", "_law_one", "_law_names", "_law_rows", "_law_grid", "_law_at"]
def nm6 : List PySem.Str := ["_law_meets", "_law_is_in", "_law_open", "_law_bound"]
abbrev nms : List PySem.Str := nm0 ++ nm1 ++ nm2 ++ nm3 ++ nm4 ++ nm5 ++ nm6
abbrev R : PySem.W.OpenRow := PySem.W.OpenLaw.row PySem.Challenge.rw_behindexits_k09_whole_bounds_are_tight
abbrev hkX : PySem.W.Hook := Hy.hookY BX fnX tsX
def obX (s : PySem.W.SharedT) : Hy.AlY := Hy.obsYG BX fnX tsX (HandSHeadRun.getT s)
theorem obX_eq (s : PySem.W.SharedT) : obX s = hkX.obs s.abs := Hy.obsYG_eq (HandSHeadRun.getT_eq s)
abbrev RunX (w : World) : Prop := HandSHeadRun.RunEq R (PySem.W.view R.prog [135]) hkX obX 8000 nms w
theorem runF (w : World) : RunX (w.withFollow "special-get-raises" false) := by
  intro os
  kernel_rfl
theorem runT (w : World) : RunX (w.withFollow "special-get-raises" true) := by
  intro os
  kernel_rfl
theorem run (w : World) : RunX w := byRow2 "special-get-raises" (P := RunX) runF runT w
end K9
open PySem PySem.W PySem.Calls PyProof.Rows
theorem PySem.Challenge.cw_behindexits_k09_whole_bounds_are_tight_holds : PySem.Challenge.rw_behindexits_k09_whole_bounds_are_tight.Holds := by
  w_on; o_law
  refine HandSHeadRun.head_any (r := OpenLaw.row PySem.Challenge.rw_behindexits_k09_whole_bounds_are_tight) (q := view (OpenLaw.row PySem.Challenge.rw_behindexits_k09_whole_bounds_are_tight).prog [135]) (H := K9.hkX) (ob := K9.obX) (M := 8000) (loose := K9.nms) (d := HandSHeadRun.topDef (OpenLaw.row PySem.Challenge.rw_behindexits_k09_whole_bounds_are_tight).prog 135) (kwd := []) K9.obX_eq
    (by kernel_rfl) (fun s => by kernel_rfl) K9.run (by kernel_rfl) (by kernel_rfl) (by kernel_rfl) (by rfl) (by first | assumption | decide +kernel) (by decide +kernel) ⟨rfl, rfl, rfl, rfl, rfl, by decide +kernel⟩ ?hw ?hc
  case hw => w_witness2
  case hc =>
    refine L2.walk_ofE (l := PySem.Challenge.rw_behindexits_k09_whole_bounds_are_tight) (n := 63) (k := 9) (x := "_law_script") (CX := C8.CX0) rfl (by decide) (by kernel_rfl) ⟨rfl, by decide, by decide⟩ ?F (fun _ _ _ _ z => z)
    intro w mg fa h Y G hmg0
    obtain ⟨K, KX, c⟩ := Y
    have hmg : mg ("law" : PySem.Str) = some (.ref fa) := by
      have e : (HandSHeadRun.topDef (OpenLaw.row PySem.Challenge.rw_behindexits_k09_whole_bounds_are_tight).prog 135).name = ("law" : PySem.Str) := by kernel_rfl
      rw [← e]
      exact hmg0
    obtain ⟨fd, hb, hF⟩ := K9.facts (l := PySem.Challenge.rw_behindexits_k09_whole_bounds_are_tight) (w := w) KX G hmg c
    exact ⟨K, fd, K9.spLaw K, KX, hb, fun H a ns hl _ hS => ⟨a, ns, rfl, hS, hl, fun _ => rfl⟩, hF⟩

