import PyProof.Rows.All
import Wide.All
import OpenK.AllK
import Wide.FinOn
import HandS.Codes
import HandS.Conv
import HandS.Deep
import HandS.Defaults
import HandS.Dict
import HandS.DictComp
import HandS.Evl
import HandS.Flow
import HandS.ForMost
import HandS.Head0
import HandS.Head1
import HandS.Head2
import HandS.HeadEnd
import HandS.HeadHook3
import HandS.IsInst
import HandS.More
import HandS.Property
import HandS.RaiseMore
import HandS.SetFor
import HandS.SortKw
import HandS.StrMore
import HandS.Strs
import HandS.Style
import HandS.Text
import HandS.TupAny
import HandS.Walk
import HandS.Wide
import HandS.Zip
import KE.GoesMore
import KE.KStateDown
import KE.SortKeyHeap
import OpenK.KMeth
import PyProof.AutoSeq1
import PyProof.Draws
import PyProof.EnumMake
import PyProof.InstNe
import PySem.Challenge.RW_behindexits_k18_wide_sets
set_option Elab.async false
set_option linter.all false
set_option maxRecDepth 100000
set_option maxHeartbeats 4000000
namespace Bx
open PySem PySem.Spec PyProof.Rows L2
example (K : PySem.W.Frag) : PySem.W.kitOne K (.type "bool") (.type "int") = some true := by rfl
example (K : PySem.W.Frag) : PySem.W.kitOne K (.type "NoneType") (.type "int") = some false := by rfl
example (K : PySem.W.Frag) : PySem.W.kitOne K (.type "list") (.type "tuple") = some false := by rfl
example (K : PySem.W.Frag) : PySem.W.kitAny K (.type "dict") [.type "list", .type "tuple"] = some false := by rfl
section
variable {X : Cx}
def rCatS (K : PySem.W.Frag) : R2 := fun x y H Q => ∃ l b xs zs, x = .ref l ∧ y = .ref b ∧ SqL K H l xs ∧ SqL K H b zs ∧ xs.length + zs.length ≤ sizeLine ∧ ∀ p, H p = none → Q (.ref p) (upd H p (.lst (xs ++ zs)))
theorem op_catS : OpR X (binaryOp .Add) (rCatS X.K) := by
  intro pins s σ H x y v u Q I rx ry h
  obtain ⟨l, b, xs, zs, rfl, rfl, hH, hB, hz, q⟩ := h
  cases rx
  cases ry
  obtain ⟨its, r, ⟨⟨cls, dd, data, sl⟩, n, ho, hc, hdd, hd⟩, _⟩ := I.list hH
  obtain ⟨its2, r2, ⟨⟨cls2, dd2, data2, sl2⟩, n2, ho2, hc2, hdd2, hd2⟩, _⟩ := I.list hB
  simp only at hc hd hdd hc2 hd2 hdd2
  subst hc hd hdd hc2 hd2 hdd2
  have e1 := r.length
  have e2 := r2.length
  have e : its.toArray ++ its2.toArray = (its ++ its2).toArray := by simp
  refine concat_meets ⟨_, ho, rfl⟩ ⟨_, ho2, rfl⟩ noFill_list_add seq_list_add PySem.F.slot_list_add PySem.F.entry_list_add (PySem.F.args_list_add_2 _ _) (list_addW l b its.toArray its2.toArray n n2 none none sl sl2 (by simp; omega)) ⟨ho, ho2, ?_⟩
  rw [e]
  exact ⟨.ref _, _, I.lnew (t' := s.toks) (r.append r2) (by rw [List.length_append]; omega), rfl, q _ I.fresh⟩

/-! len(set(t)), t a tuple of ints -/
def tLenSetT (K : PySem.W.Frag) (ta : TE) : TE := fun σ H Q => ta σ H fun x H1 => ∃ (l : Addr) (ns : List Int), x = .ref l ∧ SqT K H1 l (ns.map V.int) ∧ ns.length ≤ 1000 ∧
  ∀ out : List Int, out.Nodup → (∀ k, k ∈ out ↔ k ∈ ns) → Q (.int (out.length : Nat)) H1
theorem pe_lenSetT {a : Expr} {ta : TE} {p p2 q pos : Pos} (hm : X.mg "len" = none) (hm2 : X.mg "set" = none) (ha : PE X a ta) (hg : Gl X "len" := by rfl) (hg2 : Gl X "set" := by rfl) (hc : X.calm = true := by rfl)
    (na : starEach [a] X.env = (false, eval a X.env) :: starEach [] X.env := by rfl) : PE X (.Call (.Name "len" p) [.Call (.Name "set" p2) [a] [] q] [] pos) (tLenSetT X.K ta) := by
  refine ⟨fun pins s σ H Q I h => ?_⟩
  refine Call_ (ld_blt I hg hm boot_len ?_)
  refine PyProof.Rows.callWith_builtin1 (PyProof.Rows.args_cons ?_ rfl) rfl rfl
  refine Call_ (ld_blt I hg2 hm2 boot_set ?_)
  refine PyProof.Rows.callWith_type1 (PyProof.Rows.args_cons (thn (ha.run pins s σ H _ I h) fun v s1 ⟨x, H1, I1, r1, q1⟩ => PyProof.Rows.args_nil ?_) na) na rfl
  obtain ⟨l, ns, rfl, hq, hl, q1⟩ := q1
  cases r1
  obtain ⟨its, rv, pt, hz⟩ := I1.tuple hq
  have hi : IntsAre its.toArray.toList ns := ints_of_vals rv
  have hd := I1.ok.hd hc
  refine call_set_tupI ns hd (show s1.heap.IsTuple l its.toArray from pt) hi (by unfold scanBound; omega) fun h' tk c R1 hcn k => ?_
  refine PyProof.Rows.args_nil ?_
  obtain ⟨o, es, ep, t, ho, hex, hdt, g, nd, hm2, hb, hf, hn, hr, hl2⟩ := R1
  have I2 : Inv X pins σ H1 { s1 with heap := h', toks := tk } := I1.kept fun b o e => k b o e
  have hlen : es.size = (es.toList.map keyOf).length := by rw [List.length_map, Array.length_toList]
  refine call_len_set ho hex hdt hf (by rw [hn]; omega) ⟨.int ((es.toList.map keyOf).length : Nat), H1, I2.tok _, ⟨_, by rw [← hlen]⟩, q1 _ nd fun j => ?_⟩
  rw [← hm2 j, decide_eq_true_eq]
end
section
variable {prog : Program} {w : World} {A : Around} {E : Value → Shared → Prop} {s : Shared}
theorem fm_congr {α β : Type} {f g : α → Option β} : ∀ {l : List α}, (∀ m ∈ l, f m = g m) → l.filterMap f = l.filterMap g
  | [], _ => rfl
  | a :: l, h => by
    rw [List.filterMap_cons, List.filterMap_cons, h a List.mem_cons_self, fm_congr fun m hm => h m (List.mem_cons_of_mem _ hm)]
theorem rev_applied {A : Around} {E : Value → Shared → Prop} {s : Shared} {sl : Addr} {vs : Value} {n : Nat} {Q : Int × Int × Nat → Shared → Prop} (hs : s.heap.IsSliceOf sl .none .none vs) (ps : IsPart vs (some (-1))) (h : Q (((n : Nat) : Int) - 1, -1, n) s) :
    wpAny (model prog w) A (Builtin.Slice.sliceApplied (.ref sl) (pure ((n : Nat) : Int))) Q E s := by
  obtain ⟨os, hos, hcs, hds⟩ := id hs
  unfold Builtin.Slice.sliceApplied Builtin.Slice.sliceFields
  refine wpAny_bind (wpAny_bind (wpAny_field hos hds (x := .none) rfl (wpAny_bind (wpAny_field hos hds (x := .none) rfl (wpAny_bind (wpAny_field hos hds (x := vs) rfl (wpAny_pure ?_)))))))
  refine wpAny_bind (HT.slicePart_ ps ?_)
  show wpAny _ _ (if ((-1 : Int) == 0) = true then _ else _) _ _ s
  rw [if_neg (by decide)]
  refine wpAny_bind (slicePart_none (wpAny_bind (slicePart_none (wpAny_bind (wpAny_pure ?_)))))
  have ea : Builtin.Slice.sliceAdjust none none (-1) ((n : Nat) : Int) = (((n : Nat) : Int) - 1, -1) := by
    unfold Builtin.Slice.sliceAdjust
    simp
  have ep : Builtin.Slice.slicePlaces (((n : Nat) : Int) - 1) (-1) (-1) = n := by
    unfold Builtin.Slice.slicePlaces
    have h1 : ¬ ((-1 : Int) > 0) := by decide
    have h2 : (- -1 : Int) = 1 := by decide
    simp only [h1, if_false, h2, Int.ediv_one]
    split <;> omega
  show wpAny _ _ (match Builtin.Slice.sliceAdjust none none (-1) ((n : Nat) : Int) with | (lo, hi) => pure (lo, (-1 : Int), Builtin.Slice.slicePlaces lo hi (-1))) _ _ s
  rw [ea]
  show wpAny _ _ (pure (((n : Nat) : Int) - 1, (-1 : Int), Builtin.Slice.slicePlaces (((n : Nat) : Int) - 1) (-1) (-1))) _ _ s
  rw [ep]
  exact wpAny_pure h
theorem rev_pick (items : Array Value) : ((List.range items.size).filterMap fun (m : Nat) => items[(((items.size : Nat) : Int) - 1 + (m : Int) * (-1)).toNat]?).toArray = items.toList.reverse.toArray := by
  have e : ((List.range items.size).filterMap fun (m : Nat) => items[(((items.size : Nat) : Int) - 1 + (m : Int) * (-1)).toNat]?) = ((List.range items.size).map fun k => items.size - 1 - k).filterMap (items[·]?) := by
    rw [List.filterMap_map]
    refine fm_congr fun m hm => ?_
    have := List.mem_range.mp hm
    show items[(((items.size : Nat) : Int) - 1 + (m : Int) * (-1)).toNat]? = items[items.size - 1 - m]?
    rw [show (((items.size : Nat) : Int) - 1 + (m : Int) * (-1)).toNat = items.size - 1 - m by omega]
  rw [e, PySem.W.krv_range, List.filterMap_reverse, PySem.W.krv_all]
theorem getItem_tuple_rev {t sl : Addr} {items : Array Value} {vs : Value} {Q : Value → Shared → Prop} (ht : IsTup s.heap t items) (hs : s.heap.IsSliceOf sl .none .none vs) (ps : IsPart vs (some (-1)))
    (h : Q (.ref s.heap.objs.size) { s with heap := s.heap.push { cls := .type "tuple", data := .seq items.toList.reverse.toArray } })
    (hsz : items.size ≤ sizeLine) : wpAny (model prog w) A (getItem (.ref t) (.ref sl)) Q E s := by
  have htake : sizeOk (.seq items.toList.reverse.toArray) := by
    show items.toList.reverse.toArray.size ≤ sizeLine
    rw [List.size_toArray, List.length_reverse, Array.length_toList]
    exact hsz
  obtain ⟨os, hos, hcs, hds⟩ := id hs
  have hTs : s.TypeIs (.ref sl) "slice" := ⟨os, hos, hcs⟩
  unfold getItem
  try with_reducible refine wpAny_holding ?_
  first | refine wpAny_bind (wpAny_pure ?_) | skip
  refine wpAny_bind (wpAny_sequenceKey ht.typeIs (by decide) ?_)
  refine wpAny_bind (wpAny_callSpecial?_slot (name := Str.ofString "__getitem__") ht.typeIs PyProof.Rows.slot_tuple_getitem
    (wpAny_call_entry PyProof.Rows.slot_tuple_getitem ht.typeIs entry_tuple_getitem ?_ (args_tuple_getitem _ _)))
  show wpAny _ _ (Builtin.Tuple.tupleItemsOf (.ref t) >>= _) _ _ s
  refine wpAny_bind (tupleItemsOf_ ht ?_)
  refine wpAny_bind (wpAny_typeOf hTs ?_)
  rw [if_pos (by decide)]
  refine wpAny_bind (rev_applied hs ps ?_)
  have hno : ¬ (((((items.size : Nat) : Int) - 1) == 0 && (-1 : Int) == 1 && items.size == items.size) = true) := by
    intro q
    rw [Bool.and_eq_true, Bool.and_eq_true] at q
    exact absurd q.1.2 (by decide)
  show wpAny _ _ (if ((((items.size : Nat) : Int) - 1) == 0 && (-1 : Int) == 1 && items.size == items.size) = true then _ else _) _ _ s
  rw [if_neg hno, rev_pick]
  first
    | exact wpAny_bind (m := Builtin.Tuple.tupleExact _) (wpAny_newObj_type (wpAny_pure ⟨_, rfl, wpAny_pure h⟩) htake)
    | exact wpAny_bind (m := Builtin.Tuple.tupleExact _) (wpAny_newObj_type (wpAny_bind (wpAny_pure (wpAny_pure ⟨_, rfl, wpAny_pure h⟩))) htake)
    | exact wpAny_bind (wpAny_bind (m := Builtin.Tuple.tupleExact _) (wpAny_newObj_type (wpAny_pure (wpAny_pure ⟨_, rfl, wpAny_pure h⟩)) htake))
    | exact wpAny_bind (wpAny_bind (m := Builtin.Tuple.tupleExact _) (wpAny_newObj_type (wpAny_pure ⟨_, rfl, wpAny_pure h⟩) htake))
end
section
variable {X : Cx}
def tRevT (K : PySem.W.Frag) (te : TE) : TE := fun σ H Q => te σ H fun x H1 => ∃ a xs, x = .ref a ∧ SqT K H1 a xs ∧ ∀ p, H1 p = none → Q (.ref p) (upd H1 p (.tup xs.reverse))
theorem pe_revT {e : Expr} {te : TE} {k : Nat} {p1 p2 p3 pos : Pos} (he : PE X e te) : PE X (.Subscript e (.Slice none none (some (.UnaryOp .USub (.Constant (.int 1) k p1) p2)) p3) pos) (tRevT X.K te) := by
  refine ⟨fun pins s σ H Q I h => ?_⟩
  refine Subscript_ (thn (he.run pins s σ H _ I h) fun v s1 ⟨x, H1, I1, r1, q1⟩ => ?_)
  obtain ⟨a, xs, ex, hx, q⟩ := q1
  subst ex
  cases r1
  have hst : PO X (some (.UnaryOp .USub (.Constant (.int 1) k p1) p2)) (tPart (tUn (rU fun i => .int (-i)) (tC (.int 1)))) := po_some (pe_un un_neg pe_int)
  refine wpAny_Slice (thn (po_none.run pins s1 σ H1 (fun o H2 => o = none ∧ H2 = H1) I1 ⟨rfl, rfl⟩) fun vl s2 ⟨l, H2, I2, pl, el, e2⟩ => ?_)
  subst el e2
  refine thn (po_none.run pins s2 σ H2 (fun o H3 => o = none ∧ H3 = H2) I2 ⟨rfl, rfl⟩) fun vu s3 ⟨u, H3, I3, pu, eu, e3⟩ => ?_
  subst eu e3
  refine thn (hst.run pins s3 σ H3 (fun o H4 => o = some (-1) ∧ H4 = H3) I3 ⟨1, rfl, -1, rfl, rfl, rfl⟩) fun vs s4 ⟨o, H4, I4, ps, eo, e4⟩ => ?_
  subst eo e4
  cases pl
  cases pu
  have I5 : Inv X pins σ H4 { s4 with heap := s4.heap.push { cls := .type "slice", data := .fields #[Value.none, Value.none, vs] } } := I4.kept (t' := s4.toks) fun b ob q => Heap.get?_push_of_some _ q
  obtain ⟨its, r, ht, hz⟩ := I5.tuple hx
  have hlen := r.length
  show wpAny (model X.prog X.w) X.A (subscriptTail e (.Slice none none (some (.UnaryOp .USub (.Constant (.int 1) k p1) p2)) p3) (.ref a) (.ref s4.heap.objs.size)) (EP X pins σ Q) X.xe { s4 with heap := s4.heap.push { cls := .type "slice", data := .fields #[Value.none, Value.none, vs] } }
  refine tail_any (ops := [.ref a, .ref s4.heap.objs.size]) ht.typeIs (PyProof.Rows.slot_tuple_getitem.lookup) ?_ (by with_unfolding_all rfl)
  refine getItem_tuple_rev ht (Heap.IsSliceOf.new _ Value.none Value.none vs) ps ?_ (by rw [List.size_toArray]; omega)
  refine ⟨.ref _, _, I5.laid (t' := s4.toks) (o := .tup xs.reverse) (fun b ob q => Heap.get?_push_of_some _ q) (Nat.le_refl _) ?_, rfl, q _ (I5.hok.fresh (Nat.le_refl _))⟩
  exact ⟨by rw [List.length_reverse]; exact hz, _, r.reverse, ⟨_, Heap.get?_push_size _ rfl, rfl, 0, rfl⟩⟩
end
end Bx

namespace Bx
open PySem PySem.Spec PyProof.Rows L2
/-! ### what stays -/
theorem Same.new {H : Hp} {p : Addr} {o : HO} (h : H p = none) : Same H (upd H p o) := fun a u e => by
  rw [upd_ne (ne_of_none e h)]
  exact e
theorem Same.mut {H H' : Hp} {p : Addr} {o : HO} (e : Same H H') (h : H p = none) : Same H (upd H' p o) := fun a u ha => by
  rw [upd_ne (ne_of_none ha h)]
  exact e a u ha
theorem Same.seqT {K : PySem.W.Frag} {H H' : Hp} {a : Addr} {xs : List V} (e : Same H H') (h : SqT K H a xs) : SqT K H' a xs := by
  rcases h with (h | ⟨o, h⟩) | h
  · exact .inl (.inl (e _ _ h))
  · exact .inl (.inr ⟨o, e _ _ h⟩)
  · exact .inr h
theorem Same.ty {K : PySem.W.Frag} {H H' : Hp} {v : V} {t : Value} (e : Same H H') (h : TyX K H v t) : TyX K H' v t := by
  cases h with
  | base b =>
    cases b with
    | non => exact .base .non
    | bl x => exact .base (.bl x)
    | int i => exact .base (.int i)
    | str x => exact .base (.str x)
    | flt x => exact .base (.flt x)
    | lst q => exact .base (.lst (e _ _ q))
    | frz q => exact .base (.frz (e _ _ q))
    | tup q => exact .base (.tup (e _ _ q))
    | dK q => exact .base (.dK (e _ _ q))
    | dT q => exact .base (.dT (e _ _ q))
    | ins q cl ha hn htk hm => exact .base (.ins (e _ _ q) cl ha hn htk hm)
  | byt b => exact .byt b
  | set q => exact .set (e _ _ q)
  | kList a b => exact .kList a b
  | kTuple a b => exact .kTuple a b
  | kDict a b => exact .kDict a b
  | fTuple q => exact .fTuple (e _ _ q)
  | fDict q => exact .fDict (e _ _ q)
theorem tyT {K : PySem.W.Frag} {H : Hp} {a : Addr} {xs : List V} (h : SqT K H a xs) : TyX K H (.ref a) (.type "tuple") := by
  rcases h with (h | ⟨o, h⟩) | ⟨o, its, n, hk, hc, _⟩
  · exact .base (.tup h)
  · exact .fTuple h
  · exact .kTuple hk hc
theorem tyL {K : PySem.W.Frag} {H : Hp} {a : Addr} {xs : List V} (h : SqL K H a xs) : TyX K H (.ref a) (.type "list") := by
  rcases h with (h | ⟨o, h⟩) | ⟨o, its, n, hk, hc, _⟩
  · exact .base (.lst h)
  · exact .base (.frz h)
  · exact .kList hk hc
/-- .. all but the one at l -/
def But (l : Addr) (H H' : Hp) : Prop := ∀ b o, H b = some o → b ≠ l → H' b = some o
theorem But.refl (l : Addr) (H : Hp) : But l H H := fun _ _ h _ => h
theorem But.trans {l : Addr} {H H1 H2 : Hp} (a : But l H H1) (b : But l H1 H2) : But l H H2 := fun c o h n => b c o (a c o h n) n
theorem But.of {l : Addr} {H H' : Hp} (a : Same H H') : But l H H' := fun c o h _ => a c o h
theorem But.upd {l : Addr} {H : Hp} {o : HO} : But l H (upd H l o) := fun c u h n => by
  rw [upd_ne n]
  exact h
theorem But.seq {K : PySem.W.Frag} {l : Addr} {H H' : Hp} {a : Addr} {xs : List V} (e : But l H H') (n : a ≠ l) (h : SqL K H a xs) : SqL K H' a xs := by
  rcases h with (h | ⟨o, h⟩) | h
  · exact .inl (.inl (e _ _ h n))
  · exact .inl (.inr ⟨o, e _ _ h n⟩)
  · exact .inr h
theorem But.seqT {K : PySem.W.Frag} {l : Addr} {H H' : Hp} {a : Addr} {xs : List V} (e : But l H H') (n : a ≠ l) (h : SqT K H a xs) : SqT K H' a xs := by
  rcases h with (h | ⟨o, h⟩) | h
  · exact .inl (.inl (e _ _ h n))
  · exact .inl (.inr ⟨o, e _ _ h n⟩)
  · exact .inr h
theorem But.free {l : Addr} {H H' : Hp} (e : But l H H') {p : Addr} (n : p ≠ l) (h : H' p = Option.none) : H p = Option.none := by
  cases q : H p with
  | none => rfl
  | some o =>
    rw [e p o q n] at h
    cases h
/-! ### tuples of any kind: what a sum, a slice is -/
section
variable {X : Cx}
def rCatU (K : PySem.W.Frag) : R2 := fun x y H Q => ∃ a b xs ys, x = .ref a ∧ y = .ref b ∧ SqT K H a xs ∧ SqT K H b ys ∧ xs.length + ys.length ≤ sizeLine ∧ ∀ c H', Same H H' → SqT K H' c (xs ++ ys) → Q (.ref c) H'
theorem op_catU : OpR X (binaryOp .Add) (rCatU X.K) := by
  intro pins s σ H x y v u Q I rx ry h
  obtain ⟨a, b, xs, ys, ex, ey, ha, hb, hz, q⟩ := h
  refine op_catA pins s σ H x y v u Q I rx ry ⟨a, b, xs, ys, ex, ey, ha, hb, hz, fun e => ?_, fun _ e => ?_, fun _ _ p hp => ?_⟩
  · subst e
    exact q b H (Same.refl H) hb
  · subst e
    exact q a H (Same.refl H) (by rw [List.append_nil]; exact ha)
  · exact q p _ (Same.new hp) (.inl (.inl upd_same))
def rSlU (K : PySem.W.Frag) : V → Option Int → Option Int → Hp → VK → Prop := fun x lo hi H Q => ∃ a xs, x = .ref a ∧ SqT K H a xs ∧ ∀ c H', Same H H' → SqT K H' c (cutV xs lo hi) → Q (.ref c) H'
theorem sl_tupU : SlR X (rSlU X.K) := by
  intro pins s σ H x v vl vu lo hi sl Q I rx hs pl pu h
  obtain ⟨a, xs, ex, hx, q⟩ := h
  refine sl_tupA pins s σ H x v vl vu lo hi sl Q I rx hs pl pu ⟨a, xs, ex, hx, fun hw => ?_, fun _ p hp => ?_⟩
  · refine q a H (Same.refl H) ?_
    unfold cutV
    rw [hw.1, hw.2, List.drop_zero, Nat.sub_zero, List.take_length]
    exact hx
  · exact q p _ (Same.new hp) (.inl (.inl upd_same))
end
/-! ### a loop over enumerate of a list -/
theorem for_enumL {K : PySem.W.Frag} {a : Addr} {xs : List V} {g : TG} {tb : TS} {D : Ends} {σ : L2.St} {H : Hp} (Pv : Nat → L2.St → Hp → Prop) (h0 : Pv 0 σ H) (hq : ∀ i σ H, Pv i σ H → SqL K H a xs)
    (hs : ∀ (i : Nat) (x : V) (T : Addr) (σ : L2.St) (H : Hp), xs[i]? = some x → Pv i σ H → H T = none → g (.ref T) σ (upd H T (.tup [.int (i : Nat), x])) fun σ2 H2 => tb { D with nx := Pv (i + 1), ct := Pv (i + 1), bk := D.nx } σ2 H2) (hd : ∀ σ H, Pv xs.length σ H → D.nx σ H) :
    ∃ W : Nat → Nat → L2.St → Hp → Prop, (∃ m, W 0 m σ H) ∧ ∀ i m σ H, W i m σ H →
      ((Ite K a).stop i H ∧ D.nx σ H) ∨ ((Ite K a).go i H ∧ ∃ N : L2.St → Hp → Prop, (∀ σ' H', N σ' H' → ∃ m', m' < m ∧ W (i + 1) m' σ' H') ∧ ∀ v H', (Ite K a).yld i H v H' → g v σ H' fun σ2 H2 => tb { D with nx := N, ct := N, bk := D.nx } σ2 H2) := by
  refine ⟨fun i m σ H => m = xs.length - i ∧ i ≤ xs.length ∧ Pv i σ H, ⟨xs.length, rfl, Nat.zero_le _, h0⟩, ?_⟩
  rintro i m σ H ⟨rfl, hi, p⟩
  have qx := hq i σ H p
  by_cases hlt : i < xs.length
  · have hx : xs[i]? = some xs[i] := List.getElem?_eq_getElem hlt
    refine .inr ⟨⟨xs, _, qx, hx⟩, Pv (i + 1), fun σ' H' p' => ⟨xs.length - (i + 1), by omega, rfl, hlt, p'⟩, fun v H' y => ?_⟩
    obtain ⟨T, x', rfl, hT, rfl, f1⟩ := y
    exact hs i x' T σ H (f1 xs qx) p hT
  · have e : i = xs.length := by omega
    subst e
    exact .inl ⟨⟨xs, qx, Nat.le_refl _⟩, hd σ H p⟩
end Bx

namespace Bx
open PySem PySem.Spec PyProof.Rows L2
theorem lay_ints : ∀ is : List Int, PyData.canLayAll0 (is.map PyData.int) = true
  | [] => by simp [PyData.canLayAll0]
  | i :: is => by simp [PyData.canLayAll0, PyData.canLay0, lay_ints is]
theorem dep_ints : ∀ is : List Int, PyData.depthAll (is.map PyData.int) ≤ 1
  | [] => by simp [PyData.depthAll]
  | i :: is => by
    have := dep_ints is
    simp [PyData.depthAll, PyData.depth]
    omega
theorem shaped_ints (is : List Int) : SeqAt.shaped (.list (is.map PyData.int)) = true := by
  unfold SeqAt.shaped
  rw [Bool.and_eq_true, decide_eq_true_eq]
  refine ⟨by simp [PyData.canLay0, lay_ints], ?_⟩
  have := dep_ints is
  simp [PyData.depth]
  omega
theorem lay_strs : ∀ {is : List Str}, (∀ x ∈ is, PyData.strOk x = true) → PyData.canLayAll0 (is.map PyData.str) = true
  | [], _ => by simp [PyData.canLayAll0]
  | i :: is, h => by simp [PyData.canLayAll0, PyData.canLay0, lay_strs fun x hx => h x (List.mem_cons_of_mem _ hx), h i List.mem_cons_self]
theorem dep_strs : ∀ is : List Str, PyData.depthAll (is.map PyData.str) ≤ 1
  | [] => by simp [PyData.depthAll]
  | i :: is => by
    have := dep_strs is
    simp [PyData.depthAll, PyData.depth]
    omega
theorem shaped_strs {is : List Str} (h : ∀ x ∈ is, PyData.strOk x = true) : SeqAt.shaped (.list (is.map PyData.str)) = true := by
  unfold SeqAt.shaped
  rw [Bool.and_eq_true, decide_eq_true_eq]
  refine ⟨by simp [PyData.canLay0, lay_strs h], ?_⟩
  have := dep_strs is
  simp [PyData.depth]
  omega
theorem dp_ints {K : PySem.W.Frag} {H : Hp} : ∀ is : List Int, DpAll K H (is.map V.int) (is.map PyData.int)
  | [] => .nil
  | i :: is => .cons (.int i) (dp_ints is)
theorem dp_strs {K : PySem.W.Frag} {H : Hp} : ∀ is : List Str, DpAll K H (is.map V.str) (is.map PyData.str)
  | [] => .nil
  | i :: is => .cons (.str i) (dp_strs is)
theorem eqv_strs : ∀ {xs ys : List Str}, PyData.eqvAll (xs.map PyData.str) (ys.map PyData.str) = true ↔ xs = ys
  | [], [] => by simp [PyData.eqvAll]
  | [], _ :: _ => by simp [PyData.eqvAll]
  | _ :: _, [] => by simp [PyData.eqvAll]
  | x :: xs, y :: ys => by
    have e := @eqv_strs xs ys
    simp [PyData.eqvAll, PyData.eqv, e]
theorem eqv_ints : ∀ {xs ys : List Int}, PyData.eqvAll (xs.map PyData.int) (ys.map PyData.int) = true ↔ xs = ys
  | [], [] => by simp [PyData.eqvAll]
  | [], _ :: _ => by simp [PyData.eqvAll]
  | _ :: _, [] => by simp [PyData.eqvAll]
  | x :: xs, y :: ys => by
    have e := @eqv_ints xs ys
    simp [PyData.eqvAll, PyData.eqv, e]
theorem But.tupW {K : PySem.W.Frag} {l : Addr} {ws : List V} {H H' : Hp} {a : Addr} {xs : List V} (hw : H l = some (.lst ws)) (e : But l H H') (h : SqT K H a xs) : SqT K H' a xs := by
  rcases h with (h | ⟨o, h⟩) | h
  · exact .inl (.inl (e _ _ h (ne_of h hw (by intro q; cases q))))
  · exact .inl (.inr ⟨o, e _ _ h (ne_of h hw (by intro q; cases q))⟩)
  · exact .inr h
theorem at_lastI {is : List Int} (h : is ≠ []) : ∃ a, a ∈ is ∧ atI (is.map V.int) (-1) = some (.int a) ∧ is[is.length - 1]? = some a := by
  obtain ⟨init, a, rfl⟩ : ∃ init a, is = init ++ [a] := ⟨is.dropLast, is.getLast h, (List.dropLast_concat_getLast h).symm⟩
  refine ⟨a, by simp, ?_, by simp⟩
  rw [List.map_append]
  exact atI_last _ _
theorem flat_ints (is : List Int) : (is.map V.int).all flatV = true := by
  rw [List.all_eq_true]
  intro x hx
  obtain ⟨i, _, rfl⟩ := List.mem_map.mp hx
  rfl
theorem inV_ints {i : Int} {is : List Int} : inV (.int i) (is.map V.int) = decide (i ∈ is) := by
  unfold inV
  rw [Bool.eq_iff_iff, List.any_eq_true, decide_eq_true_eq]
  constructor
  · rintro ⟨x, hx, e⟩
    obtain ⟨j, hj, rfl⟩ := List.mem_map.mp hx
    have : j = i := by simpa [eqV] using e
    exact this ▸ hj
  · intro h
    exact ⟨.int i, List.mem_map_of_mem h, by simp [eqV]⟩
theorem But.mut {l : Addr} {H H' : Hp} {p : Addr} {o : HO} (e : But l H H') (h : H p = Option.none) : But l H (L2.upd H' p o) := fun a u ha n => by
  rw [upd_ne (ne_of_none ha h)]
  exact e a u ha n
theorem But.lst {l : Addr} {H H' : Hp} {a : Addr} {o : HO} (e : But l H H') (h : H a = some o) (n : a ≠ l) : H' a = some o := e a o h n
/-! the same rules by the frame's own K (within a comprehension) -/
section
variable {X : Cx} (K : PySem.W.Frag)
theorem ixLK (h : X.K = K := by rfl) : IxR X (rIxL K) := by subst h; exact ix_list
theorem ixTK (h : X.K = K := by rfl) : IxR X (rIxT K) := by subst h; exact ix_tup
theorem inK (h : X.K = K := by rfl) : OpR X (compareOp .In) (rIn K false) := by subst h; exact op_in_seq
theorem notInK (h : X.K = K := by rfl) : OpR X (compareOp .NotIn) (rIn K true) := by subst h; exact op_notIn_seq
theorem isiK (h : X.K = K := by rfl) : CallR X (.builtin "isinstance") (rIsi K) := by subst h; exact call_isi
theorem lenK (h : X.K = K := by rfl) : CallR X (.builtin "len") (Evl.rLenS K) := by subst h; exact call_len_seq
end
end Bx

namespace Bx
open PySem PySem.Spec PyProof.Rows L2
/-! {k: v for a in A for b in B}: two clauses -/
theorem dcompTurn2_out (kx vx t0 i0 t1 i1 : Expr) (ifs0 ifs1 : List Expr) (scope : Scope) (pos : Pos) (it : Value) (acc : Addr) (env : Env) :
    compTurn (.DictComp kx vx [⟨t0, i0, ifs0, 0⟩, ⟨t1, i1, ifs1, 0⟩] scope pos) 0 it (.ref acc) env = (do
      standAt i0.pos
      match ← pyNext it with
      | none => pure (.done .next)
      | some v =>
        letOwnedTupleGo t0 it v
        assign t0 env v
        let mut ok := true
        for c in ifs0 do
          if ok then ok ← isTrue c env (eval c env)
        if ok then
          let x ← eval i1 env
          standAt i1.pos
          let x ← foldedSetIterable i1 env x
          let _ ← runOwn (.compStart (.DictComp kx vx [⟨t0, i0, ifs0, 0⟩, ⟨t1, i1, ifs1, 0⟩] scope pos) 1 (← holding [x] (pyIter x)) (.ref acc) env) env
        again (.compLoop (.DictComp kx vx [⟨t0, i0, ifs0, 0⟩, ⟨t1, i1, ifs1, 0⟩] scope pos) 0 it (.ref acc) env)) := by rfl
theorem dcompTurn2_in (kx vx t0 i0 t1 i1 : Expr) (ifs0 ifs1 : List Expr) (scope : Scope) (pos : Pos) (it : Value) (acc : Addr) (env : Env) :
    compTurn (.DictComp kx vx [⟨t0, i0, ifs0, 0⟩, ⟨t1, i1, ifs1, 0⟩] scope pos) 1 it (.ref acc) env = (do
      standAt i1.pos
      match ← pyNext it with
      | none => pure (.done .next)
      | some v =>
        letOwnedTupleGo t1 it v
        assign t1 env v
        let mut ok := true
        for c in ifs1 do
          if ok then ok ← isTrue c env (eval c env)
        if ok then
          (do
            let kv ← eval kx env
            let vv ← holding [kv] (eval vx env)
            standAt { kx.pos with endLine := vx.pos.endLine, endCol := vx.pos.endCol }
            holding [kv, vv] (dictSet acc kv vv))
        again (.compLoop (.DictComp kx vx [⟨t0, i0, ifs0, 0⟩, ⟨t1, i1, ifs1, 0⟩] scope pos) 1 it (.ref acc) env)) := by rfl

section
variable {prog : Program} {w : World} {A : Around} {R : Result → Shared → Prop} {s : Shared} {kx vx t0 i0 t1 i1 : Expr} {ifs0 ifs1 : List Expr} {scope : Scope} {pos : Pos} {it : Value} {acc : Addr} {env : Env}
theorem dcompLoop2_out (hs : ∀ x, foldedSetIterable i1 env x = pure x) (I : Nat → Shared → Prop)
    (turn : ∀ n s, I n s → wpAny (model prog w) A (pyNext it) (fun r s₁ => match r with
      | none => R (.ok .next) s₁
      | some v => wpAny (model prog w) A (letOwnedTupleGo t0 it v) (fun _ s₁' => wpAny (model prog w) A (assign t0 env v) (fun _ s₂ =>
          wpAny (model prog w) A (forIn ifs0 true fun c r => if r = true then do let ok ← isTrue c env (eval c env); pure (ForInStep.yield ok) else pure (ForInStep.yield r)) (fun ok s₃ =>
            if ok = true then wpAny (model prog w) A (eval i1 env) (fun x s₄ => wpAny (model prog w) A (pyIter x) (fun it1 s₅ =>
              codeAny (model prog w) A (.compStart (.DictComp kx vx [⟨t0, i0, ifs0, 0⟩, ⟨t1, i1, ifs1, 0⟩] scope pos) 1 it1 (.ref acc) env) (fun r s' => match r with
                | .ok _ => ∃ m, m < n ∧ I m s'
                | .error _ => False) s₅) (notedBy (model prog w) A env fun e s' => R (.error e) s') s₄) (notedBy (model prog w) A env fun e s' => R (.error e) s') s₃
            else ∃ m, m < n ∧ I m s₃) (notedBy (model prog w) A env fun e s' => R (.error e) s') s₂) (notedBy (model prog w) A env fun e s' => R (.error e) s') s₁') (notedBy (model prog w) A env fun e s' => R (.error e) s') s₁) (notedBy (model prog w) A env fun e s' => R (.error e) s') s)
    (n : Nat) (h : I n s) :
    codeAny (model prog w) A (.compLoop (.DictComp kx vx [⟨t0, i0, ifs0, 0⟩, ⟨t1, i1, ifs1, 0⟩] scope pos) 0 it (.ref acc) env) R s := by
  refine codeAny_loop rfl I (fun n s hI => ?_) n h
  show wpAny _ A ((compTurn (.DictComp kx vx [⟨t0, i0, ifs0, 0⟩, ⟨t1, i1, ifs1, 0⟩] scope pos) 0 it (.ref acc) env).onRaise (fun x => do noteFrame x env; theTreesLotGoes x)) _ _ s
  refine wpAny_noted ?_
  rw [dcompTurn2_out]
  refine wpAny_bind (wpAny_standAt (wpAny_bind (wpAny_mono (turn n s hI) (fun r s₁ h₁ => ?_) fun _ _ h' => h')))
  cases r with
  | none => exact wpAny_pure h₁
  | some v =>
    refine wpAny_bind (wpAny_mono h₁ (fun _ s₁' h₁' => ?_) fun _ _ h' => h')
    refine wpAny_bind (wpAny_mono h₁' (fun _ s₂ h₂ => wpAny_bind (wpAny_mono h₂ (fun ok s₃ h₃ => ?_) fun _ _ h' => h')) fun _ _ h' => h')
    cases ok with
    | false => exact wpAny_pure ⟨rfl, h₃⟩
    | true =>
      refine wpAny_bind (wpAny_mono h₃ (fun x s₄ h₄ => ?_) fun _ _ h' => h')
      refine wpAny_bind (wpAny_standAt (wpAny_bind (wpAny_of_eq (hs x) (wpAny_bind (wpAny_holding (wpAny_mono h₄ (fun it1 s₅ h₅ => ?_) fun _ _ h' => h'))))))
      refine wpAny_bind (wpAny_runOwn ?_)
      rw [Around.mark_none]
      refine codeAny_mono h₅ fun r s' hr => ?_
      cases r with
      | ok f =>
        first
          | exact wpAny_pure ⟨rfl, hr⟩
          | exact wpAny_bind (wpAny_pure (wpAny_pure ⟨rfl, hr⟩))
      | error e => exact hr.elim
theorem dcompLoop2_in (I : Nat → Shared → Prop)
    (turn : ∀ n s, I n s → wpAny (model prog w) A (pyNext it) (fun r s₁ => match r with
      | none => R (.ok .next) s₁
      | some v => wpAny (model prog w) A (letOwnedTupleGo t1 it v) (fun _ s₁' => wpAny (model prog w) A (assign t1 env v) (fun _ s₂ =>
          wpAny (model prog w) A (forIn ifs1 true fun c r => if r = true then do let ok ← isTrue c env (eval c env); pure (ForInStep.yield ok) else pure (ForInStep.yield r)) (fun ok s₃ =>
            if ok = true then wpAny (model prog w) A (eval kx env) (fun kv s₄ => wpAny (model prog w) A (eval vx env) (fun vv s₅ =>
              wpAny (model prog w) A (dictSet acc kv vv) (fun _ s₆ => ∃ m, m < n ∧ I m s₆) (notedBy (model prog w) A env fun e s' => R (.error e) s') s₅) (notedBy (model prog w) A env fun e s' => R (.error e) s') s₄) (notedBy (model prog w) A env fun e s' => R (.error e) s') s₃
            else ∃ m, m < n ∧ I m s₃) (notedBy (model prog w) A env fun e s' => R (.error e) s') s₂) (notedBy (model prog w) A env fun e s' => R (.error e) s') s₁') (notedBy (model prog w) A env fun e s' => R (.error e) s') s₁) (notedBy (model prog w) A env fun e s' => R (.error e) s') s)
    (n : Nat) (h : I n s) :
    codeAny (model prog w) A (.compLoop (.DictComp kx vx [⟨t0, i0, ifs0, 0⟩, ⟨t1, i1, ifs1, 0⟩] scope pos) 1 it (.ref acc) env) R s := by
  refine codeAny_loop rfl I (fun n s hI => ?_) n h
  show wpAny _ A ((compTurn (.DictComp kx vx [⟨t0, i0, ifs0, 0⟩, ⟨t1, i1, ifs1, 0⟩] scope pos) 1 it (.ref acc) env).onRaise (fun x => do noteFrame x env; theTreesLotGoes x)) _ _ s
  refine wpAny_noted ?_
  rw [dcompTurn2_in]
  refine wpAny_bind (wpAny_standAt (wpAny_bind (wpAny_mono (turn n s hI) (fun r s₁ h₁ => ?_) fun _ _ h' => h')))
  cases r with
  | none => exact wpAny_pure h₁
  | some v =>
    refine wpAny_bind (wpAny_mono h₁ (fun _ s₁' h₁' => ?_) fun _ _ h' => h')
    refine wpAny_bind (wpAny_mono h₁' (fun _ s₂ h₂ => wpAny_bind (wpAny_mono h₂ (fun ok s₃ h₃ => ?_) fun _ _ h' => h')) fun _ _ h' => h')
    cases ok with
    | false => exact wpAny_pure ⟨rfl, h₃⟩
    | true =>
      exact wpAny_bind (wpAny_bind (wpAny_mono h₃ (fun kv s₄ h₄ => wpAny_bind (wpAny_holding (wpAny_mono h₄ (fun vv s₅ h₅ => wpAny_bind (wpAny_standAt (wpAny_holding (wpAny_mono h₅ (fun _ s₆ h₆ => wpAny_pure ⟨rfl, h₆⟩) fun _ _ h' => h')))) fun _ _ h' => h'))) fun _ _ h' => h'))
theorem dcompStart1_ok (h0 : codeAny (model prog w) A (.compLoop (.DictComp kx vx [⟨t0, i0, ifs0, 0⟩, ⟨t1, i1, ifs1, 0⟩] scope pos) 1 it (.ref acc) env) R s)
    (h : wpAny (model prog w) A (pyIter it) (fun it' s' => codeAny (model prog w) A (.compLoop (.DictComp kx vx [⟨t0, i0, ifs0, 0⟩, ⟨t1, i1, ifs1, 0⟩] scope pos) 1 it' (.ref acc) env) R s')
      (notedBy (model prog w) A env fun x s' => R (.error x) s') s) :
    codeAny (model prog w) A (.compStart (.DictComp kx vx [⟨t0, i0, ifs0, 0⟩, ⟨t1, i1, ifs1, 0⟩] scope pos) 1 it (.ref acc) env) R s := by
  refine codeAny_of_tree ?_
  show wpAny _ _ ((compStart (.DictComp kx vx [⟨t0, i0, ifs0, 0⟩, ⟨t1, i1, ifs1, 0⟩] scope pos) 1 it (.ref acc) env).onRaise (fun x => do noteFrame x env; standAt theWindowsPlace)) _ _ s
  refine wpAny_notedAt ?_
  unfold compStart
  show wpAny _ _ (ask >>= _) _ _ s
  refine wpAny_bind (wpAny_askSetting (wpAny_ite ?_))
  split
  · first
      | exact wpAny_bind (wpAny_pure (wpAny_pure (And.intro rfl h0)))
      | exact wpAny_pure (And.intro rfl h0)
  · first
      | exact wpAny_bind (wpAny_rule (wpAny_bind (wpAny_standAt (wpAny_bind (wpAny_mono h (fun it' s' h' => wpAny_pure (And.intro rfl h')) fun _ _ x => x)))))
      | (refine wpAny_bind (wpAny_rule ?_); show wpAny _ _ (standAt i1.pos >>= _) _ _ s; exact wpAny_bind (wpAny_standAt (wpAny_bind (wpAny_mono h (fun it' s' h' => wpAny_pure (And.intro rfl h')) fun _ _ x => x))))
end

section
variable {X : Cx}
def tDc2 (wi : TI) (g : TG) (tt : TT) (wi1 : TI) (g1 : TG) (tt1 : TT) (tk tv : TE) (vs vs1 : List Nat) : TE := fun σ H Q => wi σ H fun J H1 => ∀ D, H1 D = none → ∃ W : Nat → Nat → Hp → Prop, (∃ m, W 0 m (upd H1 D (.dK []))) ∧ ∀ i m H, W i m H →
  (J.stop i H ∧ Q (.ref D) H) ∨ (J.go i H ∧ ∃ Nx : Hp → Prop, (∀ H', Nx H' → ∃ m', m' < m ∧ W (i + 1) m' H') ∧ ∀ x H', J.yld i H x H' → g x (wipe σ vs) H' fun σ2 H2 => wipe σ2 vs = wipe σ vs ∧ tt σ2 H2 fun b H3 =>
    if b = true then wi1 σ2 H3 fun J1 H4 => ∃ W1 : Nat → Nat → Hp → Prop, (∃ m, W1 0 m H4) ∧ ∀ j k H, W1 j k H →
      (J1.stop j H ∧ Nx H) ∨ (J1.go j H ∧ ∃ Nx1 : Hp → Prop, (∀ H', Nx1 H' → ∃ k', k' < k ∧ W1 (j + 1) k' H') ∧ ∀ x H', J1.yld j H x H' → g1 x (wipe σ2 vs1) H' fun σ3 H5 => wipe σ3 vs1 = wipe σ2 vs1 ∧ tt1 σ3 H5 fun b H6 =>
        if b = true then tk σ3 H6 fun y H7 => tv σ3 H7 fun z H8 => ∃ kvs k, y = kV k ∧ H8 D = some (.dK kvs) ∧ kvs.length < sizeLine ∧ Nx1 (upd H8 D (.dK (putK kvs k z))) else Nx1 H6)
    else Nx H3)
theorem dc2_core {pins : List (Addr × Obj)} {s : Shared} {σ : L2.St} {H : Hp} {Q : VK} {kx vx tg iter tg1 iter1 : Expr} {ifs ifs1 : List Expr} {scope : Scope} {own : List (Str × Nat)} {vs1 : List Nat} {pos pos' : Pos} {wi wi1 : TI} {g g1 : TG} {tt tt1 : TT} {tk tv : TE} {use : Option (Value → Sem Unit)} {Qf : Value → Shared → Prop}
    (hc : X.calm = true) (hN : X.N.Nodup) (I : Inv X pins σ H s) (hi : PI X tg iter wi) (ok : BlkOk X.N X.env.scope scope own) (hv : ∀ i ∈ vs1, i ∈ own.map (·.2))
    (hg : ∀ (s : Shared) (H : Hp) (C : Addr) (cl : List (Str × Addr)) (fp : List Addr), PG (X.blk s H scope (compEnvC scope cl C X.env) fp) tg g) (ht : ∀ (s : Shared) (H : Hp) (C : Addr) (cl : List (Str × Addr)) (fp : List Addr), PTs (X.blk s H scope (compEnvC scope cl C X.env) fp) ifs tt)
    (hk : ∀ (s : Shared) (H : Hp) (C : Addr) (cl : List (Str × Addr)) (fp : List Addr), PE (X.blk s H scope (compEnvC scope cl C X.env) fp) kx tk) (he : ∀ (s : Shared) (H : Hp) (C : Addr) (cl : List (Str × Addr)) (fp : List Addr), PE (X.blk s H scope (compEnvC scope cl C X.env) fp) vx tv) (hs : ∀ x, foldedSetIterable iter X.env x = pure x)
    (hi1 : ∀ (s : Shared) (H : Hp) (C : Addr) (cl : List (Str × Addr)) (fp : List Addr), PI (X.blk s H scope (compEnvC scope cl C X.env) fp) tg1 iter1 wi1)
    (hg1 : ∀ (s : Shared) (H : Hp) (C : Addr) (cl : List (Str × Addr)) (fp : List Addr), PG (X.blk s H scope (compEnvC scope cl C X.env) fp) tg1 g1)
    (ht1 : ∀ (s : Shared) (H : Hp) (C : Addr) (cl : List (Str × Addr)) (fp : List Addr), PTs (X.blk s H scope (compEnvC scope cl C X.env) fp) ifs1 tt1)
    (hs1 : ∀ env x, foldedSetIterable iter1 env x = pure x)
    (h : tDc2 wi g tt wi1 g1 tt1 tk tv (own.map (·.2)) vs1 σ H Q)
    (hback : ∀ D C s' m H', Inv X pins σ H' s' → Q (.ref D) H' → s'.heap.Ns C m → FpOk X pins H' C → compPost (model X.prog X.w) X.A X.xe use Qf (.ref D) C (.ok .next) s') :
    wpAny (model X.prog X.w) X.A (comprehension (.DictComp kx vx [⟨tg, iter, ifs, 0⟩, ⟨tg1, iter1, ifs1, 0⟩] scope pos) scope X.env pos' newDict false (eval iter X.env) use) Qf X.xe s := by
  have hcells : ∀ y ∈ scope.names, y.2 = .free → ∃ c, X.env.cells.lookup y.1 = some c := fun y hy e => by
    rcases ok.free y hy e with k | k
    · exact I.ok.has _ (.inl k)
    · exact I.ok.has _ (.inr k)
  refine wpAny_comprehension_free (use := use) rfl hs (closure_ok hcells) ok.kind (fun y hy e => by rw [ok.uniq y hy, e])
    (thn (hi.run pins s σ H _ I h) fun srcv s1 hx => thn hx fun itval s2 h2 => ?_)
  obtain ⟨it, fp, tn, J, H2, e, I2, T, st2, f2, q⟩ := h2
  subst e
  refine wpAny_newObj_type (newEnv_comp ?_)
  generalize hD : s2.heap.objs.size = D
  have hDn : H2 D = none := I2.hok.fresh (Nat.le_of_eq hD)
  obtain ⟨W, ⟨m0, w0⟩, turn⟩ := q D hDn
  -- the new list
  generalize hs3 : ({ s2 with heap := s2.heap.push { cls := .type "dict", data := .dict #[] } } : Shared) = s3
  have I3 : Inv X pins σ (upd H2 D (.dK [])) s3 := by
    rw [← hs3]
    refine I2.laid (t' := s2.toks) (fun b o e => Heap.get?_push_of_some _ e) (Nat.le_of_eq hD) ?_
    rw [← hD]
    exact dk_empty s2.heap I2.big
  have h3 : s3.heap = s2.heap.push { cls := .type "dict", data := .dict #[] } := by rw [← hs3]
  have sz : ∀ b ∈ fp, b < s2.heap.objs.size := fun b hb => by
    obtain ⟨o, e, _⟩ := T.obj _ _ st2 b hb
    exact Heap.lt_size e
  have f3 : ∀ b ∈ fp, FpOk X pins (upd H2 D (.dK [])) b ∧ b < s3.heap.objs.size := fun b hb => by
    have hlt := sz b hb
    refine ⟨⟨?_, (f2 b hb).2⟩, by rw [h3, Heap.size_push]; exact Nat.lt_succ_of_lt hlt⟩
    rw [upd_ne (by rw [← hD]; exact Nat.ne_of_lt hlt)]
    exact (f2 b hb).1
  have st3 : tn 0 s3.heap := T.keep _ _ _ st2 fun b _ o e => by rw [h3]; exact Heap.get?_push_of_some _ e
  have I4 := block_start I3 ok hN f3
  have pg := hg s3 (upd H2 D (.dK [])) s3.heap.objs.size (cellsFrom (s3.heap.objs.size + 1) scope.names (cloFrom X.env.cells scope.names [])) fp
  have pt := ht s3 (upd H2 D (.dK [])) s3.heap.objs.size (cellsFrom (s3.heap.objs.size + 1) scope.names (cloFrom X.env.cells scope.names [])) fp
  have pk := hk s3 (upd H2 D (.dK [])) s3.heap.objs.size (cellsFrom (s3.heap.objs.size + 1) scope.names (cloFrom X.env.cells scope.names [])) fp
  have pe := he s3 (upd H2 D (.dK [])) s3.heap.objs.size (cellsFrom (s3.heap.objs.size + 1) scope.names (cloFrom X.env.cells scope.names [])) fp
  have pi1 := hi1 s3 (upd H2 D (.dK [])) s3.heap.objs.size (cellsFrom (s3.heap.objs.size + 1) scope.names (cloFrom X.env.cells scope.names [])) fp
  have pg1 := hg1 s3 (upd H2 D (.dK [])) s3.heap.objs.size (cellsFrom (s3.heap.objs.size + 1) scope.names (cloFrom X.env.cells scope.names [])) fp
  have pt1 := ht1 s3 (upd H2 D (.dK [])) s3.heap.objs.size (cellsFrom (s3.heap.objs.size + 1) scope.names (cloFrom X.env.cells scope.names [])) fp
  show codeAny _ _ (.compStart (.DictComp kx vx [⟨tg, iter, ifs, 0⟩, ⟨tg1, iter1, ifs1, 0⟩] scope pos) 0 (.ref it) (.ref D) (compEnvC scope (cellsFrom (s3.heap.objs.size + 1) scope.names (cloFrom X.env.cells scope.names [])) s3.heap.objs.size X.env)) (compPost (model X.prog X.w) X.A X.xe use Qf (.ref D) s3.heap.objs.size) { s3 with heap := pushCells (s3.heap.push { cls := .type "dict", data := .dict #[] }) scope.names }
  have offp : ∀ b ∈ fp, (upd H2 D (.dK [])) b = none := fun b hb => (f3 b hb).1.1
  generalize hce : compEnvC scope (cellsFrom (s3.heap.objs.size + 1) scope.names (cloFrom X.env.cells scope.names [])) s3.heap.objs.size X.env = ce at I4 pg pt pk pe pi1 pg1 pt1 ⊢
  have cL : ce.locals = s3.heap.objs.size := by subst hce; rfl
  generalize hH3 : upd H2 D (.dK []) = H3 at I3 I4 pg pt pk pe pi1 pg1 pt1 w0 offp f3
  generalize hs4 : ({ s3 with heap := pushCells (s3.heap.push { cls := .type "dict", data := .dict #[] }) scope.names } : Shared) = s4 at I4 ⊢
  have st4 : tn 0 s4.heap := T.keep _ _ _ st3 fun b _ o e => by rw [← hs4]; exact pushCells_keeps _ _ _ _ (Heap.get?_push_of_some _ e)
  have quiet : ∀ {σ' : L2.St} {H' : Hp} {s' : Shared}, Inv (X.blk s3 H3 scope ce fp) [] σ' H' s' → (∀ b ∈ fp, H' b = none) → ∀ b ∈ fp, FpOk (X.blk s3 H3 scope ce fp) [] H' b := fun {σ' H' s'} I' hn b hb =>
    ⟨hn b hb, (I'.ok.exf b hb).1, I'.ok.exfs b hb, .inl hb, fun x c e => (I'.ok.exf b hb).2 x c e, fun p hp => absurd (show p ∈ ([] : List (Addr × Obj)) ++ [] from hp) (by simp)⟩
  have loop : codeAny (model X.prog X.w) X.A (.compLoop (.DictComp kx vx [⟨tg, iter, ifs, 0⟩, ⟨tg1, iter1, ifs1, 0⟩] scope pos) 0 (.ref it) (.ref D) ce) (compPost (model X.prog X.w) X.A X.xe use Qf (.ref D) s3.heap.objs.size) s4 := by
    refine dcompLoop2_out (hs1 ce) (fun n s' => ∃ i H', Inv (X.blk s3 H3 scope ce fp) [] (wipe σ (own.map (·.2))) H' s' ∧ tn i s'.heap ∧ (∀ b ∈ fp, H' b = none) ∧ W i n H') ?_ m0 ⟨0, H3, I4, st4, offp, w0⟩
    rintro n s5 ⟨i, H5, I5, st5, n5, w5⟩
    rcases turn i n H5 w5 with ⟨stop, qq⟩ | ⟨go, Nx, hNx, step⟩
    · have td := T.done (X.blk s3 H3 scope ce fp) rfl rfl rfl hc i [] s5 _ H5 (fun _ _ => False) I5 (quiet I5 n5) st5 stop
      refine thnF td fun r s6 ⟨hr, I6⟩ => ?_
      subst hr
      -- back in the def's context
      have I7 : Inv X pins σ H5 s6 := I3.call' (ch := fp) I6.os I6.base I6.hok I6.bare fun b hb => ⟨(f3 b hb).1.2.2.2.1, (f3 b hb).1.2.1, (f3 b hb).1.2.2.2.2.1, (f3 b hb).1.2.2.2.2.2⟩
      have nC : H5 s3.heap.objs.size = none := by
        have z : H5 ce.locals = none := I6.free
        rw [cL] at z
        exact z
      obtain ⟨m, hn, _⟩ := I6.loc
      have hn : s6.heap.Ns ce.locals m := hn
      rw [cL] at hn
      exact hback D s3.heap.objs.size s6 m H5 I7 qq hn (I3.fpOk (Nat.le_refl _) nC)
    · have ti := T.item (X.blk s3 H3 scope ce fp) rfl rfl rfl hc i [] s5 _ H5 (fun _ _ => False) I5 (quiet I5 n5) st5 go
      refine thnF ti fun r s6 ⟨u, hr, h6⟩ => ?_
      subst hr
      refine thnF h6 fun _ s7 ⟨x, H7, I7, r7, y7, st7, n7⟩ => ?_
      have I7' := I7.pinned (quiet I7 n7) (T.obj _ _ st7)
      refine thnF (pg.run _ s7 _ H7 x u _ I7' r7 (step x H7 y7)) fun _ s8 ⟨σ8, H8, I8, hw8, q8⟩ => ?_
      refine thnF (pt.run _ s8 σ8 H8 _ I8 q8) fun b s9 ⟨H9, I9, q9⟩ => ?_
      -- the turn's end, from any slots that know what the block knew at its start
      have shut : ∀ {σ9 : L2.St} {s' : Shared} {H' : Hp}, Inv (X.blk s3 H3 scope ce fp) ([] ++ pinsAt fp s7.heap) σ9 H' s' → (wipe σ (own.map (·.2))).length = σ9.length → (∀ (j : Nat) v, (wipe σ (own.map (·.2)))[j]? = some (some v) → σ9[j]? = some (some v)) → Nx H' →
          ∃ m, m < n ∧ ∃ i H', Inv (X.blk s3 H3 scope ce fp) [] (wipe σ (own.map (·.2))) H' s' ∧ tn i s'.heap ∧ (∀ b ∈ fp, H' b = none) ∧ W i m H' := fun {σ9 s' H'} I' hl hk nx => by
        obtain ⟨m', hm, w'⟩ := hNx H' nx
        have kept : ∀ b ∈ fp, ∀ o, s7.heap.get? b = some o → s'.heap.get? b = some o ∧ H' b = none := fun b hb o e =>
          let z := I'.pin (b, o) (List.mem_append_right _ (List.mem_append_right _ (mem_pinsAt hb e)))
          ⟨z.1, z.2.1⟩
        refine ⟨m', hm, i + 1, H', (I'.unpinned (pins := [])).weak hl hk, T.keep _ _ _ st7 fun b hb o e => (kept b hb o e).1, fun b hb => ?_, w'⟩
        obtain ⟨o, e, _⟩ := T.obj _ _ st7 b hb
        exact (kept b hb o e).2
      have len8 : (wipe σ (own.map (·.2))).length = σ8.length := by rw [← hw8, wipe_length]
      have know8 : ∀ (j : Nat) v, (wipe σ (own.map (·.2)))[j]? = some (some v) → σ8[j]? = some (some v) := fun j v e => by
        rw [← hw8] at e
        exact (wipe_some e).1
      have know9 : ∀ (j : Nat) v, (wipe σ (own.map (·.2)))[j]? = some (some v) → (wipe σ8 vs1)[j]? = some (some v) := fun j v e => by
        rw [← hw8] at e
        obtain ⟨e1, e2⟩ := wipe_some e
        rw [wipe_out fun z => e2 (hv j z)]
        exact e1
      cases b with
      | false =>
        simp only [Bool.false_eq_true, if_false] at q9 ⊢
        exact shut I9 len8 know8 q9
      | true =>
        simp only [if_true] at q9 ⊢
        refine thnF (pi1.run _ s9 σ8 H9 _ I9 q9) fun srcv s10 hx => thnF hx fun itval s11 h11 => ?_
        obtain ⟨it1, fp1, tn1, J1, H11, e1, I11, T1, st11, f11, W1, ⟨m1, w1⟩, turn1⟩ := h11
        subst e1
        -- the inner loop
        have quiet1 : ∀ {H' : Hp}, (∀ b ∈ fp1, H' b = none) → ∀ b ∈ fp1, FpOk (X.blk s3 H3 scope ce fp) ([] ++ pinsAt fp s7.heap) H' b := fun hn b hb => ⟨hn b hb, (f11 b hb).2⟩
        have inner : codeAny (model X.prog X.w) X.A (.compLoop (.DictComp kx vx [⟨tg, iter, ifs, 0⟩, ⟨tg1, iter1, ifs1, 0⟩] scope pos) 1 (.ref it1) (.ref D) ce)
            (fun r s' => match r with
              | .ok _ => ∃ m, m < n ∧ ∃ i H', Inv (X.blk s3 H3 scope ce fp) [] (wipe σ (own.map (·.2))) H' s' ∧ tn i s'.heap ∧ (∀ b ∈ fp, H' b = none) ∧ W i m H'
              | .error _ => False) s11 := by
          refine dcompLoop2_in (fun k s' => ∃ j H', Inv (X.blk s3 H3 scope ce fp) ([] ++ pinsAt fp s7.heap) (wipe σ8 vs1) H' s' ∧ tn1 j s'.heap ∧ (∀ b ∈ fp1, H' b = none) ∧ W1 j k H') ?_ m1 ⟨0, H11, I11.weak (wipe_length _ _) (fun j v e => (wipe_some e).1), st11, fun b hb => (f11 b hb).1, w1⟩
          rintro k s12 ⟨j, H12, I12, st12, n12, w12⟩
          rcases turn1 j k H12 w12 with ⟨stop1, nx1⟩ | ⟨go1, Nx1, hNx1, step1⟩
          · refine thnF (T1.done (X.blk s3 H3 scope ce fp) rfl rfl rfl hc j _ s12 (wipe σ8 vs1) H12 (fun _ _ => False) I12 (quiet1 n12) st12 stop1) fun r s13 ⟨hr, I13⟩ => ?_
            subst hr
            exact shut I13 (len8.trans (wipe_length σ8 vs1).symm) know9 nx1
          · refine thnF (T1.item (X.blk s3 H3 scope ce fp) rfl rfl rfl hc j _ s12 (wipe σ8 vs1) H12 (fun _ _ => False) I12 (quiet1 n12) st12 go1) fun r s13 ⟨u1, hr, h13⟩ => ?_
            subst hr
            refine thnF h13 fun _ s14 ⟨x1, H14, I14, r14, y14, st14, n14⟩ => ?_
            have I14' := I14.pinned (quiet1 n14) (T1.obj _ _ st14)
            refine thnF (pg1.run _ s14 (wipe σ8 vs1) H14 x1 u1 _ I14' r14 (step1 x1 H14 y14)) fun _ s15 ⟨σ15, H15, I15, hw15, q15⟩ => ?_
            refine thnF (pt1.run _ s15 σ15 H15 _ I15 q15) fun b1 s16 ⟨H16, I16, q16⟩ => ?_
            have shut1 : ∀ {s' : Shared} {H' : Hp}, Inv (X.blk s3 H3 scope ce fp) (([] ++ pinsAt fp s7.heap) ++ pinsAt fp1 s14.heap) σ15 H' s' → Nx1 H' → ∃ m, m < k ∧ ∃ j H', Inv (X.blk s3 H3 scope ce fp) ([] ++ pinsAt fp s7.heap) (wipe σ8 vs1) H' s' ∧ tn1 j s'.heap ∧ (∀ b ∈ fp1, H' b = none) ∧ W1 j m H' := fun {s' H'} I' nx => by
              obtain ⟨m', hm, w'⟩ := hNx1 H' nx
              have kept : ∀ b ∈ fp1, ∀ o, s14.heap.get? b = some o → s'.heap.get? b = some o ∧ H' b = none := fun b hb o e =>
                let z := I'.pin (b, o) (List.mem_append_right _ (List.mem_append_right _ (mem_pinsAt hb e)))
                ⟨z.1, z.2.1⟩
              refine ⟨m', hm, j + 1, H', I'.unpinned.weak (by rw [← hw15, wipe_length]) (fun j v e => by rw [← hw15] at e; exact (wipe_some e).1), T1.keep _ _ _ st14 fun b hb o e => (kept b hb o e).1, fun b hb => ?_, w'⟩
              obtain ⟨o, e, _⟩ := T1.obj _ _ st14 b hb
              exact (kept b hb o e).2
            cases b1 with
            | false =>
              simp only [Bool.false_eq_true, if_false] at q16 ⊢
              exact shut1 I16 q16
            | true =>
              simp only [if_true] at q16 ⊢
              refine thnF (pk.run _ s16 σ15 H16 _ I16 q16) fun z s17 ⟨yk, H17, I17, r17, q17⟩ => ?_
              refine thnF (pe.run _ s17 σ15 H17 _ I17 q17) fun z2 s18 ⟨yv, H18, I18, r18, kvs, k1, ek, hD18, hz18, nx⟩ => ?_
              subst ek
              exact d_dictSet (X := X.blk s3 H3 scope ce fp) I18 hD18 hz18 r17 r18 fun s19 I19 => shut1 I19 nx
        exact dcompStart1_ok inner (T1.self X.A 0 _ _ _ st11 inner)
  exact codeAny_compStart_dict loop (T.self X.A 0 _ _ _ st4 loop)
theorem pe_dc2 {kx vx tg iter tg1 iter1 : Expr} {ifs ifs1 : List Expr} {scope : Scope} {own : List (Str × Nat)} {vs1 : List Nat} {pos : Pos} {wi wi1 : TI} {g g1 : TG} {tt tt1 : TT} {tk tv : TE} (hc : X.calm = true) (hN : X.N.Nodup) (hi : PI X tg iter wi) (ok : BlkOk X.N X.env.scope scope own) (hv : ∀ i ∈ vs1, i ∈ own.map (·.2))
    (hg : ∀ (s : Shared) (H : Hp) (C : Addr) (cl : List (Str × Addr)) (fp : List Addr), PG (X.blk s H scope (compEnvC scope cl C X.env) fp) tg g) (ht : ∀ (s : Shared) (H : Hp) (C : Addr) (cl : List (Str × Addr)) (fp : List Addr), PTs (X.blk s H scope (compEnvC scope cl C X.env) fp) ifs tt)
    (hi1 : ∀ (s : Shared) (H : Hp) (C : Addr) (cl : List (Str × Addr)) (fp : List Addr), PI (X.blk s H scope (compEnvC scope cl C X.env) fp) tg1 iter1 wi1)
    (hg1 : ∀ (s : Shared) (H : Hp) (C : Addr) (cl : List (Str × Addr)) (fp : List Addr), PG (X.blk s H scope (compEnvC scope cl C X.env) fp) tg1 g1) (ht1 : ∀ (s : Shared) (H : Hp) (C : Addr) (cl : List (Str × Addr)) (fp : List Addr), PTs (X.blk s H scope (compEnvC scope cl C X.env) fp) ifs1 tt1)
    (hk : ∀ (s : Shared) (H : Hp) (C : Addr) (cl : List (Str × Addr)) (fp : List Addr), PE (X.blk s H scope (compEnvC scope cl C X.env) fp) kx tk) (he : ∀ (s : Shared) (H : Hp) (C : Addr) (cl : List (Str × Addr)) (fp : List Addr), PE (X.blk s H scope (compEnvC scope cl C X.env) fp) vx tv) (hs : ∀ x, foldedSetIterable iter X.env x = pure x := by intro _; rfl) (hs1 : ∀ env x, foldedSetIterable iter1 env x = pure x := by intro _ _; rfl) :
    PE X (.DictComp kx vx [⟨tg, iter, ifs, 0⟩, ⟨tg1, iter1, ifs1, 0⟩] scope pos) (tDc2 wi g tt wi1 g1 tt1 tk tv (own.map (·.2)) vs1) := by
  refine ⟨fun pins s σ H Q I h => ?_⟩
  rw [arm_eval_DictComp]
  refine dc2_core hc hN I hi ok hv hg ht hk he hs hi1 hg1 ht1 hs1 h fun D C s' m H' I' q hn f => ⟨m, hn, fun h'' sb => ?_⟩
  obtain ⟨f0, f1, f2, f3, f4, f5⟩ := f
  exact ⟨.ref D, H', I'.turned (t' := s'.toks) (fun b o hb e => (sb.2 b hb).trans e) f0 f1 f3 f4 f5, rfl, q⟩

end
section
variable {X : Cx} (K : PySem.W.Frag)
theorem pgTK {es : List Expr} {k : Nat} {pos : Pos} {t : TGs} (n : Nat) (h : PGs X es t) (hc : X.calm = true := by rfl) (hK : X.K = K := by rfl) (hn : (assignEach es X.env).length = n := by rfl) (hst : (assignEach es X.env).findIdx? (·.1) = none := by rfl) : PG X (.Tuple es k pos) (gTup K n t) := by
  subst hK
  exact pg_tup hc h hn hst
theorem piTK {tg l : Expr} {tl : TE} (hl : PE X l tl) (hK : X.K = K := by rfl) : PI X tg l (iTup K tl) := by
  subst hK
  exact pi_tup hl
theorem piLK {tg l : Expr} {tl : TE} (hl : PE X l tl) (hK : X.K = K := by rfl) : PI X tg l (iList K tl) := by
  subst hK
  exact pi_list hl
end
end Bx

/-! Lowering along literals again and again: values, or a ring. Plain mathematics. -/
namespace Bf
universe u
variable {T : Type u} [DecidableEq T]
abbrev Lit (T : Type u) := T × T × Int
/-- heights, what each was lowered by -/
structure Sta (T : Type u) where
  h : T → Int
  by_ : T → Option Nat
  low : Option T
def put {α : Type} (f : T → α) (t : T) (v : α) : T → α := fun x => if x = t then v else f x
theorem put_self {α : Type} (f : T → α) (t : T) (v : α) : put f t v t = v := if_pos rfl
theorem put_ne {α : Type} {f : T → α} {t x : T} {v : α} (h : x ≠ t) : put f t v x = f x := if_neg h
/-- one literal looked at -/
def one (s : Sta T) (at_ : Nat) (q : Lit T) : Sta T :=
  if s.h q.2.1 + q.2.2 < s.h q.1 then ⟨put s.h q.1 (s.h q.2.1 + q.2.2), put s.by_ q.1 (some at_), some q.1⟩ else s
/-- the first k literals of a pass -/
def some_ (L : List (Lit T)) (s : Sta T) : Nat → Sta T
  | 0 => s
  | k + 1 => match L[k]? with
    | some q => one (some_ L s k) k q
    | none => some_ L s k
def pass (L : List (Lit T)) (s : Sta T) : Sta T := some_ L { s with low := none } L.length
def passes (L : List (Lit T)) : Nat → Sta T
  | 0 => ⟨fun _ => 0, fun _ => none, none⟩
  | k + 1 => pass L (passes L k)
def num (L : List (Lit T)) (i : Nat) : Int := match L[i]? with
  | some q => q.2.2
  | none => 0
def tot (L : List (Lit T)) : List Nat → Int
  | [] => 0
  | i :: is => num L i + tot L is
/-- a way back along what terms were lowered by -/
inductive Pth (L : List (Lit T)) (b : T → Option Nat) : T → List Nat → T → Prop
  | nil (t : T) : Pth L b t [] t
  | cons {t r : T} {n : Int} {i : Nat} {is : List Nat} {e : T} (hb : b t = some i) (hL : L[i]? = some (t, r, n)) (p : Pth L b r is e) : Pth L b t (i :: is) e
structure Good (L : List (Lit T)) (s : Sta T) : Prop where
  own : ∀ t i, s.by_ t = some i → ∃ r n, L[i]? = some (t, r, n) ∧ s.h r + n ≤ s.h t
  root : ∀ t, s.by_ t = none → s.h t = 0
  le0 : ∀ t, s.h t ≤ 0
  ring : ∀ t is, is ≠ [] → Pth L s.by_ t is t → tot L is < 0
theorem num_at {L : List (Lit T)} {i : Nat} {q : Lit T} (h : L[i]? = some q) : num L i = q.2.2 := by
  unfold num
  rw [h]
theorem pth_le {L : List (Lit T)} {b : T → Option Nat} {h : T → Int} (own : ∀ t i, b t = some i → ∃ r n, L[i]? = some (t, r, n) ∧ h r + n ≤ h t) {t : T} {is : List Nat} {e : T} (p : Pth L b t is e) : tot L is + h e ≤ h t := by
  induction p with
  | nil t => simp [tot]
  | @cons t r n i is e hb hL p ih =>
    obtain ⟨r', n', h1, h2⟩ := own t i hb
    have e1 : (t, r, n) = (t, r', n') := Option.some.inj (hL.symm.trans h1)
    have e2 : r = r' := congrArg (fun x => x.2.1) e1
    have e3 : n = n' := congrArg (fun x => x.2.2) e1
    subst e2 e3
    have e4 : num L i = n := num_at hL
    simp only [tot]
    rw [e4]
    omega
/-- a way by the new table: an old one, or strictly lower -/
theorem pth_new {L : List (Lit T)} {s : Sta T} (G : Good L s) {l r : T} {n : Int} {i0 : Nat} (h0 : L[i0]? = some (l, r, n)) (hlt : s.h r + n < s.h l) {t : T} {is : List Nat} {e : T} (p : Pth L (put s.by_ l (some i0)) t is e) :
    (Pth L s.by_ t is e ∧ tot L is + s.h e ≤ s.h t) ∨ tot L is + s.h e < s.h t := by
  induction p with
  | nil t => exact .inl ⟨.nil t, by simp [tot]⟩
  | @cons t r' n' i is e hb hL p ih =>
    have e4 : num L i = n' := num_at hL
    simp only [tot]
    rw [e4]
    by_cases q : t = l
    · subst q
      rw [put_self] at hb
      cases hb
      have e1 : (t, r', n') = (t, r, n) := Option.some.inj (hL.symm.trans h0)
      have e2 : r' = r := congrArg (fun x => x.2.1) e1
      have e3 : n' = n := congrArg (fun x => x.2.2) e1
      subst e2 e3
      right
      rcases ih with ⟨_, h⟩ | h <;> omega
    · rw [put_ne q] at hb
      obtain ⟨r2, n2, h1, h2⟩ := G.own t i hb
      have e1 : (t, r', n') = (t, r2, n2) := Option.some.inj (hL.symm.trans h1)
      have e2 : r' = r2 := congrArg (fun x => x.2.1) e1
      have e3 : n' = n2 := congrArg (fun x => x.2.2) e1
      subst e2 e3
      rcases ih with ⟨p', h⟩ | h
      · exact .inl ⟨.cons hb hL p', by omega⟩
      · right
        omega
theorem one_good {L : List (Lit T)} {s : Sta T} (G : Good L s) {i : Nat} {q : Lit T} (hq : L[i]? = some q) : Good L (one s i q) := by
  unfold one
  split
  · rename_i hlt
    obtain ⟨l, r, n⟩ := q
    simp only at hlt hq ⊢
    refine ⟨fun t j hb => ?_, fun t hb => ?_, fun t => ?_, fun t is hne p => ?_⟩
    · by_cases e : t = l
      · subst e
        simp only [put_self] at hb ⊢
        cases hb
        refine ⟨r, n, hq, ?_⟩
        by_cases e2 : r = t
        · subst e2
          rw [put_self]
          omega
        · rw [put_ne e2]
          exact Int.le_refl _
      · simp only [put_ne e] at hb ⊢
        obtain ⟨r2, n2, h1, h2⟩ := G.own t j hb
        refine ⟨r2, n2, h1, ?_⟩
        by_cases e2 : r2 = l
        · subst e2
          rw [put_self]
          omega
        · rw [put_ne e2]
          exact h2
    · by_cases e : t = l
      · subst e
        simp only [put_self] at hb
        cases hb
      · simp only [put_ne e] at hb ⊢
        exact G.root t hb
    · by_cases e : t = l
      · subst e
        simp only [put_self]
        have := G.le0 t
        omega
      · simp only [put_ne e]
        exact G.le0 t
    · rcases pth_new G hq hlt p with ⟨p', _⟩ | h
      · exact G.ring t is hne p'
      · omega
  · exact G
theorem some_succ {L : List (Lit T)} {s : Sta T} {k : Nat} {q : Lit T} (h : L[k]? = some q) : some_ L s (k + 1) = one (some_ L s k) k q := by
  rw [some_, h]
theorem some_good {L : List (Lit T)} {s : Sta T} (G : Good L s) : ∀ k, Good L (some_ L s k)
  | 0 => G
  | k + 1 => by
    have ih := some_good G k
    unfold some_
    cases h : L[k]? with
    | none => exact ih
    | some q => exact one_good ih h
theorem good_low {L : List (Lit T)} {s : Sta T} (G : Good L s) (o : Option T) : Good L { s with low := o } := ⟨G.own, G.root, G.le0, G.ring⟩
theorem passes_good (L : List (Lit T)) : ∀ k, Good L (passes L k)
  | 0 => ⟨fun t i h => (by cases h), fun _ _ => rfl, fun _ => Int.le_refl _, fun t is hne p => by
      cases p with
      | nil => exact absurd rfl hne
      | cons hb => cases hb⟩
  | k + 1 => some_good (good_low (passes_good L k) none) _
/-! ### a pass -/
theorem one_le (s : Sta T) (i : Nat) (q : Lit T) (t : T) : (one s i q).h t ≤ s.h t := by
  unfold one
  split
  · by_cases e : t = q.1
    · subst e
      simp only [put_self]
      omega
    · simp only [put_ne e]
      exact Int.le_refl _
  · exact Int.le_refl _
theorem one_done (s : Sta T) (i : Nat) (q : Lit T) : (one s i q).h q.1 ≤ s.h q.2.1 + q.2.2 := by
  unfold one
  split
  · simp only [put_self]
    exact Int.le_refl _
  · omega
theorem some_le {L : List (Lit T)} {s : Sta T} (t : T) : ∀ k, (some_ L s k).h t ≤ s.h t
  | 0 => Int.le_refl _
  | k + 1 => by
    have ih := some_le (L := L) (s := s) t k
    unfold some_
    cases h : L[k]? with
    | none => exact ih
    | some q => exact Int.le_trans (one_le _ _ _ _) ih
theorem some_done {L : List (Lit T)} {s : Sta T} {i : Nat} {q : Lit T} (hq : L[i]? = some q) : ∀ k, i < k → (some_ L s k).h q.1 ≤ s.h q.2.1 + q.2.2
  | 0, h => absurd h (Nat.not_lt_zero i)
  | k + 1, h => by
    unfold some_
    by_cases e : i = k
    · subst e
      rw [hq]
      show (one (some_ L s i) i q).h q.1 ≤ _
      have h1 := one_done (some_ L s i) i q
      have h2 := some_le (L := L) (s := s) q.2.1 i
      omega
    · have ih := some_done (s := s) hq k (by omega)
      cases h' : L[k]? with
      | none => exact ih
      | some q' => exact Int.le_trans (one_le _ _ _ _) ih
/-- nothing lowered: all is as it was and all looked at hold -/
theorem some_none {L : List (Lit T)} {s : Sta T} (h0 : s.low = none) : ∀ k, (some_ L s k).low = none → (some_ L s k) = s ∧ ∀ i q, i < k → L[i]? = some q → s.h q.1 ≤ s.h q.2.1 + q.2.2
  | 0, _ => ⟨rfl, fun i q h => absurd h (Nat.not_lt_zero i)⟩
  | k + 1, h => by
    unfold some_ at h ⊢
    cases h' : L[k]? with
    | none =>
      rw [h'] at h
      obtain ⟨e, ih⟩ := some_none h0 k h
      refine ⟨e, fun i q hi hq => ?_⟩
      by_cases e2 : i = k
      · subst e2
        rw [h'] at hq
        cases hq
      · exact ih i q (by omega) hq
    | some q0 =>
      rw [h'] at h
      simp only at h ⊢
      have hn : (some_ L s k).low = none ∧ ¬ ((some_ L s k).h q0.2.1 + q0.2.2 < (some_ L s k).h q0.1) := by
        unfold one at h
        split at h
        · cases h
        · exact ⟨h, by assumption⟩
      obtain ⟨e, ih⟩ := some_none h0 k hn.1
      rw [e] at hn ⊢
      refine ⟨by unfold one; rw [if_neg hn.2], fun i q hi hq => ?_⟩
      by_cases e2 : i = k
      · subst e2
        rw [h'] at hq
        cases hq
        omega
      · exact ih i q (by omega) hq
/-- what was lowered last is lower, and told with what it was lowered by -/
theorem some_low {L : List (Lit T)} {s : Sta T} (h0 : s.low = none) {t : T} : ∀ k, (some_ L s k).low = some t → (some_ L s k).h t < s.h t ∧ (some_ L s k).by_ t ≠ none
  | 0, h => by
    rw [show some_ L s 0 = s from rfl, h0] at h
    cases h
  | k + 1, h => by
    unfold some_ at h ⊢
    cases h' : L[k]? with
    | none =>
      rw [h'] at h
      exact some_low h0 k h
    | some q0 =>
      rw [h'] at h
      simp only at h ⊢
      unfold one at h ⊢
      split at h
      · rename_i hlt
        rw [if_pos hlt]
        simp only at h
        cases h
        simp only [put_self]
        have := some_le (L := L) (s := s) q0.1 k
        exact ⟨by omega, by simp⟩
      · rename_i hlt
        rw [if_neg hlt]
        exact some_low h0 k h
theorem pass_le (L : List (Lit T)) (s : Sta T) (t : T) : (pass L s).h t ≤ s.h t := some_le (L := L) (s := { s with low := none }) t _
theorem pass_done {L : List (Lit T)} {s : Sta T} {i : Nat} {q : Lit T} (hq : L[i]? = some q) : (pass L s).h q.1 ≤ s.h q.2.1 + q.2.2 := some_done (s := { s with low := none }) hq _ (List.getElem?_eq_some_iff.mp hq).1
theorem passes_mono (L : List (Lit T)) (t : T) {j : Nat} : ∀ {k : Nat}, j ≤ k → (passes L k).h t ≤ (passes L j).h t
  | 0, h => by
    have e : j = 0 := by omega
    subst e
    exact Int.le_refl _
  | k + 1, h => by
    by_cases e : j = k + 1
    · subst e
      exact Int.le_refl _
    · exact Int.le_trans (pass_le _ _ _) (passes_mono L t (by omega))
/-- after as many passes as a way has steps, its end is no more above its begin than it says -/
theorem passes_way {L : List (Lit T)} {b : T → Option Nat} {t : T} {is : List Nat} {e : T} (p : Pth L b t is e) : (passes L is.length).h t ≤ tot L is := by
  induction p with
  | nil t => exact Int.le_refl _
  | @cons t r n i is e hb hL p ih =>
    have h1 := pass_done (s := passes L is.length) hL
    have e4 : num L i = n := num_at hL
    simp only [tot]
    rw [e4]
    show (pass L (passes L is.length)).h t ≤ _
    simp only at h1
    omega
/-! ### the ring -/
def nxt (L : List (Lit T)) (b : T → Option Nat) (t : T) : T := match b t with
  | some i => (match L[i]? with
    | some q => q.2.1
    | none => t)
  | none => t
def itr (L : List (Lit T)) (b : T → Option Nat) (t : T) : Nat → T
  | 0 => t
  | k + 1 => nxt L b (itr L b t k)
theorem itr_add (L : List (Lit T)) (b : T → Option Nat) (t : T) (i : Nat) : ∀ k, itr L b t (i + k) = itr L b (itr L b t i) k
  | 0 => rfl
  | k + 1 => congrArg (nxt L b) (itr_add L b t i k)
theorem nxt_at {L : List (Lit T)} {b : T → Option Nat} {t r : T} {n : Int} {i : Nat} (hb : b t = some i) (hL : L[i]? = some (t, r, n)) : nxt L b t = r := by
  unfold nxt
  rw [hb]
  show (match L[i]? with
    | some q => q.2.1
    | none => t) = r
  rw [hL]
theorem pth_itr {L : List (Lit T)} {s : Sta T} (G : Good L s) : ∀ (k : Nat) (t : T), (∀ j, j < k → s.by_ (itr L s.by_ t j) ≠ none) → ∃ is, is.length = k ∧ Pth L s.by_ t is (itr L s.by_ t k) ∧ ∀ j, j < k → is[j]? = s.by_ (itr L s.by_ t j)
  | 0, t, _ => ⟨[], rfl, .nil t, fun j h => absurd h (Nat.not_lt_zero j)⟩
  | k + 1, t, h => by
    obtain ⟨i, hi⟩ := Option.ne_none_iff_exists'.mp (h 0 (Nat.succ_pos k))
    obtain ⟨r, n, hL, _⟩ := G.own t i hi
    have en : nxt L s.by_ t = r := nxt_at hi hL
    have e : ∀ j, itr L s.by_ t (j + 1) = itr L s.by_ r j := fun j => by
      rw [Nat.add_comm, itr_add]
      show itr L s.by_ (nxt L s.by_ t) j = _
      rw [en]
    obtain ⟨is, hl, hp, ha⟩ := pth_itr G k r fun j hj => by
      rw [← e]
      exact h (j + 1) (Nat.succ_lt_succ hj)
    refine ⟨i :: is, by rw [List.length_cons, hl], ?_, fun j hj => ?_⟩
    · rw [e]
      exact .cons hi hL hp
    · cases j with
      | zero => exact hi.symm
      | succ j =>
        rw [e]
        exact ha j (by omega)
theorem nodup_map_range {f : Nat → T} {k : Nat} (h : ∀ i j, i < k → j < k → f i = f j → i = j) : ((List.range k).map f).Nodup := by
  rw [List.nodup_iff_pairwise_ne, List.pairwise_map]
  refine List.Pairwise.imp_of_mem ?_ List.nodup_range
  intro a b ha hb hne e
  exact hne (h a b (List.mem_range.mp ha) (List.mem_range.mp hb) e)
theorem len_le : ∀ {xs ys : List T}, xs.Nodup → (∀ k ∈ xs, k ∈ ys) → xs.length ≤ ys.length
  | [], _, _, _ => Nat.zero_le _
  | a :: o, ys, nd, h => by
    have ha : a ∈ ys := h a List.mem_cons_self
    have hn := List.nodup_cons.mp nd
    have e : o.length ≤ (ys.erase a).length := len_le hn.2 fun k hk => (List.mem_erase_of_ne (fun q => hn.1 (by rw [← q]; exact hk))).mpr (h k (List.mem_cons_of_mem _ hk))
    have e2 : (ys.erase a).length = ys.length - 1 := List.length_erase_of_mem ha
    have hp : 0 < ys.length := List.length_pos_of_mem ha
    rw [List.length_cons]
    omega
/-- where a pass more than there are terms still lowers, the way back from what was lowered has no end -/
theorem no_root {L : List (Lit T)} {ks : List T} (hks : ∀ q ∈ L, q.1 ∈ ks ∧ q.2.1 ∈ ks) {t : T} (hl : (passes L (ks.length + 1)).low = some t) : ∀ k, (passes L (ks.length + 1)).by_ (itr L (passes L (ks.length + 1)).by_ t k) ≠ none := by
  have G := passes_good L (ks.length + 1)
  generalize hs : passes L (ks.length + 1) = s at *
  have low : s.h t < (passes L ks.length).h t := by
    rw [← hs] at hl ⊢
    exact (some_low (s := { passes L ks.length with low := none }) rfl _ hl).1
  intro k
  induction k using Nat.strongRecOn with
  | _ k ih =>
    intro hn
    obtain ⟨is, hlen, hp, _⟩ := pth_itr G k t fun j hj => ih j hj
    -- the terms on the way are different
    have nd : ((List.range (k + 1)).map (itr L s.by_ t)).Nodup := by
      have key : ∀ i j, i < j → j < k + 1 → itr L s.by_ t i ≠ itr L s.by_ t j := fun i j hij hj e => by
        have e2 : itr L s.by_ t (i + (k - j)) = itr L s.by_ t k := by
          rw [itr_add, e, ← itr_add]
          congr 1
          omega
        exact ih (i + (k - j)) (by omega) (by rw [e2]; exact hn)
      refine nodup_map_range fun i j hi hj e => ?_
      rcases Nat.lt_trichotomy i j with h | h | h
      · exact absurd e (key i j h hj)
      · exact h
      · exact absurd e.symm (key j i h hi)
    have mem : ∀ x ∈ (List.range (k + 1)).map (itr L s.by_ t), x ∈ ks := fun x hx => by
      obtain ⟨j, hj, rfl⟩ := List.mem_map.mp hx
      have hj2 := List.mem_range.mp hj
      have src : ∀ j, j < k → itr L s.by_ t j ∈ ks ∧ itr L s.by_ t (j + 1) ∈ ks := fun j hj => by
        obtain ⟨i, hi⟩ := Option.ne_none_iff_exists'.mp (ih j hj)
        obtain ⟨r, n, hL, _⟩ := G.own _ i hi
        have hm := hks _ (List.mem_of_getElem? hL)
        refine ⟨hm.1, ?_⟩
        show nxt L s.by_ (itr L s.by_ t j) ∈ ks
        rw [nxt_at hi hL]
        exact hm.2
      cases k with
      | zero =>
        -- t itself has no root: it was lowered
        have hb : s.by_ t ≠ none := by
          rw [← hs] at hl ⊢
          exact (some_low (s := { passes L ks.length with low := none }) rfl _ hl).2
        exact absurd hn hb
      | succ k =>
        by_cases e : j = k + 1
        · subst e
          exact (src k (Nat.lt_succ_self k)).2
        · exact (src j (by omega)).1
    have hk : k + 1 ≤ ks.length := by
      have := len_le nd mem
      simpa using this
    have h1 := pth_le G.own hp
    have h2 := passes_way hp
    have h3 := passes_mono L t (show is.length ≤ ks.length by omega)
    have h4 := G.root _ hn
    omega
structure IsRing (L : List (Lit T)) (is : List Nat) (f : Nat → T) : Prop where
  ne : is ≠ []
  at_ : ∀ j, j < is.length → ∃ i n, is[j]? = some i ∧ L[i]? = some (f j, f (j + 1), n)
  back : f is.length = f 0
  inj : ∀ i j, i < is.length → j < is.length → f i = f j → i = j
  neg : tot L is < 0
theorem IsRing.nodup {L : List (Lit T)} {is : List Nat} {f : Nat → T} (R : IsRing L is f) : is.Nodup := by
  rw [List.nodup_iff_pairwise_ne, List.pairwise_iff_getElem]
  intro i j hi hj hij e
  obtain ⟨a, n, h1, h2⟩ := R.at_ i hi
  obtain ⟨b, m, h3, h4⟩ := R.at_ j hj
  rw [List.getElem?_eq_getElem hi] at h1
  rw [List.getElem?_eq_getElem hj] at h3
  have e1 : a = b := by
    have e1 := Option.some.inj h1
    have e2 := Option.some.inj h3
    rw [← e1, ← e2, e]
  subst e1
  have e2 := Option.some.inj (h2.symm.trans h4)
  have e3 : f i = f j := congrArg (fun x => x.1) e2
  have := R.inj i j hi hj e3
  omega
/-- after as many steps back as terms were lowered one stands on a ring -/
theorem on_ring {L : List (Lit T)} {s : Sta T} {bs : List T} (hbs : ∀ x, s.by_ x ≠ none → x ∈ bs) {t : T} (hn : ∀ k, s.by_ (itr L s.by_ t k) ≠ none) : ∃ d, 0 < d ∧ d ≤ bs.length ∧ itr L s.by_ t (bs.length + d) = itr L s.by_ t bs.length := by
  have h : ¬ ((List.range (bs.length + 1)).map (itr L s.by_ t)).Nodup := fun nd => by
    have := len_le nd (ys := bs) fun x hx => by
      obtain ⟨j, _, rfl⟩ := List.mem_map.mp hx
      exact hbs _ (hn j)
    simp at this
    omega
  have h2 : ∃ i j, i < j ∧ j < bs.length + 1 ∧ itr L s.by_ t i = itr L s.by_ t j := by
    refine Classical.byContradiction fun hc => h (nodup_map_range fun i j hi hj e => ?_)
    rcases Nat.lt_trichotomy i j with q | q | q
    · exact absurd ⟨i, j, q, hj, e⟩ hc
    · exact q
    · exact absurd ⟨j, i, q, hi, e.symm⟩ hc
  obtain ⟨i, j, hij, hj, e⟩ := h2
  refine ⟨j - i, by omega, by omega, ?_⟩
  have e1 : bs.length + (j - i) = j + (bs.length - i) := by omega
  have e2 : bs.length = i + (bs.length - i) := by omega
  rw [e1, itr_add, ← e, ← itr_add, ← e2]
theorem least {p : Nat → Prop} : ∀ n, p n → ∃ k, k ≤ n ∧ p k ∧ ∀ j, j < k → ¬ p j := by
  intro n
  induction n using Nat.strongRecOn with
  | _ n ih =>
    intro h
    by_cases q : ∃ j, j < n ∧ p j
    · obtain ⟨j, hj, hp⟩ := q
      obtain ⟨k, h1, h2, h3⟩ := ih j hj hp
      exact ⟨k, by omega, h2, h3⟩
    · exact ⟨n, Nat.le_refl n, h, fun j hj hp => q ⟨j, hj, hp⟩⟩
/-- the ring from where one stands: its least round -/
theorem ring_of {L : List (Lit T)} {s : Sta T} (G : Good L s) {x : T} (hn : ∀ k, s.by_ (itr L s.by_ x k) ≠ none) {c : Nat} (h0 : itr L s.by_ x (c + 1) = x) (hl : ∀ j, 0 < j → j ≤ c → itr L s.by_ x j ≠ x) {is : List Nat} (hlen : is.length = c + 1) (his : ∀ j, j ≤ c → is[j]? = s.by_ (itr L s.by_ x j)) :
    IsRing L is (itr L s.by_ x) where
  ne := fun e => by rw [e] at hlen; cases hlen
  at_ := fun j hj => by
    obtain ⟨i, hi⟩ := Option.ne_none_iff_exists'.mp (hn j)
    obtain ⟨r, n, hL, _⟩ := G.own _ i hi
    refine ⟨i, n, by rw [his j (by omega), hi], ?_⟩
    show L[i]? = some (itr L s.by_ x j, nxt L s.by_ (itr L s.by_ x j), n)
    rw [nxt_at hi hL]
    exact hL
  back := by rw [hlen]; exact h0
  inj := by
    have key : ∀ i j, i < j → j < c + 1 → itr L s.by_ x i ≠ itr L s.by_ x j := fun i j hij hj e => by
      have e2 : itr L s.by_ x (i + (c + 1 - j)) = x := by
        rw [itr_add, e, ← itr_add, show j + (c + 1 - j) = c + 1 by omega]
        exact h0
      exact hl (i + (c + 1 - j)) (by omega) (by omega) e2
    intro i j hi hj e
    rw [hlen] at hi hj
    rcases Nat.lt_trichotomy i j with q | q | q
    · exact absurd e (key i j q hj)
    · exact q
    · exact absurd e.symm (key j i q hi)
  neg := by
    obtain ⟨js, hl2, hp, ha⟩ := pth_itr G (c + 1) x fun j _ => hn j
    have e : js = is := by
      refine List.ext_getElem? fun j => ?_
      by_cases hj : j < c + 1
      · rw [ha j hj, his j (by omega)]
      · rw [List.getElem?_eq_none (by omega), List.getElem?_eq_none (by omega)]
    subst e
    rw [h0] at hp
    exact G.ring x js (fun e => by rw [e] at hl2; cases hl2) hp
end Bf

namespace Bx
open PySem PySem.Spec PyProof.Rows L2
/-! ### dicts over texts, as functions -/
def hk (ks : List Str) (h : Str → Int) : List (Key × V) := ks.map fun t => (Sum.inr t, V.int (h t))
def bk (bs : List Str) (b : Str → Option Nat) : List (Key × V) := bs.map fun t => (Sum.inr t, V.int (((b t).getD 0 : Nat) : Int))
def fk (ks : List Str) (v : Str → V) : List (Key × V) := ks.map fun t => (Sum.inr t, v t)
theorem fk_get {v : Str → V} {t : Str} : ∀ {ks : List Str}, t ∈ ks → valV (fk ks v) (Sum.inr t) = some (v t)
  | k :: ks, h => by
    by_cases e : k = t
    · subst e
      exact valV_pos rfl
    · show valV ((Sum.inr k, v k) :: fk ks v) _ = _
      rw [valV_neg (fun q => e (Sum.inr.inj q))]
      rcases List.mem_cons.mp h with q | q
      · exact absurd q.symm e
      · exact fk_get q
theorem fk_no {v : Str → V} {t : Str} : ∀ {ks : List Str}, t ∉ ks → valV (fk ks v) (Sum.inr t) = none
  | [], _ => rfl
  | k :: ks, h => by
    have e : ¬ k = t := fun q => h (q ▸ List.mem_cons_self)
    show valV ((Sum.inr k, v k) :: fk ks v) _ = _
    rw [valV_neg (fun q => e (Sum.inr.inj q))]
    exact fk_no fun q => h (List.mem_cons_of_mem _ q)
theorem fk_any {v : Str → V} {t : Str} {ks : List Str} : ((fk ks v).any fun kv => decide (kv.1 = Sum.inr t)) = decide (t ∈ ks) := by
  rw [Bool.eq_iff_iff, List.any_eq_true, decide_eq_true_eq]
  constructor
  · rintro ⟨p, hp, e⟩
    obtain ⟨k, hk, rfl⟩ := List.mem_map.mp hp
    have e := of_decide_eq_true e
    rw [← Sum.inr.inj e]
    exact hk
  · intro h
    exact ⟨(Sum.inr t, v t), List.mem_map_of_mem h, decide_eq_true rfl⟩
theorem fk_put {v : Str → V} {t : Str} {x : V} {ks : List Str} (h : t ∈ ks) : putK (fk ks v) (Sum.inr t) x = fk ks (fun k => if k = t then x else v k) := by
  unfold putK
  rw [fk_any, decide_eq_true h, if_pos rfl]
  unfold fk
  rw [List.map_map]
  refine List.map_congr_left fun k _ => ?_
  show (if (Sum.inr k : Key) = Sum.inr t then (Sum.inr k, x) else (Sum.inr k, v k)) = (Sum.inr k, if k = t then x else v k)
  by_cases e : k = t
  · rw [if_pos (congrArg Sum.inr e), if_pos e]
  · rw [if_neg (fun q => e (Sum.inr.inj q)), if_neg e]
theorem fk_new {v : Str → V} {t : Str} {x : V} {ks : List Str} (h : t ∉ ks) : putK (fk ks v) (Sum.inr t) x = fk (ks ++ [t]) (fun k => if k = t then x else v k) := by
  unfold putK
  rw [fk_any, decide_eq_false h, if_neg Bool.false_ne_true]
  unfold fk
  rw [List.map_append]
  congr 1
  · refine List.map_congr_left fun k hk => ?_
    have e : k ≠ t := fun q => h (q ▸ hk)
    simp only [if_neg e]
  · simp
theorem hk_get {h : Str → Int} {t : Str} {ks : List Str} (m : t ∈ ks) : valV (hk ks h) (Sum.inr t) = some (.int (h t)) := fk_get (v := fun t => V.int (h t)) m
theorem hk_put {h : Str → Int} {t : Str} {n : Int} {ks : List Str} (m : t ∈ ks) : putK (hk ks h) (Sum.inr t) (.int n) = hk ks (Bf.put h t n) := by
  refine (fk_put (v := fun t => V.int (h t)) m).trans ?_
  unfold fk hk
  refine List.map_congr_left fun k _ => ?_
  unfold Bf.put
  by_cases e : k = t <;> simp [e]
theorem bk_get {b : Str → Option Nat} {t : Str} {bs : List Str} {i : Nat} (m : t ∈ bs) (hb : b t = some i) : valV (bk bs b) (Sum.inr t) = some (.int (i : Nat)) := by
  refine (fk_get (v := fun t => V.int (((b t).getD 0 : Nat) : Int)) m).trans ?_
  rw [hb]
  rfl
/-- which terms have been lowered -/
def ByOk (bs : List Str) (b : Str → Option Nat) : Prop := bs.Nodup ∧ ∀ t, t ∈ bs ↔ b t ≠ none
theorem bk_put {b : Str → Option Nat} {t : Str} {i : Nat} {bs : List Str} (ok : ByOk bs b) : ∃ bs', putK (bk bs b) (Sum.inr t) (.int (i : Nat)) = bk bs' (Bf.put b t (some i)) ∧ ByOk bs' (Bf.put b t (some i)) ∧ bs'.length ≤ bs.length + 1 := by
  have ext : ∀ x, Bf.put b t (some i) x ≠ none ↔ (x = t ∨ b x ≠ none) := fun x => by
    unfold Bf.put
    by_cases e : x = t <;> simp [e]
  have eqv : ∀ (l : List Str), fk l (fun k => if k = t then V.int (i : Nat) else V.int (((b k).getD 0 : Nat) : Int)) = bk l (Bf.put b t (some i)) := fun l => by
    unfold fk bk
    refine List.map_congr_left fun k _ => ?_
    unfold Bf.put
    by_cases e : k = t <;> simp [e]
  by_cases m : t ∈ bs
  · refine ⟨bs, (fk_put (v := fun t => V.int (((b t).getD 0 : Nat) : Int)) m).trans (eqv bs), ⟨ok.1, fun x => ?_⟩, Nat.le_succ _⟩
    rw [ext, ok.2]
    constructor
    · exact .inr
    · rintro (e | h)
      · rw [e]
        exact (ok.2 t).mp m
      · exact h
  · refine ⟨bs ++ [t], (fk_new (v := fun t => V.int (((b t).getD 0 : Nat) : Int)) m).trans (eqv _), ⟨?_, fun x => ?_⟩, by simp⟩
    · refine List.nodup_append.mpr ⟨ok.1, by simp, fun x hx y hy e => ?_⟩
      have : y = t := by simpa using hy
      rw [← this, ← e] at m
      exact m hx
    · rw [ext, List.mem_append, ok.2]
      simp [or_comm]
/-! ### loops of comprehensions of two clauses, by a word of the turn and the heap -/
theorem itt_run {K : PySem.W.Frag} {a : Addr} {xs : List V} {F : V → Hp → (Hp → Prop) → Prop} {H4 : Hp} {Nx : Hp → Prop} (Pv : Nat → Hp → Prop) (h0 : Pv 0 H4) (hl : ∀ j H, j ≤ xs.length → Pv j H → SqT K H a xs)
    (hs : ∀ j x H, xs[j]? = some x → Pv j H → F x H (Pv (j + 1))) (hd : ∀ H, Pv xs.length H → Nx H) :
    ∃ W1 : Nat → Nat → Hp → Prop, (∃ m, W1 0 m H4) ∧ ∀ j k H, W1 j k H → ((Itt K a).stop j H ∧ Nx H) ∨ ((Itt K a).go j H ∧ ∃ Nx1 : Hp → Prop, (∀ H', Nx1 H' → ∃ k', k' < k ∧ W1 (j + 1) k' H') ∧ ∀ x H', (Itt K a).yld j H x H' → F x H' Nx1) := by
  refine ⟨fun j k H => k = xs.length - j ∧ j ≤ xs.length ∧ Pv j H, ⟨xs.length, rfl, Nat.zero_le _, h0⟩, ?_⟩
  rintro j k H ⟨rfl, hj, p⟩
  have q := hl j H hj p
  by_cases hlt : j < xs.length
  · refine .inr ⟨⟨xs, xs[j], q, List.getElem?_eq_getElem hlt⟩, Pv (j + 1), fun H' p' => ⟨xs.length - (j + 1), by omega, rfl, hlt, p'⟩, fun x H' y => ?_⟩
    obtain ⟨e, y⟩ := y
    subst e
    exact hs j x _ (y xs q) p
  · have e : j = xs.length := by omega
    subst e
    exact .inl ⟨⟨xs, q, Nat.le_refl _⟩, hd H p⟩
theorem itl_run {K : PySem.W.Frag} {a : Addr} {xs : List V} {F : V → Hp → (Hp → Prop) → Prop} {H4 : Hp} {Nx : Hp → Prop} (Pv : Nat → Hp → Prop) (h0 : Pv 0 H4) (hl : ∀ j H, j ≤ xs.length → Pv j H → SqL K H a xs)
    (hs : ∀ j x H, xs[j]? = some x → Pv j H → F x H (Pv (j + 1))) (hd : ∀ H, Pv xs.length H → Nx H) :
    ∃ W1 : Nat → Nat → Hp → Prop, (∃ m, W1 0 m H4) ∧ ∀ j k H, W1 j k H → ((Itl K a).stop j H ∧ Nx H) ∨ ((Itl K a).go j H ∧ ∃ Nx1 : Hp → Prop, (∀ H', Nx1 H' → ∃ k', k' < k ∧ W1 (j + 1) k' H') ∧ ∀ x H', (Itl K a).yld j H x H' → F x H' Nx1) := by
  refine ⟨fun j k H => k = xs.length - j ∧ j ≤ xs.length ∧ Pv j H, ⟨xs.length, rfl, Nat.zero_le _, h0⟩, ?_⟩
  rintro j k H ⟨rfl, hj, p⟩
  have q := hl j H hj p
  by_cases hlt : j < xs.length
  · refine .inr ⟨⟨xs, xs[j], q, List.getElem?_eq_getElem hlt⟩, Pv (j + 1), fun H' p' => ⟨xs.length - (j + 1), by omega, rfl, hlt, p'⟩, fun x H' y => ?_⟩
    obtain ⟨e, y⟩ := y
    subst e
    exact hs j x _ (y xs q) p
  · have e : j = xs.length := by omega
    subst e
    exact .inl ⟨⟨xs, q, Nat.le_refl _⟩, hd H p⟩
end Bx

/-! enumerate(tuple) -/
namespace En
open PySem PySem.Spec PyProof.Rows L2
open AutoSeq1 (wpAny_loadPart')
theorem new_tuple (l : Addr) (items : Array Value) (n : Nat) (dct : Option Addr) (sl : Array (Option Value)) :
    Meets (Builtin.«enumerate.__new__» ⟨[.type "enumerate", .ref l], []⟩) (fun _ R s => s.heap.get? l = some { cls := .type "tuple", dict := dct, data := .seq items n, slots := sl } ∧
      R (.ok (.ret (.ref (s.heap.push { cls := .type "tuple_iterator", data := .fields #[.ref l, .int 0 0] }).objs.size)))
        { s with heap := (s.heap.push { cls := .type "tuple_iterator", data := .fields #[.ref l, .int 0 0] }).push { cls := .type "enumerate", data := .fields #[.none, .bool false, .ref s.heap.objs.size, rawInt 0, .none, .none] } }) :=
  .of_wp fun prog w A R s h => by
    obtain ⟨hp, g, d, tk, os⟩ := s; obtain ⟨hl, h⟩ := h
    have hsub := sub_enumerate
    have hL : Heap.IsTuple (Shared.heap ⟨hp, g, d, tk, os⟩) l items := ⟨_, hl, rfl, n, rfl⟩
    wp_walk using wpAny_loadPart' hl
    refine wpAny_stack_any fun st => wpAny_pure ?_
    split
    · rename_i c _ _ _ _ _
      cases (c == Value.type "enumerate")
      · wp_walk using wpAny_loadPart' hl, wpAny_pyIter_tuple hL
        exact ⟨_, rfl, h⟩
      · wp_walk using wpAny_loadPart' hl, wpAny_pyIter_tuple hL
        exact ⟨_, rfl, h⟩
    · wp_walk using wpAny_loadPart' hl, wpAny_pyIter_tuple hL
      exact ⟨_, rfl, h⟩
section
variable {prog : Program} {w : World} {A : Around} {E : Value → Shared → Prop} {s : Shared}
theorem call_tuple {l : Addr} {items : Array Value} {Q : Value → Shared → Prop} (hL : s.heap.IsTuple l items)
    (h : ∀ h', IsEnum h' (s.heap.objs.size + 1) s.heap.objs.size 0 .none → h'.IsTupleIter s.heap.objs.size l 0 → h'.objs.size = s.heap.objs.size + 2 →
      (∀ b o, s.heap.get? b = some o → h'.get? b = some o) → Q (.ref (s.heap.objs.size + 1)) { s with heap := h' }) :
    wpAny (model prog w) A (call (.type "enumerate") [.ref l]) Q E s := by
  obtain ⟨⟨c, dct, dt, sl⟩, hl, hc, n, hd⟩ := hL
  replace hc : c = .type "tuple" := hc
  replace hd : dt = .seq items n := hd
  subst hc hd
  refine callType_new F.called_enumerate (by decide) (F.typeCall_enumerate_1 _) (F.newCall_enumerate_1 _) (fun obj => F.args_object_init_2 obj _) F.entry_enumerate_new
    (new_tuple l items n dct sl) ⟨hl, ?_⟩
  have hz : (s.heap.push { cls := .type "tuple_iterator", data := .fields #[.ref l, .int 0 0] }).objs.size = s.heap.objs.size + 1 := Heap.size_push ..
  show _ ∧ _
  rw [hz]
  have he : IsEnum ((s.heap.push { cls := .type "tuple_iterator", data := .fields #[.ref l, .int 0 0] }).push
      { cls := .type "enumerate", data := .fields #[.none, .bool false, .ref s.heap.objs.size, rawInt 0, .none, .none] }) (s.heap.objs.size + 1) s.heap.objs.size 0 .none := by
    have := Heap.get?_push_size (s.heap.push { cls := .type "tuple_iterator", data := .fields #[.ref l, .int 0 0] })
      (o := { cls := .type "enumerate", data := .fields #[.none, .bool false, .ref s.heap.objs.size, rawInt 0, .none, .none] }) rfl
    rw [hz] at this; exact this
  refine ⟨⟨_, he, rfl⟩, h _ he ⟨_, Heap.get?_push_of_some _ (Heap.get?_push_size _ rfl), rfl, rfl⟩ (by rw [Heap.size_push, hz]) fun b o x => Heap.get?_push_of_some _ (Heap.get?_push_of_some _ x)⟩
end
theorem draws {prog : Program} {w : World} {A : Around} (hh : A.handled = none) (it l : Addr) (hne : l ≠ it) (items : Array Value) :
    Draws prog w A it [it, l] items.size (fun i v => items[i]? = some v) (fun i h => h.IsTupleIter it l i ∧ h.IsTuple l items) where
  live := fun _ _ st => let ⟨o, ho, _⟩ := st.1; ⟨o, ho⟩
  frame := fun _ _ _ st hk => ⟨st.1.at fun o e => hk it (by simp) o e, st.2.at fun o e => hk l (by simp) o e⟩
  item := fun i s Q E hi st hQ => wpAny_nextOf_tuple_item st.1 st.2 (x := items[i]) (by simp [hi]) fun h' hit' hs' => hQ _ h' s.toks (by simp [hi]) ⟨hit', st.2.extBut hs'.extBut hne⟩ hs'
  done := fun s Q E st hE => wpAny_nextOf_tuple_end hh st.1 st.2 (by simp) hE
/-- the tuple at a, each item in a new pair -/
def Itu (K : PySem.W.Frag) (a : Addr) : It :=
  ⟨fun i H => ∃ (xs : List V) (x : V), SqT K H a xs ∧ xs[i]? = some x, fun i H v H' => ∃ T x, v = .ref T ∧ H T = none ∧ H' = upd H T (.tup [.int (i : Nat), x]) ∧ ∀ xs, SqT K H a xs → xs[i]? = some x, fun i H => ∃ xs : List V, SqT K H a xs ∧ xs.length ≤ i⟩
theorem turn {P : Program} {w : World} {K : PySem.W.Frag} {elts : List Expr} {kk : Nat} {tpos : Pos} (a e it : Addr) :
    Turn P w K (.Tuple elts kk tpos) (Itu K a) [e, it] e (fun i h => (∃ old, IsEnum h e it ((i : Nat) : Int) old) ∧ h.IsTupleIter it a i ∧ e ≠ it) where
  mem := by simp
  obj := fun i h st b hb => by
    obtain ⟨⟨old, he⟩, ⟨o, ho, hc, hd⟩, _⟩ := st
    have e' : b = e ∨ b = it := by simpa using hb
    rcases e' with z | z
    · rw [z]; exact ⟨_, he, fun v q => nomatch q⟩
    · rw [z]; exact ⟨o, ho, fun v q => by rw [hd] at q; cases q⟩
  keep := fun i h h' st k => let ⟨⟨old, he⟩, hi, hne⟩ := st; ⟨⟨old, k e (by simp) _ he⟩, hi.at fun o q => k it (by simp) o q, hne⟩
  item := by
    intro X hP hw hK hc i pins s σ H E I hf st hg
    subst hP hw hK
    obtain ⟨⟨old, he⟩, hit, hne⟩ := st
    obtain ⟨xs, x, hq, hx⟩ := hg
    obtain ⟨its, rv, p, hz⟩ := I.tuple hq
    obtain ⟨u, hu, ru⟩ := rv.get hx
    have hel : e < s.heap.objs.size := Heap.lt_size he
    have hil : it < s.heap.objs.size := by obtain ⟨_, q, _⟩ := hit; exact Heap.lt_size q
    have pt : s.heap.IsTuple a its.toArray := p
    have nai : a ≠ it := fun z => by
      obtain ⟨o1, q1, c1, _⟩ := pt
      obtain ⟨o2, q2, c2, _⟩ := hit
      rw [z, q2] at q1
      cases q1
      rw [c2] at c1
      injection c1 with c1
      exact absurd c1 (by decide)
    have nea : e ≠ a := fun z => by
      obtain ⟨o1, q1, c1, _⟩ := pt
      rw [← z, he] at q1
      cases q1
      injection c1 with c1
      exact absurd c1 (by decide)
    have hi2 : i < its.toArray.size := by
      have := (List.getElem?_eq_some_iff.mp hu).1
      simpa using this
    refine wpAny_pyNext_enum_itemD (draws (A := X.A.in1) (I.ok.hd hc) it a nai its.toArray) he ⟨hit, pt⟩ hi2 hne (by simp [hne, nea]) fun u' h' tk hu' ho hst' hT hsz hk => ?_
    have eu : u' = u := by
      have : its.toArray[i]? = some u := by simpa using hu
      rw [this] at hu'
      exact (Option.some.inj hu').symm
    subst eu
    refine ⟨_, rfl, wpAny_letOwnedTupleGo_enum (s := { s with heap := h', toks := tk + 1 }) ho fun h'' he' sb => ?_⟩
    have hT2 : h''.get? s.heap.objs.size = some { cls := .type "tuple", data := .seq #[.int i tk, u'] } := (sb.2 _ (Nat.ne_of_gt hel)).trans hT
    have new : ObjOk X.prog X.w (upd H s.heap.objs.size (.tup [.int (i : Nat), x])) h'' s.heap.objs.size (.tup [.int (i : Nat), x]) :=
      ⟨by show 2 ≤ sizeLine; decide, [.int i tk, u'], .cons ⟨_, rfl⟩ (.cons ru .nil), ⟨_, hT2, rfl, _, rfl⟩⟩
    have I1 : Inv X pins σ (upd H s.heap.objs.size (.tup [.int (i : Nat), x])) { s with heap := h'', toks := tk + 1 } :=
      I.turnedNew (ch := [e, it]) (fun b ob hb q => (sb.2 b (fun z => hb (by simp [z]))).trans (hk b ob (fun z => hb (by simp [z])) (fun z => hb (by simp [z])) q)) hf (Nat.le_refl _) new
    refine ⟨.ref s.heap.objs.size, _, I1, rfl, ⟨_, x, rfl, I.hok.fresh (Nat.le_refl _), rfl, fun ys hy => by rw [I.tuple_inj hy hq]; exact hx⟩, ⟨⟨u', ?_⟩, hst'.1.at fun o q => (sb.2 it (Ne.symm hne)).trans q, hne⟩, fun b hb => ?_⟩
    · have e1 : ((i + 1 : Nat) : Int) = (i : Int) + 1 := by omega
      rw [e1]; exact he'
    · have hb' : b < s.heap.objs.size := by
        have e' : b = e ∨ b = it := by simpa using hb
        rcases e' with z | z
        · rw [z]; exact hel
        · rw [z]; exact hil
      rw [upd_ne (Nat.ne_of_lt hb')]
      exact (hf b hb).1
  done := by
    intro X hP hw hK hc i pins s σ H E I hf st hg
    subst hP hw hK
    obtain ⟨⟨old, he⟩, hit, hne⟩ := st
    obtain ⟨xs, hq, hx⟩ := hg
    obtain ⟨its, rv, p, hz⟩ := I.tuple hq
    obtain ⟨f0, f1, f2, f3, f4, f5⟩ := hf it (by simp)
    have hl := rv.length
    have pt : s.heap.IsTuple a its.toArray := p
    have hT : s.TypeIs (.ref e) "enumerate" := ⟨_, he, rfl⟩
    unfold pyNext
    refine wpAny_bind (wpAny_attempt (wpAny_callSpecial?_slot (name := Str.ofString "__next__") hT F.slot_enumerate_next
      (wpAny_call_entry F.slot_enumerate_next hT F.entry_enumerate_next ?_ (F.args_enumerate_next_1 _))))
    show wpAny _ _ (field (.ref e) 2 >>= _) _ _ _
    refine wpAny_bind (wpAny_field he rfl (x := .ref it) rfl (wpAny_bind (wpAny_nextOf_tuple_end (I.ok.hd hc) hit pt (by simp; omega) fun h' x he' hx' => ?_)))
    obtain ⟨o, ho, hco⟩ := hx'
    refine wpAny_bind (wpAny_isInstance (T := "StopIteration") (b := true) ⟨o, ho, hco⟩ isSubtype_stop ?_)
    exact wpAny_pure ⟨rfl, I.turned (t' := s.toks) (fun b o hb q => he' b o hb q) f0 f1 f3 f4 f5⟩
  self := fun A i s Q E st h => let ⟨⟨_, he⟩, _⟩ := st; wpAny_pyIter_enum he h
def iEnumT (K : PySem.W.Frag) (ta : TA) : TI := fun σ H R => ta σ H fun vs H1 => ∃ a xs, vs = [.ref a] ∧ SqT K H1 a xs ∧ R (Itu K a) H1
theorem pi_enumT {X : Cx} {e : Expr} {ta : TA} {p pos tpos : Pos} {elts : List Expr} {kk : Nat} (hg : Gl X "enumerate") (hm : X.mg "enumerate" = none) (ha : PA X [e] ta) (hs : starEach [e] X.env = [(false, eval e X.env)] := by rfl) :
    PI X (.Tuple elts kk tpos) (.Call (.Name "enumerate" p) [e] [] pos) (iEnumT X.K ta) := by
  refine ⟨fun pins s σ H R I h => ?_⟩
  refine Call_ (ld_blt I hg hm boot_enumerate (PyProof.Rows.callWith_type1 (thn (ha.run pos pins s σ H _ I h) fun us s1 ⟨vs, H1, I1, r1, q1⟩ => ?_) hs rfl))
  obtain ⟨a, xs, ex, hq, q⟩ := q1
  subst ex
  cases r1 with
  | cons r rr =>
    cases rr
    cases r
    obtain ⟨its, rv, p', hz⟩ := I1.tuple hq
    refine call_tuple (show s1.heap.IsTuple a its.toArray from p') fun h' he hit hsz hk => wpAny_pyIter_enum he ?_
    have I2 : Inv X pins σ H1 { s1 with heap := h' } := I1.kept (t' := s1.toks) hk
    refine ⟨s1.heap.objs.size + 1, [s1.heap.objs.size + 1, s1.heap.objs.size], _, _, H1, rfl, I2, turn a (s1.heap.objs.size + 1) s1.heap.objs.size, ⟨⟨.none, he⟩, hit, Nat.succ_ne_self _⟩, fun b hb => ?_, q⟩
    have e' : b = s1.heap.objs.size + 1 ∨ b = s1.heap.objs.size := by simpa using hb
    have hle : s1.heap.objs.size ≤ b := by
      rcases e' with z | z
      · rw [z]; exact Nat.le_add_right _ _
      · rw [z]; exact Nat.le_refl _
    exact I1.fpOk hle (I1.hok.fresh hle)
theorem for_enumT {K : PySem.W.Frag} {a : Addr} {xs : List V} {g : TG} {tb : TS} {D : Ends} {σ : L2.St} {H : Hp} (Pv : Nat → L2.St → Hp → Prop) (h0 : Pv 0 σ H) (hq : ∀ i σ H, Pv i σ H → SqT K H a xs)
    (hs : ∀ (i : Nat) (x : V) (T : Addr) (σ : L2.St) (H : Hp), xs[i]? = some x → Pv i σ H → H T = none → g (.ref T) σ (upd H T (.tup [.int (i : Nat), x])) fun σ2 H2 => tb { D with nx := Pv (i + 1), ct := Pv (i + 1), bk := D.nx } σ2 H2) (hd : ∀ σ H, Pv xs.length σ H → D.nx σ H) :
    ∃ W : Nat → Nat → L2.St → Hp → Prop, (∃ m, W 0 m σ H) ∧ ∀ i m σ H, W i m σ H →
      ((Itu K a).stop i H ∧ D.nx σ H) ∨ ((Itu K a).go i H ∧ ∃ N : L2.St → Hp → Prop, (∀ σ' H', N σ' H' → ∃ m', m' < m ∧ W (i + 1) m' σ' H') ∧ ∀ v H', (Itu K a).yld i H v H' → g v σ H' fun σ2 H2 => tb { D with nx := N, ct := N, bk := D.nx } σ2 H2) := by
  refine ⟨fun i m σ H => m = xs.length - i ∧ i ≤ xs.length ∧ Pv i σ H, ⟨xs.length, rfl, Nat.zero_le _, h0⟩, ?_⟩
  rintro i m σ H ⟨rfl, hi, p⟩
  have qx := hq i σ H p
  by_cases hlt : i < xs.length
  · have hx : xs[i]? = some xs[i] := List.getElem?_eq_getElem hlt
    refine .inr ⟨⟨xs, _, qx, hx⟩, Pv (i + 1), fun σ' H' p' => ⟨xs.length - (i + 1), by omega, rfl, hlt, p'⟩, fun v H' y => ?_⟩
    obtain ⟨T, x', rfl, hT, rfl, f1⟩ := y
    exact hs i x' T σ H (f1 xs qx) p hT
  · have e : i = xs.length := by omega
    subst e
    exact .inl ⟨⟨xs, qx, Nat.le_refl _⟩, hd σ H p⟩
end En

namespace Wk
open PySem L2 Bx
theorem walk_Itu {K : PySem.W.Frag} {a : Addr} {xs : List V} : Walk (En.Itu K a) xs.length (fun H => SqT K H a xs) (YPair (fun i => some (.int (i : Nat))) (fun i => xs[i]?)) := by
  refine ⟨fun i _ hi q => ⟨xs, xs[i], q, by simp [hi]⟩, fun _ q => ⟨xs, q, Nat.le_refl _⟩, fun i H v H' _ q y => ?_⟩
  obtain ⟨T, x, h1, h2, h3, h4⟩ := y
  exact ⟨T, .int (i : Nat), x, h1, h2, h3, rfl, h4 xs q⟩
theorem dc_it {J : It} {n : Nat} {G : Hp → Prop} {Y : Nat → Hp → V → Hp → Prop} (w : Walk J n G Y) {g : TG} {tt : TT} {tk tv : TE} {vs : List Nat} {σ : L2.St} {H1 : Hp} {D : Addr} {Qd : Hp → Prop} (Pv : Nat → Hp → Prop) (h0 : Pv 0 (upd H1 D (.dK []))) (hG : ∀ i H, i ≤ n → Pv i H → G H)
    (hs : ∀ i x H H', i < n → Pv i H → Y i H x H' → g x (wipe σ vs) H' fun σ2 H2 => wipe σ2 vs = wipe σ vs ∧ tt σ2 H2 fun b H3 =>
      if b = true then tk σ2 H3 fun y H4 => tv σ2 H4 fun z H5 => ∃ kvs k, y = kV k ∧ H5 D = some (.dK kvs) ∧ kvs.length < sizeLine ∧ Pv (i + 1) (upd H5 D (.dK (putK kvs k z))) else Pv (i + 1) H3) (hd : ∀ H, Pv n H → Qd H) :
    ∃ W : Nat → Nat → Hp → Prop, (∃ m, W 0 m (upd H1 D (.dK []))) ∧ ∀ i m H, W i m H →
      (J.stop i H ∧ Qd H) ∨ (J.go i H ∧ ∃ Nx : Hp → Prop, (∀ H', Nx H' → ∃ m', m' < m ∧ W (i + 1) m' H') ∧ ∀ x H', J.yld i H x H' → g x (wipe σ vs) H' fun σ2 H2 => wipe σ2 vs = wipe σ vs ∧ tt σ2 H2 fun b H3 =>
        if b = true then tk σ2 H3 fun y H4 => tv σ2 H4 fun z H5 => ∃ kvs k, y = kV k ∧ H5 D = some (.dK kvs) ∧ kvs.length < sizeLine ∧ Nx (upd H5 D (.dK (putK kvs k z))) else Nx H3) := by
  refine ⟨fun i m H => m = n - i ∧ i ≤ n ∧ Pv i H, ⟨n, by simp, Nat.zero_le _, h0⟩, ?_⟩
  rintro i m H ⟨rfl, hi, p⟩
  have q := hG i H hi p
  by_cases hlt : i < n
  · exact .inr ⟨w.goes i H hlt q, Pv (i + 1), fun H' p' => ⟨n - (i + 1), by omega, rfl, hlt, p'⟩, fun x H' y => hs i x H H' hlt p (w.yields i H x H' hlt q y)⟩
  · have e : i = n := by omega
    subst e
    exact .inl ⟨w.stops H q, hd H p⟩
end Wk

/-! a written dict with text keys: which keys it has -/
namespace Kd
open PySem L2 Bx
def strOf : Value → Option Str
  | .str x _ => some x
  | _ => none
def SD (K : PySem.W.Frag) (w : World) (d : Addr) (keys : List Str) : Prop := ∃ es n, KDict K w d es n ∧ es.toList.map (fun e => strOf e.key) = keys.map some
theorem key_str {v : Value} {x : Str} (h : strOf v = some x) : ∃ t, v = .str x t := by
  cases v with
  | str y t =>
    have e : y = x := Option.some.inj h
    rw [e]
    exact ⟨t, rfl⟩
  | _ => cases h
theorem isStr_eq (x z : Str) (t : Tok) : (Value.str x t).isStr z = decide (x = z) := by
  show (x == z) = decide (x = z)
  rw [Bool.eq_iff_iff, beq_iff_eq, decide_eq_true_eq]
theorem find_keys (z : Str) : ∀ {l : List DictEntry} {keys : List Str}, l.map (fun e => strOf e.key) = keys.map some → (l.find? (·.key.isStr z)).isSome = decide (z ∈ keys) ∧ l.any (·.refKey) = false
  | [], [], _ => ⟨by simp, rfl⟩
  | [], _ :: _, h => by cases h
  | _ :: _, [], h => by cases h
  | e :: l, k :: keys, h => by
    rw [List.map_cons, List.map_cons] at h
    injection h with h1 h2
    obtain ⟨t, ht⟩ := key_str h1
    obtain ⟨i1, i2⟩ := find_keys z h2
    have er : e.refKey = false := by
      unfold DictEntry.refKey
      rw [ht]
    refine ⟨?_, by rw [List.any_cons, er, i2]; rfl⟩
    have es : e.key.isStr z = decide (k = z) := by rw [ht]; exact isStr_eq k z t
    by_cases q : k = z
    · rw [List.find?_cons, es, decide_eq_true q]
      simp [q]
    · rw [List.find?_cons, es, decide_eq_false q]
      show (l.find? (·.key.isStr z)).isSome = _
      rw [i1, Bool.eq_iff_iff, decide_eq_true_eq, decide_eq_true_eq, List.mem_cons]
      exact ⟨fun h => .inr h, fun h => h.resolve_left fun e => q e.symm⟩
theorem SD.ns {K : PySem.W.Frag} {w : World} {d : Addr} {keys : List Str} (h : SD K w d keys) (z : Str) : ∃ r, PySem.W.nsIn K d z = some r ∧ r.isSome = decide (z ∈ keys) := by
  obtain ⟨es, n, D, hk⟩ := h
  obtain ⟨i1, i2⟩ := find_keys z hk
  unfold PySem.W.nsIn
  rw [D.at_]
  show ∃ r, (match es.toList.find? (·.key.isStr z) with | some e => some (some e.val) | none => if es.toList.any (·.refKey) then none else some none) = some r ∧ _
  cases q : es.toList.find? (·.key.isStr z) with
  | some e =>
    rw [q] at i1
    exact ⟨_, rfl, i1⟩
  | none =>
    rw [q] at i1
    rw [i2]
    exact ⟨none, rfl, i1⟩
section
variable {X : Cx}
def rNotInSD (d : Addr) (keys : List Str) : R2 := fun x y H Q => ∃ z : Str, x = .str z ∧ y = .ref d ∧ Q (.bl (!decide (z ∈ keys))) H
theorem op_notInSD {d : Addr} {keys : List Str} (h : SD X.K X.w d keys) : OpR X (compareOp .NotIn) (rNotInSD d keys) := by
  intro pins s σ H x y v u Q I rx ry q
  obtain ⟨z, rfl, rfl, q⟩ := q
  obtain ⟨r, e1, e2⟩ := h.ns z
  obtain ⟨es, n, D, _⟩ := h
  exact op_notIn_kd D pins s σ H _ _ v u Q I rx ry ⟨z, r, rfl, rfl, e1, by rw [e2]; exact q⟩
def rInSD (d : Addr) (keys : List Str) : R2 := fun x y H Q => ∃ z : Str, x = .str z ∧ y = .ref d ∧ Q (.bl (decide (z ∈ keys))) H
theorem op_inSD {d : Addr} {keys : List Str} (h : SD X.K X.w d keys) : OpR X (compareOp .In) (rInSD d keys) := by
  intro pins s σ H x y v u Q I rx ry q
  obtain ⟨z, rfl, rfl, q⟩ := q
  obtain ⟨r, e1, e2⟩ := h.ns z
  obtain ⟨es, n, D, _⟩ := h
  exact op_in_kd D pins s σ H _ _ v u Q I rx ry ⟨z, r, rfl, rfl, e1, by rw [e2]; exact q⟩
end
end Kd

/-! Zones: tables of tightest differences. Plain mathematics. -/
namespace Zn
abbrev Z := Nat → Nat → Option Int
abbrev Lit := Nat × Nat × Int
def Sat (m : Nat) (d : Z) (x : Nat → Int) : Prop := ∀ i j c, i < m → j < m → d i j = some c → x i ≤ x j + c
def Hl (x : Nat → Int) (l : Lit) : Prop := x l.1 ≤ x l.2.1 + l.2.2
structure Closed (m : Nat) (d : Z) : Prop where
  dia : ∀ i, i < m → d i i = some 0
  tri : ∀ i j k a b, i < m → j < m → k < m → d i j = some a → d j k = some b → ∃ c, d i k = some c ∧ c ≤ a + b
def follows (d : Z) (l : Lit) : Bool := match d l.1 l.2.1 with
  | some a => decide (a ≤ l.2.2)
  | none => false
def fails (d : Z) (l : Lit) : Bool := match d l.2.1 l.1 with
  | some b => decide (b + l.2.2 < 0)
  | none => false
def sh (old : Option Int) (start : Int) (step : Option Int) : Option Int := match step with
  | none => old
  | some t => match old with
    | some a => if a ≤ start + t then some a else some (start + t)
    | none => some (start + t)
def metD (d : Z) (l : Lit) : Z := fun u v => match d u l.1 with
  | none => d u v
  | some a => sh (d u v) (a + l.2.2) (d l.2.1 v)
def met (d : Z) (l : Lit) : Option Z := if follows d l then some d else if fails d l then none else some (metD d l)
def metAll (d : Z) : List Lit → Option Z
  | [] => some d
  | l :: ls => match met d l with
    | none => none
    | some d' => metAll d' ls
theorem follows_iff {d : Z} {l : Lit} : follows d l = true ↔ ∃ a, d l.1 l.2.1 = some a ∧ a ≤ l.2.2 := by
  unfold follows
  cases d l.1 l.2.1 <;> simp
theorem fails_iff {d : Z} {l : Lit} : fails d l = true ↔ ∃ b, d l.2.1 l.1 = some b ∧ b + l.2.2 < 0 := by
  unfold fails
  cases d l.2.1 l.1 <;> simp
/-- what the new table holds: an old bound, or one by the literal; it is at most both -/
theorem metD_cases {d : Z} {l : Lit} {u v : Nat} {c : Int} (h : metD d l u v = some c) : d u v = some c ∨ ∃ a b, d u l.1 = some a ∧ d l.2.1 v = some b ∧ c = a + l.2.2 + b := by
  unfold metD sh at h
  cases hu : d u l.1 with
  | none => rw [hu] at h; exact .inl h
  | some a =>
    rw [hu] at h
    cases hv : d l.2.1 v with
    | none => rw [hv] at h; exact .inl h
    | some b =>
      rw [hv] at h
      cases ho : d u v with
      | none => rw [ho] at h; exact .inr ⟨a, b, rfl, rfl, by simpa using h.symm⟩
      | some o =>
        rw [ho] at h
        by_cases q : o ≤ a + l.2.2 + b
        · simp only [q, if_true] at h; exact .inl h
        · simp only [q, if_false] at h; exact .inr ⟨a, b, rfl, rfl, by simpa using h.symm⟩
theorem metD_old {d : Z} {l : Lit} {u v : Nat} {c : Int} (h : d u v = some c) : ∃ e, metD d l u v = some e ∧ e ≤ c := by
  unfold metD sh
  cases d u l.1 with
  | none => exact ⟨c, h, Int.le_refl _⟩
  | some a =>
    cases d l.2.1 v with
    | none => exact ⟨c, h, Int.le_refl _⟩
    | some b =>
      rw [h]
      by_cases q : c ≤ a + l.2.2 + b
      · exact ⟨c, by simp [q], Int.le_refl _⟩
      · exact ⟨a + l.2.2 + b, by simp [q], by omega⟩
theorem metD_new {d : Z} {l : Lit} {u v : Nat} {a b : Int} (ha : d u l.1 = some a) (hb : d l.2.1 v = some b) : ∃ e, metD d l u v = some e ∧ e ≤ a + l.2.2 + b := by
  unfold metD sh
  rw [ha, hb]
  cases d u v with
  | none => exact ⟨_, rfl, Int.le_refl _⟩
  | some o =>
    by_cases q : o ≤ a + l.2.2 + b
    · exact ⟨o, by simp [q], q⟩
    · exact ⟨_, by simp [q], Int.le_refl _⟩
theorem back_ge {d : Z} {l : Lit} (hf : fails d l = false) {b : Int} (h : d l.2.1 l.1 = some b) : 0 ≤ b + l.2.2 := by
  by_cases q : b + l.2.2 < 0
  · have := fails_iff.mpr ⟨b, h, q⟩
    rw [hf] at this
    cases this
  · omega
theorem metD_closed {m : Nat} {d : Z} {l : Lit} (C : Closed m d) (h1 : l.1 < m) (h2 : l.2.1 < m) (hf : fails d l = false) : Closed m (metD d l) := by
  constructor
  · intro i hi
    obtain ⟨e, he, le⟩ := metD_old (l := l) (C.dia i hi)
    rcases metD_cases he with h | ⟨a, b, ha, hb, rfl⟩
    · rw [he, ← h, C.dia i hi]
    · obtain ⟨c, hc, lc⟩ := C.tri l.2.1 i l.1 b a h2 hi h1 hb ha
      have := back_ge hf hc
      rw [he]
      exact congrArg some (by omega)
  · intro i j k a b hi hj hk ha hb
    rcases metD_cases ha with ha | ⟨a1, a2, ha1, ha2, rfl⟩
    · rcases metD_cases hb with hb | ⟨b1, b2, hb1, hb2, rfl⟩
      · obtain ⟨c, hc, lc⟩ := C.tri i j k a b hi hj hk ha hb
        obtain ⟨e, he, le⟩ := metD_old (l := l) hc
        exact ⟨e, he, by omega⟩
      · obtain ⟨c, hc, lc⟩ := C.tri i j l.1 a b1 hi hj h1 ha hb1
        obtain ⟨e, he, le⟩ := metD_new hc hb2
        exact ⟨e, he, by omega⟩
    · rcases metD_cases hb with hb | ⟨b1, b2, hb1, hb2, rfl⟩
      · obtain ⟨c, hc, lc⟩ := C.tri l.2.1 j k a2 b h2 hj hk ha2 hb
        obtain ⟨e, he, le⟩ := metD_new ha1 hc
        exact ⟨e, he, by omega⟩
      · obtain ⟨c, hc, lc⟩ := C.tri l.2.1 j l.1 a2 b1 h2 hj h1 ha2 hb1
        have := back_ge hf hc
        obtain ⟨e, he, le⟩ := metD_new ha1 hb2
        exact ⟨e, he, by omega⟩
theorem metD_sat {m : Nat} {d : Z} {l : Lit} (C : Closed m d) (h1 : l.1 < m) (h2 : l.2.1 < m) {x : Nat → Int} : Sat m (metD d l) x ↔ Sat m d x ∧ Hl x l := by
  constructor
  · intro S
    refine ⟨fun i j c hi hj hc => ?_, ?_⟩
    · obtain ⟨e, he, le⟩ := metD_old (l := l) hc
      have := S i j e hi hj he
      omega
    · obtain ⟨e, he, le⟩ := metD_new (C.dia _ h1) (C.dia _ h2)
      have := S _ _ e h1 h2 he
      unfold Hl
      omega
  · rintro ⟨S, H⟩ i j c hi hj hc
    rcases metD_cases hc with h | ⟨a, b, ha, hb, rfl⟩
    · exact S i j c hi hj h
    · have e1 := S _ _ _ hi h1 ha
      have e2 := S _ _ _ h2 hj hb
      unfold Hl at H
      omega
theorem met_some {m : Nat} {d d' : Z} {l : Lit} (C : Closed m d) (h1 : l.1 < m) (h2 : l.2.1 < m) (h : met d l = some d') : Closed m d' ∧ ∀ x, Sat m d' x ↔ Sat m d x ∧ Hl x l := by
  unfold met at h
  by_cases q : follows d l = true
  · rw [if_pos q] at h
    cases h
    refine ⟨C, fun x => ⟨fun S => ⟨S, ?_⟩, fun S => S.1⟩⟩
    obtain ⟨a, ha, le⟩ := follows_iff.mp q
    have := S _ _ _ h1 h2 ha
    unfold Hl
    omega
  · rw [if_neg q] at h
    by_cases r : fails d l = true
    · rw [if_pos r] at h
      cases h
    · rw [if_neg r] at h
      cases h
      exact ⟨metD_closed C h1 h2 (by simpa using r), fun x => metD_sat C h1 h2⟩
theorem met_none {m : Nat} {d : Z} {l : Lit} (h1 : l.1 < m) (h2 : l.2.1 < m) (h : met d l = none) {x : Nat → Int} (S : Sat m d x) : ¬ Hl x l := by
  unfold met at h
  by_cases q : follows d l = true
  · rw [if_pos q] at h
    cases h
  · rw [if_neg q] at h
    by_cases r : fails d l = true
    · obtain ⟨b, hb, lt⟩ := fails_iff.mp r
      have := S _ _ _ h2 h1 hb
      unfold Hl
      omega
    · rw [if_neg r] at h
      cases h
def Ok (m : Nat) (ls : List Lit) : Prop := ∀ l ∈ ls, l.1 < m ∧ l.2.1 < m
def All (x : Nat → Int) (ls : List Lit) : Prop := ∀ l ∈ ls, Hl x l
theorem metAll_some {m : Nat} : ∀ {ls : List Lit} {d d' : Z}, Closed m d → Ok m ls → metAll d ls = some d' → Closed m d' ∧ ∀ x, Sat m d' x ↔ Sat m d x ∧ All x ls
  | [], d, d', C, _, h => by
    cases h
    exact ⟨C, fun x => ⟨fun S => ⟨S, fun l hl => by cases hl⟩, fun S => S.1⟩⟩
  | l :: ls, d, d', C, ok, h => by
    unfold metAll at h
    cases e : met d l with
    | none => rw [e] at h; cases h
    | some d1 =>
      rw [e] at h
      obtain ⟨C1, s1⟩ := met_some C (ok l (List.mem_cons_self ..)).1 (ok l (List.mem_cons_self ..)).2 e
      obtain ⟨C2, s2⟩ := metAll_some C1 (fun q hq => ok q (List.mem_cons_of_mem _ hq)) h
      refine ⟨C2, fun x => ?_⟩
      rw [s2, s1]
      constructor
      · rintro ⟨⟨a, b⟩, c⟩
        refine ⟨a, fun q hq => ?_⟩
        rcases List.mem_cons.mp hq with rfl | hq
        · exact b
        · exact c q hq
      · rintro ⟨a, c⟩
        exact ⟨⟨a, c l (List.mem_cons_self ..)⟩, fun q hq => c q (List.mem_cons_of_mem _ hq)⟩
theorem metAll_none {m : Nat} : ∀ {ls : List Lit} {d : Z}, Closed m d → Ok m ls → metAll d ls = none → ∀ x, Sat m d x → ¬ All x ls
  | [], d, C, _, h, x, S, A => by cases h
  | l :: ls, d, C, ok, h, x, S, A => by
    unfold metAll at h
    have o := ok l (List.mem_cons_self ..)
    cases e : met d l with
    | none => exact met_none o.1 o.2 e S (A l (List.mem_cons_self ..))
    | some d1 =>
      rw [e] at h
      obtain ⟨C1, s1⟩ := met_some C o.1 o.2 e
      exact metAll_none C1 (fun q hq => ok q (List.mem_cons_of_mem _ hq)) h x ((s1 x).mpr ⟨S, A l (List.mem_cons_self ..)⟩) (fun q hq => A q (List.mem_cons_of_mem _ hq))
/-- the zone of all states -/
def whole : Z := fun i j => if i = j then some 0 else none
theorem whole_closed (m : Nat) : Closed m whole := by
  constructor
  · intro i _
    simp [whole]
  · intro i j k a b _ _ _ ha hb
    unfold whole at ha hb
    by_cases h : i = j
    · subst h
      by_cases h2 : i = k
      · subst h2
        simp at ha hb
        exact ⟨0, by simp [whole], by omega⟩
      · simp [h2] at hb
    · simp [h] at ha
theorem whole_sat (m : Nat) (x : Nat → Int) : Sat m whole x := by
  intro i j c _ _ h
  unfold whole at h
  by_cases e : i = j
  · subst e
    simp at h
    omega
  · simp [e] at h
/-- the number that is nearest: by what is told of those in S -/
def mostOf (d : Z) (x : Nat → Int) (i : Nat) : List Nat → Option Int
  | [] => none
  | j :: S => mostOf d x i S
/-- one step of the search for the ends of x i -/
def stepM (d : Z) (x : Nat → Int) (i : Nat) (o : Option Int) (j : Nat) : Option Int := match d i j with
  | none => o
  | some c => match o with
    | none => some (x j + c)
    | some v => if x j + c < v then some (x j + c) else some v
def stepL (d : Z) (x : Nat → Int) (i : Nat) (o : Option Int) (j : Nat) : Option Int := match d j i with
  | none => o
  | some c => match o with
    | none => some (x j - c)
    | some v => if v < x j - c then some (x j - c) else some v
theorem stepM_spec {d : Z} {x : Nat → Int} {i j : Nat} {o : Option Int} :
    (∀ c, d i j = some c → ∃ v, stepM d x i o j = some v ∧ v ≤ x j + c) ∧ (∀ v, o = some v → ∃ w, stepM d x i o j = some w ∧ w ≤ v) ∧ ∀ w, stepM d x i o j = some w → o = some w ∨ ∃ c, d i j = some c ∧ w = x j + c := by
  unfold stepM
  cases d i j with
  | none => exact ⟨fun c h => (by cases h), fun v h => ⟨v, h, Int.le_refl _⟩, fun w h => .inl h⟩
  | some c =>
    cases o with
    | none => exact ⟨fun c' h => (by cases h; exact ⟨_, rfl, Int.le_refl _⟩), fun v h => (by cases h), fun w h => .inr ⟨c, rfl, by simpa using h.symm⟩⟩
    | some v =>
      by_cases q : x j + c < v
      · simp only [q, if_true]
        exact ⟨fun c' h => (by cases h; exact ⟨_, rfl, Int.le_refl _⟩), fun v' h => (by cases h; exact ⟨_, rfl, by omega⟩), fun w h => .inr ⟨c, rfl, by simpa using h.symm⟩⟩
      · simp only [q, if_false]
        exact ⟨fun c' h => (by cases h; exact ⟨_, rfl, by omega⟩), fun v' h => (by cases h; exact ⟨_, rfl, Int.le_refl _⟩), fun w h => .inl h⟩
theorem stepL_spec {d : Z} {x : Nat → Int} {i j : Nat} {o : Option Int} :
    (∀ c, d j i = some c → ∃ v, stepL d x i o j = some v ∧ x j - c ≤ v) ∧ (∀ v, o = some v → ∃ w, stepL d x i o j = some w ∧ v ≤ w) ∧ ∀ w, stepL d x i o j = some w → o = some w ∨ ∃ c, d j i = some c ∧ w = x j - c := by
  unfold stepL
  cases d j i with
  | none => exact ⟨fun c h => (by cases h), fun v h => ⟨v, h, Int.le_refl _⟩, fun w h => .inl h⟩
  | some c =>
    cases o with
    | none => exact ⟨fun c' h => (by cases h; exact ⟨_, rfl, Int.le_refl _⟩), fun v h => (by cases h), fun w h => .inr ⟨c, rfl, by simpa using h.symm⟩⟩
    | some v =>
      by_cases q : v < x j - c
      · simp only [q, if_true]
        exact ⟨fun c' h => (by cases h; exact ⟨_, rfl, Int.le_refl _⟩), fun v' h => (by cases h; exact ⟨_, rfl, by omega⟩), fun w h => .inr ⟨c, rfl, by simpa using h.symm⟩⟩
      · simp only [q, if_false]
        exact ⟨fun c' h => (by cases h; exact ⟨_, rfl, by omega⟩), fun v' h => (by cases h; exact ⟨_, rfl, Int.le_refl _⟩), fun w h => .inl h⟩
theorem foldM_spec {d : Z} {x : Nat → Int} {i : Nat} : ∀ (S : List Nat) (o : Option Int),
    (∀ j ∈ S, ∀ c, d i j = some c → ∃ v, S.foldl (stepM d x i) o = some v ∧ v ≤ x j + c) ∧ (∀ v, o = some v → ∃ w, S.foldl (stepM d x i) o = some w ∧ w ≤ v) ∧ ∀ w, S.foldl (stepM d x i) o = some w → o = some w ∨ ∃ j, j ∈ S ∧ ∃ c, d i j = some c ∧ w = x j + c
  | [], o => ⟨fun j h => (by cases h), fun v h => ⟨v, h, Int.le_refl _⟩, fun w h => .inl h⟩
  | j :: S, o => by
    obtain ⟨a1, a2, a3⟩ := stepM_spec (d := d) (x := x) (i := i) (j := j) (o := o)
    obtain ⟨b1, b2, b3⟩ := foldM_spec (d := d) (x := x) (i := i) S (stepM d x i o j)
    simp only [List.foldl_cons]
    refine ⟨fun k hk c hc => ?_, fun v hv => ?_, fun w hw => ?_⟩
    · rcases List.mem_cons.mp hk with rfl | hk
      · obtain ⟨v, hv, lv⟩ := a1 c hc
        obtain ⟨w, hw, lw⟩ := b2 v hv
        exact ⟨w, hw, by omega⟩
      · exact b1 k hk c hc
    · obtain ⟨u, hu, lu⟩ := a2 v hv
      obtain ⟨w, hw, lw⟩ := b2 u hu
      exact ⟨w, hw, by omega⟩
    · rcases b3 w hw with h | ⟨k, hk, c, hc, e⟩
      · rcases a3 w h with h | ⟨c, hc, e⟩
        · exact .inl h
        · exact .inr ⟨j, List.mem_cons_self .., c, hc, e⟩
      · exact .inr ⟨k, List.mem_cons_of_mem _ hk, c, hc, e⟩
theorem foldL_spec {d : Z} {x : Nat → Int} {i : Nat} : ∀ (S : List Nat) (o : Option Int),
    (∀ j ∈ S, ∀ c, d j i = some c → ∃ v, S.foldl (stepL d x i) o = some v ∧ x j - c ≤ v) ∧ (∀ v, o = some v → ∃ w, S.foldl (stepL d x i) o = some w ∧ v ≤ w) ∧ ∀ w, S.foldl (stepL d x i) o = some w → o = some w ∨ ∃ j, j ∈ S ∧ ∃ c, d j i = some c ∧ w = x j - c
  | [], o => ⟨fun j h => (by cases h), fun v h => ⟨v, h, Int.le_refl _⟩, fun w h => .inl h⟩
  | j :: S, o => by
    obtain ⟨a1, a2, a3⟩ := stepL_spec (d := d) (x := x) (i := i) (j := j) (o := o)
    obtain ⟨b1, b2, b3⟩ := foldL_spec (d := d) (x := x) (i := i) S (stepL d x i o j)
    simp only [List.foldl_cons]
    refine ⟨fun k hk c hc => ?_, fun v hv => ?_, fun w hw => ?_⟩
    · rcases List.mem_cons.mp hk with rfl | hk
      · obtain ⟨v, hv, lv⟩ := a1 c hc
        obtain ⟨w, hw, lw⟩ := b2 v hv
        exact ⟨w, hw, by omega⟩
      · exact b1 k hk c hc
    · obtain ⟨u, hu, lu⟩ := a2 v hv
      obtain ⟨w, hw, lw⟩ := b2 u hu
      exact ⟨w, hw, by omega⟩
    · rcases b3 w hw with h | ⟨k, hk, c, hc, e⟩
      · rcases a3 w h with h | ⟨c, hc, e⟩
        · exact .inl h
        · exact .inr ⟨j, List.mem_cons_self .., c, hc, e⟩
      · exact .inr ⟨k, List.mem_cons_of_mem _ hk, c, hc, e⟩
/-- the integer that is taken for i when those in S stand -/
def val (d : Z) (x : Nat → Int) (i : Nat) (S : List Nat) : Int := match S.foldl (stepL d x i) none with
  | some v => v
  | none => match S.foldl (stepM d x i) none with
    | some v => v
    | none => 0
theorem val_ok {m : Nat} {d : Z} (C : Closed m d) {x : Nat → Int} {i : Nat} (hi : i < m) {S : List Nat} (hS : ∀ j ∈ S, j < m) (H : ∀ j k c, j ∈ S → k ∈ S → d j k = some c → x j ≤ x k + c) :
    (∀ j ∈ S, ∀ c, d i j = some c → val d x i S ≤ x j + c) ∧ ∀ j ∈ S, ∀ c, d j i = some c → x j ≤ val d x i S + c := by
  obtain ⟨a1, _, a3⟩ := foldM_spec (d := d) (x := x) (i := i) S none
  obtain ⟨b1, _, b3⟩ := foldL_spec (d := d) (x := x) (i := i) S none
  unfold val
  cases hl : S.foldl (stepL d x i) none with
  | some v =>
    refine ⟨fun j hj c hc => ?_, fun j hj c hc => ?_⟩
    · rcases b3 v hl with h | ⟨k, hk, e, he, rfl⟩
      · cases h
      · obtain ⟨g, hg, lg⟩ := C.tri k i j e c (hS k hk) hi (hS j hj) he hc
        have := H k j g hk hj hg
        show x k - e ≤ x j + c
        omega
    · obtain ⟨w, hw, lw⟩ := b1 j hj c hc
      rw [hl] at hw
      cases hw
      show x j ≤ v + c
      omega
  | none =>
    refine ⟨fun j hj c hc => ?_, fun j hj c hc => ?_⟩
    · obtain ⟨w, hw, lw⟩ := a1 j hj c hc
      rw [hw]
      exact lw
    · obtain ⟨w, hw, lw⟩ := b1 j hj c hc
      rw [hl] at hw
      cases hw
/-- one state of the zone: integers by and by -/
def upd (x : Nat → Int) (k : Nat) (v : Int) : Nat → Int := fun i => if i = k then v else x i
def pt (d : Z) : Nat → Nat → Int
  | 0 => fun _ => 0
  | k + 1 => upd (pt d k) (k + 1) (val d (pt d k) (k + 1) (List.range (k + 1)))
theorem pt_keep (d : Z) : ∀ k i, i ≤ k → ∀ j, pt d (k + j) i = pt d k i
  | k, i, h, 0 => rfl
  | k, i, h, j + 1 => by
    show upd (pt d (k + j)) (k + j + 1) _ i = _
    unfold upd
    rw [if_neg (by omega), pt_keep d k i h j]
theorem pt_zero (d : Z) (k : Nat) : pt d k 0 = 0 := by
  have := pt_keep d 0 0 (Nat.le_refl _) k
  rw [Nat.zero_add] at this
  exact this
theorem val_same {d : Z} {x y : Nat → Int} {i : Nat} {S : List Nat} (h : ∀ j ∈ S, x j = y j) : val d x i S = val d y i S := by
  have e1 : ∀ (S : List Nat) (o : Option Int), (∀ j ∈ S, x j = y j) → S.foldl (stepL d x i) o = S.foldl (stepL d y i) o := by
    intro S
    induction S with
    | nil => intros; rfl
    | cons j S ih =>
      intro o h
      simp only [List.foldl_cons]
      have : stepL d x i o j = stepL d y i o j := by
        unfold stepL
        rw [h j (List.mem_cons_self ..)]
      rw [this]
      exact ih _ fun k hk => h k (List.mem_cons_of_mem _ hk)
  have e2 : ∀ (S : List Nat) (o : Option Int), (∀ j ∈ S, x j = y j) → S.foldl (stepM d x i) o = S.foldl (stepM d y i) o := by
    intro S
    induction S with
    | nil => intros; rfl
    | cons j S ih =>
      intro o h
      simp only [List.foldl_cons]
      have : stepM d x i o j = stepM d y i o j := by
        unfold stepM
        rw [h j (List.mem_cons_self ..)]
      rw [this]
      exact ih _ fun k hk => h k (List.mem_cons_of_mem _ hk)
  unfold val
  rw [e1 S none h, e2 S none h]
theorem pt_sat {m : Nat} {d : Z} (C : Closed m d) : ∀ k, k < m → Sat (k + 1) d (pt d k)
  | 0, hk => by
    intro i j c hi hj h
    have ei : i = 0 := by omega
    have ej : j = 0 := by omega
    subst ei ej
    rw [C.dia 0 hk] at h
    cases h
    omega
  | k + 1, hk => by
    have ih := pt_sat C k (by omega)
    have V := val_ok C (x := pt d k) (i := k + 1) hk (S := List.range (k + 1)) (fun j hj => by have := List.mem_range.mp hj; omega)
      (fun i j c hi hj h => ih i j c (List.mem_range.mp hi) (List.mem_range.mp hj) h)
    intro i j c hi hj h
    show upd _ _ _ i ≤ upd _ _ _ j + c
    unfold upd
    by_cases ei : i = k + 1
    · by_cases ej : j = k + 1
      · subst ei ej
        rw [C.dia _ hk] at h
        cases h
        simp
      · subst ei
        rw [if_pos rfl, if_neg ej]
        exact V.1 j (List.mem_range.mpr (by omega)) c h
    · by_cases ej : j = k + 1
      · subst ej
        rw [if_pos rfl, if_neg ei]
        exact V.2 i (List.mem_range.mpr (by omega)) c h
      · rw [if_neg ei, if_neg ej]
        exact ih i j c (by omega) (by omega) h
theorem some_state {m : Nat} {d : Z} (C : Closed (m + 1) d) : Sat (m + 1) d (pt d m) ∧ pt d m 0 = 0 := ⟨pt_sat C m (by omega), pt_zero d m⟩
/-- a state can be had at each bound -/
theorem shift_sat {m : Nat} {d : Z} {x : Nat → Int} (S : Sat m d x) (a : Int) : Sat m d fun i => x i - a := by
  intro i j c hi hj h
  have := S i j c hi hj h
  show x i - a ≤ x j - a + c
  omega
theorem at_bound {m : Nat} {d : Z} (C : Closed (m + 1) d) {i j : Nat} (hi : i < m + 1) (hj : j < m + 1) {c : Int} (h : d i j = some c) : ∃ x, Sat (m + 1) d x ∧ x 0 = 0 ∧ x i = x j + c := by
  have hf : fails d (j, i, -c) = false := by
    cases q : fails d (j, i, -c) with
    | false => rfl
    | true =>
      obtain ⟨b, hb, lt⟩ := fails_iff.mp q
      have e : d i j = some b := hb
      rw [h] at e
      cases e
      simp at lt
      omega
  have C' := metD_closed (l := (j, i, -c)) C hj hi hf
  obtain ⟨S, z⟩ := some_state C'
  obtain ⟨S1, H⟩ := (metD_sat (l := (j, i, -c)) C hj hi).mp S
  refine ⟨_, S1, z, ?_⟩
  have := S1 i j c hi hj h
  unfold Hl at H
  simp at H
  omega
theorem no_bound {m : Nat} {d : Z} (C : Closed (m + 1) d) {i j : Nat} (hi : i < m + 1) (hj : j < m + 1) (h : d i j = none) (n : Int) : ∃ x, Sat (m + 1) d x ∧ x 0 = 0 ∧ x j + n ≤ x i := by
  have hf : fails d (j, i, -n) = false := by
    cases q : fails d (j, i, -n) with
    | false => rfl
    | true =>
      obtain ⟨b, hb, lt⟩ := fails_iff.mp q
      have e : d i j = some b := hb
      rw [h] at e
      cases e
  have C' := metD_closed (l := (j, i, -n)) C hj hi hf
  obtain ⟨S, z⟩ := some_state C'
  obtain ⟨S1, H⟩ := (metD_sat (l := (j, i, -n)) C hj hi).mp S
  refine ⟨_, S1, z, ?_⟩
  unfold Hl at H
  simp at H
  omega
/-- within another zone, as it is seen -/
def inside (m : Nat) (d e : Z) : Prop := ∀ i j c, i < m → j < m → e i j = some c → ∃ a, d i j = some a ∧ a ≤ c
theorem inside_sat {m : Nat} {d e : Z} (h : inside m d e) {x : Nat → Int} (S : Sat m d x) : Sat m e x := by
  intro i j c hi hj hc
  obtain ⟨a, ha, la⟩ := h i j c hi hj hc
  have := S i j a hi hj ha
  omega
theorem sat_inside {m : Nat} {d e : Z} (C : Closed (m + 1) d) (h : ∀ x, x 0 = 0 → Sat (m + 1) d x → Sat (m + 1) e x) : inside (m + 1) d e := by
  intro i j c hi hj hc
  cases q : d i j with
  | some a =>
    obtain ⟨x, S, z, e1⟩ := at_bound C hi hj q
    have := h x z S i j c hi hj hc
    exact ⟨a, rfl, by omega⟩
  | none =>
    obtain ⟨x, S, z, e1⟩ := no_bound C hi hj q (c + 1)
    have := h x z S i j c hi hj hc
    omega
/-- one integer may be any: the others are as they are -/
def freed (d : Z) (k : Nat) : Z := fun i j => if i = k ∨ j = k then (if i = j then some 0 else none) else d i j
theorem freed_closed {m : Nat} {d : Z} (C : Closed m d) (k : Nat) : Closed m (freed d k) := by
  constructor
  · intro i hi
    unfold freed
    by_cases e : i = k
    · simp [e]
    · simp [e, C.dia i hi]
  · intro i j l a b hi hj hl ha hb
    unfold freed at *
    by_cases e1 : i = k ∨ j = k
    · rw [if_pos e1] at ha
      by_cases e : i = j
      · subst e
        rw [if_pos rfl] at ha
        cases ha
        exact ⟨b, hb, by omega⟩
      · rw [if_neg e] at ha
        cases ha
    · rw [if_neg e1] at ha
      by_cases e2 : j = k ∨ l = k
      · rw [if_pos e2] at hb
        by_cases e : j = l
        · subst e
          rw [if_pos rfl] at hb
          cases hb
          exact ⟨a, by rw [if_neg e1]; exact ha, by omega⟩
        · rw [if_neg e] at hb
          cases hb
      · rw [if_neg e2] at hb
        rw [if_neg (by omega)]
        exact C.tri i j l a b hi hj hl ha hb
theorem freed_sat {m : Nat} {d : Z} (C : Closed m d) {k : Nat} (hk : k < m) {x : Nat → Int} : Sat m (freed d k) x ↔ ∃ v, Sat m d (upd x k v) := by
  constructor
  · intro S
    have V := val_ok C (x := x) (i := k) hk (S := (List.range m).filter (· != k)) (fun j hj => List.mem_range.mp (List.mem_filter.mp hj).1)
      (fun i j c hi hj h => S i j c (List.mem_range.mp (List.mem_filter.mp hi).1) (List.mem_range.mp (List.mem_filter.mp hj).1) (by
        have h1 := (List.mem_filter.mp hi).2
        have h2 := (List.mem_filter.mp hj).2
        unfold freed
        simp at h1 h2
        simp [h1, h2, h]))
    refine ⟨val d x k ((List.range m).filter (· != k)), fun i j c hi hj h => ?_⟩
    unfold upd
    by_cases ei : i = k
    · by_cases ej : j = k
      · subst ei ej
        rw [C.dia _ hk] at h
        cases h
        simp
      · subst ei
        rw [if_pos rfl, if_neg ej]
        exact V.1 j (List.mem_filter.mpr ⟨List.mem_range.mpr hj, by simp [ej]⟩) c h
    · by_cases ej : j = k
      · subst ej
        rw [if_pos rfl, if_neg ei]
        exact V.2 i (List.mem_filter.mpr ⟨List.mem_range.mpr hi, by simp [ei]⟩) c h
      · rw [if_neg ei, if_neg ej]
        exact S i j c hi hj (by unfold freed; simp [ei, ej, h])
  · rintro ⟨v, S⟩ i j c hi hj h
    unfold freed at h
    by_cases e : i = k ∨ j = k
    · rw [if_pos e] at h
      by_cases e2 : i = j
      · subst e2
        rw [if_pos rfl] at h
        cases h
        omega
      · rw [if_neg e2] at h
        cases h
    · rw [if_neg e] at h
      have := S i j c hi hj h
      unfold upd at this
      rw [if_neg (by omega), if_neg (by omega)] at this
      exact this
end Zn

/-! As few literals as give a zone. Plain mathematics. -/
namespace Zn
def tied (d : Z) (i j : Nat) : Bool := match d i j, d j i with
  | some a, some b => decide (a + b = 0)
  | _, _ => false
theorem tied_iff {d : Z} {i j : Nat} : tied d i j = true ↔ ∃ a, d i j = some a ∧ d j i = some (-a) := by
  unfold tied
  cases d i j with
  | none => simp
  | some a =>
    cases d j i with
    | none => simp
    | some b =>
      simp
      omega
def headOf (d : Z) (i : Nat) : Nat := match (List.range i).find? (tied d i) with
  | some j => j
  | none => i
variable {m : Nat} {d : Z}
theorem tied_refl (C : Closed m d) {i : Nat} (hi : i < m) : tied d i i = true := tied_iff.mpr ⟨0, C.dia i hi, C.dia i hi⟩
theorem tied_symm {i j : Nat} (h : tied d i j = true) : tied d j i = true := by
  obtain ⟨a, h1, h2⟩ := tied_iff.mp h
  exact tied_iff.mpr ⟨-a, h2, by rw [h1]; exact congrArg some (by omega)⟩
theorem tied_add (C : Closed m d) {i j k : Nat} (hi : i < m) (hj : j < m) (hk : k < m) {a b : Int} (h1 : d i j = some a) (h2 : d j i = some (-a)) (h3 : d j k = some b) (h4 : d k j = some (-b)) : d i k = some (a + b) ∧ d k i = some (-(a + b)) := by
  obtain ⟨c, hc, lc⟩ := C.tri i j k a b hi hj hk h1 h3
  obtain ⟨e, he, le⟩ := C.tri k j i (-b) (-a) hk hj hi h4 h2
  obtain ⟨g, hg, lg⟩ := C.tri i k i c e hi hk hi hc he
  rw [C.dia i hi] at hg
  cases hg
  exact ⟨by rw [hc]; exact congrArg some (by omega), by rw [he]; exact congrArg some (by omega)⟩
theorem tied_trans (C : Closed m d) {i j k : Nat} (hi : i < m) (hj : j < m) (hk : k < m) (h1 : tied d i j = true) (h2 : tied d j k = true) : tied d i k = true := by
  obtain ⟨a, a1, a2⟩ := tied_iff.mp h1
  obtain ⟨b, b1, b2⟩ := tied_iff.mp h2
  obtain ⟨e1, e2⟩ := tied_add C hi hj hk a1 a2 b1 b2
  exact tied_iff.mpr ⟨_, e1, e2⟩
theorem find_range {p : Nat → Bool} : ∀ {n j : Nat}, (List.range n).find? p = some j → j < n ∧ p j = true ∧ ∀ k, k < j → p k = false := by
  intro n j h
  obtain ⟨hp, as, bs, e, hn⟩ := List.find?_eq_some_iff_append.mp h
  have hj : (List.range n)[as.length]? = some j := by rw [e]; simp
  have hlt : as.length < n := by
    have := (List.getElem?_eq_some_iff.mp hj).1
    simpa using this
  have ej : as.length = j := by
    rw [List.getElem?_range hlt] at hj
    exact Option.some.inj hj
  refine ⟨by omega, hp, fun k hk => ?_⟩
  have hk' : as[k]? = some k := by
    have h1 : (List.range n)[k]? = some k := List.getElem?_range (by omega)
    rw [e, List.getElem?_append_left (by omega)] at h1
    exact h1
  have := hn k (List.mem_of_getElem? hk')
  simpa using this
theorem head_le (d : Z) (i : Nat) : headOf d i ≤ i := by
  unfold headOf
  cases h : (List.range i).find? (tied d i) with
  | none => exact Nat.le_refl _
  | some j => exact Nat.le_of_lt (find_range h).1
theorem head_tied (C : Closed m d) {i : Nat} (hi : i < m) : tied d i (headOf d i) = true := by
  unfold headOf
  cases h : (List.range i).find? (tied d i) with
  | none => exact tied_refl C hi
  | some j => exact (find_range h).2.1
theorem head_least {i j : Nat} (h : tied d i j = true) : headOf d i ≤ j := by
  unfold headOf
  cases q : (List.range i).find? (tied d i) with
  | none =>
    by_cases hj : j < i
    · have := List.find?_eq_none.mp q j (List.mem_range.mpr hj)
      exact absurd h this
    · show i ≤ j
      omega
  | some k =>
    obtain ⟨_, _, h3⟩ := find_range q
    show k ≤ j
    by_cases hj : j < k
    · have := h3 j hj
      rw [h] at this
      cases this
    · omega
theorem head_eq (C : Closed m d) {i j : Nat} (hi : i < m) (hj : j < m) (h : tied d i j = true) : headOf d i = headOf d j := by
  have li := head_le d i
  have lj := head_le d j
  have h1 : headOf d i ≤ headOf d j := head_least (tied_trans C hi hj (by omega) h (head_tied C hj))
  have h2 : headOf d j ≤ headOf d i := head_least (tied_trans C hj hi (by omega) (tied_symm h) (head_tied C hi))
  omega
theorem head_head (C : Closed m d) {i : Nat} (hi : i < m) : headOf d (headOf d i) = headOf d i := by
  have li := head_le d i
  exact (head_eq C hi (by omega) (head_tied C hi)).symm
def group (d : Z) (m h : Nat) : List Nat := (List.range m).filter fun i => headOf d i == h
def pairs (g : List Nat) : List (Nat × Nat) := g.zip (g.drop 1 ++ g.take 1)
def num (d : Z) (i j : Nat) : Int := (d i j).getD 0
def firsts (d : Z) (m : Nat) : List Nat := (List.range m).filter fun i => headOf d i == i
def btw (d : Z) (n : Int) (i j k : Nat) : Bool := k != i && (k != j && match d i k, d k j with
  | some a, some b => decide (a + b ≤ n)
  | _, _ => false)
def needed (d : Z) (F : List Nat) (i j : Nat) : Bool := match d i j with
  | none => false
  | some n => !F.any (btw d n i j)
def ringLits (d : Z) (m h : Nat) : List Lit := if 1 < (group d m h).length then (pairs (group d m h)).map fun p => (p.1, p.2, num d p.1 p.2) else []
def restLits (d : Z) (m i : Nat) : List Lit := ((firsts d m).filter fun j => i != j && needed d (firsts d m) i j).map fun j => (i, j, num d i j)
def lits (d : Z) (m : Nat) : List Lit := (List.range m).flatMap (ringLits d m) ++ (firsts d m).flatMap (restLits d m)
theorem mem_group {h i : Nat} : i ∈ group d m h ↔ i < m ∧ headOf d i = h := by
  unfold group
  rw [List.mem_filter, List.mem_range]
  simp
theorem mem_firsts {i : Nat} : i ∈ firsts d m ↔ i < m ∧ headOf d i = i := by
  unfold firsts
  rw [List.mem_filter, List.mem_range]
  simp
theorem mem_pairs {g : List Nat} {p : Nat × Nat} (h : p ∈ pairs g) : p.1 ∈ g ∧ p.2 ∈ g := by
  obtain ⟨h1, h2⟩ := List.of_mem_zip (show (p.1, p.2) ∈ g.zip (g.drop 1 ++ g.take 1) from h)
  refine ⟨h1, ?_⟩
  rcases List.mem_append.mp h2 with h | h
  · exact List.mem_of_mem_drop h
  · exact List.mem_of_mem_take h
theorem num_of {i j : Nat} {c : Int} (h : d i j = some c) : num d i j = c := by
  unfold num
  rw [h]
  rfl
/-- what never falls along a ring stays -/
theorem ring_flat {y : Nat → Int} : ∀ (l : List Nat) (s e : Nat), (∀ p ∈ (s :: l).zip (l ++ [e]), y p.1 ≤ y p.2) → (∀ q ∈ l, y s ≤ y q) ∧ ∀ p ∈ s :: l, y p ≤ y e
  | [], s, e, H => by
    have h := H (s, e) (by simp)
    exact ⟨fun q hq => (by cases hq), fun p hp => by
      have : p = s := by simpa using hp
      rw [this]
      exact h⟩
  | a :: l, s, e, H => by
    have h0 := H (s, a) (by simp)
    obtain ⟨h1, h2⟩ := ring_flat l a e fun p hp => H p (by
      show p ∈ (s :: a :: l).zip (a :: (l ++ [e]))
      rw [List.zip_cons_cons]
      exact List.mem_cons_of_mem _ hp)
    simp only at h0
    refine ⟨fun q hq => ?_, fun p hp => ?_⟩
    · rcases List.mem_cons.mp hq with rfl | hq
      · exact h0
      · have := h1 q hq
        omega
    · rcases List.mem_cons.mp hp with rfl | hp
      · have := h2 a (List.mem_cons_self ..)
        omega
      · exact h2 p hp
theorem pairs_flat {y : Nat → Int} {g : List Nat} (H : ∀ p ∈ pairs g, y p.1 ≤ y p.2) {a b : Nat} (ha : a ∈ g) (hb : b ∈ g) : y a = y b := by
  cases g with
  | nil => cases ha
  | cons s l =>
    obtain ⟨h1, h2⟩ := ring_flat l s s (by
      intro p hp
      refine H p ?_
      unfold pairs
      simpa using hp)
    have f : ∀ q ∈ s :: l, y q = y s := fun q hq => by
      have := h2 q hq
      rcases List.mem_cons.mp hq with rfl | hq
      · rfl
      · have := h1 q hq
        omega
    rw [f a ha, f b hb]
theorem filter_lt {α : Type} {p q : α → Bool} : ∀ {F : List α} {k : α}, (∀ y ∈ F, p y = true → q y = true) → k ∈ F → q k = true → p k = false → (F.filter p).length < (F.filter q).length
  | [], k, _, hk, _, _ => by cases hk
  | a :: F, k, H, hk, hq, hp => by
    have mono : (F.filter p).length ≤ (F.filter q).length := by
      have : ∀ G : List α, (∀ y ∈ G, p y = true → q y = true) → (G.filter p).length ≤ (G.filter q).length := by
        intro G
        induction G with
        | nil => intro _; simp
        | cons b G ih =>
          intro hG
          have i1 := ih fun y hy => hG y (List.mem_cons_of_mem _ hy)
          by_cases pb : p b = true
          · have qb := hG b (List.mem_cons_self ..) pb
            simp only [List.filter_cons, pb, qb, if_true, List.length_cons]
            omega
          · by_cases qb : q b = true
            · simp only [List.filter_cons, pb, qb, if_true, List.length_cons]
              simp
              omega
            · simp only [List.filter_cons, pb, qb]
              simpa using i1
      exact this F fun y hy => H y (List.mem_cons_of_mem _ hy)
    rcases List.mem_cons.mp hk with rfl | hk
    · simp only [List.filter_cons, hq, hp, if_true, List.length_cons]
      simp
      omega
    · have ih := filter_lt (fun y hy => H y (List.mem_cons_of_mem _ hy)) hk hq hp
      by_cases pb : p a = true
      · have qb := H a (List.mem_cons_self ..) pb
        simp only [List.filter_cons, pb, qb, if_true, List.length_cons]
        omega
      · by_cases qb : q a = true
        · simp only [List.filter_cons, pb, qb, if_true, List.length_cons]
          simp
          omega
        · simp only [List.filter_cons, pb, qb]
          simpa using ih
theorem btw_iff {n : Int} {i j k : Nat} : btw d n i j k = true ↔ k ≠ i ∧ k ≠ j ∧ ∃ a b, d i k = some a ∧ d k j = some b ∧ a + b ≤ n := by
  unfold btw
  cases d i k <;> cases d k j <;> simp
theorem rest_sat (C : Closed m d) {x : Nat → Int} (H : ∀ i ∈ firsts d m, ∀ l ∈ restLits d m i, Hl x l) : ∀ (n i j : Nat) (c : Int), ((firsts d m).filter (btw d c i j)).length < n → i ∈ firsts d m → j ∈ firsts d m → i ≠ j → d i j = some c → x i ≤ x j + c
  | 0, i, j, c, hn, _, _, _, _ => by omega
  | n + 1, i, j, c, hn, hi, hj, hij, hc => by
    obtain ⟨mi, fi⟩ := mem_firsts.mp hi
    obtain ⟨mj, fj⟩ := mem_firsts.mp hj
    cases q : (firsts d m).any (btw d c i j) with
    | false =>
      have : needed d (firsts d m) i j = true := by
        unfold needed
        rw [hc]
        simp only [q]
        rfl
      have h := H i hi (i, j, num d i j) (List.mem_map.mpr ⟨j, List.mem_filter.mpr ⟨hj, by simp [hij, this]⟩, rfl⟩)
      unfold Hl at h
      rw [num_of hc] at h
      exact h
    | true =>
      obtain ⟨k, hk, hb⟩ := List.any_eq_true.mp q
      obtain ⟨mk, fk⟩ := mem_firsts.mp hk
      obtain ⟨ki, kj, a, b, ha, hb2, le⟩ := btw_iff.mp hb
      have apart : ∀ {u v : Nat}, u ∈ firsts d m → v ∈ firsts d m → u ≠ v → ∀ {e f : Int}, d u v = some e → d v u = some f → 0 < e + f := by
        intro u v hu hv huv e f he hf
        obtain ⟨mu, fu⟩ := mem_firsts.mp hu
        obtain ⟨mv, fv⟩ := mem_firsts.mp hv
        obtain ⟨g, hg, lg⟩ := C.tri u v u e f mu mv mu he hf
        rw [C.dia u mu] at hg
        cases hg
        by_cases z : e + f = 0
        · have t : tied d u v = true := tied_iff.mpr ⟨e, he, by rw [hf]; exact congrArg some (by omega)⟩
          have := head_eq C mu mv t
          omega
        · omega
      have l1 : ((firsts d m).filter (btw d a i k)).length < ((firsts d m).filter (btw d c i j)).length := by
        refine filter_lt (k := k) (fun y hy hyb => ?_) hk hb ?_
        · obtain ⟨my, fy⟩ := mem_firsts.mp hy
          obtain ⟨yi, yk, a1, a2, h1, h2, l12⟩ := btw_iff.mp hyb
          obtain ⟨e, he, le2⟩ := C.tri y k j a2 b my mk mj h2 hb2
          refine btw_iff.mpr ⟨yi, fun yj => ?_, a1, e, h1, he, by omega⟩
          subst yj
          rw [hc] at h1
          cases h1
          have := apart hj hk (fun z => kj z.symm) h2 hb2
          omega
        · cases z : btw d a i k k with
          | false => rfl
          | true => exact absurd rfl (btw_iff.mp z).2.1
      have l2 : ((firsts d m).filter (btw d b k j)).length < ((firsts d m).filter (btw d c i j)).length := by
        refine filter_lt (k := k) (fun y hy hyb => ?_) hk hb ?_
        · obtain ⟨my, fy⟩ := mem_firsts.mp hy
          obtain ⟨yk, yj, a1, a2, h1, h2, l12⟩ := btw_iff.mp hyb
          obtain ⟨e, he, le2⟩ := C.tri i k y a a1 mi mk my ha h1
          refine btw_iff.mpr ⟨fun yi => ?_, yj, e, a2, he, h2, by omega⟩
          subst yi
          rw [hc] at h2
          cases h2
          have := apart hk hi ki h1 ha
          omega
        · cases z : btw d b k j k with
          | false => rfl
          | true => exact absurd rfl (btw_iff.mp z).1
      have r1 := rest_sat C H n i k a (by omega) hi hk (fun z => ki z.symm) ha
      have r2 := rest_sat C H n k j b (by omega) hk hj kj hb2
      omega
theorem group_one {h : Nat} (hl : ¬ 1 < (group d m h).length) {a b : Nat} (ha : a ∈ group d m h) (hb : b ∈ group d m h) : a = b := by
  cases g : group d m h with
  | nil => rw [g] at ha; cases ha
  | cons s l =>
    cases l with
    | nil =>
      rw [g] at ha hb
      simp at ha hb
      omega
    | cons t l =>
      rw [g] at hl
      simp at hl
theorem lits_ok (C : Closed m d) : Ok m (lits d m) := by
  intro l hl
  unfold lits at hl
  rcases List.mem_append.mp hl with hl | hl
  · obtain ⟨h, hh, hl⟩ := List.mem_flatMap.mp hl
    unfold ringLits at hl
    by_cases q : 1 < (group d m h).length
    · rw [if_pos q] at hl
      obtain ⟨p, hp, rfl⟩ := List.mem_map.mp hl
      obtain ⟨h1, h2⟩ := mem_pairs hp
      exact ⟨(mem_group.mp h1).1, (mem_group.mp h2).1⟩
    · rw [if_neg q] at hl
      cases hl
  · obtain ⟨i, hi, hl⟩ := List.mem_flatMap.mp hl
    obtain ⟨j, hj, rfl⟩ := List.mem_map.mp hl
    exact ⟨(mem_firsts.mp hi).1, (mem_firsts.mp (List.mem_filter.mp hj).1).1⟩
theorem lits_sat (C : Closed m d) (x : Nat → Int) : All x (lits d m) ↔ Sat m d x := by
  constructor
  · intro A
    have R : ∀ h, h < m → ∀ l ∈ ringLits d m h, Hl x l := fun h hh l hl => A l (List.mem_append_left _ (List.mem_flatMap.mpr ⟨h, List.mem_range.mpr hh, hl⟩))
    have F : ∀ i ∈ firsts d m, ∀ l ∈ restLits d m i, Hl x l := fun i hi l hl => A l (List.mem_append_right _ (List.mem_flatMap.mpr ⟨i, hi, hl⟩))
    -- each index differs from its head by a fixed number
    have key : ∀ i, i < m → x i = x (headOf d i) + num d i (headOf d i) := by
      intro i hi
      have li := head_le d i
      have hm : headOf d i < m := by omega
      by_cases q : 1 < (group d m (headOf d i)).length
      · have := pairs_flat (y := fun k => x k - num d k (headOf d i)) (g := group d m (headOf d i)) (fun p hp => by
          obtain ⟨h1, h2⟩ := mem_pairs hp
          obtain ⟨m1, e1⟩ := mem_group.mp h1
          obtain ⟨m2, e2⟩ := mem_group.mp h2
          have hl := R _ hm (p.1, p.2, num d p.1 p.2) (by
            unfold ringLits
            rw [if_pos q]
            exact List.mem_map.mpr ⟨p, hp, rfl⟩)
          unfold Hl at hl
          simp only at hl
          have t1 := head_tied C m1
          have t2 := head_tied C m2
          rw [e1] at t1
          rw [e2] at t2
          obtain ⟨a, a1, a2⟩ := tied_iff.mp t1
          obtain ⟨b, b1, b2⟩ := tied_iff.mp t2
          obtain ⟨c1, c2⟩ := tied_add C m1 hm m2 a1 a2 b2 (by rw [b1]; exact congrArg some (by omega))
          rw [num_of c1] at hl
          show x p.1 - num d p.1 (headOf d i) ≤ x p.2 - num d p.2 (headOf d i)
          rw [num_of a1, num_of b1]
          omega) (mem_group.mpr ⟨hi, rfl⟩) (mem_group.mpr ⟨hm, head_head C hi⟩)
        have this : x i - num d i (headOf d i) = x (headOf d i) - num d (headOf d i) (headOf d i) := this
        rw [num_of (C.dia _ hm)] at this
        omega
      · have e : i = headOf d i := group_one q (mem_group.mpr ⟨hi, rfl⟩) (mem_group.mpr ⟨hm, head_head C hi⟩)
        rw [← e, num_of (C.dia i hi)]
        omega
    intro i j c hi hj hc
    have k1 := key i hi
    have k2 := key j hj
    have li := head_le d i
    have lj := head_le d j
    have hmi : headOf d i < m := by omega
    have hmj : headOf d j < m := by omega
    obtain ⟨a, a1, a2⟩ := tied_iff.mp (head_tied C hi)
    obtain ⟨b, b1, b2⟩ := tied_iff.mp (head_tied C hj)
    rw [num_of a1] at k1
    rw [num_of b1] at k2
    obtain ⟨e, he, le⟩ := C.tri _ _ _ _ _ hmi hi hj a2 hc
    obtain ⟨f, hf, lf⟩ := C.tri _ _ _ _ _ hmi hj hmj he b1
    have hF1 : headOf d i ∈ firsts d m := mem_firsts.mpr ⟨hmi, head_head C hi⟩
    have hF2 : headOf d j ∈ firsts d m := mem_firsts.mpr ⟨hmj, head_head C hj⟩
    by_cases q : headOf d i = headOf d j
    · rw [← q] at k2 hf
      rw [C.dia _ hmi] at hf
      cases hf
      omega
    · have := rest_sat C F _ _ _ f (Nat.lt_succ_self _) hF1 hF2 q hf
      omega
  · intro S l hl
    unfold lits at hl
    rcases List.mem_append.mp hl with hl | hl
    · obtain ⟨h, hh, hl⟩ := List.mem_flatMap.mp hl
      unfold ringLits at hl
      by_cases q : 1 < (group d m h).length
      · rw [if_pos q] at hl
        obtain ⟨p, hp, rfl⟩ := List.mem_map.mp hl
        obtain ⟨h1, h2⟩ := mem_pairs hp
        obtain ⟨m1, e1⟩ := mem_group.mp h1
        obtain ⟨m2, e2⟩ := mem_group.mp h2
        have t : tied d p.1 p.2 = true := tied_trans C m1 (List.mem_range.mp hh) m2 (by have := head_tied C m1; rw [e1] at this; exact this) (tied_symm (by have := head_tied C m2; rw [e2] at this; exact this))
        obtain ⟨a, a1, a2⟩ := tied_iff.mp t
        have := S _ _ _ m1 m2 a1
        unfold Hl
        simp only
        rw [num_of a1]
        exact this
      · rw [if_neg q] at hl
        cases hl
    · obtain ⟨i, hi, hl⟩ := List.mem_flatMap.mp hl
      obtain ⟨j, hj, rfl⟩ := List.mem_map.mp hl
      obtain ⟨hj, hp⟩ := List.mem_filter.mp hj
      have hn : needed d (firsts d m) i j = true := by
        simp at hp
        exact hp.2
      unfold needed at hn
      cases hc : d i j with
      | none => rw [hc] at hn; cases hn
      | some c =>
        have := S _ _ _ (mem_firsts.mp hi).1 (mem_firsts.mp hj).1 hc
        unfold Hl
        simp only
        rw [num_of hc]
        exact this
end Zn

/-! Own operators of own classes: in, comparisons, & | - and the like, o[i]. -/
namespace Ow
open PySem PySem.Spec PyProof.Rows L2
section
variable {X : Cx} {k j : Nat} {C : Addr} {sp : Sp}
/-- the heap at a call of a method of a met instance -/
theorem met_at {pins : List (Addr × Obj)} {σ : L2.St} {H : Hp} {s : Shared} {a dx : Addr} {fs : List (Str × V)} (I : Inv X pins σ H s) (h : H a = some (.ins C dx fs)) : ∃ (ox : Obj) (od : Option Obj), PySem.W.InstAt s.heap a ox C od := by
  obtain ⟨mA, J, _⟩ := ins_get I.hok h
  obtain ⟨od, J, _⟩ := J.look
  exact ⟨_, _, J⟩
/-- x in o, by the class's own __contains__ -/
def rInM (C : Addr) (sp : Sp) : R2 := fun x y H Q => ∃ a dx fs, y = .ref a ∧ H a = some (.ins C dx fs) ∧ sp [.ref a, x] H (fun v H' => ∃ b, v = .bl b ∧ Q (.bl b) H') C8.E0
theorem op_inM (c : C8.Met X.prog X.w X.K X.mg X.base k C "__contains__" sp []) (hr : Room j X.A) (hk : k ≤ j) : OpR X (compareOp .In) (rInM C sp) := by
  obtain ⟨f, fd, ps, ds, _, me, F, b, d⟩ := c.ex
  cases d
  intro pins s σ H x y v u Q I rx ry h
  obtain ⟨a, dx, fs, rfl, ha, h⟩ := h
  cases ry
  obtain ⟨ox, od, J⟩ := met_at I ha
  obtain ⟨m, hF⟩ := I.fr
  refine PySem.W.in_K hF I.ok.mod.kin J me.at_ me.fn (wpAny_mono (run_fn (vs := [.ref a, x]) F (hr.mono hk) b .nil C8.pass0 I (.cons rfl (.cons rx .nil)) h) (fun r s' hq => ?_) fun _ _ z => z)
  obtain ⟨z, H', I', rz, t, rfl, q⟩ := hq
  cases rz
  exact wpAny_truthy_bool ⟨.bl t, H', I', rfl, q⟩
def rNotInM (C : Addr) (sp : Sp) : R2 := fun x y H Q => ∃ a dx fs, y = .ref a ∧ H a = some (.ins C dx fs) ∧ sp [.ref a, x] H (fun v H' => ∃ b, v = .bl b ∧ Q (.bl (!b)) H') C8.E0
theorem op_notInM (c : C8.Met X.prog X.w X.K X.mg X.base k C "__contains__" sp []) (hr : Room j X.A) (hk : k ≤ j) : OpR X (compareOp .NotIn) (rNotInM C sp) := by
  obtain ⟨f, fd, ps, ds, _, me, F, b, d⟩ := c.ex
  cases d
  intro pins s σ H x y v u Q I rx ry h
  obtain ⟨a, dx, fs, rfl, ha, h⟩ := h
  cases ry
  obtain ⟨ox, od, J⟩ := met_at I ha
  obtain ⟨m, hF⟩ := I.fr
  refine PySem.W.notIn_K hF I.ok.mod.kin J me.at_ me.fn (wpAny_mono (run_fn (vs := [.ref a, x]) F (hr.mono hk) b .nil C8.pass0 I (.cons rfl (.cons rx .nil)) h) (fun r s' hq => ?_) fun _ _ z => z)
  obtain ⟨z, H', I', rz, t, rfl, q⟩ := hq
  cases rz
  exact wpAny_truthy_bool ⟨.bl (!t), H', I', rfl, q⟩
/-- a value that no operator hands back for «not mine» -/
def told : V → Prop := fun v => ∀ u, RelV v u → u ≠ .notImplemented
theorem told_bl {b : Bool} : told (.bl b) := fun u r => by cases r; intro z; cases z
theorem told_ref {a : Addr} : told (.ref a) := fun u r => by cases r; intro z; cases z
theorem cmpBack_of {Q : Value → Shared → Prop} {u : Value} {s' : Shared} (h : u ≠ .notImplemented) (q : Q u s') : PySem.W.CmpBack Q u s' := by
  cases u <;> first | exact absurd rfl h | exact q
/-- a == b, a <= b .. of two instances of the class at C, by its own method -/
def r2M (C : Addr) (sp : Sp) : R2 := fun x y H Q => ∃ a b dx dy fs gs, x = .ref a ∧ y = .ref b ∧ H a = some (.ins C dx fs) ∧ H b = some (.ins C dy gs) ∧ sp [.ref a, .ref b] H (fun v H' => told v ∧ Q v H') C8.E0
theorem cmpM {op : CmpOp} (hc : ∀ v u, compareOp op v u = richCompare op v u) (c : C8.Met X.prog X.w X.K X.mg X.base k C (cmpInfo op).2.1 sp []) (hr : Room j X.A) (hk : k ≤ j) : OpR X (compareOp op) (r2M C sp) := by
  obtain ⟨f, fd, ps, ds, _, me, F, b, d⟩ := c.ex
  cases d
  intro pins s σ H x y v u Q I rx ry h
  obtain ⟨a, b', dx, dy, fs, gs, rfl, rfl, ha, hb, h⟩ := h
  cases rx
  cases ry
  obtain ⟨ox, od, J⟩ := met_at I ha
  obtain ⟨oy, oe, J'⟩ := met_at I hb
  obtain ⟨m, hF⟩ := I.fr
  rw [hc]
  refine PySem.W.cmp_K (tb := .ref C) hr.units0 hF I.ok.mod.kin J J'.type (by simp [PySem.W.notFirst]) me.at_ me.fn (wpAny_mono (run_fn (vs := [.ref a, .ref b']) F (hr.mono hk) b .nil C8.pass0 I (.cons rfl (.cons rfl .nil)) h) (fun r s' hq => ?_) fun _ _ z => z)
  obtain ⟨z, H', I', rz, t, q⟩ := hq
  exact cmpBack_of (t r rz) ⟨z, H', I', rz, q⟩
theorem op_eqM (c : C8.Met X.prog X.w X.K X.mg X.base k C "__eq__" sp []) (hr : Room j X.A) (hk : k ≤ j) : OpR X (compareOp .Eq) (r2M C sp) := cmpM (op := .Eq) (fun _ _ => rfl) c hr hk
theorem op_leM (c : C8.Met X.prog X.w X.K X.mg X.base k C "__le__" sp []) (hr : Room j X.A) (hk : k ≤ j) : OpR X (compareOp .LtE) (r2M C sp) := cmpM (op := .LtE) (fun _ _ => rfl) c hr hk
theorem binM {op : Operator} (hC : PySem.W.selfFirst X.K C = true) (c : C8.Met X.prog X.w X.K X.mg X.base k C (PySem.dunder op.info.2) sp []) (hr : Room j X.A) (hk : k ≤ j) : OpR X (binaryOp op) (r2M C sp) := by
  obtain ⟨f, fd, ps, ds, _, me, F, b, d⟩ := c.ex
  cases d
  intro pins s σ H x y v u Q I rx ry h
  obtain ⟨a, b', dx, dy, fs, gs, rfl, rfl, ha, hb, h⟩ := h
  cases rx
  cases ry
  obtain ⟨ox, od, J⟩ := met_at I ha
  obtain ⟨oy, oe, J'⟩ := met_at I hb
  obtain ⟨m, hF⟩ := I.fr
  refine PySem.W.binop_K hF I.ok.mod.kin J J'.type hC me.at_ me.fn (wpAny_mono (run_fn (vs := [.ref a, .ref b']) F (hr.mono hk) b .nil C8.pass0 I (.cons rfl (.cons rfl .nil)) h) (fun r s' hq => ?_) fun _ _ z => z)
  obtain ⟨z, H', I', rz, t, q⟩ := hq
  exact cmpBack_of (t r rz) ⟨z, H', I', rz, q⟩
theorem op_andM (hC : PySem.W.selfFirst X.K C = true) (c : C8.Met X.prog X.w X.K X.mg X.base k C "__and__" sp []) (hr : Room j X.A) (hk : k ≤ j) : OpR X (binaryOp .BitAnd) (r2M C sp) := binM (op := .BitAnd) hC c hr hk
theorem op_orM (hC : PySem.W.selfFirst X.K C = true) (c : C8.Met X.prog X.w X.K X.mg X.base k C "__or__" sp []) (hr : Room j X.A) (hk : k ≤ j) : OpR X (binaryOp .BitOr) (r2M C sp) := binM (op := .BitOr) hC c hr hk
theorem op_subM (hC : PySem.W.selfFirst X.K C = true) (c : C8.Met X.prog X.w X.K X.mg X.base k C "__sub__" sp []) (hr : Room j X.A) (hk : k ≤ j) : OpR X (binaryOp .Sub) (r2M C sp) := binM (op := .Sub) hC c hr hk
/-- o[i], by the class's own __getitem__ -/
def rIxM (C : Addr) (sp : Sp) : R2 := fun x y H Q => ∃ a dx fs, x = .ref a ∧ H a = some (.ins C dx fs) ∧ sp [.ref a, y] H Q C8.E0
def PlainIxT (b : Expr) : Prop := ∀ (x : Addr) (i : Value), subscripted b true (.ref x) i = runValue (.builtin "lifetime.subscript" ⟨[.ref x, i], []⟩)
theorem fnIn_of {K : PySem.W.Frag} {f : Addr} {oc : Value} {od : Option Addr} {fd : FuncData} {osl : Array (Option Value)} (h : K.lookup f = some ⟨oc, od, .func fd, osl⟩) : PySem.W.fnIn K f = true := by
  unfold PySem.W.fnIn
  rw [h]
variable {a b : Expr} {ta tb : TE} {pos : Pos}
theorem pe_ixM (c : C8.Met X.prog X.w X.K X.mg X.base k C "__getitem__" sp []) (hf : ∀ f, Meth X.K C "__getitem__" f → PySem.W.fnIn X.K f = true) (hr : Room (j + 1) X.A) (hk : k ≤ j) (ha : PE X a ta) (hb : PE X b tb) (hs : PlainIxT b) :
    PE X (.Subscript a b pos) (tOp (rIxM C sp) ta tb) := by
  obtain ⟨f, fd, ps, ds, _, me, F, bi, d⟩ := c.ex
  cases d
  refine ⟨fun pins s σ H Q I h => ?_⟩
  refine Subscript_ (binT ha hb I h fun v u s2 x y H2 I2 rx ry q => ?_)
  obtain ⟨p, dx, fs, rfl, hp, q⟩ := q
  cases rx
  obtain ⟨ox, od, J⟩ := met_at I2 hp
  obtain ⟨m, hF⟩ := I2.fr
  refine PySem.W.sub_K hF I2.ok.mod.kin J me.at_ (hf f me) me.fn ?_ (hs _ _)
  have r2 : Vals [V.ref p, y] [Value.ref p, u] := .cons rfl (.cons ry .nil)
  have hl : ([Value.ref p, u] ++ []).length = ps.length := by
    rw [List.append_nil, ← r2.length]
    exact F.len _ _ _ _ q
  refine wpAny_call (codeAny_mono (F.run X.A.in1 X.stack s2 H2 ⟨[.ref p, u], []⟩ ([.ref p, u] ++ []) [.ref p, y] Q C8.E0 (hr.in1.mono hk) I2.env0.in1 (bi s2 [.ref p, u] I2.kIn hl) (by simpa using r2) q) fun r s' hq => ?_)
  cases r with
  | error e => exact (C8.pass0 (X := X) (E := C8.E0) pins σ H2 s2 e s' I2 hq)
  | ok fl =>
    cases fl with
    | ret w => exact I2.after hq
    | next => exact False.elim hq
    | brk => exact False.elim hq
    | cont => exact False.elim hq
end
end Ow

/-! sorted(set(texts)) of a list, as one expression -/
namespace Tx
open PySem PySem.Spec PyProof.Rows L2
def txOf (e : Int × Value) : Str := match e.2 with
  | .str k _ => k
  | _ => Str.empty
def Txt (w : World) (e : Int × Value) : Prop := ∃ k tk, e.2 = Value.str k tk ∧ e.1 = hashStr w k
/-- the set of texts at a -/
def SetT (w : World) (h : Heap) (a : Addr) (S : Str → Bool) (n : Nat) : Prop :=
  ∃ (o : Obj) (es : Array (Int × Value)) (ep : Nat) (t : SetTable), h.get? a = some o ∧ o.ExactSet ∧ o.data = .set es ep t ∧ (∀ e ∈ es.toList, Txt w e) ∧ (es.toList.map txOf).Nodup ∧ (∀ k, S k = true ↔ k ∈ es.toList.map txOf) ∧
    es.size < scanBound ∧ t.fits es.size = true ∧ es.size = n ∧ Ris t.place.toList ∧ (w.params.followText "set-order" = true ∨ t.led = true)
section
variable {P : Program} {w : World} {h h' : Heap} {a : Addr} {S : Str → Bool} {n : Nat}
theorem SetT.at (x : SetT w h a S n) (k : ∀ o, h.get? a = some o → h'.get? a = some o) : SetT w h' a S n := by
  obtain ⟨o, es, ep, t, ho, z⟩ := x
  exact ⟨o, es, ep, t, k o ho, z⟩
theorem SetT.congr {S' : Str → Bool} (x : SetT w h a S n) (e : ∀ k, S' k = S k) : SetT w h a S' n := (funext e : S' = S) ▸ x
theorem txt_elems {l : List (Int × Value)} (g : ∀ e ∈ l, Txt w e) : ElemsOf (strKind P w) l := fun e he => by
  obtain ⟨k, tk, h1, h2⟩ := g e he
  exact ⟨⟨k, by rw [h1]; exact strKind_is P w k tk, h2⟩, by rw [h1] <;> rfl⟩
theorem txt_is {e : Int × Value} (g : Txt w e) (k : Str) : (strKind P w).is k e.2 = true ↔ txOf e = k := by
  obtain ⟨k0, tk, h1, _⟩ := g
  unfold txOf
  rw [h1]
  constructor
  · intro z
    exact (strKind P w).inj (.str k0 tk) k0 k (strKind_is P w k0 tk) z
  · intro z
    rw [← z]
    exact strKind_is P w k0 tk
theorem txt_mem {l : List (Int × Value)} (g : ∀ e ∈ l, Txt w e) (k : Str) : k ∈ l.map txOf ↔ ∃ e ∈ l, (strKind P w).is k e.2 = true := by
  rw [List.mem_map]
  exact ⟨fun ⟨e, he, q⟩ => ⟨e, he, (txt_is (g e he) k).2 q⟩, fun ⟨e, he, q⟩ => ⟨e, he, (txt_is (g e he) k).1 q⟩⟩
end
section
variable {P : Program} {w : World} {A : Around} {E : Value → Shared → Prop} {s : Shared} {a : Addr} {S : Str → Bool} {n : Nat}
theorem setT_tail {g : Bool → Sem Unit} (hg : ∀ (b : Bool) (s₁ : Shared) (Q' : Unit → Shared → Prop), Q' () s₁ → wpAny (model P w) A (g b) Q' E s₁)
    {o : Obj} {es : Array (Int × Value)} {ep : Nat} {t : SetTable} (ho : s.heap.get? a = some o) (hex : o.ExactSet) (hd : o.data = .set es ep t)
    {es1 : Array (Int × Value)} {t2 : SetTable} {S' : Str → Bool} (g1 : ∀ e ∈ es1.toList, Txt w e) (nd1 : (es1.toList.map txOf).Nodup) (m1 : ∀ k, S' k = true ↔ k ∈ es1.toList.map txOf)
    (hb1 : es1.size < scanBound) (hf2 : t2.fits es1.size = true) (hr : Ris t2.place.toList) (hl : w.params.followText "set-order" = true ∨ t2.led = true) {wasDummy : Bool} {R : Option Bool → Shared → Prop}
    (hR : ∀ h', Heap.SameBut a s.heap h' → SetT w h' a S' es1.size → R (some true) { s with heap := h' }) :
    wpAny (model P w) A (do
        storeSet a es1 t2
        if (!wasDummy && t2.tooFull) = true then do
            g (relayAll t2 es1 (SetTable.grown es1.size)).2.2
            storeSet a (relayAll t2 es1 (SetTable.grown es1.size)).1 (relayAll t2 es1 (SetTable.grown es1.size)).2.1
            pure (some true)
          else pure (some true)) R E s := by
  have ho1 := store_at (es' := es1) (t' := t2) ho hd
  have sb1 := Heap.SameBut.update s.heap a (Obj.putSet es1 t2)
  refine wpAny_bind (wpAny_storeSet_of ho hd ?_ (fits_of_scanBound hb1))
  split
  · have pm := relayAll_perm t2 es1 (SetTable.grown es1.size)
    have hf3 := relayAll_fits t2 es1 (SetTable.grown es1.size)
    have hr3 := relayAll_ris t2 es1 (SetTable.grown es1.size)
    have hl3 := relayAll_led t2 es1 (SetTable.grown es1.size)
    generalize relayAll t2 es1 (SetTable.grown es1.size) = Z at pm hf3 hr3 hl3 ⊢
    obtain ⟨es2, t3, gave⟩ := Z
    dsimp only at pm hf3 hr3 hl3 ⊢
    have e2 : es2.size = es1.size := by rw [← Array.length_toList, pm.length_eq, Array.length_toList]
    refine wpAny_bind (hg _ _ _ (wpAny_bind (wpAny_storeSet_of ho1 rfl ?_ (fits_of_scanBound (by rw [e2]; exact hb1)))))
    have ho2 := store_at (es' := es2) (t' := t3) ho1 rfl
    refine wpAny_pure (hR _ (sb1.trans (Heap.SameBut.update _ a _)) ⟨_, es2, _, t3, ho2, hex, rfl, fun e he => g1 e (pm.mem_iff.mp he), (pm.map txOf).nodup_iff.mpr nd1, fun k => (m1 k).trans (pm.map txOf).mem_iff.symm, by rw [e2]; exact hb1, hf3, e2, hr3, ?_⟩)
    rw [hl3]
    exact hl
  · exact wpAny_pure (hR _ sb1 ⟨_, es1, _, t2, ho1, hex, rfl, g1, nd1, m1, hb1, hf2, rfl, hr, hl⟩)
theorem setT_add {k : Str} {tk : Tok} {Q : Bool → Shared → Prop} (x : SetT w s.heap a S n) (room : n + 1 < scanBound)
    (hQ : ∀ h', Heap.SameBut a s.heap h' → SetT w h' a (fun j => S j || decide (j = k)) (if S k = true then n else n + 1) → Q (!S k) { s with heap := h' }) :
    wpAny (model P w) A (setAddHashed a (.str k tk) ((strKind P w).hash k)) Q E s := by
  obtain ⟨o, es, ep, t, ho, hex, hd, g, nd, hm, hb, hf, hn, hr, hl⟩ := x
  have hkey : (strKind P w).is k (.str k tk) = true := strKind_is P w k tk
  have hsc : (Value.str k tk).scannable = true := rfl
  have hel : ElemsOf (strKind P w) es.toList := txt_elems g
  unfold setAddHashed setAddHashedIn
  refine wpAny_holding (wpAny_bind (wpAny_setState_of ho hd hf ?_))
  dsimp only
  rw [byScan_of hsc hb hel]
  simp only [↓reduceIte]
  unfold setAddByScan
  refine wpAny_bind (wpAny_bind (wpAny_rule ?_))
  refine wpAny_bind (wpAny_setScan_of hkey ho hd hf hel ?_)
  cases hfi : List.findIdx? (fun e => (strKind P w).is k e.2) es.toList with
  | some j =>
    dsimp only
    obtain ⟨hj, pj, _⟩ := List.findIdx?_eq_some_iff_getElem.mp hfi
    have hSk : S k = true := (hm k).2 ((txt_mem (P := P) (w := w) g k).2 ⟨es.toList[j], List.getElem_mem hj, pj⟩)
    have q := hQ s.heap (Heap.SameBut.refl a s.heap) ⟨o, es, ep, t, ho, hex, hd, g, nd, fun i => by
      rw [Bool.or_eq_true, decide_eq_true_eq, ← hm i]
      exact ⟨fun z => z.elim id (fun e => e ▸ hSk), .inl⟩, hb, hf, by rw [if_pos hSk]; exact hn, hr, hl⟩
    rw [hSk] at q
    exact wpAny_pure (wpAny_pure q)
  | none =>
    dsimp only
    have hnk : k ∉ es.toList.map txOf := fun z => by
      obtain ⟨e, he, q⟩ := (txt_mem (P := P) (w := w) g k).1 z
      exact absurd q (by rw [List.findIdx?_eq_none_iff.mp hfi e he]; exact Bool.false_ne_true)
    have hSk : S k = false := Bool.eq_false_iff.mpr fun q => hnk ((hm k).1 q)
    have hgw : ∀ (b : Bool) {s₁ : Shared} {Q' : Unit → Shared → Prop}, Q' () s₁ → wpAny (model P w) A (match b with | true => rule "set.scan.the-table-gave-way" | false => pure ()) Q' E s₁ :=
      fun b s₁ Q' q => by cases b <;> first | exact wpAny_pure q | exact wpAny_rule q
    have pm := layNew_perm t es ((strKind P w).hash k) (.str k tk)
    have hf1 := layNew_fits t es ((strKind P w).hash k) (.str k tk)
    have hr1 := layNew_ris t es ((strKind P w).hash k) (.str k tk) hr
    have hl1 := layNew_led t es ((strKind P w).hash k) (.str k tk)
    generalize layNew t es ((strKind P w).hash k) (.str k tk) = Z at pm hf1 hr1 hl1 ⊢
    obtain ⟨es1, t1, wasDummy, gave⟩ := Z
    dsimp only at pm hf1 hr1 hl1 ⊢
    rw [Array.toList_push] at pm
    have pc : es1.toList.Perm (((strKind P w).hash k, Value.str k tk) :: es.toList) := pm.trans (List.perm_append_singleton _ _)
    have pk : (es1.toList.map txOf).Perm (k :: es.toList.map txOf) := pc.map txOf
    have g1 : ∀ e ∈ es1.toList, Txt w e := fun e he => (List.mem_cons.mp (pc.mem_iff.mp he)).elim (fun z => by rw [z]; exact ⟨k, tk, rfl, rfl⟩) (g e)
    have nd1 : (es1.toList.map txOf).Nodup := pk.nodup_iff.mpr (List.nodup_cons.mpr ⟨hnk, nd⟩)
    have m1 : ∀ i, (S i || decide (i = k)) = true ↔ i ∈ es1.toList.map txOf := fun i => by
      rw [Bool.or_eq_true, decide_eq_true_eq, hm i, pk.mem_iff, List.mem_cons]
      exact Or.comm
    have e1 : es1.size = n + 1 := by rw [← Array.length_toList, pc.length_eq, List.length_cons, Array.length_toList, hn]
    have hled : w.params.followText "set-order" = true ∨ t1.led = true := by rw [hl1]; exact hl
    have fin : ∀ h', Heap.SameBut a s.heap h' → SetT w h' a (fun j => S j || decide (j = k)) es1.size → Q true { s with heap := h' } := fun h' sb r => by
      have q := hQ h' sb
      rw [hSk] at q
      rw [e1] at r
      exact q r
    have hb1 : es1.size < scanBound := by rw [e1]; exact room
    refine wpAny_bind (hgw _ ?_)
    split
    · refine wpAny_bind ?_
      rw [hashByValue_scannable 8 hsc]
      refine wpAny_pure (setT_tail ?_ ho hex hd g1 nd1 m1 hb1 ?_ ?_ ?_ ?_)
      · intro b s₁ Q' q; cases b <;> first | exact wpAny_pure q | exact wpAny_rule q
      · first | (split <;> first | exact hf1 | exact SetTable.fits_plain_off hf1) | exact hf1
      · first | (split <;> exact hr1) | exact hr1
      · first | (split <;> exact hled) | exact hled
      · intro h' sb r; dsimp only; exact wpAny_pure (fin h' sb r)
    · refine wpAny_bind (wpAny_pure ?_)
      simp only [↓reduceIte]
      refine setT_tail ?_ ho hex hd g1 nd1 m1 hb1 hf1 hr1 hled ?_
      · intro b s₁ Q' q; cases b <;> first | exact wpAny_pure q | exact wpAny_rule q
      · intro h' sb r; dsimp only; exact wpAny_pure (fin h' sb r)
theorem setT_loop {I : Addr} {fp wr : List Addr} {G : Array GenState → Array GenState → Prop} {n : Nat} {Pv : Nat → Value → Prop} {St : Nat → Shared → Prop} {R : Result → Shared → Prop}
    (W : WalksS P w A.in1 I fp wr G n Pv St) (C : Addr) (hCf : C ∉ fp) (xs : List Str) (hn : n = xs.length) (hb : xs.length + 1 < scanBound) (hval : ∀ i v, Pv i v → ∃ k t, xs[i]? = some k ∧ v = .str k t) :
    ∀ (k i : Nat) (s : Shared), n - i = k → i ≤ n → St i s → (∃ c, c ≤ i ∧ SetT w s.heap C (fun j => decide (j ∈ xs.take i)) c) →
      (∀ s' c, Moved (C :: wr) G s s' → c ≤ n → SetT w s'.heap C (fun j => decide (j ∈ xs)) c → R (.ok (.ret .none)) s') →
      codeAny (model P w) A (.builtin "set.update.loop" ⟨[.ref C, .ref I], []⟩) R s := by
  have hCw : C ∉ wr := fun h => hCf (W.sub _ h)
  have hsub : ∀ b ∈ wr, b ∈ C :: wr := fun b hb => List.mem_cons_of_mem _ hb
  intro k
  induction k with
  | zero =>
    intro i s hk' hi hst ⟨c, hc, x⟩ hR
    obtain rfl : i = n := by omega
    refine codeAny_builtin F.entry_set_update_loop ?_
    rw [Around.under_plainId F.plain_set_update_loop _]
    show wpAny _ A.in1 (pyNext (.ref I) >>= _) _ _ s
    refine wpAny_bind (W.done s _ _ hst fun s' hm => ?_)
    rw [show xs.take i = xs from List.take_of_length_le (by omega)] at x
    exact wpAny_pure (hR s' c (hm.mono hsub) hc (x.at fun o e => hm.heap C o hCw e))
  | succ k ih =>
    intro i s hk' hi hst ⟨c, hc, x⟩ hR
    have hlt : i < n := by omega
    refine codeAny_builtin F.entry_set_update_loop ?_
    rw [Around.under_plainId F.plain_set_update_loop _]
    show wpAny _ A.in1 (pyNext (.ref I) >>= _) _ _ s
    refine wpAny_bind (W.item i s _ _ hlt hst fun v s' hP hst' hm => ?_)
    obtain ⟨z, t, hz, rfl⟩ := hval i v hP
    have x' : SetT w s'.heap C (fun j => decide (j ∈ xs.take i)) c := x.at fun o e => hm.heap C o hCw e
    show wpAny _ A.in1 (holding [Value.str z t] (setAdd C (.str z t)) >>= _) _ _ s'
    refine wpAny_bind (wpAny_holding ?_)
    unfold setAdd
    refine wpAny_holding (wpAny_bind ((strKind P w).pyHash (k := z) (strKind_is _ _ _ _) ?_))
    refine setT_add (s := { s' with toks := s'.toks + 1 }) x' (by omega) fun h' hsb x2 => ?_
    have x3 : SetT w h' C (fun j => decide (j ∈ xs.take (i + 1))) (if decide (z ∈ xs.take i) = true then c else c + 1) := x2.congr fun j => by
      rw [List.take_add_one, hz]
      simp [List.mem_append]
    have hc3 : (if decide (z ∈ xs.take i) = true then c else c + 1) ≤ i + 1 := by
      split <;> omega
    refine wpAny_pure ⟨plainId_quiet F.plain_set_update_loop _, ih (i + 1) _ (by omega) hlt (W.frame _ s' _ _ hst' (Nat.le_succ _) fun b hb o e => ?_) ⟨_, hc3, x3⟩ fun s'' c2 hm'' hc'' x'' => hR s'' c2 (Moved.trans W.gtrans ((hm.mono hsub).then_heap (Nat.le_succ _) fun b o hb e => ?_) hm'') hc'' x''⟩
    · rw [hsb.2 b (fun h : b = C => hCf (by rw [← h]; exact hb))]; exact e
    · rw [hsb.2 b (fun h : b = C => hb (by rw [h]; exact List.mem_cons_self))]; exact e
end
end Tx

namespace Tx
open PySem PySem.Spec PyProof.Rows L2
abbrev setNew (w : World) : Obj := { cls := .type "set", dict := none, data := .set #[] 0 (.fresh 0 0 (!w.params.followText "set-order")) }
theorem setT_fresh {w : World} {h : Heap} {a : Addr} {xs : List Str} (ho : h.get? a = some (setNew w)) : SetT w h a (fun j => decide (j ∈ xs.take 0)) 0 := by
  refine ⟨_, #[], 0, _, ho, ⟨rfl, rfl, rfl⟩, rfl, (fun e he => by simp at he), (by simp), (fun k => by simp), (by decide), (by rfl), rfl, List.Pairwise.nil, ?_⟩
  show _ ∨ (!w.params.followText "set-order") = true
  cases w.params.followText "set-order"
  · exact .inr rfl
  · exact .inl rfl
section
variable {P : Program} {w : World} {A : Around} {E : Value → Shared → Prop} {s : Shared}
theorem strs_get {us : List Value} {xs : List Str} (h : StrsAre us xs) {i : Nat} {v : Value} (e : us[i]? = some v) : ∃ k t, xs[i]? = some k ∧ v = .str k t := by
  induction h generalizing i with
  | nil => simp at e
  | cons y t hr ih =>
    cases i with
    | zero => exact ⟨y, t, rfl, (Option.some.inj e).symm⟩
    | succ i => exact ih e
set_option maxHeartbeats 3200000 in
theorem set_list {l : Addr} {items : Array Value} (xs : List Str) {Q : Value → Shared → Prop} (hh : A.handled = none) (hl : s.heap.IsList l items) (hit : StrsAre items.toList xs) (hb : xs.length + 1 < scanBound)
    (h : ∀ (h' : Heap) (tk c : Nat), SetT w h' s.heap.objs.size (fun j => decide (j ∈ xs)) c → c ≤ xs.length → (∀ b o, s.heap.get? b = some o → h'.get? b = some o) → Q (.ref s.heap.objs.size) { s with heap := h', toks := tk }) :
    wpAny (model P w) A (call (.type "set") [.ref l]) Q E s := by
  have hisz : items.size = xs.length := by
    rw [← Array.length_toList]
    exact StrsAre.length hit
  obtain ⟨c, tl, hmro⟩ := F.called_set.mro
  have hmade := F.called_set.made
  have hsub := F.called_set.sub
  refine wpAny_call (codeAny_of_tree ?_)
  show wpAny _ _ (callAny (.type "set") _) _ _ _
  refine wpAny_pure ⟨Code.quiet_builtin _ (by decide +kernel), codeAny_builtin F.entry_type_call ?_⟩
  rw [Around.under_plain (weight_type_call_type "set" [.ref l] []) rfl]
  have h1 := F.called_set.notType
  have h2 := F.called_set.canCreate
  have hct := F.typeCall_set_1 (.ref l)
  repeat (any_goals (first | assumption | wp_step))
  refine codeAny_mono (code_set_led1 (.ref l) (E := E) (Q₁ := fun obj s₁ => obj = .ref s.heap.objs.size ∧ s₁ = { s with heap := s.heap.push (setNew w) }) ⟨rfl, rfl⟩) fun r s₁ hr => ?_
  cases r with
  | error e => exact hr
  | ok fl =>
    cases fl with
    | ret obj =>
      obtain ⟨rfl, rfl⟩ := hr
      have hS : (s.heap.push (setNew w)).get? s.heap.objs.size = some (setNew w) := Heap.get?_push_size _ rfl
      have hT : Shared.TypeIs { s with heap := s.heap.push (setNew w) } (.ref s.heap.objs.size) "set" := ⟨_, hS, rfl⟩
      have hli := F.called_set.init.lookup
      have hbi := F.called_set.init.bind (.ref s.heap.objs.size)
      repeat (any_goals (first | assumption | wp_step))
      refine codeAny_mono (codeAny_call_builtin (R := wants (fun r s₂ => r = .none ∧ ∃ h' tk c, s₂ = { s with heap := h', toks := tk } ∧ SetT w h' s.heap.objs.size (fun j => decide (j ∈ xs)) c ∧ c ≤ xs.length ∧
          (∀ b o, s.heap.get? b = some o → h'.get? b = some o)) E) F.called_set.init.plain F.entry_set_init (check_set_init_1 hT ?_)) fun r₂ s₂ hr₂ => ?_
      · obtain ⟨ol, hol, hcl, nl, hdl⟩ := hl
        obtain ⟨ocls, odict, odata, oslots⟩ := ol
        simp only at hcl hdl
        subst hcl; subst hdl
        have hol' : (s.heap.push (setNew w)).get? l = some { cls := .type "list", dict := odict, data := .seq items nl, slots := oslots } := Heap.get?_push_of_some _ hol
        have hsls := F.sub_list_set
        have hslf := F.sub_list_frozenset
        have hne : (Value.type "list" == Value.type "dict") = false := by decide
        have hl1 : (s.heap.push (setNew w)).IsList l items := ⟨_, hol', rfl, nl, rfl⟩
        unfold Builtin.«set.__init__» noKeywords Builtin.Frozenset.updateFrom
        generalize hPI : pyIter = PI
        wp_walk
        subst hPI
        refine wpAny_pyIter_list hl1 (wpAny_bind (wpAny_runValue ?_))
        have hlS : l < s.heap.objs.size := Heap.lt_size hol
        have hh3 : A.in1.in1.in1.handled = none := by simp [hh]
        have hneI : l ≠ (s.heap.push (setNew w)).objs.size := by
          rw [Heap.size_push]; exact Nat.ne_of_lt (Nat.lt_succ_of_lt hlS)
        have hSf : s.heap.objs.size ∉ [(s.heap.push (setNew w)).objs.size, l] := by
          rw [Heap.size_push]; simp only [List.mem_cons, List.mem_singleton, List.not_mem_nil, or_false, not_or]
          exact ⟨Nat.ne_of_lt (Nat.lt_succ_self _), Nat.ne_of_gt hlS⟩
        have hval : ∀ (i : Nat) (v : Value), items[i]? = some v → ∃ k t, xs[i]? = some k ∧ v = .str k t := fun i v hv => strs_get hit (by rw [Array.getElem?_toList]; exact hv)
        refine setT_loop ((Walks.list hh3 _ l hneI items).toS) s.heap.objs.size
          hSf xs hisz hb hval (items.size - 0) 0 _ (by omega) (Nat.zero_le _)
          ⟨⟨_, Heap.get?_push_size _ rfl, rfl, rfl⟩, (hl1.push _)⟩ ?hS0 ?hR
        case hS0 => exact ⟨0, Nat.le_refl 0, setT_fresh (Heap.get?_push_of_some _ hS)⟩
        case hR =>
          intro s' c' hm hc' hS'
          obtain ⟨h', g2, d', tk', os'⟩ := s'
          have eg : g2 = s.gens := hm.gens
          have ed : d' = s.drawn := hm.drawn
          have eo : os' = s.os := hm.os
          subst eg; subst ed; subst eo
          show wpAny _ _ _ _ _ _
          refine wpAny_pure ?_
          show wpAny _ _ (ret Value.none) _ _ _
          rw [hisz] at hc'
          refine wpAny_pure ⟨rfl, h', tk', c', rfl, hS', hc', fun b o e => hm.heap b o ?_ (Heap.get?_push_of_some _ (Heap.get?_push_of_some _ e))⟩
          have hb0 : b < s.heap.objs.size := Heap.lt_size e
          rw [Heap.size_push]
          simp only [List.mem_cons, List.mem_singleton, List.not_mem_nil, or_false, not_or]
          exact ⟨Nat.ne_of_lt hb0, Nat.ne_of_lt (Nat.lt_succ_of_lt hb0)⟩
      · cases r₂ with
        | error e => exact hr₂
        | ok fl₂ =>
          cases fl₂ with
          | ret r =>
            obtain ⟨rfl, h', tk, c', rfl, hS', hc', hk'⟩ := hr₂
            repeat (any_goals (first | assumption | wp_step))
            exact h _ _ _ hS' hc' hk'
          | _ => exact hr₂.elim
    | _ => exact hr.elim
end
end Tx

namespace Tx
open PySem PySem.Spec PyProof.Rows L2
section
variable {P : Program} {w : World} {A : Around} {E : Value → Shared → Prop} {s : Shared}
theorem strs_of : ∀ (l : List Value), (∀ v ∈ l, ∃ k tk, v = Value.str k tk) → ∃ xs, StrsAre l xs
  | [], _ => ⟨[], .nil⟩
  | v :: l, h => by
    obtain ⟨k, tk, rfl⟩ := h v List.mem_cons_self
    obtain ⟨xs, h1⟩ := strs_of l fun u hu => h u (List.mem_cons_of_mem _ hu)
    exact ⟨k :: xs, .cons k tk h1⟩
theorem strs_map {l : List Value} {xs : List Str} (h : StrsAre l xs) : xs = l.map fun v => txOf (0, v) := by
  induction h with
  | nil => rfl
  | cons y t hr ih => rw [List.map_cons, ← ih]; rfl
/-- sorted(a set of texts) -/
theorem sorted_set {a : Addr} {S : Str → Bool} {n : Nat} {Q : Value → Shared → Prop} (x : SetT w s.heap a S n) (hh : A.handled = none) (h64 : n < 64)
    (hQ : ∀ s' p (out : Array Value) (c : Nat) (ys : List Str), (∀ b o, s.heap.get? b = some o → s'.heap.get? b = some o) → s'.gens = s.gens → s'.os = s.os → s.heap.objs.size ≤ p →
      s'.heap.get? p = some (seqObj "list" out c) → StrsAre out.toList ys → sortedS ys = true → ys.Nodup → (∀ k, k ∈ ys ↔ S k = true) → ys.length = n → Q (.ref p) s') :
    wpAny (model P w) A (call (.builtin "sorted") [.ref a]) Q E s := by
  obtain ⟨o, es, ep, t, ho, hex, hd, g, nd, hm, hb, hf, hn, hr, hl⟩ := x
  refine Calls.call_function_entry kind_sorted plain_sorted entry_sorted (args_sorted1 _) ?_
  unfold Builtin.«sorted»
  refine wpAny_bind (m := checkCount "sorted" 1 1 _) (wpAny_pure ?_)
  refine wpAny_bind (collect_set (A := A.in1) hh ⟨o, ho, hex.1, hd⟩ hf hb hr hl fun s1 vs k1 hz g1 o1 pm => ?_)
  have hvl : vs.length = n := by rw [pm.length_eq, List.length_map, Array.length_toList]; exact hn
  obtain ⟨xs, hx⟩ := strs_of vs fun v hv => by
    obtain ⟨e, he, q⟩ := List.mem_map.mp (pm.mem_iff.mp hv)
    obtain ⟨k, tk, h1, _⟩ := g e he
    exact ⟨k, tk, by rw [← q]; exact h1⟩
  have px : xs.Perm (es.toList.map txOf) := by
    have q := pm.map fun v => txOf (0, v)
    rw [List.map_map, ← strs_map hx] at q
    exact q
  refine wpAny_bind (wpAny_newList ?_ (by rw [hvl, sizeLine_eq]; omega))
  have hoL : (s1.heap.push (seqObj "list" vs.toArray 0)).get? s1.heap.objs.size = some (seqObj "list" vs.toArray 0) := Heap.get?_push_size _ rfl
  refine wpAny_bind (wpAny_holding (wpAny_call_entry slot_list_sort ⟨_, hoL, rfl⟩ entry_list_sort
    (list_sort_treeK strKind_oneLt hoL hx.keysOf (fun v₁ v₂ rest e => keyKind_strs (by rw [← e]; exact hx)) (by rw [hvl]; exact h64) fun st' hp hs => ⟨_, rfl, ?_⟩) (args_list_sort _)))
  obtain ⟨ys, a1, a2, a3⟩ := sorted_out_str hx hp hs
  obtain ⟨c, hc⟩ := sortedHeap_at (vs := vs) (out := (arrOf st').map (·.2)) hoL
  have pn : ys.Perm (es.toList.map txOf) := a2.trans px
  refine wpAny_pure ⟨_, rfl, hQ _ s1.heap.objs.size _ c ys (fun b u e => ?_) g1 o1 hz hc a1 a3 (pn.nodup_iff.mpr nd) (fun k => by rw [pn.mem_iff, ← hm k]) ?_⟩
  · have q := k1 b u e
    have hlt := Heap.lt_size q
    show (sortedHeap (s1.heap.push (seqObj "list" vs.toArray 0)) s1.heap.objs.size vs _).get? b = some u
    rw [sortedHeap_old (Nat.ne_of_lt hlt) (by rw [size_push']; exact Nat.lt_succ_of_lt hlt)]
    exact Heap.get?_push_of_some _ q
  · rw [pn.length_eq, List.length_map, Array.length_toList]; exact hn
end
end Tx

namespace Tx
open PySem PySem.Spec PyProof.Rows L2
section
variable {X : Cx}
def tSortSet (K : PySem.W.Frag) (ta : TE) : TE := fun σ H Q => ta σ H fun x H1 => ∃ (l : Addr) (xs : List Str), x = .ref l ∧ SqL K H1 l (xs.map V.str) ∧ xs.length < 64 ∧
  ∀ (ys : List Str) (p : Addr), sortedS ys = true → ys.Nodup → (∀ k, k ∈ ys ↔ k ∈ xs) → H1 p = none → Q (.ref p) (upd H1 p (.lst (ys.map V.str)))
theorem pe_sortSet {a : Expr} {ta : TE} {p p2 q pos : Pos} (hm : X.mg "sorted" = none) (hm2 : X.mg "set" = none) (ha : PE X a ta) (hg : Gl X "sorted" := by rfl) (hg2 : Gl X "set" := by rfl) (hc : X.calm = true := by rfl)
    (na : starEach [a] X.env = (false, eval a X.env) :: starEach [] X.env := by rfl) : PE X (.Call (.Name "sorted" p) [.Call (.Name "set" p2) [a] [] q] [] pos) (tSortSet X.K ta) := by
  refine ⟨fun pins s σ H Q I h => ?_⟩
  refine Call_ (ld_blt I hg hm boot_sorted ?_)
  refine PyProof.Rows.callWith_builtin1 (PyProof.Rows.args_cons ?_ rfl) rfl rfl
  refine Call_ (ld_blt I hg2 hm2 boot_set ?_)
  refine PyProof.Rows.callWith_type1 (PyProof.Rows.args_cons (thn (ha.run pins s σ H _ I h) fun v s1 ⟨x, H1, I1, r1, q1⟩ => PyProof.Rows.args_nil ?_) na) na rfl
  obtain ⟨l, xs, rfl, hq, hl, q1⟩ := q1
  cases r1
  obtain ⟨its, rv, pt, hz⟩ := I1.list hq
  have hd := I1.ok.hd hc
  refine set_list xs hd (show s1.heap.IsList l its.toArray from pt.isList) rv.strs (by unfold scanBound; omega) fun h' tk c R1 hcn k => ?_
  refine PyProof.Rows.args_nil ?_
  have I2 : Inv X pins σ H1 { s1 with heap := h', toks := tk } := I1.kept fun b o e => k b o e
  have R2 : SetT X.w ({ s1 with heap := h', toks := tk } : Shared).heap s1.heap.objs.size (fun j => decide (j ∈ xs)) c := R1
  generalize ({ s1 with heap := h', toks := tk } : Shared) = s2 at I2 R2 ⊢
  refine sorted_set R2 hd (by omega) fun s' p out c ys k2 g o hp hg hi hs hnd hm hl2 => ?_
  have hlen : (ys.map V.str).length ≤ sizeLine := by rw [List.length_map, hl2, sizeLine_eq]; omega
  have hn : H1 p = none := I2.hok.fresh hp
  have J : Inv X pins σ (upd H1 p (.lst (ys.map V.str))) { s2 with heap := s'.heap, gens := s'.gens, drawn := s'.drawn, toks := s'.toks } :=
    I2.call (ch := []) (Un.laid k2 hp hn) (I2.hok.laid k2 hp ⟨hlen, out.toList, c, vals_of_strs hi, hg⟩) (by rw [g]; exact I2.bare) (fun _ z => nomatch z)
  have e : s' = { s2 with heap := s'.heap, gens := s'.gens, drawn := s'.drawn, toks := s'.toks } := by
    cases s'
    cases s2
    cases o
    rfl
  rw [e]
  exact ⟨.ref p, _, J, rfl, q1 ys p hs hnd (fun k => by rw [hm k, decide_eq_true_eq]) hn⟩
end
/-! two sorted lists of the same texts -/
def Le (a b : Str) : Prop := ltCps b.cps.toList a.cps.toList = false
theorem le_iff {a b : Str} : Le a b ↔ a.cps.toList ≤ b.cps.toList := by
  unfold Le
  rw [ltCps_eq, decide_eq_false_iff_not]
  exact Iff.rfl
theorem pw_of : ∀ (p : Str) (l : List Str), risingS p l = true → (p :: l).Pairwise Le
  | p, [], _ => List.pairwise_singleton _ _
  | p, x :: r, h => by
    have h' : (!ltCps x.cps.toList p.cps.toList && risingS x r) = true := h
    rw [Bool.and_eq_true] at h'
    have ih := pw_of x r h'.2
    have h1 : Le p x := by
      unfold Le
      cases q : ltCps x.cps.toList p.cps.toList with
      | false => rfl
      | true => rw [q] at h'; cases h'.1
    refine List.pairwise_cons.mpr ⟨fun y hy => ?_, ih⟩
    rcases List.mem_cons.mp hy with e | e
    · rw [e]
      exact h1
    · exact le_iff.mpr (List.le_trans (le_iff.mp h1) (le_iff.mp ((List.pairwise_cons.mp ih).1 y e)))
theorem pw_sorted : ∀ {l : List Str}, sortedS l = true → l.Pairwise Le
  | [], _ => List.Pairwise.nil
  | x :: r, h => pw_of x r h
theorem le_anti {a b : Str} (h1 : Le a b) (h2 : Le b a) : a = b := by
  have e := List.le_antisymm (le_iff.mp h1) (le_iff.mp h2)
  cases a
  cases b
  simp only [Str.mk.injEq]
  exact Array.toList_inj.mp e
theorem same_sorted : ∀ {xs ys : List Str}, xs.Pairwise Le → ys.Pairwise Le → xs.Nodup → ys.Nodup → (∀ k, k ∈ xs ↔ k ∈ ys) → xs = ys
  | [], [], _, _, _, _, _ => rfl
  | [], y :: ys, _, _, _, _, h => absurd ((h y).mpr List.mem_cons_self) (by simp)
  | x :: xs, [], _, _, _, _, h => absurd ((h x).mp List.mem_cons_self) (by simp)
  | x :: xs, y :: ys, p, q, np, nq, h => by
    have p' := List.pairwise_cons.mp p
    have q' := List.pairwise_cons.mp q
    have np' := List.nodup_cons.mp np
    have nq' := List.nodup_cons.mp nq
    have e : x = y := by
      rcases List.mem_cons.mp ((h x).mp List.mem_cons_self) with e | e
      · exact e
      · rcases List.mem_cons.mp ((h y).mpr List.mem_cons_self) with e2 | e2
        · exact e2.symm
        · exact le_anti (p'.1 y e2) (q'.1 x e)
    subst e
    rw [same_sorted p'.2 q'.2 np'.2 nq'.2 fun z => ?_]
    constructor
    · intro hz
      exact (List.mem_cons.mp ((h z).mp (List.mem_cons_of_mem _ hz))).resolve_left fun e => np'.1 (e ▸ hz)
    · intro hz
      exact (List.mem_cons.mp ((h z).mpr (List.mem_cons_of_mem _ hz))).resolve_left fun e => nq'.1 (e ▸ hz)
end Tx

/-! len(set(texts)) of a tuple -/
namespace Tx
open PySem PySem.Spec PyProof.Rows L2
section
variable {P : Program} {w : World} {A : Around} {E : Value → Shared → Prop} {s : Shared}
set_option maxHeartbeats 3200000 in
theorem set_tupS {l : Addr} {items : Array Value} (xs : List Str) {Q : Value → Shared → Prop} (hh : A.handled = none) (hl : s.heap.IsTuple l items) (hit : StrsAre items.toList xs) (hb : xs.length + 1 < scanBound)
    (h : ∀ (h' : Heap) (tk c : Nat), SetT w h' s.heap.objs.size (fun j => decide (j ∈ xs)) c → c ≤ xs.length → (∀ b o, s.heap.get? b = some o → h'.get? b = some o) → Q (.ref s.heap.objs.size) { s with heap := h', toks := tk }) :
    wpAny (model P w) A (call (.type "set") [.ref l]) Q E s := by
  have hisz : items.size = xs.length := by
    rw [← Array.length_toList]
    exact StrsAre.length hit
  obtain ⟨c, tl, hmro⟩ := F.called_set.mro
  have hmade := F.called_set.made
  have hsub := F.called_set.sub
  refine wpAny_call (codeAny_of_tree ?_)
  show wpAny _ _ (callAny (.type "set") _) _ _ _
  refine wpAny_pure ⟨Code.quiet_builtin _ (by decide +kernel), codeAny_builtin F.entry_type_call ?_⟩
  rw [Around.under_plain (weight_type_call_type "set" [.ref l] []) rfl]
  have h1 := F.called_set.notType
  have h2 := F.called_set.canCreate
  have hct := F.typeCall_set_1 (.ref l)
  repeat (any_goals (first | assumption | wp_step))
  refine codeAny_mono (code_set_led1 (.ref l) (E := E) (Q₁ := fun obj s₁ => obj = .ref s.heap.objs.size ∧ s₁ = { s with heap := s.heap.push (setNew w) }) ⟨rfl, rfl⟩) fun r s₁ hr => ?_
  cases r with
  | error e => exact hr
  | ok fl =>
    cases fl with
    | ret obj =>
      obtain ⟨rfl, rfl⟩ := hr
      have hS : (s.heap.push (setNew w)).get? s.heap.objs.size = some (setNew w) := Heap.get?_push_size _ rfl
      have hT : Shared.TypeIs { s with heap := s.heap.push (setNew w) } (.ref s.heap.objs.size) "set" := ⟨_, hS, rfl⟩
      have hli := F.called_set.init.lookup
      have hbi := F.called_set.init.bind (.ref s.heap.objs.size)
      repeat (any_goals (first | assumption | wp_step))
      refine codeAny_mono (codeAny_call_builtin (R := wants (fun r s₂ => r = .none ∧ ∃ h' tk c, s₂ = { s with heap := h', toks := tk } ∧ SetT w h' s.heap.objs.size (fun j => decide (j ∈ xs)) c ∧ c ≤ xs.length ∧
          (∀ b o, s.heap.get? b = some o → h'.get? b = some o)) E) F.called_set.init.plain F.entry_set_init (check_set_init_1 hT ?_)) fun r₂ s₂ hr₂ => ?_
      · obtain ⟨ol, hol, hcl, nl, hdl⟩ := hl
        obtain ⟨ocls, odict, odata, oslots⟩ := ol
        simp only at hcl hdl
        subst hcl; subst hdl
        have hol' : (s.heap.push (setNew w)).get? l = some { cls := .type "tuple", dict := odict, data := .seq items nl, slots := oslots } := Heap.get?_push_of_some _ hol
        have hsls := F.sub_tuple_set
        have hslf := F.sub_tuple_frozenset
        have hne : (Value.type "tuple" == Value.type "dict") = false := by decide
        have hl1 : (s.heap.push (setNew w)).IsTuple l items := ⟨_, hol', rfl, nl, rfl⟩
        unfold Builtin.«set.__init__» noKeywords Builtin.Frozenset.updateFrom
        generalize hPI : pyIter = PI
        wp_walk
        subst hPI
        refine wpAny_pyIter_tuple hl1 ?_
        refine wpAny_bind (wpAny_runValue ?_)
        have hlS : l < s.heap.objs.size := Heap.lt_size hol
        have hh3 : A.in1.in1.in1.handled = none := by simp [hh]
        have hneI : l ≠ (s.heap.push (setNew w)).objs.size := by
          rw [Heap.size_push]; exact Nat.ne_of_lt (Nat.lt_succ_of_lt hlS)
        have hSf : s.heap.objs.size ∉ [(s.heap.push (setNew w)).objs.size, l] := by
          rw [Heap.size_push]; simp only [List.mem_cons, List.mem_singleton, List.not_mem_nil, or_false, not_or]
          exact ⟨Nat.ne_of_lt (Nat.lt_succ_self _), Nat.ne_of_gt hlS⟩
        have hval : ∀ (i : Nat) (v : Value), items[i]? = some v → ∃ k t, xs[i]? = some k ∧ v = .str k t := fun i v hv => strs_get hit (by rw [Array.getElem?_toList]; exact hv)
        refine setT_loop ((Walks.tuple hh3 _ l hneI items).toS) s.heap.objs.size
          hSf xs hisz hb hval (items.size - 0) 0 _ (by omega) (Nat.zero_le _)
          ⟨⟨_, Heap.get?_push_size _ rfl, rfl, rfl⟩, (hl1.push _)⟩ ?hS0 ?hR
        case hS0 => exact ⟨0, Nat.le_refl 0, setT_fresh (Heap.get?_push_of_some _ hS)⟩
        case hR =>
          intro s' c' hm hc' hS'
          obtain ⟨h', g2, d', tk', os'⟩ := s'
          have eg : g2 = s.gens := hm.gens
          have ed : d' = s.drawn := hm.drawn
          have eo : os' = s.os := hm.os
          subst eg; subst ed; subst eo
          show wpAny _ _ _ _ _ _
          refine wpAny_pure ?_
          show wpAny _ _ (ret Value.none) _ _ _
          rw [hisz] at hc'
          refine wpAny_pure ⟨rfl, h', tk', c', rfl, hS', hc', fun b o e => hm.heap b o ?_ (Heap.get?_push_of_some _ (Heap.get?_push_of_some _ e))⟩
          have hb0 : b < s.heap.objs.size := Heap.lt_size e
          rw [Heap.size_push]
          simp only [List.mem_cons, List.mem_singleton, List.not_mem_nil, or_false, not_or]
          exact ⟨Nat.ne_of_lt hb0, Nat.ne_of_lt (Nat.lt_succ_of_lt hb0)⟩
      · cases r₂ with
        | error e => exact hr₂
        | ok fl₂ =>
          cases fl₂ with
          | ret r =>
            obtain ⟨rfl, h', tk, c', rfl, hS', hc', hk'⟩ := hr₂
            repeat (any_goals (first | assumption | wp_step))
            exact h _ _ _ hS' hc' hk'
          | _ => exact hr₂.elim
    | _ => exact hr.elim
end
section
variable {X : Cx}
def tLenSetX (K : PySem.W.Frag) (ta : TE) : TE := fun σ H Q => ta σ H fun x H1 => ∃ (l : Addr) (xs : List Str), x = .ref l ∧ SqT K H1 l (xs.map V.str) ∧ xs.length ≤ 1000 ∧
  ∀ out : List Str, out.Nodup → (∀ k, k ∈ out ↔ k ∈ xs) → Q (.int (out.length : Nat)) H1
theorem pe_lenSetX {a : Expr} {ta : TE} {p p2 q pos : Pos} (hm : X.mg "len" = none) (hm2 : X.mg "set" = none) (ha : PE X a ta) (hg : Gl X "len" := by rfl) (hg2 : Gl X "set" := by rfl) (hc : X.calm = true := by rfl)
    (na : starEach [a] X.env = (false, eval a X.env) :: starEach [] X.env := by rfl) : PE X (.Call (.Name "len" p) [.Call (.Name "set" p2) [a] [] q] [] pos) (tLenSetX X.K ta) := by
  refine ⟨fun pins s σ H Q I h => ?_⟩
  refine Call_ (ld_blt I hg hm boot_len ?_)
  refine PyProof.Rows.callWith_builtin1 (PyProof.Rows.args_cons ?_ rfl) rfl rfl
  refine Call_ (ld_blt I hg2 hm2 boot_set ?_)
  refine PyProof.Rows.callWith_type1 (PyProof.Rows.args_cons (thn (ha.run pins s σ H _ I h) fun v s1 ⟨x, H1, I1, r1, q1⟩ => PyProof.Rows.args_nil ?_) na) na rfl
  obtain ⟨l, xs, rfl, hq, hl, q1⟩ := q1
  cases r1
  obtain ⟨its, rv, pt, hz⟩ := I1.tuple hq
  have hd := I1.ok.hd hc
  refine set_tupS xs hd (show s1.heap.IsTuple l its.toArray from pt) rv.strs (by unfold scanBound; omega) fun h' tk c R1 hcn k => ?_
  refine PyProof.Rows.args_nil ?_
  obtain ⟨o, es, ep, t, ho, hex, hdt, g, nd, hm2, hb, hf, hn, _, _⟩ := R1
  have I2 : Inv X pins σ H1 { s1 with heap := h', toks := tk } := I1.kept fun b o e => k b o e
  have hlen : es.size = (es.toList.map txOf).length := by rw [List.length_map, Array.length_toList]
  refine call_len_set ho hex hdt hf (by rw [hn]; omega) ⟨.int ((es.toList.map txOf).length : Nat), H1, I2.tok _, ⟨_, by rw [← hlen]⟩, q1 _ nd fun j => ?_⟩
  rw [← hm2 j, decide_eq_true_eq]
end
end Tx

/-! zip of two sources of any kind; here: a tuple and a list -/
namespace Zm
open PySem PySem.Spec PyProof.Rows L2 RZ
/-- an iterator at it over what stands at l: how it goes on, how it ends -/
structure Src (prog : Program) (w : World) (it l : Addr) (xs : Array Value) (St : Heap → Nat → Prop) : Prop where
  item : ∀ {A : Around} {E : Value → Shared → Prop} {s : Shared} {k : Nat} {x : Value} {Q : Value → Shared → Prop}, St s.heap k → xs[k]? = some x → (∀ h', St h' (k + 1) → Heap.SameBut it s.heap h' → Q x { s with heap := h' }) →
    wpAny (model prog w) A (Builtin.SmallTypes.nextOf (.ref it)) Q E s
  fin : ∀ {A : Around} {E : Value → Shared → Prop} {s : Shared} {k : Nat} {Q : Value → Shared → Prop}, A.handled = none → St s.heap k → xs[k]? = none → (∀ h' e, Heap.ExtBut it s.heap h' → (∃ o, h'.get? e = some o ∧ o.cls = .type "StopIteration") → E (.ref e) { s with heap := h' }) →
    wpAny (model prog w) A (Builtin.SmallTypes.nextOf (.ref it)) Q E s
  keep : ∀ {h h' : Heap} {k : Nat}, St h k → (∀ o, h.get? it = some o → h'.get? it = some o) → (∀ o, h.get? l = some o → h'.get? l = some o) → St h' k
abbrev StT (it l : Addr) (xs : Array Value) : Heap → Nat → Prop := fun h k => h.IsTupleIter it l k ∧ h.IsTuple l xs
abbrev StL (it l : Addr) (xs : Array Value) : Heap → Nat → Prop := fun h k => h.IsListIter it l k ∧ h.IsList l xs
section
variable {prog : Program} {w : World}
theorem src_tup {it l : Addr} {xs : Array Value} (n : l ≠ it) : Src prog w it l xs (StT it l xs) where
  item := fun st hx q => nextOf_tuple_item st.1 st.2 hx fun h' a sb => q h' ⟨a, st.2.extBut sb.extBut n⟩ sb
  fin := fun hh st hx q => nextOf_tuple_end hh st.1 st.2 hx q
  keep := fun st k1 k2 => ⟨st.1.at k1, by
    obtain ⟨o, ho, r⟩ := st.2
    exact ⟨o, k2 o ho, r⟩⟩
theorem src_lst {it l : Addr} {xs : Array Value} (n : l ≠ it) : Src prog w it l xs (StL it l xs) where
  item := fun st hx q => wpAny_nextOf_list_item st.1 st.2 hx fun h' a sb => q h' ⟨a, st.2.extBut sb.extBut n⟩ sb
  fin := fun hh st hx q => wpAny_nextOf_list_end hh st.1 st.2 hx q
  keep := fun st k1 k2 => ⟨st.1.at k1, by
    obtain ⟨o, ho, r⟩ := st.2
    exact ⟨o, k2 o ho, r⟩⟩
theorem Src.ext {it l b : Addr} {xs : Array Value} {St : Heap → Nat → Prop} (S : Src prog w it l xs St) {h h' : Heap} {k : Nat} (st : St h k) (e : Heap.ExtBut b h h') (n1 : it ≠ b) (n2 : l ≠ b) : St h' k :=
  S.keep st (fun o q => e _ _ n1 q) fun o q => e _ _ n2 q
variable {A : Around} {E : Value → Shared → Prop} {s : Shared} {z TI TO i1 i2 l1 l2 : Addr} {k1 k2 : Nat} {xs ys : Array Value} {x y a b : Value} {S1 S2 : Heap → Nat → Prop}
theorem next_item {Q : Value → Shared → Prop} (D : ZipApart z TI TO i1 i2 l1 l2) (F1 : Src prog w i1 l1 xs S1) (F2 : Src prog w i2 l2 ys S2)
    (hz : IsZip s.heap z TI TO .none) (hTI : IsPair s.heap TI (.ref i1) (.ref i2)) (hTO : IsPair s.heap TO a b) (h1 : S1 s.heap k1) (h2 : S2 s.heap k2) (hx : xs[k1]? = some x) (hy : ys[k2]? = some y)
    (hQ : ∀ h', IsZip h' z TI TO (rawInt s.heap.objs.size) → IsPair h' TO x y → S1 h' (k1 + 1) → S2 h' (k2 + 1) → IsPair h' s.heap.objs.size x y → h'.objs.size = s.heap.objs.size + 1 →
      (∀ c o, c ≠ z → c ≠ TO → c ≠ i1 → c ≠ i2 → s.heap.get? c = some o → h'.get? c = some o) → Q (.ref s.heap.objs.size) { s with heap := h' }) :
    wpAny (model prog w) A (Builtin.«zip.__next__» ⟨[.ref z], []⟩) (fun fin s' => ∃ v, fin = .done (.ret v) ∧ Q v s') E s := by
  show wpAny _ _ (field (.ref z) 2 >>= _) _ _ _
  refine wpAny_bind (wpAny_field hz rfl (x := .bool false) rfl ?_)
  show wpAny _ _ (field (.ref z) 3 >>= _) _ _ _
  refine wpAny_bind (wpAny_field hz rfl (x := .ref TI) rfl (wpAny_bind (wpAny_seqItems hTI rfl ?_)))
  show wpAny _ _ (Builtin.SmallTypes.ownedTupleIsFree (.ref z) >>= _) _ _ _
  refine wpAny_bind ?_
  unfold Builtin.SmallTypes.ownedTupleIsFree
  refine wpAny_bind (wpAny_field hz rfl (x := .none) rfl (wpAny_pure ?_))
  simp only [if_true]
  refine wpAny_bind (wpAny_rule (wpAny_bind (wpAny_field hz rfl (x := .ref TO) rfl (wpAny_bind (wpAny_setField_rec hz (by simp) fun g1 z1 e1 => ?_)))))
  replace z1 : IsZip g1 z TI TO .ellipsis := z1
  refine wpAny_bind ?_
  simp only [List.zipIdx_cons, List.zipIdx_nil, List.forIn_cons, List.forIn_nil]
  refine wpAny_bind (wpAny_bind (wpAny_onRaise ?_))
  show wpAny _ _ (Builtin.SmallTypes.nextOf (.ref i1) >>= _) _ _ _
  refine wpAny_bind (F1.item (s := { s with heap := g1 }) (F1.ext h1 e1.extBut D.i1z D.l1z) hx fun g2 a1 e2 => wpAny_pure ?_)
  have t2 : IsPair g2 TO a b := e2.extBut _ _ D.TOi1 (e1.extBut _ _ D.TOz hTO)
  refine wpAny_bind (wpAny_seqItems t2 rfl (wpAny_bind (wpAny_updateSeq_pair t2 fun g3 t3 e3 => ?_)))
  replace t3 : IsPair g3 TO x b := t3
  refine wpAny_bind (wpAny_letGo (wpAny_pure ?_))
  refine wpAny_bind (wpAny_bind (wpAny_onRaise ?_))
  show wpAny _ _ (Builtin.SmallTypes.nextOf (.ref i2) >>= _) _ _ _
  refine wpAny_bind (F2.item (s := { s with heap := g3 }) (F2.ext (F2.ext (F2.ext h2 e1.extBut D.i2z D.l2z) e2.extBut D.i12.symm D.l2i1) e3.extBut D.TOi2.symm D.l2TO) hy fun g4 a2 e4 => wpAny_pure ?_)
  have t4 : IsPair g4 TO x b := e4.extBut _ _ D.TOi2 t3
  refine wpAny_bind (wpAny_seqItems t4 rfl (wpAny_bind (wpAny_updateSeq_pair t4 fun g5 t5 e5 => ?_)))
  replace t5 : IsPair g5 TO x y := t5
  refine wpAny_bind (wpAny_letGo (wpAny_pure (wpAny_pure ?_)))
  refine wpAny_bind (wpAny_seqItems t5 rfl (wpAny_bind (wpAny_newTuple ?_)))
  have hsz : g5.objs.size = s.heap.objs.size := by rw [e5.1, e4.1, e3.1, e2.1, e1.1]
  have z5 : IsZip g5 z TI TO .ellipsis := e5.extBut _ _ D.TOz.symm (e4.extBut _ _ D.i2z.symm (e3.extBut _ _ D.TOz.symm (e2.extBut _ _ D.i1z.symm z1)))
  have k5 : ∀ c o, c ≠ z → c ≠ TO → c ≠ i1 → c ≠ i2 → s.heap.get? c = some o → g5.get? c = some o := fun c o c1 c2 c3 c4 e => e5.extBut _ _ c2 (e4.extBut _ _ c4 (e3.extBut _ _ c2 (e2.extBut _ _ c3 (e1.extBut _ _ c1 e))))
  have b1 : S1 g5 (k1 + 1) := F1.ext (F1.ext (F1.ext a1 e3.extBut D.TOi1.symm D.l1TO) e4.extBut D.i12 D.l1i2) e5.extBut D.TOi1.symm D.l1TO
  have b2 : S2 g5 (k2 + 1) := F2.ext a2 e5.extBut D.TOi2.symm D.l2TO
  have zl : z < g5.objs.size := Heap.lt_size z5
  show wpAny _ _ (Builtin.SmallTypes.ownedTupleHandOut (.ref z) (.ref g5.objs.size) >>= _) _ _ _
  refine wpAny_bind ?_
  unfold Builtin.SmallTypes.ownedTupleHandOut
  have z6 : IsZip (g5.push { cls := .type "tuple", data := .seq #[x, y] }) z TI TO .ellipsis := Heap.get?_push_of_some _ z5
  refine wpAny_bind (wpAny_setField_rec z6 (by simp) fun g7 z7 e7 => ?_)
  replace z7 : IsZip g7 z TI TO (rawInt g5.objs.size) := z7
  refine wpAny_setField_rec z7 (by simp) fun g8 z8 e8 => ?_
  replace z8 : IsZip g8 z TI TO (rawInt g5.objs.size) := z8
  have up : ∀ c o, c ≠ z → g5.get? c = some o → g8.get? c = some o := fun c o c1 e => e8.extBut _ _ c1 (e7.extBut _ _ c1 (Heap.get?_push_of_some _ e))
  have t8 : IsPair g8 g5.objs.size x y := e8.extBut _ _ (Nat.ne_of_gt zl) (e7.extBut _ _ (Nat.ne_of_gt zl) (Heap.get?_push_size _ rfl))
  have n8 : g8.objs.size = g5.objs.size + 1 := by rw [e8.1, e7.1, Heap.size_push]
  rw [hsz] at z8 t8 n8
  refine wpAny_pure ⟨_, rfl, ?_⟩
  show Q (.ref g5.objs.size) _
  rw [hsz]
  exact hQ g8 z8 (up _ _ D.TOz t5) (F1.keep b1 (fun o e => up _ o D.i1z e) fun o e => up _ o D.l1z e) (F2.keep b2 (fun o e => up _ o D.i2z e) fun o e => up _ o D.l2z e) t8 n8 fun c o c1 c2 c3 c4 e => up c o c1 (k5 c o c1 c2 c3 c4 e)
theorem next_end {Q : Fin → Shared → Prop} (hh : A.handled = none) (D : ZipApart z TI TO i1 i2 l1 l2) (F1 : Src prog w i1 l1 xs S1) (F2 : Src prog w i2 l2 ys S2)
    (hz : IsZip s.heap z TI TO .none) (hTI : IsPair s.heap TI (.ref i1) (.ref i2)) (hTO : IsPair s.heap TO a b) (h1 : S1 s.heap k1) (h2 : S2 s.heap k2) (hend : xs[k1]? = none ∨ ys[k2]? = none)
    (hE : ∀ h' e, (∀ c o, c ≠ z → c ≠ TO → c ≠ i1 → c ≠ i2 → s.heap.get? c = some o → h'.get? c = some o) → (∃ o, h'.get? e = some o ∧ o.cls = .type "StopIteration") → E (.ref e) { s with heap := h' }) :
    wpAny (model prog w) A (Builtin.«zip.__next__» ⟨[.ref z], []⟩) Q E s := by
  show wpAny _ _ (field (.ref z) 2 >>= _) _ _ _
  refine wpAny_bind (wpAny_field hz rfl (x := .bool false) rfl ?_)
  show wpAny _ _ (field (.ref z) 3 >>= _) _ _ _
  refine wpAny_bind (wpAny_field hz rfl (x := .ref TI) rfl (wpAny_bind (wpAny_seqItems hTI rfl ?_)))
  show wpAny _ _ (Builtin.SmallTypes.ownedTupleIsFree (.ref z) >>= _) _ _ _
  refine wpAny_bind ?_
  unfold Builtin.SmallTypes.ownedTupleIsFree
  refine wpAny_bind (wpAny_field hz rfl (x := .none) rfl (wpAny_pure ?_))
  simp only [if_true]
  refine wpAny_bind (wpAny_rule (wpAny_bind (wpAny_field hz rfl (x := .ref TO) rfl (wpAny_bind (wpAny_setField_rec hz (by simp) fun g1 z1 e1 => ?_)))))
  replace z1 : IsZip g1 z TI TO .ellipsis := z1
  refine wpAny_bind ?_
  simp only [List.zipIdx_cons, List.zipIdx_nil, List.forIn_cons, List.forIn_nil]
  refine wpAny_bind (wpAny_bind (wpAny_onRaise ?_))
  show wpAny _ _ (Builtin.SmallTypes.nextOf (.ref i1) >>= _) _ _ _
  have go1 := F1.ext h1 e1.extBut D.i1z D.l1z
  cases hx : xs[k1]? with
  | none =>
    refine wpAny_bind (F1.fin (s := { s with heap := g1 }) hh go1 hx fun g2 e e2 he => ?_)
    obtain ⟨oe, hoe, hce⟩ := he
    have z2 : IsZip g2 z TI TO .ellipsis := e2 _ _ D.i1z.symm z1
    have hez : e ≠ z := fun q => by
      subst q
      rw [z2] at hoe
      cases hoe
      simp at hce
    exact wpAny_setField_rec z2 (by simp) fun g3 _ e3 => hE g3 e (fun c o c1 _ c3 _ q => e3.extBut _ _ c1 (e2 _ _ c3 (e1.extBut _ _ c1 q))) ⟨oe, e3.extBut _ _ hez hoe, hce⟩
  | some x =>
    have hy : ys[k2]? = none := by
      rcases hend with q | q
      · rw [hx] at q
        cases q
      · exact q
    refine wpAny_bind (F1.item (s := { s with heap := g1 }) go1 hx fun g2 a1 e2 => wpAny_pure ?_)
    have t2 : IsPair g2 TO a b := e2.extBut _ _ D.TOi1 (e1.extBut _ _ D.TOz hTO)
    refine wpAny_bind (wpAny_seqItems t2 rfl (wpAny_bind (wpAny_updateSeq_pair t2 fun g3 t3 e3 => ?_)))
    refine wpAny_bind (wpAny_letGo (wpAny_pure ?_))
    refine wpAny_bind (wpAny_bind (wpAny_onRaise ?_))
    show wpAny _ _ (Builtin.SmallTypes.nextOf (.ref i2) >>= _) _ _ _
    refine wpAny_bind (F2.fin (s := { s with heap := g3 }) hh (F2.ext (F2.ext (F2.ext h2 e1.extBut D.i2z D.l2z) e2.extBut D.i12.symm D.l2i1) e3.extBut D.TOi2.symm D.l2TO) hy fun g4 e e4 he => ?_)
    obtain ⟨oe, hoe, hce⟩ := he
    have z4 : IsZip g4 z TI TO .ellipsis := e4 _ _ D.i2z.symm (e3.extBut _ _ D.TOz.symm (e2.extBut _ _ D.i1z.symm z1))
    have hez : e ≠ z := fun q => by
      subst q
      rw [z4] at hoe
      cases hoe
      simp at hce
    exact wpAny_setField_rec z4 (by simp) fun g5 _ e5 => hE g5 e (fun c o c1 c2 c3 c4 q => e5.extBut _ _ c1 (e4 _ _ c4 (e3.extBut _ _ c2 (e2.extBut _ _ c3 (e1.extBut _ _ c1 q))))) ⟨oe, e5.extBut _ _ hez hoe, hce⟩
theorem pyNext_item {Q : Option Value → Shared → Prop} (D : ZipApart z TI TO i1 i2 l1 l2) (F1 : Src prog w i1 l1 xs S1) (F2 : Src prog w i2 l2 ys S2)
    (hz : IsZip s.heap z TI TO .none) (hTI : IsPair s.heap TI (.ref i1) (.ref i2)) (hTO : IsPair s.heap TO a b) (h1 : S1 s.heap k1) (h2 : S2 s.heap k2) (hx : xs[k1]? = some x) (hy : ys[k2]? = some y)
    (hQ : ∀ h', IsZip h' z TI TO (rawInt s.heap.objs.size) → IsPair h' TO x y → S1 h' (k1 + 1) → S2 h' (k2 + 1) → IsPair h' s.heap.objs.size x y → h'.objs.size = s.heap.objs.size + 1 →
      (∀ c o, c ≠ z → c ≠ TO → c ≠ i1 → c ≠ i2 → s.heap.get? c = some o → h'.get? c = some o) → Q (some (.ref s.heap.objs.size)) { s with heap := h' }) : wpAny (model prog w) A (pyNext (.ref z)) Q E s := by
  have hT : s.TypeIs (.ref z) "zip" := ⟨_, hz, rfl⟩
  unfold pyNext
  exact wpAny_bind (wpAny_attempt (wpAny_callSpecial?_slot (name := Str.ofString "__next__") hT F.slot_zip_next (wpAny_call_entry F.slot_zip_next hT F.entry_zip_next
    (next_item D F1 F2 hz hTI hTO h1 h2 hx hy fun h' q1 q2 q3 q4 q5 q6 q7 => wpAny_pure (hQ h' q1 q2 q3 q4 q5 q6 q7)) (F.args_zip_next_1 _))))
theorem pyNext_end {Q : Option Value → Shared → Prop} (hh : A.handled = none) (D : ZipApart z TI TO i1 i2 l1 l2) (F1 : Src prog w i1 l1 xs S1) (F2 : Src prog w i2 l2 ys S2)
    (hz : IsZip s.heap z TI TO .none) (hTI : IsPair s.heap TI (.ref i1) (.ref i2)) (hTO : IsPair s.heap TO a b) (h1 : S1 s.heap k1) (h2 : S2 s.heap k2) (hend : xs[k1]? = none ∨ ys[k2]? = none)
    (hQ : ∀ h', (∀ c o, c ≠ z → c ≠ TO → c ≠ i1 → c ≠ i2 → s.heap.get? c = some o → h'.get? c = some o) → Q none { s with heap := h' }) : wpAny (model prog w) A (pyNext (.ref z)) Q E s := by
  have hT : s.TypeIs (.ref z) "zip" := ⟨_, hz, rfl⟩
  unfold pyNext
  refine wpAny_bind (wpAny_attempt (wpAny_callSpecial?_slot (name := Str.ofString "__next__") hT F.slot_zip_next (wpAny_call_entry F.slot_zip_next hT F.entry_zip_next (next_end hh D F1 F2 hz hTI hTO h1 h2 hend fun h' e hk he => ?_) (F.args_zip_next_1 _))))
  obtain ⟨o, ho, hc⟩ := he
  exact wpAny_bind (wpAny_isInstance (T := "StopIteration") (b := true) ⟨o, ho, hc⟩ isSubtype_stop (wpAny_pure (hQ _ hk)))
end
/-- the heap behind zip of a tuple and a list -/
def mk (h : Heap) (l1 l2 : Addr) : Heap :=
  ((((h.push { cls := .type "tuple_iterator", data := .fields #[.ref l1, .int 0 0] }).push { cls := .type "list_iterator", data := .fields #[.ref l2, .int 0 0] }).push { cls := .type "tuple", data := .seq #[.ref h.objs.size, .ref (h.objs.size + 1)] }).push
    { cls := .type "tuple", data := .seq #[.none, .none] }).push { cls := .type "zip", data := .fields #[.none, .bool false, .bool false, .ref (h.objs.size + 2), .ref (h.objs.size + 3)] }
theorem meets_mix (l1 l2 : Addr) (xs ys : Array Value) :
    Meets (Builtin.«zip.__new__» ⟨[.type "zip", .ref l1, .ref l2], []⟩) (fun _ R s => s.heap.IsTuple l1 xs ∧ s.heap.IsList l2 ys ∧ R (.ok (.ret (.ref (s.heap.objs.size + 4)))) { s with heap := mk s.heap l1 l2 }) :=
  .of_wp fun prog w A R s h => by
    obtain ⟨hp, g, d, tk, os⟩ := s
    obtain ⟨hl1, hl2, h⟩ := h
    have hsub := sub_zip
    have L1 : Heap.IsTuple (Shared.heap ⟨hp, g, d, tk, os⟩) l1 xs := hl1
    have L2 : Heap.IsList (Shared.heap ⟨hp.push { cls := .type "tuple_iterator", data := .fields #[.ref l1, .int 0 0] }, g, d, tk, os⟩) l2 ys := Heap.IsList.push hl2 _
    wp_walk using wpAny_pyIter_tuple L1, wpAny_pyIter_list L2
    simp only [mk] at h
    simp only [Heap.size_push] at h ⊢
    exact ⟨_, rfl, h⟩
end Zm

/-! zip of a tuple and a list, walked -/
namespace Zm
open PySem PySem.Spec PyProof.Rows L2 RZ
section
variable {prog : Program} {w : World} {A : Around} {E : Value → Shared → Prop} {s : Shared}
theorem call_mix {l1 l2 : Addr} {xs ys : Array Value} {Q : Value → Shared → Prop} (h1 : s.heap.IsTuple l1 xs) (h2 : s.heap.IsList l2 ys)
    (h : ∀ h', IsZip h' (s.heap.objs.size + 4) (s.heap.objs.size + 2) (s.heap.objs.size + 3) .none → IsPair h' (s.heap.objs.size + 2) (.ref s.heap.objs.size) (.ref (s.heap.objs.size + 1)) →
      IsPair h' (s.heap.objs.size + 3) .none .none → h'.IsTupleIter s.heap.objs.size l1 0 → h'.IsListIter (s.heap.objs.size + 1) l2 0 → (∀ c o, s.heap.get? c = some o → h'.get? c = some o) → Q (.ref (s.heap.objs.size + 4)) { s with heap := h' }) :
    wpAny (model prog w) A (call (.type "zip") [.ref l1, .ref l2]) Q E s := by
  refine callType_new F.called_zip (by decide) (F.typeCall_zip_2 _ _) (F.newCall_zip_2 _ _) (fun obj => F.args_object_init_3 obj _ _) F.entry_zip_new (meets_mix l1 l2 xs ys) ⟨h1, h2, ?_⟩
  have p1 : ∀ (h : Heap) (o : Obj) {n : Nat}, h.objs.size = n → o.isFreed = false → (h.push o).get? n = some o ∧ (h.push o).objs.size = n + 1 := fun h o n e f => by
    subst e
    exact ⟨Heap.get?_push_size _ f, Heap.size_push ..⟩
  obtain ⟨g1, n1⟩ := p1 s.heap { cls := .type "tuple_iterator", data := .fields #[.ref l1, .int 0 0] } rfl rfl
  obtain ⟨g2, n2⟩ := p1 _ { cls := .type "list_iterator", data := .fields #[.ref l2, .int 0 0] } n1 rfl
  obtain ⟨g3, n3⟩ := p1 _ { cls := .type "tuple", data := .seq #[.ref s.heap.objs.size, .ref (s.heap.objs.size + 1)] } n2 rfl
  obtain ⟨g4, n4⟩ := p1 _ { cls := .type "tuple", data := .seq #[.none, .none] } n3 rfl
  obtain ⟨g5, n5⟩ := p1 _ { cls := .type "zip", data := .fields #[.none, .bool false, .bool false, .ref (s.heap.objs.size + 2), .ref (s.heap.objs.size + 3)] } n4 rfl
  have up : ∀ {h : Heap} {o o' : Obj} {c : Addr}, h.get? c = some o → (h.push o').get? c = some o := fun e => Heap.get?_push_of_some _ e
  refine ⟨⟨_, g5, rfl⟩, h _ g5 (up (up g3)) (up g4) ⟨_, up (up (up (up g1))), rfl, rfl⟩ ⟨_, up (up (up g2)), rfl, rfl⟩ fun c o q => up (up (up (up (up q))))⟩
end
/-- the tuple at a and the list at b as they stand at each turn, the items in new pairs -/
def ItzM (K : PySem.W.Frag) (a b : Addr) : It :=
  ⟨fun i H => ∃ (xs ys : List V) (x y : V), SqT K H a xs ∧ SqL K H b ys ∧ xs[i]? = some x ∧ ys[i]? = some y,
    fun i H v H' => ∃ T x y, v = .ref T ∧ H T = none ∧ H' = upd H T (.tup [x, y]) ∧ (∀ xs, SqT K H a xs → xs[i]? = some x) ∧ ∀ ys, SqL K H b ys → ys[i]? = some y,
    fun i H => ∃ xs ys : List V, SqT K H a xs ∧ SqL K H b ys ∧ (xs.length ≤ i ∨ ys.length ≤ i)⟩
def TnM (a b z TI TO i1 i2 : Addr) (i : Nat) (h : Heap) : Prop := IsZip h z TI TO .none ∧ IsPair h TI (.ref i1) (.ref i2) ∧ (∃ x y, IsPair h TO x y) ∧ h.IsTupleIter i1 a i ∧ h.IsListIter i2 b i
theorem turn_mix {P : Program} {w : World} {K : PySem.W.Frag} {elts : List Expr} {kk : Nat} {tpos : Pos} {a b z TI TO i1 i2 : Addr} (D : ZipApart z TI TO i1 i2 a b) :
    Turn P w K (.Tuple elts kk tpos) (ItzM K a b) [z, TI, TO, i1, i2] z (TnM a b z TI TO i1 i2) where
  mem := by simp
  obj := fun i h st c hc => by
    obtain ⟨hz, hTI, ⟨x, y, hTO⟩, ⟨o1, e1, _, d1⟩, ⟨o2, e2, _, d2⟩⟩ := st
    have e' : c = z ∨ c = TI ∨ c = TO ∨ c = i1 ∨ c = i2 := by simpa using hc
    rcases e' with rfl | rfl | rfl | rfl | rfl
    · exact ⟨_, hz, fun v q => nomatch q⟩
    · exact ⟨_, hTI, fun v q => nomatch q⟩
    · exact ⟨_, hTO, fun v q => nomatch q⟩
    · exact ⟨o1, e1, fun v q => by rw [d1] at q; cases q⟩
    · exact ⟨o2, e2, fun v q => by rw [d2] at q; cases q⟩
  keep := fun i h h' st k => by
    obtain ⟨hz, hTI, ⟨x, y, hTO⟩, h1, h2⟩ := st
    exact ⟨k z (by simp) _ hz, k TI (by simp) _ hTI, ⟨x, y, k TO (by simp) _ hTO⟩, h1.at fun o q => k i1 (by simp) o q, h2.at fun o q => k i2 (by simp) o q⟩
  item := by
    intro X hP hw hK hc i pins s σ H E I hf st hg
    subst hP hw hK
    obtain ⟨hz, hTI, ⟨x0, y0, hTO⟩, h1, h2⟩ := st
    obtain ⟨xs, ys, x, y, hqx, hqy, hx, hy⟩ := hg
    obtain ⟨its, rv, p, _⟩ := I.tuple hqx
    obtain ⟨its2, rv2, p2, _⟩ := I.list hqy
    obtain ⟨u, hu, ru⟩ := rv.get hx
    obtain ⟨u2, hu2, ru2⟩ := rv2.get hy
    have zl : z < s.heap.objs.size := Heap.lt_size hz
    refine pyNext_item D (src_tup D.l1i1) (src_lst D.l2i2) hz hTI hTO ⟨h1, p⟩ ⟨h2, p2.isList⟩ (x := u) (y := u2) (by simpa using hu) (by simpa using hu2) fun h' z' TO' h1' h2' hT hsz hk => ?_
    refine ⟨_, rfl, wpAny_letOwnedTupleGo_zip (s := { s with heap := h' }) z' fun h'' z'' sb => ?_⟩
    have hT2 : h''.get? s.heap.objs.size = some { cls := .type "tuple", data := .seq #[u, u2] } := (sb.2 _ (Nat.ne_of_gt zl)).trans hT
    have new : ObjOk X.prog X.w (upd H s.heap.objs.size (.tup [x, y])) h'' s.heap.objs.size (.tup [x, y]) := ⟨by show 2 ≤ sizeLine; decide, [u, u2], .cons ru (.cons ru2 .nil), ⟨_, hT2, rfl, _, rfl⟩⟩
    have I1 : Inv X pins σ (upd H s.heap.objs.size (.tup [x, y])) { s with heap := h'' } :=
      I.turnedNew (t' := s.toks) (ch := [z, TI, TO, i1, i2]) (fun c o hb q => (sb.2 c (fun q' => hb (by simp [q']))).trans (hk c o (fun q' => hb (by simp [q'])) (fun q' => hb (by simp [q'])) (fun q' => hb (by simp [q'])) (fun q' => hb (by simp [q'])) q)) hf (Nat.le_refl _) new
    refine ⟨.ref s.heap.objs.size, _, I1, rfl, ⟨_, x, y, rfl, I.hok.fresh (Nat.le_refl _), rfl, fun l hl => by rw [I.tuple_inj hl hqx]; exact hx, fun l hl => by rw [I.list_inj hl hqy]; exact hy⟩, ⟨z'', ?_, ⟨u, u2, ?_⟩, ?_, ?_⟩, fun c hcm => ?_⟩
    · exact (sb.2 _ D.TIz).trans (hk _ _ D.TIz D.TITO D.TIi1 D.TIi2 hTI)
    · exact (sb.2 _ D.TOz).trans TO'
    · exact h1'.1.at fun o q => (sb.2 _ D.i1z).trans q
    · exact h2'.1.at fun o q => (sb.2 _ D.i2z).trans q
    · have hlt : c < s.heap.objs.size := by
        have e' : c = z ∨ c = TI ∨ c = TO ∨ c = i1 ∨ c = i2 := by simpa using hcm
        obtain ⟨_, e1, _⟩ := h1
        obtain ⟨_, e2, _⟩ := h2
        rcases e' with rfl | rfl | rfl | rfl | rfl
        · exact zl
        · exact Heap.lt_size hTI
        · exact Heap.lt_size hTO
        · exact Heap.lt_size e1
        · exact Heap.lt_size e2
      rw [upd_ne (Nat.ne_of_lt hlt)]
      exact (hf c hcm).1
  done := by
    intro X hP hw hK hc i pins s σ H E I hf st hg
    subst hP hw hK
    obtain ⟨hz, hTI, ⟨x0, y0, hTO⟩, h1, h2⟩ := st
    obtain ⟨xs, ys, hqx, hqy, hend⟩ := hg
    obtain ⟨its, rv, p, _⟩ := I.tuple hqx
    obtain ⟨its2, rv2, p2, _⟩ := I.list hqy
    have l1 := rv.length
    have l2 := rv2.length
    have he : its.toArray[i]? = none ∨ its2.toArray[i]? = none := by
      rcases hend with q | q
      · exact .inl (by simp; omega)
      · exact .inr (by simp; omega)
    exact pyNext_end (I.ok.hd hc) D (src_tup D.l1i1) (src_lst D.l2i2) hz hTI hTO ⟨h1, p⟩ ⟨h2, p2.isList⟩ he fun h' hk => ⟨rfl, I.turnedL (t' := s.toks) (ch := [z, TI, TO, i1, i2]) (fun c o hb q =>
      hk c o (fun q' => hb (by simp [q'])) (fun q' => hb (by simp [q'])) (fun q' => hb (by simp [q'])) (fun q' => hb (by simp [q'])) q) hf⟩
  self := fun A i s Q E st h => wpAny_pyIter_zip st.1 h
def iZipM (K : PySem.W.Frag) (ta : TA) : TI := fun σ H R => ta σ H fun vs H1 => ∃ a b xs ys, vs = [.ref a, .ref b] ∧ SqT K H1 a xs ∧ SqL K H1 b ys ∧ R (ItzM K a b) H1
theorem pi_zipM {X : Cx} {e e2 : Expr} {ta : TA} {p pos tpos : Pos} {elts : List Expr} {kk : Nat} (hg : Gl X "zip") (hm : X.mg "zip" = none) (ha : PA X [e, e2] ta)
    (hs : starEach [e, e2] X.env = (false, eval e X.env) :: starEach [e2] X.env := by rfl) (hpl : (backTo pos (starEach [e2] X.env)).any (·.1) = false := by rfl) :
    PI X (.Tuple elts kk tpos) (.Call (.Name "zip" p) [e, e2] [] pos) (iZipM X.K ta) := by
  refine ⟨fun pins s σ H R I h => ?_⟩
  refine Call_ (ld_blt I hg hm PyProof.Rows.boot_zip (PyProof.Rows.callWith_type1 (thn (ha.run pos pins s σ H _ I h) fun us s1 ⟨vs, H1, I1, r1, q1⟩ => ?_) hs hpl))
  obtain ⟨a, b, xs, ys, ex, hqx, hqy, q⟩ := q1
  subst ex
  obtain ⟨u, v, rfl, ru, rv⟩ := vals2 r1
  cases ru
  cases rv
  have fresh5 : ∀ c, c ∈ [s1.heap.objs.size + 4, s1.heap.objs.size + 2, s1.heap.objs.size + 3, s1.heap.objs.size, s1.heap.objs.size + 1] → FpOk X pins H1 c := fun c hcm => by
    have hle : s1.heap.objs.size ≤ c := by
      simp only [List.mem_cons, List.not_mem_nil, or_false] at hcm
      omega
    exact I1.fpOk hle (I1.hok.fresh hle)
  obtain ⟨its, rx, p1, _⟩ := I1.tuple hqx
  obtain ⟨its2, ry, p2, _⟩ := I1.list hqy
  obtain ⟨o1, ho1, _⟩ := id p1
  refine call_mix (show s1.heap.IsTuple a its.toArray from p1) p2.isList fun h' hz hTI hTO h1 h2 hk => wpAny_pyIter_zip hz ?_
  have I2 : Inv X pins σ H1 { s1 with heap := h' } := I1.kept (t' := s1.toks) hk
  exact ⟨s1.heap.objs.size + 4, [s1.heap.objs.size + 4, s1.heap.objs.size + 2, s1.heap.objs.size + 3, s1.heap.objs.size, s1.heap.objs.size + 1], _, _, H1, rfl, I2, turn_mix (PySem.W.ktu_apart s1.heap.objs.size a b (Heap.lt_size ho1) p2.lt), ⟨hz, hTI, ⟨_, _, hTO⟩, h1, h2⟩, fresh5, q⟩
/-- a loop over zip of a tuple and a list of one length -/
theorem for_zipM {K : PySem.W.Frag} {a b : Addr} {xs ys : List V} {g : TG} {tb : TS} {D : Ends} {σ : L2.St} {H : Hp} (hl : xs.length = ys.length) (Pv : Nat → L2.St → Hp → Prop) (h0 : Pv 0 σ H) (hq : ∀ i σ H, Pv i σ H → SqT K H a xs ∧ SqL K H b ys)
    (hs : ∀ (i : Nat) (x y : V) (T : Addr) (σ : L2.St) (H : Hp), xs[i]? = some x → ys[i]? = some y → Pv i σ H → H T = none → g (.ref T) σ (upd H T (.tup [x, y])) fun σ2 H2 => tb { D with nx := Pv (i + 1), ct := Pv (i + 1), bk := D.nx } σ2 H2) (hd : ∀ σ H, Pv xs.length σ H → D.nx σ H) :
    ∃ W : Nat → Nat → L2.St → Hp → Prop, (∃ m, W 0 m σ H) ∧ ∀ i m σ H, W i m σ H →
      ((ItzM K a b).stop i H ∧ D.nx σ H) ∨ ((ItzM K a b).go i H ∧ ∃ N : L2.St → Hp → Prop, (∀ σ' H', N σ' H' → ∃ m', m' < m ∧ W (i + 1) m' σ' H') ∧ ∀ v H', (ItzM K a b).yld i H v H' → g v σ H' fun σ2 H2 => tb { D with nx := N, ct := N, bk := D.nx } σ2 H2) := by
  refine ⟨fun i m σ H => m = xs.length - i ∧ i ≤ xs.length ∧ Pv i σ H, ⟨xs.length, rfl, Nat.zero_le _, h0⟩, ?_⟩
  rintro i m σ H ⟨rfl, hi, p⟩
  obtain ⟨q1, q2⟩ := hq i σ H p
  by_cases hlt : i < xs.length
  · have hx := List.getElem?_eq_getElem hlt
    have hy := List.getElem?_eq_getElem (l := ys) (i := i) (by omega)
    refine .inr ⟨⟨xs, ys, _, _, q1, q2, hx, hy⟩, Pv (i + 1), fun σ' H' p' => ⟨xs.length - (i + 1), by omega, rfl, hlt, p'⟩, fun v H' y => ?_⟩
    obtain ⟨T, x', y', rfl, hT, rfl, f1, f2⟩ := y
    exact hs i x' y' T σ H (f1 xs q1) (f2 ys q2) p hT
  · have e : i = xs.length := by omega
    subst e
    exact .inl ⟨⟨xs, ys, q1, q2, .inl (Nat.le_refl _)⟩, hd σ H p⟩
end Zm

/-! sorted(tuple of texts, key=str) -/
namespace Sk
open PySem PySem.W PySem.Calls PyProof.Rows
section
variable {prog : Program} {w : World} {A : Around} {E : Value → Shared → Prop} {s : Shared}
theorem collect_tup {l : Addr} {vs : List Value} {Q : List Value → Shared → Prop} (hl : s.heap.IsTuple l vs.toArray)
    (h : Q vs { s with heap := (s.heap.push (seqObj "list" #[] 0)).update s.heap.objs.size (Obj.mapSeq (· ++ vs.toArray)) }) (hsz : vs.length ≤ sizeLine) :
    wpAny (model prog w) A (collect (.ref l)) Q E s := by
  obtain ⟨o, ho, hc, n, hd⟩ := id hl
  unfold collect
  refine wpAny_bind (wpAny_runValue (codeAny_builtin entry_proto_collect' ?_))
  show wpAny _ _ (do again (.builtin "list.__iadd__" ⟨[← newList [], .ref l], []⟩)) _ _ s
  refine wpAny_bind (wpAny_newList (wpAny_pure ⟨Code.quiet_builtin _ (by decide +kernel), codeAny_builtin entry_list_iadd' ?_⟩))
  show wpAny _ _ (Builtin.List.listExtendWith (.ref s.heap.objs.size) (.ref l) (.ref s.heap.objs.size)) _ _ { s with heap := s.heap.push (seqObj "list" #[] 0) }
  unfold Builtin.List.listExtendWith
  have ho' : (s.heap.push (seqObj "list" #[] 0)).get? l = some o := Heap.get?_push_of_some _ ho
  refine wpAny_bind (wpAny_typeOf (T := "tuple") ⟨o, ho', hc⟩ ?_)
  have ht : (Value.type "tuple" == Value.type "tuple") = true := by rfl
  rw [if_pos (by rw [ht]; simp)]
  refine wpAny_bind (listItems_at ho' hd ?_)
  refine wpAny_bind (listItems_at (xs := #[]) (n := 0) (Heap.get?_push_size _ rfl) rfl ?_)
  rw [if_neg (by simp)]
  refine wpAny_bind (listUpdate_at (xs := #[]) (n := 0) (Heap.get?_push_size _ rfl) rfl ?_ (Nat.zero_le _) (by show (#[] ++ vs.toArray).size ≤ sizeLine + 1; simp only [Array.size_append, List.size_toArray, List.length_nil]; omega))
  refine wpAny_pure ?_
  show wpAny (model prog w) A (do
      let o ← load s.heap.objs.size
      match o.data with
      | .seq xs _ => pure xs.toList
      | _ => unsupported "internal:collect") Q E { s with heap := (s.heap.push (seqObj "list" #[] 0)).update s.heap.objs.size (Obj.mapSeq (· ++ vs.toArray)) }
  refine wpAny_bind (wpAny_load (get?_update_seq (Heap.get?_push_size _ rfl) _) ?_)
  show wpAny _ _ (pure ((#[] : Array Value) ++ vs.toArray).toList) Q E _
  rw [show ((#[] : Array Value) ++ vs.toArray).toList = vs by simp]
  exact wpAny_pure h
theorem sorted_of_sortT {l : Addr} {vs : List Value} {kw : List (Str × Value)} {Q : Value → Shared → Prop} (hl : s.heap.IsTuple l vs.toArray) (hL : vs.length ≤ sizeLine) (ha1 : argsOk "sorted" ⟨[.ref l], kw⟩) (ha2 : ∀ x, argsOk "list.sort" ⟨[.ref x], kw⟩)
    (body : ∀ E' : Value → Shared → Prop, wpAny (model prog w) A.in1.in1 (Builtin.«list.sort» ⟨[.ref (s.heap.objs.size + 1)], kw⟩) (fun f s' => f = .done (.ret .none) ∧ Q (.ref (s.heap.objs.size + 1)) s') E' { s with heap := copyHeap s.heap vs }) :
    wpAny (model prog w) A (call (.builtin "sorted") [.ref l] kw) Q E s := by
  refine call_function_entry_kw kind_sorted plain_sorted entry_sorted ha1 ?_
  unfold Builtin.«sorted»
  refine wpAny_bind (m := checkCount "sorted" 1 1 _) (wpAny_pure ?_)
  refine wpAny_bind (collect_tup hl ?_ hL)
  refine wpAny_bind (wpAny_newList ?_ hL)
  have hsz : ((s.heap.push (seqObj "list" #[] 0)).update s.heap.objs.size (Obj.mapSeq (· ++ vs.toArray))).objs.size = s.heap.objs.size + 1 := by
    rw [Heap.size_update, size_push']
  show wpAny _ _ _ _ _ { s with heap := copyHeap s.heap vs }
  rw [hsz]
  refine wpAny_bind (wpAny_holding (wpAny_call_entry_kw slot_list_sort ⟨_, copyHeap_at s.heap vs, rfl⟩ entry_list_sort ?body (ha2 _)))
  case body =>
    show wpAny (model prog w) A.in1.in1 (Builtin.«list.sort» ⟨[.ref (s.heap.objs.size + 1)], kw⟩) _ _ _
    refine wpAny_mono (body _) (fun f s' hf => ?_) fun _ _ e => e
    obtain ⟨rfl, hq⟩ := hf
    exact ⟨_, rfl, wpAny_pure ⟨_, rfl, hq⟩⟩
theorem ksk_ty (i : String) (a : Addr) : Builtin.«list.sort» ⟨[.ref a], [(Str.ofString "key", .type i)]⟩ = ksk_tree a (.type i) false := rfl
/-- sorted(t, key=str), t a tuple of texts -/
theorem sortedT_str {l : Addr} {vs : List Value} {xs : List Str} {Q : Value → Shared → Prop} (hl : s.heap.IsTuple l vs.toArray) (e : EachIs (fun v x => ∃ t, v = Value.str x t) vs xs) (hL : xs.length ≤ sizeLine)
    (hu : A.units + 64 < cLine)
    (h : ∀ out c h' tk, (∀ b o, s.heap.get? b = some o → h'.get? b = some o) → s.heap.get? (s.heap.objs.size + 1) = none → h'.get? (s.heap.objs.size + 1) = some (seqObj "list" (List.toArray out) c) → EachIs (fun v x => ∃ t, v = Value.str x t) out (xs.mergeSort (fun a b => decide (a.cps.toList ≤ b.cps.toList))) →
      Q (.ref (s.heap.objs.size + 1)) { s with heap := h', toks := tk }) :
    wpAny (model prog w) A (call (.builtin "sorted") [.ref l] [(Str.ofString "key", .type "str")]) Q E s := by
  have fresh : s.heap.get? (s.heap.objs.size + 1) = none := Heap.get?_none_of_le (Nat.le_succ _)
  have up : ∀ {g : Heap}, KeepsBut (s.heap.objs.size + 1) (copyHeap s.heap vs) g → ∀ b o, s.heap.get? b = some o → g.get? b = some o := fun {g} kp b o q =>
    kp b o (Nat.ne_of_lt (Nat.lt_succ_of_lt (Heap.lt_size q))) (copyHeap_old q)
  refine sorted_of_sortT hl (by rw [e.length]; exact hL) (ksk_s1 _ _) (fun _ => ksk_l1 _ _) fun E' => ?_
  rw [ksk_ty]
  have hal : AllAlike (xs.map fun x => PyData.str x) := AllAlike.of fun _ _ => by simp [alike]
  have hsk : PySem.W.Sortable (xs.map fun x => PyData.str x) := .inr fun d hd => by
    obtain ⟨x, _, rfl⟩ := List.mem_map.mp hd
    exact ⟨by simp, fun _ => by simp⟩
  refine keyH_tree (kz := xs.map fun x => PyData.str x) (s := { s with heap := copyHeap s.heap vs }) (copyHeap_at s.heap vs) (by rw [List.length_map]; exact e.length.symm) (by rw [e.length]; exact hL) hal hsk
    (bound_map (A := A.in1.in1) (enc := fun x => PyData.str x) fun x _ => by
      have hd : (PyData.str x).depth = 0 := by simp [PyData.depth]
      rw [hd]
      show A.units + 1 + 1 + 0 < cLine
      omega)
    (keyH_turns (s := { s with heap := copyHeap s.heap vs }) e fun v x hR hx h tk kp => ?_) fun h' tk out c kp hD ko => ⟨rfl, ?_⟩
  · obtain ⟨t, rfl⟩ := hR
    exact PySem.P.str_of_str ⟨h, tk, rfl, fun _ _ q => q, .str x t⟩
  · refine h out c h' tk (up kp) fresh hD ?_
    have hh := keyedOut_each (fun x => PyData.str x) ko e
    rw [dataLe_str (fun x : Str => x)] at hh
    exact hh
end
open L2
theorem each_strs : ∀ {vs : List Value} {xs : List Str}, StrsAre vs xs → EachIs (fun v x => ∃ t, v = Value.str x t) vs xs
  | _, _, .nil => .nil
  | _, _, .cons x t h => .cons ⟨t, rfl⟩ (each_strs h)
theorem strs_each : ∀ {vs : List Value} {xs : List Str}, EachIs (fun v x => ∃ t, v = Value.str x t) vs xs → StrsAre vs xs
  | _, _, .nil => .nil
  | _, _, .cons ⟨t, e⟩ h => e ▸ .cons _ t (strs_each h)
def LeS (a b : Str) : Prop := a.cps.toList ≤ b.cps.toList
section
variable {X : Cx}
/-- sorted(t, key=str), t a tuple of texts -/
def rSortedStr (K : PySem.W.Frag) : List V → List V → Hp → VK → Prop := fun vs zs H Q => ∃ (a : Addr) (xs : List Str), vs = [V.ref a] ∧ zs = [.ty "str"] ∧ SqT K H a (xs.map V.str) ∧
  ∀ (ys : List Str) (p : Addr), ys.Perm xs → ys.Pairwise LeS → H p = none → Q (.ref p) (upd H p (.lst (ys.map V.str)))
theorem sort_pw (xs : List Str) : (xs.mergeSort (fun a b => decide (a.cps.toList ≤ b.cps.toList))).Pairwise LeS := by
  have h := List.pairwise_mergeSort (le := fun a b : Str => decide (a.cps.toList ≤ b.cps.toList)) (fun a b c h1 h2 => by
    rw [decide_eq_true_eq] at h1 h2 ⊢
    exact List.le_trans h1 h2) (fun a b => by
    rw [Bool.or_eq_true, decide_eq_true_eq, decide_eq_true_eq]
    exact List.le_total _ _) xs
  exact h.imp fun {a b} z => of_decide_eq_true z
theorem cr_sortedStr (hu : X.A.units + 64 < cLine) : CallRK X (.builtin "sorted") [Str.ofString "key"] (rSortedStr X.K) := by
  intro pins s σ H vs zs us ws Q I r rz h
  obtain ⟨a, xs, rfl, rfl, hs, q⟩ := h
  obtain rfl := Vals.ref1 r
  obtain ⟨w1, rfl, e1⟩ := vals1 rz
  obtain rfl : w1 = Value.type "str" := e1
  obtain ⟨its, rv, pl, hz⟩ := I.tuple hs
  have hl := rv.strs
  have hlen := rv.length
  rw [List.length_map] at hlen hz
  refine sortedT_str pl (each_strs hl) hz hu fun out c h' tk kp hn hg eo => ?_
  have hp := List.mergeSort_perm xs (fun a b : Str => decide (a.cps.toList ≤ b.cps.toList))
  exact ⟨.ref _, upd H (s.heap.objs.size + 1) (.lst _), I.laid (t' := tk) kp (Nat.le_succ _) ⟨by rw [List.length_map, hp.length_eq]; exact hz, _, c, vals_of_strs (strs_each eo), hg⟩, rfl, q _ _ hp (sort_pw xs) (I.hok.fresh (Nat.le_succ _))⟩
end
end Sk

/-! a tuple made of a list, known as an object without a dict: its methods may be called -/
namespace Tf
open PySem PySem.Spec PyProof.Rows L2
section
variable {X : Cx}
/-- the tuple at t, as it was made -/
def TupAt (H : Hp) (t : Addr) (xs : List V) : Prop := ∃ o : Obj, H t = some (.frz o (.tup xs)) ∧ o.cls = .type "tuple" ∧ o.dict = none
theorem TupAt.sq {K : PySem.W.Frag} {H : Hp} {t : Addr} {xs : List V} (h : TupAt H t xs) : SqT K H t xs := by
  obtain ⟨o, e, _⟩ := h
  exact .inl (.inr ⟨o, e⟩)
def rTupF (K : PySem.W.Frag) : List V → Hp → VK → Prop := fun xs H Q => ∃ p ys, xs = [.ref p] ∧ SqL K H p ys ∧ ∀ l o, H l = none → o.cls = .type "tuple" → o.dict = none → Q (.ref l) (upd H l (.frz o (.tup ys)))
theorem call_tupleF : CallR X (.type "tuple") (rTupF X.K) := by
  intro pins s σ H xs us Q I r h
  obtain ⟨p, ys, rfl, hq, q⟩ := h
  obtain ⟨u, rfl, rx⟩ := vals1 r
  cases rx
  obtain ⟨its, r', pl, hz⟩ := I.list hq
  have hlen := r'.length
  refine call_tuple_list pl.isList (fun h' kp => ?_) (by simp only [List.size_toArray] <;> omega)
  have I1 : Inv X pins σ H { s with heap := h' } := I.kept (t' := s.toks) kp
  have I2 : Inv X pins σ (upd H h'.objs.size (.frz { cls := .type "tuple", data := .seq its.toArray } (.tup ys))) { s with heap := h'.push { cls := .type "tuple", data := .seq its.toArray } } :=
    I1.laid (t' := s.toks) (fun b o e => Heap.get?_push_of_some _ e) (Nat.le_refl _) ⟨Heap.get?_push_size _ rfl, show ObjOk X.prog X.w _ _ _ (.tup ys) from ⟨hz, its, r', IsTup.new _ _⟩⟩
  exact ⟨.ref h'.objs.size, _, I2, rfl, q _ _ (I1.hok.fresh (Nat.le_refl _)) rfl rfl⟩
def tBMF (r : V → List V → Hp → VK → Prop) (to : TE) (t : TA) : TE := fun σ H Q => to σ H fun x H1 => (∃ p xs, x = .ref p ∧ TupAt H1 p xs) ∧ t σ H1 fun xs H2 => r x xs H2 Q
variable {o e : Expr} {es : List Expr} {to : TE} {t : TA} {name : Str} {apos cpos : Pos} {id : String} {r : V → List V → Hp → VK → Prop}
theorem pe_bmF (pa : PlainAttrs "tuple") (slot : Slot "tuple" name id) (hty : typeOf (.builtin id) = pure (.type "method_descriptor")) (hm : MtR X id r) (ho : PE X o to) (ha : PA X (e :: es) t)
    (hbase : attributeBase o name X.env (eval o X.env) = eval o X.env := by rfl)
    (hfew : ((backTo cpos (starEach (e :: es) X.env)).all (fun x => !x.1) && (backToKw cpos (keywordEach [] X.env)).all (fun x => x.1.isSome)
      && decide ((e :: es).length + ([] : List Keyword).length + (if ([] : List Keyword).isEmpty then 0 else 1) < 30)) = true := by rfl)
    (hline : (apos.endLine == cpos.line) = true := by rfl) (hs : starEach (e :: es) X.env = (false, eval e X.env) :: starEach es X.env := by rfl) (hplain : (backTo cpos (starEach es X.env)).any (·.1) = false := by rfl) :
    PE X (.Call (.Attribute o name apos) (e :: es) [] cpos) (tBMF r to t) := by
  refine ⟨fun pins s σ H Q I h => ?_⟩
  refine wpAny_Call_method_late hbase hfew hline rfl (thn (ho.run pins s σ H _ I h) fun v s1 ⟨x, H1, I1, r1, ty, q1⟩ => ?_)
  have hh : s1.TypeIs v "tuple" ∧ ∀ a, v = .ref a → ∃ ob, s1.heap.get? a = some ob ∧ ob.dict = none := by
    obtain ⟨p, xs, rfl, ob, e1, e2, e3⟩ := ty
    cases r1
    obtain ⟨g1, _⟩ := (show ObjOk X.prog X.w H1 s1.heap p (.frz ob (.tup xs)) from I1.hok p _ e1)
    refine ⟨⟨ob, g1, e2⟩, fun a ea => ?_⟩
    cases ea
    exact ⟨ob, g1, e3⟩
  obtain ⟨h1, h2⟩ := hh
  refine ⟨"tuple", id, pa, slot, hty, h1, h2, ?_⟩
  have hA := ha.run cpos pins s1 σ H1 _ I1 q1
  rw [hs] at hA ⊢
  refine Calls.callWith_builtin (by show (false || (backTo cpos (starEach es X.env)).any (·.1)) = false; rw [hplain] <;> rfl) (Calls.evalArgs_plain ?_)
  exact thn hA fun us s2 ⟨vs, H2, I2, r2, q2⟩ => hm pins s2 σ H2 x vs v us Q I2 r1 r2 q2
end
end Tf

/-! a Hook of one's own: any facts of the written part, defs by their addresses, written dicts by their keys; addresses by levels, each forced -/
namespace Hy
open PySem L2 He
/-- a def and where it stands -/
structure DX where
  ad : PySem.W.Frag → Addr
  name : Str
  qual : Str
  params : Arguments
  body : List Stmt
  scope : Scope
def fnAt (K : PySem.W.Frag) (a : Addr) : FnW := match K.lookup a with
  | some ⟨_, _, .func fd, _⟩ => some (fd.name, fd.qualname, fd.params, fd.body, fd.scope, fd.globals, fd.closure, fd.builtins)
  | _ => none
def DX.val (d : DX) : FnW := some (d.name, d.qual, d.params, .stmts d.body, d.scope, mainGlobals, [], builtinsNs)
def DX.ok (K : PySem.W.Frag) (d : DX) : Bool := PySem.W.keepIn K (.ref (d.ad K)) && (match K.lookup (d.ad K) with
  | some ⟨_, _, .func fd, _⟩ => PySem.W.codeIn K fd.code d.qual && (dflB K fd.defaults [] && kwdB K fd.kwdefaults [])
  | _ => false)
abbrev AlY : Type := AlD × List (Option (List (Option (Str × Int))))
def obsY (B : PySem.W.Frag → Bool) (fn : List DX) (ts : List Tab) (K : PySem.W.Frag) : AlY := ((B K && fn.all fun d => d.ok K, fn.map fun d => fnAt K (d.ad K)), ts.map fun t => dicW K (t.1 K))
def valY (fn : List DX) (ts : List Tab) (w : World) : AlY := ((true, fn.map DX.val), ts.map fun t => some (keysIn w.params t.2))
/-- what an object leads to -/
def kids (o : Obj) : List Addr := match o.data with
  | .func fd => refV fd.code ++ (refV fd.defaults ++ refV fd.kwdefaults)
  | .cls cd => [cd.ns]
  | .dict es _ => es.toList.flatMap fun e => refV e.val
  | .fields vs => vs.toList.flatMap refV
  | .seq its _ => its.toList.flatMap refV
  | _ => []
def lvl (g : Addr → Option Obj) (as : List Addr) : List Addr := as.flatMap fun a => match g a with
  | some o => kids o
  | none => []
def asY (g : Addr → Option Obj) : List Addr :=
  let l1 := lvl g [mainGlobals]
  let l2 := lvl g l1
  let l3 := lvl g l2
  let l4 := lvl g l3
  let l5 := lvl g l4
  mainGlobals :: (l1 ++ (l2 ++ (l3 ++ (l4 ++ l5))))
def frList {α : Type} : List Addr → (List Addr → α) → α
  | [], k => k []
  | a :: r, k => HandSHeadRun.frNat a fun a => frList r fun r => k (a :: r)
theorem frList_eq {α : Type} : ∀ (l : List Addr) (k : List Addr → α), frList l k = k l
  | [], _ => rfl
  | a :: r, k => by
    show HandSHeadRun.frNat a (fun a => frList r fun r => k (a :: r)) = k (a :: r)
    rw [HandSHeadRun.frNat_eq, frList_eq r]
/-- as asY, each level forced -/
def frAs {α : Type} (g : Addr → Option Obj) (k : List Addr → α) : α :=
  frList (lvl g [mainGlobals]) fun l1 => frList (lvl g l1) fun l2 => frList (lvl g l2) fun l3 => frList (lvl g l3) fun l4 => frList (lvl g l4) fun l5 =>
    frList (mainGlobals :: (l1 ++ (l2 ++ (l3 ++ (l4 ++ l5))))) k
theorem frAs_eq {α : Type} (g : Addr → Option Obj) (k : List Addr → α) : frAs g k = k (asY g) := by
  unfold frAs
  simp only [frList_eq]
  rfl
def obsYG (B : PySem.W.Frag → Bool) (fn : List DX) (ts : List Tab) (g : Addr → Option Obj) : AlY := frAs g fun as => obsY B fn ts (frG g as)
def hookY (B : PySem.W.Frag → Bool) (fn : List DX) (ts : List Tab) : PySem.W.Hook where
  α := AlY
  obs := fun s => obsYG B fn ts s.heap.get?
  val := fun w => valY fn ts w
  says := fun w h => ∃ K : PySem.W.Frag, K.In h ∧ obsY B fn ts K = valY fn ts w
  of := fun _ _ e => ⟨_, frG_in, (frAs_eq _ fun as => obsY B fn ts (frG _ as)).symm.trans e⟩
  keeps := fun _ _ _ ⟨K, hK, c⟩ k => ⟨K, PySem.W.Frag.In.keeps hK k, c⟩
theorem obsYG_eq {B : PySem.W.Frag → Bool} {fn : List DX} {ts : List Tab} {g : Addr → Option Obj} {s : Shared} (h : ∀ a, g a = s.heap.get? a) : obsYG B fn ts g = (hookY B fn ts).obs s := by
  have e : g = s.heap.get? := funext h
  rw [e] <;> rfl
section
variable {B : PySem.W.Frag → Bool} {fn : List DX} {ts : List Tab} {K : PySem.W.Frag} {w : World}
theorem says_fact (c : obsY B fn ts K = valY fn ts w) : B K = true := (ba (show (B K && fn.all fun d => d.ok K) = true from congrArg (fun z : AlY => z.1.1) c)).1
theorem funX {d : DX} (e : fnAt K (d.ad K) = d.val) (c : d.ok K = true) : ∃ oc od kV doc pm an cdv ct osl, K.lookup (d.ad K) = some ⟨oc, od, .func (PySem.W.fnOf d.name d.qual d.params d.body d.scope .none kV doc pm an cdv ct), osl⟩ ∧ PySem.W.codeIn K cdv d.qual = true ∧ PySem.W.keepIn K (.ref (d.ad K)) = true := by
  obtain ⟨kp, c2⟩ := ba c
  unfold fnAt at e
  cases q : K.lookup (d.ad K) with
  | none =>
    rw [q] at c2
    cases c2
  | some o =>
    obtain ⟨oc, od, dt, osl⟩ := o
    rw [q] at c2 e
    cases dt with
    | func fd =>
      obtain ⟨n1, n2, n3, n4, n5, n6, n7, n8, n9, n10, n11, n12, n13, n14, n15⟩ := fd
      have e2 : (some (n1, n2, n3, n4, n5, n6, n7, n15) : FnW) = some (d.name, d.qual, d.params, .stmts d.body, d.scope, mainGlobals, [], builtinsNs) := e
      simp only [Option.some.injEq, Prod.mk.injEq] at e2
      obtain ⟨h1, h2, h3, h4, h5, h6, h7, h8⟩ := e2
      subst h1 h2 h3 h4 h5 h6 h7 h8
      have c3 : (PySem.W.codeIn K n13 d.qual && (dflB K n8 [] && kwdB K n9 [])) = true := c2
      obtain ⟨k1, k2⟩ := ba c3
      obtain ⟨k3, k4⟩ := ba k2
      have kd : n8 = .none := by
        rcases dflB_ok k3 with ⟨_, h⟩ | ⟨h, _⟩
        · exact h
        · exact absurd rfl h
      subst kd
      exact ⟨_, _, _, _, _, _, _, _, _, rfl, k1, kp⟩
    | _ => cases c2
/-- a def, as the layer wants it -/
theorem says_fun (c : obsY B fn ts K = valY fn ts w) (i : Nat) {d : DX} (h : fn[i]? = some d := by rfl) : ∃ oc od kV doc pm an cdv ct osl, K.lookup (d.ad K) = some ⟨oc, od, .func (PySem.W.fnOf d.name d.qual d.params d.body d.scope .none kV doc pm an cdv ct), osl⟩ ∧ PySem.W.codeIn K cdv d.qual = true ∧ PySem.W.keepIn K (.ref (d.ad K)) = true := by
  have c1 := (ba (show (B K && fn.all fun d => d.ok K) = true from congrArg (fun z : AlY => z.1.1) c)).2
  have c2 : fn.map (fun d => fnAt K (d.ad K)) = fn.map DX.val := congrArg (fun z : AlY => z.1.2) c
  have e2 : (fn.map fun d => fnAt K (d.ad K))[i]? = (fn.map DX.val)[i]? := by rw [c2]
  rw [List.getElem?_map, List.getElem?_map, h] at e2
  exact funX (Option.some.inj e2) (List.all_eq_true.mp c1 d (List.mem_of_getElem? h))
theorem strs_of {P : Params} : ∀ {l : List DictEntry} {ks : List Str}, l.map He.keyOf = keysIn P ks → l.map (fun e => Kd.strOf e.key) = ks.map some
  | [], [], _ => rfl
  | [], _ :: _, h => by cases h
  | _ :: _, [], h => by cases h
  | e :: r, k :: ks, h => by
    have h1 : He.keyOf e :: r.map He.keyOf = some (k, PyData.keyHash P k) :: keysIn P ks := h
    injection h1 with h2 h3
    rw [List.map_cons, List.map_cons, strs_of h3]
    have hk : Kd.strOf e.key = some k := by
      unfold He.keyOf at h2
      split at h2
      · rename_i x t q
        rw [q]
        exact congrArg some (Prod.mk.inj (Option.some.inj h2)).1
      · cases h2
    rw [hk]
theorem dicW_sd {a : Addr} {ks : List Str} (h : dicW K a = some (keysIn w.params ks)) : Kd.SD K w a ks := by
  obtain ⟨es, n, D⟩ := dicW_ok h
  refine ⟨es, n, D, ?_⟩
  unfold dicW at h
  rw [D.at_] at h
  have h1 : (match decide ("dict" = "dict") && ((#[] : Array (Option Value)).isEmpty && !(a == sysModules)) with
    | true => some (es.toList.map He.keyOf)
    | false => none) = some (keysIn w.params ks) := h
  rw [D.low] at h1
  exact strs_of (Option.some.inj h1)
theorem says_tab (c : obsY B fn ts K = valY fn ts w) (i : Nat) {t : Tab} (h : ts[i]? = some t := by rfl) : Kd.SD K w (t.1 K) t.2 := by
  have e : ts.map (fun t => dicW K (t.1 K)) = ts.map fun t => some (keysIn w.params t.2) := congrArg (fun z : AlY => z.2) c
  have e2 : (ts.map fun t => dicW K (t.1 K))[i]? = (ts.map fun t => some (keysIn w.params t.2))[i]? := by rw [e]
  rw [List.getElem?_map, List.getElem?_map, h] at e2
  exact dicW_sd (Option.some.inj e2)
end
end Hy

namespace K18
open PySem L2 Bx
def top (i : Nat) : Stmt := PySem.Challenge.pw_behindexits_k18_wide_sets.main.body.getD i (.Pass ⟨0, 0, 0, 0⟩)
abbrev s_wall : Stmt := top 0
abbrev N_wall : List Str := ["k"]
theorem sc_wall : FnScope N_wall ["k"] (C8.fnScope s_wall) := ⟨rfl, rfl, rfl, by decide +kernel, rfl, by decide +kernel, by decide +kernel⟩
abbrev s_whole : Stmt := top 2
abbrev N_whole : List Str := ["many", "i", "j"]
theorem sc_whole : FnScope N_whole ["many"] (C8.fnScope s_whole) := ⟨rfl, rfl, rfl, by decide +kernel, rfl, by decide +kernel, by decide +kernel⟩
abbrev s_opposite : Stmt := top 3
abbrev N_opposite : List Str := ["literal", "i", "j", "number"]
theorem sc_opposite : FnScope N_opposite ["literal"] (C8.fnScope s_opposite) := ⟨rfl, rfl, rfl, by decide +kernel, rfl, by decide +kernel, by decide +kernel⟩
abbrev s_follows : Stmt := top 4
abbrev N_follows : List Str := ["zone", "literal", "i", "j", "number"]
theorem sc_follows : FnScope N_follows ["zone", "literal"] (C8.fnScope s_follows) := ⟨rfl, rfl, rfl, by decide +kernel, rfl, by decide +kernel, by decide +kernel⟩
abbrev s_met : Stmt := top 5
abbrev N_met : List Str := ["zone", "literal", "i", "j", "number", "there", "back", "tail", "k", "step", "row"]
theorem sc_met : FnScope N_met ["zone", "literal"] (C8.fnScope s_met) := ⟨rfl, rfl, rfl, by decide +kernel, rfl, by decide +kernel, by decide +kernel⟩
abbrev s_shortened : Stmt := top 6
abbrev N_shortened : List Str := ["row", "start", "tail", "found", "k", "step", "old"]
theorem sc_shortened : FnScope N_shortened ["row", "start", "tail"] (C8.fnScope s_shortened) := ⟨rfl, rfl, rfl, by decide +kernel, rfl, by decide +kernel, by decide +kernel⟩
abbrev s_met_all : Stmt := top 7
abbrev N_met_all : List Str := ["zone", "literals", "literal"]
theorem sc_met_all : FnScope N_met_all ["zone", "literals"] (C8.fnScope s_met_all) := ⟨rfl, rfl, rfl, by decide +kernel, rfl, by decide +kernel, by decide +kernel⟩
abbrev s_is_inside : Stmt := top 8
abbrev N_is_inside : List Str := ["zone", "other", "row", "wide", "least", "most"]
theorem sc_is_inside : FnScope N_is_inside ["zone", "other"] (C8.fnScope s_is_inside) := ⟨rfl, rfl, rfl, by decide +kernel, rfl, by decide +kernel, by decide +kernel⟩
abbrev s_literals_of : Stmt := top 9
abbrev N_literals_of : List Str := ["zone"]
theorem sc_literals_of : FnScope N_literals_of ["zone"] (C8.fnScope s_literals_of) := ⟨rfl, rfl, rfl, by decide +kernel, rfl, by decide +kernel, by decide +kernel⟩
abbrev s_literals_among : Stmt := top 10
abbrev N_literals_among : List Str := ["zone", "indexes", "heads", "found", "firsts", "head", "group", "i", "others", "j"]
theorem sc_literals_among : FnScope N_literals_among ["zone", "indexes"] (C8.fnScope s_literals_among) := ⟨rfl, rfl, rfl, by decide +kernel, rfl, by decide +kernel, by decide +kernel⟩
abbrev s_head_of : Stmt := top 11
abbrev N_head_of : List Str := ["zone", "indexes", "i", "row", "j"]
theorem sc_head_of : FnScope N_head_of ["zone", "indexes", "i"] (C8.fnScope s_head_of) := ⟨rfl, rfl, rfl, by decide +kernel, rfl, by decide +kernel, by decide +kernel⟩
abbrev s_is_needed : Stmt := top 12
abbrev N_is_needed : List Str := ["zone", "firsts", "i", "j", "row", "number", "k", "step"]
theorem sc_is_needed : FnScope N_is_needed ["zone", "firsts", "i", "j"] (C8.fnScope s_is_needed) := ⟨rfl, rfl, rfl, by decide +kernel, rfl, by decide +kernel, by decide +kernel⟩
abbrev s_spread : Stmt := top 13
abbrev N_spread : List Str := ["zone", "olds", "numbers", "row", "i", "column", "j"]
theorem sc_spread : FnScope N_spread ["zone", "olds"] (C8.fnScope s_spread) := ⟨rfl, rfl, rfl, by decide +kernel, rfl, by decide +kernel, by decide +kernel⟩
abbrev s_number_at : Stmt := top 14
abbrev N_number_at : List Str := ["zone", "i", "j"]
theorem sc_number_at : FnScope N_number_at ["zone", "i", "j"] (C8.fnScope s_number_at) := ⟨rfl, rfl, rfl, by decide +kernel, rfl, by decide +kernel, by decide +kernel⟩
abbrev s_point_of : Stmt := top 15
abbrev N_point_of : List Str := ["zone", "found", "i", "least", "most", "j", "number"]
theorem sc_point_of : FnScope N_point_of ["zone"] (C8.fnScope s_point_of) := ⟨rfl, rfl, rfl, by decide +kernel, rfl, by decide +kernel, by decide +kernel⟩
abbrev s_has_point : Stmt := top 16
abbrev N_has_point : List Str := ["zone", "numbers", "row", "left", "most", "right"]
theorem sc_has_point : FnScope N_has_point ["zone", "numbers"] (C8.fnScope s_has_point) := ⟨rfl, rfl, rfl, by decide +kernel, rfl, by decide +kernel, by decide +kernel⟩
abbrev s_freed : Stmt := top 17
abbrev N_freed : List Str := ["zone", "indexes", "found", "i", "row", "numbers", "j", "number"]
theorem sc_freed : FnScope N_freed ["zone", "indexes"] (C8.fnScope s_freed) := ⟨rfl, rfl, rfl, by decide +kernel, rfl, by decide +kernel, by decide +kernel⟩
abbrev s_are_linked : Stmt := top 18
abbrev N_are_linked : List Str := ["zone", "hidden", "i", "j"]
theorem sc_are_linked : FnScope N_are_linked ["zone", "hidden", "i", "j"] (C8.fnScope s_are_linked) := ⟨rfl, rfl, rfl, by decide +kernel, rfl, by decide +kernel, by decide +kernel⟩
abbrev s_is_link : Stmt := top 19
abbrev N_is_link : List Str := ["zone", "hidden", "i", "j", "number", "k"]
theorem sc_is_link : FnScope N_is_link ["zone", "hidden", "i", "j"] (C8.fnScope s_is_link) := ⟨rfl, rfl, rfl, by decide +kernel, rfl, by decide +kernel, by decide +kernel⟩
abbrev s_greater : Stmt := top 20
abbrev N_greater : List Str := ["one", "two"]
theorem sc_greater : FnScope N_greater ["one", "two"] (C8.fnScope s_greater) := ⟨rfl, rfl, rfl, by decide +kernel, rfl, by decide +kernel, by decide +kernel⟩
abbrev s_denied : Stmt := top 27
abbrev N_denied : List Str := ["group", "literals", "others", "literal", "other"]
theorem sc_denied : FnScope N_denied ["group"] (C8.fnScope s_denied) := ⟨rfl, rfl, rfl, by decide +kernel, rfl, by decide +kernel, by decide +kernel⟩
abbrev s_open_group : Stmt := top 28
abbrev N_open_group : List Str := ["zone", "group", "is_case", "literals", "others", "plain", "literal", "i", "j", "number", "there", "back", "rest", "other", "left", "inner", "groups"]
theorem sc_open_group : FnScope N_open_group ["zone", "group", "is_case"] (C8.fnScope s_open_group) := ⟨rfl, rfl, rfl, by decide +kernel, rfl, by decide +kernel, by decide +kernel⟩
abbrev s_flat : Stmt := top 29
abbrev N_flat : List Str := ["literals", "groups", "plain", "rest", "group", "inner", "others"]
theorem sc_flat : FnScope N_flat ["literals", "groups"] (C8.fnScope s_flat) := ⟨rfl, rfl, rfl, by decide +kernel, rfl, by decide +kernel, by decide +kernel⟩
abbrev s_opened : Stmt := top 30
abbrev N_opened : List Str := ["part", "zone", "clauses", "left", "literals"]
theorem sc_opened : FnScope N_opened ["part"] (C8.fnScope s_opened) := ⟨rfl, rfl, rfl, by decide +kernel, rfl, by decide +kernel, by decide +kernel⟩
abbrev s_weight : Stmt := top 31
abbrev N_weight : List Str := ["clause", "literals", "cases", "inner", "clauses"]
theorem sc_weight : FnScope N_weight ["clause"] (C8.fnScope s_weight) := ⟨rfl, rfl, rfl, by decide +kernel, rfl, by decide +kernel, by decide +kernel⟩
abbrev s_lightest : Stmt := top 32
abbrev N_lightest : List Str := ["clauses", "at", "least", "index", "clause", "now"]
theorem sc_lightest : FnScope N_lightest ["clauses"] (C8.fnScope s_lightest) := ⟨rfl, rfl, rfl, by decide +kernel, rfl, by decide +kernel, by decide +kernel⟩
abbrev s_branches : Stmt := top 33
abbrev N_branches : List Str := ["part", "zone", "clauses", "at", "rest", "literals", "cases", "found", "literal", "case"]
theorem sc_branches : FnScope N_branches ["part"] (C8.fnScope s_branches) := ⟨rfl, rfl, rfl, by decide +kernel, rfl, by decide +kernel, by decide +kernel⟩
abbrev s_free_zone : Stmt := top 34
abbrev N_free_zone : List Str := ["part", "waiting", "left"]
theorem sc_free_zone : FnScope N_free_zone ["part"] (C8.fnScope s_free_zone) := ⟨rfl, rfl, rfl, by decide +kernel, rfl, by decide +kernel, by decide +kernel⟩
abbrev s_free_zones : Stmt := top 35
abbrev N_free_zones : List Str := ["part", "looks", "found", "waiting", "looked", "left"]
theorem sc_free_zones : FnScope N_free_zones ["part", "looks"] (C8.fnScope s_free_zones) := ⟨rfl, rfl, rfl, by decide +kernel, rfl, by decide +kernel, by decide +kernel⟩
abbrev s_settled : Stmt := top 36
abbrev N_settled : List Str := ["part", "left", "zones", "zone"]
theorem sc_settled : FnScope N_settled ["part"] (C8.fnScope s_settled) := ⟨rfl, rfl, rfl, by decide +kernel, rfl, by decide +kernel, by decide +kernel⟩
abbrev s_size_of : Stmt := top 37
abbrev N_size_of : List Str := ["groups", "literals", "others"]
theorem sc_size_of : FnScope N_size_of ["groups"] (C8.fnScope s_size_of) := ⟨rfl, rfl, rfl, by decide +kernel, rfl, by decide +kernel, by decide +kernel⟩
abbrev s_depth_of : Stmt := top 38
abbrev N_depth_of : List Str := ["groups", "deepest", "literals", "others", "depth"]
theorem sc_depth_of : FnScope N_depth_of ["groups"] (C8.fnScope s_depth_of) := ⟨rfl, rfl, rfl, by decide +kernel, rfl, by decide +kernel, by decide +kernel⟩
abbrev s_is_part_inside : Stmt := top 39
abbrev N_is_part_inside : List Str := ["part", "other", "zone", "clauses", "wide", "more", "clause", "left"]
theorem sc_is_part_inside : FnScope N_is_part_inside ["part", "other"] (C8.fnScope s_is_part_inside) := ⟨rfl, rfl, rfl, by decide +kernel, rfl, by decide +kernel, by decide +kernel⟩
abbrev s_has_state : Stmt := top 40
abbrev N_has_state : List Str := ["part", "numbers", "zone", "clauses"]
theorem sc_has_state : FnScope N_has_state ["part", "numbers"] (C8.fnScope s_has_state) := ⟨rfl, rfl, rfl, by decide +kernel, rfl, by decide +kernel, by decide +kernel⟩
abbrev s_fits : Stmt := top 41
abbrev N_fits : List Str := ["group", "numbers", "is_case", "literals", "others", "i", "j", "number", "other"]
theorem sc_fits : FnScope N_fits ["group", "numbers", "is_case"] (C8.fnScope s_fits) := ⟨rfl, rfl, rfl, by decide +kernel, rfl, by decide +kernel, by decide +kernel⟩
abbrev s_merged : Stmt := top 43
abbrev N_merged : List Str := ["cases", "i", "j"]
theorem sc_merged : FnScope N_merged ["cases"] (C8.fnScope s_merged) := ⟨rfl, rfl, rfl, by decide +kernel, rfl, by decide +kernel, by decide +kernel⟩
abbrev s_shared_pairs : Stmt := top 44
abbrev N_shared_pairs : List Str := ["cases", "found", "literals", "clauses", "own", "pair", "i", "j", "number"]
theorem sc_shared_pairs : FnScope N_shared_pairs ["cases"] (C8.fnScope s_shared_pairs) := ⟨rfl, rfl, rfl, by decide +kernel, rfl, by decide +kernel, by decide +kernel⟩
abbrev s_merged_along : Stmt := top 45
abbrev N_merged_along : List Str := ["cases", "i", "j", "found", "strips", "literals", "clauses", "rest", "literal", "strip"]
theorem sc_merged_along : FnScope N_merged_along ["cases", "i", "j"] (C8.fnScope s_merged_along) := ⟨rfl, rfl, rfl, by decide +kernel, rfl, by decide +kernel, by decide +kernel⟩
abbrev s_is_between : Stmt := top 46
abbrev N_is_between : List Str := ["literal", "i", "j"]
theorem sc_is_between : FnScope N_is_between ["literal", "i", "j"] (C8.fnScope s_is_between) := ⟨rfl, rfl, rfl, by decide +kernel, rfl, by decide +kernel, by decide +kernel⟩
abbrev s_strip_of : Stmt := top 47
abbrev N_strip_of : List Str := ["literals", "i", "j", "low", "high", "left", "right", "number"]
theorem sc_strip_of : FnScope N_strip_of ["literals", "i", "j"] (C8.fnScope s_strip_of) := ⟨rfl, rfl, rfl, by decide +kernel, rfl, by decide +kernel, by decide +kernel⟩
abbrev s_bounds : Stmt := top 48
abbrev N_bounds : List Str := ["strip", "i", "j", "low", "high", "found"]
theorem sc_bounds : FnScope N_bounds ["strip", "i", "j"] (C8.fnScope s_bounds) := ⟨rfl, rfl, rfl, by decide +kernel, rfl, by decide +kernel, by decide +kernel⟩
abbrev s_united : Stmt := top 49
abbrev N_united : List Str := ["strips", "highs", "low", "high", "lows", "found", "first", "last"]
theorem sc_united : FnScope N_united ["strips"] (C8.fnScope s_united) := ⟨rfl, rfl, rfl, by decide +kernel, rfl, by decide +kernel, by decide +kernel⟩
abbrev s_any_of : Stmt := top 51
abbrev N_any_of : List Str := ["cases", "found"]
theorem sc_any_of : FnScope N_any_of ["cases"] (C8.fnScope s_any_of) := ⟨rfl, rfl, rfl, by decide +kernel, rfl, by decide +kernel, by decide +kernel⟩
abbrev s_options_of : Stmt := top 52
abbrev N_options_of : List Str := ["clause", "literals", "cases", "literal"]
theorem sc_options_of : FnScope N_options_of ["clause"] (C8.fnScope s_options_of) := ⟨rfl, rfl, rfl, by decide +kernel, rfl, by decide +kernel, by decide +kernel⟩
abbrev s_narrowed : Stmt := top 53
abbrev N_narrowed : List Str := ["part", "case", "literals", "more", "zone"]
theorem sc_narrowed : FnScope N_narrowed ["part", "case"] (C8.fnScope s_narrowed) := ⟨rfl, rfl, rfl, by decide +kernel, rfl, by decide +kernel, by decide +kernel⟩
abbrev s_has_some : Stmt := top 54
abbrev N_has_some : List Str := ["part", "clauses"]
theorem sc_has_some : FnScope N_has_some ["part", "clauses"] (C8.fnScope s_has_some) := ⟨rfl, rfl, rfl, by decide +kernel, rfl, by decide +kernel, by decide +kernel⟩
abbrev s_case_within : Stmt := top 55
abbrev N_case_within : List Str := ["zone", "part", "inner", "clauses", "literal"]
theorem sc_case_within : FnScope N_case_within ["zone", "part"] (C8.fnScope s_case_within) := ⟨rfl, rfl, rfl, by decide +kernel, rfl, by decide +kernel, by decide +kernel⟩
abbrev s_moved : Stmt := top 58
abbrev N_moved : List Str := ["groups", "places", "group"]
theorem sc_moved : FnScope N_moved ["groups", "places"] (C8.fnScope s_moved) := ⟨rfl, rfl, rfl, by decide +kernel, rfl, by decide +kernel, by decide +kernel⟩
abbrev s_moved_group : Stmt := top 59
abbrev N_moved_group : List Str := ["group", "places", "literals", "others", "literal"]
theorem sc_moved_group : FnScope N_moved_group ["group", "places"] (C8.fnScope s_moved_group) := ⟨rfl, rfl, rfl, by decide +kernel, rfl, by decide +kernel, by decide +kernel⟩
abbrev s_moved_literal : Stmt := top 60
abbrev N_moved_literal : List Str := ["literal", "places", "i", "j", "number", "left", "low", "right", "high"]
theorem sc_moved_literal : FnScope N_moved_literal ["literal", "places"] (C8.fnScope s_moved_literal) := ⟨rfl, rfl, rfl, by decide +kernel, rfl, by decide +kernel, by decide +kernel⟩
abbrev s_shadow : Stmt := top 61
abbrev N_shadow : List Str := ["part", "hidden", "given", "zone", "clauses", "found", "group", "clause"]
theorem sc_shadow : FnScope N_shadow ["part", "hidden", "given"] (C8.fnScope s_shadow) := ⟨rfl, rfl, rfl, by decide +kernel, rfl, by decide +kernel, by decide +kernel⟩
abbrev s_shadow_cases : Stmt := top 62
abbrev N_shadow_cases : List Str := ["around", "part", "hidden", "given", "found", "option", "inner", "case"]
theorem sc_shadow_cases : FnScope N_shadow_cases ["around", "part", "hidden", "given"] (C8.fnScope s_shadow_cases) := ⟨rfl, rfl, rfl, by decide +kernel, rfl, by decide +kernel, by decide +kernel⟩
abbrev s_is_about : Stmt := top 63
abbrev N_is_about : List Str := ["group", "indexes", "literals", "others", "i", "j", "number", "other"]
theorem sc_is_about : FnScope N_is_about ["group", "indexes"] (C8.fnScope s_is_about) := ⟨rfl, rfl, rfl, by decide +kernel, rfl, by decide +kernel, by decide +kernel⟩
abbrev s_replaced : Stmt := top 64
abbrev N_replaced : List Str := ["zone", "clauses", "hidden", "places", "k", "i", "row"]
theorem sc_replaced : FnScope N_replaced ["zone", "clauses", "hidden"] (C8.fnScope s_replaced) := ⟨rfl, rfl, rfl, by decide +kernel, rfl, by decide +kernel, by decide +kernel⟩
abbrev s_groups_of : Stmt := top 65
abbrev N_groups_of : List Str := ["zone", "clauses", "hidden", "waiting", "found", "group", "joining", "reach", "clause", "k"]
theorem sc_groups_of : FnScope N_groups_of ["zone", "clauses", "hidden"] (C8.fnScope s_groups_of) := ⟨rfl, rfl, rfl, by decide +kernel, rfl, by decide +kernel, by decide +kernel⟩
abbrev s_is_in_reach : Stmt := top 66
abbrev N_is_in_reach : List Str := ["zone", "group", "hidden", "k", "i"]
theorem sc_is_in_reach : FnScope N_is_in_reach ["zone", "group", "hidden", "k"] (C8.fnScope s_is_in_reach) := ⟨rfl, rfl, rfl, by decide +kernel, rfl, by decide +kernel, by decide +kernel⟩
abbrev s_split_up : Stmt := top 67
abbrev N_split_up : List Str := ["part", "hidden", "zone", "clauses", "literals", "best", "least", "lowest", "k", "about", "bottoms", "by_floors", "many", "clause"]
theorem sc_split_up : FnScope N_split_up ["part", "hidden"] (C8.fnScope s_split_up) := ⟨rfl, rfl, rfl, by decide +kernel, rfl, by decide +kernel, by decide +kernel⟩
abbrev s_split_by_options : Stmt := top 68
abbrev N_split_by_options : List Str := ["part", "k", "zone", "clauses", "about", "clause", "rest", "other", "option"]
theorem sc_split_by_options : FnScope N_split_by_options ["part", "k"] (C8.fnScope s_split_by_options) := ⟨rfl, rfl, rfl, by decide +kernel, rfl, by decide +kernel, by decide +kernel⟩
abbrev s_split_by_floors : Stmt := top 69
abbrev N_split_by_floors : List Str := ["part", "k", "bottoms", "zone", "clauses", "found", "i", "number", "inner", "places", "row", "j"]
theorem sc_split_by_floors : FnScope N_split_by_floors ["part", "k", "bottoms"] (C8.fnScope s_split_by_floors) := ⟨rfl, rfl, rfl, by decide +kernel, rfl, by decide +kernel, by decide +kernel⟩
abbrev s_floors : Stmt := top 70
abbrev N_floors : List Str := ["literals", "k", "found", "i", "j", "number"]
theorem sc_floors : FnScope N_floors ["literals", "k"] (C8.fnScope s_floors) := ⟨rfl, rfl, rfl, by decide +kernel, rfl, by decide +kernel, by decide +kernel⟩
abbrev s_inner_literals : Stmt := top 71
abbrev N_inner_literals : List Str := ["groups", "found", "literals", "others"]
theorem sc_inner_literals : FnScope N_inner_literals ["groups"] (C8.fnScope s_inner_literals) := ⟨rfl, rfl, rfl, by decide +kernel, rfl, by decide +kernel, by decide +kernel⟩
abbrev s_sunk_clauses : Stmt := top 72
abbrev N_sunk_clauses : List Str := ["clauses", "k", "found", "literals", "cases", "i", "j", "number", "literal"]
theorem sc_sunk_clauses : FnScope N_sunk_clauses ["clauses", "k"] (C8.fnScope s_sunk_clauses) := ⟨rfl, rfl, rfl, by decide +kernel, rfl, by decide +kernel, by decide +kernel⟩
abbrev s_sunk_cases : Stmt := top 73
abbrev N_sunk_cases : List Str := ["cases", "k", "found", "literals", "clauses", "i", "j", "number", "literal"]
theorem sc_sunk_cases : FnScope N_sunk_cases ["cases", "k"] (C8.fnScope s_sunk_cases) := ⟨rfl, rfl, rfl, by decide +kernel, rfl, by decide +kernel, by decide +kernel⟩
abbrev s_Cover_init : Stmt := inClass (top 76) 0
abbrev N_Cover_init : List Str := ["self", "parts"]
theorem sc_Cover_init : FnScope N_Cover_init ["self", "parts"] (C8.fnScope s_Cover_init) := ⟨rfl, rfl, rfl, by decide +kernel, rfl, by decide +kernel, by decide +kernel⟩
abbrev s_of_rows : Stmt := top 77
abbrev N_of_rows : List Str := ["rows", "many", "zones", "row", "zone"]
theorem sc_of_rows : FnScope N_of_rows ["rows", "many"] (C8.fnScope s_of_rows) := ⟨rfl, rfl, rfl, by decide +kernel, rfl, by decide +kernel, by decide +kernel⟩
abbrev s_trimmed : Stmt := top 78
abbrev N_trimmed : List Str := ["parts", "kept", "part", "other"]
theorem sc_trimmed : FnScope N_trimmed ["parts"] (C8.fnScope s_trimmed) := ⟨rfl, rfl, rfl, by decide +kernel, rfl, by decide +kernel, by decide +kernel⟩
abbrev s_is_inside_one : Stmt := top 79
abbrev N_is_inside_one : List Str := ["part", "others", "other"]
theorem sc_is_inside_one : FnScope N_is_inside_one ["part", "others"] (C8.fnScope s_is_inside_one) := ⟨rfl, rfl, rfl, by decide +kernel, rfl, by decide +kernel, by decide +kernel⟩
abbrev s_case_of : Stmt := top 80
abbrev N_case_of : List Str := ["part", "zone", "clauses"]
theorem sc_case_of : FnScope N_case_of ["part"] (C8.fnScope s_case_of) := ⟨rfl, rfl, rfl, by decide +kernel, rfl, by decide +kernel, by decide +kernel⟩
abbrev s_either : Stmt := top 81
abbrev N_either : List Str := ["parts", "others", "right", "left", "part"]
theorem sc_either : FnScope N_either ["parts", "others"] (C8.fnScope s_either) := ⟨rfl, rfl, rfl, by decide +kernel, rfl, by decide +kernel, by decide +kernel⟩
abbrev s_widened : Stmt := top 82
abbrev N_widened : List Str := ["parts", "others", "barred", "found", "zone", "clauses", "needless", "other", "clause"]
theorem sc_widened : FnScope N_widened ["parts", "others"] (C8.fnScope s_widened) := ⟨rfl, rfl, rfl, by decide +kernel, rfl, by decide +kernel, by decide +kernel⟩
abbrev s_both : Stmt := top 83
abbrev N_both : List Str := ["parts", "others", "clause", "found", "zone", "clauses", "other"]
theorem sc_both : FnScope N_both ["parts", "others"] (C8.fnScope s_both) := ⟨rfl, rfl, rfl, by decide +kernel, rfl, by decide +kernel, by decide +kernel⟩
abbrev s_less : Stmt := top 84
abbrev N_less : List Str := ["parts", "others", "barred", "found", "zone", "clauses", "other"]
theorem sc_less : FnScope N_less ["parts", "others"] (C8.fnScope s_less) := ⟨rfl, rfl, rfl, by decide +kernel, rfl, by decide +kernel, by decide +kernel⟩
abbrev s_are_inside : Stmt := top 85
abbrev N_are_inside : List Str := ["parts", "others", "barred", "zone", "clauses", "part", "other"]
theorem sc_are_inside : FnScope N_are_inside ["parts", "others"] (C8.fnScope s_are_inside) := ⟨rfl, rfl, rfl, by decide +kernel, rfl, by decide +kernel, by decide +kernel⟩
abbrev s_most_apart : Stmt := top 86
abbrev N_most_apart : List Str := ["parts", "i", "j", "most", "waiting", "left", "apart"]
theorem sc_most_apart : FnScope N_most_apart ["parts", "i", "j"] (C8.fnScope s_most_apart) := ⟨rfl, rfl, rfl, by decide +kernel, rfl, by decide +kernel, by decide +kernel⟩
abbrev s_all_hold : Stmt := top 87
abbrev N_all_hold : List Str := ["parts", "literal", "zone", "clauses", "outer"]
theorem sc_all_hold : FnScope N_all_hold ["parts", "literal"] (C8.fnScope s_all_hold) := ⟨rfl, rfl, rfl, by decide +kernel, rfl, by decide +kernel, by decide +kernel⟩
abbrev s_shadow_of : Stmt := top 88
abbrev N_shadow_of : List Str := ["parts", "k", "kept", "barred", "zone", "clauses", "seen", "i"]
theorem sc_shadow_of : FnScope N_shadow_of ["parts", "k"] (C8.fnScope s_shadow_of) := ⟨rfl, rfl, rfl, by decide +kernel, rfl, by decide +kernel, by decide +kernel⟩
abbrev s_spread_out : Stmt := top 89
abbrev N_spread_out : List Str := ["parts", "olds", "found", "zone", "clauses", "places", "new", "old", "row"]
theorem sc_spread_out : FnScope N_spread_out ["parts", "olds"] (C8.fnScope s_spread_out) := ⟨rfl, rfl, rfl, by decide +kernel, rfl, by decide +kernel, by decide +kernel⟩
abbrev s_rows_of : Stmt := top 90
abbrev N_rows_of : List Str := ["parts", "part", "zone"]
theorem sc_rows_of : FnScope N_rows_of ["parts"] (C8.fnScope s_rows_of) := ⟨rfl, rfl, rfl, by decide +kernel, rfl, by decide +kernel, by decide +kernel⟩
abbrev s_NoLiterals_init : Stmt := inClass (top 93) 0
abbrev N_NoLiterals_init : List Str := ["self", "at"]
theorem sc_NoLiterals_init : FnScope N_NoLiterals_init ["self", "at"] (C8.fnScope s_NoLiterals_init) := ⟨rfl, rfl, rfl, by decide +kernel, rfl, by decide +kernel, by decide +kernel⟩
abbrev s_BadStates_init : Stmt := inClass (top 94) 0
abbrev N_BadStates_init : List Str := ["self", "why"]
theorem sc_BadStates_init : FnScope N_BadStates_init ["self", "why"] (C8.fnScope s_BadStates_init) := ⟨rfl, rfl, rfl, by decide +kernel, rfl, by decide +kernel, by decide +kernel⟩
abbrev s_NoName_init : Stmt := inClass (top 95) 0
abbrev N_NoName_init : List Str := ["self", "term"]
theorem sc_NoName_init : FnScope N_NoName_init ["self", "term"] (C8.fnScope s_NoName_init) := ⟨rfl, rfl, rfl, by decide +kernel, rfl, by decide +kernel, by decide +kernel⟩
abbrev s_is_number : Stmt := top 101
abbrev N_is_number : List Str := ["thing"]
theorem sc_is_number : FnScope N_is_number ["thing"] (C8.fnScope s_is_number) := ⟨rfl, rfl, rfl, by decide +kernel, rfl, by decide +kernel, by decide +kernel⟩
abbrev s_is_word : Stmt := top 102
abbrev N_is_word : List Str := ["thing"]
theorem sc_is_word : FnScope N_is_word ["thing"] (C8.fnScope s_is_word) := ⟨rfl, rfl, rfl, by decide +kernel, rfl, by decide +kernel, by decide +kernel⟩
abbrev s_is_label : Stmt := top 103
abbrev N_is_label : List Str := ["thing"]
theorem sc_is_label : FnScope N_is_label ["thing"] (C8.fnScope s_is_label) := ⟨rfl, rfl, rfl, by decide +kernel, rfl, by decide +kernel, by decide +kernel⟩
abbrev s_are_different : Stmt := top 104
abbrev N_are_different : List Str := ["things"]
theorem sc_are_different : FnScope N_are_different ["things"] (C8.fnScope s_are_different) := ⟨rfl, rfl, rfl, by decide +kernel, rfl, by decide +kernel, by decide +kernel⟩
abbrev s_are_labels : Stmt := top 105
abbrev N_are_labels : List Str := ["thing", "part"]
theorem sc_are_labels : FnScope N_are_labels ["thing"] (C8.fnScope s_are_labels) := ⟨rfl, rfl, rfl, by decide +kernel, rfl, by decide +kernel, by decide +kernel⟩
abbrev s_is_literal : Stmt := top 106
abbrev N_is_literal : List Str := ["thing", "left", "right", "number"]
theorem sc_is_literal : FnScope N_is_literal ["thing"] (C8.fnScope s_is_literal) := ⟨rfl, rfl, rfl, by decide +kernel, rfl, by decide +kernel, by decide +kernel⟩
abbrev s_are_numbers : Stmt := top 107
abbrev N_are_numbers : List Str := ["thing", "names", "name"]
theorem sc_are_numbers : FnScope N_are_numbers ["thing", "names"] (C8.fnScope s_are_numbers) := ⟨rfl, rfl, rfl, by decide +kernel, rfl, by decide +kernel, by decide +kernel⟩
abbrev s_check_literal : Stmt := top 109
abbrev N_check_literal : List Str := ["literal"]
theorem sc_check_literal : FnScope N_check_literal ["literal"] (C8.fnScope s_check_literal) := ⟨rfl, rfl, rfl, by decide +kernel, rfl, by decide +kernel, by decide +kernel⟩
abbrev s_check_term : Stmt := top 110
abbrev N_check_term : List Str := ["term", "names"]
theorem sc_check_term : FnScope N_check_term ["term", "names"] (C8.fnScope s_check_term) := ⟨rfl, rfl, rfl, by decide +kernel, rfl, by decide +kernel, by decide +kernel⟩
abbrev s_check_terms : Stmt := top 111
abbrev N_check_terms : List Str := ["literal", "names"]
theorem sc_check_terms : FnScope N_check_terms ["literal", "names"] (C8.fnScope s_check_terms) := ⟨rfl, rfl, rfl, by decide +kernel, rfl, by decide +kernel, by decide +kernel⟩
abbrev s_are_rows : Stmt := top 113
abbrev N_are_rows : List Str := ["rows", "names", "row", "literal"]
theorem sc_are_rows : FnScope N_are_rows ["rows", "names"] (C8.fnScope s_are_rows) := ⟨rfl, rfl, rfl, by decide +kernel, rfl, by decide +kernel, by decide +kernel⟩
abbrev s_is_over : Stmt := top 114
abbrev N_is_over : List Str := ["literal", "names", "term"]
theorem sc_is_over : FnScope N_is_over ["literal", "names"] (C8.fnScope s_is_over) := ⟨rfl, rfl, rfl, by decide +kernel, rfl, by decide +kernel, by decide +kernel⟩
abbrev s_check_alike : Stmt := top 115
abbrev N_check_alike : List Str := ["one", "other"]
theorem sc_check_alike : FnScope N_check_alike ["one", "other"] (C8.fnScope s_check_alike) := ⟨rfl, rfl, rfl, by decide +kernel, rfl, by decide +kernel, by decide +kernel⟩
abbrev s_States_init : Stmt := inClass (top 116) 0
abbrev N_States_init : List Str := ["self", "names", "rows"]
theorem sc_States_init : FnScope N_States_init ["self", "names", "rows"] (C8.fnScope s_States_init) := ⟨rfl, rfl, rfl, by decide +kernel, rfl, by decide +kernel, by decide +kernel⟩
abbrev s_States__covered : Stmt := inClass (top 116) 1
abbrev N_States__covered : List Str := ["self", "rows", "found", "row", "left", "right", "number"]
theorem sc_States__covered : FnScope N_States__covered ["self", "rows"] (C8.fnScope s_States__covered) := ⟨rfl, rfl, rfl, by decide +kernel, rfl, by decide +kernel, by decide +kernel⟩
abbrev s_States__index : Stmt := inClass (top 116) 2
abbrev N_States__index : List Str := ["self", "term"]
theorem sc_States__index : FnScope N_States__index ["self", "term"] (C8.fnScope s_States__index) := ⟨rfl, rfl, rfl, by decide +kernel, rfl, by decide +kernel, by decide +kernel⟩
abbrev s_States_rows : Stmt := inClass (top 116) 3
abbrev N_States_rows : List Str := ["self", "terms", "found", "row", "i", "j", "number"]
theorem sc_States_rows : FnScope N_States_rows ["self"] (C8.fnScope s_States_rows) := ⟨rfl, rfl, rfl, by decide +kernel, rfl, by decide +kernel, by decide +kernel⟩
abbrev s_States_contains : Stmt := inClass (top 116) 4
abbrev N_States_contains : List Str := ["self", "state", "numbers", "name", "part"]
theorem sc_States_contains : FnScope N_States_contains ["self", "state"] (C8.fnScope s_States_contains) := ⟨rfl, rfl, rfl, by decide +kernel, rfl, by decide +kernel, by decide +kernel⟩
abbrev s_States_eq : Stmt := inClass (top 116) 5
abbrev N_States_eq : List Str := ["self", "other"]
theorem sc_States_eq : FnScope N_States_eq ["self", "other"] (C8.fnScope s_States_eq) := ⟨rfl, rfl, rfl, by decide +kernel, rfl, by decide +kernel, by decide +kernel⟩
abbrev s_States_le : Stmt := inClass (top 116) 6
abbrev N_States_le : List Str := ["self", "other"]
theorem sc_States_le : FnScope N_States_le ["self", "other"] (C8.fnScope s_States_le) := ⟨rfl, rfl, rfl, by decide +kernel, rfl, by decide +kernel, by decide +kernel⟩
abbrev s_States_and : Stmt := inClass (top 116) 7
abbrev N_States_and : List Str := ["self", "other"]
theorem sc_States_and : FnScope N_States_and ["self", "other"] (C8.fnScope s_States_and) := ⟨rfl, rfl, rfl, by decide +kernel, rfl, by decide +kernel, by decide +kernel⟩
abbrev s_States_or : Stmt := inClass (top 116) 8
abbrev N_States_or : List Str := ["self", "other"]
theorem sc_States_or : FnScope N_States_or ["self", "other"] (C8.fnScope s_States_or) := ⟨rfl, rfl, rfl, by decide +kernel, rfl, by decide +kernel, by decide +kernel⟩
abbrev s_States_sub : Stmt := inClass (top 116) 9
abbrev N_States_sub : List Str := ["self", "other"]
theorem sc_States_sub : FnScope N_States_sub ["self", "other"] (C8.fnScope s_States_sub) := ⟨rfl, rfl, rfl, by decide +kernel, rfl, by decide +kernel, by decide +kernel⟩
abbrev s_States_is_empty : Stmt := inClass (top 116) 10
abbrev N_States_is_empty : List Str := ["self"]
theorem sc_States_is_empty : FnScope N_States_is_empty ["self"] (C8.fnScope s_States_is_empty) := ⟨rfl, rfl, rfl, by decide +kernel, rfl, by decide +kernel, by decide +kernel⟩
abbrev s_States_some : Stmt := inClass (top 116) 11
abbrev N_States_some : List Str := ["self", "numbers", "at", "name"]
theorem sc_States_some : FnScope N_States_some ["self"] (C8.fnScope s_States_some) := ⟨rfl, rfl, rfl, by decide +kernel, rfl, by decide +kernel, by decide +kernel⟩
abbrev s_States_holds : Stmt := inClass (top 116) 12
abbrev N_States_holds : List Str := ["self", "literal", "left", "right", "number"]
theorem sc_States_holds : FnScope N_States_holds ["self", "literal"] (C8.fnScope s_States_holds) := ⟨rfl, rfl, rfl, by decide +kernel, rfl, by decide +kernel, by decide +kernel⟩
abbrev s_States_bound : Stmt := inClass (top 116) 13
abbrev N_States_bound : List Str := ["self", "left", "right"]
theorem sc_States_bound : FnScope N_States_bound ["self", "left", "right"] (C8.fnScope s_States_bound) := ⟨rfl, rfl, rfl, by decide +kernel, rfl, by decide +kernel, by decide +kernel⟩
abbrev s_States_without : Stmt := inClass (top 116) 14
abbrev N_States_without : List Str := ["self", "name", "rest", "other"]
theorem sc_States_without : FnScope N_States_without ["self", "name"] (C8.fnScope s_States_without) := ⟨rfl, rfl, rfl, by decide +kernel, rfl, by decide +kernel, by decide +kernel⟩
abbrev s_States_renamed : Stmt := inClass (top 116) 15
abbrev N_States_renamed : List Str := ["self", "old", "new"]
theorem sc_States_renamed : FnScope N_States_renamed ["self", "old", "new"] (C8.fnScope s_States_renamed) := ⟨rfl, rfl, rfl, by decide +kernel, rfl, by decide +kernel, by decide +kernel⟩
abbrev s_States_over : Stmt := inClass (top 116) 16
abbrev N_States_over : List Str := ["self", "more", "name"]
theorem sc_States_over : FnScope N_States_over ["self", "more"] (C8.fnScope s_States_over) := ⟨rfl, rfl, rfl, by decide +kernel, rfl, by decide +kernel, by decide +kernel⟩
abbrev s_States__spread : Stmt := inClass (top 116) 17
abbrev N_States__spread : List Str := ["self", "sources", "names", "olds", "name", "source"]
theorem sc_States__spread : FnScope N_States__spread ["self", "sources"] (C8.fnScope s_States__spread) := ⟨rfl, rfl, rfl, by decide +kernel, rfl, by decide +kernel, by decide +kernel⟩
abbrev s_l_well : Stmt := top 118
abbrev N_l_well : List Str := ["_law_cell"]
theorem sc_l_well : FnScope N_l_well ["_law_cell"] (C8.fnScope s_l_well) := ⟨rfl, rfl, rfl, by decide +kernel, rfl, by decide +kernel, by decide +kernel⟩
abbrev s_l_draw : Stmt := top 119
abbrev N_l_draw : List Str := ["_law_well_here", "_law_base", "_law_digit", "_law_number"]
theorem sc_l_draw : FnScope N_l_draw ["_law_well_here", "_law_base"] (C8.fnScope s_l_draw) := ⟨rfl, rfl, rfl, by decide +kernel, rfl, by decide +kernel, by decide +kernel⟩
abbrev s_l_one : Stmt := top 120
abbrev N_l_one : List Str := ["_law_well_here", "_law_some"]
theorem sc_l_one : FnScope N_l_one ["_law_well_here", "_law_some"] (C8.fnScope s_l_one) := ⟨rfl, rfl, rfl, by decide +kernel, rfl, by decide +kernel, by decide +kernel⟩
abbrev s_l_side : Stmt := top 121
abbrev N_l_side : List Str := ["_law_name", "_law_low", "_law_high"]
theorem sc_l_side : FnScope N_l_side ["_law_name", "_law_low", "_law_high"] (C8.fnScope s_l_side) := ⟨rfl, rfl, rfl, by decide +kernel, rfl, by decide +kernel, by decide +kernel⟩
abbrev s_l_sliced : Stmt := top 122
abbrev N_l_sliced : List Str := ["_law_names", "_law_box", "_law_at", "_law_ends", "_law_rows", "_law_low", "_law_k", "_law_high", "_law_row", "_law_j"]
theorem sc_l_sliced : FnScope N_l_sliced ["_law_names", "_law_box", "_law_at", "_law_ends"] (C8.fnScope s_l_sliced) := ⟨rfl, rfl, rfl, by decide +kernel, rfl, by decide +kernel, by decide +kernel⟩
abbrev s_l_chain : Stmt := top 123
abbrev N_l_chain : List Str := ["_law_well_here", "_law_names", "_law_row", "_law_total", "_law_k", "_law_number", "_law_left", "_law_one_here", "_law_back"]
theorem sc_l_chain : FnScope N_l_chain ["_law_well_here"] (C8.fnScope s_l_chain) := ⟨rfl, rfl, rfl, by decide +kernel, rfl, by decide +kernel, by decide +kernel⟩
abbrev s_law : Stmt := top 124
abbrev N_law : List Str := ["_law_script", "_law_cell", "_law_well_here", "_law_far", "_law_names", "_law_box", "_law_ends", "_law_k", "_law_low", "_law_rows", "_law_one_here", "_law_other", "_law_whole", "_law_due", "_law_at", "_law_high", "_law_less", "_law_part", "_law_thin", "_law_j"]
theorem sc_law : FnScope N_law ["_law_script"] (C8.fnScope s_law) := ⟨rfl, rfl, rfl, by decide +kernel, rfl, by decide +kernel, by decide +kernel⟩
def barred : List Str := ["again", "always", "any", "as", "ask", "below", "catch", "choose", "else", "end", "error", "for", "from", "if", "inputs", "leave", "none", "or", "out", "raise", "read", "return", "set", "try", "value"]
structure Txt (K : PySem.W.Frag) (mg : Str → Option Value) (CC CS aB : Addr) : Prop where
  g_Cover : mg "Cover" = some (.ref CC)
  g_States : mg "States" = some (.ref CS)
  cC : Cls K CC
  cS : Cls K CS
  nC : NoAttr K CC "parts"
  nS : NoAttr K CS "names" ∧ NoAttr K CS "_cover"
  c_LARGE : ∃ u, mg "LARGE" = some u ∧ RelV (.int 1000) u
  c_FULL : ∃ u, mg "FULL" = some u ∧ RelV (.int 1000000000000) u
  c_A_ZONE : ∃ u, mg "A_ZONE" = some u ∧ RelV (.int 10) u
  c_DEEP : ∃ u, mg "DEEP" = some u ∧ RelV (.int 60) u
  c_LONGEST : ∃ u, mg "LONGEST" = some u ∧ RelV (.int 8) u
  c_MOST_PAIRS : ∃ u, mg "MOST_PAIRS" = some u ∧ RelV (.int 100000) u
  c_BARRED : ∃ u, mg "BARRED" = some u ∧ RelV (.ref aB) u
  z_sum : mg "sum" = none
  z_NotImplemented : mg "NotImplemented" = none
  z_isinstance : mg "isinstance" = none
  z_len : mg "len" = none
  z_int : mg "int" = none
  z_bool : mg "bool" = none
  z_str : mg "str" = none
  z_tuple : mg "tuple" = none
  z_list : mg "list" = none
  z_dict : mg "dict" = none
  z_set : mg "set" = none
  z_range : mg "range" = none
  z_enumerate : mg "enumerate" = none
  z_zip : mg "zip" = none
  z_sorted : mg "sorted" = none
  z_all : mg "all" = none
  z_any : mg "any" = none
end K18

namespace K18
open PySem L2 Bx He
def faX : List Fa := [.glo "_law_well", .glo "_law_draw", .glo "_law_one", .glo "is_number", .glo "is_literal", .glo "is_word", .glo "is_label", .glo "are_different", .glo "are_labels", .glo "is_over", .glo "are_rows", .glo "shortened", .glo "met", .glo "met_all", .glo "whole", .glo "is_inside", .glo "head_of", .glo "is_needed", .glo "literals_among", .glo "literals_of", .glo "opposite", .glo "denied", .glo "open_group", .glo "opened", .glo "weight", .glo "lightest", .glo "branches", .glo "free_zone", .glo "free_zones", .glo "depth_of", .glo "size_of", .glo "settled", .glo "is_part_inside", .glo "is_inside_one", .glo "trimmed", .glo "case_of", .glo "less", .glo "both", .glo "of_rows", .glo "check_alike", .glo "are_inside", .glo "check_term", .glo "most_apart", .glo "_law_side", .glo "_law_sliced", .glo "_law_chain", .glo "law", .glo "Cover", .glo "States", .glo "BARRED", .int "LONGEST" 8, .int "MOST_PAIRS" 100000, .int "LARGE" 1000, .int "FULL" 1000000000000, .int "A_ZONE" 10, .int "DEEP" 60, .free "sum", .free "NotImplemented", .free "isinstance", .free "len", .free "int", .free "bool", .free "str", .free "tuple", .free "list", .free "dict", .free "set", .free "range", .free "enumerate", .free "zip", .free "sorted", .free "all", .free "any", .cls "Cover", .cls "States", .noat "Cover" "parts", .noat "States" "names", .noat "States" "_cover", .mkr "Cover", .mkr "States", .meth "States" "_covered", .meth "States" "_index", .meth "States" "__and__", .meth "States" "__sub__", .meth "States" "__le__", .meth "States" "__eq__", .meth "States" "is_empty", .meth "States" "bound"]
def moreX (K : PySem.W.Frag) : Bool := (decide (PySem.W.kitOne K (.type "tuple") (.ref (ga K "Cover")) = some false) && (PySem.W.selfFirst K (ga K "States") && (eqO (PySem.W.specialIn K (.builtin "object.__class__") "__get__") (some (some (.builtin "getset_descriptor.__get__"))) && (decide (PySem.W.takesIn K (.builtin "object.__class__") = some true) && (eqO (PySem.W.findIn K (.ref (ga K "Cover")) "__class__") (some (some (.builtin "object.__class__"))) && (decide (PySem.W.mroIn K (ga K "Cover") (.type "object") = some true) && (decide (PySem.W.kitOne K (.ref (ga K "Cover")) (.ref (ga K "Cover")) = some true) && (eqO (PySem.W.findIn K (.ref (ga K "States")) "__class__") (some (some (.builtin "object.__class__"))) && (decide (PySem.W.mroIn K (ga K "States") (.type "object") = some true) && (decide (PySem.W.kitOne K (.ref (ga K "States")) (.ref (ga K "States")) = some true) && (eqO (PySem.W.findIn K (.ref (ga K "States")) "__ne__") (some (some (.builtin "object.__ne__"))) && true)))))))))))
def BX (K : PySem.W.Frag) : Bool := (faX.all fun f => f.ok K) && moreX K
def fnX : List Hy.DX := [⟨fun K => ga K "_law_well", "_law_well", "_law_well", C8.fnArgs s_l_well, C8.fnBody s_l_well, C8.fnScope s_l_well⟩, ⟨fun K => ga K "_law_draw", "_law_draw", "_law_draw", C8.fnArgs s_l_draw, C8.fnBody s_l_draw, C8.fnScope s_l_draw⟩, ⟨fun K => ga K "_law_one", "_law_one", "_law_one", C8.fnArgs s_l_one, C8.fnBody s_l_one, C8.fnScope s_l_one⟩, ⟨fun K => ga K "is_number", "is_number", "is_number", C8.fnArgs s_is_number, C8.fnBody s_is_number, C8.fnScope s_is_number⟩, ⟨fun K => ga K "is_literal", "is_literal", "is_literal", C8.fnArgs s_is_literal, C8.fnBody s_is_literal, C8.fnScope s_is_literal⟩, ⟨fun K => ga K "is_word", "is_word", "is_word", C8.fnArgs s_is_word, C8.fnBody s_is_word, C8.fnScope s_is_word⟩, ⟨fun K => ga K "is_label", "is_label", "is_label", C8.fnArgs s_is_label, C8.fnBody s_is_label, C8.fnScope s_is_label⟩, ⟨fun K => ga K "are_different", "are_different", "are_different", C8.fnArgs s_are_different, C8.fnBody s_are_different, C8.fnScope s_are_different⟩, ⟨fun K => ga K "are_labels", "are_labels", "are_labels", C8.fnArgs s_are_labels, C8.fnBody s_are_labels, C8.fnScope s_are_labels⟩, ⟨fun K => ga K "is_over", "is_over", "is_over", C8.fnArgs s_is_over, C8.fnBody s_is_over, C8.fnScope s_is_over⟩, ⟨fun K => ga K "are_rows", "are_rows", "are_rows", C8.fnArgs s_are_rows, C8.fnBody s_are_rows, C8.fnScope s_are_rows⟩, ⟨fun K => ga K "shortened", "shortened", "shortened", C8.fnArgs s_shortened, C8.fnBody s_shortened, C8.fnScope s_shortened⟩, ⟨fun K => ga K "met", "met", "met", C8.fnArgs s_met, C8.fnBody s_met, C8.fnScope s_met⟩, ⟨fun K => ga K "met_all", "met_all", "met_all", C8.fnArgs s_met_all, C8.fnBody s_met_all, C8.fnScope s_met_all⟩, ⟨fun K => ga K "whole", "whole", "whole", C8.fnArgs s_whole, C8.fnBody s_whole, C8.fnScope s_whole⟩, ⟨fun K => ga K "is_inside", "is_inside", "is_inside", C8.fnArgs s_is_inside, C8.fnBody s_is_inside, C8.fnScope s_is_inside⟩, ⟨fun K => ga K "head_of", "head_of", "head_of", C8.fnArgs s_head_of, C8.fnBody s_head_of, C8.fnScope s_head_of⟩, ⟨fun K => ga K "is_needed", "is_needed", "is_needed", C8.fnArgs s_is_needed, C8.fnBody s_is_needed, C8.fnScope s_is_needed⟩, ⟨fun K => ga K "literals_among", "literals_among", "literals_among", C8.fnArgs s_literals_among, C8.fnBody s_literals_among, C8.fnScope s_literals_among⟩, ⟨fun K => ga K "literals_of", "literals_of", "literals_of", C8.fnArgs s_literals_of, C8.fnBody s_literals_of, C8.fnScope s_literals_of⟩, ⟨fun K => ga K "opposite", "opposite", "opposite", C8.fnArgs s_opposite, C8.fnBody s_opposite, C8.fnScope s_opposite⟩, ⟨fun K => ga K "denied", "denied", "denied", C8.fnArgs s_denied, C8.fnBody s_denied, C8.fnScope s_denied⟩, ⟨fun K => ga K "open_group", "open_group", "open_group", C8.fnArgs s_open_group, C8.fnBody s_open_group, C8.fnScope s_open_group⟩, ⟨fun K => ga K "opened", "opened", "opened", C8.fnArgs s_opened, C8.fnBody s_opened, C8.fnScope s_opened⟩, ⟨fun K => ga K "weight", "weight", "weight", C8.fnArgs s_weight, C8.fnBody s_weight, C8.fnScope s_weight⟩, ⟨fun K => ga K "lightest", "lightest", "lightest", C8.fnArgs s_lightest, C8.fnBody s_lightest, C8.fnScope s_lightest⟩, ⟨fun K => ga K "branches", "branches", "branches", C8.fnArgs s_branches, C8.fnBody s_branches, C8.fnScope s_branches⟩, ⟨fun K => ga K "free_zone", "free_zone", "free_zone", C8.fnArgs s_free_zone, C8.fnBody s_free_zone, C8.fnScope s_free_zone⟩, ⟨fun K => ga K "free_zones", "free_zones", "free_zones", C8.fnArgs s_free_zones, C8.fnBody s_free_zones, C8.fnScope s_free_zones⟩, ⟨fun K => ga K "depth_of", "depth_of", "depth_of", C8.fnArgs s_depth_of, C8.fnBody s_depth_of, C8.fnScope s_depth_of⟩, ⟨fun K => ga K "size_of", "size_of", "size_of", C8.fnArgs s_size_of, C8.fnBody s_size_of, C8.fnScope s_size_of⟩, ⟨fun K => ga K "settled", "settled", "settled", C8.fnArgs s_settled, C8.fnBody s_settled, C8.fnScope s_settled⟩, ⟨fun K => ga K "is_part_inside", "is_part_inside", "is_part_inside", C8.fnArgs s_is_part_inside, C8.fnBody s_is_part_inside, C8.fnScope s_is_part_inside⟩, ⟨fun K => ga K "is_inside_one", "is_inside_one", "is_inside_one", C8.fnArgs s_is_inside_one, C8.fnBody s_is_inside_one, C8.fnScope s_is_inside_one⟩, ⟨fun K => ga K "trimmed", "trimmed", "trimmed", C8.fnArgs s_trimmed, C8.fnBody s_trimmed, C8.fnScope s_trimmed⟩, ⟨fun K => ga K "case_of", "case_of", "case_of", C8.fnArgs s_case_of, C8.fnBody s_case_of, C8.fnScope s_case_of⟩, ⟨fun K => ga K "less", "less", "less", C8.fnArgs s_less, C8.fnBody s_less, C8.fnScope s_less⟩, ⟨fun K => ga K "both", "both", "both", C8.fnArgs s_both, C8.fnBody s_both, C8.fnScope s_both⟩, ⟨fun K => ga K "of_rows", "of_rows", "of_rows", C8.fnArgs s_of_rows, C8.fnBody s_of_rows, C8.fnScope s_of_rows⟩, ⟨fun K => ga K "check_alike", "check_alike", "check_alike", C8.fnArgs s_check_alike, C8.fnBody s_check_alike, C8.fnScope s_check_alike⟩, ⟨fun K => ga K "are_inside", "are_inside", "are_inside", C8.fnArgs s_are_inside, C8.fnBody s_are_inside, C8.fnScope s_are_inside⟩, ⟨fun K => ga K "check_term", "check_term", "check_term", C8.fnArgs s_check_term, C8.fnBody s_check_term, C8.fnScope s_check_term⟩, ⟨fun K => ga K "most_apart", "most_apart", "most_apart", C8.fnArgs s_most_apart, C8.fnBody s_most_apart, C8.fnScope s_most_apart⟩, ⟨fun K => ga K "_law_side", "_law_side", "_law_side", C8.fnArgs s_l_side, C8.fnBody s_l_side, C8.fnScope s_l_side⟩, ⟨fun K => ga K "_law_sliced", "_law_sliced", "_law_sliced", C8.fnArgs s_l_sliced, C8.fnBody s_l_sliced, C8.fnScope s_l_sliced⟩, ⟨fun K => ga K "_law_chain", "_law_chain", "_law_chain", C8.fnArgs s_l_chain, C8.fnBody s_l_chain, C8.fnScope s_l_chain⟩, ⟨fun K => ga K "law", "law", "law", C8.fnArgs s_law, C8.fnBody s_law, C8.fnScope s_law⟩, ⟨fun K => ma K (ga K "Cover") "__init__", "__init__", "Cover.__init__", C8.fnArgs s_Cover_init, C8.fnBody s_Cover_init, C8.fnScope s_Cover_init⟩, ⟨fun K => ma K (ga K "States") "__init__", "__init__", "States.__init__", C8.fnArgs s_States_init, C8.fnBody s_States_init, C8.fnScope s_States_init⟩, ⟨fun K => ma K (ga K "States") "_covered", "_covered", "States._covered", C8.fnArgs s_States__covered, C8.fnBody s_States__covered, C8.fnScope s_States__covered⟩, ⟨fun K => ma K (ga K "States") "_index", "_index", "States._index", C8.fnArgs s_States__index, C8.fnBody s_States__index, C8.fnScope s_States__index⟩, ⟨fun K => ma K (ga K "States") "__and__", "__and__", "States.__and__", C8.fnArgs s_States_and, C8.fnBody s_States_and, C8.fnScope s_States_and⟩, ⟨fun K => ma K (ga K "States") "__sub__", "__sub__", "States.__sub__", C8.fnArgs s_States_sub, C8.fnBody s_States_sub, C8.fnScope s_States_sub⟩, ⟨fun K => ma K (ga K "States") "__le__", "__le__", "States.__le__", C8.fnArgs s_States_le, C8.fnBody s_States_le, C8.fnScope s_States_le⟩, ⟨fun K => ma K (ga K "States") "__eq__", "__eq__", "States.__eq__", C8.fnArgs s_States_eq, C8.fnBody s_States_eq, C8.fnScope s_States_eq⟩, ⟨fun K => ma K (ga K "States") "is_empty", "is_empty", "States.is_empty", C8.fnArgs s_States_is_empty, C8.fnBody s_States_is_empty, C8.fnScope s_States_is_empty⟩, ⟨fun K => ma K (ga K "States") "bound", "bound", "States.bound", C8.fnArgs s_States_bound, C8.fnBody s_States_bound, C8.fnScope s_States_bound⟩]
def tsX : List Tab := [(fun K => ga K "BARRED", barred)]
end K18

set_option maxHeartbeats 0
namespace K18
open PySem PySem.W PySem.Calls PyProof.Rows
def nm0 : List PySem.Str := ["_wall", "__name__", "whole", "opposite", "follows", "met", "shortened", "met_all", "is_inside", "literals_of", "literals_among", "head_of", "is_needed", "spread", "number_at", "point_of", "has_point", "freed", "are_linked", "is_link"]
def nm1 : List PySem.Str := ["greater", "EMPTY", "FULL", "LARGE", "A_ZONE", "DEEP", "denied", "open_group", "flat", "opened", "weight", "lightest", "branches", "free_zone", "free_zones", "settled", "size_of", "depth_of", "is_part_inside", "has_state"]
def nm2 : List PySem.Str := ["fits", "merged", "shared_pairs", "merged_along", "is_between", "strip_of", "bounds", "united", "any_of", "options_of", "narrowed", "has_some", "case_within", "A_FLOOR", "moved", "moved_group", "moved_literal", "shadow", "shadow_cases", "is_about"]
def nm3 : List PySem.Str := ["replaced", "groups_of", "is_in_reach", "split_up", "split_by_options", "split_by_floors", "floors", "inner_literals", "sunk_clauses", "sunk_cases", "MOST_PAIRS", "Cover", "of_rows", "trimmed", "is_inside_one", "case_of", "either", "widened", "both", "less"]
def nm4 : List PySem.Str := ["are_inside", "most_apart", "all_hold", "shadow_of", "spread_out", "rows_of", "BehindError", "NoLiterals", "BadStates", "NoName", "NoStates", "Unlike", "LONGEST", "BARRED", "is_number", "is_word", "is_label", "are_different", "are_labels", "is_literal"]
def nm5 : List PySem.Str := ["are_numbers", "check_literal", "check_term", "check_terms", "are_rows", "is_over", "check_alike", "States", "_law_well", "_law_draw", "_law_one", "_law_side", "_law_sliced", "_law_chain"]
abbrev nms : List PySem.Str := nm0 ++ nm1 ++ nm2 ++ nm3 ++ nm4 ++ nm5
abbrev R : PySem.W.OpenRow := PySem.W.OpenLaw.row PySem.Challenge.rw_behindexits_k18_wide_sets
abbrev hkX : PySem.W.Hook := Hy.hookY BX fnX tsX
def obX (s : PySem.W.SharedT) : Hy.AlY := Hy.obsYG BX fnX tsX (HandSHeadRun.getT s)
theorem obX_eq (s : PySem.W.SharedT) : obX s = hkX.obs s.abs := Hy.obsYG_eq (HandSHeadRun.getT_eq s)
abbrev RunX (w : World) : Prop := HandSHeadRun.RunEq R (PySem.W.view R.prog [124]) hkX obX 8000 nms w
theorem runF (w : World) : RunX (w.withFollow "special-get-raises" false) := by
  intro os
  kernel_rfl
theorem runT (w : World) : RunX (w.withFollow "special-get-raises" true) := by
  intro os
  kernel_rfl
theorem run (w : World) : RunX w := byRow2 "special-get-raises" (P := RunX) runF runT w
end K18

/-! groups: a case holds where all its literals and all its clauses hold, a clause where one of its literals or one of its cases does. What open_group and flat do with them. No Python in it. -/
namespace Zg
open Zn
inductive G where
  | mk (ls : List Lit) (gs : List G)
def G.lits : G → List Lit | .mk ls _ => ls
def G.subs : G → List G | .mk _ gs => gs
mutual
/-- does the group hold at x; c: as a case -/
def Hd (c : Bool) (x : Nat → Int) : G → Prop
  | .mk ls gs => if c then (∀ l ∈ ls, Hl x l) ∧ HdAll (!c) x gs else (∃ l ∈ ls, Hl x l) ∨ HdAny (!c) x gs
def HdAll (c : Bool) (x : Nat → Int) : List G → Prop
  | [] => True
  | g :: gs => Hd c x g ∧ HdAll c x gs
def HdAny (c : Bool) (x : Nat → Int) : List G → Prop
  | [] => False
  | g :: gs => Hd c x g ∨ HdAny c x gs
end
theorem hdAll_iff {c : Bool} {x : Nat → Int} : ∀ {gs : List G}, HdAll c x gs ↔ ∀ g ∈ gs, Hd c x g
  | [] => by simp [HdAll]
  | g :: gs => by simp [HdAll, hdAll_iff (gs := gs)]
theorem hdAny_iff {c : Bool} {x : Nat → Int} : ∀ {gs : List G}, HdAny c x gs ↔ ∃ g ∈ gs, Hd c x g
  | [] => by simp [HdAny]
  | g :: gs => by simp [HdAny, hdAny_iff (gs := gs)]
theorem hd_case {x : Nat → Int} {ls : List Lit} {gs : List G} : Hd true x (.mk ls gs) ↔ (∀ l ∈ ls, Hl x l) ∧ ∀ g ∈ gs, Hd false x g := by
  simp [Hd, hdAll_iff]
theorem hd_clause {x : Nat → Int} {ls : List Lit} {gs : List G} : Hd false x (.mk ls gs) ↔ (∃ l ∈ ls, Hl x l) ∨ ∃ g ∈ gs, Hd true x g := by
  simp [Hd, hdAny_iff]
/-- what is left of the literals: none where they decide the group -/
def plain (d : Z) (c : Bool) : List Lit → Option (List Lit)
  | [] => some []
  | l :: r => if follows d l then (if c then plain d c r else none) else if fails d l then (if c then none else plain d c r) else (plain d c r).map (l :: ·)
/-- is it the group of nothing -/
def isE : G → Bool
  | .mk [] [] => true
  | _ => false
def flat (ls : List Lit) : List G → List Lit × List G
  | [] => (ls, [])
  | g :: r => match g with
    | .mk [l] [] => flat (ls ++ [l]) r
    | .mk [] [.mk ls' gs'] => let q := flat (ls ++ ls') r; (q.1, gs' ++ q.2)
    | g => let q := flat ls r; (q.1, g :: q.2)
mutual
def opn (d : Z) (c : Bool) : G → Option G
  | .mk ls gs => match plain d c ls with
    | none => none
    | some p => if gs.isEmpty then some (.mk p []) else match opnAll d c gs with
      | none => none
      | some r => some (.mk (flat p r).1 (flat p r).2)
def opnAll (d : Z) (c : Bool) : List G → Option (List G)
  | [] => some []
  | g :: gs => match opn d (!c) g with
    | none => opnAll d c gs
    | some h => if isE h then none else (opnAll d c gs).map (h :: ·)
end
variable {m : Nat} {d : Z} {x : Nat → Int}
theorem follows_hl {l : Lit} (h1 : l.1 < m) (h2 : l.2.1 < m) (S : Sat m d x) (h : follows d l = true) : Hl x l := by
  obtain ⟨a, e, q⟩ := follows_iff.mp h
  have := S _ _ _ h1 h2 e
  unfold Hl
  omega
theorem fails_hl {l : Lit} (h1 : l.1 < m) (h2 : l.2.1 < m) (S : Sat m d x) (h : fails d l = true) : ¬ Hl x l := by
  obtain ⟨b, e, q⟩ := fails_iff.mp h
  have := S _ _ _ h2 h1 e
  unfold Hl
  omega
theorem plain_case (S : Sat m d x) : ∀ {ls : List Lit}, Ok m ls → (∀ p, plain d true ls = some p → ((∀ l ∈ p, Hl x l) ↔ ∀ l ∈ ls, Hl x l) ∧ ∀ l ∈ p, l ∈ ls) ∧ (plain d true ls = none → ¬ ∀ l ∈ ls, Hl x l)
  | [], _ => ⟨fun p h => by cases h; simp, fun h => by cases h⟩
  | l :: r, ok => by
    obtain ⟨a1, a2⟩ := plain_case S (ls := r) fun l hl => ok l (List.mem_cons_of_mem _ hl)
    obtain ⟨o1, o2⟩ := ok l List.mem_cons_self
    unfold plain
    by_cases f : follows d l = true
    · rw [if_pos f, if_pos rfl]
      have hl := follows_hl o1 o2 S f
      refine ⟨fun p h => ?_, fun h => ?_⟩
      · obtain ⟨b1, b2⟩ := a1 p h
        refine ⟨b1.trans ⟨fun z => ?_, fun z l hl => z l (List.mem_cons_of_mem _ hl)⟩, fun l hl => List.mem_cons_of_mem _ (b2 l hl)⟩
        intro q hq
        rcases List.mem_cons.mp hq with rfl | hq
        · exact hl
        · exact z q hq
      · exact fun z => a2 h fun l hl => z l (List.mem_cons_of_mem _ hl)
    · rw [if_neg f]
      by_cases g : fails d l = true
      · rw [if_pos g, if_pos rfl]
        exact ⟨fun p h => (by cases h), fun _ z => fails_hl o1 o2 S g (z l List.mem_cons_self)⟩
      · rw [if_neg g]
        refine ⟨fun p h => ?_, fun h => ?_⟩
        · obtain ⟨q, hq, rfl⟩ := Option.map_eq_some_iff.mp h
          obtain ⟨b1, b2⟩ := a1 q hq
          simp only [List.forall_mem_cons]
          exact ⟨⟨fun z => ⟨z.1, b1.mp z.2⟩, fun z => ⟨z.1, b1.mpr z.2⟩⟩, List.mem_cons_self, fun l hl => List.mem_cons_of_mem _ (b2 l hl)⟩
        · exact fun z => a2 (by simpa using h) fun l hl => z l (List.mem_cons_of_mem _ hl)
theorem plain_clause (S : Sat m d x) : ∀ {ls : List Lit}, Ok m ls → (∀ p, plain d false ls = some p → ((∃ l ∈ p, Hl x l) ↔ ∃ l ∈ ls, Hl x l) ∧ ∀ l ∈ p, l ∈ ls) ∧ (plain d false ls = none → ∃ l ∈ ls, Hl x l)
  | [], _ => ⟨fun p h => by cases h; simp, fun h => by cases h⟩
  | l :: r, ok => by
    obtain ⟨a1, a2⟩ := plain_clause S (ls := r) fun l hl => ok l (List.mem_cons_of_mem _ hl)
    obtain ⟨o1, o2⟩ := ok l List.mem_cons_self
    unfold plain
    by_cases f : follows d l = true
    · rw [if_pos f, if_neg (by decide)]
      exact ⟨fun p h => (by cases h), fun _ => ⟨l, List.mem_cons_self, follows_hl o1 o2 S f⟩⟩
    · rw [if_neg f]
      by_cases g : fails d l = true
      · rw [if_pos g, if_neg (by decide)]
        have hl := fails_hl o1 o2 S g
        refine ⟨fun p h => ?_, fun h => ?_⟩
        · obtain ⟨b1, b2⟩ := a1 p h
          refine ⟨b1.trans ⟨fun ⟨q, hq, z⟩ => ⟨q, List.mem_cons_of_mem _ hq, z⟩, fun ⟨q, hq, z⟩ => ?_⟩, fun l hl => List.mem_cons_of_mem _ (b2 l hl)⟩
          rcases List.mem_cons.mp hq with rfl | hq
          · exact absurd z hl
          · exact ⟨q, hq, z⟩
        · obtain ⟨q, hq, z⟩ := a2 h
          exact ⟨q, List.mem_cons_of_mem _ hq, z⟩
      · rw [if_neg g]
        refine ⟨fun p h => ?_, fun h => ?_⟩
        · obtain ⟨q, hq, rfl⟩ := Option.map_eq_some_iff.mp h
          obtain ⟨b1, b2⟩ := a1 q hq
          simp only [List.forall_mem_cons, List.mem_cons, or_and_right, exists_or, exists_eq_left]
          exact ⟨or_congr Iff.rfl b1, fun u hu => hu.imp id (b2 u)⟩
        · obtain ⟨q, hq, z⟩ := a2 (by simpa using h)
          exact ⟨q, List.mem_cons_of_mem _ hq, z⟩
theorem flat_case : ∀ (gs : List G) (ls : List Lit), ((∀ l ∈ (flat ls gs).1, Hl x l) ∧ ∀ g ∈ (flat ls gs).2, Hd false x g) ↔ (∀ l ∈ ls, Hl x l) ∧ ∀ g ∈ gs, Hd false x g
  | [], ls => by simp [flat]
  | .mk [l] [] :: r, ls => by
    have ih := flat_case r (ls ++ [l])
    simp only [flat]
    rw [ih]
    simp only [List.forall_mem_cons, List.mem_append, or_imp, forall_and, List.mem_singleton, forall_eq, hd_clause, List.not_mem_nil, false_and, exists_false, or_false, exists_eq_left]
    exact ⟨fun ⟨⟨a, b⟩, c⟩ => ⟨a, b, c⟩, fun ⟨a, b, c⟩ => ⟨⟨a, b⟩, c⟩⟩
  | .mk [] [.mk ls' gs'] :: r, ls => by
    have ih := flat_case r (ls ++ ls')
    simp only [flat]
    simp only [List.forall_mem_cons, List.mem_append, or_imp, forall_and] at ih ⊢
    have e : Hd false x (.mk [] [.mk ls' gs']) ↔ (∀ l ∈ ls', Hl x l) ∧ ∀ g ∈ gs', Hd false x g := by
      rw [hd_clause]
      simp [hd_case]
    rw [e]
    constructor
    · rintro ⟨a, b, c⟩
      obtain ⟨⟨d1, d2⟩, d3⟩ := ih.mp ⟨a, c⟩
      exact ⟨d1, ⟨d2, b⟩, d3⟩
    · rintro ⟨a, ⟨b, c⟩, d⟩
      obtain ⟨e1, e2⟩ := ih.mpr ⟨⟨a, b⟩, d⟩
      exact ⟨e1, c, e2⟩
  | .mk [] [] :: r, ls => by
    have ih := flat_case r ls
    simp only [flat, List.forall_mem_cons]
    exact ⟨fun ⟨a, b, c⟩ => ⟨(ih.mp ⟨a, c⟩).1, b, (ih.mp ⟨a, c⟩).2⟩, fun ⟨a, b, c⟩ => ⟨(ih.mpr ⟨a, c⟩).1, b, (ih.mpr ⟨a, c⟩).2⟩⟩
  | .mk [] (_ :: _ :: _) :: r, ls => by
    have ih := flat_case r ls
    simp only [flat, List.forall_mem_cons]
    exact ⟨fun ⟨a, b, c⟩ => ⟨(ih.mp ⟨a, c⟩).1, b, (ih.mp ⟨a, c⟩).2⟩, fun ⟨a, b, c⟩ => ⟨(ih.mpr ⟨a, c⟩).1, b, (ih.mpr ⟨a, c⟩).2⟩⟩
  | .mk [_] (_ :: _) :: r, ls => by
    have ih := flat_case r ls
    simp only [flat, List.forall_mem_cons]
    exact ⟨fun ⟨a, b, c⟩ => ⟨(ih.mp ⟨a, c⟩).1, b, (ih.mp ⟨a, c⟩).2⟩, fun ⟨a, b, c⟩ => ⟨(ih.mpr ⟨a, c⟩).1, b, (ih.mpr ⟨a, c⟩).2⟩⟩
  | .mk (_ :: _ :: _) _ :: r, ls => by
    have ih := flat_case r ls
    simp only [flat, List.forall_mem_cons]
    exact ⟨fun ⟨a, b, c⟩ => ⟨(ih.mp ⟨a, c⟩).1, b, (ih.mp ⟨a, c⟩).2⟩, fun ⟨a, b, c⟩ => ⟨(ih.mpr ⟨a, c⟩).1, b, (ih.mpr ⟨a, c⟩).2⟩⟩
theorem flat_clause : ∀ (gs : List G) (ls : List Lit), ((∃ l ∈ (flat ls gs).1, Hl x l) ∨ ∃ g ∈ (flat ls gs).2, Hd true x g) ↔ (∃ l ∈ ls, Hl x l) ∨ ∃ g ∈ gs, Hd true x g
  | [], ls => by simp [flat]
  | .mk [l] [] :: r, ls => by
    have ih := flat_clause r (ls ++ [l])
    simp only [flat]
    rw [ih]
    have e : Hd true x (.mk [l] []) ↔ Hl x l := by simp [hd_case]
    simp only [List.mem_append, List.mem_cons, or_and_right, exists_or, exists_eq_left, List.not_mem_nil, false_and, exists_false, or_false, e, or_assoc]
  | .mk [] [.mk ls' gs'] :: r, ls => by
    have ih := flat_clause r (ls ++ ls')
    have e : Hd true x (.mk [] [.mk ls' gs']) ↔ (∃ l ∈ ls', Hl x l) ∨ ∃ g ∈ gs', Hd true x g := by
      rw [hd_case]
      simp [hd_clause]
    simp only [flat]
    simp only [List.mem_append, List.mem_cons, or_and_right, exists_or, exists_eq_left, e] at ih ⊢
    constructor
    · rintro (a | b | c)
      · rcases ih.mp (.inl a) with (z | z) | z
        · exact .inl z
        · exact .inr (.inl (.inl z))
        · exact .inr (.inr z)
      · exact .inr (.inl (.inr b))
      · rcases ih.mp (.inr c) with (z | z) | z
        · exact .inl z
        · exact .inr (.inl (.inl z))
        · exact .inr (.inr z)
    · rintro (a | (b | b) | c)
      · exact (ih.mpr (.inl (.inl a))).imp id .inr
      · exact (ih.mpr (.inl (.inr b))).imp id .inr
      · exact .inr (.inl b)
      · exact (ih.mpr (.inr c)).imp id .inr
  | .mk [] [] :: r, ls => by
    have ih := flat_clause r ls
    simp only [flat, List.mem_cons, or_and_right, exists_or, exists_eq_left]
    constructor
    · rintro (a | b | c)
      · exact (ih.mp (.inl a)).imp id .inr
      · exact .inr (.inl b)
      · exact (ih.mp (.inr c)).imp id .inr
    · rintro (a | b | c)
      · exact (ih.mpr (.inl a)).imp id .inr
      · exact .inr (.inl b)
      · exact (ih.mpr (.inr c)).imp id .inr
  | .mk [] (_ :: _ :: _) :: r, ls => by
    have ih := flat_clause r ls
    simp only [flat, List.mem_cons, or_and_right, exists_or, exists_eq_left]
    constructor
    · rintro (a | b | c)
      · exact (ih.mp (.inl a)).imp id .inr
      · exact .inr (.inl b)
      · exact (ih.mp (.inr c)).imp id .inr
    · rintro (a | b | c)
      · exact (ih.mpr (.inl a)).imp id .inr
      · exact .inr (.inl b)
      · exact (ih.mpr (.inr c)).imp id .inr
  | .mk [_] (_ :: _) :: r, ls => by
    have ih := flat_clause r ls
    simp only [flat, List.mem_cons, or_and_right, exists_or, exists_eq_left]
    constructor
    · rintro (a | b | c)
      · exact (ih.mp (.inl a)).imp id .inr
      · exact .inr (.inl b)
      · exact (ih.mp (.inr c)).imp id .inr
    · rintro (a | b | c)
      · exact (ih.mpr (.inl a)).imp id .inr
      · exact .inr (.inl b)
      · exact (ih.mpr (.inr c)).imp id .inr
  | .mk (_ :: _ :: _) _ :: r, ls => by
    have ih := flat_clause r ls
    simp only [flat, List.mem_cons, or_and_right, exists_or, exists_eq_left]
    constructor
    · rintro (a | b | c)
      · exact (ih.mp (.inl a)).imp id .inr
      · exact .inr (.inl b)
      · exact (ih.mp (.inr c)).imp id .inr
    · rintro (a | b | c)
      · exact (ih.mpr (.inl a)).imp id .inr
      · exact .inr (.inl b)
      · exact (ih.mpr (.inr c)).imp id .inr
mutual
def OkG (m : Nat) : G → Prop
  | .mk ls gs => Ok m ls ∧ OkGs m gs
def OkGs (m : Nat) : List G → Prop
  | [] => True
  | g :: gs => OkG m g ∧ OkGs m gs
end
theorem isE_hd {g : G} {c : Bool} (h : isE g = true) : Hd c x g ↔ c = true := by
  match g, h with
  | .mk [] [], _ => cases c <;> simp [hd_case, hd_clause]
/-- all of them hold, or one of them does -/
def J (c : Bool) (x : Nat → Int) (gs : List G) : Prop := if c then ∀ g ∈ gs, Hd false x g else ∃ g ∈ gs, Hd true x g
theorem hd_mk {c : Bool} {ls : List Lit} {gs : List G} : Hd c x (.mk ls gs) ↔ if c then (∀ l ∈ ls, Hl x l) ∧ J true x gs else (∃ l ∈ ls, Hl x l) ∨ J false x gs := by
  cases c
  · simp [hd_clause, J]
  · simp [hd_case, J]
mutual
/-- what is left of a group holds where the group does; where nothing is left, a case fails and a clause holds -/
theorem opn_ok (S : Sat m d x) : ∀ (c : Bool) (g : G), OkG m g → (∀ h, opn d c g = some h → (Hd c x h ↔ Hd c x g)) ∧ (opn d c g = none → (Hd c x g ↔ c = false))
  | c, .mk ls gs, ok => by
    obtain ⟨o1, o2⟩ := ok
    have A := opnAll_ok S c gs o2
    unfold opn
    cases c with
    | true =>
      obtain ⟨a1, a2⟩ := plain_case S o1
      cases hp : plain d true ls with
      | none => exact ⟨fun h e => (by cases e), fun _ => by rw [hd_case]; simp only [Bool.true_eq_false, iff_false]; exact fun z => a2 hp z.1⟩
      | some p =>
        obtain ⟨b1, _⟩ := a1 p hp
        dsimp only
        by_cases e : gs.isEmpty = true
        · rw [if_pos e]
          have : gs = [] := by simpa using e
          subst this
          refine ⟨fun h q => ?_, fun q => (by cases q)⟩
          cases q
          rw [hd_case, hd_case]
          exact and_congr b1 Iff.rfl
        · rw [if_neg e]
          cases hq : opnAll d true gs with
          | none => exact ⟨fun h e => (by cases e), fun _ => by rw [hd_mk]; simp only [if_true, Bool.true_eq_false, iff_false]; exact fun z => (A.2 hq) z.2⟩
          | some r =>
            refine ⟨fun h q => ?_, fun q => (by cases q)⟩
            cases q
            rw [hd_case, flat_case, hd_mk]
            simp only [if_true]
            exact and_congr b1 (A.1 r hq)
    | false =>
      obtain ⟨a1, a2⟩ := plain_clause S o1
      cases hp : plain d false ls with
      | none => exact ⟨fun h e => (by cases e), fun _ => by rw [hd_clause]; simp only [iff_true]; exact .inl (a2 hp)⟩
      | some p =>
        obtain ⟨b1, _⟩ := a1 p hp
        dsimp only
        by_cases e : gs.isEmpty = true
        · rw [if_pos e]
          have : gs = [] := by simpa using e
          subst this
          refine ⟨fun h q => ?_, fun q => (by cases q)⟩
          cases q
          rw [hd_clause, hd_clause]
          exact or_congr b1 Iff.rfl
        · rw [if_neg e]
          cases hq : opnAll d false gs with
          | none => exact ⟨fun h e => (by cases e), fun _ => by rw [hd_clause]; simp only [iff_true]; exact .inr (A.2 hq)⟩
          | some r =>
            refine ⟨fun h q => ?_, fun q => (by cases q)⟩
            cases q
            rw [hd_clause, flat_clause, hd_clause]
            exact or_congr b1 (A.1 r hq)
theorem opnAll_ok (S : Sat m d x) : ∀ (c : Bool) (gs : List G), OkGs m gs → (∀ hs, opnAll d c gs = some hs → (J c x hs ↔ J c x gs)) ∧ (opnAll d c gs = none → if c then ¬ J true x gs else J false x gs)
  | c, [], _ => ⟨fun hs e => by cases e; exact Iff.rfl, fun e => by cases e⟩
  | c, g :: gs, ok => by
    obtain ⟨o1, o2⟩ := ok
    have A := opnAll_ok S c gs o2
    have B := opn_ok S (!c) g o1
    have jc : ∀ (g : G) (gs : List G), J c x (g :: gs) ↔ if c then Hd false x g ∧ J true x gs else Hd true x g ∨ J false x gs := fun g gs => by
      cases c <;> simp [J]
    unfold opnAll
    cases hg : opn d (!c) g with
    | none =>
      have hB := B.2 hg
      refine ⟨fun hs e => ?_, fun e => ?_⟩
      · rw [jc]
        have := A.1 hs e
        cases c with
        | true =>
          have hB' : Hd false x g := hB.mpr rfl
          simpa [hB'] using this
        | false =>
          have hB' : ¬ Hd true x g := fun z => by cases hB.mp z
          simpa [hB'] using this
      · have := A.2 e
        cases c with
        | true => exact fun z => this ((jc g gs).mp z).2
        | false => exact (jc g gs).mpr (.inr this)
    | some h =>
      have hB := B.1 h hg
      dsimp only
      by_cases e : isE h = true
      · rw [if_pos e]
        have he := isE_hd (x := x) (c := !c) e
        refine ⟨fun hs q => (by cases q), fun _ => ?_⟩
        cases c with
        | true => exact fun z => by cases he.mp (hB.mpr ((jc g gs).mp z).1)
        | false => exact (jc g gs).mpr (.inl (hB.mp (he.mpr rfl)))
      · rw [if_neg e]
        refine ⟨fun hs q => ?_, fun q => ?_⟩
        · obtain ⟨r, hr, rfl⟩ := Option.map_eq_some_iff.mp q
          rw [jc, jc]
          have := A.1 r hr
          cases c with
          | true =>
            simp only [if_true]
            exact and_congr hB this
          | false => exact or_congr hB this
        · have := A.2 (by simpa using q)
          cases c with
          | true => exact fun z => this ((jc g gs).mp z).2
          | false => exact (jc g gs).mpr (.inr this)
end
end Zg

/-! denied groups, and the branches of a part. No Python in it. -/
namespace Zg
open Zn
def opp (l : Lit) : Lit := (l.2.1, l.1, -l.2.2 - 1)
theorem hl_opp {x : Nat → Int} {l : Lit} : Hl x (opp l) ↔ ¬ Hl x l := by
  unfold Hl opp
  dsimp only
  omega
mutual
def den : G → G
  | .mk ls gs => .mk (ls.map opp) (denAll gs)
def denAll : List G → List G
  | [] => []
  | g :: gs => den g :: denAll gs
end
mutual
/-- the opposite of a case, as a clause, and the other way round -/
theorem hd_den {x : Nat → Int} : ∀ (c : Bool) (g : G), Hd (!c) x (den g) ↔ ¬ Hd c x g
  | c, .mk ls gs => by
    have A := hd_denAll (x := x) gs
    unfold den
    cases c with
    | true =>
      rw [Bool.not_true, hd_clause, hd_case, (A.1 : _ ↔ _)]
      simp only [List.mem_map, Classical.not_and_iff_not_or_not, Classical.not_forall, exists_prop]
      exact or_congr ⟨fun ⟨l, ⟨k, hk, e⟩, h⟩ => ⟨k, hk, hl_opp.mp (e ▸ h)⟩, fun ⟨k, hk, h⟩ => ⟨opp k, ⟨k, hk, rfl⟩, hl_opp.mpr h⟩⟩ Iff.rfl
    | false =>
      rw [Bool.not_false, hd_case, hd_clause, (A.2 : _ ↔ _)]
      simp only [List.mem_map, not_or, not_exists, not_and]
      exact and_congr ⟨fun h k hk => hl_opp.mp (h (opp k) ⟨k, hk, rfl⟩), fun h l ⟨k, hk, e⟩ => e ▸ hl_opp.mpr (h k hk)⟩ Iff.rfl
theorem hd_denAll {x : Nat → Int} : ∀ (gs : List G), ((∃ g ∈ denAll gs, Hd true x g) ↔ ∃ g, g ∈ gs ∧ ¬ Hd false x g) ∧ ((∀ g ∈ denAll gs, Hd false x g) ↔ ∀ g, g ∈ gs → ¬ Hd true x g)
  | [] => by simp [denAll]
  | g :: gs => by
    have A := hd_denAll (x := x) gs
    have B1 := hd_den (x := x) false g
    have B2 := hd_den (x := x) true g
    rw [Bool.not_false] at B1
    rw [Bool.not_true] at B2
    unfold denAll
    simp only [List.mem_cons, or_and_right, exists_or, exists_eq_left, forall_eq_or_imp, A.1, A.2, B1, B2]
    refine ⟨?_, ?_⟩ <;> first | trivial | exact Iff.rfl
end
/-- a part with no zone has no state -/
def In (m : Nat) (x : Nat → Int) (p : Option Z × List G) : Prop := ∃ z, p.1 = some z ∧ Sat m z x ∧ ∀ g ∈ p.2, Hd false x g
def brLits (d : Z) (rest : List G) : List Lit → List (Option Z × List G) × Option Z
  | [] => ([], some d)
  | l :: r => match met d (opp l) with
    | none => ([(met d l, rest)], none)
    | some e => ((met d l, rest) :: (brLits e rest r).1, (brLits e rest r).2)
def brCases (d : Z) (rest : List G) : List G → List (Option Z × List G)
  | [] => []
  | .mk ls gs :: r => (metAll d ls, rest ++ gs) :: brCases d (rest ++ [den (.mk ls gs)]) r
def branches (d : Z) (rest : List G) (ls : List Lit) (cases : List G) : List (Option Z × List G) := (brLits d rest ls).1 ++ match (brLits d rest ls).2 with
  | none => []
  | some e => brCases e rest cases
variable {m : Nat} {x : Nat → Int}
theorem in_met {d : Z} {l : Lit} {cs : List G} (C : Closed m d) (h1 : l.1 < m) (h2 : l.2.1 < m) : In m x (met d l, cs) ↔ Sat m d x ∧ Hl x l ∧ ∀ g ∈ cs, Hd false x g := by
  unfold In
  cases e : met d l with
  | none =>
    constructor
    · rintro ⟨z, q, _⟩
      cases q
    · rintro ⟨S, h, _⟩
      exact absurd h (met_none h1 h2 e S)
  | some d' =>
    obtain ⟨_, st⟩ := met_some C h1 h2 e
    constructor
    · rintro ⟨z, q, S, h⟩
      cases q
      exact ⟨((st x).mp S).1, ((st x).mp S).2, h⟩
    · rintro ⟨S, h, k⟩
      exact ⟨d', rfl, (st x).mpr ⟨S, h⟩, k⟩
theorem in_metAll {d : Z} {ls : List Lit} {cs : List G} (C : Closed m d) (ok : Ok m ls) : In m x (metAll d ls, cs) ↔ Sat m d x ∧ (∀ l ∈ ls, Hl x l) ∧ ∀ g ∈ cs, Hd false x g := by
  unfold In
  cases e : metAll d ls with
  | none =>
    constructor
    · rintro ⟨z, q, _⟩
      cases q
    · rintro ⟨S, h, _⟩
      exact absurd h (metAll_none C ok e x S)
  | some d' =>
    obtain ⟨_, st⟩ := metAll_some C ok e
    constructor
    · rintro ⟨z, q, S, h⟩
      cases q
      exact ⟨((st x).mp S).1, ((st x).mp S).2, h⟩
    · rintro ⟨S, h, k⟩
      exact ⟨d', rfl, (st x).mpr ⟨S, h⟩, k⟩
theorem brLits_in {rest : List G} : ∀ {ls : List Lit} {d : Z}, Closed m d → Ok m ls →
    ((∃ p ∈ (brLits d rest ls).1, In m x p) ↔ Sat m d x ∧ (∃ l ∈ ls, Hl x l) ∧ ∀ g ∈ rest, Hd false x g) ∧
    (∀ e, (brLits d rest ls).2 = some e → Closed m e ∧ (Sat m e x ↔ Sat m d x ∧ ∀ l ∈ ls, ¬ Hl x l)) ∧ ((brLits d rest ls).2 = none → Sat m d x → ∃ l ∈ ls, Hl x l)
  | [], d, C, _ => by
    refine ⟨by simp [brLits], fun e h => ?_, fun h => (by cases h)⟩
    cases h
    exact ⟨C, by simp⟩
  | l :: r, d, C, ok => by
    obtain ⟨o1, o2⟩ := ok l List.mem_cons_self
    have ok' : Ok m r := fun q hq => ok q (List.mem_cons_of_mem _ hq)
    have M := in_met (x := x) (cs := rest) C o1 o2
    unfold brLits
    cases e : met d (opp l) with
    | none =>
      have ht : Sat m d x → Hl x l := fun S => Classical.byContradiction fun n => met_none (l := opp l) o2 o1 e S (hl_opp.mpr n)
      refine ⟨?_, fun z h => (by cases h), fun _ S => ⟨l, List.mem_cons_self, ht S⟩⟩
      simp only [List.mem_singleton, exists_eq_left]
      rw [M]
      exact ⟨fun ⟨a, b, c⟩ => ⟨a, ⟨l, List.mem_cons_self, b⟩, c⟩, fun ⟨a, _, c⟩ => ⟨a, ht a, c⟩⟩
    | some d' =>
      obtain ⟨C', st⟩ := met_some (l := opp l) C o2 o1 e
      obtain ⟨a1, a2, a3⟩ := brLits_in (rest := rest) C' ok'
      dsimp only
      refine ⟨?_, fun z h => ?_, fun h S => ?_⟩
      · simp only [List.mem_cons, or_and_right, exists_or, exists_eq_left]
        rw [M, a1, st x, hl_opp]
        constructor
        · rintro (⟨a, b, c⟩ | ⟨⟨a, _⟩, b, c⟩)
          · exact ⟨a, .inl ⟨b, c⟩⟩
          · exact ⟨a, .inr ⟨b, c⟩⟩
        · rintro ⟨a, ⟨b, c⟩ | ⟨b, c⟩⟩
          · exact .inl ⟨a, b, c⟩
          · by_cases h : Hl x l
            · exact .inl ⟨a, h, c⟩
            · exact .inr ⟨⟨a, h⟩, b, c⟩
      · obtain ⟨b1, b2⟩ := a2 z h
        refine ⟨b1, ?_⟩
        rw [b2, st x, hl_opp]
        simp only [List.forall_mem_cons]
        exact ⟨fun ⟨⟨a, b⟩, c⟩ => ⟨a, b, c⟩, fun ⟨a, b, c⟩ => ⟨⟨a, b⟩, c⟩⟩
      · by_cases h' : Hl x l
        · exact ⟨l, List.mem_cons_self, h'⟩
        · obtain ⟨q, hq, z⟩ := a3 h ((st x).mpr ⟨S, hl_opp.mpr h'⟩)
          exact ⟨q, List.mem_cons_of_mem _ hq, z⟩
theorem brCases_in {d : Z} (C : Closed m d) : ∀ {cases rest : List G}, OkGs m cases → ((∃ p ∈ brCases d rest cases, In m x p) ↔ Sat m d x ∧ (∃ g ∈ cases, Hd true x g) ∧ ∀ g ∈ rest, Hd false x g)
  | [], rest, _ => by simp [brCases]
  | .mk ls gs :: r, rest, ok => by
    have M := in_metAll (x := x) (cs := rest ++ gs) C ok.1.1
    have A := brCases_in C (rest := rest ++ [den (.mk ls gs)]) ok.2
    have D := hd_den (x := x) true (.mk ls gs)
    rw [Bool.not_true] at D
    unfold brCases
    simp only [List.mem_cons, or_and_right, exists_or, exists_eq_left]
    rw [M, A]
    simp only [List.mem_append, or_imp, forall_and, List.mem_singleton, forall_eq, D]
    have H : Hd true x (.mk ls gs) ↔ (∀ l ∈ ls, Hl x l) ∧ ∀ g ∈ gs, Hd false x g := hd_case
    constructor
    · rintro (⟨a, b, c, d⟩ | ⟨a, b, c, d⟩)
      · exact ⟨a, .inl ⟨H.mpr ⟨b, d⟩, c⟩⟩
      · exact ⟨a, .inr ⟨b, c⟩⟩
    · rintro ⟨a, ⟨b, c⟩ | ⟨b, c⟩⟩
      · exact .inl ⟨a, (H.mp b).1, c, (H.mp b).2⟩
      · by_cases h : Hd true x (.mk ls gs)
        · exact .inl ⟨a, (H.mp h).1, c, (H.mp h).2⟩
        · exact .inr ⟨a, b, c, h⟩
/-- the branches together have the part's states -/
theorem branches_in {d : Z} {rest cases : List G} {ls : List Lit} (C : Closed m d) (o1 : Ok m ls) (o2 : OkGs m cases) : (∃ p ∈ branches d rest ls cases, In m x p) ↔ Sat m d x ∧ Hd false x (.mk ls cases) ∧ ∀ g ∈ rest, Hd false x g := by
  obtain ⟨a1, a2, a3⟩ := brLits_in (x := x) (rest := rest) C o1
  unfold branches
  simp only [List.mem_append, or_and_right, exists_or]
  rw [a1, hd_clause]
  cases e : (brLits d rest ls).2 with
  | none =>
    simp only [List.not_mem_nil, false_and, exists_false, or_false]
    exact ⟨fun ⟨a, b, c⟩ => ⟨a, .inl b, c⟩, fun ⟨a, _, c⟩ => ⟨a, a3 e a, c⟩⟩
  | some z =>
    obtain ⟨b1, b2⟩ := a2 z e
    dsimp only
    rw [brCases_in b1 o2, b2]
    constructor
    · rintro (⟨a, b, c⟩ | ⟨⟨a, _⟩, b, c⟩)
      · exact ⟨a, .inl b, c⟩
      · exact ⟨a, .inr b, c⟩
    · rintro ⟨a, b, c⟩
      by_cases h : ∃ l ∈ ls, Hl x l
      · exact .inl ⟨a, h, c⟩
      · exact .inr ⟨⟨a, fun l hl hh => h ⟨l, hl, hh⟩⟩, b.resolve_left h, c⟩
end Zg

/-! the sizes of groups fall. No Python in it. -/
namespace Zg
open Zn
mutual
def sz : G → Nat
  | .mk ls gs => 1 + ls.length + szs gs
def szs : List G → Nat
  | [] => 0
  | g :: gs => sz g + szs gs
end
theorem sz_pos (g : G) : 1 ≤ sz g := by
  cases g
  unfold sz
  omega
theorem szs_app : ∀ (as bs : List G), szs (as ++ bs) = szs as + szs bs
  | [], bs => by simp [szs]
  | a :: as, bs => by simp [szs, szs_app as bs]; omega
theorem okGs_app {m : Nat} : ∀ {as bs : List G}, OkGs m (as ++ bs) ↔ OkGs m as ∧ OkGs m bs
  | [], bs => by simp [OkGs]
  | a :: as, bs => by simp [OkGs, okGs_app (as := as), and_assoc]
theorem ok_app {m : Nat} {as bs : List Lit} : Ok m (as ++ bs) ↔ Ok m as ∧ Ok m bs :=
  ⟨fun h => ⟨fun l hl => h l (List.mem_append_left _ hl), fun l hl => h l (List.mem_append_right _ hl)⟩, fun ⟨a, b⟩ l hl => (List.mem_append.mp hl).elim (a l) (b l)⟩
theorem plain_sub {d : Z} {c : Bool} : ∀ {ls p : List Lit}, plain d c ls = some p → p.length ≤ ls.length ∧ ∀ l ∈ p, l ∈ ls
  | [], p, h => by cases h; simp
  | l :: r, p, h => by
    unfold plain at h
    have lift : ∀ {q}, plain d c r = some q → q.length ≤ (l :: r).length ∧ ∀ k ∈ q, k ∈ l :: r := fun hq => by
      obtain ⟨a, b⟩ := plain_sub hq
      exact ⟨by rw [List.length_cons]; omega, fun k hk => List.mem_cons_of_mem _ (b k hk)⟩
    by_cases f : follows d l = true
    · rw [if_pos f] at h
      cases c with
      | true => exact lift h
      | false => cases h
    · rw [if_neg f] at h
      by_cases g : fails d l = true
      · rw [if_pos g] at h
        cases c with
        | true => cases h
        | false => exact lift h
      · rw [if_neg g] at h
        obtain ⟨q, hq, rfl⟩ := Option.map_eq_some_iff.mp h
        obtain ⟨a, b⟩ := plain_sub hq
        refine ⟨by simp; omega, fun k hk => ?_⟩
        rcases List.mem_cons.mp hk with rfl | hk
        · exact List.mem_cons_self
        · exact List.mem_cons_of_mem _ (b k hk)
theorem flat_sz : ∀ (gs : List G) (ls : List Lit), (flat ls gs).1.length + szs (flat ls gs).2 ≤ ls.length + szs gs
  | [], ls => by simp [flat, szs]
  | .mk [l] [] :: r, ls => by
    have ih := flat_sz r (ls ++ [l])
    simp only [flat, szs, sz, List.length_append, List.length_cons, List.length_nil] at ih ⊢
    omega
  | .mk [] [.mk ls' gs'] :: r, ls => by
    have ih := flat_sz r (ls ++ ls')
    simp only [flat, szs, sz, szs_app, List.length_append, List.length_cons, List.length_nil] at ih ⊢
    omega
  | .mk [] [] :: r, ls => by
    have ih := flat_sz r ls
    simp only [flat, szs, sz] at ih ⊢
    omega
  | .mk [] (_ :: _ :: _) :: r, ls => by
    have ih := flat_sz r ls
    simp only [flat, szs, sz] at ih ⊢
    omega
  | .mk [_] (_ :: _) :: r, ls => by
    have ih := flat_sz r ls
    simp only [flat, szs, sz] at ih ⊢
    omega
  | .mk (_ :: _ :: _) _ :: r, ls => by
    have ih := flat_sz r ls
    simp only [flat, szs, sz] at ih ⊢
    omega
theorem flat_ok {m : Nat} : ∀ (gs : List G) (ls : List Lit), Ok m ls → OkGs m gs → Ok m (flat ls gs).1 ∧ OkGs m (flat ls gs).2
  | [], ls, h, k => by simp [flat, h, OkGs]
  | .mk [l] [] :: r, ls, h, k => by
    have ih := flat_ok r (ls ++ [l]) (ok_app.mpr ⟨h, k.1.1⟩) k.2
    simpa only [flat] using ih
  | .mk [] [.mk ls' gs'] :: r, ls, h, k => by
    obtain ⟨⟨_, ⟨k1, k2⟩, _⟩, k3⟩ := k
    have ih := flat_ok r (ls ++ ls') (ok_app.mpr ⟨h, k1⟩) k3
    simp only [flat]
    exact ⟨ih.1, okGs_app.mpr ⟨k2, ih.2⟩⟩
  | .mk [] [] :: r, ls, h, k => by
    have ih := flat_ok r ls h k.2
    simp only [flat]
    exact ⟨ih.1, k.1, ih.2⟩
  | .mk [] (_ :: _ :: _) :: r, ls, h, k => by
    have ih := flat_ok r ls h k.2
    simp only [flat]
    exact ⟨ih.1, k.1, ih.2⟩
  | .mk [_] (_ :: _) :: r, ls, h, k => by
    have ih := flat_ok r ls h k.2
    simp only [flat]
    exact ⟨ih.1, k.1, ih.2⟩
  | .mk (_ :: _ :: _) _ :: r, ls, h, k => by
    have ih := flat_ok r ls h k.2
    simp only [flat]
    exact ⟨ih.1, k.1, ih.2⟩
mutual
theorem opn_sz {m : Nat} {d : Z} : ∀ (c : Bool) (g : G) (h : G), opn d c g = some h → sz h ≤ sz g ∧ (OkG m g → OkG m h)
  | c, .mk ls gs, h, e => by
    unfold opn at e
    cases hp : plain d c ls with
    | none => rw [hp] at e; cases e
    | some p =>
      rw [hp] at e
      obtain ⟨p1, p2⟩ := plain_sub hp
      dsimp only at e
      by_cases z : gs.isEmpty = true
      · rw [if_pos z] at e
        cases e
        refine ⟨?_, fun k => ⟨fun l hl => k.1 l (p2 l hl), trivial⟩⟩
        simp only [sz, szs]
        omega
      · rw [if_neg z] at e
        cases hr : opnAll d c gs with
        | none => rw [hr] at e; cases e
        | some r =>
          rw [hr] at e
          cases e
          obtain ⟨a, b⟩ := opnAll_sz (m := m) c gs r hr
          have f := flat_sz r p
          refine ⟨?_, fun k => flat_ok r p (fun l hl => k.1 l (p2 l hl)) (b k.2)⟩
          simp only [sz]
          omega
theorem opnAll_sz {m : Nat} {d : Z} : ∀ (c : Bool) (gs hs : List G), opnAll d c gs = some hs → szs hs ≤ szs gs ∧ (OkGs m gs → OkGs m hs)
  | c, [], hs, e => by cases e; exact ⟨Nat.le_refl _, id⟩
  | c, g :: gs, hs, e => by
    unfold opnAll at e
    cases hg : opn d (!c) g with
    | none =>
      rw [hg] at e
      obtain ⟨a, b⟩ := opnAll_sz (m := m) c gs hs e
      exact ⟨by simp only [szs]; omega, fun k => b k.2⟩
    | some h =>
      rw [hg] at e
      obtain ⟨a, b⟩ := opn_sz (m := m) (!c) g h hg
      dsimp only at e
      by_cases z : isE h = true
      · rw [if_pos z] at e
        cases e
      · rw [if_neg z] at e
        obtain ⟨r, hr, rfl⟩ := Option.map_eq_some_iff.mp e
        obtain ⟨a', b'⟩ := opnAll_sz (m := m) c gs r hr
        exact ⟨by simp only [szs]; omega, fun k => ⟨b k.1, b' k.2⟩⟩
end
/-- one turn of opened: where literals come out, the clauses that are left are fewer -/
theorem opn_turn {m : Nat} {d : Z} {cs cs' : List G} {ls : List Lit} (h : opn d true (.mk [] cs) = some (.mk ls cs')) (ok : OkGs m cs) : szs cs' + ls.length ≤ szs cs ∧ Ok m ls ∧ OkGs m cs' := by
  obtain ⟨a, b⟩ := opn_sz (m := m) true _ _ h
  obtain ⟨b1, b2⟩ := b ⟨fun l hl => (by cases hl), ok⟩
  refine ⟨?_, b1, b2⟩
  simp only [sz, List.length_nil] at a
  omega
mutual
theorem den_sz : ∀ g : G, sz (den g) = sz g
  | .mk ls gs => by simp only [den, sz, List.length_map, denAll_sz gs]
theorem denAll_sz : ∀ gs : List G, szs (denAll gs) = szs gs
  | [] => rfl
  | g :: gs => by simp only [denAll, szs, den_sz g, denAll_sz gs]
end
mutual
theorem den_ok {m : Nat} : ∀ g : G, OkG m g → OkG m (den g)
  | .mk ls gs, k => by
    unfold den
    refine ⟨fun l hl => ?_, denAll_ok gs k.2⟩
    obtain ⟨q, hq, rfl⟩ := List.mem_map.mp hl
    exact ⟨(k.1 q hq).2, (k.1 q hq).1⟩
theorem denAll_ok {m : Nat} : ∀ gs : List G, OkGs m gs → OkGs m (denAll gs)
  | [], _ => trivial
  | g :: gs, k => ⟨den_ok g k.1, denAll_ok gs k.2⟩
end
theorem brCases_sz {m : Nat} {d : Z} : ∀ (cases rest : List G) (p : Option Z × List G), p ∈ brCases d rest cases → szs p.2 < szs rest + szs cases ∧ (OkGs m rest → OkGs m cases → OkGs m p.2)
  | [], rest, p, h => by cases h
  | .mk ls gs :: r, rest, p, h => by
    unfold brCases at h
    rcases List.mem_cons.mp h with rfl | h
    · refine ⟨?_, fun a b => okGs_app.mpr ⟨a, b.1.2⟩⟩
      simp only [szs_app, szs, sz]
      omega
    · obtain ⟨a, b⟩ := brCases_sz (m := m) r _ p h
      refine ⟨?_, fun k l => b (okGs_app.mpr ⟨k, den_ok _ l.1, trivial⟩) l.2⟩
      simp only [szs_app, szs, den_sz] at a ⊢
      omega
theorem brLits_sub {d : Z} {rest : List G} : ∀ {ls : List Lit} {d : Z} (p : Option Z × List G), p ∈ (brLits d rest ls).1 → p.2 = rest
  | [], d, p, h => by cases h
  | l :: r, d, p, h => by
    unfold brLits at h
    cases e : met d (opp l) with
    | none =>
      rw [e] at h
      rw [List.mem_singleton.mp h]
    | some d' =>
      rw [e] at h
      rcases List.mem_cons.mp h with rfl | h
      · rfl
      · exact brLits_sub (d := d) p h
/-- each branch has fewer clauses than the part -/
theorem branches_sz {m : Nat} {d : Z} {rest cases : List G} {ls : List Lit} {p : Option Z × List G} (h : p ∈ branches d rest ls cases) : szs p.2 < szs rest + sz (.mk ls cases) ∧ (OkGs m rest → OkGs m cases → OkGs m p.2) := by
  unfold branches at h
  rcases List.mem_append.mp h with h | h
  · rw [brLits_sub (d := d) p h]
    have := sz_pos (.mk ls cases)
    exact ⟨by omega, fun a _ => a⟩
  · cases e : (brLits d rest ls).2 with
    | none => rw [e] at h; cases h
    | some z =>
      rw [e] at h
      obtain ⟨a, b⟩ := brCases_sz (m := m) cases rest p h
      refine ⟨?_, b⟩
      simp only [sz]
      omega
end Zg

/-! groups: step by step, depths, and what bounds a search. No Python in it. -/
namespace Zg
open Zn
def plainStep (d : Z) (c : Bool) (p : List Lit) (l : Lit) : Option (List Lit) := if follows d l then (if c then some p else none) else if fails d l then (if c then none else some p) else some (p ++ [l])
theorem plain_snoc {d : Z} {c : Bool} : ∀ {ls : List Lit} {l : Lit}, plain d c (ls ++ [l]) = (plain d c ls).bind fun p => plainStep d c p l
  | [], l => by
    simp only [List.nil_append, plain, Option.bind_some, plainStep]
    by_cases f : follows d l = true
    · rw [if_pos f, if_pos f]
    · rw [if_neg f, if_neg f]
      by_cases g : fails d l = true
      · rw [if_pos g, if_pos g]
      · rw [if_neg g, if_neg g]
        rfl
  | k :: r, l => by
    have ih := plain_snoc (d := d) (c := c) (ls := r) (l := l)
    simp only [List.cons_append, plain]
    by_cases f : follows d k = true
    · rw [if_pos f, if_pos f]
      cases c with
      | true => rw [if_pos rfl, if_pos rfl]; exact ih
      | false => rw [if_neg (by decide), if_neg (by decide)]; rfl
    · rw [if_neg f, if_neg f]
      by_cases g : fails d k = true
      · rw [if_pos g, if_pos g]
        cases c with
        | true => rw [if_pos rfl, if_pos rfl]; rfl
        | false => rw [if_neg (by decide), if_neg (by decide)]; exact ih
      · rw [if_neg g, if_neg g, ih]
        cases plain d c r with
        | none => rfl
        | some p =>
          simp only [Option.bind_some, Option.map_some, plainStep]
          by_cases f2 : follows d l = true
          · rw [if_pos f2, if_pos f2]
            cases c <;> rfl
          · rw [if_neg f2, if_neg f2]
            by_cases g2 : fails d l = true
            · rw [if_pos g2, if_pos g2]
              cases c <;> rfl
            · rw [if_neg g2, if_neg g2]
              rfl
theorem plain_none_app {d : Z} {c : Bool} : ∀ {ls r : List Lit}, plain d c ls = none → plain d c (ls ++ r) = none
  | [], r, h => by cases h
  | k :: ls, r, h => by
    have ih := plain_none_app (d := d) (c := c) (ls := ls) (r := r)
    simp only [List.cons_append, plain] at h ⊢
    by_cases f : follows d k = true
    · rw [if_pos f] at h ⊢
      cases c with
      | true => rw [if_pos rfl] at h ⊢; exact ih h
      | false => rfl
    · rw [if_neg f] at h ⊢
      by_cases g : fails d k = true
      · rw [if_pos g] at h ⊢
        cases c with
        | true => rfl
        | false => rw [if_neg (by decide)] at h ⊢; exact ih h
      · rw [if_neg g] at h ⊢
        rw [Option.map_eq_none_iff] at h ⊢
        exact ih h
def flatStep (q : List Lit × List G) (g : G) : List Lit × List G := match g with
  | .mk [l] [] => (q.1 ++ [l], q.2)
  | .mk [] [.mk ls' gs'] => (q.1 ++ ls', q.2 ++ gs')
  | g => (q.1, q.2 ++ [g])
theorem flat_snoc : ∀ {r : List G} {ls : List Lit} {g : G}, flat ls (r ++ [g]) = flatStep (flat ls r) g
  | [], ls, .mk [l] [] => by simp [flat, flatStep]
  | [], ls, .mk [] [.mk ls' gs'] => by simp [flat, flatStep]
  | [], ls, .mk [] [] => by simp [flat, flatStep]
  | [], ls, .mk [] (_ :: _ :: _) => by simp [flat, flatStep]
  | [], ls, .mk [_] (_ :: _) => by simp [flat, flatStep]
  | [], ls, .mk (_ :: _ :: _) _ => by simp [flat, flatStep]
  | .mk [l] [] :: r, ls, g => by
    simp only [List.cons_append, flat]
    exact flat_snoc
  | .mk [] [.mk ls' gs'] :: r, ls, g => by
    have ih := flat_snoc (r := r) (ls := ls ++ ls') (g := g)
    simp only [List.cons_append, flat]
    rw [ih]
    unfold flatStep
    split <;> simp
  | .mk [] [] :: r, ls, g => by
    have ih := flat_snoc (r := r) (ls := ls) (g := g)
    simp only [List.cons_append, flat]
    rw [ih]
    unfold flatStep
    split <;> simp
  | .mk [] (_ :: _ :: _) :: r, ls, g => by
    have ih := flat_snoc (r := r) (ls := ls) (g := g)
    simp only [List.cons_append, flat]
    rw [ih]
    unfold flatStep
    split <;> simp
  | .mk [_] (_ :: _) :: r, ls, g => by
    have ih := flat_snoc (r := r) (ls := ls) (g := g)
    simp only [List.cons_append, flat]
    rw [ih]
    unfold flatStep
    split <;> simp
  | .mk (_ :: _ :: _) _ :: r, ls, g => by
    have ih := flat_snoc (r := r) (ls := ls) (g := g)
    simp only [List.cons_append, flat]
    rw [ih]
    unfold flatStep
    split <;> simp
def allStep (d : Z) (c : Bool) (r : List G) (g : G) : Option (List G) := match opn d (!c) g with
  | none => some r
  | some h => if isE h then none else some (r ++ [h])
theorem opnAll_snoc {d : Z} {c : Bool} : ∀ {gs : List G} {g : G}, opnAll d c (gs ++ [g]) = (opnAll d c gs).bind fun r => allStep d c r g
  | [], g => by
    simp only [List.nil_append, opnAll, Option.bind_some, allStep]
    cases opn d (!c) g with
    | none => rfl
    | some h =>
      dsimp only
      by_cases e : isE h = true
      · rw [if_pos e, if_pos e]
      · rw [if_neg e, if_neg e]
        rfl
  | k :: gs, g => by
    have ih := opnAll_snoc (d := d) (c := c) (gs := gs) (g := g)
    simp only [List.cons_append, opnAll]
    cases opn d (!c) k with
    | none => exact ih
    | some h =>
      dsimp only
      by_cases e : isE h = true
      · rw [if_pos e, if_pos e]
        rfl
      · rw [if_neg e, if_neg e, ih]
        cases opnAll d c gs with
        | none => rfl
        | some r =>
          simp only [Option.bind_some, Option.map_some, allStep]
          cases opn d (!c) g with
          | none => rfl
          | some h2 =>
            dsimp only
            by_cases e2 : isE h2 = true
            · rw [if_pos e2, if_pos e2]
              rfl
            · rw [if_neg e2, if_neg e2]
              rfl
theorem opnAll_none_app {d : Z} {c : Bool} : ∀ {gs r : List G}, opnAll d c gs = none → opnAll d c (gs ++ r) = none
  | [], r, h => by cases h
  | k :: gs, r, h => by
    have ih := opnAll_none_app (d := d) (c := c) (gs := gs) (r := r)
    simp only [List.cons_append, opnAll] at h ⊢
    cases e : opn d (!c) k with
    | none =>
      rw [e] at h
      exact ih h
    | some g =>
      rw [e] at h
      dsimp only at h ⊢
      by_cases z : isE g = true
      · rw [if_pos z]
      · rw [if_neg z] at h ⊢
        rw [Option.map_eq_none_iff] at h ⊢
        exact ih h
theorem opn_mk {d : Z} {c : Bool} {ls : List Lit} {gs : List G} : opn d c (.mk ls gs) = (plain d c ls).bind fun p => (opnAll d c gs).map fun r => .mk (flat p r).1 (flat p r).2 := by
  unfold opn
  cases plain d c ls with
  | none => rfl
  | some p =>
    simp only [Option.bind_some]
    by_cases e : gs.isEmpty = true
    · rw [if_pos e]
      have : gs = [] := by simpa using e
      subst this
      simp [opnAll, flat]
    · rw [if_neg e]
      cases opnAll d c gs <;> rfl
/-! depths -/
mutual
def dep : G → Nat
  | .mk _ gs => 1 + deps gs
def deps : List G → Nat
  | [] => 0
  | g :: gs => max (dep g) (deps gs)
end
theorem deps_mem : ∀ {gs : List G} {g : G}, g ∈ gs → dep g ≤ deps gs
  | k :: gs, g, h => by
    rcases List.mem_cons.mp h with rfl | h
    · unfold deps; omega
    · have := deps_mem h
      unfold deps
      omega
theorem deps_le : ∀ {gs : List G} {n : Nat}, (∀ g ∈ gs, dep g ≤ n) → deps gs ≤ n
  | [], n, _ => Nat.zero_le _
  | k :: gs, n, h => by
    have h1 := h k List.mem_cons_self
    have h2 := deps_le (gs := gs) fun g hg => h g (List.mem_cons_of_mem _ hg)
    unfold deps
    omega
theorem deps_app : ∀ {as bs : List G}, deps (as ++ bs) = max (deps as) (deps bs)
  | [], bs => by simp [deps]
  | a :: as, bs => by
    have := deps_app (as := as) (bs := bs)
    simp only [List.cons_append, deps, this]
    omega
theorem dep_pos (g : G) : 1 ≤ dep g := by
  cases g
  unfold dep
  omega
theorem flatStep_dep {q : List Lit × List G} {g : G} : deps (flatStep q g).2 ≤ max (deps q.2) (dep g) := by
  unfold flatStep
  split
  · dsimp only
    omega
  · simp only [deps_app, dep, deps]
    omega
  · simp only [deps_app, deps]
    omega
theorem flat_dep : ∀ (n : Nat) (r : List G) (ls : List Lit), r.length = n → deps (flat ls r).2 ≤ deps r
  | 0, r, ls, h => by
    have : r = [] := List.length_eq_zero_iff.mp h
    subst this
    simp [flat]
  | n + 1, r, ls, h => by
    obtain ⟨s, g, rfl⟩ : ∃ s g, r = s ++ [g] := ⟨r.dropLast, r.getLast (by intro e; rw [e] at h; cases h), (List.dropLast_concat_getLast _).symm⟩
    have ih := flat_dep n s ls (by simpa using h)
    rw [flat_snoc, deps_app]
    have := flatStep_dep (q := flat ls s) (g := g)
    simp only [deps] at this ⊢
    omega
mutual
theorem opn_dep {d : Z} : ∀ (c : Bool) (g h : G), opn d c g = some h → dep h ≤ dep g
  | c, .mk ls gs, h, e => by
    rw [opn_mk] at e
    obtain ⟨p, _, e⟩ := Option.bind_eq_some_iff.mp e
    obtain ⟨r, hr, rfl⟩ := Option.map_eq_some_iff.mp e
    have h1 := opnAll_dep c gs r hr
    have h2 := flat_dep _ r p rfl
    simp only [dep]
    omega
theorem opnAll_dep {d : Z} : ∀ (c : Bool) (gs hs : List G), opnAll d c gs = some hs → deps hs ≤ deps gs
  | c, [], hs, e => by cases e; exact Nat.le_refl _
  | c, g :: gs, hs, e => by
    unfold opnAll at e
    cases hg : opn d (!c) g with
    | none =>
      rw [hg] at e
      have := opnAll_dep c gs hs e
      simp only [deps]
      omega
    | some h =>
      rw [hg] at e
      have h1 := opn_dep (!c) g h hg
      dsimp only at e
      by_cases z : isE h = true
      · rw [if_pos z] at e
        cases e
      · rw [if_neg z] at e
        obtain ⟨r, hr, rfl⟩ := Option.map_eq_some_iff.mp e
        have h2 := opnAll_dep c gs r hr
        simp only [deps]
        omega
end
mutual
theorem den_dep : ∀ g : G, dep (den g) = dep g
  | .mk ls gs => by simp only [den, dep, denAll_dep gs]
theorem denAll_dep : ∀ gs : List G, deps (denAll gs) = deps gs
  | [] => rfl
  | g :: gs => by simp only [denAll, deps, den_dep g, denAll_dep gs]
end
theorem denAll_map : ∀ gs : List G, denAll gs = gs.map den
  | [] => rfl
  | g :: gs => by rw [denAll, denAll_map gs]; rfl
theorem brCases_dep {d : Z} : ∀ (cases rest : List G) (p : Option Z × List G), p ∈ brCases d rest cases → deps p.2 ≤ max (deps rest) (deps cases)
  | [], rest, p, h => by cases h
  | .mk ls gs :: r, rest, p, h => by
    unfold brCases at h
    rcases List.mem_cons.mp h with rfl | h
    · simp only [deps_app, deps, dep]
      omega
    · have := brCases_dep r _ p h
      simp only [deps_app, deps, den_dep, dep] at this ⊢
      omega
theorem branches_dep {d : Z} {rest cases : List G} {ls : List Lit} {p : Option Z × List G} (h : p ∈ branches d rest ls cases) : deps p.2 ≤ max (deps rest) (deps cases) := by
  unfold branches at h
  rcases List.mem_append.mp h with h | h
  · rw [brLits_sub (d := d) p h]
    omega
  · cases e : (brLits d rest ls).2 with
    | none => rw [e] at h; cases h
    | some z =>
      rw [e] at h
      exact brCases_dep cases rest p h
/-! how many there are -/
theorem brLits_len {d : Z} {rest : List G} : ∀ (ls : List Lit) (d : Z), (brLits d rest ls).1.length ≤ ls.length
  | [], d => by simp [brLits]
  | l :: r, d => by
    unfold brLits
    cases met d (opp l) with
    | none => simp
    | some e =>
      have := brLits_len (d := d) (rest := rest) r e
      simp
      omega
theorem brCases_len {d : Z} : ∀ (cases rest : List G), (brCases d rest cases).length = cases.length
  | [], rest => rfl
  | .mk ls gs :: r, rest => by simp [brCases, brCases_len r]
theorem len_szs : ∀ gs : List G, gs.length ≤ szs gs
  | [] => Nat.le_refl _
  | g :: gs => by
    have := len_szs gs
    have := sz_pos g
    simp only [List.length_cons, szs]
    omega
theorem branches_len {d : Z} {rest cases : List G} {ls : List Lit} : (branches d rest ls cases).length + 1 ≤ sz (.mk ls cases) := by
  have h1 := brLits_len (d := d) (rest := rest) ls d
  have h3 := len_szs cases
  unfold branches
  rw [List.length_append]
  simp only [sz]
  cases (brLits d rest ls).2 with
  | none => simp; omega
  | some e =>
    dsimp only
    rw [brCases_len]
    omega
/-- a measure that falls where a part is replaced by its branches -/
def fN : Nat → Nat
  | 0 => 1
  | n + 1 => (n + 1) * fN n + 1
theorem fN_pos : ∀ n, 1 ≤ fN n
  | 0 => Nat.le_refl _
  | n + 1 => by unfold fN; omega
theorem fN_step (n : Nat) : fN n ≤ fN (n + 1) := by
  show fN n ≤ (n + 1) * fN n + 1
  have := Nat.le_mul_of_pos_left (fN n) (Nat.succ_pos n)
  rw [Nat.succ_eq_add_one] at this
  omega
theorem fN_mono {a b : Nat} (h : a ≤ b) : fN a ≤ fN b := by
  induction h with
  | refl => exact Nat.le_refl _
  | step _ ih => exact Nat.le_trans ih (fN_step _)
def fS (ps : List Nat) : Nat := (ps.map fN).sum
theorem fS_app {a b : List Nat} : fS (a ++ b) = fS a + fS b := by
  unfold fS
  rw [List.map_append, List.sum_append]
theorem fS_le {n : Nat} : ∀ {ps : List Nat}, (∀ p ∈ ps, p ≤ n) → fS ps ≤ ps.length * fN n
  | [], _ => by simp [fS]
  | p :: ps, h => by
    have h1 := fN_mono (h p List.mem_cons_self)
    have h2 := fS_le (ps := ps) fun q hq => h q (List.mem_cons_of_mem _ hq)
    have e : fS (p :: ps) = fN p + fS ps := by simp [fS]
    rw [e, List.length_cons, Nat.succ_mul]
    omega
theorem fS_fall {n : Nat} {ps : List Nat} (h : ∀ p ∈ ps, p < n) (hl : ps.length ≤ n) : fS ps < fN n := by
  cases n with
  | zero =>
    have : ps = [] := List.length_eq_zero_iff.mp (by omega)
    subst this
    simp [fS, fN]
  | succ n =>
    have h1 := fS_le (n := n) (ps := ps) fun p hp => Nat.le_of_lt_succ (h p hp)
    have h2 : ps.length * fN n ≤ (n + 1) * fN n := Nat.mul_le_mul_right _ hl
    show fS ps < (n + 1) * fN n + 1
    omega
/-- a stack's height: what is on it, and what may still come on it -/
def tri : Nat → Nat
  | 0 => 0
  | n + 1 => tri n + (n + 1)
theorem tri_mono {a b : Nat} (h : a ≤ b) : tri a ≤ tri b := by
  induction h with
  | refl => exact Nat.le_refl _
  | step _ ih => exact Nat.le_trans ih (Nat.le_add_right _ _)
def Stk (C : Nat) (ps : List Nat) : Prop := ∀ (i n : Nat), ps[i]? = some n → i + 1 + tri n ≤ C
theorem Stk.len {C : Nat} {ps : List Nat} (h : Stk C ps) : ps.length ≤ C := by
  rcases Nat.eq_zero_or_pos ps.length with e | e
  · omega
  · have := h (ps.length - 1) _ (List.getElem?_eq_getElem (by omega))
    omega
theorem Stk.turn {C n : Nat} {ps qs : List Nat} (h : Stk C (ps ++ [n])) (hq : ∀ q ∈ qs, q < n) (hl : qs.length ≤ n) : Stk C (ps ++ qs) := by
  intro i k hk
  by_cases c : i < ps.length
  · rw [List.getElem?_append_left c] at hk
    exact h i k (by rw [List.getElem?_append_left c]; exact hk)
  · rw [List.getElem?_append_right (by omega)] at hk
    have h1 := hq k (List.mem_of_getElem? hk)
    have h2 := (List.getElem?_eq_some_iff.mp hk).1
    have h3 := h ps.length n (by rw [List.getElem?_append_right (Nat.le_refl _)]; simp)
    cases n with
    | zero => omega
    | succ n =>
      have h4 := tri_mono (Nat.le_of_lt_succ h1)
      simp only [tri] at h3
      omega
theorem Stk.pop {C n : Nat} {ps : List Nat} (h : Stk C (ps ++ [n])) : Stk C ps := by
  have := h.turn (qs := []) (fun _ z => by cases z) (Nat.zero_le _)
  rwa [List.append_nil] at this
/-! branches step by step -/
theorem brLits_snoc {rest : List G} : ∀ {ls : List Lit} {d : Z} {l : Lit}, brLits d rest (ls ++ [l]) = match (brLits d rest ls).2 with
    | none => brLits d rest ls
    | some e => ((brLits d rest ls).1 ++ [(met e l, rest)], met e (opp l))
  | [], d, l => by
    simp only [List.nil_append, brLits]
    cases met d (opp l) <;> rfl
  | k :: r, d, l => by
    simp only [List.cons_append, brLits]
    cases e : met d (opp k) with
    | none => rfl
    | some d' =>
      have ih := brLits_snoc (rest := rest) (ls := r) (d := d') (l := l)
      dsimp only
      rw [ih]
      cases h : (brLits d' rest r).2 with
      | none => simp [h]
      | some e => rfl
theorem brLits_none_app {rest : List G} : ∀ {ls r : List Lit} {d : Z}, (brLits d rest ls).2 = none → brLits d rest (ls ++ r) = brLits d rest ls
  | [], r, d, h => by cases h
  | k :: ls, r, d, h => by
    simp only [List.cons_append, brLits] at h ⊢
    cases e : met d (opp k) with
    | none => rfl
    | some d' =>
      rw [e] at h
      dsimp only at h ⊢
      rw [brLits_none_app (ls := ls) (r := r) (d := d') h]
theorem brCases_snoc {d : Z} : ∀ {cases rest : List G} {g : G}, brCases d rest (cases ++ [g]) = brCases d rest cases ++ [(metAll d g.lits, (rest ++ cases.map den) ++ g.subs)]
  | [], rest, .mk ls gs => by simp [brCases, G.lits, G.subs]
  | .mk ls gs :: r, rest, g => by
    have ih := brCases_snoc (d := d) (cases := r) (rest := rest ++ [den (.mk ls gs)]) (g := g)
    simp only [List.cons_append, brCases, ih, List.map_cons, List.append_assoc, List.nil_append]
theorem brLits_cl {m : Nat} {rest : List G} : ∀ {ls : List Lit} {d : Z}, Closed m d → Ok m ls → (∀ p ∈ (brLits d rest ls).1, ∀ z, p.1 = some z → Closed m z) ∧ ∀ e, (brLits d rest ls).2 = some e → Closed m e
  | [], d, C, _ => ⟨fun p h => (by cases h), fun e h => by cases h; exact C⟩
  | l :: r, d, C, ok => by
    obtain ⟨o1, o2⟩ := ok l List.mem_cons_self
    have ok' : Ok m r := fun q hq => ok q (List.mem_cons_of_mem _ hq)
    have h1 : ∀ z, met d l = some z → Closed m z := fun z e => (met_some C o1 o2 e).1
    unfold brLits
    cases e : met d (opp l) with
    | none =>
      refine ⟨fun p h z hz => ?_, fun e h => (by cases h)⟩
      rw [List.mem_singleton.mp h] at hz
      exact h1 z hz
    | some d' =>
      obtain ⟨a, b⟩ := brLits_cl (rest := rest) (met_some (l := opp l) C o2 o1 e).1 ok'
      refine ⟨fun p h z hz => ?_, b⟩
      rcases List.mem_cons.mp h with rfl | h
      · exact h1 z hz
      · exact a p h z hz
theorem brCases_cl {m : Nat} {d : Z} (C : Closed m d) : ∀ {cases rest : List G}, OkGs m cases → ∀ p ∈ brCases d rest cases, ∀ z, p.1 = some z → Closed m z
  | [], rest, _, p, h => by cases h
  | .mk ls gs :: r, rest, ok, p, h => by
    unfold brCases at h
    rcases List.mem_cons.mp h with rfl | h
    · exact fun z hz => (metAll_some C ok.1.1 hz).1
    · exact brCases_cl C ok.2 p h
theorem branches_cl {m : Nat} {d : Z} {rest cases : List G} {ls : List Lit} (C : Closed m d) (o1 : Ok m ls) (o2 : OkGs m cases) : ∀ p ∈ branches d rest ls cases, ∀ z, p.1 = some z → Closed m z := by
  obtain ⟨a, b⟩ := brLits_cl (rest := rest) C o1
  intro p h
  unfold branches at h
  rcases List.mem_append.mp h with h | h
  · exact a p h
  · cases e : (brLits d rest ls).2 with
    | none => rw [e] at h; cases h
    | some z =>
      rw [e] at h
      exact brCases_cl (b z e) o2 p h
/-- one clause taken out -/
theorem out_szs {cs : List G} {k : Nat} {g : G} (h : cs[k]? = some g) : szs (cs.take k ++ cs.drop (k + 1)) + sz g = szs cs := by
  obtain ⟨h1, h2⟩ := List.getElem?_eq_some_iff.mp h
  have e : cs.take k ++ (g :: cs.drop (k + 1)) = cs := by
    rw [← h2, ← List.drop_eq_getElem_cons h1, List.take_append_drop]
  have e2 := congrArg szs e
  rw [szs_app] at e2 ⊢
  simp only [szs] at e2
  omega
theorem out_mem {cs : List G} {k : Nat} {g : G} (h : cs[k]? = some g) (q : G) : q ∈ cs ↔ q = g ∨ q ∈ cs.take k ++ cs.drop (k + 1) := by
  obtain ⟨h1, h2⟩ := List.getElem?_eq_some_iff.mp h
  have e : cs.take k ++ (g :: cs.drop (k + 1)) = cs := by
    rw [← h2, ← List.drop_eq_getElem_cons h1, List.take_append_drop]
  constructor
  · intro hq
    rw [← e] at hq
    rcases List.mem_append.mp hq with hq | hq
    · exact .inr (List.mem_append_left _ hq)
    · rcases List.mem_cons.mp hq with hq | hq
      · exact .inl hq
      · exact .inr (List.mem_append_right _ hq)
  · intro hq
    rw [← e]
    rcases hq with rfl | hq
    · exact List.mem_append_right _ List.mem_cons_self
    · rcases List.mem_append.mp hq with hq | hq
      · exact List.mem_append_left _ hq
      · exact List.mem_append_right _ (List.mem_cons_of_mem _ hq)
theorem out_deps {cs : List G} {k : Nat} {g : G} (h : cs[k]? = some g) : deps (cs.take k ++ cs.drop (k + 1)) ≤ deps cs ∧ dep g ≤ deps cs :=
  ⟨deps_le fun q hq => deps_mem ((out_mem h q).mpr (.inr hq)), deps_mem (List.mem_of_getElem? h)⟩
theorem okGs_iff {m : Nat} : ∀ {gs : List G}, OkGs m gs ↔ ∀ g ∈ gs, OkG m g
  | [] => by simp [OkGs]
  | g :: gs => by simp [OkGs, okGs_iff (gs := gs)]
end Zg

/-! sets as lists of parts: cases of parts, and sizes. No Python in it. -/
namespace Zg
open Zn
abbrev PtZ : Type := Option Z × List G
def caseOf (m : Nat) (d : Z) (cs : List G) : G := .mk (lits d m) cs
theorem flatMap_len' {α β : Type} {f : α → List β} {c : Nat} : ∀ {l : List α}, (∀ x ∈ l, (f x).length ≤ c) → (l.flatMap f).length ≤ l.length * c
  | [], _ => by simp
  | a :: l, h => by
    have := flatMap_len' (l := l) (f := f) (c := c) fun x hx => h x (List.mem_cons_of_mem _ hx)
    have h1 := h a List.mem_cons_self
    rw [List.flatMap_cons, List.length_append, List.length_cons, Nat.succ_mul]
    omega
theorem lits_len2 (d : Z) (m : Nat) : (lits d m).length ≤ 2 * (m * m) := by
  have g1 : ∀ h, (group d m h).length ≤ m := fun h => by
    have : (group d m h).length ≤ (List.range m).length := List.length_filter_le _ _
    rwa [List.length_range] at this
  have g2 : (firsts d m).length ≤ m := by
    have : (firsts d m).length ≤ (List.range m).length := List.length_filter_le _ _
    rwa [List.length_range] at this
  have r1 : ∀ h, (ringLits d m h).length ≤ m := fun h => by
    unfold ringLits
    split
    · rw [List.length_map]
      unfold pairs
      rw [List.length_zip]
      have := g1 h
      omega
    · simp
  have r2 : ∀ i, (restLits d m i).length ≤ m := fun i => by
    unfold restLits
    rw [List.length_map]
    exact Nat.le_trans (List.length_filter_le _ _) g2
  have a1 := flatMap_len' (l := List.range m) (f := ringLits d m) (c := m) fun x _ => r1 x
  have a2 := flatMap_len' (l := firsts d m) (f := restLits d m) (c := m) fun x _ => r2 x
  rw [List.length_range] at a1
  have a3 := Nat.mul_le_mul_right m g2
  unfold lits
  rw [List.length_append]
  omega
theorem caseOf_hd {m : Nat} {d : Z} {cs : List G} {x : Nat → Int} (C : Closed m d) : Hd true x (caseOf m d cs) ↔ In m x (some d, cs) := by
  unfold caseOf In
  rw [hd_case]
  have := lits_sat C x
  unfold All at this
  rw [this]
  constructor
  · rintro ⟨a, b⟩
    exact ⟨d, rfl, a, b⟩
  · rintro ⟨z, e, a, b⟩
    cases e
    exact ⟨a, b⟩
theorem caseOf_ok {m : Nat} {d : Z} {cs : List G} (C : Closed m d) (h : OkGs m cs) : OkG m (caseOf m d cs) := ⟨lits_ok C, h⟩
theorem caseOf_sz {m : Nat} {d : Z} {cs : List G} : sz (caseOf m d cs) ≤ 1 + 2 * (m * m) + szs cs := by
  have := lits_len2 d m
  unfold caseOf
  simp only [sz]
  omega
theorem caseOf_dep {m : Nat} {d : Z} {cs : List G} : dep (caseOf m d cs) = 1 + deps cs := by
  unfold caseOf
  simp only [dep]
/-- a part with a zone, sized, with a state -/
structure PB (m D S : Nat) (P : PtZ) : Prop where
  cl : ∃ d, P.1 = some d ∧ Closed m d
  ok : OkGs m P.2
  dp : deps P.2 ≤ D
  sz : szs P.2 ≤ S
  ne : ∃ x, x 0 = 0 ∧ In m x P
theorem PB.mono {m D S D' S' : Nat} {P : PtZ} (h : PB m D S P) (a : D ≤ D') (b : S ≤ S') : PB m D' S' P := ⟨h.cl, h.ok, Nat.le_trans h.dp a, Nat.le_trans h.sz b, h.ne⟩
def zoneOf (P : PtZ) : Z := P.1.getD whole
theorem PB.cl' {m D S : Nat} {P : PtZ} (h : PB m D S P) : Closed m (zoneOf P) := by
  obtain ⟨d, e, C⟩ := h.cl
  unfold zoneOf
  rw [e]
  exact C
theorem PB.eta {m D S : Nat} {P : PtZ} (h : PB m D S P) : P = (some (zoneOf P), P.2) := by
  obtain ⟨d, e, C⟩ := h.cl
  unfold zoneOf
  rw [e]
  obtain ⟨a, b⟩ := P
  cases e
  rfl
def ptCase (m : Nat) (P : PtZ) : G := caseOf m (zoneOf P) P.2
theorem PB.case_hd {m D S : Nat} {P : PtZ} {x : Nat → Int} (h : PB m D S P) : Hd true x (ptCase m P) ↔ In m x P := by
  unfold ptCase
  rw [caseOf_hd h.cl', ← h.eta]
theorem PB.case_ok {m D S : Nat} {P : PtZ} (h : PB m D S P) : OkG m (ptCase m P) := caseOf_ok h.cl' h.ok
theorem PB.case_sz {m D S : Nat} {P : PtZ} (h : PB m D S P) : Zg.sz (ptCase m P) ≤ 1 + 2 * (m * m) + S := by
  have := caseOf_sz (m := m) (d := zoneOf P) (cs := P.2)
  have := h.sz
  unfold ptCase
  omega
theorem PB.case_dep {m D S : Nat} {P : PtZ} (h : PB m D S P) : dep (ptCase m P) ≤ 1 + D := by
  have := h.dp
  unfold ptCase
  rw [caseOf_dep]
  omega
def InS (m : Nat) (x : Nat → Int) (Ps : List PtZ) : Prop := ∃ P ∈ Ps, In m x P
theorem szs_le {gs : List G} {c : Nat} (h : ∀ g ∈ gs, sz g ≤ c) : szs gs ≤ gs.length * c := by
  induction gs with
  | nil => simp [szs]
  | cons g gs ih =>
    have h1 := h g List.mem_cons_self
    have h2 := ih fun q hq => h q (List.mem_cons_of_mem _ hq)
    rw [List.length_cons, Nat.succ_mul]
    simp only [szs]
    omega
theorem in_app {m : Nat} {x : Nat → Int} {o : Option Z} {cs gs : List G} : In m x (o, cs ++ gs) ↔ In m x (o, cs) ∧ ∀ g ∈ gs, Hd false x g := by
  unfold In
  simp only [List.mem_append, or_imp, forall_and]
  constructor
  · rintro ⟨z, e, S, a, b⟩
    exact ⟨⟨z, e, S, a⟩, b⟩
  · rintro ⟨⟨z, e, S, a⟩, b⟩
    exact ⟨z, e, S, a, b⟩
/-- the clauses that bar the parts -/
theorem bar_hd {m D S : Nat} {Os : List PtZ} {x : Nat → Int} (h : ∀ O ∈ Os, PB m D S O) : (∀ g ∈ Os.map fun O => den (ptCase m O), Hd false x g) ↔ ¬ InS m x Os := by
  unfold InS
  simp only [List.forall_mem_map, not_exists, not_and]
  refine forall_congr' fun O => forall_congr' fun hO => ?_
  have := hd_den (x := x) true (ptCase m O)
  rw [Bool.not_true] at this
  rw [this, (h O hO).case_hd]
theorem bar_ok {m D S : Nat} {Os : List PtZ} (h : ∀ O ∈ Os, PB m D S O) : OkGs m (Os.map fun O => den (ptCase m O)) := okGs_iff.mpr fun g hg => by
  obtain ⟨O, hO, rfl⟩ := List.mem_map.mp hg
  exact den_ok _ (h O hO).case_ok
theorem bar_sz {m D S : Nat} {Os : List PtZ} (h : ∀ O ∈ Os, PB m D S O) : szs (Os.map fun O => den (ptCase m O)) ≤ Os.length * (1 + 2 * (m * m) + S) := by
  have := szs_le (gs := Os.map fun O => den (ptCase m O)) (c := 1 + 2 * (m * m) + S) fun g hg => by
    obtain ⟨O, hO, rfl⟩ := List.mem_map.mp hg
    rw [den_sz]
    exact (h O hO).case_sz
  rwa [List.length_map] at this
theorem bar_dep {m D S : Nat} {Os : List PtZ} (h : ∀ O ∈ Os, PB m D S O) : deps (Os.map fun O => den (ptCase m O)) ≤ 1 + D := deps_le fun g hg => by
  obtain ⟨O, hO, rfl⟩ := List.mem_map.mp hg
  rw [den_dep]
  exact (h O hO).case_dep
/-- the clause that one of the parts must be fitted -/
def orOf (m : Nat) (Os : List PtZ) : G := .mk [] (Os.map (ptCase m))
theorem or_hd {m D S : Nat} {Os : List PtZ} {x : Nat → Int} (h : ∀ O ∈ Os, PB m D S O) : Hd false x (orOf m Os) ↔ InS m x Os := by
  unfold orOf InS
  rw [hd_clause]
  simp only [List.not_mem_nil, false_and, exists_false, false_or, List.mem_map]
  constructor
  · rintro ⟨g, ⟨O, hO, rfl⟩, k⟩
    exact ⟨O, hO, (h O hO).case_hd.mp k⟩
  · rintro ⟨O, hO, k⟩
    exact ⟨_, ⟨O, hO, rfl⟩, (h O hO).case_hd.mpr k⟩
theorem or_ok {m D S : Nat} {Os : List PtZ} (h : ∀ O ∈ Os, PB m D S O) : OkG m (orOf m Os) := ⟨fun l hl => (by cases hl), okGs_iff.mpr fun g hg => by
  obtain ⟨O, hO, rfl⟩ := List.mem_map.mp hg
  exact (h O hO).case_ok⟩
theorem or_sz {m D S : Nat} {Os : List PtZ} (h : ∀ O ∈ Os, PB m D S O) : sz (orOf m Os) ≤ 1 + Os.length * (1 + 2 * (m * m) + S) := by
  have := szs_le (gs := Os.map (ptCase m)) (c := 1 + 2 * (m * m) + S) fun g hg => by
    obtain ⟨O, hO, rfl⟩ := List.mem_map.mp hg
    exact (h O hO).case_sz
  rw [List.length_map] at this
  unfold orOf
  simp only [sz, List.length_nil]
  omega
theorem or_dep {m D S : Nat} {Os : List PtZ} (h : ∀ O ∈ Os, PB m D S O) : dep (orOf m Os) ≤ 2 + D := by
  have := deps_le (gs := Os.map (ptCase m)) (n := 1 + D) fun g hg => by
    obtain ⟨O, hO, rfl⟩ := List.mem_map.mp hg
    exact (h O hO).case_dep
  unfold orOf
  simp only [dep]
  omega
/-- what is left of a barred clause within a zone keeps out no more than the other part -/
theorem needless_hd {m D S : Nat} {O : PtZ} {d : Z} {x : Nat → Int} {h : G} (hO : PB m D S O) (Sx : Sat m d x) (e : opn d false (den (ptCase m O)) = some h) : Hd false x h ↔ ¬ In m x O := by
  have := (opn_ok Sx false _ (den_ok _ hO.case_ok)).1 h e
  rw [this]
  have := hd_den (x := x) true (ptCase m O)
  rw [Bool.not_true] at this
  rw [this, hO.case_hd]
end Zg

/-! x not in t, where t is a tuple or a list of data of some depth -/
namespace L2
open PySem PySem.Spec PyProof.Rows
section
variable {X : Cx}
def rNotInTD (K : PySem.W.Frag) : R2 := fun x y H Q => ∃ d ds, Dp K H x d ∧ Dp K H y (.tuple ds) ∧ PyData.canLay0 d = true ∧ PyData.canLayAll0 ds = true ∧ PyData.depth d ≤ 150 ∧ Q (.bl (!ds.any fun z => PyData.eqv z d)) H
def rNotInLD (K : PySem.W.Frag) : R2 := fun x y H Q => ∃ d ds, Dp K H x d ∧ Dp K H y (.list ds) ∧ PyData.canLay0 d = true ∧ PyData.canLayAll0 ds = true ∧ PyData.depth d ≤ 150 ∧ Q (.bl (!ds.any fun z => PyData.eqv z d)) H
theorem op_notInTD {k : Nat} (hr : Room k X.A) : OpR X (compareOp .NotIn) (rNotInTD X.K) := by
  intro pins s σ H x y v u Q I rx ry h
  obtain ⟨d, ds, hd, he, sd, se, dd, q⟩ := h
  obtain ⟨as, r1⟩ := Dp.reads I d x v hd rx
  obtain ⟨bs, r2⟩ := Dp.reads I (.tuple ds) y u he ry
  exact SeqAt.notIn_tuple_reads r2 r1 se sd (by have := hr.un; omega) ⟨.bl _, H, I, rfl, q⟩
theorem op_notInLD {k : Nat} (hr : Room k X.A) : OpR X (compareOp .NotIn) (rNotInLD X.K) := by
  intro pins s σ H x y v u Q I rx ry h
  obtain ⟨d, ds, hd, he, sd, se, dd, q⟩ := h
  obtain ⟨as, r1⟩ := Dp.reads I d x v hd rx
  obtain ⟨bs, r2⟩ := Dp.reads I (.list ds) y u he ry
  exact SeqAt.notIn_list_reads r2 r1 se sd (by have := hr.un; omega) ⟨.bl _, H, I, rfl, q⟩
/-- the same, within a frame of the frag K -/
theorem notInLDK (K : PySem.W.Frag) {k : Nat} (hr : Room k X.A) (h : X.K = K := by rfl) : OpR X (compareOp .NotIn) (rNotInLD K) := by
  subst h
  exact op_notInLD hr
end
end L2

set_option maxHeartbeats 2000000
/-! list.extend with a tuple of any making -/
namespace PySem
open PyProof
namespace ExtT
theorem extend_tup (l : Addr) (items : Array Value) (n : Nat) (b : Addr) (od : Option Addr) (sl : Array (Option Value)) (items2 : Array Value) (n2 : Nat) (hs0 : ¬(!items.isEmpty && Builtin.List.listTooLong (items.size + items2.size)) = true) (hs1 : items.size ≤ sizeLine) (hs2 : items.size + items2.size ≤ sizeLine + 1) :
    Meets (Builtin.«list.extend» ⟨[.ref l, .ref b], []⟩) (fun _ R s => s.heap.get? l = some { cls := .type "list", dict := none, data := .seq items n, slots := #[] } ∧ s.heap.get? b = some { cls := .type "tuple", dict := od, data := .seq items2 n2, slots := sl } ∧ R (.ok (.ret Value.none)) { s with heap := s.heap.update l (Obj.mapSeq fun x => x ++ items2), toks := s.toks }) :=
  .of_wp fun prog w A R s h => by
    obtain ⟨hp, g, d, tk, os⟩ := s; obtain ⟨hl, hb, h⟩ := h
    have hz' : (items ++ items2).size ≤ sizeLine + 1 := by rw [Array.size_append]; exact hs2
    wp_walk using (wpAny_updateSeq hl rfl (hz := hs1) (_hz' := hz')), wpAny_loadPart' hl, wpAny_loadPart' hb; exact ⟨_, rfl, h⟩
end ExtT
end PySem
namespace L2
open PySem PySem.Spec PyProof.Rows
section
variable {X : Cx}
def rExtendT (K : PySem.W.Frag) : V → List V → Hp → VK → Prop := fun x vs H Q => ∃ l b xs zs, x = .ref l ∧ vs = [.ref b] ∧ H l = some (.lst xs) ∧ SqT K H b zs ∧ xs.length + zs.length ≤ sizeLine ∧ Q .non (upd H l (.lst (xs ++ zs)))
theorem mt_extendT : MtM X "list.extend" (rExtendT X.K) := by
  intro pins s σ H x vs v us Q I rx rv h
  obtain ⟨l, b, xs, zs, rfl, rfl, hH, hB, hz, q⟩ := h
  cases rx
  obtain ⟨u, rfl, ru⟩ := rv.one
  cases ru
  obtain ⟨z, its, n, r, hl, e⟩ := I.lstM hH
  obtain ⟨its2, r2, ⟨o2, e2, hc2, n2, hd2⟩, hl2⟩ := I.tuple hB
  obtain ⟨oc, od, odt, osl⟩ := o2
  dsimp only at hc2 hd2
  subst hc2 hd2
  have e3 := r2.length
  have hsz : its.toArray.size + its2.toArray.size ≤ sizeLine := by rw [List.size_toArray, List.size_toArray]; omega
  have hlong : ¬ (!its.toArray.isEmpty && Builtin.List.listTooLong (its.toArray.size + its2.toArray.size)) = true := by
    rw [notLongL hsz, Bool.and_false]
    exact Bool.false_ne_true
  refine call_meets F.slot_list_extend ⟨_, e, rfl⟩ F.entry_list_extend (F.args_list_extend_2 _ _)
    (ExtT.extend_tup l its.toArray n b od osl its2.toArray n2 hlong (by rw [List.size_toArray]; omega) (by omega)) ⟨e, e2, ?_⟩
  refine ⟨.non, _, I.lset (its' := its ++ its2) hH e (by simp) (r.append r2) ?_, rfl, q⟩
  rw [List.length_append]
  omega
/-- o.extend(e) with a tuple, within a frame of the frag K -/
theorem extK (K : PySem.W.Frag) (h : X.K = K := by rfl) : MtM X "list.extend" (rExtendT K) := by subst h; exact mt_extendT
end
end L2

/-! a while loop by a measure that is no part of the state -/
namespace L2
open PySem
theorem while_g {c : TT} {tb : TS} {D : Ends} {σ : St} {H : Hp} (Pv : Nat → St → Hp → Prop) (m : Nat) (h0 : Pv m σ H)
    (hs : ∀ m σ H, Pv m σ H → c σ H fun b H1 => if b = true then tb { D with nx := fun σ' H' => ∃ m', m' < m ∧ Pv m' σ' H', ct := fun σ' H' => ∃ m', m' < m ∧ Pv m' σ' H', bk := D.nx } σ H1 else D.nx σ H1)
    (mono : ∀ σ H Q Q', (∀ b H1, Q b H1 → Q' b H1) → c σ H Q → c σ H Q') : tWhile c tb D σ H := by
  refine ⟨Pv, ⟨m, h0⟩, ?_⟩
  intro m σ H p
  refine mono σ H _ _ (fun b H1 q => ?_) (hs m σ H p)
  cases b with
  | true => exact ⟨_, fun σ' H' x => x, q⟩
  | false => exact q
end L2

/-! a != b of own classes with an own __eq__ and no __ne__ -/
namespace PySem.W
open PySem PySem.Calls PyProof.Rows Builtin
section
variable {prog : Program} {w : World} {A : Around} {E : Value → Shared → Prop} {s : Shared} {K : Frag} {x y C L f : Addr} {h₀ : Heap} {m : Str → Option Value} {ox oy : Obj} {od od' : Option Obj}
theorem ifBound_B {M : Model} {name : Str} {id : String} {args : List Value} {Q : Option Value → Shared → Prop} (X : K.In s.heap) (I : InstAt s.heap x ox C od) (hs : findIn K (.ref C) name = some (some (.builtin id))) (hb : bindSpecial (.builtin id) (.ref x) = pure (.builtin id, [.ref x]))
    (h : wpAny M A (call (.builtin id) (.ref x :: args)) (fun v => Q (some v)) E s) : wpAny M A (callSpecialIfBound? (.ref x) name args) Q E s := by
  simp only [callSpecialIfBound?, bindSpecialIfBound?]
  refine wpAny_holding (wpAny_bind (wpAny_bind (wpAny_bind (I.type.here ((looks_findIn X hs).here ?_)))))
  simp only [hb]
  refine wpAny_bind (wpAny_askSetting (wpAny_ite ?_))
  have fin : wpAny M A (call (.builtin id) ([.ref x] ++ args) >>= fun v => pure (some v)) Q E s := wpAny_bind (wpAny_mono h (fun v s' h' => wpAny_pure h') fun _ _ h' => h')
  split
  · exact wpAny_bind (wpAny_pure (wpAny_pure fin))
  · exact wpAny_tryCatch (wpAny_bind (wpAny_pure (wpAny_pure fin)))
theorem ne_K {Q : Value → Shared → Prop} (hu : A.units + 1 < cLine) (Fx : Fr h₀ L s.heap m) (X₀ : K.In h₀) (I : InstAt s.heap x ox C od) (J : InstAt s.heap y oy C od') (hm : mroIn K C (.type "object") = some true)
    (hne : findIn K (.ref C) "__ne__" = some (some (.builtin "object.__ne__"))) (heq : findIn K (.ref C) "__eq__" = some (some (.ref f))) (hf : isFn K (.ref f) = true)
    (h : wpAny (model prog w) A.in1 (call (.ref f) [.ref x, .ref y]) (fun v s' => ∃ b, v = .bool b ∧ Q (.bool (!b)) s') E s) : wpAny (model prog w) A (richCompare .NotEq (.ref x) (.ref y)) Q E s := by
  have X := X₀.keeps Fx.keep
  have body : wpAny (model prog w) A.in1 (Builtin.«object.__ne__» ⟨[.ref x, .ref y], []⟩) (fun fin s' => ∃ v, fin = .done (.ret v) ∧ ∃ b, v = .bool b ∧ Q (.bool b) s') E s := by
    unfold Builtin.«object.__ne__»
    repeat (first
      | with_reducible refine wpAny_cRoomFor (show A.in1.units < cLine from hu) ?_
      | (refine wpAny_bind (m := callSpecialIfBound? (.ref x) (Str.ofString "__eq__") [.ref y])
          (ifBound_K X I heq hf (wpAny_mono h (fun r s' hr => by
            obtain ⟨b, rfl, hq⟩ := hr
            repeat (first | exact ⟨_, rfl, _, rfl, hq⟩ | exact wpAny_pure ⟨_, rfl, _, rfl, hq⟩ | (refine wpAny_bind (m := truthy (.bool _)) (wpAny_truthy_bool ?_)) | exact wpAny_truthy_bool ⟨_, rfl, _, rfl, hq⟩ | wp_step)) fun _ _ e => e)))
      | wp_step)
  have hi : Looks (model prog w) s.heap (isInstance (.ref x) (.type "object")) true := I.type.andThen (looks_mroIn X hm)
  have one : wpAny (model prog w) A (tryCompare (.ref x) "__ne__" (.ref y)) (fun r s' => ∃ b, r = some (.bool b) ∧ Q (.bool b) s') E s := by
    unfold tryCompare
    refine wpAny_bind (ifBound_B X I hne (F.cmp_object.ne.bind _) (wpAny_call (codeAny_call_builtin F.cmp_object.ne.plain F.cmpEntry_ne (check_slot F.cmpKind_ne F.cmpSplit_ne hi (F.cmpArgs_ne _ _)
      (wpAny_mono body (fun fin s' hv => ?_) fun _ _ e => e)))))
    obtain ⟨v, rfl, b, rfl, hq⟩ := hv
    first | exact wpAny_pure ⟨_, rfl, hq⟩ | exact ⟨_, rfl, hq⟩
  unfold richCompare
  simp only [oneThing_ref]
  refine wpAny_holding (wpAny_bind (wpAny_cRoomFor (Nat.lt_of_succ_lt hu) ?_))
  rw [cmpInfo_NotEq]
  dsimp only
  refine wpAny_bind (I.type.here (wpAny_bind (J.type.here ?_)))
  rw [show (Value.ref C != Value.ref C) = false from by simp]
  simp only [Bool.false_eq_true, if_false]
  refine wpAny_bind (wpAny_pure ?_)
  simp only [Bool.false_eq_true, if_false]
  refine wpAny_bind (wpAny_mono one (fun r s' z => ?_) fun _ _ e => e)
  obtain ⟨b, rfl, hq⟩ := z
  exact wpAny_pure hq
end
end PySem.W
namespace Ow
open PySem PySem.Spec PyProof.Rows L2
section
variable {X : Cx} {k j : Nat} {C : Addr} {sp : Sp}
/-- a != b of two instances of the class at C, by its own __eq__ -/
def rNeM (C : Addr) (sp : Sp) : R2 := fun x y H Q => ∃ a b dx dy fs gs, x = .ref a ∧ y = .ref b ∧ H a = some (.ins C dx fs) ∧ H b = some (.ins C dy gs) ∧ sp [.ref a, .ref b] H (fun v H' => ∃ t, v = .bl t ∧ Q (.bl (!t)) H') C8.E0
theorem op_neM (hm : PySem.W.mroIn X.K C (.type "object") = some true) (hne : PySem.W.findIn X.K (.ref C) "__ne__" = some (some (.builtin "object.__ne__")))
    (c : C8.Met X.prog X.w X.K X.mg X.base k C "__eq__" sp []) (hr : Room (j + 1) X.A) (hk : k ≤ j) : OpR X (compareOp .NotEq) (rNeM C sp) := by
  obtain ⟨f, fd, ps, ds, _, me, F, b, d⟩ := c.ex
  cases d
  intro pins s σ H x y v u Q I rx ry h
  obtain ⟨a, b', dx, dy, fs, gs, rfl, rfl, ha, hb, h⟩ := h
  cases rx
  cases ry
  obtain ⟨ox, od, J⟩ := met_at I ha
  obtain ⟨oy, oe, J'⟩ := met_at I hb
  obtain ⟨m, hF⟩ := I.fr
  have hu : X.A.units + 1 < cLine := by have := hr.un; omega
  have r2 : Vals [V.ref a, V.ref b'] [Value.ref a, Value.ref b'] := .cons rfl (.cons rfl .nil)
  have hl : ([Value.ref a, Value.ref b'] ++ []).length = ps.length := by
    rw [List.append_nil, ← r2.length]
    exact F.len _ _ _ _ h
  show wpAny _ _ (richCompare .NotEq _ _) _ _ _
  refine PySem.W.ne_K hu hF I.ok.mod.kin J J' hm hne me.at_ me.fn ?_
  refine wpAny_call (codeAny_mono (F.run X.A.in1 X.stack s H ⟨[.ref a, .ref b'], []⟩ ([.ref a, .ref b'] ++ []) [.ref a, .ref b'] _ C8.E0 (hr.in1.mono hk) I.env0.in1 (b s [.ref a, .ref b'] I.kIn hl) (by simpa using r2) h) fun r s' hq => ?_)
  cases r with
  | error e => exact (C8.pass0 (X := X) (E := C8.E0) pins σ H s e s' I hq)
  | ok fl =>
    cases fl with
    | ret w =>
      obtain ⟨z, H', I', rz, t, rfl, q⟩ := I.after hq
      cases rz
      exact ⟨t, rfl, .bl (!t), H', I', rfl, q⟩
    | next => exact False.elim hq
    | brk => exact False.elim hq
    | cont => exact False.elim hq
end
end Ow

/-! zones over other integers. No Python in it. -/
namespace Zg
open Zn
def spr (d : Z) (os : List (Option Nat)) : Z := fun r c => if r = c then some 0 else match os.getD r none, os.getD c none with
  | some i, some j => d i j
  | _, _ => none
structure SprOk (m : Nat) (os : List (Option Nat)) (pos : Nat → Nat) : Prop where
  lt : ∀ r i, os[r]? = some (some i) → i < m ∧ pos i = r
  cov : ∀ i, i < m → os[pos i]? = some (some i)
theorem getD_some {os : List (Option Nat)} {r i : Nat} (h : os.getD r none = some i) : os[r]? = some (some i) := by
  rw [List.getD_eq_getElem?_getD] at h
  cases e : os[r]? with
  | none => rw [e] at h; cases h
  | some o =>
    rw [e] at h
    exact congrArg some h
theorem getD_of {os : List (Option Nat)} {r i : Nat} (h : os[r]? = some (some i)) : os.getD r none = some i := by
  rw [List.getD_eq_getElem?_getD, h]
  rfl
theorem spr_some {d : Z} {os : List (Option Nat)} {r c : Nat} {v : Int} (h : spr d os r c = some v) : (r = c ∧ v = 0) ∨ (r ≠ c ∧ ∃ i j, os[r]? = some (some i) ∧ os[c]? = some (some j) ∧ d i j = some v) := by
  unfold spr at h
  by_cases e : r = c
  · rw [if_pos e] at h
    cases h
    exact .inl ⟨e, rfl⟩
  · rw [if_neg e] at h
    cases h1 : os.getD r none with
    | none => rw [h1] at h; cases h
    | some i =>
      cases h2 : os.getD c none with
      | none => rw [h1, h2] at h; cases h
      | some j =>
        rw [h1, h2] at h
        exact .inr ⟨e, i, j, getD_some h1, getD_some h2, h⟩
theorem spr_of {d : Z} {os : List (Option Nat)} {r c i j : Nat} (e : r ≠ c) (h1 : os[r]? = some (some i)) (h2 : os[c]? = some (some j)) : spr d os r c = d i j := by
  unfold spr
  rw [if_neg e, getD_of h1, getD_of h2]
theorem spr_sat {m : Nat} {d : Z} {os : List (Option Nat)} {pos : Nat → Nat} (C : Closed m d) (h : SprOk m os pos) {x : Nat → Int} : Sat os.length (spr d os) x ↔ Sat m d (fun i => x (pos i)) := by
  constructor
  · intro S i j c hi hj hc
    have p1 := h.cov i hi
    have p2 := h.cov j hj
    by_cases e : i = j
    · subst e
      rw [C.dia i hi] at hc
      cases hc
      omega
    · have e2 : pos i ≠ pos j := fun q => by
        rw [q, p2] at p1
        cases p1
        exact e rfl
      exact S (pos i) (pos j) c (List.getElem?_eq_some_iff.mp p1).1 (List.getElem?_eq_some_iff.mp p2).1 (by rw [spr_of e2 p1 p2]; exact hc)
  · intro S r c v _ _ hv
    rcases spr_some hv with ⟨rfl, rfl⟩ | ⟨_, i, j, p1, p2, hd⟩
    · omega
    · obtain ⟨a1, a2⟩ := h.lt r i p1
      obtain ⟨b1, b2⟩ := h.lt c j p2
      have := S i j v a1 b1 hd
      dsimp only at this
      rw [a2, b2] at this
      exact this
theorem spr_closed {m : Nat} {d : Z} {os : List (Option Nat)} (C : Closed m d) (h : ∀ (r i : Nat), os[r]? = some (some i) → i < m) : Closed os.length (spr d os) := by
  refine ⟨fun i hi => by unfold spr; rw [if_pos rfl], fun i j k a b hi hj hk ha hb => ?_⟩
  rcases spr_some ha with ⟨rfl, rfl⟩ | ⟨n1, p, q, p1, p2, hd⟩
  · exact ⟨b, hb, by omega⟩
  · rcases spr_some hb with ⟨rfl, rfl⟩ | ⟨n2, q', t, p3, p4, hd2⟩
    · exact ⟨a, ha, by omega⟩
    · rw [p2] at p3
      cases p3
      obtain ⟨c, hc, hl⟩ := C.tri p q t a b (h _ _ p1) (h _ _ p2) (h _ _ p4) hd hd2
      by_cases e : i = k
      · subst e
        rw [p1] at p4
        cases p4
        rw [C.dia p (h _ _ p1)] at hc
        cases hc
        exact ⟨0, by unfold spr; rw [if_pos rfl], hl⟩
      · exact ⟨c, by rw [spr_of e p1 p4]; exact hc, hl⟩
/-- plain parts over other integers -/
def sprP (os : List (Option Nat)) (P : PtZ) : PtZ := (some (spr (zoneOf P) os), [])
theorem in_plain {m : Nat} {d : Z} {x : Nat → Int} : In m x (some d, []) ↔ Sat m d x := by
  unfold In
  constructor
  · rintro ⟨z, e, S, _⟩
    cases e
    exact S
  · intro S
    exact ⟨d, rfl, S, fun g hg => by cases hg⟩
theorem spr_pb {m n D S : Nat} {os : List (Option Nat)} {P : PtZ} (h : PB m D S P) (hl : os.length = n + 1) (ok : ∀ (r i : Nat), os[r]? = some (some i) → i < m) : PB (n + 1) 0 0 (sprP os P) := by
  have C := spr_closed h.cl' ok
  rw [hl] at C
  obtain ⟨y1, y2⟩ := some_state C
  exact ⟨⟨_, rfl, C⟩, trivial, Nat.le_refl _, Nat.le_refl _, _, y2, in_plain.mpr y1⟩
theorem spr_ins {m D S : Nat} {os : List (Option Nat)} {pos : Nat → Nat} {Ps : List PtZ} (h : ∀ P ∈ Ps, PB m D S P ∧ P.2 = []) (k : SprOk m os pos) (x : Nat → Int) : InS os.length x (Ps.map (sprP os)) ↔ InS m (fun i => x (pos i)) Ps := by
  unfold InS
  constructor
  · rintro ⟨Q, hQ, hx⟩
    obtain ⟨P, hP, rfl⟩ := List.mem_map.mp hQ
    refine ⟨P, hP, ?_⟩
    obtain ⟨h1, h2⟩ := h P hP
    rw [h1.eta, h2, in_plain]
    exact (spr_sat h1.cl' k).mp (in_plain.mp hx)
  · rintro ⟨P, hP, hx⟩
    obtain ⟨h1, h2⟩ := h P hP
    rw [h1.eta, h2, in_plain] at hx
    exact ⟨_, List.mem_map.mpr ⟨P, hP, rfl⟩, in_plain.mpr ((spr_sat h1.cl' k).mpr hx)⟩
end Zg

namespace K18
open PySem L2 Bx
theorem lg {n : Nat} (h : n < 2 ^ 64) : n.log2 < 9000 := Nat.lt_trans (PySem.Flt.log2_lt_of (by decide) h) (by decide)
theorem butT {K : PySem.W.Frag} {l : Addr} {H H' : Hp} {xs ys : List V} {a : Addr} (hl : H l = some (.lst xs)) (e : But l H H') (h : SqT K H a ys) : SqT K H' a ys := by
  rcases h with (h | ⟨o, h⟩) | h
  · exact .inl (.inl (e _ _ h (ne_of h hl (by intro z; cases z))))
  · exact .inl (.inr ⟨o, e _ _ h (ne_of h hl (by intro z; cases z))⟩)
  · exact .inr h

section
variable {K : PySem.W.Frag}
/-- literals at ts -/
def LitsAt (K : PySem.W.Frag) (H : Hp) (ts : List Addr) (lits : List (Str × Str × Int)) : Prop :=
  ts.length = lits.length ∧ ∀ (j : Nat) (q : Str × Str × Int), lits[j]? = some q → ∃ t, ts[j]? = some t ∧ SqT K H t [.str q.1, .str q.2.1, .int q.2.2]
theorem LitsAt.mono {H H' : Hp} {ts : List Addr} {lits : List (Str × Str × Int)} (e : Same H H') (h : LitsAt K H ts lits) : LitsAt K H' ts lits :=
  ⟨h.1, fun j q hj => (h.2 j q hj).imp fun t z => ⟨z.1, Same.seqT e z.2⟩⟩

theorem LitsAt.but {l : Addr} {H H' : Hp} {xs : List V} {ts : List Addr} {lits : List (Str × Str × Int)} (hl : H l = some (.lst xs)) (e : But l H H') (h : LitsAt K H ts lits) : LitsAt K H' ts lits :=
  ⟨h.1, fun j q hj => (h.2 j q hj).imp fun t z => ⟨z.1, butT hl e z.2⟩⟩
/-- a row of literals -/
def RowAt (K : PySem.W.Frag) (H : Hp) (r : Addr) (lits : List (Str × Str × Int)) : Prop := ∃ ts, SqT K H r (ts.map V.ref) ∧ LitsAt K H ts lits
theorem RowAt.mono {H H' : Hp} {r : Addr} {lits : List (Str × Str × Int)} (e : Same H H') (h : RowAt K H r lits) : RowAt K H' r lits := h.imp fun ts z => ⟨Same.seqT e z.1, z.2.mono e⟩
theorem RowAt.but {l : Addr} {H H' : Hp} {xs : List V} {r : Addr} {lits : List (Str × Str × Int)} (hl : H l = some (.lst xs)) (e : But l H H') (h : RowAt K H r lits) : RowAt K H' r lits := h.imp fun ts z => ⟨butT hl e z.1, z.2.but hl e⟩
def RowsIn (K : PySem.W.Frag) (H : Hp) (rs : List Addr) (rows : List (List (Str × Str × Int))) : Prop := rs.length = rows.length ∧ ∀ (j : Nat) q, rows[j]? = some q → ∃ r, rs[j]? = some r ∧ RowAt K H r q
theorem RowsIn.mono {H H' : Hp} {rs : List Addr} {rows : List (List (Str × Str × Int))} (e : Same H H') (h : RowsIn K H rs rows) : RowsIn K H' rs rows := ⟨h.1, fun j q hj => (h.2 j q hj).imp fun r z => ⟨z.1, z.2.mono e⟩⟩
theorem RowsIn.but {l : Addr} {H H' : Hp} {xs : List V} {rs : List Addr} {rows : List (List (Str × Str × Int))} (hl : H l = some (.lst xs)) (e : But l H H') (h : RowsIn K H rs rows) : RowsIn K H' rs rows := ⟨h.1, fun j q hj => (h.2 j q hj).imp fun r z => ⟨z.1, z.2.but hl e⟩⟩
def RowsAt (K : PySem.W.Frag) (H : Hp) (p : Addr) (rows : List (List (Str × Str × Int))) : Prop := ∃ rs, SqT K H p (rs.map V.ref) ∧ RowsIn K H rs rows
theorem RowsAt.mono {H H' : Hp} {p : Addr} {rows : List (List (Str × Str × Int))} (e : Same H H') (h : RowsAt K H p rows) : RowsAt K H' p rows := h.imp fun rs z => ⟨Same.seqT e z.1, z.2.mono e⟩
theorem RowsAt.but {l : Addr} {H H' : Hp} {xs : List V} {p : Addr} {rows : List (List (Str × Str × Int))} (hl : H l = some (.lst xs)) (e : But l H H') (h : RowsAt K H p rows) : RowsAt K H' p rows := h.imp fun rs z => ⟨butT hl e z.1, z.2.but hl e⟩
theorem LitsAt.snoc {H : Hp} {ts : List Addr} {lits : List (Str × Str × Int)} {t : Addr} {q : Str × Str × Int} (h : LitsAt K H ts lits) (ht : SqT K H t [.str q.1, .str q.2.1, .int q.2.2]) : LitsAt K H (ts ++ [t]) (lits ++ [q]) := by
  refine ⟨by simp [h.1], fun j q' hj => ?_⟩
  by_cases e : j < lits.length
  · rw [List.getElem?_append_left e] at hj
    obtain ⟨t', h1, h2⟩ := h.2 j q' hj
    exact ⟨t', by rw [List.getElem?_append_left (by rw [h.1]; exact e)]; exact h1, h2⟩
  · have ej : j = lits.length := by
      have := (List.getElem?_eq_some_iff.mp hj).1
      simp at this
      omega
    subst ej
    rw [List.getElem?_append_right (Nat.le_refl _)] at hj
    have eq : q' = q := by simpa using hj.symm
    subst eq
    exact ⟨t, by rw [← h.1, List.getElem?_append_right (Nat.le_refl _)]; simp, ht⟩
theorem RowsIn.snoc {H : Hp} {rs : List Addr} {rows : List (List (Str × Str × Int))} {t : Addr} {q : List (Str × Str × Int)} (h : RowsIn K H rs rows) (ht : RowAt K H t q) : RowsIn K H (rs ++ [t]) (rows ++ [q]) := by
  refine ⟨by simp [h.1], fun j q' hj => ?_⟩
  by_cases e : j < rows.length
  · rw [List.getElem?_append_left e] at hj
    obtain ⟨t', h1, h2⟩ := h.2 j q' hj
    exact ⟨t', by rw [List.getElem?_append_left (by rw [h.1]; exact e)]; exact h1, h2⟩
  · have ej : j = rows.length := by
      have := (List.getElem?_eq_some_iff.mp hj).1
      simp at this
      omega
    subst ej
    rw [List.getElem?_append_right (Nat.le_refl _)] at hj
    have eq : q' = q := by simpa using hj.symm
    subst eq
    exact ⟨t, by rw [← h.1, List.getElem?_append_right (Nat.le_refl _)]; simp, ht⟩
end
def WellAt (H : Hp) (l : Addr) : Prop := ∃ x y z : Int, H l = some (.lst [.int x, .int y, .int z])
section
variable {P : Program} {w : World} {K : PySem.W.Frag} {mg : Str → Option Value} {base : Heap} {CC CS aB : Addr}
def spWell : Sp := fun vs H Q _ => ∃ (c : Int), vs = [.int c] ∧ ∀ p H', H p = none → Same H H' → WellAt H' p → Q (.ref p) H'
theorem ok_l_well {f : Addr} {fd : FuncData} (F : C8.Def K mg "_law_well" s_l_well f fd) (b : Binds K fd ["_law_cell"] []) (T : Txt K mg CC CS aB) : C8.Cal P w K mg base 1 "_law_well" spWell [] := by
  refine C8.cal0 F b .nil sc_l_well (fun vs H Q E h => ?_) (fun cdv A outer s H vs Q E hr h => ?_)
  · obtain ⟨c, rfl, _⟩ := h
    rfl
  · obtain ⟨c, rfl, k⟩ := h
    refine ⟨_, (pss_one (ps_ret (pe_lst (pa_cons (pe_op op_mul (pv 0) (pe_callTy call_int1 (by rfl) T.z_int (by decide +kernel) (pa_cons (pe_cmpR op_ge (pv 0) (pe_op op_pow pe_int pe_int) (nomark _)) pa_nil))) (pa_cons (pe_op op_mod (pe_callTy call_int1 (by rfl) T.z_int (by decide +kernel) (pa_cons (pv 0) pa_nil)) pe_int) (pa_cons pe_int pa_nil)))))), ?_⟩
    refine ⟨_, rfl, _, rfl, _, _, rfl, rfl, ⟨by decide, by decide, by decide⟩, _, _, rfl, rfl, .inr ⟨_, rfl, _, _, rfl, rfl, .inr ⟨by split <;> decide, by split <;> decide⟩, _, rfl, .inl ⟨_, rfl, _, _, rfl, rfl, (by show (0 : Int) < 2147483587; decide), (by show 3 ≤ sizeLine; decide), fun p hp => ?_⟩⟩⟩
    exact k p _ hp (Same.new hp) ⟨_, _, _, upd_same⟩
def spDraw : Sp := fun vs H Q _ => ∃ (l : Addr) (b : Int), vs = [.ref l, .int b] ∧ WellAt H l ∧ 0 < b ∧ b.natAbs.log2 < 9000 ∧ ∀ (r : Int) (H' : Hp), 0 ≤ r → r < b → WellAt H' l → But l H H' → Q (.int r) H'
theorem ok_l_draw {f : Addr} {fd : FuncData} (F : C8.Def K mg "_law_draw" s_l_draw f fd) (b : Binds K fd ["_law_well_here", "_law_base"] []) (T : Txt K mg CC CS aB) : C8.Cal P w K mg base 1 "_law_draw" spDraw [] := by
  refine C8.cal0 F b .nil sc_l_draw (fun vs H Q E h => ?_) (fun cdv A outer s H vs Q E hr h => ?_)
  · obtain ⟨l, b, rfl, _⟩ := h
    rfl
  · obtain ⟨l, b, rfl, ⟨x, y, z, hW⟩, hb, hlg, k⟩ := h
    refine ⟨_, (pss_cons (ps_if (pt_cmpR op_gt (pe_ix ix_list (pv 0) pe_int (fun _ _ => rfl)) pe_int (nomark _)) (pss_cons (ps_set (i := 2) sc_l_draw.nd rfl (Or.inl rfl) (pe_op op_mod (pe_callTy call_int1 (by rfl) T.z_int (by decide +kernel) (pa_cons (pe_ix ix_list (pv 0) pe_int (fun _ _ => rfl)) pa_nil)) (pv 1)))
    (pss_cons (ps_asg (pe_op op_fdivW (pe_ix ix_list (pv 0) pe_int (fun _ _ => rfl)) (pv 1)) (pg_sub (pv 0) pe_int set_list))
    (pss_one (ps_ret (pv 2))))) pss_nil)
    (pss_cons (ps_asg (pe_op op_add (pe_ix ix_list (pv 0) pe_int (fun _ _ => rfl)) pe_int) (pg_sub (pv 0) pe_int set_list))
    (pss_cons (ps_set (i := 3) sc_l_draw.nd rfl (Or.inl rfl) (pe_op op_mod (pe_callTy call_int1 (by rfl) T.z_int (by decide +kernel) (pa_cons (pe_op op_mul (pe_callTy call_int1 (by rfl) T.z_int (by decide +kernel) (pa_cons (pe_op op_add (pe_op op_add (pe_ix ix_list (pv 0) pe_int (fun _ _ => rfl)) (pe_op op_mul pe_int (pe_ix ix_list (pv 0) pe_int (fun _ _ => rfl)))) pe_int) pa_nil)) pe_int) pa_nil)) pe_int))
    (pss_cons (ps_set (i := 3) sc_l_draw.nd rfl (Or.inl rfl) (pe_op op_mod (pe_callTy call_int1 (by rfl) T.z_int (by decide +kernel) (pa_cons (pe_op op_mul (pv 3) (pe_op op_add (pe_op op_fdiv (pv 3) pe_int) pe_int)) pa_nil)) pe_int))
    (pss_one (ps_ret (pe_op op_mod (pe_op op_fdiv (pe_op op_mod (pe_callTy call_int1 (by rfl) T.z_int (by decide +kernel) (pa_cons (pe_op op_mul (pv 3) (pe_op op_add (pe_op op_fdiv (pv 3) pe_int) pe_int)) pa_nil)) pe_int) pe_int) (pv 1)))))))), ?_⟩
    refine ⟨_, rfl, l, _, _, _, rfl, rfl, SqL.of hW, rfl, _, _, rfl, rfl, _, rfl, ?_⟩
    refine ite2 (fun hx => ?_) (fun hx => ?_)
    · refine ⟨_, rfl, l, _, _, _, rfl, rfl, SqL.of hW, rfl, .inl ⟨_, rfl, _, rfl, _, _, rfl, rfl, hb, ?_⟩⟩
      refine ⟨_, rfl, l, _, _, _, rfl, rfl, SqL.of hW, rfl, _, rfl, _, _, rfl, rfl, ⟨hb, hlg⟩, _, rfl, l, _, _, _, rfl, rfl, hW, rfl, ?_⟩
      refine ⟨_, rfl, ?_⟩
      exact k _ _ (Int.emod_nonneg _ (by omega)) (Int.emod_lt_of_pos _ hb) ⟨_, _, _, upd_same⟩ But.upd
    · refine ⟨_, rfl, l, _, _, _, rfl, rfl, SqL.of hW, rfl, _, _, rfl, rfl, _, rfl, l, _, _, _, rfl, rfl, hW, rfl, ?_⟩
      refine ⟨_, rfl, l, _, _, _, rfl, rfl, SqL.of upd_same, rfl, _, rfl, l, _, _, _, rfl, rfl, SqL.of upd_same, rfl, _, _, rfl, rfl, .inl ⟨by decide, by decide⟩, _, _, rfl, rfl, _, _, rfl, rfl, .inl ⟨_, rfl, _, _, rfl, rfl, .inr ⟨by decide, by decide⟩, .inl ⟨_, rfl, _, _, rfl, rfl, (by show (0 : Int) < 2147483647; decide), ?_⟩⟩⟩
      generalize hn : ((y + 6131 * (z + 1) + 17) * 48271) % 2147483647 = n
      have n0 : 0 ≤ n := by omega
      have n1 : n < 2147483647 := by omega
      refine ⟨_, rfl, _, rfl, _, _, rfl, rfl, ⟨by decide, by decide⟩, _, _, rfl, rfl, _, _, rfl, rfl, .inl ⟨by omega, by omega⟩, .inl ⟨_, rfl, _, _, rfl, rfl, (by show (0 : Int) < 2147483647; decide), ?_⟩⟩
      generalize hm : (n * (n / 1013 + 69621)) % 2147483647 = m
      have m0 : 0 ≤ m := by rw [← hm]; exact Int.emod_nonneg _ (by decide)
      have m1 : m < 2147483647 := by rw [← hm]; exact Int.emod_lt_of_pos _ (by decide)
      refine ⟨_, rfl, _, rfl, _, _, rfl, rfl, ⟨by decide, by decide⟩, _, _, rfl, rfl, _, _, rfl, rfl, .inl ⟨by omega, by omega⟩, .inl ⟨_, rfl, _, _, rfl, rfl, (by show (0 : Int) < 2147483399; decide), _, _, rfl, rfl, ⟨by decide, by decide⟩, _, rfl, _, _, rfl, rfl, hb, ?_⟩⟩
      exact k _ _ (Int.emod_nonneg _ (by omega)) (Int.emod_lt_of_pos _ hb) ⟨_, _, _, upd_same⟩ But.upd
def spOne (K : PySem.W.Frag) : Sp := fun vs H Q _ => ∃ (l p : Addr) (xs : List V), vs = [.ref l, .ref p] ∧ WellAt H l ∧ p ≠ l ∧ SqL K H p xs ∧ 0 < xs.length ∧ xs.length < 100000 ∧ ∀ (v : V) (H' : Hp), v ∈ xs → WellAt H' l → But l H H' → Q v H'
theorem ok_l_one {f : Addr} {fd : FuncData} (F : C8.Def K mg "_law_one" s_l_one f fd) (b : Binds K fd ["_law_well_here", "_law_some"] []) (T : Txt K mg CC CS aB) (K_l_draw : C8.Cal P w K mg base 1 "_law_draw" spDraw []) : C8.Cal P w K mg base 2 "_law_one" (spOne K) [] := by
  refine C8.cal0 F b .nil sc_l_one (fun vs H Q E h => ?_) (fun cdv A outer s H vs Q E hr h => ?_)
  · obtain ⟨l, p, xs, rfl, _⟩ := h
    rfl
  · obtain ⟨l, p, xs, rfl, hW, hpl, hp, h0, h1, k⟩ := h
    refine ⟨_, (pss_one (ps_ret (pe_ix ix_list (pv 1) (C8.pe_c K_l_draw hr (by decide) (by rfl) (pa_cons (pv 0) (pa_cons (pe_callB call_len_seq (by rfl) T.z_len (by decide +kernel) (pa_cons (pv 1) pa_nil)) pa_nil))) (fun _ _ => rfl)))), ?_⟩
    refine ⟨_, rfl, _, rfl, _, rfl, p, _, rfl, .inl hp, l, _, rfl, hW, by omega, lg (by omega), fun r H' r0 r1 W' B' => ?_⟩
    obtain ⟨j, rfl⟩ : ∃ j : Nat, r = (j : Int) := ⟨r.toNat, by omega⟩
    have hj : j < xs.length := by omega
    refine ⟨p, _, _, _, rfl, rfl, B'.seq hpl hp, atI_nat (List.getElem?_eq_getElem hj), ?_⟩
    exact k _ _ (List.getElem_mem hj) W' B'
end
end K18

namespace K18
open PySem L2 Bx
theorem sz {n : Nat} (h : n ≤ 1000) : n ≤ sizeLine := Nat.le_trans h (by decide)
theorem szs {n : Nat} (h : n ≤ 1000) : n < sizeLine := Nat.lt_of_le_of_lt h (by decide)
theorem er_map {α β : Type} (f : α → β) : ∀ (xs : List α) (i : Nat), (xs.map f).eraseIdx i = (xs.eraseIdx i).map f
  | [], i => rfl
  | x :: xs, 0 => rfl
  | x :: xs, i + 1 => by simp [er_map f xs i]
theorem er_perm0 {α : Type} : ∀ {ys : List α} {q : Nat} (h : q < ys.length), (ys[q] :: ys.eraseIdx q).Perm ys
  | y :: ys, 0, h => List.Perm.refl _
  | y :: ys, q + 1, h => by
    have h' : q < ys.length := by simpa using h
    simp only [List.getElem_cons_succ, List.eraseIdx_cons_succ]
    exact (List.Perm.swap _ _ _).trans (List.Perm.cons _ (er_perm0 h'))
theorem er_perm {α : Type} {ys ns : List α} {q : Nat} (h : q < ys.length) : (ys.eraseIdx q ++ (ns ++ [ys[q]])).Perm (ys ++ ns) := by
  refine List.Perm.trans ?_ (List.Perm.append_right ns (er_perm0 h))
  rw [← List.append_assoc]
  exact List.perm_append_comm
def pool : List Str := ["zz", "b", "value", "ab", "y", "longname"]
theorem WellAt.same {H H' : Hp} {l : Addr} (h : WellAt H l) (S : Same H H') : WellAt H' l := by
  obtain ⟨x, y, z, e⟩ := h
  exact ⟨x, y, z, S _ _ e⟩
theorem WellAt.ne {H : Hp} {l q : Addr} (h : WellAt H l) (n : H q = none) : q ≠ l := fun e => by
  obtain ⟨x, y, z, h⟩ := h
  rw [e, h] at n
  cases n
theorem WellAt.upd {H : Hp} {l q : Addr} {o : HO} (h : WellAt H l) (n : q ≠ l) : WellAt (L2.upd H q o) l := by
  obtain ⟨x, y, z, e⟩ := h
  exact ⟨x, y, z, by rw [upd_ne (fun q => n q.symm)]; exact e⟩
theorem _root_.Bx.But.updN {l p : Addr} {H H' : Hp} {o : HO} (e : But l H H') (n : H p = none) : But l H (L2.upd H' p o) := fun b u h ne => by
  rw [upd_ne (fun q => by rw [q, n] at h; cases h)]
  exact e b u h ne
theorem _root_.Bx.But.none {l p : Addr} {H H' : Hp} (e : But l H H') (n : p ≠ l) (h : H' p = Option.none) : H p = Option.none := e.free n h
section
variable {P : Program} {w : World} {K : PySem.W.Frag} {mg : Str → Option Value} {base : Heap} {CC CS aB : Addr}
/-- different names of the pool -/
def spNames (K : PySem.W.Frag) : Sp := fun vs H Q _ => ∃ (l : Addr) (m : Nat), vs = [.ref l, .int (m : Nat)] ∧ WellAt H l ∧ m ≤ 6 ∧ ∀ (p : Addr) (ns : List Str) (H' : Hp), ns.length = m → ns.Nodup → (∀ x ∈ ns, x ∈ pool) → SqT K H' p (ns.map V.str) → WellAt H' l → But l H H' → Q (.ref p) H'
end
end K18

namespace K18
open PySem L2 Bx
def TermsOk (ns : List Str) (q : Str × Str × Int) : Prop := (q.1 = "" ∨ q.1 ∈ ns) ∧ (q.2.1 = "" ∨ q.2.1 ∈ ns)
def LitOk (ns : List Str) (q : Str × Str × Int) : Prop := TermsOk ns q ∧ -3 ≤ q.2.2 ∧ q.2.2 ≤ 3
section
variable {P : Program} {w : World} {K : PySem.W.Frag} {mg : Str → Option Value} {base : Heap} {CC CS aB : Addr}
theorem But.rows {l : Addr} {H H' : Hp} {p : Addr} {rows : List (List (Str × Str × Int))} (W : WellAt H l) (e : But l H H') (h : RowsAt K H p rows) : RowsAt K H' p rows := by
  obtain ⟨x, y, z, hl⟩ := W
  exact h.but hl e
theorem But.row {l : Addr} {H H' : Hp} {p : Addr} {rows : List (Str × Str × Int)} (W : WellAt H l) (e : But l H H') (h : RowAt K H p rows) : RowAt K H' p rows := by
  obtain ⟨x, y, z, hl⟩ := W
  exact h.but hl e
theorem But.tup {l : Addr} {H H' : Hp} {p : Addr} {xs : List V} (W : WellAt H l) (e : But l H H') (h : SqT K H p xs) : SqT K H' p xs := by
  obtain ⟨x, y, z, hl⟩ := W
  exact butT hl e h
def spRows (K : PySem.W.Frag) : Sp := fun vs H Q _ => ∃ (l p : Addr) (ns : List Str) (m t : Nat), vs = [.ref l, .ref p, .int (m : Nat), .int (t : Nat)] ∧ WellAt H l ∧ SqT K H p (ns.map V.str) ∧ ns.length ≤ 100 ∧ m ≤ 50 ∧ t ≤ 50 ∧
  ∀ (r : Addr) (rows : List (List (Str × Str × Int))) (H' : Hp), rows.length ≤ m → (∀ q ∈ rows, q.length ≤ t ∧ ∀ x ∈ q, LitOk ns x) → RowsAt K H' r rows → WellAt H' l → But l H H' → Q (.ref r) H'
end
end K18

namespace K18
open PySem L2 Bx
theorem hk_new {h : Str → Int} {t : Str} {n : Int} {ks : List Str} (m : t ∉ ks) : putK (hk ks h) (Sum.inr t) (.int n) = hk (ks ++ [t]) (Bf.put h t n) := by
  refine (fk_new (v := fun t => V.int (h t)) m).trans ?_
  unfold fk hk
  refine List.map_congr_left fun k _ => ?_
  unfold Bf.put
  by_cases e : k = t <;> simp [e]
theorem hk_len (ks : List Str) (h : Str → Int) : (hk ks h).length = ks.length := by
  unfold hk
  rw [List.length_map]
/-- a state: its integers are near 0 -/
def StateAt (H : Hp) (far : Nat) (ks : List Str) (d : Addr) : Prop := ∃ f : Str → Int, H d = some (.dK (hk ks f)) ∧ ∀ t ∈ ks, -(far : Int) ≤ f t ∧ f t ≤ far
theorem StateAt.mono {H H' : Hp} {far : Nat} {ks : List Str} {d : Addr} (e : Same H H') (h : StateAt H far ks d) : StateAt H' far ks d := h.imp fun f z => ⟨e _ _ z.1, z.2⟩
theorem take_snoc {α : Type} {xs : List α} {i : Nat} {x : α} (h : xs[i]? = some x) : xs.take (i + 1) = xs.take i ++ [x] := by
  rw [List.take_succ, h]
  rfl
section
variable {P : Program} {w : World} {K : PySem.W.Frag} {mg : Str → Option Value} {base : Heap} {CC CS aB : Addr}
def spGrid (K : PySem.W.Frag) : Sp := fun vs H Q _ => ∃ (p : Addr) (ns : List Str) (far : Nat), vs = [.ref p, .int (far : Nat)] ∧ SqT K H p (ns.map V.str) ∧ ns.Nodup ∧ ns.length ≤ 10 ∧ far ≤ 100 ∧ (∀ i, i ≤ ns.length → (2 * far + 1) ^ i ≤ 900) ∧
  ∀ (g : Addr) (ds : List Addr) (H' : Hp), Same H H' → SqL K H' g (ds.map V.ref) → (∀ d ∈ ds, StateAt H' far ns d) → ds.length ≤ 900 → Q (.ref g) H'
end
end K18

namespace Bx
open PySem PySem.Spec PyProof.Rows L2
theorem eqv_lit (a b : Str × Str × Int) : PyData.eqv (.tuple [.str a.1, .str a.2.1, .int a.2.2]) (.tuple [.str b.1, .str b.2.1, .int b.2.2]) = decide (a = b) := by
  obtain ⟨a1, a2, a3⟩ := a
  obtain ⟨b1, b2, b3⟩ := b
  rw [Bool.eq_iff_iff, decide_eq_true_eq]
  simp [PyData.eqv, PyData.eqvAll]
def litD (a : Str × Str × Int) : PyData := .tuple [.str a.1, .str a.2.1, .int a.2.2]
theorem any_lit (q : Str × Str × Int) (C : List (Str × Str × Int)) : ((C.map litD).any fun z => PyData.eqv z (litD q)) = decide (q ∈ C) := by
  rw [Bool.eq_iff_iff, List.any_eq_true, decide_eq_true_eq]
  constructor
  · rintro ⟨z, hz, e⟩
    obtain ⟨a, ha, rfl⟩ := List.mem_map.mp hz
    have e := (eqv_lit a q).symm.trans e
    rw [← of_decide_eq_true e]
    exact ha
  · intro h
    refine ⟨litD q, List.mem_map_of_mem h, (eqv_lit q q).trans (decide_eq_true rfl)⟩
theorem lay_lit {a : Str × Str × Int} (h : PyData.strOk a.1 = true ∧ PyData.strOk a.2.1 = true) : PyData.canLay0 (litD a) = true := by
  simp [litD, PyData.canLay0, PyData.canLayAll0, h.1, h.2]
theorem shaped_lit {a : Str × Str × Int} (h : PyData.strOk a.1 = true ∧ PyData.strOk a.2.1 = true) : SeqAt.shaped (litD a) = true := by
  unfold SeqAt.shaped
  rw [Bool.and_eq_true, decide_eq_true_eq]
  refine ⟨lay_lit h, ?_⟩
  simp [litD, PyData.depth, PyData.depthAll]
theorem shaped_lits {C : List (Str × Str × Int)} (h : ∀ a ∈ C, PyData.strOk a.1 = true ∧ PyData.strOk a.2.1 = true) : SeqAt.shaped (.list (C.map litD)) = true := by
  have h1 : ∀ {C : List (Str × Str × Int)}, (∀ a ∈ C, PyData.strOk a.1 = true ∧ PyData.strOk a.2.1 = true) → PyData.canLayAll0 (C.map litD) = true := by
    intro C
    induction C with
    | nil => intro _; simp [PyData.canLayAll0]
    | cons a C ih => intro h; simp [PyData.canLayAll0, lay_lit (h a List.mem_cons_self), ih fun b hb => h b (List.mem_cons_of_mem _ hb)]
  have h2 : ∀ C : List (Str × Str × Int), PyData.depthAll (C.map litD) ≤ 3 := by
    intro C
    induction C with
    | nil => simp [PyData.depthAll]
    | cons a C ih =>
      simp [PyData.depthAll, litD, PyData.depth]
      omega
  unfold SeqAt.shaped
  rw [Bool.and_eq_true, decide_eq_true_eq]
  refine ⟨by simp [PyData.canLay0, h1 h], ?_⟩
  have := h2 C
  simp [PyData.depth]
  omega
def rowD (L : List (Str × Str × Int)) : PyData := .tuple (L.map litD)
def OkS (L : List (Str × Str × Int)) : Prop := ∀ a ∈ L, PyData.strOk a.1 = true ∧ PyData.strOk a.2.1 = true
theorem lay_row {L : List (Str × Str × Int)} (h : OkS L) : PyData.canLay0 (rowD L) = true := by
  have h1 := shaped_lits h
  unfold SeqAt.shaped at h1
  rw [Bool.and_eq_true] at h1
  have := h1.1
  simp [PyData.canLay0] at this
  simp [rowD, PyData.canLay0, this]
theorem depth_lits (C : List (Str × Str × Int)) : PyData.depthAll (C.map litD) ≤ 3 := by
  induction C with
  | nil => simp [PyData.depthAll]
  | cons a C ih =>
    simp [PyData.depthAll, litD, PyData.depth]
    omega
theorem shaped_rows {R : List (List (Str × Str × Int))} (h : ∀ L ∈ R, OkS L) : SeqAt.shaped (.list (R.map rowD)) = true := by
  have h1 : ∀ {R : List (List (Str × Str × Int))}, (∀ L ∈ R, OkS L) → PyData.canLayAll0 (R.map rowD) = true := by
    intro R
    induction R with
    | nil => intro _; simp [PyData.canLayAll0]
    | cons a C ih => intro h; simp [PyData.canLayAll0, lay_row (h a List.mem_cons_self), ih fun b hb => h b (List.mem_cons_of_mem _ hb)]
  have h2 : ∀ R : List (List (Str × Str × Int)), PyData.depthAll (R.map rowD) ≤ 4 := by
    intro R
    induction R with
    | nil => simp [PyData.depthAll]
    | cons a C ih =>
      have := depth_lits a
      simp [PyData.depthAll, rowD, PyData.depth]
      omega
  unfold SeqAt.shaped
  rw [Bool.and_eq_true, decide_eq_true_eq]
  refine ⟨by simp [PyData.canLay0, h1 h], ?_⟩
  have := h2 R
  simp [PyData.depth]
  omega
theorem eqv_nil (ds : List PyData) : PyData.eqv (.list ds) (.list []) = decide (ds = []) := by
  cases ds with
  | nil => simp [PyData.eqv, PyData.eqvAll]
  | cons a ds => simp [PyData.eqv, PyData.eqvAll]
theorem dget_hk {H : Hp} {a : Addr} {ks : List Str} {h : Str → Int} {t : Str} (e : H a = some (.dK (hk ks h))) (m : t ∈ ks) : DGet H a (.str t) (some (.int (h t))) := by
  have := DGet.k (k := (Sum.inr t : Key)) e
  rw [hk_get m] at this
  exact this
end Bx
namespace K18
open PySem L2 Bx
section
variable {K : PySem.W.Frag} {H : Hp}
theorem LitsAt.dp {ts : List Addr} {L : List (Str × Str × Int)} (h : LitsAt K H ts L) : DpAll K H (ts.map V.ref) (L.map litD) := by
  induction L generalizing ts with
  | nil =>
    have : ts = [] := List.length_eq_zero_iff.mp h.1
    subst this
    exact .nil
  | cons q L ih =>
    cases ts with
    | nil => cases h.1
    | cons t ts =>
      obtain ⟨t', h1, h2⟩ := h.2 0 q rfl
      cases h1
      exact .cons (.tup h2 (.cons (.str _) (.cons (.str _) (.cons (.int _) .nil)))) (ih ⟨Nat.succ.inj h.1, fun j q' hj => h.2 (j + 1) q' hj⟩)
theorem RowAt.dp {r : Addr} {L : List (Str × Str × Int)} (h : RowAt K H r L) : Dp K H (.ref r) (rowD L) := by
  obtain ⟨ts, h1, h2⟩ := h
  exact .tup h1 h2.dp
theorem RowsIn.dp {rs : List Addr} {R : List (List (Str × Str × Int))} (h : RowsIn K H rs R) : DpAll K H (rs.map V.ref) (R.map rowD) := by
  induction R generalizing rs with
  | nil =>
    have : rs = [] := List.length_eq_zero_iff.mp h.1
    subst this
    exact .nil
  | cons q L ih =>
    cases rs with
    | nil => cases h.1
    | cons t ts =>
      obtain ⟨t', h1, h2⟩ := h.2 0 q rfl
      cases h1
      exact .cons h2.dp (ih ⟨Nat.succ.inj h.1, fun j q' hj => h.2 (j + 1) q' hj⟩)
end
/-- a term's integer -/
def vl (f : Str → Int) (t : Str) : Int := if t = "" then 0 else f t
def meetsB (f : Str → Int) (L : List (Str × Str × Int)) : Bool := L.all fun q => decide (vl f q.1 ≤ vl f q.2.1 + q.2.2)
def inB (f : Str → Int) (R : List (List (Str × Str × Int))) : Bool := R.any (meetsB f)
section
variable {P : Program} {w : World} {K : PySem.W.Frag} {mg : Str → Option Value} {base : Heap} {CC CS aB : Addr}
def spAt : Sp := fun vs H Q _ => ∃ (d : Addr) (t : Str) (ks : List Str) (f : Str → Int), vs = [.ref d, .str t] ∧ H d = some (.dK (hk ks f)) ∧ (t = "" ∨ t ∈ ks) ∧ Q (.int (vl f t)) H
def spMeets (K : PySem.W.Frag) : Sp := fun vs H Q _ => ∃ (d r : Addr) (ks : List Str) (f : Str → Int) (L : List (Str × Str × Int)), vs = [.ref d, .ref r] ∧ H d = some (.dK (hk ks f)) ∧ RowAt K H r L ∧ (∀ q ∈ L, TermsOk ks q) ∧ ∀ H', Same H H' → Q (.bl (meetsB f L)) H'
def spIsIn (K : PySem.W.Frag) : Sp := fun vs H Q _ => ∃ (d p : Addr) (ks : List Str) (f : Str → Int) (R : List (List (Str × Str × Int))), vs = [.ref d, .ref p] ∧ H d = some (.dK (hk ks f)) ∧ RowsAt K H p R ∧ R.length ≤ 900 ∧ (∀ L ∈ R, OkS L ∧ ∀ q ∈ L, TermsOk ks q) ∧ ∀ H', Same H H' → Q (.bl (inB f R)) H'
end
end K18

namespace K18
open PySem L2 Bx
def wordB (x : Str) : Bool := decide (1 ≤ (x.length : Int)) && decide ((x.length : Int) ≤ 8) && (Txt.isascii x && (Txt.isalpha x && Txt.islower x))
def labelB (x : Str) : Bool := wordB x && (decide (x = "value") || !decide (x ∈ barred))
theorem inV_strs (x : Str) (xs : List Str) : inV (.str x) (xs.map V.str) = decide (x ∈ xs) := by
  unfold inV
  rw [Bool.eq_iff_iff, List.any_eq_true, decide_eq_true_eq]
  constructor
  · rintro ⟨v, hv, e⟩
    obtain ⟨j, hj, rfl⟩ := List.mem_map.mp hv
    have : j = x := by simpa [eqV] using e
    exact this ▸ hj
  · intro h
    exact ⟨.str x, List.mem_map_of_mem h, by simp [eqV]⟩
theorem flat_strs (xs : List Str) : (xs.map V.str).all flatV = true := by
  rw [List.all_eq_true]
  intro v hv
  obtain ⟨j, _, rfl⟩ := List.mem_map.mp hv
  rfl
theorem pool_label : ∀ x ∈ pool, labelB x = true := by decide +kernel
section
variable {P : Program} {w : World} {K : PySem.W.Frag} {mg : Str → Option Value} {base : Heap} {CC CS aB : Addr}
/-- is it a whole number: any value whose class is known -/
def spNum (K : PySem.W.Frag) : Sp := fun vs H Q _ => ∃ (v : V) (t : Value) (a c : Bool), vs = [v] ∧ TyX K H v t ∧ PySem.W.kitOne K t (.type "int") = some a ∧ PySem.W.kitOne K t (.type "bool") = some c ∧ Q (.bl (a && !c)) H
theorem ok_is_number {f : Addr} {fd : FuncData} (F : C8.Def K mg "is_number" s_is_number f fd) (b : Binds K fd ["thing"] []) (T : Txt K mg CC CS aB) : C8.Cal P w K mg base 1 "is_number" (spNum K) [] := by
  refine C8.cal0 F b .nil sc_is_number (fun vs H Q E h => ?_) (fun cdv A outer s H vs Q E hr h => ?_)
  · obtain ⟨v, t, a, c, rfl, _⟩ := h
    rfl
  · obtain ⟨v, t, a, c, rfl, ty, ka, kc, k⟩ := h
    refine ⟨_, (pss_one (ps_ret (pe_and (pe_callB call_isi (by rfl) T.z_isinstance (by decide +kernel) (pa_cons (pv 0) (pa_cons (pe_bltn (v := .ty "int") (by rfl) T.z_int (by decide +kernel) rfl) pa_nil))) (pe_one (pe_not (pe_callB call_isi (by rfl) T.z_isinstance (by decide +kernel) (pa_cons (pv 0) (pa_cons (pe_bltn (v := .ty "bool") (by rfl) T.z_bool (by decide +kernel) rfl) pa_nil)))))))), ?_⟩
    refine ⟨_, rfl, _, _, _, _, _, rfl, .ty _, ty, ka, _, rfl, ?_⟩
    cases a with
    | false => exact iteF k
    | true => exact iteT ⟨_, rfl, _, _, _, _, _, rfl, .ty _, ty, kc, _, rfl, k⟩
/-- is it a literal: here only of good ones -/
def spLitG (K : PySem.W.Frag) : Sp := fun vs H Q _ => ∃ (p : Addr) (l r : Str) (n : Int), vs = [.ref p] ∧ SqT K H p [.str l, .str r, .int n] ∧ Q (.bl true) H
theorem ok_is_literal {f : Addr} {fd : FuncData} (F : C8.Def K mg "is_literal" s_is_literal f fd) (b : Binds K fd ["thing"] []) (T : Txt K mg CC CS aB) (K_is_number : C8.Cal P w K mg base 1 "is_number" (spNum K) []) : C8.Cal P w K mg base 2 "is_literal" (spLitG K) [] := by
  refine C8.cal0 F b .nil sc_is_literal (fun vs H Q E h => ?_) (fun cdv A outer s H vs Q E hr h => ?_)
  · obtain ⟨p, l, r, n, rfl, _⟩ := h
    rfl
  · obtain ⟨p, l, r, n, rfl, hp, k⟩ := h
    refine ⟨_, (pss_cons (ps_if (PW.pt (pw_or (pt_not (pt_val (pe_callB call_isi (by rfl) T.z_isinstance (by decide +kernel) (pa_cons (pv 0) (pa_cons (pe_bltn (v := .ty "tuple") (by rfl) T.z_tuple (by decide +kernel) rfl) pa_nil))))) (pw_or1 (pt_cmpR op_ne (pe_callB call_len_seq (by rfl) T.z_len (by decide +kernel) (pa_cons (pv 0) pa_nil)) pe_int (nomark _))))) (pss_one (ps_ret pe_bl)) pss_nil)
    (pss_cons (ps_asg (pv 0) (pg_tup (by rfl) (pgs_cons (pg_name (i := 1) sc_is_literal.nd rfl (Or.inl rfl)) (pgs_cons (pg_name (i := 2) sc_is_literal.nd rfl (Or.inl rfl)) (pgs_cons (pg_name (i := 3) sc_is_literal.nd rfl (Or.inl rfl)) pgs_nil)))))
    (pss_one (ps_ret (pe_and (pe_callB call_isi (by rfl) T.z_isinstance (by decide +kernel) (pa_cons (pv 1) (pa_cons (pe_bltn (v := .ty "str") (by rfl) T.z_str (by decide +kernel) rfl) pa_nil))) (pe_and (pe_callB call_isi (by rfl) T.z_isinstance (by decide +kernel) (pa_cons (pv 2) (pa_cons (pe_bltn (v := .ty "str") (by rfl) T.z_str (by decide +kernel) rfl) pa_nil))) (pe_one (C8.pe_c K_is_number hr (by decide) (by rfl) (pa_cons (pv 3) pa_nil))))))))), ?_⟩
    refine ⟨_, rfl, _, _, _, _, true, rfl, .ty _, tyT hp, rfl, _, rfl, ?_⟩
    refine iteF ?_
    refine ⟨_, rfl, p, _, rfl, .inr hp, rfl, _, rfl, ?_⟩
    refine iteF ?_
    refine ⟨_, rfl, p, _, rfl, hp, rfl, _, _, rfl, _, _, rfl, _, _, rfl, rfl, ?_⟩
    refine ⟨_, rfl, _, _, _, _, true, rfl, .ty _, .base (.str l), rfl, _, rfl, ?_⟩
    refine iteT ⟨_, rfl, _, _, _, _, true, rfl, .ty _, .base (.str r), rfl, _, rfl, ?_⟩
    refine iteT ⟨_, rfl, _, _, true, false, rfl, .base (.int n), rfl, rfl, ?_⟩
    exact k
/-- is it written like a name: any text -/
def spWord : Sp := fun vs H Q _ => ∃ x : Str, vs = [.str x] ∧ x.length ≤ 1000 ∧ ∀ H', Same H H' → Q (.bl (wordB x)) H'
theorem ok_is_word {f : Addr} {fd : FuncData} (F : C8.Def K mg "is_word" s_is_word f fd) (b : Binds K fd ["thing"] []) (T : Txt K mg CC CS aB) : C8.Cal P w K mg base 1 "is_word" spWord [] := by
  refine C8.cal0 F b .nil sc_is_word (fun vs H Q E h => ?_) (fun cdv A outer s H vs Q E hr h => ?_)
  · obtain ⟨x, rfl, _⟩ := h
    rfl
  · obtain ⟨x, rfl, hx, k⟩ := h
    refine ⟨_, (pss_cons (ps_if (PW.pt (pw_or (pt_not (pt_val (pe_callB call_isi (by rfl) T.z_isinstance (by decide +kernel) (pa_cons (pv 0) (pa_cons (pe_bltn (v := .ty "str") (by rfl) T.z_str (by decide +kernel) rfl) pa_nil))))) (pw_or1 (pt_not (pt_chain op_le op_le pe_int (pe_callB call_len_str (by rfl) T.z_len (by decide +kernel) (pa_cons (pv 0) pa_nil)) (C8.pe_gc (by rfl) T.c_LONGEST)))))) (pss_one (ps_ret pe_bl)) pss_nil)
    (pss_one (ps_ret (pe_and (pe_bm0 PySem.F.plainAttrs_str PySem.F.slot_str_isascii PySem.F.type_str_isascii mt_isascii (pv 0)) (pe_and (pe_bm0 PySem.F.plainAttrs_str PySem.F.slot_str_isalpha PySem.F.type_str_isalpha mt_isalpha (pv 0)) (pe_one (pe_bm0 PySem.F.plainAttrs_str PySem.F.slot_str_islower PySem.F.type_str_islower mt_islower (pv 0)))))))), ?_⟩
    refine ⟨_, rfl, _, _, _, _, true, rfl, .ty _, .base (.str _), rfl, _, rfl, ?_⟩
    refine iteF ?_
    refine ⟨_, rfl, _, rfl, sz hx, _, _, rfl, rfl, _, rfl, ?_⟩
    by_cases h1 : (1 : Int) ≤ (x.length : Int)
    · rw [decide_eq_true h1]
      refine iteT ⟨_, _, rfl, rfl, _, rfl, ?_⟩
      by_cases h2 : ((x.length : Int)) ≤ 8
      · rw [decide_eq_true h2]
        refine iteF ?_
        have k1 := k H (Same.refl H)
        unfold wordB at k1
        rw [decide_eq_true h1, decide_eq_true h2, Bool.true_and] at k1
        refine ⟨_, rfl, rfl, _, rfl, rfl, trivial, _, rfl, ?_⟩
        cases ha : Txt.isascii x with
        | false =>
          rw [ha] at k1
          simp only [Bool.false_and, Bool.true_and] at k1
          exact iteF k1
        | true =>
          rw [ha] at k1
          refine iteT ⟨_, rfl, rfl, _, rfl, rfl, trivial, _, rfl, ?_⟩
          cases hb : Txt.isalpha x with
          | false =>
            rw [hb] at k1
            simp only [Bool.false_and, Bool.true_and] at k1
            exact iteF k1
          | true =>
            rw [hb] at k1
            simp only [Bool.true_and] at k1
            exact iteT ⟨_, rfl, rfl, _, rfl, rfl, trivial, k1⟩
      · rw [decide_eq_false h2]
        refine iteT ?_
        have e : wordB x = false := by
          unfold wordB
          rw [decide_eq_false h2]
          simp
        have := k H (Same.refl H)
        rw [e] at this
        exact this
    · rw [decide_eq_false h1]
      refine iteF ⟨_, rfl, ?_⟩
      refine iteT ?_
      have e : wordB x = false := by
        unfold wordB
        rw [decide_eq_false h1]
        simp
      have := k H (Same.refl H)
      rw [e] at this
      exact this
/-- is it a label: any text -/
theorem ok_is_label {f : Addr} {fd : FuncData} (F : C8.Def K mg "is_label" s_is_label f fd) (b : Binds K fd ["thing"] []) (T : Txt K mg CC CS aB) (B : Kd.SD K w aB barred) (K_is_word : C8.Cal P w K mg base 1 "is_word" spWord []) :
    C8.Cal P w K mg base 2 "is_label" (fun vs H Q _ => ∃ x : Str, vs = [.str x] ∧ x.length ≤ 1000 ∧ ∀ H', Same H H' → Q (.bl (labelB x)) H') [] := by
  refine C8.cal0 F b .nil sc_is_label (fun vs H Q E h => ?_) (fun cdv A outer s H vs Q E hr h => ?_)
  · obtain ⟨x, rfl, _⟩ := h
    rfl
  · obtain ⟨x, rfl, hx, k⟩ := h
    refine ⟨_, (pss_one (ps_ret (pe_and (C8.pe_c K_is_word hr (by decide) (by rfl) (pa_cons (pv 0) pa_nil)) (pe_one (pe_or (pe_cmpR op_eq (pv 0) pe_str (nomark _)) (pe_one (pe_cmpR (Kd.op_notInSD B) (pv 0) (C8.pe_gc (by rfl) T.c_BARRED) (by rfl)))))))), ?_⟩
    refine ⟨_, rfl, x, rfl, hx, fun H1 S1 => ?_⟩
    have k1 := k H1 S1
    unfold labelB at k1
    refine ⟨_, rfl, ?_⟩
    cases hw : wordB x with
    | false =>
      rw [hw] at k1
      exact iteF k1
    | true =>
      rw [hw, Bool.true_and] at k1
      refine iteT ⟨_, rfl, rfl, _, rfl, ?_⟩
      by_cases hv : x = "value"
      · rw [decide_eq_true (congrArg V.str hv)]
        rw [decide_eq_true hv, Bool.true_or] at k1
        exact iteT k1
      · rw [decide_eq_false fun z => hv (V.str.inj z)]
        rw [decide_eq_false hv, Bool.false_or] at k1
        exact iteF ⟨_, rfl, _, rfl, rfl, k1⟩
def spLabels (K : PySem.W.Frag) : Sp := fun vs H Q _ => ∃ (p : Addr) (xs : List Str), vs = [.ref p] ∧ SqT K H p (xs.map V.str) ∧ xs.length ≤ 900 ∧ (∀ x ∈ xs, x.length ≤ 1000) ∧ (∀ x ∈ xs, labelB x = true) ∧ xs.Nodup ∧ ∀ H', Same H H' → Q (.bl true) H'
theorem ok_are_different {f : Addr} {fd : FuncData} (F : C8.Def K mg "are_different" s_are_different f fd) (b : Binds K fd ["things"] []) (T : Txt K mg CC CS aB) : C8.Cal P w K mg base 1 "are_different" (spLabels K) [] := by
  refine C8.cal0 F b .nil sc_are_different (fun vs H Q E h => ?_) (fun cdv A outer s H vs Q E hr h => ?_)
  · obtain ⟨p, xs, rfl, _⟩ := h
    rfl
  · obtain ⟨p, xs, rfl, hp, hl, _, _, nd, k⟩ := h
    refine ⟨_, (pss_one (ps_ret (pe_cmpR op_eq (Tx.pe_lenSetX T.z_len T.z_set (pv 0)) (pe_callB call_len_seq (by rfl) T.z_len (by decide +kernel) (pa_cons (pv 0) pa_nil)) (nomark _)))), ?_⟩
    refine ⟨_, rfl, p, xs, rfl, hp, by omega, fun out no mo => ⟨_, rfl, p, _, rfl, .inr hp, rfl, ?_⟩⟩
    have e : out.length = xs.length := Nat.le_antisymm (Bf.len_le no fun k hk => (mo k).mp hk) (Bf.len_le nd fun k hk => (mo k).mpr hk)
    show Q (.bl (decide (V.int (out.length : Nat) = V.int ((xs.map V.str).length : Nat)))) H
    rw [e, List.length_map, decide_eq_true rfl]
    exact k H (Same.refl H)
theorem ok_are_labels {f : Addr} {fd : FuncData} (F : C8.Def K mg "are_labels" s_are_labels f fd) (b : Binds K fd ["thing"] []) (T : Txt K mg CC CS aB)
    (K_is_label : C8.Cal P w K mg base 2 "is_label" (fun vs H Q _ => ∃ x : Str, vs = [.str x] ∧ x.length ≤ 1000 ∧ ∀ H', Same H H' → Q (.bl (labelB x)) H') []) (K_are_different : C8.Cal P w K mg base 1 "are_different" (spLabels K) []) : C8.Cal P w K mg base 3 "are_labels" (spLabels K) [] := by
  refine C8.cal0 F b .nil sc_are_labels (fun vs H Q E h => ?_) (fun cdv A outer s H vs Q E hr h => ?_)
  · obtain ⟨p, xs, rfl, _⟩ := h
    rfl
  · obtain ⟨p, xs, rfl, hp, hl, h1000, hL, nd, k⟩ := h
    refine ⟨_, (pss_one (ps_ret (pe_and (pe_callB call_isi (by rfl) T.z_isinstance (by decide +kernel) (pa_cons (pv 0) (pa_cons (pe_bltn (v := .ty "tuple") (by rfl) T.z_tuple (by decide +kernel) rfl) pa_nil))) (pe_and (pe_callB (cr_all rfl) (by rfl) T.z_all (by decide +kernel) (pa_cons (pe_lc (own := [("part", 1)]) (g := gName 1) (tt := tYes) rfl sc_are_labels.nd (pi_tup (pv 0)) (blkOk_by (own := [("part", 1)]) (N := N_are_labels) (sc := C8.fnScope s_are_labels) (by decide +kernel)) (fun _ _ _ _ _ => (pg_name (i := 1) sc_are_labels.nd rfl (Or.inl rfl))) (fun _ _ _ _ _ => pts_nil) (fun _ _ _ _ _ => (C8.pe_c K_is_label hr (by decide) (by rfl) (pa_cons (pv 1) pa_nil)))) pa_nil)) (pe_one (C8.pe_c K_are_different hr (by decide) (by rfl) (pa_cons (pv 0) pa_nil))))))), ?_⟩
    refine ⟨_, rfl, _, _, _, _, true, rfl, .ty _, tyT hp, rfl, _, rfl, ?_⟩
    refine iteT ?_
    refine ⟨_, rfl, p, rfl, ⟨_, hp⟩, fun D nD => lc_tup (xs := xs.map V.str) (fun j H' => Same H H' ∧ H' D = some (.lst ((List.replicate j true).map V.bl))) ⟨Same.new nD, upd_same⟩ (fun i H' _ h => Same.seqT h.1 hp) ?_ ?_⟩
    · rintro i x H1 hx ⟨S1, h1⟩
      rw [List.getElem?_map] at hx
      obtain ⟨t, ht, rfl⟩ := Option.map_eq_some_iff.mp hx
      have hi := (List.getElem?_eq_some_iff.mp ht).1
      have hm := List.mem_of_getElem? ht
      refine ⟨rfl, ?_⟩
      refine ⟨_, rfl, t, rfl, h1000 t hm, fun H2 S2 => ⟨_, S2 _ _ h1, szs (by simp; omega), (Same.mut (Same.trans S1 S2) nD), ?_⟩⟩
      rw [upd_same, hL t hm, List.replicate_succ', List.map_append]
      rfl
    · rintro H1 ⟨S1, h1⟩
      refine ⟨D, _, rfl, SqL.of h1, _, rfl, ?_⟩
      have e : (List.replicate (xs.map V.str).length true).all id = true := by simp
      rw [e]
      refine iteT ?_
      exact ⟨_, rfl, p, xs, rfl, Same.seqT S1 hp, hl, h1000, hL, nd, fun H' S => k H' (S1.trans S)⟩
/-- does a dict give integers to just the names: here of good ones -/
def spNumbers (K : PySem.W.Frag) : Sp := fun vs H Q _ => ∃ (d p : Addr) (ks ns : List Str) (f : Str → Int), vs = [.ref d, .ref p] ∧ H d = some (.dK (hk ks f)) ∧ SqT K H p (ns.map V.str) ∧ ks.length = ns.length ∧ ns.length ≤ 900 ∧ (∀ x ∈ ns, x ∈ ks) ∧ ∀ H', Same H H' → Q (.bl true) H'
theorem ok_are_numbers {f : Addr} {fd : FuncData} (F : C8.Def K mg "are_numbers" s_are_numbers f fd) (b : Binds K fd ["thing", "names"] []) (T : Txt K mg CC CS aB) (K_is_number : C8.Cal P w K mg base 1 "is_number" (spNum K) []) : C8.Cal P w K mg base 2 "are_numbers" (spNumbers K) [] := by
  refine C8.cal0 F b .nil sc_are_numbers (fun vs H Q E h => ?_) (fun cdv A outer s H vs Q E hr h => ?_)
  · obtain ⟨d, p, ks, ns, f, rfl, _⟩ := h
    rfl
  · obtain ⟨d, p, ks, ns, f, rfl, hd, hp, hl, h900, hm, k⟩ := h
    have hu := hu_of hr
    refine ⟨_, (pss_cons (ps_if (PW.pt (pw_or (pt_not (pt_val (pe_callB call_isi (by rfl) T.z_isinstance (by decide +kernel) (pa_cons (pv 0) (pa_cons (pe_bltn (v := .ty "dict") (by rfl) T.z_dict (by decide +kernel) rfl) pa_nil))))) (pw_or1 (pt_cmpR op_ne (pe_callB call_lenD (by rfl) T.z_len (by decide +kernel) (pa_cons (pv 0) pa_nil)) (pe_callB call_len_seq (by rfl) T.z_len (by decide +kernel) (pa_cons (pv 1) pa_nil)) (nomark _))))) (pss_one (ps_ret pe_bl)) pss_nil)
    (pss_one (ps_ret (pe_callB (cr_all rfl) (by rfl) T.z_all (by decide +kernel) (pa_cons (pe_lc (own := [("name", 2)]) (g := gName 2) (tt := tYes) rfl sc_are_numbers.nd (pi_tup (pv 1)) (blkOk_by (own := [("name", 2)]) (N := N_are_numbers) (sc := C8.fnScope s_are_numbers) (by decide +kernel)) (fun _ _ _ _ _ => (pg_name (i := 2) sc_are_numbers.nd rfl (Or.inl rfl))) (fun _ _ _ _ _ => pts_nil) (fun _ _ _ _ _ => (pe_and (pe_cmp (pc_din hu (pv 2) (pv 0)) rfl) (pe_one (C8.pe_c K_is_number hr (by decide) (by rfl) (pa_cons (pe_dget hu (pv 0) (pv 2) (fun _ _ => rfl)) pa_nil)))))) pa_nil))))), ?_⟩
    refine ⟨_, rfl, _, _, _, _, true, rfl, .ty _, .base (.dK hd), rfl, _, rfl, ?_⟩
    refine iteF ?_
    refine ⟨_, rfl, d, _, rfl, hd, _, rfl, p, _, rfl, .inr hp, rfl, _, rfl, ?_⟩
    have e0 : (!decide (V.int ((hk ks f).length : Nat) = V.int ((ns.map V.str).length : Nat))) = false := by
      rw [hk_len, List.length_map, hl, decide_eq_true rfl]
      rfl
    rw [e0]
    refine iteF ?_
    refine ⟨_, rfl, p, rfl, ⟨_, hp⟩, fun D nD => lc_tup (xs := ns.map V.str) (fun j H' => Same H H' ∧ H' D = some (.lst ((List.replicate j true).map V.bl))) ⟨Same.new nD, upd_same⟩ (fun i H' _ h => Same.seqT h.1 hp) ?_ ?_⟩
    · rintro i x H1 hx ⟨S1, h1⟩
      rw [List.getElem?_map] at hx
      obtain ⟨t, ht, rfl⟩ := Option.map_eq_some_iff.mp hx
      have hi := (List.getElem?_eq_some_iff.mp ht).1
      have htk := hm t (List.mem_of_getElem? ht)
      refine ⟨rfl, ?_⟩
      refine ⟨_, rfl, _, rfl, d, _, rfl, DGet.k (k := Sum.inr t) (S1 _ _ hd), ?_⟩
      rw [hk_get htk]
      refine ⟨_, rfl, iteT ⟨_, rfl, _, rfl, d, .int (f t), rfl, dget_hk (S1 _ _ hd) htk, _, _, true, false, rfl, .base (.int (f t)), rfl, rfl, _, h1, szs (by simp; omega), Same.mut S1 nD, ?_⟩⟩
      rw [upd_same, List.replicate_succ', List.map_append]
      rfl
    · rintro H1 ⟨S1, h1⟩
      refine ⟨D, _, rfl, SqL.of h1, ?_⟩
      have e : (List.replicate (ns.map V.str).length true).all id = true := by simp
      rw [e]
      exact k H1 S1
/-- is it a literal over the names: here of good ones -/
def spOver (K : PySem.W.Frag) : Sp := fun vs H Q _ => ∃ (t p : Addr) (ns : List Str) (q : Str × Str × Int), vs = [.ref t, .ref p] ∧ SqT K H t [.str q.1, .str q.2.1, .int q.2.2] ∧ SqT K H p (ns.map V.str) ∧ TermsOk ns q ∧ ∀ H', Same H H' → Q (.bl true) H'
theorem ok_is_over {f : Addr} {fd : FuncData} (F : C8.Def K mg "is_over" s_is_over f fd) (b : Binds K fd ["literal", "names"] []) (T : Txt K mg CC CS aB) (K_is_literal : C8.Cal P w K mg base 2 "is_literal" (spLitG K) []) : C8.Cal P w K mg base 3 "is_over" (spOver K) [] := by
  refine C8.cal0 F b .nil sc_is_over (fun vs H Q E h => ?_) (fun cdv A outer s H vs Q E hr h => ?_)
  · obtain ⟨t, p, ns, q, rfl, _⟩ := h
    rfl
  · obtain ⟨t, p, ns, q, rfl, ht, hp, ⟨o1, o2⟩, k⟩ := h
    refine ⟨_, (pss_cons (ps_if (pt_not (pt_val (C8.pe_c K_is_literal hr (by decide) (by rfl) (pa_cons (pv 0) pa_nil)))) (pss_one (ps_ret pe_bl)) pss_nil)
    (pss_one (ps_ret (pe_callB (cr_all rfl) (by rfl) T.z_all (by decide +kernel) (pa_cons (pe_lc (own := [("term", 2)]) (g := gName 2) (tt := tYes) rfl sc_is_over.nd (pi_tup (pe_slice sl_tupU (pv 0) po_none (po_some pe_int))) (blkOk_by (own := [("term", 2)]) (N := N_is_over) (sc := C8.fnScope s_is_over) (by decide +kernel)) (fun _ _ _ _ _ => (pg_name (i := 2) sc_is_over.nd rfl (Or.inl rfl))) (fun _ _ _ _ _ => pts_nil) (fun _ _ _ _ _ => (pe_or (pe_cmpR op_eq (pv 2) pe_str (nomark _)) (pe_one (pe_cmpR (inK K) (pv 2) (pv 1) (by rfl)))))) pa_nil))))), ?_⟩
    refine ⟨_, rfl, t, _, _, _, rfl, ht, _, rfl, ?_⟩
    refine iteF ?_
    refine ⟨_, rfl, _, rfl, t, _, rfl, ht, fun c H1 S1 hc => ?_⟩
    have ec : cutV [V.str q.1, V.str q.2.1, V.int q.2.2] none (some 2) = [V.str q.1, V.str q.2.1] := by rfl
    rw [ec] at hc
    refine ⟨c, rfl, ⟨_, hc⟩, fun D nD => lc_tup (xs := [V.str q.1, V.str q.2.1]) (fun j H' => Same H1 H' ∧ H' D = some (.lst ((List.replicate j true).map V.bl))) ⟨Same.new nD, upd_same⟩ (fun i H' _ h => Same.seqT h.1 hc) ?_ ?_⟩
    · rintro i x H2 hx ⟨S2, h1⟩
      obtain ⟨z, rfl, oz, hi⟩ : ∃ z : Str, x = .str z ∧ (z = "" ∨ z ∈ ns) ∧ i < 2 := by
        match i, hx with
        | 0, hx => exact ⟨q.1, (Option.some.inj hx).symm, o1, by decide⟩
        | 1, hx => exact ⟨q.2.1, (Option.some.inj hx).symm, o2, by decide⟩
      refine ⟨rfl, ?_⟩
      have fin : ∃ acc, H2 D = some (.lst acc) ∧ acc.length < sizeLine ∧ Same H1 (upd H2 D (.lst (acc ++ [V.bl true]))) ∧ (upd H2 D (.lst (acc ++ [V.bl true]))) D = some (.lst ((List.replicate (i + 1) true).map V.bl)) := by
        refine ⟨_, h1, szs (by simp; omega), Same.mut S2 nD, ?_⟩
        rw [upd_same, List.replicate_succ', List.map_append]
        rfl
      refine ⟨_, rfl, rfl, _, rfl, ?_⟩
      by_cases e : z = ""
      · rw [decide_eq_true (congrArg V.str e)]
        exact iteT fin
      · rw [decide_eq_false fun y => e (V.str.inj y)]
        refine iteF ⟨_, rfl, _, rfl, p, _, rfl, .inr (Same.seqT (S1.trans S2) hp), rfl, flat_strs _, ?_⟩
        rw [inV_strs, decide_eq_true (oz.resolve_left e)]
        exact fin
    · rintro H2 ⟨S2, h1⟩
      refine ⟨D, _, rfl, SqL.of h1, ?_⟩
      have e : (List.replicate ([V.str q.1, V.str q.2.1] : List V).length true).all id = true := by rfl
      rw [e]
      exact k H2 (S1.trans S2)
/-- is it a tuple of rows over the names: here of good ones -/
def spRowsOk (K : PySem.W.Frag) : Sp := fun vs H Q _ => ∃ (r p : Addr) (ns : List Str) (R : List (List (Str × Str × Int))), vs = [.ref r, .ref p] ∧ RowsAt K H r R ∧ SqT K H p (ns.map V.str) ∧ (∀ L ∈ R, L.length ≤ 900 ∧ ∀ q ∈ L, TermsOk ns q) ∧ ∀ H', Same H H' → Q (.bl true) H'
theorem ok_are_rows {f : Addr} {fd : FuncData} (F : C8.Def K mg "are_rows" s_are_rows f fd) (b : Binds K fd ["rows", "names"] []) (T : Txt K mg CC CS aB) (K_is_over : C8.Cal P w K mg base 3 "is_over" (spOver K) []) : C8.Cal P w K mg base 4 "are_rows" (spRowsOk K) [] := by
  refine C8.cal0 F b .nil sc_are_rows (fun vs H Q E h => ?_) (fun cdv A outer s H vs Q E hr h => ?_)
  · obtain ⟨r, p, ns, R, rfl, _⟩ := h
    rfl
  · obtain ⟨r, p, ns, R, rfl, ⟨rs, hr0, hR⟩, hp, hT, k⟩ := h
    refine ⟨_, (pss_cons (ps_if (pt_not (pt_val (pe_callB call_isi (by rfl) T.z_isinstance (by decide +kernel) (pa_cons (pv 0) (pa_cons (pe_bltn (v := .ty "tuple") (by rfl) T.z_tuple (by decide +kernel) rfl) pa_nil))))) (pss_one (ps_ret pe_bl)) pss_nil)
    (pss_cons (ps_for PassesOwn.never rfl (pi_tup (pv 0)) (pg_name (i := 2) sc_are_rows.nd rfl (Or.inl rfl))
    (pss_one (ps_if (PW.pt (pw_or (pt_not (pt_val (pe_callB call_isi (by rfl) T.z_isinstance (by decide +kernel) (pa_cons (pv 2) (pa_cons (pe_bltn (v := .ty "tuple") (by rfl) T.z_tuple (by decide +kernel) rfl) pa_nil))))) (pw_or1 (pt_not (pt_val (pe_callB (cr_all rfl) (by rfl) T.z_all (by decide +kernel) (pa_cons (pe_lc (own := [("literal", 3)]) (g := gName 3) (tt := tYes) rfl sc_are_rows.nd (pi_tup (pv 2)) (blkOk_by (own := [("literal", 3)]) (N := N_are_rows) (sc := C8.fnScope s_are_rows) (by decide +kernel)) (fun _ _ _ _ _ => (pg_name (i := 3) sc_are_rows.nd rfl (Or.inl rfl))) (fun _ _ _ _ _ => pts_nil) (fun _ _ _ _ _ => (C8.pe_c K_is_over hr (by decide) (by rfl) (pa_cons (pv 3) (pa_cons (pv 1) pa_nil))))) pa_nil))))))) (pss_one (ps_ret pe_bl)) pss_nil)))
    (pss_one (ps_ret pe_bl)))), ?_⟩
    refine ⟨_, rfl, _, _, _, _, true, rfl, .ty _, tyT hr0, rfl, _, rfl, ?_⟩
    refine iteF ?_
    refine ⟨_, rfl, r, rfl, ⟨_, hr0⟩, for_tup (xs := rs.map V.ref) (fun i σ H' => ∃ v2 v3, σ = [some (.ref r), some (.ref p), v2, v3] ∧ Same H H') ⟨none, none, rfl, Same.refl H⟩ (fun i σ H' _ h => ?_) ?_ ?_⟩
    · obtain ⟨_, _, _, S⟩ := h
      exact Same.seqT S hr0
    · rintro i x σ H1 hx ⟨v2, v3, rfl, S1⟩
      rw [List.getElem?_map] at hx
      obtain ⟨y, hy, rfl⟩ := Option.map_eq_some_iff.mp hx
      have hi : i < R.length := by
        rw [← hR.1]
        exact (List.getElem?_eq_some_iff.mp hy).1
      obtain ⟨y', h1, h2⟩ := hR.2 i _ (List.getElem?_eq_getElem hi)
      rw [hy] at h1
      cases h1
      obtain ⟨ts, hts, hL⟩ := h2.mono S1
      obtain ⟨hlen, hT1⟩ := hT _ (List.getElem_mem hi)
      refine ⟨_, rfl, _, _, _, _, true, rfl, .ty _, tyT hts, rfl, _, rfl, ?_⟩
      refine iteF ?_
      refine ⟨_, rfl, y, rfl, ⟨_, hts⟩, fun D nD => lc_tup (xs := ts.map V.ref) (fun j H' => Same H1 H' ∧ H' D = some (.lst ((List.replicate j true).map V.bl))) ⟨Same.new nD, upd_same⟩ (fun i H' _ h => Same.seqT h.1 hts) ?_ ?_⟩
      · rintro j x H2 hx ⟨S2, h1⟩
        rw [List.getElem?_map] at hx
        obtain ⟨t, ht, rfl⟩ := Option.map_eq_some_iff.mp hx
        have hj : j < R[i].length := by
          rw [← hL.1]
          exact (List.getElem?_eq_some_iff.mp ht).1
        obtain ⟨t', h3, h4⟩ := hL.2 j _ (List.getElem?_eq_getElem hj)
        rw [ht] at h3
        cases h3
        refine ⟨rfl, ?_⟩
        refine ⟨_, rfl, _, rfl, t, p, ns, _, rfl, Same.seqT S2 h4, Same.seqT (S1.trans S2) hp, hT1 _ (List.getElem_mem hj), fun H3 S3 => ⟨_, S3 _ _ h1, szs (by simp; omega), Same.mut (S2.trans S3) nD, ?_⟩⟩
        rw [upd_same, List.replicate_succ', List.map_append]
        rfl
      · rintro H2 ⟨S2, h1⟩
        refine ⟨D, _, rfl, SqL.of h1, ?_⟩
        have e : (List.replicate (ts.map V.ref).length true).all id = true := by simp
        rw [e]
        refine ⟨_, rfl, ?_⟩
        exact iteF ⟨_, _, rfl, S1.trans S2⟩
    · rintro σ H1 ⟨v2, v3, rfl, S1⟩
      exact k H1 S1
end
end K18

namespace K18
open PySem L2 Bx
def optV : Option Int → V
  | none => .non
  | some c => .int c
def rowV (d : Zn.Z) (m i : Nat) : List V := (List.range m).map fun j => optV (d i j)
theorem rowV_len (d : Zn.Z) (m i : Nat) : (rowV d m i).length = m := by
  unfold rowV
  rw [List.length_map, List.length_range]
theorem rowV_at {d : Zn.Z} {m i j : Nat} (hj : j < m) : (rowV d m i)[j]? = some (optV (d i j)) := by
  unfold rowV
  rw [List.getElem?_map, List.getElem?_range hj]
  rfl
/-- a zone over m integers -/
def IsZ (K : PySem.W.Frag) (H : Hp) (z : Addr) (m : Nat) (d : Zn.Z) : Prop := ∃ rs : List Addr, SqT K H z (rs.map V.ref) ∧ rs.length = m ∧ ∀ (i : Nat) (r : Addr), rs[i]? = some r → SqT K H r (rowV d m i)
theorem IsZ.mono {K : PySem.W.Frag} {H H' : Hp} {z : Addr} {m : Nat} {d : Zn.Z} (e : Same H H') (h : IsZ K H z m d) : IsZ K H' z m d := h.imp fun rs x => ⟨Same.seqT e x.1, x.2.1, fun i r hr => Same.seqT e (x.2.2 i r hr)⟩
theorem IsZ.row {K : PySem.W.Frag} {H : Hp} {z : Addr} {m : Nat} {d : Zn.Z} (h : IsZ K H z m d) : ∃ xs, SqT K H z xs ∧ xs.length = m ∧ ∀ i, i < m → ∃ r, xs[i]? = some (.ref r) ∧ SqT K H r (rowV d m i) := by
  obtain ⟨rs, h1, h2, h3⟩ := h
  refine ⟨rs.map V.ref, h1, by rw [List.length_map, h2], fun i hi => ?_⟩
  have e := List.getElem?_eq_getElem (l := rs) (i := i) (by omega)
  exact ⟨rs[i], by rw [List.getElem?_map, e]; rfl, h3 i _ e⟩
def LitZ (K : PySem.W.Frag) (H : Hp) (l : Addr) (q : Zn.Lit) : Prop := SqT K H l [.int (q.1 : Nat), .int (q.2.1 : Nat), .int q.2.2]
theorem LitZ.mono {K : PySem.W.Frag} {H H' : Hp} {l : Addr} {q : Zn.Lit} (e : Same H H') (h : LitZ K H l q) : LitZ K H' l q := Same.seqT e h
theorem ixN_nat {n j : Nat} (h : j < n) : ixN n (j : Int) = some j := by
  unfold ixN
  rw [if_pos (Int.natCast_nonneg j), if_pos (by omega)]
  rfl
/-- a number shortened -/
def shv (s c : Int) : Option Int → Option Int
  | none => some (s + c)
  | some o => if s + c < o then some (s + c) else some o
def sh1 (os : List (Option Int)) (s : Int) (fs : List (Option Int)) (p : Nat × Int) : List (Option Int) := match os.getD p.1 none with
  | none => fs.set p.1 (some (s + p.2))
  | some o => if s + p.2 < o then fs.set p.1 (some (s + p.2)) else fs
theorem sh1_len (os : List (Option Int)) (s : Int) (fs : List (Option Int)) (p : Nat × Int) : (sh1 os s fs p).length = fs.length := by
  unfold sh1
  split
  · rw [List.length_set]
  · split
    · rw [List.length_set]
    · rfl
theorem fold_len (os : List (Option Int)) (s : Int) : ∀ (T : List (Nat × Int)) (fs : List (Option Int)), (T.foldl (sh1 os s) fs).length = fs.length
  | [], _ => rfl
  | p :: T, fs => by rw [List.foldl_cons, fold_len os s T, sh1_len]
theorem sh1_other {os : List (Option Int)} {s : Int} {fs : List (Option Int)} {p : Nat × Int} {v : Nat} (h : v ≠ p.1) : (sh1 os s fs p)[v]? = fs[v]? := by
  unfold sh1
  split
  · rw [List.getElem?_set_ne (fun e => h e.symm)]
  · split
    · rw [List.getElem?_set_ne (fun e => h e.symm)]
    · rfl
theorem sh1_at {os : List (Option Int)} {s : Int} {fs : List (Option Int)} {p : Nat × Int} (hl : p.1 < os.length) (hf : fs[p.1]? = os[p.1]?) : (sh1 os s fs p)[p.1]? = (os[p.1]?).map (shv s p.2) := by
  have hlf : p.1 < fs.length := by
    rw [List.getElem?_eq_getElem hl] at hf
    exact (List.getElem?_eq_some_iff.mp hf).1
  unfold sh1
  rw [List.getD_eq_getElem?_getD]
  rw [List.getElem?_eq_getElem hl] at hf ⊢
  cases q : os[p.1] with
  | none =>
    show (fs.set p.1 (some (s + p.2)))[p.1]? = _
    rw [List.getElem?_set_self hlf]
    rfl
  | some o =>
    rw [q] at hf
    show (if s + p.2 < o then fs.set p.1 (some (s + p.2)) else fs)[p.1]? = some (if s + p.2 < o then some (s + p.2) else some o)
    by_cases c : s + p.2 < o
    · rw [if_pos c, if_pos c, List.getElem?_set_self hlf]
    · rw [if_neg c, if_neg c, hf]
theorem fold_other {os : List (Option Int)} {s : Int} {v : Nat} : ∀ {T : List (Nat × Int)} {fs : List (Option Int)}, v ∉ T.map Prod.fst → (T.foldl (sh1 os s) fs)[v]? = fs[v]?
  | [], _, _ => rfl
  | p :: T, fs, h => by
    rw [List.map_cons, List.mem_cons, not_or] at h
    rw [List.foldl_cons, fold_other h.2, sh1_other h.1]
theorem fold_at {os : List (Option Int)} {s : Int} : ∀ {T : List (Nat × Int)} {fs : List (Option Int)}, (T.map Prod.fst).Nodup → (∀ p ∈ T, p.1 < os.length) → (∀ p ∈ T, fs[p.1]? = os[p.1]?) → ∀ p ∈ T, (T.foldl (sh1 os s) fs)[p.1]? = (os[p.1]?).map (shv s p.2)
  | [], _, _, _, _, p, h => by cases h
  | q :: T, fs, nd, hl, hf, p, h => by
    rw [List.map_cons, List.nodup_cons] at nd
    rw [List.foldl_cons]
    rcases List.mem_cons.mp h with e | h
    · subst e
      rw [fold_other nd.1, sh1_at (hl _ List.mem_cons_self) (hf _ List.mem_cons_self)]
    · refine fold_at nd.2 (fun r hr => hl r (List.mem_cons_of_mem _ hr)) (fun r hr => ?_) p h
      rw [sh1_other, hf r (List.mem_cons_of_mem _ hr)]
      intro e
      exact nd.1 (e ▸ List.mem_map_of_mem hr)
/-- what is taken of a row -/
def tailN (row : Nat → Option Int) (n : Int) (i : Nat) : List (Nat × Int) := (List.range i).filterMap fun k => (row k).map fun c => (k, c + n)
theorem tail_mem {row : Nat → Option Int} {n : Int} {i : Nat} {p : Nat × Int} : p ∈ tailN row n i ↔ p.1 < i ∧ ∃ c, row p.1 = some c ∧ p.2 = c + n := by
  unfold tailN
  rw [List.mem_filterMap]
  constructor
  · rintro ⟨k, hk, e⟩
    obtain ⟨c, hc, e2⟩ := Option.map_eq_some_iff.mp e
    subst e2
    exact ⟨List.mem_range.mp hk, c, hc, rfl⟩
  · rintro ⟨hk, c, hc, e⟩
    exact ⟨p.1, List.mem_range.mpr hk, by rw [hc, Option.map_some, ← e]⟩
theorem tail_succ (row : Nat → Option Int) (n : Int) (i : Nat) : tailN row n (i + 1) = tailN row n i ++ (match row i with | none => [] | some c => [(i, c + n)]) := by
  unfold tailN
  rw [List.range_succ, List.filterMap_append]
  congr 1
  cases h : row i <;> simp [h]
theorem tail_nodup (row : Nat → Option Int) (n : Int) : ∀ i, ((tailN row n i).map Prod.fst).Nodup
  | 0 => by simp [tailN]
  | i + 1 => by
    rw [tail_succ, List.map_append]
    refine List.nodup_append.mpr ⟨tail_nodup row n i, ?_, ?_⟩
    · cases row i <;> simp
    · intro a ha b hb e
      obtain ⟨p, hp, rfl⟩ := List.mem_map.mp ha
      have h1 := (tail_mem.mp hp).1
      cases h : row i with
      | none => rw [h] at hb; simp at hb
      | some c =>
        rw [h] at hb
        have : b = i := by simpa using hb
        omega
theorem tail_len (row : Nat → Option Int) (n : Int) (i : Nat) : (tailN row n i).length ≤ i := by
  have h : (tailN row n i).length ≤ (List.range i).length := List.length_filterMap_le _ _
  rw [List.length_range] at h
  exact h
/-- all numbers of a row shortened by a tail -/
theorem short_row {d : Zn.Z} {q : Zn.Lit} {m i : Nat} {a : Int} (ha : d i q.1 = some a) : ((tailN (d q.2.1) q.2.2 m).foldl (sh1 ((List.range m).map (d i)) a) ((List.range m).map (d i))).map optV = rowV (Zn.metD d q) m i := by
  have e : (tailN (d q.2.1) q.2.2 m).foldl (sh1 ((List.range m).map (d i)) a) ((List.range m).map (d i)) = (List.range m).map (Zn.metD d q i) := by
    refine List.ext_getElem? fun v => ?_
    by_cases hv : v < m
    · have g : ∀ f : Nat → Option Int, ((List.range m).map f)[v]? = some (f v) := fun f => by rw [List.getElem?_map, List.getElem?_range hv]; rfl
      cases hr : d q.2.1 v with
      | none =>
        rw [fold_other, g, g]
        · unfold Zn.metD Zn.sh
          rw [ha, hr]
        · intro h
          obtain ⟨p, hp, rfl⟩ := List.mem_map.mp h
          obtain ⟨_, c, hc, _⟩ := tail_mem.mp hp
          rw [hr] at hc
          cases hc
      | some c =>
        have := fold_at (os := (List.range m).map (d i)) (s := a) (T := tailN (d q.2.1) q.2.2 m) (fs := (List.range m).map (d i)) (tail_nodup _ _ _) (fun p hp => by simpa using (tail_mem.mp hp).1) (fun _ _ => rfl) (v, c + q.2.2) (tail_mem.mpr ⟨hv, c, hr, rfl⟩)
        rw [this]
        show (((List.range m).map (d i))[v]?).map (shv a (c + q.2.2)) = _
        rw [g, g]
        show some (shv a (c + q.2.2) (d i v)) = some (Zn.metD d q i v)
        unfold Zn.metD
        rw [ha, hr]
        have e3 : a + (c + q.2.2) = a + q.2.2 + c := by omega
        cases ho : d i v with
        | none => simp [shv, Zn.sh, e3]
        | some o =>
          simp only [shv, Zn.sh, e3]
          by_cases c1 : o ≤ a + q.2.2 + c
          · rw [if_pos c1, if_neg (by omega)]
          · rw [if_neg c1, if_pos (by omega)]
    · rw [List.getElem?_eq_none (by rw [fold_len]; simp; omega), List.getElem?_eq_none (by simp; omega)]
  rw [e]
  unfold rowV
  rw [List.map_map]
  rfl
theorem rowV_map (d : Zn.Z) (m i : Nat) : rowV d m i = ((List.range m).map (d i)).map optV := by
  unfold rowV
  rw [List.map_map]
  rfl
def TailAt (K : PySem.W.Frag) (H : Hp) (us : List Addr) (T : List (Nat × Int)) : Prop := us.length = T.length ∧ ∀ (j : Nat) (p : Nat × Int), T[j]? = some p → ∃ u, us[j]? = some u ∧ SqT K H u [.int (p.1 : Nat), .int p.2]
theorem TailAt.mono {K : PySem.W.Frag} {H H' : Hp} {us : List Addr} {T : List (Nat × Int)} (e : Same H H') (h : TailAt K H us T) : TailAt K H' us T := ⟨h.1, fun j p hj => (h.2 j p hj).imp fun u x => ⟨x.1, Same.seqT e x.2⟩⟩
section
variable {P : Program} {w : World} {K : PySem.W.Frag} {mg : Str → Option Value} {base : Heap} {CC CS aB : Addr}
def spShort (K : PySem.W.Frag) : Sp := fun vs H Q _ => ∃ (r t : Addr) (s : Int) (os : List (Option Int)) (us : List Addr) (T : List (Nat × Int)), vs = [.ref r, .int s, .ref t] ∧ SqT K H r (os.map optV) ∧ SqL K H t (us.map V.ref) ∧ TailAt K H us T ∧ (∀ p ∈ T, p.1 < os.length) ∧ os.length ≤ 900 ∧
  ∀ p H', Same H H' → SqT K H' p ((T.foldl (sh1 os s) os).map optV) → Q (.ref p) H'
theorem ok_shortened {f : Addr} {fd : FuncData} (F : C8.Def K mg "shortened" s_shortened f fd) (b : Binds K fd ["row", "start", "tail"] []) (T : Txt K mg CC CS aB) : C8.Cal P w K mg base 1 "shortened" (spShort K) [] := by
  refine C8.cal0 F b .nil sc_shortened (fun vs H Q E h => ?_) (fun cdv A outer s H vs Q E hr h => ?_)
  · obtain ⟨r, t, s, os, us, T', rfl, _⟩ := h
    rfl
  · obtain ⟨r, t, s, os, us, T', rfl, hr0, ht0, hT, hk, h900, k⟩ := h
    refine ⟨_, (pss_cons (ps_set (i := 3) sc_shortened.nd rfl (Or.inl rfl) (pe_callTy call_list_of (by rfl) T.z_list (by decide +kernel) (pa_cons (pv 0) pa_nil)))
    (pss_cons (ps_for PassesOwn.never rfl (pi_list (pv 2)) (pg_tup (by rfl) (pgs_cons (pg_name (i := 4) sc_shortened.nd rfl (Or.inl rfl)) (pgs_cons (pg_name (i := 5) sc_shortened.nd rfl (Or.inl rfl)) pgs_nil)))
    (pss_cons (ps_set (i := 6) sc_shortened.nd rfl (Or.inl rfl) (pe_ix ix_tup (pv 0) (pv 4) (fun _ _ => rfl)))
    (pss_one (ps_if (PW.pt (pw_or (pt_cmpR op_isN (pv 6) pe_non (nomark _)) (pw_or1 (pt_cmpR op_gt (pv 6) (pe_op op_add (pv 1) (pv 5)) (nomark _))))) (pss_one (ps_asg (pe_op op_add (pv 1) (pv 5)) (pg_sub (pv 3) (pv 4) set_list))) pss_nil))))
    (pss_one (ps_ret (pe_callTy call_tuple_of (by rfl) T.z_tuple (by decide +kernel) (pa_cons (pv 3) pa_nil)))))), ?_⟩
    refine ⟨_, rfl, r, _, rfl, .inr hr0, fun p np => ?_⟩
    have Sp := Same.new (o := HO.lst (os.map optV)) np
    refine ⟨_, rfl, t, rfl, ⟨_, Sp.seq ht0⟩, for_list (xs := us.map V.ref) (fun i σ H' => ∃ v4 v5 v6, σ = [some (.ref r), some (.int s), some (.ref t), some (.ref p), v4, v5, v6] ∧ Same H H' ∧ H' p = some (.lst (((T'.take i).foldl (sh1 os s) os).map optV)))
      ⟨none, none, none, rfl, Sp, upd_same⟩ (fun i σ H' _ h => ?_) ?_ ?_⟩
    · obtain ⟨_, _, _, _, S, _⟩ := h
      exact S.seq ht0
    · rintro i x σ H1 hx ⟨v4, v5, v6, rfl, S1, hp⟩
      rw [List.getElem?_map] at hx
      obtain ⟨u, hu, rfl⟩ := Option.map_eq_some_iff.mp hx
      have hi : i < T'.length := by
        rw [← hT.1]
        exact (List.getElem?_eq_some_iff.mp hu).1
      have hq := List.getElem?_eq_getElem hi
      obtain ⟨u', h1, h2⟩ := hT.2 i _ hq
      rw [hu] at h1
      cases h1
      have hk1 := hk _ (List.getElem_mem hi)
      have hr1 := Same.seqT S1 hr0
      have hat : atI (os.map optV) ((T'[i].1 : Nat) : Int) = some (optV (os.getD T'[i].1 none)) := atI_nat (by
        rw [List.getElem?_map, List.getD_eq_getElem?_getD, List.getElem?_eq_getElem hk1]
        rfl)
      have stp : ((T'.take (i + 1)).foldl (sh1 os s) os) = sh1 os s ((T'.take i).foldl (sh1 os s) os) T'[i] := by
        rw [take_snoc hq, List.foldl_append]
        rfl
      refine ⟨u, _, rfl, Same.seqT S1 h2, rfl, _, _, rfl, _, _, rfl, rfl, ?_⟩
      refine ⟨_, rfl, _, rfl, r, _, _, _, rfl, rfl, hr1, hat, ?_⟩
      have hlf : T'[i].1 < ((T'.take i).foldl (sh1 os s) os).length := by
        rw [fold_len]
        exact hk1
      have store : ∀ c : Int, sh1 os s ((T'.take i).foldl (sh1 os s) os) T'[i] = ((T'.take i).foldl (sh1 os s) os).set T'[i].1 (some c) → ∃ v4 v5 v6, [some (V.ref r), some (V.int s), some (V.ref t), some (V.ref p), some (V.int (T'[i].1 : Nat)), some (V.int T'[i].2), some (optV (os.getD T'[i].1 none))] = [some (.ref r), some (.int s), some (.ref t), some (.ref p), v4, v5, v6] ∧
          Same H (upd H1 p (.lst ((((T'.take i).foldl (sh1 os s) os).map optV).set T'[i].1 (.int c)))) ∧ (upd H1 p (.lst ((((T'.take i).foldl (sh1 os s) os).map optV).set T'[i].1 (.int c)))) p = some (.lst (((T'.take (i + 1)).foldl (sh1 os s) os).map optV)) := fun c e => by
        refine ⟨_, _, _, rfl, Same.mut S1 np, ?_⟩
        rw [upd_same, stp, e, List.map_set]
        rfl
      have keep : sh1 os s ((T'.take i).foldl (sh1 os s) os) T'[i] = ((T'.take i).foldl (sh1 os s) os) → ∃ v4 v5 v6, [some (V.ref r), some (V.int s), some (V.ref t), some (V.ref p), some (V.int (T'[i].1 : Nat)), some (V.int T'[i].2), some (optV (os.getD T'[i].1 none))] = [some (.ref r), some (.int s), some (.ref t), some (.ref p), v4, v5, v6] ∧
          Same H H1 ∧ H1 p = some (.lst (((T'.take (i + 1)).foldl (sh1 os s) os).map optV)) := fun e => by
        refine ⟨_, _, _, rfl, S1, ?_⟩
        rw [hp, stp, e]
      cases ho : os.getD T'[i].1 none with
      | none =>
        rw [ho] at store
        refine ⟨_, rfl, rfl, _, rfl, iteT (iteT ?_)⟩
        refine ⟨_, rfl, _, rfl, _, _, rfl, rfl, _, rfl, _, rfl, p, _, _, _, rfl, rfl, hp, ixN_nat (by rw [List.length_map]; exact hlf), ?_⟩
        exact store (s + T'[i].2) (by unfold sh1; rw [ho])
      | some o =>
        rw [ho] at store keep
        refine ⟨_, rfl, rfl, _, rfl, iteF ⟨_, rfl, _, rfl, _, rfl, _, _, rfl, rfl, _, _, rfl, rfl, _, rfl, ?_⟩⟩
        by_cases c : s + T'[i].2 < o
        · rw [decide_eq_true (show o > s + T'[i].2 from c)]
          refine iteT ⟨_, rfl, _, rfl, _, _, rfl, rfl, _, rfl, _, rfl, p, _, _, _, rfl, rfl, hp, ixN_nat (by rw [List.length_map]; exact hlf), ?_⟩
          exact store (s + T'[i].2) (by unfold sh1; rw [ho]; exact if_pos c)
        · rw [decide_eq_false (show ¬ o > s + T'[i].2 from c)]
          exact iteF (keep (by unfold sh1; rw [ho]; exact if_neg c))
    · rintro σ H1 ⟨v4, v5, v6, rfl, S1, hp⟩
      rw [List.length_map, hT.1, List.take_length] at hp
      refine ⟨_, rfl, p, _, rfl, .inl ⟨SqL.of hp, fun q nq => ?_⟩⟩
      exact k q _ (S1.trans (Same.new nq)) (SqT.of upd_same)
/-- a list of rows that grows -/
def RowsUp (K : PySem.W.Frag) (H : Hp) (D : Addr) (m : Nat) (d : Zn.Z) (j : Nat) : Prop := ∃ ss : List Addr, H D = some (.lst (ss.map V.ref)) ∧ ss.length = j ∧ ∀ (i : Nat) (r : Addr), ss[i]? = some r → SqT K H r (rowV d m i)
theorem RowsUp.mono {H H' : Hp} {D : Addr} {m j : Nat} {d : Zn.Z} (e : Same H H') (h : RowsUp K H D m d j) : RowsUp K H' D m d j := h.imp fun ss x => ⟨e _ _ x.1, x.2.1, fun i r hr => Same.seqT e (x.2.2 i r hr)⟩
theorem RowsUp.push {H : Hp} {D r : Addr} {m j : Nat} {d : Zn.Z} (h : RowsUp K H D m d j) (hr : SqT K H r (rowV d m j)) (hj : j ≤ 900) : ∃ acc, H D = some (.lst acc) ∧ acc.length < sizeLine ∧ RowsUp K (upd H D (.lst (acc ++ [.ref r]))) D m d (j + 1) := by
  obtain ⟨ss, h1, h2, h3⟩ := h
  refine ⟨_, h1, szs (by rw [List.length_map]; omega), ss ++ [r], by rw [upd_same, List.map_append]; rfl, by simp [h2], fun i r' hi => ?_⟩
  by_cases e : i < ss.length
  · rw [List.getElem?_append_left e] at hi
    exact butT h1 But.upd (h3 i r' hi)
  · have ei : i = ss.length := by
      have := (List.getElem?_eq_some_iff.mp hi).1
      simp at this
      omega
    subst ei
    rw [List.getElem?_append_right (Nat.le_refl _)] at hi
    have er : r' = r := by simpa using hi.symm
    subst er
    rw [h2]
    exact butT h1 But.upd hr
theorem RowsUp.done {H : Hp} {D : Addr} {m : Nat} {d : Zn.Z} (h : RowsUp K H D m d m) : ∃ ss : List Addr, SqL K H D (ss.map V.ref) ∧ ∀ (p : Addr), H p = none → IsZ K (upd H p (.tup (ss.map V.ref))) p m d := by
  obtain ⟨ss, h1, h2, h3⟩ := h
  exact ⟨ss, SqL.of h1, fun p np => ⟨ss, SqT.of upd_same, h2, fun i r hr => Same.seqT (Same.new np) (h3 i r hr)⟩⟩
def spMet (K : PySem.W.Frag) : Sp := fun vs H Q _ => ∃ (z l : Addr) (m : Nat) (d : Zn.Z) (q : Zn.Lit), vs = [.ref z, .ref l] ∧ IsZ K H z m d ∧ LitZ K H l q ∧ q.1 < m ∧ q.2.1 < m ∧ m ≤ 900 ∧
  (∀ H', Same H H' → Zn.met d q = none → Q .non H') ∧ ∀ z' d' H', Same H H' → Zn.met d q = some d' → IsZ K H' z' m d' → Q (.ref z') H'
theorem TailAt.snoc {H : Hp} {us : List Addr} {T : List (Nat × Int)} {u : Addr} {k : Nat} {c : Int} (h : TailAt K H us T) (hu : SqT K H u [.int (k : Nat), .int c]) : TailAt K H (us ++ [u]) (T ++ [(k, c)]) := by
  refine ⟨by rw [List.length_append, List.length_append, h.1]; rfl, fun j p hj => ?_⟩
  by_cases e : j < T.length
  · rw [List.getElem?_append_left e] at hj
    obtain ⟨u', h1, h2⟩ := h.2 j p hj
    exact ⟨u', by rw [List.getElem?_append_left (by rw [h.1]; exact e)]; exact h1, h2⟩
  · rw [List.getElem?_append_right (by omega)] at hj
    have e0 : j - T.length = 0 := by
      have := (List.getElem?_eq_some_iff.mp hj).1
      simpa using this
    rw [e0] at hj
    cases hj
    exact ⟨u, by rw [List.getElem?_append_right (by rw [h.1]; omega), h.1, e0]; rfl, hu⟩
theorem TailAt.but {l : Addr} {H H' : Hp} {xs : List V} {us : List Addr} {T : List (Nat × Int)} (hl : H l = some (.lst xs)) (e : But l H H') (h : TailAt K H us T) : TailAt K H' us T := ⟨h.1, fun j p hj => (h.2 j p hj).imp fun u x => ⟨x.1, butT hl e x.2⟩⟩
theorem met_eq (d : Zn.Z) (q : Zn.Lit) : Zn.met d q = match d q.1 q.2.1 with
    | some a => if a ≤ q.2.2 then some d else (match d q.2.1 q.1 with | some b => if b + q.2.2 < 0 then none else some (Zn.metD d q) | none => some (Zn.metD d q))
    | none => (match d q.2.1 q.1 with | some b => if b + q.2.2 < 0 then none else some (Zn.metD d q) | none => some (Zn.metD d q)) := by
  unfold Zn.met Zn.follows Zn.fails
  cases d q.1 q.2.1 with
  | none =>
    cases d q.2.1 q.1 with
    | none => rfl
    | some b => by_cases c : b + q.2.2 < 0 <;> simp [c]
  | some a =>
    cases d q.2.1 q.1 with
    | none => by_cases c : a ≤ q.2.2 <;> simp [c]
    | some b => by_cases c : a ≤ q.2.2 <;> by_cases c2 : b + q.2.2 < 0 <;> simp [c, c2]
theorem ok_met {f : Addr} {fd : FuncData} (F : C8.Def K mg "met" s_met f fd) (b : Binds K fd ["zone", "literal"] []) (T : Txt K mg CC CS aB) (K_shortened : C8.Cal P w K mg base 1 "shortened" (spShort K) []) : C8.Cal P w K mg base 2 "met" (spMet K) [] := by
  refine C8.cal0 F b .nil sc_met (fun vs H Q E h => ?_) (fun cdv A outer s H vs Q E hr h => ?_)
  · obtain ⟨z, l, m, d, q, rfl, _⟩ := h
    rfl
  · obtain ⟨z, l, m, d, q, rfl, hz, hl, h1, h2, h900, k1, k2⟩ := h
    obtain ⟨xs, hx, hxl, hrow⟩ := hz.row
    obtain ⟨r, hr1, hr2⟩ := hrow _ h1
    obtain ⟨t, ht1, ht2⟩ := hrow _ h2
    rw [met_eq] at k1 k2
    refine ⟨_, (pss_cons (ps_asg (pv 1) (pg_tup (by rfl) (pgs_cons (pg_name (i := 2) sc_met.nd rfl (Or.inr rfl)) (pgs_cons (pg_name (i := 3) sc_met.nd rfl (Or.inl rfl)) (pgs_cons (pg_name (i := 4) sc_met.nd rfl (Or.inr rfl)) pgs_nil)))))
    (pss_cons (ps_set (i := 5) sc_met.nd rfl (Or.inl rfl) (pe_ix ix_tup (pe_ix ix_tup (pv 0) (pv 2) (fun _ _ => rfl)) (pv 3) (fun _ _ => rfl)))
    (C8.pss_cut (ps_if (PW.pt (pw_and (pt_cmpR op_notN (pv 5) pe_non (nomark _)) (pw_and1 (pt_cmpR op_le (pv 5) (pv 4) (nomark _))))) (pss_one (ps_ret (pv 0))) pss_nil)
    (pss_cons (ps_set (i := 6) sc_met.nd rfl (Or.inl rfl) (pe_ix ix_tup (pe_ix ix_tup (pv 0) (pv 3) (fun _ _ => rfl)) (pv 2) (fun _ _ => rfl)))
    (C8.pss_cut (ps_if (PW.pt (pw_and (pt_cmpR op_notN (pv 6) pe_non (nomark _)) (pw_and1 (pt_cmpR op_lt (pe_op op_add (pv 6) (pv 4)) pe_int (nomark _))))) (pss_one (ps_ret pe_non)) pss_nil)
    (pss_cons (ps_set (i := 7) sc_met.nd rfl (Or.inr rfl) (pe_lc (own := [("k", 8), ("step", 9)]) (g := _) rfl sc_met.nd (En.pi_enumT (by rfl) T.z_enumerate (pa_cons (pe_ix ix_tup (pv 0) (pv 3) (fun _ _ => rfl)) pa_nil)) (blkOk_by (own := [("k", 8), ("step", 9)]) (N := N_met) (sc := C8.fnScope s_met) (by decide +kernel)) (fun _ _ _ _ _ => (pgTK K 2 (pgs_cons (pg_name (i := 8) sc_met.nd rfl (Or.inl rfl)) (pgs_cons (pg_name (i := 9) sc_met.nd rfl (Or.inl rfl)) pgs_nil)))) (fun _ _ _ _ _ => (pts_one (pt_cmpR op_notN (pv 9) pe_non (nomark _)))) (fun _ _ _ _ _ => (pe_tup (pa_cons (pv 8) (pa_cons (pe_op op_add (pv 9) (pv 4)) pa_nil))))))
    (pss_one (ps_ret (pe_callTy call_tuple_of (by rfl) T.z_tuple (by decide +kernel) (pa_cons (pe_lc (own := [("row", 10)]) (g := gName 10) (tt := tYes) rfl sc_met.nd (pi_tup (pv 0)) (blkOk_by (own := [("row", 10)]) (N := N_met) (sc := C8.fnScope s_met) (by decide +kernel)) (fun _ _ _ _ _ => (pg_name (i := 10) sc_met.nd rfl (Or.inl rfl))) (fun _ _ _ _ _ => pts_nil) (fun _ _ _ _ _ => (pe_ifExp (pt_cmpR op_isN (pe_ix (ixTK K) (pv 10) (pv 2) (fun _ _ => rfl)) pe_non (nomark _)) (pv 10) (C8.pe_c K_shortened hr (by decide) (by rfl) (pa_cons (pv 10) (pa_cons (pe_ix (ixTK K) (pv 10) (pv 2) (fun _ _ => rfl)) (pa_cons (pv 7) pa_nil))))))) pa_nil)))))))))), ?_⟩
    refine ⟨_, rfl, l, _, rfl, hl, rfl, _, _, rfl, _, _, rfl, _, _, rfl, rfl, ?_⟩
    refine ⟨_, rfl, _, rfl, z, _, _, _, rfl, rfl, hx, atI_nat hr1, _, rfl, r, _, _, _, rfl, rfl, hr2, atI_nat (rowV_at h2), ?_⟩
    -- the first test
    refine ⟨fun σ' H' => H' = H ∧ σ' = [some (.ref z), some (.ref l), some (.int (q.1 : Nat)), some (.int (q.2.1 : Nat)), some (.int q.2.2), some (optV (d q.1 q.2.1)), none, none, none, none, none] ∧ ∀ a, d q.1 q.2.1 = some a → ¬ a ≤ q.2.2, ?_, ?_⟩
    · cases ed : d q.1 q.2.1 with
      | none => exact ⟨_, rfl, rfl, _, rfl, iteF (iteF ⟨rfl, rfl, fun a h => by cases h⟩)⟩
      | some a =>
        refine ⟨_, rfl, rfl, _, rfl, iteT ⟨_, rfl, _, rfl, _, _, rfl, rfl, _, rfl, ?_⟩⟩
        by_cases c : a ≤ q.2.2
        · rw [decide_eq_true c]
          refine iteT ⟨_, rfl, k2 z d H (Same.refl H) ?_ hz⟩
          rw [ed]
          exact if_pos c
        · rw [decide_eq_false c]
          exact iteF ⟨rfl, rfl, fun a' h => by cases h; exact c⟩
    rintro σ H' ⟨rfl, rfl, hno⟩
    refine ⟨_, rfl, _, rfl, z, _, _, _, rfl, rfl, hx, atI_nat ht1, _, rfl, t, _, _, _, rfl, rfl, ht2, atI_nat (rowV_at h1), ?_⟩
    have kk : (match d q.1 q.2.1 with
        | some a => if a ≤ q.2.2 then some d else (match d q.2.1 q.1 with | some b => if b + q.2.2 < 0 then none else some (Zn.metD d q) | none => some (Zn.metD d q))
        | none => (match d q.2.1 q.1 with | some b => if b + q.2.2 < 0 then none else some (Zn.metD d q) | none => some (Zn.metD d q))) = (match d q.2.1 q.1 with | some b => if b + q.2.2 < 0 then none else some (Zn.metD d q) | none => some (Zn.metD d q)) := by
      cases ed : d q.1 q.2.1 with
      | none => rfl
      | some a => exact if_neg (hno a ed)
    rw [kk] at k1 k2
    -- the second test
    refine ⟨fun σ' H2 => H2 = H' ∧ σ' = [some (.ref z), some (.ref l), some (.int (q.1 : Nat)), some (.int (q.2.1 : Nat)), some (.int q.2.2), some (optV (d q.1 q.2.1)), some (optV (d q.2.1 q.1)), none, none, none, none] ∧ ∀ b, d q.2.1 q.1 = some b → ¬ b + q.2.2 < 0, ?_, ?_⟩
    · cases ed : d q.2.1 q.1 with
      | none => exact ⟨_, rfl, rfl, _, rfl, iteF (iteF ⟨rfl, rfl, fun a h => by cases h⟩)⟩
      | some b =>
        refine ⟨_, rfl, rfl, _, rfl, iteT ⟨_, rfl, _, rfl, _, _, rfl, rfl, _, _, rfl, rfl, _, rfl, ?_⟩⟩
        by_cases c : b + q.2.2 < 0
        · rw [decide_eq_true c]
          refine iteT (k1 H' (Same.refl H') ?_)
          rw [ed]
          exact if_pos c
        · rw [decide_eq_false c]
          exact iteF ⟨rfl, rfl, fun a' h => by cases h; exact c⟩
    rintro σ H2 ⟨rfl, rfl, hno2⟩
    have kk2 : (match d q.2.1 q.1 with | some b => if b + q.2.2 < 0 then none else some (Zn.metD d q) | none => some (Zn.metD d q)) = some (Zn.metD d q) := by
      cases ed : d q.2.1 q.1 with
      | none => rfl
      | some a => exact if_neg (hno2 a ed)
    rw [kk2] at k2
    -- the tail
    refine ⟨_, rfl, _, rfl, z, _, _, _, rfl, rfl, hx, atI_nat ht1, t, _, rfl, ht2, fun D nD => lc_it Wk.walk_Itu (fun j H' => Same H2 H' ∧ ∃ us, H' D = some (.lst (us.map V.ref)) ∧ TailAt K H' us (tailN (d q.2.1) q.2.2 j)) ⟨Same.new nD, [], upd_same, rfl, fun j p h => by simp [tailN] at h⟩ (fun j H' _ h => Same.seqT h.1 ht2) ?_ ?_⟩
    · rintro i y H3 H4 hi ⟨S3, us, h3, hT⟩ ⟨T', a, b, rfl, nT, rfl, ea, eb⟩
      cases ea
      rw [rowV_len] at hi
      have eb2 : some (optV (d q.2.1 i)) = some b := (rowV_at hi).symm.trans eb
      cases eb2
      have hts := tail_succ (d q.2.1) q.2.2 i
      generalize d q.2.1 i = o at hts ⊢
      have ST := Same.new (o := HO.tup [.int (i : Nat), optV o]) nT
      refine ⟨T', _, rfl, .inl (.inl upd_same), rfl, _, _, rfl, _, _, rfl, rfl, rfl, _, rfl, rfl, _, rfl, ?_⟩
      cases o with
      | none => exact iteF ⟨S3.trans ST, us, ST _ _ h3, by rw [hts, List.append_nil]; exact hT.mono ST⟩
      | some c =>
        refine iteT ⟨_, rfl, _, rfl, _, rfl, _, _, rfl, rfl, (by show 2 ≤ sizeLine; decide), fun u nu => ?_⟩
        have Su := Same.new (o := HO.tup [.int (i : Nat), .int (c + q.2.2)]) nu
        have h5 := Su _ _ (ST _ _ h3)
        refine ⟨_, h5, szs (by rw [List.length_map, hT.1]; have := tail_len (d q.2.1) q.2.2 i; omega), Same.mut ((S3.trans ST).trans Su) nD, us ++ [u], by rw [upd_same, List.map_append]; rfl, ?_⟩
        rw [hts]
        refine TailAt.but h5 But.upd ?_
        exact ((hT.mono ST).mono Su).snoc (SqT.of upd_same)
    rintro H3 ⟨S3, us, h3, hT⟩
    rw [rowV_len] at hT
    -- the rows
    have hx3 := Same.seqT S3 hx
    refine ⟨_, rfl, z, rfl, ⟨_, hx3⟩, fun E nE => lc_tup (xs := xs) (fun j H' => Same H3 H' ∧ RowsUp K H' E m (Zn.metD d q) j) ⟨Same.new nE, [], upd_same, rfl, fun i r hi => (by cases hi)⟩ (fun i H' _ h => Same.seqT h.1 hx3) ?_ ?_⟩
    · rintro i x H1 hxi ⟨S1, hU⟩
      have hi : i < m := by
        rw [← hxl]
        exact (List.getElem?_eq_some_iff.mp hxi).1
      obtain ⟨r, hr1, hr2⟩ := hrow i hi
      rw [hxi] at hr1
      cases hr1
      have hr3 := Same.seqT (S3.trans S1) hr2
      refine ⟨rfl, ?_⟩
      refine ⟨_, rfl, _, rfl, r, _, _, _, rfl, rfl, hr3, atI_nat (rowV_at h1), rfl, _, rfl, ?_⟩
      cases ed : d i q.1 with
      | none =>
        refine iteT ⟨_, rfl, ?_⟩
        have er : rowV d m i = rowV (Zn.metD d q) m i := by
          unfold rowV
          refine List.map_congr_left fun v _ => ?_
          unfold Zn.metD
          rw [ed]
        rw [er] at hr3
        obtain ⟨acc, g1, g2, g3⟩ := hU.push hr3 (by omega)
        exact ⟨acc, g1, g2, Same.mut S1 nE, g3⟩
      | some a =>
        have hr4 := hr3
        rw [rowV_map] at hr4
        refine iteF ⟨_, rfl, _, rfl, _, rfl, r, _, _, _, rfl, rfl, hr3, atI_nat (rowV_at h1), _, rfl, ?_⟩
        rw [ed]
        refine ⟨r, D, a, (List.range m).map (d i), us, tailN (d q.2.1) q.2.2 m, rfl, hr4, SqL.of (S1 _ _ h3), hT.mono S1, fun p hp => by simpa using (tail_mem.mp hp).1, by simp; omega, fun p H5 S5 hp5 => ?_⟩
        rw [short_row ed] at hp5
        obtain ⟨acc, g1, g2, g3⟩ := (hU.mono S5).push hp5 (by omega)
        exact ⟨acc, g1, g2, Same.mut (S1.trans S5) nE, g3⟩
    · rintro H1 ⟨S1, hU⟩
      rw [hxl] at hU
      obtain ⟨ss, g1, g2⟩ := hU.done
      exact ⟨E, _, rfl, .inl ⟨g1, fun p np => k2 p _ _ ((S3.trans S1).trans (Same.new np)) rfl (g2 p np)⟩⟩
def LitsZ (K : PySem.W.Frag) (H : Hp) (ts : List Addr) (qs : List Zn.Lit) : Prop := ts.length = qs.length ∧ ∀ (j : Nat) (q : Zn.Lit), qs[j]? = some q → ∃ t, ts[j]? = some t ∧ LitZ K H t q
theorem LitsZ.mono {H H' : Hp} {ts : List Addr} {qs : List Zn.Lit} (e : Same H H') (h : LitsZ K H ts qs) : LitsZ K H' ts qs := ⟨h.1, fun j q hj => (h.2 j q hj).imp fun t x => ⟨x.1, x.2.mono e⟩⟩
def spMetAll (K : PySem.W.Frag) : Sp := fun vs H Q _ => ∃ (z l : Addr) (ts : List Addr) (m : Nat) (d : Zn.Z) (qs : List Zn.Lit), vs = [.ref z, .ref l] ∧ IsZ K H z m d ∧ SqL K H l (ts.map V.ref) ∧ LitsZ K H ts qs ∧ Zn.Ok m qs ∧ m ≤ 900 ∧
  (∀ H', Same H H' → Zn.metAll d qs = none → Q .non H') ∧ ∀ z' d' H', Same H H' → Zn.metAll d qs = some d' → IsZ K H' z' m d' → Q (.ref z') H'
theorem metAll_step {d : Zn.Z} {qs : List Zn.Lit} {i : Nat} {q : Zn.Lit} (h : qs[i]? = some q) : Zn.metAll d (qs.take (i + 1)) = match Zn.metAll d (qs.take i) with | none => none | some d' => Zn.met d' q := by
  have app : ∀ (as bs : List Zn.Lit) (d : Zn.Z), Zn.metAll d (as ++ bs) = match Zn.metAll d as with | none => none | some d' => Zn.metAll d' bs := by
    intro as
    induction as with
    | nil => intro bs d; rfl
    | cons a as ih =>
      intro bs d
      show (match Zn.met d a with | none => none | some d' => Zn.metAll d' (as ++ bs)) = match (match Zn.met d a with | none => none | some d' => Zn.metAll d' as) with | none => none | some d' => Zn.metAll d' bs
      cases Zn.met d a with
      | none => rfl
      | some d1 => exact ih bs d1
  rw [take_snoc h, app]
  cases Zn.metAll d (qs.take i) with
  | none => rfl
  | some d1 =>
    show (match Zn.met d1 q with | none => none | some d' => some d') = Zn.met d1 q
    cases Zn.met d1 q <;> rfl
theorem metAll_none_take {d : Zn.Z} {qs : List Zn.Lit} {i : Nat} (h : Zn.metAll d (qs.take i) = none) : Zn.metAll d qs = none := by
  have : ∀ k, Zn.metAll d (qs.take (i + k)) = none := by
    intro k
    induction k with
    | zero => exact h
    | succ k ih =>
      by_cases e : i + k < qs.length
      · rw [show i + (k + 1) = i + k + 1 by omega, metAll_step (List.getElem?_eq_getElem e), ih]
      · rw [List.take_of_length_le (by omega)]
        rw [List.take_of_length_le (by omega)] at ih
        exact ih
  have := this qs.length
  rw [List.take_of_length_le (by omega)] at this
  exact this
theorem ok_met_all {f : Addr} {fd : FuncData} (F : C8.Def K mg "met_all" s_met_all f fd) (b : Binds K fd ["zone", "literals"] []) (T : Txt K mg CC CS aB) (K_met : C8.Cal P w K mg base 2 "met" (spMet K) []) : C8.Cal P w K mg base 3 "met_all" (spMetAll K) [] := by
  refine C8.cal0 F b .nil sc_met_all (fun vs H Q E h => ?_) (fun cdv A outer s H vs Q E hr h => ?_)
  · obtain ⟨z, l, ts, m, d, qs, rfl, _⟩ := h
    rfl
  · obtain ⟨z, l, ts, m, d, qs, rfl, hz, hl, hL, hok, h900, k1, k2⟩ := h
    refine ⟨_, (pss_cons (ps_for PassesOwn.never rfl (pi_list (pv 1)) (pg_name (i := 2) sc_met_all.nd rfl (Or.inl rfl))
    (pss_cons (ps_set (i := 0) sc_met_all.nd rfl (Or.inl rfl) (C8.pe_c K_met hr (by decide) (by rfl) (pa_cons (pv 0) (pa_cons (pv 2) pa_nil))))
    (pss_one (ps_if (pt_cmpR op_isN (pv 0) pe_non (nomark _)) (pss_one (ps_ret pe_non)) pss_nil))))
    (pss_one (ps_ret (pv 0)))), ?_⟩
    refine ⟨_, rfl, l, rfl, ⟨_, hl⟩, for_list (xs := ts.map V.ref) (fun i σ H' => ∃ (v2 : Option V) (z' : Addr) (d' : Zn.Z), σ = [some (.ref z'), some (.ref l), v2] ∧ Same H H' ∧ IsZ K H' z' m d' ∧ Zn.metAll d (qs.take i) = some d') ⟨none, z, d, rfl, Same.refl H, hz, rfl⟩ (fun i σ H' _ h => ?_) ?_ ?_⟩
    · obtain ⟨_, _, _, _, S, _⟩ := h
      exact S.seq hl
    · rintro i x σ H1 hx ⟨v2, z', d', rfl, S1, hz1, hm⟩
      rw [List.getElem?_map] at hx
      obtain ⟨t, ht, rfl⟩ := Option.map_eq_some_iff.mp hx
      have hi : i < qs.length := by
        rw [← hL.1]
        exact (List.getElem?_eq_some_iff.mp ht).1
      have hq := List.getElem?_eq_getElem hi
      obtain ⟨t', h1, h2⟩ := hL.2 i _ hq
      rw [ht] at h1
      cases h1
      obtain ⟨o1, o2⟩ := hok _ (List.getElem_mem hi)
      have st := metAll_step (d := d) hq
      rw [hm] at st
      refine ⟨_, rfl, _, rfl, z', t, m, d', qs[i], rfl, hz1, h2.mono S1, o1, o2, h900, fun H2 S2 e => ?_, fun z2 d2 H2 S2 e hz2 => ?_⟩
      · refine ⟨_, rfl, rfl, _, rfl, iteT ?_⟩
        refine k1 H2 (S1.trans S2) (metAll_none_take (i := i + 1) ?_)
        rw [st]
        exact e
      · refine ⟨_, rfl, rfl, _, rfl, iteF ?_⟩
        exact ⟨_, z2, d2, rfl, S1.trans S2, hz2, by rw [st]; exact e⟩
    · rintro σ H1 ⟨v2, z', d', rfl, S1, hz1, hm⟩
      rw [List.length_map, hL.1, List.take_length] at hm
      exact ⟨_, rfl, k2 z' d' H1 S1 hm hz1⟩
end
end K18

namespace K18
open PySem L2 Bx
def rTupOf (K : PySem.W.Frag) : List V → Hp → VK → Prop := fun xs H Q => ∃ p ys, xs = [.ref p] ∧ ((SqL K H p ys ∧ ∀ l, H l = none → Q (.ref l) (upd H l (.tup ys))) ∨ (SqT K H p ys ∧ Q (.ref p) H))
theorem tupOfK {X : Cx} (K : PySem.W.Frag) (h : X.K = K := by rfl) : CallR X (.type "tuple") (rTupOf K) := by
  subst h
  exact call_tuple_of
def reSc (o sc : Scope) : Scope := { sc with names := sc.names.map fun (n, k) => if (k == .free && o.kind == .function && (o.names.lookup n) == some .cell) then (n, .cell) else (n, k) }
def compSc : Expr → Scope
  | .ListComp _ _ sc _ => sc
  | _ => C8.fnScope s_whole
abbrev cs_whole : Scope := match C8.fnBody s_whole with
  | [.Return (some (.Call _ [e] _ _)) _] => reSc (C8.fnScope s_whole) (compSc e)
  | _ => C8.fnScope s_whole
def pdO : Option Int → PyData
  | none => .none
  | some c => .int c
theorem lay_opts : ∀ is : List (Option Int), PyData.canLayAll0 (is.map pdO) = true
  | [] => by simp [PyData.canLayAll0]
  | none :: is => by simp [PyData.canLayAll0, PyData.canLay0, lay_opts is, pdO]
  | some i :: is => by simp [PyData.canLayAll0, PyData.canLay0, lay_opts is, pdO]
theorem dep_opts : ∀ is : List (Option Int), PyData.depthAll (is.map pdO) ≤ 1
  | [] => by simp [PyData.depthAll]
  | none :: is => by
    have := dep_opts is
    simp [PyData.depthAll, PyData.depth, pdO]
    omega
  | some i :: is => by
    have := dep_opts is
    simp [PyData.depthAll, PyData.depth, pdO]
    omega
theorem shaped_opts (is : List (Option Int)) : SeqAt.shaped (.tuple (is.map pdO)) = true := by
  unfold SeqAt.shaped
  rw [Bool.and_eq_true, decide_eq_true_eq]
  refine ⟨by simp [PyData.canLay0, lay_opts], ?_⟩
  have := dep_opts is
  simp [PyData.depth]
  omega
theorem dp_opts {K : PySem.W.Frag} {H : Hp} : ∀ is : List (Option Int), DpAll K H (is.map optV) (is.map pdO)
  | [] => .nil
  | none :: is => .cons .non (dp_opts is)
  | some i :: is => .cons (.int i) (dp_opts is)
theorem eqv_opts : ∀ {xs ys : List (Option Int)}, PyData.eqvAll (xs.map pdO) (ys.map pdO) = true ↔ xs = ys
  | [], [] => by simp [PyData.eqvAll]
  | [], y :: _ => by simp [PyData.eqvAll]
  | x :: _, [] => by simp [PyData.eqvAll]
  | x :: xs, y :: ys => by
    have ih := eqv_opts (xs := xs) (ys := ys)
    cases x <;> cases y <;> simp [PyData.eqvAll, PyData.eqv, pdO, ih]
theorem dp_row {K : PySem.W.Frag} {H : Hp} {r : Addr} {d : Zn.Z} {m i : Nat} (h : SqT K H r (rowV d m i)) : Dp K H (.ref r) (.tuple (((List.range m).map (d i)).map pdO)) := by
  rw [rowV_map] at h
  exact .tup h (dp_opts _)
theorem rowE {d e : Zn.Z} {m i : Nat} (h : PyData.eqv (.tuple (((List.range m).map (d i)).map pdO)) (.tuple (((List.range m).map (e i)).map pdO)) = true) {v : Nat} (hv : v < m) : d i v = e i v := by
  have h2 : PyData.eqvAll (((List.range m).map (d i)).map pdO) (((List.range m).map (e i)).map pdO) = true := by simpa [PyData.eqv] using h
  have h3 := congrArg (fun l => l[v]?) (eqv_opts.mp h2)
  simpa [hv] using h3
section
variable {P : Program} {w : World} {K : PySem.W.Frag} {mg : Str → Option Value} {base : Heap} {CC CS aB : Addr}
def spWhole (K : PySem.W.Frag) : Sp := fun vs H Q _ => ∃ (n : Nat), vs = [.int (n : Nat)] ∧ n ≤ 800 ∧ ∀ z H', Same H H' → IsZ K H' z (n + 1) Zn.whole → Q (.ref z) H'
theorem ok_whole {f : Addr} {fd : FuncData} (F : C8.Def K mg "whole" s_whole f fd) (b : Binds K fd ["many"] []) (T : Txt K mg CC CS aB) : C8.Cal P w K mg base 1 "whole" (spWhole K) [] := by
  refine C8.cal0 F b .nil sc_whole (fun vs H Q E h => ?_) (fun cdv A outer s H vs Q E hr h => ?_)
  · obtain ⟨n, rfl, _⟩ := h
    rfl
  · obtain ⟨n, rfl, hn, k⟩ := h
    refine ⟨_, (pss_one (ps_ret (pe_callTy call_tuple_of (by rfl) T.z_tuple (by decide +kernel) (pa_cons (pe_lc (own := [("i", 1)]) (g := gName 1) (tt := tYes) rfl sc_whole.nd (pi_range1 (by rfl) T.z_range (pa_cons (pe_op op_add (pv 0) pe_int) pa_nil)) (blkOk_by (own := [("i", 1)]) (N := N_whole) (sc := C8.fnScope s_whole) (by decide +kernel)) (fun _ _ _ _ _ => (pg_name (i := 1) sc_whole.nd rfl (Or.inr rfl))) (fun _ _ _ _ _ => pts_nil) (fun _ _ _ _ _ => (pe_callTy (tupOfK K) (by rfl) T.z_tuple (by decide +kernel) (pa_cons (pe_lc (own := [("j", 2)]) (g := gName 2) (tt := tYes) rfl sc_whole.nd (pi_range1 (by rfl) T.z_range (pa_cons (pe_op op_add (pv 0) pe_int) pa_nil)) (blkOk_by (own := [("j", 2)]) (N := N_whole) (sc := cs_whole) (by decide +kernel)) (fun _ _ _ _ _ => (pg_name (i := 2) sc_whole.nd rfl (Or.inl rfl))) (fun _ _ _ _ _ => pts_nil) (fun _ _ _ _ _ => (pe_ifExp (pt_cmpR op_eq (pv 1) (pv 2) (nomark _)) pe_int pe_non))) pa_nil)))) pa_nil)))), ?_⟩
    refine ⟨_, rfl, _, _, rfl, rfl, _, rfl, (by omega), (by omega), fun D nD => lc_range (lo := 0) (n := ((n : Int) + 1).toNat) (fun j H' => Same H H' ∧ RowsUp K H' D (n + 1) Zn.whole j) ⟨Same.new nD, [], upd_same, rfl, fun i r hi => (by cases hi)⟩ ?_ ?_⟩
    · rintro i H1 hi ⟨S1, hU⟩
      refine ⟨rfl, ?_⟩
      refine ⟨_, rfl, _, _, rfl, rfl, _, rfl, (by omega), (by omega), fun D2 nD2 => lc_range (lo := 0) (n := ((n : Int) + 1).toNat) (fun j H' => Same H1 H' ∧ H' D2 = some (.lst ((rowV Zn.whole (n + 1) i).take j))) ⟨Same.new nD2, upd_same⟩ ?_ ?_⟩
      · rintro j H2 hj ⟨S2, h2⟩
        refine ⟨rfl, ?_⟩
        have hj2 : j < n + 1 := by omega
        have e := take_snoc (rowV_at (d := Zn.whole) (i := i) hj2)
        refine ⟨_, rfl, _, rfl, rfl, _, rfl, ?_⟩
        have fin : ∀ v, optV (Zn.whole i j) = v → ∃ acc, H2 D2 = some (.lst acc) ∧ acc.length < sizeLine ∧ Same H1 (upd H2 D2 (.lst (acc ++ [v]))) ∧ (upd H2 D2 (.lst (acc ++ [v]))) D2 = some (.lst ((rowV Zn.whole (n + 1) i).take (j + 1))) := fun v hv => by
          refine ⟨_, h2, szs (by rw [List.length_take, rowV_len]; omega), Same.mut S2 nD2, ?_⟩
          rw [upd_same, e, hv]
        by_cases c : i = j
        · rw [decide_eq_true (by rw [c])]
          exact iteT (fin _ (by unfold Zn.whole; rw [if_pos c]; rfl))
        · rw [decide_eq_false fun z => c (by injection z with z; omega)]
          exact iteF (fin _ (by unfold Zn.whole; rw [if_neg c]; rfl))
      · rintro H2 ⟨S2, h2⟩
        have e : (rowV Zn.whole (n + 1) i).take ((n : Int) + 1).toNat = rowV Zn.whole (n + 1) i := List.take_of_length_le (by rw [rowV_len]; omega)
        rw [e] at h2
        refine ⟨D2, _, rfl, .inl ⟨SqL.of h2, fun p np => ?_⟩⟩
        have S3 := S2.trans (Same.new (o := HO.tup (rowV Zn.whole (n + 1) i)) np)
        obtain ⟨acc, g1, g2, g3⟩ := (hU.mono S3).push (SqT.of upd_same) (by omega)
        exact ⟨acc, g1, g2, Same.mut (S1.trans S3) nD, g3⟩
    · rintro H1 ⟨S1, hU⟩
      rw [show ((n : Int) + 1).toNat = n + 1 by omega] at hU
      obtain ⟨ss, g1, g2⟩ := hU.done
      exact ⟨D, _, rfl, .inl ⟨g1, fun p np => k p _ (S1.trans (Same.new np)) (g2 p np)⟩⟩
/-- is a zone within another one, as it is seen -/
def spInside (K : PySem.W.Frag) : Sp := fun vs H Q _ => ∃ (z y : Addr) (m : Nat) (d e : Zn.Z), vs = [.ref z, .ref y] ∧ IsZ K H z m d ∧ IsZ K H y m e ∧ ∀ (b : Bool) H', Same H H' → (b = true → Zn.inside m d e) → Q (.bl b) H'
theorem ok_is_inside {f : Addr} {fd : FuncData} (F : C8.Def K mg "is_inside" s_is_inside f fd) (b : Binds K fd ["zone", "other"] []) (T : Txt K mg CC CS aB) : C8.Cal P w K mg base 1 "is_inside" (spInside K) [] := by
  refine C8.cal0 F b .nil sc_is_inside (fun vs H Q E h => ?_) (fun cdv A outer s H vs Q E hr h => ?_)
  · obtain ⟨z, y, m, d, e, rfl, _⟩ := h
    rfl
  · obtain ⟨z, y, m, d, e, rfl, hz, hy, k⟩ := h
    obtain ⟨xs, hx, hxl, hrow⟩ := hz.row
    obtain ⟨ys, hys, hyl, hrow2⟩ := hy.row
    refine ⟨_, (pss_cons (ps_for PassesOwn.never rfl (RZ.pi_zipA (by rfl) T.z_zip (pa_cons (pv 0) (pa_cons (pv 1) pa_nil))) (pg_tup (by rfl) (pgs_cons (pg_name (i := 2) sc_is_inside.nd rfl (Or.inl rfl)) (pgs_cons (pg_name (i := 3) sc_is_inside.nd rfl (Or.inl rfl)) pgs_nil)))
    (pss_one (ps_if (pt_cmpR (op_neD hr.units) (pv 2) (pv 3) (nomark _)) (pss_one (ps_for PassesOwn.never rfl (RZ.pi_zipA (by rfl) T.z_zip (pa_cons (pv 2) (pa_cons (pv 3) pa_nil))) (pg_tup (by rfl) (pgs_cons (pg_name (i := 4) sc_is_inside.nd rfl (Or.inl rfl)) (pgs_cons (pg_name (i := 5) sc_is_inside.nd rfl (Or.inl rfl)) pgs_nil)))
    (pss_one (ps_if (PW.pt (pw_and (pt_cmpR op_notN (pv 5) pe_non (nomark _)) (pw_and1 (PW.pt (pw_or (pt_cmpR op_isN (pv 4) pe_non (nomark _)) (pw_or1 (pt_cmpR op_gt (pv 4) (pv 5) (nomark _)))))))) (pss_one (ps_ret pe_bl)) pss_nil)))) pss_nil)))
    (pss_one (ps_ret pe_bl))), ?_⟩
    refine ⟨_, rfl, _, rfl, z, y, _, _, rfl, .inr ⟨hx, hys, RZ.for_zipT (xs := xs) (ys := ys) (by omega) (fun i σ H' => ∃ v2 v3 v4 v5, σ = [some (.ref z), some (.ref y), v2, v3, v4, v5] ∧ Same H H' ∧ ∀ u v c, u < i → v < m → e u v = some c → ∃ a, d u v = some a ∧ a ≤ c) ⟨none, none, none, none, rfl, Same.refl H, fun u v c hu => absurd hu (Nat.not_lt_zero u)⟩ (fun i σ H' h => ?_) ?_ ?_⟩⟩
    · obtain ⟨_, _, _, _, _, S, _⟩ := h
      exact ⟨Same.seqT S hx, Same.seqT S hys⟩
    · rintro i x y' T' σ H1 hxi hyi ⟨v2, v3, v4, v5, rfl, S1, hin⟩ nT
      have hi : i < m := by
        rw [← hxl]
        exact (List.getElem?_eq_some_iff.mp hxi).1
      obtain ⟨r, hr1, hr2⟩ := hrow i hi
      rw [hxi] at hr1
      cases hr1
      obtain ⟨t, ht1, ht2⟩ := hrow2 i hi
      rw [hyi] at ht1
      cases ht1
      have ST := S1.trans (Same.new (o := HO.tup [V.ref r, V.ref t]) nT)
      refine ⟨T', _, rfl, .inl (.inl upd_same), rfl, _, _, rfl, _, _, rfl, rfl, ?_⟩
      have same : (∀ v, v < m → d i v = e i v) → ∀ u v c, u < i + 1 → v < m → e u v = some c → ∃ a, d u v = some a ∧ a ≤ c := fun h u v c hu hv hc => by
        by_cases q : u = i
        · subst q
          exact ⟨c, (h v hv).trans hc, Int.le_refl c⟩
        · exact hin u v c (by omega) hv hc
      refine ⟨_, rfl, _, rfl, _, _, dp_row (Same.seqT ST hr2), dp_row (Same.seqT ST ht2), shaped_opts _, shaped_opts _, _, rfl, ?_⟩
      refine ite2 (fun _ => ?_) (fun hq => ?_)
      rotate_left
      · refine ⟨_, _, _, _, rfl, ST, same fun v hv => rowE ?_ hv⟩
        simpa using hq
      refine ⟨_, rfl, _, rfl, r, t, _, _, rfl, .inr ⟨Same.seqT ST hr2, Same.seqT ST ht2, RZ.for_zipT (xs := rowV d m i) (ys := rowV e m i) (by rw [rowV_len, rowV_len]) (fun j σ H' => ∃ v4 v5, σ = [some (.ref z), some (.ref y), some (.ref r), some (.ref t), v4, v5] ∧ Same H H' ∧ ∀ v c, v < j → e i v = some c → ∃ a, d i v = some a ∧ a ≤ c) ⟨v4, v5, rfl, ST, fun v c hv => absurd hv (Nat.not_lt_zero v)⟩ (fun j σ H' h => ?_) ?_ ?_⟩⟩
      · obtain ⟨_, _, _, S, _⟩ := h
        exact ⟨Same.seqT S hr2, Same.seqT S ht2⟩
      · rintro j x y2 T2 σ H2 hxj hyj ⟨v4, v5, rfl, S2, hin2⟩ nT2
        have hj : j < m := by
          have := (List.getElem?_eq_some_iff.mp hxj).1
          rw [rowV_len] at this
          exact this
        rw [rowV_at hj] at hxj hyj
        cases hxj
        cases hyj
        have S3 := S2.trans (Same.new (o := HO.tup [optV (d i j), optV (e i j)]) nT2)
        refine ⟨T2, _, rfl, .inl (.inl upd_same), rfl, _, _, rfl, _, _, rfl, rfl, ?_⟩
        have fin : (∀ c, e i j = some c → ∃ a, d i j = some a ∧ a ≤ c) → ∀ v c, v < j + 1 → e i v = some c → ∃ a, d i v = some a ∧ a ≤ c := fun h v c hv hc => by
          by_cases q : v = j
          · subst q
            exact h c hc
          · exact hin2 v c (by omega) hc
        generalize upd H2 T2 (.tup [optV (d i j), optV (e i j)]) = H3 at S3 ⊢
        cases he : e i j with
        | none =>
          refine ⟨_, rfl, rfl, _, rfl, iteF (iteF ?_)⟩
          exact ⟨_, _, rfl, S3, fin fun c hc => by rw [he] at hc; cases hc⟩
        | some c =>
          refine ⟨_, rfl, rfl, _, rfl, iteT ?_⟩
          cases hd : d i j with
          | none =>
            refine ⟨_, rfl, rfl, _, rfl, iteT (iteT ?_)⟩
            exact k false _ S3 fun z => by cases z
          | some a =>
            refine ⟨_, rfl, rfl, _, rfl, iteF ⟨_, rfl, _, rfl, _, _, rfl, rfl, _, rfl, ?_⟩⟩
            by_cases q : c < a
            · rw [decide_eq_true q]
              exact iteT (k false _ S3 fun z => by cases z)
            · rw [decide_eq_false q]
              exact iteF ⟨_, _, rfl, S3, fin fun c' hc => by rw [he] at hc; cases hc; exact ⟨a, hd, by omega⟩⟩
      · rintro σ H2 ⟨v4, v5, rfl, S2, hin2⟩
        rw [rowV_len] at hin2
        refine ⟨_, _, _, _, rfl, S2, fun u v c hu hv hc => ?_⟩
        by_cases q : u = i
        · subst q
          exact hin2 v c hv hc
        · exact hin u v c (by omega) hv hc
    · rintro σ H1 ⟨v2, v3, v4, v5, rfl, S1, hin⟩
      rw [hxl] at hin
      exact k true H1 S1 fun _ u v c hu hv hc => hin u v c hu hv hc
end
end K18

namespace K18
open PySem L2 Bx
section
variable {P : Program} {w : World} {K : PySem.W.Frag} {mg : Str → Option Value} {base : Heap} {CC CS aB : Addr}
theorem head_find {d : Zn.Z} {i j : Nat} (hj : j < i) (ht : Zn.tied d i j = true) (hn : ∀ k, k < j → Zn.tied d i k = false) : Zn.headOf d i = j := by
  unfold Zn.headOf
  cases q : (List.range i).find? (Zn.tied d i) with
  | none =>
    have := List.find?_eq_none.mp q j (List.mem_range.mpr hj)
    exact absurd ht this
  | some k =>
    obtain ⟨h1, h2, h3⟩ := Zn.find_range q
    show k = j
    rcases Nat.lt_trichotomy k j with c | c | c
    · rw [hn k c] at h2
      cases h2
    · exact c
    · have := h3 j c
      rw [ht] at this
      cases this
theorem head_none {d : Zn.Z} {i : Nat} (hn : ∀ k, k < i → Zn.tied d i k = false) : Zn.headOf d i = i := by
  unfold Zn.headOf
  cases q : (List.range i).find? (Zn.tied d i) with
  | none => rfl
  | some k =>
    obtain ⟨h1, h2, _⟩ := Zn.find_range q
    rw [hn k h1] at h2
    cases h2
def natV (n : Nat) : V := .int (n : Nat)
def spHead (K : PySem.W.Frag) : Sp := fun vs H Q _ => ∃ (z l : Addr) (m i : Nat) (d : Zn.Z), vs = [.ref z, .ref l, .int (i : Nat)] ∧ IsZ K H z m d ∧ SqL K H l ((List.range m).map natV) ∧ i < m ∧ ∀ H', Same H H' → Q (.int (Zn.headOf d i : Nat)) H'
theorem nat_dec {a b : Nat} : decide (natV a = natV b) = decide (a = b) := by
  rw [Bool.eq_iff_iff, decide_eq_true_eq, decide_eq_true_eq]
  exact ⟨fun z => Int.ofNat.inj (V.int.inj z), fun z => by rw [z]⟩
theorem ok_head_of {f : Addr} {fd : FuncData} (F : C8.Def K mg "head_of" s_head_of f fd) (b : Binds K fd ["zone", "indexes", "i"] []) (T : Txt K mg CC CS aB) : C8.Cal P w K mg base 1 "head_of" (spHead K) [] := by
  refine C8.cal0 F b .nil sc_head_of (fun vs H Q E h => ?_) (fun cdv A outer s H vs Q E hr h => ?_)
  · obtain ⟨z, l, m, i, d, rfl, _⟩ := h
    rfl
  · obtain ⟨z, l, m, i, d, rfl, hz, hl, hi, k⟩ := h
    obtain ⟨xs, hx, hxl, hrow⟩ := hz.row
    obtain ⟨r, hr1, hr2⟩ := hrow i hi
    refine ⟨_, (pss_cons (ps_set (i := 3) sc_head_of.nd rfl (Or.inl rfl) (pe_ix ix_tup (pv 0) (pv 2) (fun _ _ => rfl)))
    (pss_cons (ps_for PassesOwn.never rfl (pi_list (pv 1)) (pg_name (i := 4) sc_head_of.nd rfl (Or.inl rfl))
    (pss_one (ps_if (PW.pt (pw_or (pt_cmpR op_eq (pv 4) (pv 2) (nomark _)) (pw_or1 (PW.pt (pw_and (pt_cmpR op_notN (pe_ix ix_tup (pv 3) (pv 4) (fun _ _ => rfl)) pe_non (nomark _)) (pw_and (pt_cmpR op_notN (pe_ix ix_tup (pe_ix ix_tup (pv 0) (pv 4) (fun _ _ => rfl)) (pv 2) (fun _ _ => rfl)) pe_non (nomark _)) (pw_and1 (pt_cmpR op_eq (pe_op op_add (pe_ix ix_tup (pv 3) (pv 4) (fun _ _ => rfl)) (pe_ix ix_tup (pe_ix ix_tup (pv 0) (pv 4) (fun _ _ => rfl)) (pv 2) (fun _ _ => rfl))) pe_int (nomark _))))))))) (pss_one (ps_ret (pv 4))) pss_nil)))
    (pss_one (ps_ret (pv 2))))), ?_⟩
    refine ⟨_, rfl, _, rfl, z, _, _, _, rfl, rfl, hx, atI_nat hr1, ?_⟩
    refine ⟨_, rfl, l, rfl, ⟨_, hl⟩, for_list (xs := (List.range m).map natV) (fun j σ H' => ∃ v4, σ = [some (.ref z), some (.ref l), some (.int (i : Nat)), some (.ref r), v4] ∧ H' = H ∧ ∀ k, k < j → Zn.tied d i k = false ∧ k ≠ i) ⟨none, rfl, rfl, fun k hk => absurd hk (Nat.not_lt_zero k)⟩ (fun j σ H' _ h => ?_) ?_ ?_⟩
    · obtain ⟨_, _, rfl, _⟩ := h
      exact hl
    · rintro j x σ H1 hxj ⟨v4, rfl, rfl, hn⟩
      rw [List.getElem?_map] at hxj
      obtain ⟨j', hj', rfl⟩ := Option.map_eq_some_iff.mp hxj
      obtain ⟨hjm, ej⟩ := List.getElem?_eq_some_iff.mp hj'
      rw [List.length_range] at hjm
      have ej2 : j' = j := by rw [← ej, List.getElem_range]
      subst ej2
      have k0 := k H1 (Same.refl H1)
      have nlt : ¬ i < j' := fun c => (hn i c).2 rfl
      refine ⟨_, rfl, _, rfl, rfl, _, rfl, ?_⟩
      have e0 : decide (natV j' = V.int (i : Nat)) = decide (j' = i) := nat_dec (b := i)
      rw [e0]
      by_cases c0 : j' = i
      · rw [decide_eq_true c0]
        have e := head_none (d := d) (i := i) fun k hk => (hn k (by omega)).1
        rw [e] at k0
        refine iteT (iteT ⟨_, rfl, ?_⟩)
        rw [c0]
        exact k0
      rw [decide_eq_false c0]
      have hji : j' < i := by omega
      have no : Zn.tied d i j' = false → ∃ v4, [some (V.ref z), some (V.ref l), some (V.int (i : Nat)), some (V.ref r), some (natV j')] = [some (.ref z), some (.ref l), some (.int (i : Nat)), some (.ref r), v4] ∧ H1 = H1 ∧ ∀ k, k < j' + 1 → Zn.tied d i k = false ∧ k ≠ i := fun h => ⟨_, rfl, rfl, fun k hk => by
        by_cases q : k = j'
        · rw [q]; exact ⟨h, c0⟩
        · exact hn k (by omega)⟩
      obtain ⟨t, ht1, ht2⟩ := hrow j' hjm
      have aj : atI xs ((j' : Nat) : Int) = some (.ref t) := atI_nat ht1
      have bj : atI (rowV d m i) ((j' : Nat) : Int) = some (optV (d i j')) := atI_nat (rowV_at hjm)
      refine iteF ⟨_, rfl, _, rfl, r, _, _, _, rfl, rfl, hr2, bj, ?_⟩
      cases h1 : d i j' with
      | none =>
        refine ⟨rfl, _, rfl, iteF (iteF (no ?_))⟩
        unfold Zn.tied
        rw [h1]
      | some a =>
        refine ⟨rfl, _, rfl, iteT ⟨_, rfl, _, rfl, z, _, _, _, rfl, rfl, hx, aj, _, rfl, t, _, _, _, rfl, rfl, ht2, atI_nat (rowV_at hi), ?_⟩⟩
        cases h2 : d j' i with
        | none =>
          refine ⟨rfl, _, rfl, iteF (iteF (no ?_))⟩
          unfold Zn.tied
          rw [h1, h2]
        | some c =>
          refine ⟨rfl, _, rfl, iteT ⟨_, rfl, _, rfl, r, _, _, _, rfl, rfl, hr2, bj, _, rfl, _, rfl, z, _, _, _, rfl, rfl, hx, aj, _, rfl, t, _, _, _, rfl, rfl, ht2, atI_nat (rowV_at hi), a, c, by rw [h1]; rfl, by rw [h2]; rfl, rfl, _, rfl, ?_⟩⟩
          have et : Zn.tied d i j' = decide (a + c = 0) := by
            unfold Zn.tied
            rw [h1, h2]
          by_cases q : a + c = 0
          · rw [decide_eq_true (congrArg V.int q)]
            refine iteT ⟨_, rfl, ?_⟩
            have e := head_find hji (by rw [et, decide_eq_true q]) fun k hk => (hn k hk).1
            rw [e] at k0
            exact k0
          · rw [decide_eq_false fun y => q (V.int.inj y)]
            exact iteF (no (by rw [et, decide_eq_false q]))
    · rintro σ H1 ⟨v4, rfl, rfl, hn⟩
      rw [List.length_map, List.length_range] at hn
      exact absurd rfl (hn i hi).2
def spNeeded (K : PySem.W.Frag) : Sp := fun vs H Q _ => ∃ (z l : Addr) (m i j : Nat) (d : Zn.Z) (F : List Nat) (n : Int), vs = [.ref z, .ref l, .int (i : Nat), .int (j : Nat)] ∧ IsZ K H z m d ∧ i < m ∧ j < m ∧ d i j = some n ∧ SqL K H l (F.map natV) ∧ (∀ k ∈ F, k < m) ∧ ∀ H', Same H H' → Q (.bl (Zn.needed d F i j)) H'
theorem ok_is_needed {f : Addr} {fd : FuncData} (F : C8.Def K mg "is_needed" s_is_needed f fd) (b : Binds K fd ["zone", "firsts", "i", "j"] []) (T : Txt K mg CC CS aB) : C8.Cal P w K mg base 1 "is_needed" (spNeeded K) [] := by
  refine C8.cal0 F b .nil sc_is_needed (fun vs H Q E h => ?_) (fun cdv A outer s H vs Q E hr h => ?_)
  · obtain ⟨z, l, m, i, j, d, F, n, rfl, _⟩ := h
    rfl
  · obtain ⟨z, l, m, i, j, d, G, n, rfl, hz, hi, hj, hd, hl, hG, k⟩ := h
    obtain ⟨xs, hx, hxl, hrow⟩ := hz.row
    obtain ⟨r, hr1, hr2⟩ := hrow i hi
    refine ⟨_, (pss_cons (ps_set (i := 4) sc_is_needed.nd rfl (Or.inl rfl) (pe_ix ix_tup (pv 0) (pv 2) (fun _ _ => rfl)))
    (pss_cons (ps_set (i := 5) sc_is_needed.nd rfl (Or.inl rfl) (pe_ix ix_tup (pv 4) (pv 3) (fun _ _ => rfl)))
    (pss_cons (ps_for PassesOwn.never rfl (pi_list (pv 1)) (pg_name (i := 6) sc_is_needed.nd rfl (Or.inl rfl))
    (pss_cons (ps_set (i := 7) sc_is_needed.nd rfl (Or.inl rfl) (pe_ix ix_tup (pv 4) (pv 6) (fun _ _ => rfl)))
    (pss_one (ps_if (PW.pt (pw_and (pt_cmpR op_notN (pv 7) pe_non (nomark _)) (pw_and (pt_cmpR op_notN (pe_ix ix_tup (pe_ix ix_tup (pv 0) (pv 6) (fun _ _ => rfl)) (pv 3) (fun _ _ => rfl)) pe_non (nomark _)) (pw_and (pt_cmpR op_ne (pv 6) (pv 2) (nomark _)) (pw_and (pt_cmpR op_ne (pv 6) (pv 3) (nomark _)) (pw_and1 (pt_cmpR op_le (pe_op op_add (pv 7) (pe_ix ix_tup (pe_ix ix_tup (pv 0) (pv 6) (fun _ _ => rfl)) (pv 3) (fun _ _ => rfl))) (pv 5) (nomark _)))))))) (pss_one (ps_ret pe_bl)) pss_nil))))
    (pss_one (ps_ret pe_bl))))), ?_⟩
    refine ⟨_, rfl, _, rfl, z, _, _, _, rfl, rfl, hx, atI_nat hr1, _, rfl, _, rfl, r, _, _, _, rfl, rfl, hr2, atI_nat (rowV_at hj), ?_⟩
    rw [hd]
    have k0 : Q (.bl (!G.any (Zn.btw d n i j))) H := by
      have := k H (Same.refl H)
      unfold Zn.needed at this
      rw [hd] at this
      exact this
    refine ⟨_, rfl, l, rfl, ⟨_, hl⟩, for_list (xs := G.map natV) (fun u σ H' => ∃ v6 v7, σ = [some (.ref z), some (.ref l), some (.int (i : Nat)), some (.int (j : Nat)), some (.ref r), some (.int n), v6, v7] ∧ H' = H ∧ (G.take u).any (Zn.btw d n i j) = false) ⟨none, none, rfl, rfl, rfl⟩ (fun u σ H' _ h => ?_) ?_ ?_⟩
    · obtain ⟨_, _, _, rfl, _⟩ := h
      exact hl
    · rintro u x σ H1 hx' ⟨v6, v7, rfl, rfl, hn⟩
      rw [List.getElem?_map] at hx'
      obtain ⟨c, hc, rfl⟩ := Option.map_eq_some_iff.mp hx'
      have hcm := hG c (List.mem_of_getElem? hc)
      obtain ⟨t, ht1, ht2⟩ := hrow c hcm
      have ic : atI (rowV d m i) ((c : Nat) : Int) = some (optV (d i c)) := atI_nat (rowV_at hcm)
      have no : ∀ w7 : V, Zn.btw d n i j c = false → ∃ v6 v7, [some (V.ref z), some (V.ref l), some (V.int (i : Nat)), some (V.int (j : Nat)), some (V.ref r), some (V.int n), some (natV c), some w7] = [some (.ref z), some (.ref l), some (.int (i : Nat)), some (.int (j : Nat)), some (.ref r), some (.int n), v6, v7] ∧ H1 = H1 ∧ (G.take (u + 1)).any (Zn.btw d n i j) = false := fun w7 h => ⟨_, _, rfl, rfl, by
        rw [take_snoc hc, List.any_append, hn]
        simp [h]⟩
      refine ⟨_, rfl, _, rfl, r, _, _, _, rfl, rfl, hr2, ic, ?_⟩
      cases h1 : d i c with
      | none =>
        refine ⟨_, rfl, rfl, _, rfl, iteF (iteF (no _ ?_))⟩
        unfold Zn.btw
        simp [h1]
      | some a =>
        refine ⟨_, rfl, rfl, _, rfl, iteT ⟨_, rfl, _, rfl, z, _, _, _, rfl, rfl, hx, atI_nat ht1, _, rfl, t, _, _, _, rfl, rfl, ht2, atI_nat (rowV_at hj), ?_⟩⟩
        cases h2 : d c j with
        | none =>
          refine ⟨rfl, _, rfl, iteF (iteF (no _ ?_))⟩
          unfold Zn.btw
          simp [h2]
        | some e =>
          refine ⟨rfl, _, rfl, iteT ⟨_, rfl, _, rfl, rfl, _, rfl, ?_⟩⟩
          have e0 : (!decide (natV c = V.int (i : Nat))) = (!decide (c = i)) := congrArg Bool.not (nat_dec (b := i))
          have e1 : (!decide (natV c = V.int (j : Nat))) = (!decide (c = j)) := congrArg Bool.not (nat_dec (b := j))
          rw [e0]
          by_cases ci : c = i
          · rw [decide_eq_true ci]
            refine iteF (iteF (no _ ?_))
            unfold Zn.btw
            simp [ci]
          rw [decide_eq_false ci]
          refine iteT ⟨_, rfl, _, rfl, rfl, _, rfl, ?_⟩
          rw [e1]
          by_cases cj : c = j
          · rw [decide_eq_true cj]
            refine iteF (iteF (no _ ?_))
            unfold Zn.btw
            simp [cj]
          rw [decide_eq_false cj]
          refine iteT ⟨_, rfl, _, rfl, _, rfl, z, _, _, _, rfl, rfl, hx, atI_nat ht1, _, rfl, t, _, _, _, rfl, rfl, ht2, atI_nat (rowV_at hj), a, e, rfl, by rw [h2]; rfl, _, rfl, _, _, rfl, rfl, _, rfl, ?_⟩
          have eb : Zn.btw d n i j c = decide (a + e ≤ n) := by
            unfold Zn.btw
            rw [h1, h2, bne_iff_ne.mpr ci, bne_iff_ne.mpr cj]
            rfl
          by_cases q : a + e ≤ n
          · rw [decide_eq_true q]
            refine iteT ?_
            have : G.any (Zn.btw d n i j) = true := List.any_eq_true.mpr ⟨c, List.mem_of_getElem? hc, by rw [eb, decide_eq_true q]⟩
            rw [this] at k0
            exact k0
          · rw [decide_eq_false q]
            exact iteF (no _ (by rw [eb, decide_eq_false q]))
    · rintro σ H1 ⟨v6, v7, rfl, rfl, hn⟩
      rw [List.length_map, List.take_length] at hn
      rw [hn] at k0
      exact k0
theorem cut_to {xs : List V} {k : Nat} (h : k ≤ xs.length) : cutV xs none (some (k : Int)) = xs.take k := by
  unfold cutV
  rw [HT.sIx_none, HT.sIx_nat, List.drop_zero, Nat.sub_zero, Nat.min_eq_left h]
theorem cut_from {xs : List V} {k : Nat} (h : k ≤ xs.length) : cutV xs (some (k : Int)) none = xs.drop k := by
  unfold cutV
  rw [HT.sIx_nat, HT.sIx_none, Nat.min_eq_left h, List.take_of_length_le (by rw [List.length_drop]; omega)]
theorem flatMap_len {α β : Type} {f : α → List β} {c : Nat} : ∀ {l : List α}, (∀ x ∈ l, (f x).length ≤ c) → (l.flatMap f).length ≤ l.length * c
  | [], _ => by simp
  | a :: l, h => by
    have := flatMap_len (l := l) (f := f) (c := c) fun x hx => h x (List.mem_cons_of_mem _ hx)
    have h1 := h a List.mem_cons_self
    rw [List.flatMap_cons, List.length_append, List.length_cons, Nat.succ_mul]
    omega
theorem group_len (d : Zn.Z) (m h : Nat) : (Zn.group d m h).length ≤ m := by
  have : (Zn.group d m h).length ≤ (List.range m).length := List.length_filter_le _ _
  rw [List.length_range] at this
  exact this
theorem firsts_len (d : Zn.Z) (m : Nat) : (Zn.firsts d m).length ≤ m := by
  have : (Zn.firsts d m).length ≤ (List.range m).length := List.length_filter_le _ _
  rw [List.length_range] at this
  exact this
theorem pairs_len (g : List Nat) : (Zn.pairs g).length ≤ g.length := by
  unfold Zn.pairs
  rw [List.length_zip]
  omega
theorem ring_len (d : Zn.Z) (m h : Nat) : (Zn.ringLits d m h).length ≤ m := by
  unfold Zn.ringLits
  split
  · rw [List.length_map]
    exact Nat.le_trans (pairs_len _) (group_len d m h)
  · simp
theorem rest_len (d : Zn.Z) (m i : Nat) : (Zn.restLits d m i).length ≤ m := by
  unfold Zn.restLits
  rw [List.length_map]
  exact Nat.le_trans (List.length_filter_le _ _) (firsts_len d m)
theorem rings_len (d : Zn.Z) {m h : Nat} (hm : m ≤ 20) (hh : h ≤ 20) : ((List.range h).flatMap (Zn.ringLits d m)).length ≤ 400 := by
  have := flatMap_len (l := List.range h) (f := Zn.ringLits d m) (c := 20) fun x _ => Nat.le_trans (ring_len d m x) hm
  rw [List.length_range] at this
  omega
theorem rests_len (d : Zn.Z) {m : Nat} (hm : m ≤ 20) (u : Nat) : (((Zn.firsts d m).take u).flatMap (Zn.restLits d m)).length ≤ 400 := by
  have := flatMap_len (l := (Zn.firsts d m).take u) (f := Zn.restLits d m) (c := 20) fun x _ => Nat.le_trans (rest_len d m x) hm
  have h2 := firsts_len d m
  rw [List.length_take] at this
  have h3 : min u (Zn.firsts d m).length ≤ 20 := by omega
  have := Nat.le_trans this (Nat.mul_le_mul_right 20 h3)
  omega
/-- the literals told so far -/
def LitsUp (K : PySem.W.Frag) (H : Hp) (D : Addr) (qs : List Zn.Lit) : Prop := ∃ ts : List Addr, H D = some (.lst (ts.map V.ref)) ∧ LitsZ K H ts qs
theorem LitsZ.but {l : Addr} {H H' : Hp} {xs : List V} {ts : List Addr} {qs : List Zn.Lit} (hl : H l = some (.lst xs)) (e : But l H H') (h : LitsZ K H ts qs) : LitsZ K H' ts qs := ⟨h.1, fun j q hj => (h.2 j q hj).imp fun t x => ⟨x.1, butT hl e x.2⟩⟩
theorem LitsZ.app {H : Hp} {ts us : List Addr} {qs rs : List Zn.Lit} (h : LitsZ K H ts qs) (h' : LitsZ K H us rs) : LitsZ K H (ts ++ us) (qs ++ rs) := by
  refine ⟨by rw [List.length_append, List.length_append, h.1, h'.1], fun j q hj => ?_⟩
  by_cases e : j < qs.length
  · rw [List.getElem?_append_left e] at hj
    obtain ⟨t, h1, h2⟩ := h.2 j q hj
    exact ⟨t, by rw [List.getElem?_append_left (by rw [h.1]; exact e)]; exact h1, h2⟩
  · rw [List.getElem?_append_right (by omega)] at hj
    obtain ⟨t, h1, h2⟩ := h'.2 _ q hj
    exact ⟨t, by rw [List.getElem?_append_right (by rw [h.1]; omega), h.1]; exact h1, h2⟩
theorem LitsZ.nil {H : Hp} : LitsZ K H [] [] := ⟨rfl, fun j q h => by cases h⟩
theorem LitsUp.mono {H H' : Hp} {D : Addr} {qs : List Zn.Lit} (e : Same H H') (h : LitsUp K H D qs) : LitsUp K H' D qs := h.imp fun ts x => ⟨e _ _ x.1, x.2.mono e⟩
theorem LitsUp.push {H : Hp} {D t : Addr} {qs : List Zn.Lit} {q : Zn.Lit} (h : LitsUp K H D qs) (ht : LitZ K H t q) (hj : qs.length ≤ 900) : ∃ acc, H D = some (.lst acc) ∧ acc.length < sizeLine ∧ LitsUp K (upd H D (.lst (acc ++ [.ref t]))) D (qs ++ [q]) := by
  obtain ⟨ts, h1, h2⟩ := h
  refine ⟨_, h1, szs (by rw [List.length_map, h2.1]; exact Nat.le_trans hj (by decide)), ts ++ [t], by rw [upd_same, List.map_append]; rfl, ?_⟩
  refine (h2.but h1 But.upd).app ⟨rfl, fun j q' hj => ?_⟩
  cases j with
  | zero =>
    cases hj
    exact ⟨t, rfl, butT h1 But.upd ht⟩
  | succ j => cases hj
/-- what is taken of numbers by a test, in a list that grows -/
theorem nat_push {H : Hp} {D : Addr} {ns : List Nat} {n : Nat} (h : H D = some (.lst (ns.map natV))) (hl : ns.length ≤ 900) : ∃ acc, H D = some (.lst acc) ∧ acc.length < sizeLine ∧ (upd H D (.lst (acc ++ [natV n]))) D = some (.lst ((ns ++ [n]).map natV)) :=
  ⟨_, h, szs (by rw [List.length_map]; exact Nat.le_trans hl (by decide)), by rw [upd_same, List.map_append]; rfl⟩
theorem filter_range_succ (p : Nat → Bool) (i : Nat) : (List.range (i + 1)).filter p = (List.range i).filter p ++ if p i then [i] else [] := by
  rw [List.range_succ, List.filter_append]
  congr 1
  by_cases h : p i = true
  · simp [h]
  · simp [h]
theorem rings_len2 (d : Zn.Z) {m : Nat} (hm : m ≤ 20) (u : Nat) : (((Zn.firsts d m).take u).flatMap (Zn.ringLits d m)).length ≤ 400 := by
  have := flatMap_len (l := (Zn.firsts d m).take u) (f := Zn.ringLits d m) (c := 20) fun x _ => Nat.le_trans (ring_len d m x) hm
  have h2 := firsts_len d m
  rw [List.length_take] at this
  have h3 : min u (Zn.firsts d m).length ≤ 20 := by omega
  have := Nat.le_trans this (Nat.mul_le_mul_right 20 h3)
  omega
theorem firsts_le {d : Zn.Z} {m : Nat} (h : ¬ (Zn.firsts d m).length < m) : ∀ i, i < m → Zn.headOf d i = i := by
  have e : (Zn.firsts d m).length = (List.range m).length := by
    have := firsts_len d m
    rw [List.length_range]
    omega
  have e2 : ∀ a ∈ List.range m, (Zn.headOf d a == a) = true := List.length_filter_eq_length_iff.mp e
  intro i hi
  exact beq_iff_eq.mp (e2 i (List.mem_range.mpr hi))
theorem flat_nil {α β : Type} {f : α → List β} : ∀ {l : List α}, (∀ x ∈ l, f x = []) → l.flatMap f = []
  | [], _ => rfl
  | a :: l, h => by rw [List.flatMap_cons, h a List.mem_cons_self, flat_nil fun x hx => h x (List.mem_cons_of_mem _ hx)]; rfl
theorem flat_filter {α β : Type} {f : α → List β} {p : α → Bool} : ∀ {l : List α}, (∀ x ∈ l, p x = false → f x = []) → l.flatMap f = (l.filter p).flatMap f
  | [], _ => rfl
  | a :: l, h => by
    have ih := flat_filter (f := f) (p := p) (l := l) fun x hx => h x (List.mem_cons_of_mem _ hx)
    cases c : p a with
    | true => rw [List.flatMap_cons, List.filter_cons, if_pos c, List.flatMap_cons, ih]
    | false => rw [List.flatMap_cons, List.filter_cons, if_neg (by rw [c]; exact Bool.false_ne_true), h a List.mem_cons_self c, ih]; rfl
theorem rings_firsts {d : Zn.Z} {m : Nat} (C : Zn.Closed m d) : (List.range m).flatMap (Zn.ringLits d m) = (Zn.firsts d m).flatMap (Zn.ringLits d m) := by
  refine flat_filter fun h hh hp => ?_
  have hm := List.mem_range.mp hh
  have e : Zn.group d m h = [] := by
    refine List.eq_nil_iff_forall_not_mem.mpr fun i hi => ?_
    obtain ⟨im, ei⟩ := Zn.mem_group.mp hi
    have := Zn.head_head C im
    rw [ei] at this
    rw [this] at hp
    simp at hp
  unfold Zn.ringLits
  rw [e]
  rfl
theorem rings_none {d : Zn.Z} {m : Nat} (h : ¬ (Zn.firsts d m).length < m) : (Zn.firsts d m).flatMap (Zn.ringLits d m) = [] := by
  refine flat_nil fun a _ => ?_
  have e := firsts_le h
  unfold Zn.ringLits
  rw [if_neg]
  intro hl
  obtain ⟨u, v, hu, hv, ne⟩ : ∃ u v, u ∈ Zn.group d m a ∧ v ∈ Zn.group d m a ∧ u ≠ v := by
    have nd : (Zn.group d m a).Nodup := List.nodup_range.filter _
    match q : Zn.group d m a, hl, nd with
    | [], hl, _ => simp at hl
    | [_], hl, _ => simp at hl
    | x :: y :: l, _, nd =>
      refine ⟨x, y, by simp, by simp, ?_⟩
      have := (List.nodup_cons.mp nd).1
      intro h
      exact this (by rw [h]; simp)
  obtain ⟨um, eu⟩ := Zn.mem_group.mp hu
  obtain ⟨vm, ev⟩ := Zn.mem_group.mp hv
  rw [e u um] at eu
  rw [e v vm] at ev
  exact ne (eu.trans ev.symm)
theorem rest_two (d : Zn.Z) (m i : Nat) : Zn.restLits d m i = (((Zn.firsts d m).filter fun j => (d i j).isSome && (i != j)).filter fun j => Zn.needed d (Zn.firsts d m) i j).map fun j => (i, j, Zn.num d i j) := by
  unfold Zn.restLits
  rw [List.filter_filter]
  congr 1
  refine List.filter_congr fun j _ => ?_
  unfold Zn.needed
  cases d i j with
  | none => simp
  | some n => simp [Bool.and_comm]
/-- the heads, told -/
def headK (d : Zn.Z) (j : Nat) : List (Key × V) := (List.range j).map fun i => ((Sum.inl (i : Nat) : Key), natV (Zn.headOf d i))
theorem headK_get {d : Zn.Z} : ∀ {j i : Nat}, i < j → valV (headK d j) (Sum.inl (i : Nat) : Key) = some (natV (Zn.headOf d i)) ∧ (∀ i, j ≤ i → valV (headK d j) (Sum.inl (i : Nat) : Key) = none)
  | 0, i, h => absurd h (Nat.not_lt_zero i)
  | j + 1, i, h => by
    have e : headK d (j + 1) = headK d j ++ [((Sum.inl (j : Nat) : Key), natV (Zn.headOf d j))] := by
      unfold headK
      rw [List.range_succ, List.map_append]
      rfl
    have hn : ∀ i, j ≤ i → valV (headK d j) (Sum.inl (i : Nat) : Key) = none := by
      cases j with
      | zero => intro i _; rfl
      | succ j => exact (headK_get (d := d) (j := j + 1) (i := 0) (Nat.succ_pos j)).2
    refine ⟨?_, fun i' h' => ?_⟩
    · rw [e, valV_snoc _ _ _ _ (hn j (Nat.le_refl j))]
      by_cases q : i = j
      · rw [q, if_pos rfl]
      · rw [if_neg (fun z => q (by injection z with z; omega))]
        exact (headK_get (d := d) (j := j) (i := i) (by omega)).1
    · rw [e, valV_snoc _ _ _ _ (hn j (Nat.le_refl j)), if_neg (fun z => by injection z with z; omega)]
      exact hn i' (by omega)
theorem headK_put (d : Zn.Z) (j : Nat) : putK (headK d j) (Sum.inl (j : Nat) : Key) (natV (Zn.headOf d j)) = headK d (j + 1) := by
  have hn : valV (headK d j) (Sum.inl (j : Nat) : Key) = none := by
    cases j with
    | zero => rfl
    | succ j => exact (headK_get (d := d) (j := j + 1) (i := 0) (Nat.succ_pos j)).2 _ (Nat.le_refl _)
  rw [putK_new _ hn]
  unfold headK
  rw [List.range_succ, List.map_append]
  rfl
def spAmong (K : PySem.W.Frag) : Sp := fun vs H Q _ => ∃ (z l : Addr) (m : Nat) (d : Zn.Z), vs = [.ref z, .ref l] ∧ IsZ K H z m d ∧ SqL K H l ((List.range m).map natV) ∧ Zn.Closed m d ∧ m ≤ 20 ∧ ∀ p ts H', Same H H' → SqT K H' p (ts.map V.ref) → LitsZ K H' ts (Zn.lits d m) → Q (.ref p) H'
theorem ok_literals_among {f : Addr} {fd : FuncData} (F : C8.Def K mg "literals_among" s_literals_among f fd) (b : Binds K fd ["zone", "indexes"] []) (T : Txt K mg CC CS aB) (K_head_of : C8.Cal P w K mg base 1 "head_of" (spHead K) []) (K_is_needed : C8.Cal P w K mg base 1 "is_needed" (spNeeded K) []) :
    C8.Cal P w K mg base 2 "literals_among" (spAmong K) [] := by
  refine C8.cal0 F b .nil sc_literals_among (fun vs H Q E h => ?_) (fun cdv A outer s H vs Q E hr h => ?_)
  · obtain ⟨z, l, m, d, rfl, _⟩ := h
    rfl
  · obtain ⟨z, l, m, d, rfl, hz, hl, C, hm, k⟩ := h
    have hu := hu_of hr
    obtain ⟨xs, hx, hxl, hrow⟩ := hz.row
    refine ⟨_, (pss_cons (ps_set (i := 2) sc_literals_among.nd rfl (Or.inr rfl) (pe_dc (own := [("i", 7)]) rfl sc_literals_among.nd (pi_list (pv 1)) (blkOk_by (own := [("i", 7)]) (N := N_literals_among) (sc := C8.fnScope s_literals_among) (by decide +kernel)) (fun _ _ _ _ _ => (pg_name (i := 7) sc_literals_among.nd rfl (Or.inl rfl))) (fun _ _ _ _ _ => pts_nil) (fun _ _ _ _ _ => (pv 7)) (fun _ _ _ _ _ => (C8.pe_c K_head_of hr (by decide) (by rfl) (pa_cons (pv 0) (pa_cons (pv 1) (pa_cons (pv 7) pa_nil)))))))
    (pss_cons (ps_set (i := 3) sc_literals_among.nd rfl (Or.inl rfl) (pe_lst pa_nil))
    (pss_cons (ps_set (i := 4) sc_literals_among.nd rfl (Or.inr rfl) (pe_lc (own := [("i", 7)]) (g := gName 7) rfl sc_literals_among.nd (pi_list (pv 1)) (blkOk_by (own := [("i", 7)]) (N := N_literals_among) (sc := C8.fnScope s_literals_among) (by decide +kernel)) (fun _ _ _ _ _ => (pg_name (i := 7) sc_literals_among.nd rfl (Or.inl rfl))) (fun _ _ _ _ _ => (pts_one (pt_cmpR op_eq (pe_dget hu (pv 2) (pv 7) (fun _ _ => rfl)) (pv 7) (nomark _)))) (fun _ _ _ _ _ => (pv 7))))
    (C8.pss_cut (ps_if (pt_cmpR op_lt (pe_callB call_len_seq (by rfl) T.z_len (by decide +kernel) (pa_cons (pv 4) pa_nil)) (pe_callB call_len_seq (by rfl) T.z_len (by decide +kernel) (pa_cons (pv 1) pa_nil)) (nomark _)) (pss_one (ps_for PassesOwn.never rfl (pi_list (pv 4)) (pg_name (i := 5) sc_literals_among.nd rfl (Or.inr rfl))
    (pss_cons (ps_setLc (i := 6) (own := [("i", 7)]) (g := gName 7) rfl sc_literals_among.nd rfl rfl (sw_true rfl rfl rfl (by decide +kernel)) (pi_list (pv 1)) (blkOk_by (own := [("i", 7)]) (N := N_literals_among) (sc := C8.fnScope s_literals_among) (by decide +kernel)) (fun _ _ _ _ _ => (pg_name (i := 7) sc_literals_among.nd rfl (Or.inl rfl))) (fun _ _ _ _ _ => (pts_one (pt_cmpR op_eq (pe_dget hu (pv 2) (pv 7) (fun _ _ => rfl)) (pv 5) (nomark _)))) (fun _ _ _ _ _ => (pv 7)))
    (pss_one (ps_if (pt_cmpR op_gt (pe_callB call_len_seq (by rfl) T.z_len (by decide +kernel) (pa_cons (pv 6) pa_nil)) pe_int (nomark _)) (pss_one (ps_set (i := 3) sc_literals_among.nd rfl (Or.inl rfl) (pe_op op_catS (pv 3) (pe_lc (own := [("i", 7), ("j", 9)]) (g := _) (tt := tYes) rfl sc_literals_among.nd (pi_zip (by rfl) T.z_zip (pa_cons (pv 6) (pa_cons (pe_op op_catS (pe_slice sl_list (pv 6) (po_some pe_int) po_none) (pe_slice sl_list (pv 6) po_none (po_some pe_int))) pa_nil))) (blkOk_by (own := [("i", 7), ("j", 9)]) (N := N_literals_among) (sc := C8.fnScope s_literals_among) (by decide +kernel)) (fun _ _ _ _ _ => (pgTK K 2 (pgs_cons (pg_name (i := 7) sc_literals_among.nd rfl (Or.inl rfl)) (pgs_cons (pg_name (i := 9) sc_literals_among.nd rfl (Or.inl rfl)) pgs_nil)))) (fun _ _ _ _ _ => pts_nil) (fun _ _ _ _ _ => (pe_tup (pa_cons (pv 7) (pa_cons (pv 9) (pa_cons (pe_ix (ixTK K) (pe_ix (ixTK K) (pv 0) (pv 7) (fun _ _ => rfl)) (pv 9) (fun _ _ => rfl)) pa_nil))))))))) pss_nil))))) pss_nil)
    (pss_cons (ps_for PassesOwn.never rfl (pi_list (pv 4)) (pg_name (i := 7) sc_literals_among.nd rfl (Or.inr rfl))
    (pss_cons (ps_setLc (i := 8) (own := [("j", 9)]) (g := gName 9) rfl sc_literals_among.nd rfl rfl (sw_true rfl rfl rfl (by decide +kernel)) (pi_list (pv 4)) (blkOk_by (own := [("j", 9)]) (N := N_literals_among) (sc := C8.fnScope s_literals_among) (by decide +kernel)) (fun _ _ _ _ _ => (pg_name (i := 9) sc_literals_among.nd rfl (Or.inl rfl))) (fun _ _ _ _ _ => (pts_one (PW.pt (pw_and (pt_cmpR op_notN (pe_ix (ixTK K) (pe_ix (ixTK K) (pv 0) (pv 7) (fun _ _ => rfl)) (pv 9) (fun _ _ => rfl)) pe_non (nomark _)) (pw_and1 (pt_cmpR op_ne (pv 7) (pv 9) (nomark _))))))) (fun _ _ _ _ _ => (pv 9)))
    (pss_one (ps_set (i := 3) sc_literals_among.nd rfl (Or.inl rfl) (pe_op op_catS (pv 3) (pe_lc (own := [("j", 9)]) (g := gName 9) rfl sc_literals_among.nd (pi_list (pv 8)) (blkOk_by (own := [("j", 9)]) (N := N_literals_among) (sc := C8.fnScope s_literals_among) (by decide +kernel)) (fun _ _ _ _ _ => (pg_name (i := 9) sc_literals_among.nd rfl (Or.inl rfl))) (fun _ _ _ _ _ => (pts_one (pt_val (C8.pe_c K_is_needed hr (by decide) (by rfl) (pa_cons (pv 0) (pa_cons (pv 4) (pa_cons (pv 7) (pa_cons (pv 9) pa_nil)))))))) (fun _ _ _ _ _ => (pe_tup (pa_cons (pv 7) (pa_cons (pv 9) (pa_cons (pe_ix (ixTK K) (pe_ix (ixTK K) (pv 0) (pv 7) (fun _ _ => rfl)) (pv 9) (fun _ _ => rfl)) pa_nil)))))))))))
    (pss_one (ps_ret (pe_callTy call_tuple_of (by rfl) T.z_tuple (by decide +kernel) (pa_cons (pv 3) pa_nil))))))))), ?_⟩
    have lenM : ((List.range m).map natV).length = m := by rw [List.length_map, List.length_range]
    have ixs : ∀ {j : Nat} {x : V}, ((List.range m).map natV)[j]? = some x → j < m ∧ x = natV j := fun {j x} h => by
      rw [List.getElem?_map] at h
      obtain ⟨j', hj', rfl⟩ := Option.map_eq_some_iff.mp h
      obtain ⟨hjm, ej⟩ := List.getElem?_eq_some_iff.mp hj'
      rw [List.length_range] at hjm
      refine ⟨hjm, ?_⟩
      rw [← ej, List.getElem_range]
    have cell : ∀ {H' : Hp} {i j : Nat}, Same H H' → i < m → j < m → ∃ r, atI xs (i : Int) = some (.ref r) ∧ SqT K H' r (rowV d m i) ∧ atI (rowV d m i) (j : Int) = some (optV (d i j)) := fun S hi hj => by
      obtain ⟨r, h1, h2⟩ := hrow _ hi
      exact ⟨r, atI_nat h1, Same.seqT S h2, atI_nat (rowV_at hj)⟩
    -- heads
    refine ⟨_, rfl, l, rfl, ⟨_, hl⟩, fun D nD => Wk.dc_it walk_list (fun j H' => Same H H' ∧ H' D = some (.dK (headK d j))) ⟨Same.new nD, upd_same⟩ (fun i H' _ p => p.1.seq hl) ?_ ?_⟩
    · rintro i x H1 H2 hi ⟨S1, h1⟩ ⟨rfl, hxi⟩
      obtain ⟨him, rfl⟩ := ixs hxi
      refine ⟨rfl, ?_⟩
      refine ⟨_, rfl, _, rfl, _, rfl, _, rfl, z, l, m, i, d, rfl, hz.mono S1, S1.seq hl, him, fun H3 S3 => ?_⟩
      refine ⟨_, Sum.inl (i : Nat), rfl, S3 _ _ h1, szs (by unfold headK; simp; omega), Same.mut (S1.trans S3) nD, ?_⟩
      rw [upd_same]
      exact congrArg (fun x => some (HO.dK x)) (headK_put d i)
    rintro H1 ⟨S1, hD⟩
    rw [lenM] at hD
    have hget : ∀ {H' : Hp} {i : Nat}, Same H1 H' → i < m → DGet H' D (natV i) (some (natV (Zn.headOf d i))) := fun {H' i} S hi => by
      have := DGet.k (k := (Sum.inl (i : Nat) : Key)) (S _ _ hD)
      rw [(headK_get hi).1] at this
      exact this
    refine ⟨sz (by simp), fun f0 nf => ?_⟩
    have Sf := Same.new (o := HO.lst []) nf
    have hf0 : (upd H1 f0 (.lst [])) f0 = some (.lst []) := upd_same
    generalize upd H1 f0 (.lst []) = H2 at Sf hf0 ⊢
    have S02 := S1.trans Sf
    -- firsts
    refine ⟨_, rfl, l, rfl, ⟨_, S02.seq hl⟩, fun g ng => lc_list (xs := (List.range m).map natV) (fun j H' => Same H2 H' ∧ H' g = some (.lst (((List.range j).filter fun i => Zn.headOf d i == i).map natV))) ⟨Same.new ng, upd_same⟩ (fun i H' _ p => p.1.seq (S02.seq hl)) ?_ ?_⟩
    · rintro i x H3 hxi ⟨S3, h3⟩
      obtain ⟨him, rfl⟩ := ixs hxi
      refine ⟨rfl, ?_⟩
      refine ⟨_, rfl, _, rfl, D, _, rfl, hget (Sf.trans S3) him, _, rfl, rfl, _, rfl, ?_⟩
      have ed : decide (natV (Zn.headOf d i) = natV i) = decide (Zn.headOf d i = i) := nat_dec
      rw [ed]
      by_cases c : Zn.headOf d i = i
      · rw [decide_eq_true c]
        refine iteT ⟨_, rfl, ?_⟩
        obtain ⟨acc, g1, g2, g3⟩ := nat_push (n := i) h3 (by have := List.length_filter_le (fun i => Zn.headOf d i == i) (List.range i); rw [List.length_range] at this; omega)
        refine ⟨acc, g1, g2, Same.mut S3 ng, ?_⟩
        rw [filter_range_succ, if_pos (by simp [c])]
        exact g3
      · rw [decide_eq_false c]
        refine iteF ⟨S3, ?_⟩
        rw [filter_range_succ, if_neg (by simp [c]), List.append_nil]
        exact h3
    rintro H3 ⟨S3, h3⟩
    rw [lenM] at h3
    have h3 : H3 g = some (.lst ((Zn.firsts d m).map natV)) := h3
    have S03 := S02.trans S3
    have FL := firsts_len d m
    have hFm : ∀ k ∈ Zn.firsts d m, k < m := fun k hk => (Zn.mem_firsts.mp hk).1
    have hf3 : LitsUp K H3 f0 [] := ⟨[], S3 _ _ hf0, LitsZ.nil⟩
    -- the rings
    refine ⟨fun σ' H' => ∃ (v5 v6 v7 : Option V) (fa : Addr), σ' = [some (.ref z), some (.ref l), some (.ref D), some (.ref fa), some (.ref g), v5, v6, v7, none, none] ∧ Same H3 H' ∧ LitsUp K H' fa ((Zn.firsts d m).flatMap (Zn.ringLits d m)), ?_, ?_⟩
    · refine ⟨_, rfl, g, _, rfl, .inl (SqL.of h3), _, rfl, l, _, rfl, .inl (S03.seq hl), _, _, rfl, rfl, _, rfl, ?_⟩
      rw [lenM, List.length_map]
      by_cases cl : (Zn.firsts d m).length < m
      rotate_left
      · rw [decide_eq_false (by omega)]
        refine iteF ⟨_, _, _, f0, rfl, Same.refl H3, ?_⟩
        rw [rings_none cl]
        exact hf3
      rw [decide_eq_true (by omega)]
      refine iteT ?_
      refine ⟨_, rfl, g, rfl, ⟨_, SqL.of h3⟩, for_list (xs := (Zn.firsts d m).map natV) (fun h σ H' => ∃ (v5 v6 v7 : Option V) (fa : Addr), σ = [some (.ref z), some (.ref l), some (.ref D), some (.ref fa), some (.ref g), v5, v6, v7, none, none] ∧ Same H3 H' ∧ LitsUp K H' fa (((Zn.firsts d m).take h).flatMap (Zn.ringLits d m)))
        ⟨none, none, none, f0, rfl, Same.refl H3, hf3⟩ (fun h σ H' _ p => ?_) ?_ ?_⟩
      · obtain ⟨_, _, _, _, _, S, _⟩ := p
        exact SqL.of (S _ _ h3)
      · rintro hI x σ H4 hxh ⟨v5, v6, v7, fa, rfl, S4, hF⟩
        rw [List.getElem?_map] at hxh
        obtain ⟨h, hh, rfl⟩ := Option.map_eq_some_iff.mp hxh
        have hh2 := hFm h (List.mem_of_getElem? hh)
        have V0 := S03.trans S4
        refine ⟨_, rfl, l, rfl, ⟨_, V0.seq hl⟩, fun gr ngr => lc_list (xs := (List.range m).map natV) (fun j H' => Same H4 H' ∧ H' gr = some (.lst (((List.range j).filter fun i => Zn.headOf d i == h).map natV))) ⟨Same.new ngr, upd_same⟩ (fun i H' _ p => p.1.seq (V0.seq hl)) ?_ ?_⟩
        · rintro i x J3 hxi ⟨U3, k3⟩
          obtain ⟨him, rfl⟩ := ixs hxi
          refine ⟨rfl, ?_⟩
          refine ⟨_, rfl, _, rfl, D, _, rfl, hget ((Sf.trans S3).trans (S4.trans U3)) him, _, rfl, rfl, _, rfl, ?_⟩
          have ed : decide (natV (Zn.headOf d i) = natV h) = decide (Zn.headOf d i = h) := nat_dec
          rw [ed]
          by_cases c : Zn.headOf d i = h
          · rw [decide_eq_true c]
            refine iteT ⟨_, rfl, ?_⟩
            obtain ⟨acc, g1, g2, g3⟩ := nat_push (n := i) k3 (by have := List.length_filter_le (fun i => Zn.headOf d i == h) (List.range i); rw [List.length_range] at this; omega)
            refine ⟨acc, g1, g2, Same.mut U3 ngr, ?_⟩
            rw [filter_range_succ, if_pos (by simp [c])]
            exact g3
          · rw [decide_eq_false c]
            refine iteF ⟨U3, ?_⟩
            rw [filter_range_succ, if_neg (by simp [c]), List.append_nil]
            exact k3
        rintro J3 ⟨U3, k3⟩
        rw [lenM] at k3
        have k3 : J3 gr = some (.lst ((Zn.group d m h).map natV)) := k3
        have gl := group_len d m h
        have kF3 := hF.mono U3
        refine ⟨_, rfl, gr, _, rfl, .inl (SqL.of k3), _, _, rfl, rfl, _, rfl, ?_⟩
        have rl := rings_len2 d hm hI
        have eS : ((Zn.firsts d m).take (hI + 1)).flatMap (Zn.ringLits d m) = ((Zn.firsts d m).take hI).flatMap (Zn.ringLits d m) ++ Zn.ringLits d m h := by
          rw [take_snoc hh, List.flatMap_append]
          simp
        by_cases q : 1 < (Zn.group d m h).length
        · rw [decide_eq_true (by rw [List.length_map]; omega)]
          refine iteT ?_
          have c1 : cutV ((Zn.group d m h).map natV) (some 1) none = ((Zn.group d m h).drop 1).map natV := by
            have := cut_from (xs := (Zn.group d m h).map natV) (k := 1) (by rw [List.length_map]; omega)
            rw [List.map_drop]
            exact this
          have c2 : cutV ((Zn.group d m h).map natV) none (some 1) = ((Zn.group d m h).take 1).map natV := by
            have := cut_to (xs := (Zn.group d m h).map natV) (k := 1) (by rw [List.length_map]; omega)
            rw [List.map_take]
            exact this
          refine ⟨_, rfl, _, rfl, _, rfl, _, rfl, gr, _, rfl, SqL.of k3, fun a na => ?_⟩
          rw [c1]
          have Sa := Same.new (o := HO.lst (((Zn.group d m h).drop 1).map natV)) na
          refine ⟨_, rfl, _, rfl, gr, _, rfl, SqL.of (Sa _ _ k3), fun a2 na2 => ?_⟩
          rw [c2]
          have Sb := Same.new (o := HO.lst (((Zn.group d m h).take 1).map natV)) na2
          refine ⟨a, a2, _, _, rfl, rfl, Sb.seq (SqL.of upd_same), SqL.of upd_same, sz (by simp; omega), fun a3 na3 => ?_⟩
          have Sc := Same.new (o := HO.lst (((Zn.group d m h).drop 1).map natV ++ ((Zn.group d m h).take 1).map natV)) na3
          have Sabc := (Sa.trans Sb).trans Sc
          have U4 := U3.trans Sabc
          have kg4 := Sabc _ _ k3
          have kF4 := kF3.mono Sabc
          have ka3 := upd_same (H := upd (upd J3 a (.lst (((Zn.group d m h).drop 1).map natV))) a2 (.lst (((Zn.group d m h).take 1).map natV))) (a := a3) (o := HO.lst (((Zn.group d m h).drop 1).map natV ++ ((Zn.group d m h).take 1).map natV))
          generalize upd (upd (upd J3 a (.lst (((Zn.group d m h).drop 1).map natV))) a2 (.lst (((Zn.group d m h).take 1).map natV))) a3 (.lst (((Zn.group d m h).drop 1).map natV ++ ((Zn.group d m h).take 1).map natV)) = J4 at *
          have hys : ((Zn.group d m h).drop 1).map natV ++ ((Zn.group d m h).take 1).map natV = ((Zn.group d m h).drop 1 ++ (Zn.group d m h).take 1).map natV := by rw [List.map_append]
          rw [hys] at ka3
          have hleng : ((Zn.group d m h).drop 1 ++ (Zn.group d m h).take 1).length = (Zn.group d m h).length := by
            rw [List.length_append, List.length_drop, List.length_take]
            omega
          have U14 := S4.trans U4
          have U04 := V0.trans U4
          refine ⟨gr, a3, _, _, rfl, SqL.of kg4, SqL.of ka3, fun D3 nD3 => lc_it (walk_zip (xs := (Zn.group d m h).map natV) (ys := ((Zn.group d m h).drop 1 ++ (Zn.group d m h).take 1).map natV) rfl)
            (fun j H' => Same J4 H' ∧ LitsUp K H' D3 (((Zn.pairs (Zn.group d m h)).take j).map fun p => (p.1, p.2, Zn.num d p.1 p.2))) ⟨Same.new nD3, [], upd_same, LitsZ.nil⟩ (fun i H' _ p => ⟨p.1.seq (SqL.of kg4), p.1.seq (SqL.of ka3)⟩) ?_ ?_⟩
          · rintro i x J5 J6 hi ⟨U5, hU⟩ ⟨T', y1, y2, rfl, nT, rfl, hy1, hy2⟩
            simp only [List.getElem?_map] at hy1 hy2
            obtain ⟨u, hu, rfl⟩ := Option.map_eq_some_iff.mp hy1
            obtain ⟨v, hv, rfl⟩ := Option.map_eq_some_iff.mp hy2
            have hp : (Zn.pairs (Zn.group d m h))[i]? = some (u, v) := by
              unfold Zn.pairs
              rw [List.getElem?_zip_eq_some]
              exact ⟨hu, hv⟩
            obtain ⟨m1, m2⟩ := Zn.mem_pairs (List.mem_of_getElem? hp)
            obtain ⟨um, eu⟩ := Zn.mem_group.mp m1
            obtain ⟨vm, ev⟩ := Zn.mem_group.mp m2
            have t1 := Zn.head_tied C um
            have t2 := Zn.head_tied C vm
            simp only at eu ev
            rw [eu] at t1
            rw [ev] at t2
            obtain ⟨c, hc, _⟩ := Zn.tied_iff.mp (Zn.tied_trans C um hh2 vm t1 (Zn.tied_symm t2))
            have ST := Same.new (o := HO.tup [natV u, natV v]) nT
            obtain ⟨r, q1, q2, q3⟩ := cell (U04.trans (U5.trans ST)) um vm
            refine ⟨T', _, rfl, .inl (.inl upd_same), rfl, _, _, rfl, _, _, rfl, rfl, ?_⟩
            refine ⟨rfl, ?_⟩
            refine ⟨_, rfl, _, rfl, _, rfl, _, rfl, z, _, _, _, rfl, rfl, Same.seqT (U04.trans (U5.trans ST)) hx, q1, _, rfl, r, _, _, _, rfl, rfl, q2, q3, (by show 3 ≤ sizeLine; decide), fun t nt => ?_⟩
            rw [hc]
            have St := Same.new (o := HO.tup [natV u, natV v, optV (some c)]) nt
            have hl : (((Zn.pairs (Zn.group d m h)).take i).map fun p => (p.1, p.2, Zn.num d p.1 p.2)).length ≤ 900 := by
              rw [List.length_map, List.length_take]
              have := pairs_len (Zn.group d m h)
              omega
            obtain ⟨acc, g1, g2, g3⟩ := (hU.mono (ST.trans St)).push (t := t) (q := (u, v, Zn.num d u v)) (by rw [Zn.num_of hc]; exact SqT.of upd_same) hl
            refine ⟨acc, g1, g2, Same.mut ((U5.trans ST).trans St) nD3, ?_⟩
            rw [take_snoc hp, List.map_append]
            exact g3
          · rintro J5 ⟨U5, hU⟩
            have en : (Zn.pairs (Zn.group d m h)).take (min ((Zn.group d m h).map natV).length (((Zn.group d m h).drop 1 ++ (Zn.group d m h).take 1).map natV).length) = Zn.pairs (Zn.group d m h) := by
              refine List.take_of_length_le ?_
              rw [List.length_map, List.length_map, hleng]
              have := pairs_len (Zn.group d m h)
              omega
            rw [en] at hU
            obtain ⟨ts, e1, e2⟩ := kF4.mono U5
            obtain ⟨us, e3, e4⟩ := hU
            have pl := pairs_len (Zn.group d m h)
            refine ⟨fa, D3, _, _, rfl, rfl, SqL.of e1, SqL.of e3, sz (by rw [List.length_map, List.length_map, e2.1, e4.1, List.length_map]; omega), fun p np => ?_⟩
            have Sp := Same.new (o := HO.lst (ts.map V.ref ++ us.map V.ref)) np
            refine ⟨_, _, _, p, rfl, (U14.trans U5).trans Sp, ts ++ us, by rw [upd_same, List.map_append], ?_⟩
            rw [eS, show Zn.ringLits d m h = (Zn.pairs (Zn.group d m h)).map fun p => (p.1, p.2, Zn.num d p.1 p.2) from if_pos q]
            exact (e2.mono Sp).app (e4.mono Sp)
        · rw [decide_eq_false (by rw [List.length_map]; omega)]
          refine iteF ⟨_, _, _, fa, rfl, S4.trans U3, ?_⟩
          rw [eS, show Zn.ringLits d m h = [] from if_neg q, List.append_nil]
          exact kF3
      · rintro σ H4 ⟨v5, v6, v7, fa, rfl, S4, hF⟩
        rw [List.length_map, List.take_length] at hF
        exact ⟨_, _, _, fa, rfl, S4, hF⟩
    rintro σ H4 ⟨v5, v6, v7, fa, rfl, S4, hF⟩
    -- the rest
    refine ⟨_, rfl, g, rfl, ⟨_, SqL.of (S4 _ _ h3)⟩, for_list (xs := (Zn.firsts d m).map natV) (fun u σ H' => ∃ (v7 v8 v9 : Option V) (fa : Addr), σ = [some (.ref z), some (.ref l), some (.ref D), some (.ref fa), some (.ref g), v5, v6, v7, v8, v9] ∧ Same H3 H' ∧ LitsUp K H' fa ((Zn.firsts d m).flatMap (Zn.ringLits d m) ++ ((Zn.firsts d m).take u).flatMap (Zn.restLits d m)))
      ⟨v7, none, none, fa, rfl, S4, by simpa using hF⟩ (fun u σ H' _ p => ?_) ?_ ?_⟩
    · obtain ⟨_, _, _, _, _, S, _⟩ := p
      exact SqL.of (S _ _ h3)
    · rintro u x σ H5 hxu ⟨v7, v8, v9, fa, rfl, S5, hF5⟩
      rw [List.getElem?_map] at hxu
      obtain ⟨i, hiu, rfl⟩ := Option.map_eq_some_iff.mp hxu
      have hi := hFm i (List.mem_of_getElem? hiu)
      have hg5 := S5 _ _ h3
      have V0 := S03.trans S5
      have eS : ((Zn.firsts d m).take (u + 1)).flatMap (Zn.restLits d m) = ((Zn.firsts d m).take u).flatMap (Zn.restLits d m) ++ Zn.restLits d m i := by
        rw [take_snoc hiu, List.flatMap_append]
        simp
      -- others
      refine ⟨_, rfl, g, rfl, ⟨_, SqL.of hg5⟩, fun oo noo => lc_list (xs := (Zn.firsts d m).map natV) (fun j H' => Same H5 H' ∧ H' oo = some (.lst ((((Zn.firsts d m).take j).filter fun j => (d i j).isSome && (i != j)).map natV))) ⟨Same.new noo, upd_same⟩ (fun j H' _ p => p.1.seq (SqL.of hg5)) ?_ ?_⟩
      · rintro jj x H6 hxj ⟨S6, h6⟩
        rw [List.getElem?_map] at hxj
        obtain ⟨j, hjj, rfl⟩ := Option.map_eq_some_iff.mp hxj
        have hj := hFm j (List.mem_of_getElem? hjj)
        obtain ⟨r, q1, q2, q3⟩ := cell (V0.trans S6) hi hj
        refine ⟨rfl, ?_⟩
        refine ⟨_, rfl, _, rfl, z, _, _, _, rfl, rfl, Same.seqT (V0.trans S6) hx, q1, _, rfl, r, _, _, _, rfl, rfl, q2, q3, ?_⟩
        cases hd : d i j with
        | none =>
          refine ⟨rfl, _, rfl, iteF (iteF ⟨S6, ?_⟩)⟩
          rw [take_snoc hjj, List.filter_append]
          simpa [hd] using h6
        | some c =>
          refine ⟨rfl, _, rfl, iteT ⟨_, rfl, _, rfl, rfl, _, rfl, ?_⟩⟩
          have e0 : (!decide (natV i = natV j)) = (!decide (i = j)) := congrArg Bool.not nat_dec
          rw [e0]
          by_cases cij : i = j
          · rw [decide_eq_true cij]
            refine iteF ⟨S6, ?_⟩
            rw [take_snoc hjj, List.filter_append]
            simpa [cij] using h6
          · rw [decide_eq_false cij]
            refine iteT ⟨_, rfl, ?_⟩
            obtain ⟨acc, g1, g2, g3⟩ := nat_push (n := j) h6 (by have := List.length_filter_le (fun j => (d i j).isSome && (i != j)) ((Zn.firsts d m).take jj); rw [List.length_take] at this; omega)
            refine ⟨acc, g1, g2, Same.mut S6 noo, ?_⟩
            rw [take_snoc hjj, List.filter_append]
            simpa [hd, cij] using g3
      rintro H6 ⟨S6, h6⟩
      rw [List.length_map, List.take_length] at h6
      have hOm : ∀ j ∈ (Zn.firsts d m).filter fun j => (d i j).isSome && (i != j), j < m ∧ ∃ c, d i j = some c := fun j hj => by
        obtain ⟨h1, h2⟩ := List.mem_filter.mp hj
        refine ⟨hFm j h1, ?_⟩
        cases hd : d i j with
        | none => rw [hd] at h2; simp at h2
        | some c => exact ⟨c, rfl⟩
      have r2 := rest_len d m i
      rw [rest_two] at eS r2
      generalize hG : (Zn.firsts d m).filter (fun j => (d i j).isSome && (i != j)) = G at h6 hOm eS r2
      have GL : G.length ≤ m := by
        rw [← hG]
        exact Nat.le_trans (List.length_filter_le _ _) FL
      refine ⟨_, rfl, _, rfl, oo, rfl, ⟨_, SqL.of h6⟩, fun D3 nD3 => lc_list (xs := G.map natV) (fun j H' => Same H6 H' ∧ LitsUp K H' D3 (((G.take j).filter fun j => Zn.needed d (Zn.firsts d m) i j).map fun j => (i, j, Zn.num d i j))) ⟨Same.new nD3, [], upd_same, LitsZ.nil⟩ (fun j H' _ p => p.1.seq (SqL.of h6)) ?_ ?_⟩
      · rintro jj x H7 hxj ⟨S7, hU⟩
        rw [List.getElem?_map] at hxj
        obtain ⟨j, hjj, rfl⟩ := Option.map_eq_some_iff.mp hxj
        obtain ⟨hj, c, hc⟩ := hOm j (List.mem_of_getElem? hjj)
        have ll : (((G.take jj).filter fun j => Zn.needed d (Zn.firsts d m) i j).map fun j => (i, j, Zn.num d i j)).length ≤ 900 := by
          rw [List.length_map]
          have h1 := List.length_filter_le (fun j => Zn.needed d (Zn.firsts d m) i j) (G.take jj)
          rw [List.length_take] at h1
          omega
        have V7 := (V0.trans S6).trans S7
        refine ⟨rfl, ?_⟩
        refine ⟨_, rfl, _, rfl, _, rfl, _, rfl, z, g, m, i, j, d, Zn.firsts d m, c, rfl, hz.mono V7, hi, hj, hc, SqL.of ((S6.trans S7) _ _ hg5), hFm, fun H8 S8 => ?_⟩
        refine ⟨_, rfl, ?_⟩
        cases cn : Zn.needed d (Zn.firsts d m) i j with
        | false =>
          refine iteF ⟨S7.trans S8, ?_⟩
          rw [take_snoc hjj, List.filter_append]
          simpa [cn] using hU.mono S8
        | true =>
          obtain ⟨r, q1, q2, q3⟩ := cell (V7.trans S8) hi hj
          refine iteT ⟨_, rfl, _, rfl, _, rfl, _, rfl, z, _, _, _, rfl, rfl, Same.seqT (V7.trans S8) hx, q1, _, rfl, r, _, _, _, rfl, rfl, q2, q3, (by show 3 ≤ sizeLine; decide), fun t nt => ?_⟩
          rw [hc]
          have St := Same.new (o := HO.tup [natV i, natV j, optV (some c)]) nt
          obtain ⟨acc, g1, g2, g3⟩ := (hU.mono (S8.trans St)).push (t := t) (q := (i, j, Zn.num d i j)) (by rw [Zn.num_of hc]; exact SqT.of upd_same) ll
          refine ⟨acc, g1, g2, Same.mut ((S7.trans S8).trans St) nD3, ?_⟩
          rw [take_snoc hjj, List.filter_append]
          simpa [cn] using g3
      · rintro H7 ⟨S7, hU⟩
        rw [List.length_map, List.take_length] at hU
        obtain ⟨ts, e1, e2⟩ := hF5.mono (S6.trans S7)
        obtain ⟨us, e3, e4⟩ := hU
        have r1 := rests_len d hm u
        have r0 := rings_len2 d hm (Zn.firsts d m).length
        rw [List.take_length] at r0
        have e4' := e4.1
        refine ⟨fa, D3, _, _, rfl, rfl, SqL.of e1, SqL.of e3, sz (by rw [List.length_map, List.length_map, e2.1, e4', List.length_append]; omega), fun p np => ?_⟩
        have Sp := Same.new (o := HO.lst (ts.map V.ref ++ us.map V.ref)) np
        refine ⟨_, _, _, p, rfl, ((S5.trans S6).trans S7).trans Sp, ts ++ us, by rw [upd_same, List.map_append], ?_⟩
        rw [eS, ← List.append_assoc]
        exact (e2.mono Sp).app (e4.mono Sp)
    · rintro σ H5 ⟨v7, v8, v9, fa, rfl, S5, hF5⟩
      rw [List.length_map, List.take_length] at hF5
      obtain ⟨ts, e1, e2⟩ := hF5
      refine ⟨_, rfl, fa, _, rfl, .inl ⟨SqL.of e1, fun p np => ?_⟩⟩
      have Sp := Same.new (o := HO.tup (ts.map V.ref)) np
      refine k p ts _ ((S03.trans S5).trans Sp) (SqT.of upd_same) ?_
      unfold Zn.lits
      rw [rings_firsts C]
      exact e2.mono Sp
def spLitsOf (K : PySem.W.Frag) : Sp := fun vs H Q _ => ∃ (z : Addr) (m : Nat) (d : Zn.Z), vs = [.ref z] ∧ IsZ K H z m d ∧ Zn.Closed m d ∧ m ≤ 20 ∧ ∀ p ts H', Same H H' → SqT K H' p (ts.map V.ref) → LitsZ K H' ts (Zn.lits d m) → Q (.ref p) H'
theorem ok_literals_of {f : Addr} {fd : FuncData} (F : C8.Def K mg "literals_of" s_literals_of f fd) (b : Binds K fd ["zone"] []) (T : Txt K mg CC CS aB) (K_literals_among : C8.Cal P w K mg base 2 "literals_among" (spAmong K) []) :
    C8.Cal P w K mg base 3 "literals_of" (spLitsOf K) [] := by
  refine C8.cal0 F b .nil sc_literals_of (fun vs H Q E h => ?_) (fun cdv A outer s H vs Q E hr h => ?_)
  · obtain ⟨z, m, d, rfl, _⟩ := h
    rfl
  · obtain ⟨z, m, d, rfl, hz, C, hm, k⟩ := h
    obtain ⟨xs, hx, hxl, hrow⟩ := hz.row
    refine ⟨_, (pss_one (ps_ret (C8.pe_c K_literals_among hr (by decide) (by rfl) (pa_cons (pv 0) (pa_cons (pe_listRg rfl (by rfl) T.z_list (prg_1 (by rfl) T.z_range (pe_callB call_len_seq (by rfl) T.z_len (by decide +kernel) (pa_cons (pv 0) pa_nil)))) pa_nil))))), ?_⟩
    refine ⟨_, rfl, _, rfl, z, _, rfl, .inr hx, _, rfl, RgOk.of_le (by omega) (by omega) (by omega) (by omega), fun q nq => ?_⟩
    have Sq := Same.new (o := HO.lst (rgV 0 ((xs.length : Nat) : Int))) nq
    have e : rgV 0 ((xs.length : Nat) : Int) = (List.range m).map natV := by
      unfold rgV
      rw [show (((xs.length : Nat) : Int) - 0).toNat = m by omega]
      refine List.map_congr_left fun i _ => ?_
      show V.int (0 + (i : Int)) = V.int (i : Int)
      rw [Int.zero_add]
    refine ⟨z, q, m, d, rfl, hz.mono Sq, ?_, C, hm, fun p ts H' S => k p ts H' (Sq.trans S)⟩
    rw [← e]
    exact SqL.of upd_same
end
end K18

namespace K18
open PySem L2 Bx
section
variable {P : Program} {w : World} {K : PySem.W.Frag} {mg : Str → Option Value} {base : Heap} {CC CS aB : Addr}
/-- the integers of a state, the 0 at their front -/
def numsV (x : Nat → Int) (m : Nat) : List V := (List.range m).map fun i => .int (x i)
theorem numsV_at {x : Nat → Int} {m i : Nat} (h : i < m) : (numsV x m)[i]? = some (.int (x i)) := by
  unfold numsV
  rw [List.getElem?_map, List.getElem?_range h]
  rfl
theorem numsV_len (x : Nat → Int) (m : Nat) : (numsV x m).length = m := by
  unfold numsV
  rw [List.length_map, List.length_range]
def spPoint (K : PySem.W.Frag) : Sp := fun vs H Q _ => ∃ (z : Addr) (m : Nat) (d : Zn.Z), vs = [.ref z] ∧ IsZ K H z (m + 1) d ∧ m ≤ 900 ∧ ∀ p H', Same H H' → H p = none → H' p = some (.lst (numsV (Zn.pt d m) (m + 1))) → Q (.ref p) H'
theorem ok_point_of {f : Addr} {fd : FuncData} (F : C8.Def K mg "point_of" s_point_of f fd) (b : Binds K fd ["zone"] []) (T : Txt K mg CC CS aB) : C8.Cal P w K mg base 1 "point_of" (spPoint K) [] := by
  refine C8.cal0 F b .nil sc_point_of (fun vs H Q E h => ?_) (fun cdv A outer s H vs Q E hr h => ?_)
  · obtain ⟨z, m, d, rfl, _⟩ := h
    rfl
  · obtain ⟨z, m, d, rfl, hz, hm, k⟩ := h
    obtain ⟨xs, hx, hxl, hrow⟩ := hz.row
    refine ⟨_, (pss_cons (ps_set (i := 1) sc_point_of.nd rfl (Or.inl rfl) (pe_lst (pa_cons pe_int pa_nil)))
    (pss_cons (ps_for PassesOwn.never rfl (pi_range2 (by rfl) T.z_range (pa_cons pe_int (pa_cons (pe_callB call_len_seq (by rfl) T.z_len (by decide +kernel) (pa_cons (pv 0) pa_nil)) pa_nil))) (pg_name (i := 2) sc_point_of.nd rfl (Or.inl rfl))
    (pss_cons (ps_set (i := 3) sc_point_of.nd rfl (Or.inl rfl) pe_non)
    (pss_cons (ps_set (i := 4) sc_point_of.nd rfl (Or.inl rfl) pe_non)
    (pss_cons (ps_for PassesOwn.never rfl (pi_enum (by rfl) T.z_enumerate (pa_cons (pv 1) pa_nil)) (pg_tup (by rfl) (pgs_cons (pg_name (i := 5) sc_point_of.nd rfl (Or.inl rfl)) (pgs_cons (pg_name (i := 6) sc_point_of.nd rfl (Or.inl rfl)) pgs_nil)))
    (C8.pss_cut (ps_if (PW.pt (pw_and (pt_cmpR op_notN (pe_ix ix_tup (pe_ix ix_tup (pv 0) (pv 2) (fun _ _ => rfl)) (pv 5) (fun _ _ => rfl)) pe_non (nomark _)) (pw_and1 (PW.pt (pw_or (pt_cmpR op_isN (pv 4) pe_non (nomark _)) (pw_or1 (pt_cmpR op_lt (pe_op op_add (pv 6) (pe_ix ix_tup (pe_ix ix_tup (pv 0) (pv 2) (fun _ _ => rfl)) (pv 5) (fun _ _ => rfl))) (pv 4) (nomark _)))))))) (pss_one (ps_set (i := 4) sc_point_of.nd rfl (Or.inl rfl) (pe_op op_add (pv 6) (pe_ix ix_tup (pe_ix ix_tup (pv 0) (pv 2) (fun _ _ => rfl)) (pv 5) (fun _ _ => rfl))))) pss_nil)
    (pss_one (ps_if (PW.pt (pw_and (pt_cmpR op_notN (pe_ix ix_tup (pe_ix ix_tup (pv 0) (pv 5) (fun _ _ => rfl)) (pv 2) (fun _ _ => rfl)) pe_non (nomark _)) (pw_and1 (PW.pt (pw_or (pt_cmpR op_isN (pv 3) pe_non (nomark _)) (pw_or1 (pt_cmpR op_gt (pe_op op_sub (pv 6) (pe_ix ix_tup (pe_ix ix_tup (pv 0) (pv 5) (fun _ _ => rfl)) (pv 2) (fun _ _ => rfl))) (pv 3) (nomark _)))))))) (pss_one (ps_set (i := 3) sc_point_of.nd rfl (Or.inl rfl) (pe_op op_sub (pv 6) (pe_ix ix_tup (pe_ix ix_tup (pv 0) (pv 5) (fun _ _ => rfl)) (pv 2) (fun _ _ => rfl))))) pss_nil))))
    (C8.pss_cut (ps_if (pt_cmpR op_isN (pv 3) pe_non (nomark _)) (pss_one (ps_set (i := 3) sc_point_of.nd rfl (Or.inl rfl) (pe_ifExp (pt_cmpR op_isN (pv 4) pe_non (nomark _)) pe_int (pv 4)))) pss_nil)
    (pss_one (ps_expr (pe_bm PySem.F.plainAttrs_list PySem.F.slot_list_append PySem.F.type_list_append mt_append (pv 1) (pa_cons (pv 3) pa_nil)))))))))
    (pss_one (ps_ret (pv 1))))), ?_⟩
    refine ⟨sz (by simp), fun p np => ?_⟩
    have Sp := Same.new (o := HO.lst [V.int 0]) np
    refine ⟨_, rfl, z, _, rfl, .inr (Same.seqT Sp hx), _, _, rfl, ⟨by omega, by omega, by omega, by omega⟩, ?_⟩
    refine for_range (lo := 1) (n := (((xs.length : Nat) : Int) - 1).toNat) (fun i σ H' => ∃ (v2 v3 v4 v5 v6 : Option V), σ = [some (.ref z), some (.ref p), v2, v3, v4, v5, v6] ∧ Same H H' ∧ H' p = some (.lst (numsV (Zn.pt d i) (i + 1)))) ⟨none, none, none, none, none, rfl, Sp, by rw [upd_same]; rfl⟩ ?_ ?_
    · rintro i σ H1 hi ⟨v2, v3, v4, v5, v6, rfl, S1, hp⟩
      have hi2 : i + 1 < m + 1 := by omega
      obtain ⟨r, hr1, hr2⟩ := hrow (i + 1) hi2
      refine ⟨_, rfl, p, _, rfl, SqL.of hp, for_enumL (xs := numsV (Zn.pt d i) (i + 1)) (fun j σ H' => ∃ (v5 v6 : Option V), σ = [some (.ref z), some (.ref p), some (.int (1 + (i : Int))), some (optV ((List.range j).foldl (Zn.stepL d (Zn.pt d i) (i + 1)) none)), some (optV ((List.range j).foldl (Zn.stepM d (Zn.pt d i) (i + 1)) none)), v5, v6] ∧ Same H1 H') ⟨v5, v6, rfl, Same.refl H1⟩ (fun j σ H' q => ?_) ?_ ?_⟩
      · obtain ⟨_, _, _, S⟩ := q
        exact SqL.of (S _ _ hp)
      · rintro j x q σ H2 hxj ⟨v5, v6, rfl, S2⟩ nq
        have hj : j < i + 1 := by
          have := (List.getElem?_eq_some_iff.mp hxj).1
          rw [numsV_len] at this
          exact this
        rw [numsV_at hj] at hxj
        cases hxj
        have S3 := S2.trans (Same.new (o := HO.tup [.int (j : Nat), .int (Zn.pt d i j)]) nq)
        refine ⟨q, _, rfl, .inl (.inl upd_same), rfl, _, _, rfl, _, _, rfl, rfl, ?_⟩
        generalize upd H2 q (.tup [.int (j : Nat), .int (Zn.pt d i j)]) = H3 at S3 ⊢
        have hx3 := Same.seqT (S1.trans S3) hx
        have hr3 := Same.seqT (S1.trans S3) hr2
        obtain ⟨t, ht1, ht2⟩ := hrow j (by omega)
        have ht3 := Same.seqT (S1.trans S3) ht2
        have ai : atI xs (1 + (i : Int)) = some (.ref r) := by
          rw [show (1 : Int) + (i : Int) = ((i + 1 : Nat) : Int) by omega]
          exact atI_nat hr1
        have aij : atI (rowV d (m + 1) (i + 1)) ((j : Nat) : Int) = some (optV (d (i + 1) j)) := atI_nat (rowV_at (by omega))
        have aji : atI (rowV d (m + 1) j) (1 + (i : Int)) = some (optV (d j (i + 1))) := by
          rw [show (1 : Int) + (i : Int) = ((i + 1 : Nat) : Int) by omega]
          exact atI_nat (rowV_at hi2)
        have eL : (List.range (j + 1)).foldl (Zn.stepL d (Zn.pt d i) (i + 1)) none = Zn.stepL d (Zn.pt d i) (i + 1) ((List.range j).foldl (Zn.stepL d (Zn.pt d i) (i + 1)) none) j := by
          rw [List.range_succ, List.foldl_append]
          rfl
        have eM : (List.range (j + 1)).foldl (Zn.stepM d (Zn.pt d i) (i + 1)) none = Zn.stepM d (Zn.pt d i) (i + 1) ((List.range j).foldl (Zn.stepM d (Zn.pt d i) (i + 1)) none) j := by
          rw [List.range_succ, List.foldl_append]
          rfl
        rw [eL, eM]
        generalize (List.range j).foldl (Zn.stepL d (Zn.pt d i) (i + 1)) none = oL
        generalize (List.range j).foldl (Zn.stepM d (Zn.pt d i) (i + 1)) none = oM
        refine ⟨fun σ' H' => σ' = [some (.ref z), some (.ref p), some (.int (1 + (i : Int))), some (optV oL), some (optV (Zn.stepM d (Zn.pt d i) (i + 1) oM j)), some (.int (j : Nat)), some (.int (Zn.pt d i j))] ∧ H' = H3, ?_, ?_⟩
        · refine ⟨_, rfl, _, rfl, z, _, _, _, rfl, rfl, hx3, ai, _, rfl, r, _, _, _, rfl, rfl, hr3, aij, ?_⟩
          unfold Zn.stepM
          cases hd : d (i + 1) j with
          | none => exact ⟨rfl, _, rfl, iteF (iteF ⟨rfl, rfl⟩)⟩
          | some c =>
            refine ⟨rfl, _, rfl, iteT ?_⟩
            cases oM with
            | none => exact ⟨_, rfl, rfl, _, rfl, iteT (iteT ⟨_, rfl, _, rfl, _, rfl, z, _, _, _, rfl, rfl, hx3, ai, _, rfl, r, _, _, _, rfl, rfl, hr3, aij, _, c, rfl, by rw [hd]; rfl, rfl, rfl⟩)⟩
            | some v =>
              refine ⟨_, rfl, rfl, _, rfl, iteF ⟨_, rfl, _, rfl, _, rfl, z, _, _, _, rfl, rfl, hx3, ai, _, rfl, r, _, _, _, rfl, rfl, hr3, aij, _, c, rfl, by rw [hd]; rfl, _, rfl, _, _, rfl, rfl, _, rfl, ?_⟩⟩
              by_cases q : Zn.pt d i j + c < v
              · simp only [q, decide_true, if_true]
                exact ⟨_, rfl, _, rfl, _, rfl, z, _, _, _, rfl, rfl, hx3, ai, _, rfl, r, _, _, _, rfl, rfl, hr3, aij, _, c, rfl, by rw [hd]; rfl, rfl, rfl⟩
              · rw [decide_eq_false q]
                simp only [q, if_false]
                exact ⟨rfl, rfl⟩
        · rintro σ' H' ⟨rfl, rfl⟩
          refine ⟨_, rfl, _, rfl, z, _, _, _, rfl, rfl, hx3, atI_nat ht1, _, rfl, t, _, _, _, rfl, rfl, ht3, aji, ?_⟩
          unfold Zn.stepL
          cases hd : d j (i + 1) with
          | none => exact ⟨rfl, _, rfl, iteF (iteF ⟨_, _, rfl, S3⟩)⟩
          | some c =>
            refine ⟨rfl, _, rfl, iteT ?_⟩
            cases oL with
            | none => exact ⟨_, rfl, rfl, _, rfl, iteT (iteT ⟨_, rfl, _, rfl, _, rfl, z, _, _, _, rfl, rfl, hx3, atI_nat ht1, _, rfl, t, _, _, _, rfl, rfl, ht3, aji, _, c, rfl, by rw [hd]; rfl, _, _, rfl, S3⟩)⟩
            | some v =>
              refine ⟨_, rfl, rfl, _, rfl, iteF ⟨_, rfl, _, rfl, _, rfl, z, _, _, _, rfl, rfl, hx3, atI_nat ht1, _, rfl, t, _, _, _, rfl, rfl, ht3, aji, _, c, rfl, by rw [hd]; rfl, _, rfl, _, _, rfl, rfl, _, rfl, ?_⟩⟩
              by_cases q : v < Zn.pt d i j - c
              · simp only [q, decide_true, if_true]
                exact ⟨_, rfl, _, rfl, _, rfl, z, _, _, _, rfl, rfl, hx3, atI_nat ht1, _, rfl, t, _, _, _, rfl, rfl, ht3, aji, _, c, rfl, by rw [hd]; rfl, _, _, rfl, S3⟩
              · rw [decide_eq_false q]
                simp only [q, if_false]
                exact ⟨_, _, rfl, S3⟩
      · rintro σ H2 ⟨v5, v6, rfl, S2⟩
        rw [numsV_len]
        have hp2 := S2 _ _ hp
        refine ⟨fun σ' H' => σ'[1]? = some (some (.ref p)) ∧ σ'[3]? = some (some (.int (Zn.val d (Zn.pt d i) (i + 1) (List.range (i + 1))))) ∧ (∃ w4, σ' = [some (.ref z), some (.ref p), some (.int (1 + (i : Int))), some (.int (Zn.val d (Zn.pt d i) (i + 1) (List.range (i + 1)))), w4, v5, v6]) ∧ H' = H2, ?_, ?_⟩
        · unfold Zn.val
          cases hL : (List.range (i + 1)).foldl (Zn.stepL d (Zn.pt d i) (i + 1)) none with
          | some v => exact ⟨_, rfl, rfl, _, rfl, iteF ⟨rfl, rfl, ⟨_, rfl⟩, rfl⟩⟩
          | none =>
            refine ⟨_, rfl, rfl, _, rfl, iteT ?_⟩
            cases hM : (List.range (i + 1)).foldl (Zn.stepM d (Zn.pt d i) (i + 1)) none with
            | none => exact ⟨_, rfl, rfl, _, rfl, iteT ⟨rfl, rfl, ⟨_, rfl⟩, rfl⟩⟩
            | some v => exact ⟨_, rfl, rfl, _, rfl, iteF ⟨_, rfl, rfl, rfl, ⟨_, rfl⟩, rfl⟩⟩
        · rintro σ' H' ⟨_, _, ⟨w4, rfl⟩, rfl⟩
          refine ⟨_, rfl, .inl ⟨rfl, _, SqL.of hp2⟩, _, rfl, p, _, _, rfl, rfl, hp2, szs (by rw [numsV_len]; omega), ?_⟩
          refine ⟨_, _, _, _, _, rfl, Same.mut (S1.trans S2) np, ?_⟩
          rw [upd_same]
          have e : numsV (Zn.pt d i) (i + 1) ++ [V.int (Zn.val d (Zn.pt d i) (i + 1) (List.range (i + 1)))] = numsV (Zn.pt d (i + 1)) (i + 1 + 1) := by
            unfold numsV
            rw [List.range_succ (n := i + 1), List.map_append]
            congr 1
            · refine List.map_congr_left fun u hu => ?_
              have := List.mem_range.mp hu
              rw [Zn.pt_keep d i u (by omega) 1]
            · show _ = [V.int (Zn.upd (Zn.pt d i) (i + 1) _ (i + 1))]
              unfold Zn.upd
              rw [if_pos rfl]
          rw [e]
    · rintro σ H1 ⟨v2, v3, v4, v5, v6, rfl, S1, hp⟩
      rw [show (((xs.length : Nat) : Int) - 1).toNat = m by omega] at hp
      exact ⟨_, rfl, k p H1 S1 np hp⟩
end
end K18

namespace K18
open PySem L2 Bx
section
variable {P : Program} {w : World} {K : PySem.W.Frag} {mg : Str → Option Value} {base : Heap} {CC CS aB : Addr}
def spHasPoint (K : PySem.W.Frag) : Sp := fun vs H Q _ => ∃ (z l : Addr) (m : Nat) (d : Zn.Z) (x : Nat → Int), vs = [.ref z, .ref l] ∧ IsZ K H z m d ∧ SqL K H l (numsV x m) ∧ ∀ (b : Bool) H', Same H H' → (b = true ↔ Zn.Sat m d x) → Q (.bl b) H'
theorem ok_has_point {f : Addr} {fd : FuncData} (F : C8.Def K mg "has_point" s_has_point f fd) (b : Binds K fd ["zone", "numbers"] []) (T : Txt K mg CC CS aB) : C8.Cal P w K mg base 1 "has_point" (spHasPoint K) [] := by
  refine C8.cal0 F b .nil sc_has_point (fun vs H Q E h => ?_) (fun cdv A outer s H vs Q E hr h => ?_)
  · obtain ⟨z, l, m, d, x, rfl, _⟩ := h
    rfl
  · obtain ⟨z, l, m, d, x, rfl, hz, hl, k⟩ := h
    obtain ⟨xs, hx, hxl, hrow⟩ := hz.row
    refine ⟨_, (pss_cons (ps_for PassesOwn.never rfl (Zm.pi_zipM (by rfl) T.z_zip (pa_cons (pv 0) (pa_cons (pv 1) pa_nil))) (pg_tup (by rfl) (pgs_cons (pg_name (i := 2) sc_has_point.nd rfl (Or.inl rfl)) (pgs_cons (pg_name (i := 3) sc_has_point.nd rfl (Or.inl rfl)) pgs_nil)))
    (pss_one (ps_for PassesOwn.never rfl (Zm.pi_zipM (by rfl) T.z_zip (pa_cons (pv 2) (pa_cons (pv 1) pa_nil))) (pg_tup (by rfl) (pgs_cons (pg_name (i := 4) sc_has_point.nd rfl (Or.inl rfl)) (pgs_cons (pg_name (i := 5) sc_has_point.nd rfl (Or.inl rfl)) pgs_nil)))
    (pss_one (ps_if (PW.pt (pw_and (pt_cmpR op_notN (pv 4) pe_non (nomark _)) (pw_and1 (pt_cmpR op_gt (pe_op op_sub (pv 3) (pv 5)) (pv 4) (nomark _))))) (pss_one (ps_ret pe_bl)) pss_nil)))))
    (pss_one (ps_ret pe_bl))), ?_⟩
    refine ⟨_, rfl, _, rfl, z, l, _, _, rfl, hx, hl, Zm.for_zipM (xs := xs) (ys := numsV x m) (by rw [numsV_len]; exact hxl) (fun i σ H' => ∃ v2 v3 v4 v5, σ = [some (.ref z), some (.ref l), v2, v3, v4, v5] ∧ Same H H' ∧ ∀ u v c, u < i → v < m → d u v = some c → x u ≤ x v + c) ⟨none, none, none, none, rfl, Same.refl H, fun u v c hu => absurd hu (Nat.not_lt_zero u)⟩ (fun i σ H' h => ?_) ?_ ?_⟩
    · obtain ⟨_, _, _, _, _, S, _⟩ := h
      exact ⟨Same.seqT S hx, S.seq hl⟩
    · rintro i y1 y2 T' σ H1 h1 h2 ⟨v2, v3, v4, v5, rfl, S1, hin⟩ nT
      have hi : i < m := by
        rw [← hxl]
        exact (List.getElem?_eq_some_iff.mp h1).1
      obtain ⟨r, hr1, hr2⟩ := hrow i hi
      rw [h1] at hr1
      cases hr1
      rw [numsV_at hi] at h2
      cases h2
      have ST := S1.trans (Same.new (o := HO.tup [V.ref r, V.int (x i)]) nT)
      refine ⟨T', _, rfl, .inl (.inl upd_same), rfl, _, _, rfl, _, _, rfl, rfl, ?_⟩
      refine ⟨_, rfl, _, rfl, r, l, _, _, rfl, Same.seqT ST hr2, ST.seq hl, Zm.for_zipM (xs := rowV d m i) (ys := numsV x m) (by rw [rowV_len, numsV_len]) (fun j σ H' => ∃ v4 v5, σ = [some (.ref z), some (.ref l), some (.ref r), some (.int (x i)), v4, v5] ∧ Same H H' ∧ ∀ v c, v < j → d i v = some c → x i ≤ x v + c) ⟨v4, v5, rfl, ST, fun v c hv => absurd hv (Nat.not_lt_zero v)⟩ (fun j σ H' h => ?_) ?_ ?_⟩
      · obtain ⟨_, _, _, S, _⟩ := h
        exact ⟨Same.seqT S hr2, S.seq hl⟩
      · rintro j y1 y2 T2 σ H2 h1 h2 ⟨v4, v5, rfl, S2, hin2⟩ nT2
        have hj : j < m := by
          have := (List.getElem?_eq_some_iff.mp h1).1
          rw [rowV_len] at this
          exact this
        rw [rowV_at hj] at h1
        rw [numsV_at hj] at h2
        cases h1
        cases h2
        have S3 := S2.trans (Same.new (o := HO.tup [optV (d i j), V.int (x j)]) nT2)
        refine ⟨T2, _, rfl, .inl (.inl upd_same), rfl, _, _, rfl, _, _, rfl, rfl, ?_⟩
        generalize upd H2 T2 (.tup [optV (d i j), V.int (x j)]) = H3 at S3 ⊢
        have fin : (∀ c, d i j = some c → x i ≤ x j + c) → ∀ v c, v < j + 1 → d i v = some c → x i ≤ x v + c := fun h v c hv hc => by
          by_cases q : v = j
          · subst q
            exact h c hc
          · exact hin2 v c (by omega) hc
        cases hd : d i j with
        | none =>
          refine ⟨_, rfl, rfl, _, rfl, iteF (iteF ?_)⟩
          exact ⟨_, _, rfl, S3, fin fun c hc => by rw [hd] at hc; cases hc⟩
        | some c =>
          refine ⟨_, rfl, rfl, _, rfl, iteT ⟨_, rfl, _, rfl, _, _, rfl, rfl, _, rfl, _, _, rfl, rfl, _, rfl, ?_⟩⟩
          by_cases q : c < x i - x j
          · rw [decide_eq_true q]
            refine iteT (k false H3 S3 ⟨fun y => (by cases y), fun S => ?_⟩)
            have := S i j c hi hj hd
            omega
          · rw [decide_eq_false q]
            exact iteF ⟨_, _, rfl, S3, fin fun c' hc => by rw [hd] at hc; cases hc; omega⟩
      · rintro σ H2 ⟨v4, v5, rfl, S2, hin2⟩
        rw [rowV_len] at hin2
        refine ⟨_, _, _, _, rfl, S2, fun u v c hu hv hc => ?_⟩
        by_cases q : u = i
        · subst q
          exact hin2 v c hv hc
        · exact hin u v c (by omega) hv hc
    · rintro σ H1 ⟨v2, v3, v4, v5, rfl, S1, hin⟩
      rw [hxl] at hin
      exact k true H1 S1 ⟨fun _ u v c hu hv hc => hin u v c hu hv hc, fun _ => rfl⟩
end
end K18

namespace K18
open PySem L2 Bx
theorem szL {n : Nat} (h : n ≤ 1000000) : n ≤ sizeLine := Nat.le_trans h (by decide)
theorem szLs {n : Nat} (h : n ≤ 1000000) : n < sizeLine := Nat.lt_of_le_of_lt h (by decide)
mutual
/-- a group at g: its literals and its groups -/
def IsG (K : PySem.W.Frag) (H : Hp) (g : Addr) : Zg.G → Prop
  | .mk ls gs => ∃ (a c : Addr) (ts us : List Addr), SqT K H g [.ref a, .ref c] ∧ SqT K H a (ts.map V.ref) ∧ LitsZ K H ts ls ∧ SqT K H c (us.map V.ref) ∧ IsGs K H us gs
def IsGs (K : PySem.W.Frag) (H : Hp) : List Addr → List Zg.G → Prop
  | [], [] => True
  | u :: us, g :: gs => IsG K H u g ∧ IsGs K H us gs
  | [], _ :: _ => False
  | _ :: _, [] => False
end
section
variable {K : PySem.W.Frag}
mutual
theorem IsG.mono {H H' : Hp} (e : Same H H') : ∀ {g : Addr} {G : Zg.G}, IsG K H g G → IsG K H' g G
  | g, .mk ls gs, h => by
    obtain ⟨a, c, ts, us, h1, h2, h3, h4, h5⟩ := h
    exact ⟨a, c, ts, us, Same.seqT e h1, Same.seqT e h2, h3.mono e, Same.seqT e h4, IsGs.mono e h5⟩
theorem IsGs.mono {H H' : Hp} (e : Same H H') : ∀ {us : List Addr} {gs : List Zg.G}, IsGs K H us gs → IsGs K H' us gs
  | [], [], _ => trivial
  | u :: us, g :: gs, h => ⟨IsG.mono e h.1, IsGs.mono e h.2⟩
  | [], _ :: _, h => h.elim
  | _ :: _, [], h => h.elim
end
mutual
theorem IsG.but {l : Addr} {H H' : Hp} {xs : List V} (hl : H l = some (.lst xs)) (e : But l H H') : ∀ {g : Addr} {G : Zg.G}, IsG K H g G → IsG K H' g G
  | g, .mk ls gs, h => by
    obtain ⟨a, c, ts, us, h1, h2, h3, h4, h5⟩ := h
    exact ⟨a, c, ts, us, butT hl e h1, butT hl e h2, h3.but hl e, butT hl e h4, IsGs.but hl e h5⟩
theorem IsGs.but {l : Addr} {H H' : Hp} {xs : List V} (hl : H l = some (.lst xs)) (e : But l H H') : ∀ {us : List Addr} {gs : List Zg.G}, IsGs K H us gs → IsGs K H' us gs
  | [], [], _ => trivial
  | u :: us, g :: gs, h => ⟨IsG.but hl e h.1, IsGs.but hl e h.2⟩
  | [], _ :: _, h => h.elim
  | _ :: _, [], h => h.elim
end
theorem IsGs.len {H : Hp} : ∀ {us : List Addr} {gs : List Zg.G}, IsGs K H us gs → us.length = gs.length
  | [], [], _ => rfl
  | u :: us, g :: gs, h => by rw [List.length_cons, List.length_cons, IsGs.len h.2]
  | [], _ :: _, h => h.elim
  | _ :: _, [], h => h.elim
theorem IsGs.at_ {H : Hp} : ∀ {us : List Addr} {gs : List Zg.G} {j : Nat} {u : Addr}, IsGs K H us gs → us[j]? = some u → ∃ g, gs[j]? = some g ∧ IsG K H u g
  | u :: us, g :: gs, 0, v, h, e => by cases e; exact ⟨g, rfl, h.1⟩
  | u :: us, g :: gs, j + 1, v, h, e => IsGs.at_ (j := j) h.2 e
  | [], _ :: _, _, _, h, _ => h.elim
  | _ :: _, [], _, _, h, _ => h.elim
  | [], [], _, _, _, e => by cases e
theorem IsGs.app {H : Hp} : ∀ {us vs : List Addr} {gs hs : List Zg.G}, IsGs K H us gs → IsGs K H vs hs → IsGs K H (us ++ vs) (gs ++ hs)
  | [], vs, [], hs, _, h => h
  | u :: us, vs, g :: gs, hs, h, k => ⟨h.1, IsGs.app h.2 k⟩
  | [], _, _ :: _, _, h, _ => h.elim
  | _ :: _, _, [], _, h, _ => h.elim
theorem IsGs.snoc {H : Hp} {us : List Addr} {gs : List Zg.G} {u : Addr} {g : Zg.G} (h : IsGs K H us gs) (k : IsG K H u g) : IsGs K H (us ++ [u]) (gs ++ [g]) := IsGs.app h ⟨k, trivial⟩
theorem LitsZ.snoc {H : Hp} {ts : List Addr} {qs : List Zn.Lit} {t : Addr} {q : Zn.Lit} (h : LitsZ K H ts qs) (k : LitZ K H t q) : LitsZ K H (ts ++ [t]) (qs ++ [q]) := h.app ⟨rfl, fun j q' hj => by
  cases j with
  | zero =>
    cases hj
    exact ⟨t, rfl, k⟩
  | succ j => cases hj⟩
/-- a zone, or none -/
def ZV (K : PySem.W.Frag) (H : Hp) (m : Nat) (v : V) : Option Zn.Z → Prop
  | none => v = .non
  | some d => ∃ z, v = .ref z ∧ IsZ K H z m d
theorem ZV.mono {H H' : Hp} (e : Same H H') {m : Nat} {v : V} : ∀ {o : Option Zn.Z}, ZV K H m v o → ZV K H' m v o
  | none, h => h
  | some d, ⟨z, h1, h2⟩ => ⟨z, h1, h2.mono e⟩
theorem isZ_butL {l : Addr} {H H' : Hp} {xs : List V} {z : Addr} {m : Nat} {d : Zn.Z} (hl : H l = some (.lst xs)) (e : But l H H') (h : IsZ K H z m d) : IsZ K H' z m d := by
  obtain ⟨rs, a1, a2, a3⟩ := h
  exact ⟨rs, butT hl e a1, a2, fun i r hr => butT hl e (a3 i r hr)⟩
theorem ZV.but {l : Addr} {H H' : Hp} {xs : List V} (hl : H l = some (.lst xs)) (e : But l H H') {m : Nat} {v : V} : ∀ {o : Option Zn.Z}, ZV K H m v o → ZV K H' m v o
  | none, h => h
  | some d, ⟨z, h1, h2⟩ => ⟨z, h1, isZ_butL hl e h2⟩
abbrev Pt : Type := Option Zn.Z × List Zg.G
/-- a part at p -/
def IsPt (K : PySem.W.Frag) (H : Hp) (m : Nat) (p : Addr) (P : Pt) : Prop := ∃ v c us, SqT K H p [v, .ref c] ∧ ZV K H m v P.1 ∧ SqT K H c (us.map V.ref) ∧ IsGs K H us P.2
theorem IsPt.mono {H H' : Hp} {m : Nat} {p : Addr} {P : Pt} (e : Same H H') (h : IsPt K H m p P) : IsPt K H' m p P := by
  obtain ⟨v, c, us, h1, h2, h3, h4⟩ := h
  exact ⟨v, c, us, Same.seqT e h1, h2.mono e, Same.seqT e h3, h4.mono e⟩
theorem IsPt.but {l : Addr} {H H' : Hp} {xs : List V} (hl : H l = some (.lst xs)) (e : But l H H') {m : Nat} {p : Addr} {P : Pt} (h : IsPt K H m p P) : IsPt K H' m p P := by
  obtain ⟨v, c, us, h1, h2, h3, h4⟩ := h
  exact ⟨v, c, us, butT hl e h1, h2.but hl e, butT hl e h3, h4.but hl e⟩
/-- parts at ps -/
def Pts (K : PySem.W.Frag) (H : Hp) (m : Nat) (ps : List Addr) (Ps : List Pt) : Prop := ps.length = Ps.length ∧ ∀ (j : Nat) (P : Pt), Ps[j]? = some P → ∃ p, ps[j]? = some p ∧ IsPt K H m p P
theorem Pts.mono {H H' : Hp} {m : Nat} {ps : List Addr} {Ps : List Pt} (e : Same H H') (h : Pts K H m ps Ps) : Pts K H' m ps Ps := ⟨h.1, fun j d hj => (h.2 j d hj).imp fun p x => ⟨x.1, x.2.mono e⟩⟩
theorem Pts.but {l : Addr} {H H' : Hp} {xs : List V} (hl : H l = some (.lst xs)) (e : But l H H') {m : Nat} {ps : List Addr} {Ps : List Pt} (h : Pts K H m ps Ps) : Pts K H' m ps Ps := ⟨h.1, fun j d hj => (h.2 j d hj).imp fun p x => ⟨x.1, x.2.but hl e⟩⟩
theorem Pts.nil {H : Hp} {m : Nat} : Pts K H m [] [] := ⟨rfl, fun j d h => by cases h⟩
theorem Pts.app {H : Hp} {m : Nat} {ps qs : List Addr} {Ps Qs : List Pt} (h : Pts K H m ps Ps) (h' : Pts K H m qs Qs) : Pts K H m (ps ++ qs) (Ps ++ Qs) := by
  refine ⟨by rw [List.length_append, List.length_append, h.1, h'.1], fun j q hj => ?_⟩
  by_cases e : j < Ps.length
  · rw [List.getElem?_append_left e] at hj
    obtain ⟨t, h1, h2⟩ := h.2 j q hj
    exact ⟨t, by rw [List.getElem?_append_left (by rw [h.1]; exact e)]; exact h1, h2⟩
  · rw [List.getElem?_append_right (by omega)] at hj
    obtain ⟨t, h1, h2⟩ := h'.2 _ q hj
    exact ⟨t, by rw [List.getElem?_append_right (by rw [h.1]; omega), h.1]; exact h1, h2⟩
theorem Pts.one {H : Hp} {m : Nat} {p : Addr} {P : Pt} (h : IsPt K H m p P) : Pts K H m [p] [P] := ⟨rfl, fun j q hj => by
  cases j with
  | zero =>
    cases hj
    exact ⟨p, rfl, h⟩
  | succ j => cases hj⟩
theorem Pts.snoc {H : Hp} {m : Nat} {ps : List Addr} {Ps : List Pt} {p : Addr} {P : Pt} (h : Pts K H m ps Ps) (k : IsPt K H m p P) : Pts K H m (ps ++ [p]) (Ps ++ [P]) := h.app (Pts.one k)
theorem Pts.take {H : Hp} {m : Nat} {ps : List Addr} {Ps : List Pt} (h : Pts K H m ps Ps) (k : Nat) : Pts K H m (ps.take k) (Ps.take k) := ⟨by rw [List.length_take, List.length_take, h.1], fun j P hj => by
  rw [List.getElem?_take] at hj
  split at hj
  · rename_i c
    obtain ⟨p, h1, h2⟩ := h.2 j P hj
    exact ⟨p, by rw [List.getElem?_take, if_pos c]; exact h1, h2⟩
  · cases hj⟩
end
section
variable {P : Program} {w : World} {K : PySem.W.Frag} {mg : Str → Option Value} {base : Heap} {CC CS aB : Addr}
def spOpposite (K : PySem.W.Frag) : Sp := fun vs H Q _ => ∃ (l : Addr) (q : Zn.Lit), vs = [.ref l] ∧ LitZ K H l q ∧ ∀ r H', Same H H' → LitZ K H' r (Zg.opp q) → Q (.ref r) H'
theorem ok_opposite {f : Addr} {fd : FuncData} (F : C8.Def K mg "opposite" s_opposite f fd) (b : Binds K fd ["literal"] []) (T : Txt K mg CC CS aB) : C8.Cal P w K mg base 1 "opposite" (spOpposite K) [] := by
  refine C8.cal0 F b .nil sc_opposite (fun vs H Q E h => ?_) (fun cdv A outer s H vs Q E hr h => ?_)
  · obtain ⟨l, q, rfl, _⟩ := h
    rfl
  · obtain ⟨l, q, rfl, hl, k⟩ := h
    refine ⟨_, (pss_cons (ps_asg (pv 0) (pg_tup (by rfl) (pgs_cons (pg_name (i := 1) sc_opposite.nd rfl (Or.inl rfl)) (pgs_cons (pg_name (i := 2) sc_opposite.nd rfl (Or.inl rfl)) (pgs_cons (pg_name (i := 3) sc_opposite.nd rfl (Or.inl rfl)) pgs_nil)))))
    (pss_one (ps_ret (pe_tup (pa_cons (pv 2) (pa_cons (pv 1) (pa_cons (pe_op op_sub (pe_un un_neg (pv 3)) pe_int) pa_nil))))))), ?_⟩
    refine ⟨_, rfl, l, _, rfl, hl, rfl, _, _, rfl, _, _, rfl, _, _, rfl, rfl, ?_⟩
    exact ⟨_, rfl, _, rfl, _, rfl, _, rfl, _, _, rfl, rfl, sz (by simp), fun r nr => k r _ (Same.new nr) (SqT.of upd_same)⟩
/-- the opposite of a group of no more than n levels -/
def spDenied (K : PySem.W.Frag) (n : Nat) : Sp := fun vs H Q _ => ∃ (g : Addr) (G : Zg.G), vs = [.ref g] ∧ IsG K H g G ∧ Zg.dep G ≤ n ∧ Zg.sz G ≤ 100000 ∧ ∀ r H', Same H H' → IsG K H' r (Zg.den G) → Q (.ref r) H'
theorem szs_mem {g : Zg.G} : ∀ {gs : List Zg.G}, g ∈ gs → Zg.sz g ≤ Zg.szs gs
  | k :: gs, h => by
    rcases List.mem_cons.mp h with rfl | h
    · simp only [Zg.szs]; omega
    · have := szs_mem h
      simp only [Zg.szs]
      omega
theorem ok_denied {f : Addr} {fd : FuncData} (F : C8.Def K mg "denied" s_denied f fd) (b : Binds K fd ["group"] []) (T : Txt K mg CC CS aB) (K_opposite : C8.Cal P w K mg base 1 "opposite" (spOpposite K) []) : ∀ n : Nat, C8.Cal P w K mg base (n + 2) "denied" (spDenied K n) []
  | 0 => by
    refine C8.cal0 F b .nil sc_denied (fun vs H Q E h => ?_) (fun cdv A outer s H vs Q E hr h => ?_)
    · obtain ⟨g, G, rfl, _⟩ := h
      rfl
    · obtain ⟨g, G, rfl, hg, hn, hs, k⟩ := h
      have := Zg.dep_pos G
      omega
  | n + 1 => by
        have K_denied := ok_denied F b T K_opposite n
        refine C8.cal0 F b .nil sc_denied (fun vs H Q E h => ?_) (fun cdv A outer s H vs Q E hr h => ?_)
        · obtain ⟨g, G, rfl, _⟩ := h
          rfl
        obtain ⟨g, G, rfl, hg, hn, hs, k⟩ := h
        obtain ⟨ls, gs⟩ := G
        obtain ⟨a, c, ts, us, hg0, ha, hL, hc, hG⟩ := hg
        refine ⟨_, (pss_cons (ps_asg (pv 0) (pg_tup (by rfl) (pgs_cons (pg_name (i := 1) sc_denied.nd rfl (Or.inl rfl)) (pgs_cons (pg_name (i := 2) sc_denied.nd rfl (Or.inl rfl)) pgs_nil))))
    (pss_one (ps_ret (pe_tup (pa_cons (pe_callTy call_tuple_of (by rfl) T.z_tuple (by decide +kernel) (pa_cons (pe_lc (own := [("literal", 3)]) (g := gName 3) (tt := tYes) rfl sc_denied.nd (pi_tup (pv 1)) (blkOk_by (own := [("literal", 3)]) (N := N_denied) (sc := C8.fnScope s_denied) (by decide +kernel)) (fun _ _ _ _ _ => (pg_name (i := 3) sc_denied.nd rfl (Or.inl rfl))) (fun _ _ _ _ _ => pts_nil) (fun _ _ _ _ _ => (C8.pe_c K_opposite hr (Nat.le_add_left _ _) (by rfl) (pa_cons (pv 3) pa_nil)))) pa_nil)) (pa_cons (pe_callTy call_tuple_of (by rfl) T.z_tuple (by decide +kernel) (pa_cons (pe_lc (own := [("other", 4)]) (g := gName 4) (tt := tYes) rfl sc_denied.nd (pi_tup (pv 2)) (blkOk_by (own := [("other", 4)]) (N := N_denied) (sc := C8.fnScope s_denied) (by decide +kernel)) (fun _ _ _ _ _ => (pg_name (i := 4) sc_denied.nd rfl (Or.inl rfl))) (fun _ _ _ _ _ => pts_nil) (fun _ _ _ _ _ => (C8.pe_c K_denied hr (Nat.le_refl _) (by rfl) (pa_cons (pv 4) pa_nil)))) pa_nil)) pa_nil)))))), ?_⟩
        refine ⟨_, rfl, g, _, rfl, hg0, rfl, _, _, rfl, _, _, rfl, rfl, ?_⟩
        have hls : ls.length + Zg.szs gs ≤ 100000 := by simp only [Zg.sz] at hs; omega
        refine ⟨_, rfl, a, rfl, ⟨_, ha⟩, fun D nD => lc_tup (xs := ts.map V.ref) (fun j H' => ∃ rs : List Addr, Same H H' ∧ H' D = some (.lst (rs.map V.ref)) ∧ LitsZ K H' rs ((ls.take j).map Zg.opp)) ⟨[], Same.new nD, upd_same, LitsZ.nil⟩ (fun j H' _ h => ?_) ?_ ?_⟩
        · obtain ⟨_, S, _⟩ := h
          exact Same.seqT S ha
        · rintro j x H1 hx ⟨rs, S1, hD, hR⟩
          rw [List.getElem?_map] at hx
          obtain ⟨t, ht, rfl⟩ := Option.map_eq_some_iff.mp hx
          have hj : j < ls.length := by
            rw [← hL.1]
            exact (List.getElem?_eq_some_iff.mp ht).1
          have hqj := List.getElem?_eq_getElem hj
          obtain ⟨t', g1, g2⟩ := hL.2 j _ hqj
          rw [ht] at g1
          cases g1
          refine ⟨rfl, ?_⟩
          refine ⟨_, rfl, t, _, rfl, g2.mono S1, fun r H2 S2 hr2 => ?_⟩
          have hD2 := S2 _ _ hD
          refine ⟨_, hD2, szLs (by rw [List.length_map, hR.1, List.length_map, List.length_take]; omega), rs ++ [r], Same.mut (S1.trans S2) nD, by rw [upd_same, List.map_append]; rfl, ?_⟩
          rw [take_snoc hqj, List.map_append]
          exact ((hR.mono S2).snoc hr2).but hD2 But.upd
        rintro H1 ⟨rs, S1, hD, hR⟩
        rw [List.length_map, hL.1, List.take_length] at hR
        refine ⟨D, _, rfl, .inl ⟨SqL.of hD, fun a2 na2 => ?_⟩⟩
        have Sa := S1.trans (Same.new (o := HO.tup (rs.map V.ref)) na2)
        have ha2 : SqT K (upd H1 a2 (HO.tup (rs.map V.ref))) a2 (rs.map V.ref) := SqT.of upd_same
        have hR2 := hR.mono (Same.new (o := HO.tup (rs.map V.ref)) na2)
        generalize upd H1 a2 (HO.tup (rs.map V.ref)) = H2 at Sa ha2 hR2 ⊢
        have hc2 := Same.seqT Sa hc
        have hG2 := hG.mono Sa
        clear hD hR na2 S1
        refine ⟨_, rfl, c, rfl, ⟨_, hc2⟩, fun D2 nD2 => lc_tup (xs := us.map V.ref) (fun j H' => ∃ vs : List Addr, Same H2 H' ∧ H' D2 = some (.lst (vs.map V.ref)) ∧ IsGs K H' vs ((gs.take j).map Zg.den)) ⟨[], Same.new nD2, upd_same, trivial⟩ (fun j H' _ h => ?_) ?_ ?_⟩
        · obtain ⟨_, S, _⟩ := h
          exact Same.seqT S hc2
        · rintro j x H3 hx ⟨vs, S3, hD2, hV⟩
          rw [List.getElem?_map] at hx
          obtain ⟨u, hu, rfl⟩ := Option.map_eq_some_iff.mp hx
          obtain ⟨G', hG', hu'⟩ := hG2.at_ hu
          have hm := List.mem_of_getElem? hG'
          have e1 := Zg.deps_mem hm
          have e2 := szs_mem hm
          refine ⟨rfl, ?_⟩
          refine ⟨_, rfl, u, G', rfl, hu'.mono S3, by simp only [Zg.dep] at hn; omega, by omega, fun r H4 S4 hr4 => ?_⟩
          have hD4 := S4 _ _ hD2
          have hlen := hV.len
          rw [List.length_map, List.length_take] at hlen
          have := Zg.len_szs gs
          refine ⟨_, hD4, szLs (by rw [List.length_map]; omega), vs ++ [r], Same.mut (S3.trans S4) nD2, by rw [upd_same, List.map_append]; rfl, ?_⟩
          rw [take_snoc hG', List.map_append]
          exact ((hV.mono S4).snoc hr4).but hD4 But.upd
        rintro H3 ⟨vs, S3, hD2, hV⟩
        rw [List.length_map, hG2.len, List.take_length] at hV
        refine ⟨D2, _, rfl, .inl ⟨SqL.of hD2, fun c2 nc2 => ⟨sz (by simp), fun r nr => ?_⟩⟩⟩
        have Sc := S3.trans (Same.new (o := HO.tup (vs.map V.ref)) nc2)
        have Sr := Same.new (o := HO.tup [V.ref a2, V.ref c2]) nr
        refine k r _ (Sa.trans (Sc.trans Sr)) ⟨a2, c2, rs, vs, SqT.of upd_same, Same.seqT (Sc.trans Sr) ha2, hR2.mono (Sc.trans Sr), Same.seqT Sr (SqT.of upd_same), ?_⟩
        rw [Zg.denAll_map]
        exact hV.mono ((Same.new (o := HO.tup (vs.map V.ref)) nc2).trans Sr)
end
end K18

namespace K18
open PySem L2 Bx
section
variable {P : Program} {w : World} {K : PySem.W.Frag} {mg : Str → Option Value} {base : Heap} {CC CS aB : Addr}
def spMetAllT (K : PySem.W.Frag) : Sp := fun vs H Q _ => ∃ (z l : Addr) (ts : List Addr) (m : Nat) (d : Zn.Z) (qs : List Zn.Lit), vs = [.ref z, .ref l] ∧ IsZ K H z m d ∧ SqT K H l (ts.map V.ref) ∧ LitsZ K H ts qs ∧ Zn.Ok m qs ∧ m ≤ 900 ∧
  (∀ H', Same H H' → Zn.metAll d qs = none → Q .non H') ∧ ∀ z' d' H', Same H H' → Zn.metAll d qs = some d' → IsZ K H' z' m d' → Q (.ref z') H'
theorem ok_met_allT {f : Addr} {fd : FuncData} (F : C8.Def K mg "met_all" s_met_all f fd) (b : Binds K fd ["zone", "literals"] []) (T : Txt K mg CC CS aB) (K_met : C8.Cal P w K mg base 2 "met" (spMet K) []) : C8.Cal P w K mg base 3 "met_all" (spMetAllT K) [] := by
  refine C8.cal0 F b .nil sc_met_all (fun vs H Q E h => ?_) (fun cdv A outer s H vs Q E hr h => ?_)
  · obtain ⟨z, l, ts, m, d, qs, rfl, _⟩ := h
    rfl
  · obtain ⟨z, l, ts, m, d, qs, rfl, hz, hl, hL, hok, h900, k1, k2⟩ := h
    refine ⟨_, (pss_cons (ps_for PassesOwn.never rfl (pi_tup (pv 1)) (pg_name (i := 2) sc_met_all.nd rfl (Or.inl rfl))
    (pss_cons (ps_set (i := 0) sc_met_all.nd rfl (Or.inl rfl) (C8.pe_c K_met hr (by decide) (by rfl) (pa_cons (pv 0) (pa_cons (pv 2) pa_nil))))
    (pss_one (ps_if (pt_cmpR op_isN (pv 0) pe_non (nomark _)) (pss_one (ps_ret pe_non)) pss_nil))))
    (pss_one (ps_ret (pv 0)))), ?_⟩
    refine ⟨_, rfl, l, rfl, ⟨_, hl⟩, for_tup (xs := ts.map V.ref) (fun i σ H' => ∃ (v2 : Option V) (z' : Addr) (d' : Zn.Z), σ = [some (.ref z'), some (.ref l), v2] ∧ Same H H' ∧ IsZ K H' z' m d' ∧ Zn.metAll d (qs.take i) = some d') ⟨none, z, d, rfl, Same.refl H, hz, rfl⟩ (fun i σ H' _ h => ?_) ?_ ?_⟩
    · obtain ⟨_, _, _, _, S, _⟩ := h
      exact Same.seqT S hl
    · rintro i x σ H1 hx ⟨v2, z', d', rfl, S1, hz1, hm⟩
      rw [List.getElem?_map] at hx
      obtain ⟨t, ht, rfl⟩ := Option.map_eq_some_iff.mp hx
      have hi : i < qs.length := by
        rw [← hL.1]
        exact (List.getElem?_eq_some_iff.mp ht).1
      have hq := List.getElem?_eq_getElem hi
      obtain ⟨t', h1, h2⟩ := hL.2 i _ hq
      rw [ht] at h1
      cases h1
      obtain ⟨o1, o2⟩ := hok _ (List.getElem_mem hi)
      have st := metAll_step (d := d) hq
      rw [hm] at st
      refine ⟨_, rfl, _, rfl, z', t, m, d', qs[i], rfl, hz1, h2.mono S1, o1, o2, h900, fun H2 S2 e => ?_, fun z2 d2 H2 S2 e hz2 => ?_⟩
      · refine ⟨_, rfl, rfl, _, rfl, iteT ?_⟩
        refine k1 H2 (S1.trans S2) (metAll_none_take (i := i + 1) ?_)
        rw [st]
        exact e
      · refine ⟨_, rfl, rfl, _, rfl, iteF ?_⟩
        exact ⟨_, z2, d2, rfl, S1.trans S2, hz2, by rw [st]; exact e⟩
    · rintro σ H1 ⟨v2, z', d', rfl, S1, hz1, hm⟩
      rw [List.length_map, hL.1, List.take_length] at hm
      exact ⟨_, rfl, k2 z' d' H1 S1 hm hz1⟩
/-- a group, or none -/
def GV (K : PySem.W.Frag) (H : Hp) (v : V) : Option Zg.G → Prop
  | none => v = .non
  | some G => ∃ g, v = .ref g ∧ IsG K H g G
def spOG (K : PySem.W.Frag) (n : Nat) : Sp := fun vs H Q _ => ∃ (z g : Addr) (m : Nat) (d : Zn.Z) (G : Zg.G) (c : Bool), vs = [.ref z, .ref g, .bl c] ∧ IsZ K H z m d ∧ IsG K H g G ∧ Zg.OkG m G ∧ Zg.dep G ≤ n ∧ Zg.sz G ≤ 100000 ∧ ∀ v H', Same H H' → GV K H' v (Zg.opn d c G) → Q v H'
theorem okGs_mem {m : Nat} : ∀ {gs : List Zg.G} {g : Zg.G}, Zg.OkGs m gs → g ∈ gs → Zg.OkG m g
  | k :: gs, g, h, e => by
    rcases List.mem_cons.mp e with rfl | e
    · exact h.1
    · exact okGs_mem h.2 e
theorem ok_open_group {f : Addr} {fd : FuncData} (F : C8.Def K mg "open_group" s_open_group f fd) (b : Binds K fd ["zone", "group", "is_case"] []) (T : Txt K mg CC CS aB) : ∀ n : Nat, C8.Cal P w K mg base (n + 1) "open_group" (spOG K n) []
  | 0 => by
    refine C8.cal0 F b .nil sc_open_group (fun vs H Q E h => ?_) (fun cdv A outer s H vs Q E hr h => ?_)
    · obtain ⟨z, g, m, d, G, c, rfl, _⟩ := h
      rfl
    · obtain ⟨z, g, m, d, G, c, rfl, hz, hg, hok, hn, hs, k⟩ := h
      have := Zg.dep_pos G
      omega
  | n + 1 => by
    have K_open_group := ok_open_group F b T n
    refine C8.cal0 F b .nil sc_open_group (fun vs H Q E h => ?_) (fun cdv A outer s H vs Q E hr h => ?_)
    · obtain ⟨z, g, m, d, G, c, rfl, _⟩ := h
      rfl
    obtain ⟨z, g, m, d, ⟨ls, gs⟩, c, rfl, hz, ⟨a, cc, ts, us, hg0, ha, hL, hc, hG⟩, ⟨hok1, hok2⟩, hn, hs, k⟩ := h
    refine ⟨_, (pss_cons (ps_asg (pv 1) (pg_tup (by rfl) (pgs_cons (pg_name (i := 3) sc_open_group.nd rfl (Or.inl rfl)) (pgs_cons (pg_name (i := 4) sc_open_group.nd rfl (Or.inl rfl)) pgs_nil))))
    (pss_cons (ps_set (i := 5) sc_open_group.nd rfl (Or.inl rfl) (pe_lst pa_nil))
    (pss_cons (ps_for PassesOwn.never rfl (pi_tup (pv 3)) (pg_name (i := 6) sc_open_group.nd rfl (Or.inl rfl))
    (pss_cons (ps_asg (pv 6) (pg_tup (by rfl) (pgs_cons (pg_name (i := 7) sc_open_group.nd rfl (Or.inl rfl)) (pgs_cons (pg_name (i := 8) sc_open_group.nd rfl (Or.inl rfl)) (pgs_cons (pg_name (i := 9) sc_open_group.nd rfl (Or.inl rfl)) pgs_nil)))))
    (pss_cons (ps_set (i := 10) sc_open_group.nd rfl (Or.inl rfl) (pe_ix ix_tup (pe_ix ix_tup (pv 0) (pv 7) (fun _ _ => rfl)) (pv 8) (fun _ _ => rfl)))
    (pss_one (ps_if (PW.pt (pw_and (pt_cmpR op_notN (pv 10) pe_non (nomark _)) (pw_and1 (pt_cmpR op_le (pv 10) (pv 9) (nomark _))))) (pss_one (ps_if (pt_not (pt_truth (pv 2) (by intro _; rfl))) (pss_one (ps_ret pe_non)) pss_nil)) (pss_cons (ps_set (i := 11) sc_open_group.nd rfl (Or.inl rfl) (pe_ix ix_tup (pe_ix ix_tup (pv 0) (pv 8) (fun _ _ => rfl)) (pv 7) (fun _ _ => rfl)))
    (pss_one (ps_if (PW.pt (pw_or (pt_cmpR op_isN (pv 11) pe_non (nomark _)) (pw_or1 (pt_cmpR op_ge (pe_op op_add (pv 11) (pv 9)) pe_int (nomark _))))) (pss_one (ps_expr (pe_bm PySem.F.plainAttrs_list PySem.F.slot_list_append PySem.F.type_list_append mt_append (pv 5) (pa_cons (pv 6) pa_nil)))) (pss_one (ps_if (pt_truth (pv 2) (by intro _; rfl)) (pss_one (ps_ret pe_non)) pss_nil))))))))))
    (pss_cons (ps_set (i := 12) sc_open_group.nd rfl (Or.inl rfl) (pe_lst pa_nil))
    (pss_cons (ps_for PassesOwn.never rfl (pi_tup (pv 4)) (pg_name (i := 13) sc_open_group.nd rfl (Or.inl rfl))
    (pss_cons (ps_set (i := 14) sc_open_group.nd rfl (Or.inl rfl) (C8.pe_c K_open_group hr (Nat.le_refl _) (by rfl) (pa_cons (pv 0) (pa_cons (pv 13) (pa_cons (pe_not (pv 2)) pa_nil)))))
    (pss_one (ps_if (pt_cmpR op_notN (pv 14) pe_non (nomark _)) (pss_cons (ps_asg (pv 14) (pg_tup (by rfl) (pgs_cons (pg_name (i := 15) sc_open_group.nd rfl (Or.inl rfl)) (pgs_cons (pg_name (i := 16) sc_open_group.nd rfl (Or.inl rfl)) pgs_nil))))
    (pss_one (ps_if (PW.pt (pw_and (pt_not (pt_truth (pv 16) (by intro _; rfl))) (pw_and1 (pt_cmpR op_lt (pe_callB call_len_seq (by rfl) T.z_len (by decide +kernel) (pa_cons (pv 15) pa_nil)) pe_int (nomark _))))) (pss_cons (ps_if (pt_not (pt_truth (pv 15) (by intro _; rfl))) (pss_one (ps_ret pe_non)) pss_nil)
    (pss_one (ps_expr (pe_bm PySem.F.plainAttrs_list PySem.F.slot_list_append PySem.F.type_list_append mt_append (pv 5) (pa_cons (pe_ix ix_tup (pv 15) pe_int (fun _ _ => rfl)) pa_nil))))) (pss_one (ps_if (PW.pt (pw_and (pt_not (pt_truth (pv 15) (by intro _; rfl))) (pw_and1 (pt_cmpR op_eq (pe_callB call_len_seq (by rfl) T.z_len (by decide +kernel) (pa_cons (pv 16) pa_nil)) pe_int (nomark _))))) (pss_cons (ps_expr (pe_bm PySem.F.plainAttrs_list PySem.F.slot_list_extend PySem.F.type_list_extend mt_extendT (pv 5) (pa_cons (pe_ix ix_tup (pe_ix ix_tup (pv 16) pe_int (fun _ _ => rfl)) pe_int (fun _ _ => rfl)) pa_nil)))
    (pss_one (ps_expr (pe_bm PySem.F.plainAttrs_list PySem.F.slot_list_extend PySem.F.type_list_extend mt_extendT (pv 12) (pa_cons (pe_ix ix_tup (pe_ix ix_tup (pv 16) pe_int (fun _ _ => rfl)) pe_int (fun _ _ => rfl)) pa_nil))))) (pss_one (ps_expr (pe_bm PySem.F.plainAttrs_list PySem.F.slot_list_append PySem.F.type_list_append mt_append (pv 12) (pa_cons (pv 14) pa_nil))))))))) pss_nil))))
    (pss_one (ps_ret (pe_tup (pa_cons (pe_callTy call_tuple_of (by rfl) T.z_tuple (by decide +kernel) (pa_cons (pv 5) pa_nil)) (pa_cons (pe_callTy call_tuple_of (by rfl) T.z_tuple (by decide +kernel) (pa_cons (pv 12) pa_nil)) pa_nil)))))))))), ?_⟩
    have hls : ls.length + Zg.szs gs ≤ 100000 := by simp only [Zg.sz] at hs; omega
    rw [Zg.opn_mk] at k
    obtain ⟨xs, hx0, hx1, hx2⟩ := hz.row
    refine ⟨_, rfl, g, _, rfl, hg0, rfl, _, _, rfl, _, _, rfl, rfl, ?_⟩
    refine ⟨sz (by simp), fun pl npl => ?_⟩
    have Sp := Same.new (o := HO.lst []) npl
    refine ⟨_, rfl, a, rfl, ⟨_, Same.seqT Sp ha⟩, for_tup (xs := ts.map V.ref) (fun k σ H' => ∃ (v6 v7 v8 v9 v10 v11 : Option V) (p : List Zn.Lit) (ps : List Addr), σ = [some (.ref z), some (.ref g), some (.bl c), some (.ref a), some (.ref cc), some (.ref pl), v6, v7, v8, v9, v10, v11, none, none, none, none, none] ∧ Same H H' ∧ Zg.plain d c (ls.take k) = some p ∧ H' pl = some (.lst (ps.map V.ref)) ∧ LitsZ K H' ps p) ⟨none, none, none, none, none, none, [], [], rfl, Sp, rfl, upd_same, LitsZ.nil⟩ (fun i σ H' _ h => ?_) ?_ ?_⟩
    · obtain ⟨_, _, _, _, _, _, _, _, _, S, _⟩ := h
      exact Same.seqT S ha
    · rintro i x σ H1 hx ⟨v6, v7, v8, v9, v10, v11, p, ps, rfl, S1, hp, hpl, hP⟩
      rw [List.getElem?_map] at hx
      obtain ⟨t, ht, rfl⟩ := Option.map_eq_some_iff.mp hx
      have hi : i < ls.length := by
        rw [← hL.1]
        exact (List.getElem?_eq_some_iff.mp ht).1
      have hq := List.getElem?_eq_getElem hi
      obtain ⟨t', h1, h2⟩ := hL.2 i _ hq
      rw [ht] at h1
      cases h1
      obtain ⟨o1, o2⟩ := hok1 _ (List.getElem_mem hi)
      generalize ls[i] = q at hq h2 o1 o2
      have h2' := h2.mono S1
      have hpl' : p.length ≤ 100000 := by
        have := (Zg.plain_sub hp).1
        rw [List.length_take] at this
        omega
      have st : Zg.plain d c (ls.take (i + 1)) = Zg.plainStep d c p q := by
        rw [take_snoc hq, Zg.plain_snoc, hp]
        rfl
      obtain ⟨r1, hr1, hr1'⟩ := hx2 q.1 o1
      obtain ⟨r2, hr2, hr2'⟩ := hx2 q.2.1 o2
      have fin : Zg.plainStep d c p q = none → Zg.plain d c ls = none := fun e => by
        have := Zg.plain_none_app (r := ls.drop (i + 1)) (st.trans e)
        rwa [List.take_append_drop] at this
      have out : Zg.plainStep d c p q = none → ∀ H', Same H H' → Q .non H' := fun e H' S => k _ _ S (by rw [fin e]; rfl)
      refine ⟨_, rfl, t, _, rfl, h2', rfl, _, _, rfl, _, _, rfl, _, _, rfl, rfl, ?_⟩
      refine ⟨_, rfl, _, rfl, z, _, _, _, rfl, rfl, Same.seqT S1 hx0, atI_nat hr1, _, rfl, r1, _, _, _, rfl, rfl, Same.seqT S1 hr1', atI_nat (rowV_at o2), ?_⟩
      have rd : ∀ (vv : Option V), Zg.plainStep d c p q = some p → ∃ (v6 v7 v8 v9 v10 v11 : Option V) (p' : List Zn.Lit) (ps' : List Addr), [some (.ref z), some (.ref g), some (.bl c), some (.ref a), some (.ref cc), some (.ref pl), some (V.ref t), some (V.int (q.1 : Nat)), some (V.int (q.2.1 : Nat)), some (V.int q.2.2), some (optV (d q.1 q.2.1)), vv, none, none, none, none, none] = [some (.ref z), some (.ref g), some (.bl c), some (.ref a), some (.ref cc), some (.ref pl), v6, v7, v8, v9, v10, v11, none, none, none, none, none] ∧ Same H H1 ∧ Zg.plain d c (ls.take (i + 1)) = some p' ∧ H1 pl = some (.lst (ps'.map V.ref)) ∧ LitsZ K H1 ps' p' := fun vv e =>
        ⟨_, _, _, _, _, _, p, ps, rfl, S1, st.trans e, hpl, hP⟩
      have hfw : ∀ o, d q.1 q.2.1 = o → Zn.follows d q = (match o with | none => false | some a => decide (a ≤ q.2.2)) := fun o e => by
        unfold Zn.follows
        rw [e]
        cases o <;> rfl
      have hfl : ∀ o, d q.2.1 q.1 = o → Zn.fails d q = (match o with | none => false | some a => decide (a + q.2.2 < 0)) := fun o e => by
        unfold Zn.fails
        rw [e]
        cases o <;> rfl
      have sF : Zn.follows d q = true → Zg.plainStep d c p q = if c then some p else none := fun e => by
        unfold Zg.plainStep
        rw [if_pos e]
      have sL : Zn.follows d q = false → Zn.fails d q = true → Zg.plainStep d c p q = if c then none else some p := fun e e2 => by
        unfold Zg.plainStep
        rw [if_neg (by rw [e]; decide), if_pos e2]
      have sK : Zn.follows d q = false → Zn.fails d q = false → Zg.plainStep d c p q = some (p ++ [q]) := fun e e2 => by
        unfold Zg.plainStep
        rw [if_neg (by rw [e]; decide), if_neg (by rw [e2]; decide)]
      have keep : ∀ (vv : Option V), Zn.follows d q = false → Zn.fails d q = false → ∃ (v6 v7 v8 v9 v10 v11 : Option V) (p' : List Zn.Lit) (ps' : List Addr), [some (.ref z), some (.ref g), some (.bl c), some (.ref a), some (.ref cc), some (.ref pl), some (V.ref t), some (V.int (q.1 : Nat)), some (V.int (q.2.1 : Nat)), some (V.int q.2.2), some (optV (d q.1 q.2.1)), vv, none, none, none, none, none] = [some (.ref z), some (.ref g), some (.bl c), some (.ref a), some (.ref cc), some (.ref pl), v6, v7, v8, v9, v10, v11, none, none, none, none, none] ∧ Same H (upd H1 pl (.lst (ps.map V.ref ++ [V.ref t]))) ∧ Zg.plain d c (ls.take (i + 1)) = some p' ∧ (upd H1 pl (.lst (ps.map V.ref ++ [V.ref t]))) pl = some (.lst (ps'.map V.ref)) ∧ LitsZ K (upd H1 pl (.lst (ps.map V.ref ++ [V.ref t]))) ps' p' := fun vv e e2 =>
        ⟨_, _, _, _, _, _, p ++ [q], ps ++ [t], rfl, Same.mut S1 npl, st.trans (sK e e2), by rw [upd_same, List.map_append]; rfl, (hP.snoc h2').but hpl But.upd⟩
      have hlenp : (ps.map V.ref).length < sizeLine := szLs (by rw [List.length_map, hP.1]; omega)
      cases ed : d q.1 q.2.1 with
      | none =>
        have ff := hfw _ ed
        dsimp only at ff
        rw [ed] at rd keep
        refine ⟨_, rfl, rfl, _, rfl, iteF (iteF ?_)⟩
        refine ⟨_, rfl, _, rfl, z, _, _, _, rfl, rfl, Same.seqT S1 hx0, atI_nat hr2, _, rfl, r2, _, _, _, rfl, rfl, Same.seqT S1 hr2', atI_nat (rowV_at o1), ?_⟩
        cases eb : d q.2.1 q.1 with
        | none =>
          have fl := hfl _ eb
          dsimp only at fl
          refine ⟨_, rfl, rfl, _, rfl, iteT (iteT ?_)⟩
          refine ⟨_, rfl, .inl ⟨rfl, _, SqL.of hpl⟩, _, rfl, pl, _, _, rfl, rfl, hpl, hlenp, ?_⟩
          exact keep _ ff fl
        | some bb =>
          have fl := hfl _ eb
          dsimp only at fl
          refine ⟨_, rfl, rfl, _, rfl, iteF ?_⟩
          refine ⟨_, rfl, _, rfl, bb, q.2.2, rfl, rfl, _, 0, rfl, rfl, _, rfl, ?_⟩
          by_cases hb : bb + q.2.2 < 0
          · rw [decide_eq_false (show ¬ (0 ≤ bb + q.2.2) by omega)]
            rw [decide_eq_true hb] at fl
            refine iteF ?_
            refine ⟨_, rfl, c, rfl, ?_⟩
            cases c with
            | true => exact iteT (out (sL ff fl) H1 S1)
            | false => exact iteF (rd _ (sL ff fl))
          · rw [decide_eq_true (show 0 ≤ bb + q.2.2 by omega)]
            rw [decide_eq_false hb] at fl
            refine iteT ?_
            refine ⟨_, rfl, .inl ⟨rfl, _, SqL.of hpl⟩, _, rfl, pl, _, _, rfl, rfl, hpl, hlenp, ?_⟩
            exact keep _ ff fl
      | some aa =>
        have ff := hfw _ ed
        dsimp only at ff
        rw [ed] at rd keep
        refine ⟨_, rfl, rfl, _, rfl, iteT ?_⟩
        refine ⟨_, rfl, _, rfl, aa, q.2.2, rfl, rfl, _, rfl, ?_⟩
        by_cases ha' : aa ≤ q.2.2
        · rw [decide_eq_true ha']
          rw [decide_eq_true ha'] at ff
          refine iteT ?_
          refine ⟨_, rfl, c, rfl, ?_⟩
          cases c with
          | true => exact iteF (rd _ (sF ff))
          | false => exact iteT (out (sF ff) H1 S1)
        · rw [decide_eq_false ha']
          rw [decide_eq_false ha'] at ff
          refine iteF ?_
          refine ⟨_, rfl, _, rfl, z, _, _, _, rfl, rfl, Same.seqT S1 hx0, atI_nat hr2, _, rfl, r2, _, _, _, rfl, rfl, Same.seqT S1 hr2', atI_nat (rowV_at o1), ?_⟩
          cases eb : d q.2.1 q.1 with
          | none =>
            have fl := hfl _ eb
            dsimp only at fl
            refine ⟨_, rfl, rfl, _, rfl, iteT (iteT ?_)⟩
            refine ⟨_, rfl, .inl ⟨rfl, _, SqL.of hpl⟩, _, rfl, pl, _, _, rfl, rfl, hpl, hlenp, ?_⟩
            exact keep _ ff fl
          | some bb =>
            have fl := hfl _ eb
            dsimp only at fl
            refine ⟨_, rfl, rfl, _, rfl, iteF ?_⟩
            refine ⟨_, rfl, _, rfl, bb, q.2.2, rfl, rfl, _, 0, rfl, rfl, _, rfl, ?_⟩
            by_cases hb : bb + q.2.2 < 0
            · rw [decide_eq_false (show ¬ (0 ≤ bb + q.2.2) by omega)]
              rw [decide_eq_true hb] at fl
              refine iteF ?_
              refine ⟨_, rfl, c, rfl, ?_⟩
              cases c with
              | true => exact iteT (out (sL ff fl) H1 S1)
              | false => exact iteF (rd _ (sL ff fl))
            · rw [decide_eq_true (show 0 ≤ bb + q.2.2 by omega)]
              rw [decide_eq_false hb] at fl
              refine iteT ?_
              refine ⟨_, rfl, .inl ⟨rfl, _, SqL.of hpl⟩, _, rfl, pl, _, _, rfl, rfl, hpl, hlenp, ?_⟩
              exact keep _ ff fl
    · rintro σ H1 ⟨v6, v7, v8, v9, v10, v11, p, ps, rfl, S1, hp, hpl, hP⟩
      rw [List.length_map, hL.1, List.take_length] at hp
      have hc1 := Same.seqT S1 hc
      refine ⟨sz (by simp), fun rl nrl => ?_⟩
      have nrl0 : H rl = none := by
        cases e : H rl with
        | none => rfl
        | some o =>
          rw [S1 _ _ e] at nrl
          cases nrl
      have plr : pl ≠ rl := fun e => by rw [← e, hpl] at nrl; cases nrl
      have Sr := Same.new (o := HO.lst []) nrl
      have hpl2 : (upd H1 rl (HO.lst [])) pl = some (.lst (ps.map V.ref)) := by rw [upd_ne plr]; exact hpl
      refine ⟨_, rfl, cc, rfl, ⟨_, Same.seqT Sr hc1⟩, for_tup (xs := us.map V.ref) (fun k σ H' => ∃ (v13 v14 v15 v16 : Option V) (r : List Zg.G) (ps qs : List Addr), σ = [some (.ref z), some (.ref g), some (.bl c), some (.ref a), some (.ref cc), some (.ref pl), v6, v7, v8, v9, v10, v11, some (.ref rl), v13, v14, v15, v16] ∧ Same H H' ∧ Zg.opnAll d c (gs.take k) = some r ∧ H' pl = some (.lst (ps.map V.ref)) ∧ LitsZ K H' ps (Zg.flat p r).1 ∧ H' rl = some (.lst (qs.map V.ref)) ∧ IsGs K H' qs (Zg.flat p r).2) ⟨none, none, none, none, [], ps, [], rfl, S1.trans Sr, rfl, hpl2, hP.mono Sr, upd_same, trivial⟩ (fun i σ H' _ h => ?_) ?_ ?_⟩
      · obtain ⟨_, _, _, _, _, _, _, _, S, _⟩ := h
        exact Same.seqT S hc
      · clear hpl hP hpl2 hc1
        rintro i x σ H2 hx ⟨v13, v14, v15, v16, r, ps, qs, rfl, S2, hr, hpl, hP, hrl, hQ⟩
        rw [List.getElem?_map] at hx
        obtain ⟨u, hu, rfl⟩ := Option.map_eq_some_iff.mp hx
        obtain ⟨G', hG', hu'⟩ := hG.at_ hu
        have hm := List.mem_of_getElem? hG'
        have e1 := Zg.deps_mem hm
        have e2 := szs_mem hm
        have st : Zg.opnAll d c (gs.take (i + 1)) = Zg.allStep d c r G' := by
          rw [take_snoc hG', Zg.opnAll_snoc, hr]
          rfl
        have hz1 := (Zg.opnAll_sz (m := m) c _ _ hr).1
        have hz2 : Zg.szs (gs.take i) ≤ Zg.szs gs := by
          have := Zg.szs_app (gs.take i) (gs.drop i)
          rw [List.take_append_drop] at this
          omega
        have hz3 := (Zg.plain_sub hp).1
        have hz4 := Zg.flat_sz r p
        have hz5 := Zg.len_szs (Zg.flat p r).2
        have hlp : ps.length ≤ 100000 := by rw [hP.1]; omega
        have hlq : qs.length ≤ 100000 := by rw [hQ.len]; omega
        refine ⟨_, rfl, _, rfl, _, rfl, c, rfl, z, u, m, d, G', !c, rfl, hz.mono S2, hu'.mono S2, okGs_mem hok2 hm, by simp only [Zg.dep] at hn; omega, by omega, fun v H3 S3 hv => ?_⟩
        have S23 := S2.trans S3
        have hpl3 := S3 _ _ hpl
        have hrl3 := S3 _ _ hrl
        have hP3 := hP.mono S3
        have hQ3 := hQ.mono S3
        cases eo : Zg.opn d (!c) G' with
        | none =>
          rw [eo] at hv
          cases hv
          refine ⟨_, rfl, rfl, _, rfl, iteF ?_⟩
          refine ⟨_, _, _, _, r, ps, qs, rfl, S23, ?_, hpl3, hP3, hrl3, hQ3⟩
          rw [st]
          unfold Zg.allStep
          rw [eo]
        | some h =>
          rw [eo] at hv
          obtain ⟨gh, rfl, hgh⟩ := hv
          have hzh := (Zg.opn_sz (m := m) (!c) _ _ eo).1
          obtain ⟨il, ig⟩ := h
          obtain ⟨ia, ic, its, ius, hi0, hia, hil, hic, hig⟩ := id hgh
          have hzi : il.length + Zg.szs ig ≤ 100000 := by simp only [Zg.sz] at hzh; omega
          have hlig := Zg.len_szs ig
          refine ⟨_, rfl, rfl, _, rfl, iteT ?_⟩
          refine ⟨_, rfl, gh, _, rfl, hi0, rfl, _, _, rfl, _, _, rfl, rfl, ?_⟩
          have next : Zg.isE (.mk il ig) = false → Zg.opnAll d c (gs.take (i + 1)) = some (r ++ [.mk il ig]) := fun e => by
            rw [st]
            unfold Zg.allStep
            rw [eo]
            dsimp only
            rw [if_neg (by rw [e]; decide)]
          have hlrl : (qs.map V.ref).length < sizeLine := szLs (by rw [List.length_map]; omega)
          have hlpl : (ps.map V.ref).length < sizeLine := szLs (by rw [List.length_map]; omega)
          -- the group itself is taken
          have app : Zg.isE (.mk il ig) = false → Zg.flatStep (Zg.flat p r) (.mk il ig) = ((Zg.flat p r).1, (Zg.flat p r).2 ++ [.mk il ig]) → ∃ (v13 v14 v15 v16 : Option V) (r' : List Zg.G) (ps' qs' : List Addr), [some (.ref z), some (.ref g), some (.bl c), some (.ref a), some (.ref cc), some (.ref pl), v6, v7, v8, v9, v10, v11, some (.ref rl), some (V.ref u), some (V.ref gh), some (V.ref ia), some (V.ref ic)] = [some (.ref z), some (.ref g), some (.bl c), some (.ref a), some (.ref cc), some (.ref pl), v6, v7, v8, v9, v10, v11, some (.ref rl), v13, v14, v15, v16] ∧ Same H (upd H3 rl (.lst (qs.map V.ref ++ [V.ref gh]))) ∧ Zg.opnAll d c (gs.take (i + 1)) = some r' ∧ (upd H3 rl (.lst (qs.map V.ref ++ [V.ref gh]))) pl = some (.lst (ps'.map V.ref)) ∧ LitsZ K (upd H3 rl (.lst (qs.map V.ref ++ [V.ref gh]))) ps' (Zg.flat p r').1 ∧ (upd H3 rl (.lst (qs.map V.ref ++ [V.ref gh]))) rl = some (.lst (qs'.map V.ref)) ∧ IsGs K (upd H3 rl (.lst (qs.map V.ref ++ [V.ref gh]))) qs' (Zg.flat p r').2 := fun e ef => by
            refine ⟨_, _, _, _, _, ps, qs ++ [gh], rfl, Same.mut S23 nrl0, next e, ?_, ?_, ?_, ?_⟩
            · rw [upd_ne plr]
              exact hpl3
            · rw [Zg.flat_snoc, ef]
              exact hP3.but hrl3 But.upd
            · rw [upd_same, List.map_append]
              rfl
            · rw [Zg.flat_snoc, ef]
              exact (hQ3.snoc hgh).but hrl3 But.upd
          have hlen1 : (its.map V.ref).length = il.length := by rw [List.length_map, hil.1]
          have hlen2 : (ius.map V.ref).length = ig.length := by rw [List.length_map, hig.len]
          have emp1 : (!(its.map V.ref).isEmpty) = !il.isEmpty := by
            cases il with
            | nil =>
              have : its = [] := List.length_eq_zero_iff.mp hil.1
              subst this
              rfl
            | cons q0 il0 => cases its with
              | nil => cases hil.1
              | cons t0 its0 => rfl
          have emp2 : (!(ius.map V.ref).isEmpty) = !ig.isEmpty := by
            have := hig.len
            cases ig with
            | nil =>
              have e : ius = [] := List.length_eq_zero_iff.mp this
              subst e
              rfl
            | cons q0 il0 => cases ius with
              | nil => cases this
              | cons t0 its0 => rfl
          refine ⟨_, rfl, !ig.isEmpty, .inr (.inl ⟨_, hic, emp2.symm⟩), ?_⟩
          cases ig with
          | nil =>
            refine iteT ?_
            refine ⟨_, rfl, ia, _, rfl, .inr hia, _, _, rfl, rfl, _, rfl, ?_⟩
            rw [hlen1]
            cases il with
            | nil =>
              refine iteT ?_
              refine ⟨_, rfl, false, .inr (.inl ⟨_, hia, emp1.symm⟩), iteT ?_⟩
              refine k _ _ S23 ?_
              have e1 : Zg.opnAll d c (gs.take (i + 1)) = none := by
                rw [st]
                unfold Zg.allStep
                rw [eo]
                rfl
              have e2 := Zg.opnAll_none_app (r := gs.drop (i + 1)) e1
              rw [List.take_append_drop] at e2
              rw [hp, e2]
              rfl
            | cons q0 il0 =>
              cases il0 with
              | nil =>
                refine iteT ?_
                refine ⟨_, rfl, true, .inr (.inl ⟨_, hia, emp1.symm⟩), iteF ?_⟩
                obtain ⟨t0, ht0, hq0⟩ := hil.2 0 q0 rfl
                refine ⟨_, rfl, .inl ⟨rfl, _, SqL.of hpl3⟩, _, rfl, ia, _, 0, _, rfl, rfl, hia, atI_nat (by rw [List.getElem?_map, ht0]; rfl), pl, _, _, rfl, rfl, hpl3, hlpl, ?_⟩
                refine ⟨_, _, _, _, _, ps ++ [t0], qs, rfl, Same.mut S23 npl, next rfl, ?_, ?_, ?_, ?_⟩
                · rw [upd_same, List.map_append]
                  rfl
                · rw [Zg.flat_snoc]
                  exact (hP3.snoc hq0).but hpl3 But.upd
                · rw [upd_ne (fun e => plr e.symm)]
                  exact hrl3
                · rw [Zg.flat_snoc]
                  exact hQ3.but hpl3 But.upd
              | cons q1 il1 =>
                rw [decide_eq_false (by simp only [List.length_cons]; omega)]
                refine iteF ?_
                refine ⟨_, rfl, true, .inr (.inl ⟨_, hia, emp1.symm⟩), iteF (iteF ?_)⟩
                refine ⟨_, rfl, .inl ⟨rfl, _, SqL.of hrl3⟩, _, rfl, rl, _, _, rfl, rfl, hrl3, hlrl, ?_⟩
                exact app rfl rfl
          | cons g1 ig1 =>
            refine iteF (iteF ?_)
            cases il with
            | cons q0 il0 =>
              refine ⟨_, rfl, true, .inr (.inl ⟨_, hia, emp1.symm⟩), iteF (iteF ?_)⟩
              refine ⟨_, rfl, .inl ⟨rfl, _, SqL.of hrl3⟩, _, rfl, rl, _, _, rfl, rfl, hrl3, hlrl, ?_⟩
              exact app rfl (by cases il0 <;> rfl)
            | nil =>
              refine ⟨_, rfl, false, .inr (.inl ⟨_, hia, emp1.symm⟩), iteT ?_⟩
              refine ⟨_, rfl, ic, _, rfl, .inr hic, rfl, _, rfl, ?_⟩
              rw [hlen2]
              cases ig1 with
              | cons g2 ig2 =>
                rw [decide_eq_false (fun z => by injection z with z; simp only [List.length_cons] at z; omega)]
                refine iteF ?_
                refine ⟨_, rfl, .inl ⟨rfl, _, SqL.of hrl3⟩, _, rfl, rl, _, _, rfl, rfl, hrl3, hlrl, ?_⟩
                exact app rfl (by cases g1; rfl)
              | nil =>
                refine iteT ?_
                obtain ⟨u1, hu1⟩ : ∃ u1, ius = [u1] := by
                  have := hig.len
                  cases ius with
                  | nil => cases this
                  | cons u1 r => cases r with
                    | nil => exact ⟨u1, rfl⟩
                    | cons _ _ => cases this
                subst hu1
                obtain ⟨ls', gs'⟩ := g1
                obtain ⟨⟨wa, wc, wts, wus, hw0, hwa, hwl, hwc, hwg⟩, _⟩ := hig
                have hws : ls'.length + Zg.szs gs' ≤ 100000 := by simp only [Zg.szs, Zg.sz] at hzi; omega
                have hwg1 := Zg.len_szs gs'
                refine ⟨_, rfl, .inl ⟨rfl, _, SqL.of hpl3⟩, _, rfl, ic, _, 0, _, rfl, rfl, hic, rfl, u1, _, 0, _, rfl, rfl, hw0, rfl, pl, wa, _, _, rfl, rfl, hpl3, hwa, szL (by rw [List.length_map, List.length_map, hwl.1]; omega), ?_⟩
                have Bu : But pl H3 (upd H3 pl (.lst (ps.map V.ref ++ wts.map V.ref))) := But.upd
                have hic4 := butT hpl3 Bu hic
                have hw4 := butT hpl3 Bu hw0
                have hwc4 := butT hpl3 Bu hwc
                have hrl4 : (upd H3 pl (.lst (ps.map V.ref ++ wts.map V.ref))) rl = some (.lst (qs.map V.ref)) := by
                  rw [upd_ne (fun e => plr e.symm)]
                  exact hrl3
                have hpl4 : (upd H3 pl (.lst (ps.map V.ref ++ wts.map V.ref))) pl = some (.lst ((ps ++ wts).map V.ref)) := by
                  rw [upd_same, List.map_append]
                have hP4 : LitsZ K (upd H3 pl (.lst (ps.map V.ref ++ wts.map V.ref))) (ps ++ wts) ((Zg.flat p r).1 ++ ls') := (hP3.app hwl).but hpl3 But.upd
                have hQ4 := hQ3.but hpl3 Bu
                have hwg4 := hwg.but hpl3 Bu
                have S4 := Same.mut (o := HO.lst (ps.map V.ref ++ wts.map V.ref)) S23 npl
                generalize upd H3 pl (.lst (ps.map V.ref ++ wts.map V.ref)) = H4 at hic4 hw4 hwc4 hrl4 hpl4 hP4 hQ4 hwg4 S4 ⊢
                refine ⟨_, rfl, .inl ⟨rfl, _, SqL.of hrl4⟩, _, rfl, ic, _, 0, _, rfl, rfl, hic4, rfl, u1, _, 1, _, rfl, rfl, hw4, rfl, rl, wc, _, _, rfl, rfl, hrl4, hwc4, szL (by rw [List.length_map, List.length_map, hwg.len]; omega), ?_⟩
                refine ⟨_, _, _, _, _, ps ++ wts, qs ++ wus, rfl, Same.mut S4 nrl0, next rfl, ?_, ?_, ?_, ?_⟩
                · rw [upd_ne plr]
                  exact hpl4
                · rw [Zg.flat_snoc]
                  exact hP4.but hrl4 But.upd
                · rw [upd_same, List.map_append]
                · rw [Zg.flat_snoc]
                  exact (hQ4.app hwg4).but hrl4 But.upd
      · rintro σ H2 ⟨v13, v14, v15, v16, r, ps, qs, rfl, S2, hr, hpl, hP, hrl, hQ⟩
        rw [List.length_map, hG.len, List.take_length] at hr
        refine ⟨_, rfl, pl, _, rfl, .inl ⟨SqL.of hpl, fun t1 nt1 => ⟨_, rfl, rl, _, rfl, .inl ⟨SqL.of ((Same.new nt1) _ _ hrl), fun t2 nt2 => ⟨sz (by simp), fun r3 nr3 => ?_⟩⟩⟩⟩⟩
        have Sa := (Same.new (o := HO.tup (ps.map V.ref)) nt1)
        have Sb := (Same.new (o := HO.tup (qs.map V.ref)) nt2)
        have Sc := (Same.new (o := HO.tup [V.ref t1, V.ref t2]) nr3)
        refine k _ _ (S2.trans (Sa.trans (Sb.trans Sc))) ?_
        rw [hp, hr]
        exact ⟨r3, rfl, t1, t2, ps, qs, SqT.of upd_same, Same.seqT (Sb.trans Sc) (SqT.of upd_same), hP.mono (Sa.trans (Sb.trans Sc)), Same.seqT Sc (SqT.of upd_same), hQ.mono (Sa.trans (Sb.trans Sc))⟩
end
end K18

namespace K18
open PySem L2 Bx
/-- a part as it may be looked at: closed zone, places in range, not too deep or large -/
structure PtOk (m : Nat) (P : Pt) : Prop where
  cl : ∀ d, P.1 = some d → Zn.Closed m d
  ok : Zg.OkGs m P.2
  dp : Zg.deps P.2 ≤ 60
  sz : Zg.szs P.2 ≤ 5000
/-- Q is as P, or less of it -/
structure PtLe (m : Nat) (P Q : Pt) : Prop where
  dp : Zg.deps Q.2 ≤ Zg.deps P.2
  sz : Zg.szs Q.2 ≤ Zg.szs P.2
  st : ∀ x, Zg.In m x Q ↔ Zg.In m x P
theorem PtLe.refl {m : Nat} (P : Pt) : PtLe m P P := ⟨Nat.le_refl _, Nat.le_refl _, fun _ => Iff.rfl⟩
theorem PtLe.trans {m : Nat} {P Q R : Pt} (h : PtLe m P Q) (k : PtLe m Q R) : PtLe m P R := ⟨Nat.le_trans k.dp h.dp, Nat.le_trans k.sz h.sz, fun x => (k.st x).trans (h.st x)⟩
theorem in_some {m : Nat} {x : Nat → Int} {d : Zn.Z} {cs : List Zg.G} : Zg.In m x (some d, cs) ↔ Zn.Sat m d x ∧ Zg.Hd true x (.mk [] cs) := by
  rw [Zg.hd_case]
  unfold Zg.In
  constructor
  · rintro ⟨z, e, S, h⟩
    cases e
    exact ⟨S, fun l hl => (by cases hl), h⟩
  · rintro ⟨S, _, h⟩
    exact ⟨d, rfl, S, h⟩
section
variable {P : Program} {w : World} {K : PySem.W.Frag} {mg : Str → Option Value} {base : Heap} {CC CS aB : Addr}
def spOpened (K : PySem.W.Frag) : Sp := fun vs H Q _ => ∃ (p : Addr) (m : Nat) (R : Pt), vs = [.ref p] ∧ IsPt K H m p R ∧ PtOk m R ∧ m ≤ 900 ∧
  (∀ H', Same H H' → (∀ x, ¬ Zg.In m x R) → Q .non H') ∧ ∀ q d cs H', Same H H' → IsPt K H' m q (some d, cs) → PtOk m (some d, cs) → PtLe m R (some d, cs) → Q (.ref q) H'
theorem ok_opened {f : Addr} {fd : FuncData} (F : C8.Def K mg "opened" s_opened f fd) (b : Binds K fd ["part"] []) (T : Txt K mg CC CS aB) (K_open_group : C8.Cal P w K mg base 73 "open_group" (spOG K 72) []) (K_met_all : C8.Cal P w K mg base 3 "met_all" (spMetAllT K) []) : C8.Cal P w K mg base 74 "opened" (spOpened K) [] := by
  refine C8.cal0 F b .nil sc_opened (fun vs H Q E h => ?_) (fun cdv A outer s H vs Q E hr h => ?_)
  · obtain ⟨p, m, R, rfl, _⟩ := h
    rfl
  obtain ⟨p, m, R, rfl, hp, hok, h900, k1, k2⟩ := h
  obtain ⟨v, c, us, hp0, hz, hc, hG⟩ := id hp
  refine ⟨_, (pss_cons (ps_asg (pv 0) (pg_tup (by rfl) (pgs_cons (pg_name (i := 1) sc_opened.nd rfl (Or.inl rfl)) (pgs_cons (pg_name (i := 2) sc_opened.nd rfl (Or.inl rfl)) pgs_nil))))
    (pss_cons (ps_while PassesOwn.never (PW.pt (pw_and (pt_truth (pv 2) (by intro _; rfl)) (pw_and1 (pt_cmpR op_notN (pv 1) pe_non (nomark _))))) (pss_cons (ps_set (i := 3) sc_opened.nd rfl (Or.inl rfl) (C8.pe_c K_open_group hr (by decide) (by rfl) (pa_cons (pv 1) (pa_cons (pe_tup (pa_cons (pe_tup pa_nil) (pa_cons (pv 2) pa_nil))) (pa_cons pe_bl pa_nil)))))
    (pss_cons (ps_if (pt_cmpR op_isN (pv 3) pe_non (nomark _)) (pss_one (ps_ret pe_non)) pss_nil)
    (pss_cons (ps_asg (pv 3) (pg_tup (by rfl) (pgs_cons (pg_name (i := 4) sc_opened.nd rfl (Or.inl rfl)) (pgs_cons (pg_name (i := 2) sc_opened.nd rfl (Or.inl rfl)) pgs_nil))))
    (pss_cons (ps_if (pt_not (pt_truth (pv 4) (by intro _; rfl))) (pss_one (ps_ret (pe_tup (pa_cons (pv 1) (pa_cons (pv 2) pa_nil))))) pss_nil)
    (pss_one (ps_set (i := 1) sc_opened.nd rfl (Or.inl rfl) (C8.pe_c K_met_all hr (by decide) (by rfl) (pa_cons (pv 1) (pa_cons (pv 4) pa_nil))))))))))
    (pss_one (ps_ret (pe_ifExp (pt_cmpR op_isN (pv 1) pe_non (nomark _)) pe_non (pe_tup (pa_cons (pv 1) (pa_cons (pe_tup pa_nil) pa_nil)))))))), ?_⟩
  refine ⟨_, rfl, p, _, rfl, hp0, rfl, _, _, rfl, _, _, rfl, rfl, ?_⟩
  dsimp only [gName, tSeq, tAsg, tC]
  refine while_g (fun n σ H' => ∃ (v : V) (c : Addr) (us : List Addr) (v3 v4 : Option V) (o : Option Zn.Z) (cs : List Zg.G), σ = [some (.ref p), some v, some (.ref c), v3, v4] ∧ Same H H' ∧ n = Zg.szs cs ∧ ZV K H' m v o ∧ SqT K H' c (us.map V.ref) ∧ IsGs K H' us cs ∧ PtOk m (o, cs) ∧ PtLe m R (o, cs)) (Zg.szs R.2) ⟨v, c, us, none, none, R.1, R.2, rfl, Same.refl H, rfl, hz, hc, hG, hok, PtLe.refl R⟩ ?_ ?_
  · rintro n σ H1 ⟨v, c, us, v3, v4, o, cs, rfl, S1, rfl, hz, hc, hG, hok, hle⟩
    have emp : (!(us.map V.ref).isEmpty) = !cs.isEmpty := by
      have := hG.len
      cases cs with
      | nil =>
        have e : us = [] := List.length_eq_zero_iff.mp this
        subst e
        rfl
      | cons q0 il0 => cases us with
        | nil => cases this
        | cons t0 its0 => rfl
    have emptyP : o = none → ∀ x, ¬ Zg.In m x R := fun e x h => by
      have := (hle.st x).mpr h
      obtain ⟨z, hz, _⟩ := this
      rw [e] at hz
      cases hz
    cases cs with
    | nil =>
      refine ⟨_, rfl, false, .inr (.inl ⟨_, hc, emp.symm⟩), iteF (iteF ?_)⟩
      cases o with
      | none =>
        cases hz
        exact ⟨_, rfl, rfl, _, rfl, iteT (k1 H1 S1 (emptyP rfl))⟩
      | some d =>
        obtain ⟨z, rfl, hz⟩ := hz
        refine ⟨_, rfl, rfl, _, rfl, iteF ?_⟩
        refine ⟨_, rfl, sz (by simp), fun a na => ⟨sz (by simp), fun q nq => ?_⟩⟩
        have Sa := (Same.new (o := HO.tup []) na).trans (Same.new (o := HO.tup [V.ref z, V.ref a]) nq)
        exact k2 q d [] _ (S1.trans Sa) ⟨.ref z, a, [], SqT.of upd_same, ⟨z, rfl, hz.mono Sa⟩, Same.seqT (Same.new nq) (SqT.of upd_same), trivial⟩ hok hle
    | cons g0 cs0 =>
      refine ⟨_, rfl, true, .inr (.inl ⟨_, hc, emp.symm⟩), iteT ?_⟩
      cases o with
      | none =>
        cases hz
        refine ⟨_, rfl, rfl, _, rfl, iteF ?_⟩
        exact ⟨_, rfl, rfl, _, rfl, iteT (k1 H1 S1 (emptyP rfl))⟩
      | some d =>
        obtain ⟨z, rfl, hz⟩ := hz
        refine ⟨_, rfl, rfl, _, rfl, iteT ?_⟩
        clear emptyP emp
        generalize g0 :: cs0 = cs at hG hok hle ⊢
        have hC := hok.cl d rfl
        have hdp := hok.dp
        have hsz := hok.sz
        have hokg := hok.ok
        dsimp only at hdp hsz hokg
        refine ⟨_, rfl, sz (by simp), fun e ne => ⟨_, rfl, sz (by simp), fun g ng => ?_⟩⟩
        have Se := Same.new (o := HO.tup []) ne
        have Sg := Same.new (o := HO.tup [V.ref e, V.ref c]) ng
        have Seg := Se.trans Sg
        refine ⟨z, g, m, d, .mk [] cs, true, rfl, hz.mono Seg, ⟨e, c, [], us, SqT.of upd_same, Same.seqT Sg (SqT.of upd_same), LitsZ.nil, Same.seqT Seg hc, hG.mono Seg⟩, ⟨fun l hl => (by cases hl), hokg⟩, by simp only [Zg.dep]; omega, by simp only [Zg.sz, List.length_nil]; omega, fun v H2 S2 hv => ?_⟩
        have S12 := Seg.trans S2
        have og : ∀ x, Zn.Sat m d x → _ := fun x S => Zg.opn_ok S true (.mk [] cs) ⟨fun l hl => (by cases hl), hokg⟩
        cases eo : Zg.opn d true (.mk [] cs) with
        | none =>
          rw [eo] at hv
          cases hv
          refine ⟨_, rfl, rfl, _, rfl, iteT (k1 H2 (S1.trans S12) fun x hx => ?_)⟩
          obtain ⟨h1, h2⟩ := in_some.mp ((hle.st x).mpr hx)
          have := ((og x h1).2 eo).mp h2
          cases this
        | some h =>
          rw [eo] at hv
          obtain ⟨gh, rfl, hgh⟩ := hv
          obtain ⟨ls, cs'⟩ := h
          obtain ⟨a, c', ts, us', hg0, ha, hL, hc', hG'⟩ := hgh
          obtain ⟨tu1, tu2, tu3⟩ := Zg.opn_turn (m := m) eo hokg
          have td := Zg.opn_dep true _ _ eo
          simp only [Zg.dep] at td
          have hst : ∀ x, Zn.Sat m d x → (Zg.Hd true x (.mk ls cs') ↔ Zg.Hd true x (.mk [] cs)) := fun x S => (og x S).1 _ eo
          refine ⟨_, rfl, rfl, _, rfl, iteF ?_⟩
          refine ⟨_, rfl, gh, _, rfl, hg0, rfl, _, _, rfl, _, _, rfl, rfl, ?_⟩
          have hz2 := hz.mono S12
          cases ls with
          | nil =>
            have e : ts = [] := List.length_eq_zero_iff.mp hL.1
            subst e
            refine ⟨_, rfl, false, .inr (.inl ⟨_, ha, rfl⟩), iteT ?_⟩
            refine ⟨_, rfl, _, rfl, sz (by simp), fun q nq => ?_⟩
            have Sq := Same.new (o := HO.tup [V.ref z, V.ref c']) nq
            refine k2 q d cs' _ (S1.trans (S12.trans Sq)) ⟨.ref z, c', us', SqT.of upd_same, ⟨z, rfl, hz2.mono Sq⟩, Same.seqT Sq hc', hG'.mono Sq⟩ ⟨fun d' e => by cases e; exact hC, tu3, by show Zg.deps cs' ≤ 60; omega, by show Zg.szs cs' ≤ 5000; omega⟩ (hle.trans ⟨by show Zg.deps cs' ≤ Zg.deps cs; omega, by show Zg.szs cs' ≤ Zg.szs cs; omega, fun x => ?_⟩)
            rw [in_some, in_some]
            exact and_congr_right fun S => hst x S
          | cons l0 ls0 =>
            have emp2 : true = !(ts.map V.ref).isEmpty := by
              cases ts with
              | nil => cases hL.1
              | cons t0 its0 => rfl
            refine ⟨_, rfl, true, .inr (.inl ⟨_, ha, emp2⟩), iteF ?_⟩
            have hlt : Zg.szs cs' < Zg.szs cs := by simp only [List.length_cons] at tu1; omega
            have eqv : ∀ x, Zg.In m x (Zn.metAll d (l0 :: ls0), cs') ↔ Zg.In m x (some d, cs) := fun x => by
              rw [Zg.in_metAll hC tu2, in_some]
              refine and_congr_right fun S => ?_
              rw [← hst x S, Zg.hd_case]
            refine ⟨_, rfl, _, rfl, z, a, ts, m, d, _, rfl, hz2, ha, hL, tu2, h900, fun H3 S3 e3 => ?_, fun z' d' H3 S3 e3 hz3 => ?_⟩
            · rw [e3] at eqv
              exact ⟨_, hlt, .non, c', us', _, _, none, cs', rfl, S1.trans (S12.trans S3), rfl, rfl, Same.seqT S3 hc', hG'.mono S3, ⟨fun d' e => (by cases e), tu3, by show Zg.deps cs' ≤ 60; omega, by show Zg.szs cs' ≤ 5000; omega⟩, hle.trans ⟨by show Zg.deps cs' ≤ Zg.deps cs; omega, by show Zg.szs cs' ≤ Zg.szs cs; omega, eqv⟩⟩
            · rw [e3] at eqv
              have hC' := (Zn.metAll_some hC tu2 e3).1
              exact ⟨_, hlt, .ref z', c', us', _, _, some d', cs', rfl, S1.trans (S12.trans S3), rfl, ⟨z', rfl, hz3⟩, Same.seqT S3 hc', hG'.mono S3, ⟨fun d'' e => by cases e; exact hC', tu3, by show Zg.deps cs' ≤ 60; omega, by show Zg.szs cs' ≤ 5000; omega⟩, hle.trans ⟨by show Zg.deps cs' ≤ Zg.deps cs; omega, by show Zg.szs cs' ≤ Zg.szs cs; omega, eqv⟩⟩
  · rintro σ H Q Q' hq ⟨v, hv, kk, t, q⟩
    refine ⟨v, hv, kk, t, ?_⟩
    cases kk with
    | false => exact hq _ _ q
    | true =>
      obtain ⟨u, hu, e, c, ec, q⟩ := q
      exact ⟨u, hu, e, c, ec, hq _ _ q⟩
end
end K18

namespace K18
open PySem L2 Bx
section
variable {P : Program} {w : World} {K : PySem.W.Frag} {mg : Str → Option Value} {base : Heap} {CC CS aB : Addr}
theorem cal_imp {k : Nat} {x : Str} {sp sp' : Sp} (c : C8.Cal P w K mg base k x sp []) (h : ∀ vs H Q E, sp' vs H Q E → sp vs H Q E) : C8.Cal P w K mg base k x sp' [] := by
  obtain ⟨f, fd, ps, ds, F, h2, h3, h4, h5⟩ := c.ex
  exact ⟨f, fd, ps, ds, F.imp fun vs H Q E q => by
    exact h vs H Q E q, h2, h3, h4, h5⟩
def spMetV (K : PySem.W.Frag) : Sp := fun vs H Q _ => ∃ (z l : Addr) (m : Nat) (d : Zn.Z) (q : Zn.Lit), vs = [.ref z, .ref l] ∧ IsZ K H z m d ∧ LitZ K H l q ∧ q.1 < m ∧ q.2.1 < m ∧ m ≤ 900 ∧ ∀ v H', Same H H' → ZV K H' m v (Zn.met d q) → Q v H'
theorem metV (c : C8.Cal P w K mg base 2 "met" (spMet K) []) : C8.Cal P w K mg base 2 "met" (spMetV K) [] := cal_imp c fun vs H Q E h => by
  obtain ⟨z, l, m, d, q, rfl, h1, h2, h3, h4, h5, k⟩ := h
  exact ⟨z, l, m, d, q, rfl, h1, h2, h3, h4, h5, fun H' S e => k _ H' S (by rw [e]; rfl), fun z' d' H' S e hz => k _ H' S (by rw [e]; exact ⟨z', rfl, hz⟩)⟩
def spMetAllV (K : PySem.W.Frag) : Sp := fun vs H Q _ => ∃ (z l : Addr) (ts : List Addr) (m : Nat) (d : Zn.Z) (qs : List Zn.Lit), vs = [.ref z, .ref l] ∧ IsZ K H z m d ∧ SqT K H l (ts.map V.ref) ∧ LitsZ K H ts qs ∧ Zn.Ok m qs ∧ m ≤ 900 ∧ ∀ v H', Same H H' → ZV K H' m v (Zn.metAll d qs) → Q v H'
theorem metAllV (c : C8.Cal P w K mg base 3 "met_all" (spMetAllT K) []) : C8.Cal P w K mg base 3 "met_all" (spMetAllV K) [] := cal_imp c fun vs H Q E h => by
  obtain ⟨z, l, ts, m, d, qs, rfl, h1, h2, h3, h4, h5, k⟩ := h
  exact ⟨z, l, ts, m, d, qs, rfl, h1, h2, h3, h4, h5, fun H' S e => k _ H' S (by rw [e]; rfl), fun z' d' H' S e hz => k _ H' S (by rw [e]; exact ⟨z', rfl, hz⟩)⟩
theorem IsGs.out {H : Hp} : ∀ {us : List Addr} {gs : List Zg.G} (i : Nat), IsGs K H us gs → IsGs K H (us.take i ++ us.drop (i + 1)) (gs.take i ++ gs.drop (i + 1))
  | [], [], i, _ => by simp [IsGs]
  | u :: us, g :: gs, 0, h => by simpa using h.2
  | u :: us, g :: gs, i + 1, h => ⟨h.1, IsGs.out i h.2⟩
  | [], _ :: _, _, h => h.elim
  | _ :: _, [], _, h => h.elim
def spWeight (K : PySem.W.Frag) : Sp := fun vs H Q _ => ∃ (g : Addr) (G : Zg.G), vs = [.ref g] ∧ IsG K H g G ∧ Zg.sz G ≤ 100000 ∧ ∀ n H', Same H H' → Q (.int n) H'
theorem ok_weight {f : Addr} {fd : FuncData} (F : C8.Def K mg "weight" s_weight f fd) (b : Binds K fd ["clause"] []) (T : Txt K mg CC CS aB) : C8.Cal P w K mg base 1 "weight" (spWeight K) [] := by
  refine C8.cal0 F b .nil sc_weight (fun vs H Q E h => ?_) (fun cdv A outer s H vs Q E hr h => ?_)
  · obtain ⟨g, G, rfl, _⟩ := h
    rfl
  obtain ⟨g, ⟨ls, gs⟩, rfl, ⟨a, c, ts, us, hg0, ha, hL, hc, hG⟩, hs, k⟩ := h
  refine ⟨_, (pss_cons (ps_asg (pv 0) (pg_tup (by rfl) (pgs_cons (pg_name (i := 1) sc_weight.nd rfl (Or.inl rfl)) (pgs_cons (pg_name (i := 2) sc_weight.nd rfl (Or.inl rfl)) pgs_nil))))
    (pss_one (ps_ret (pe_op op_add (pe_op op_mul (pe_callB call_len_seq (by rfl) T.z_len (by decide +kernel) (pa_cons (pv 1) pa_nil)) (pe_op op_shr (C8.pe_gc (by rfl) T.c_FULL) pe_int)) (pe_callB (cr_sum rfl) (by rfl) T.z_sum (by decide +kernel) (pa_cons (pe_lc (own := [("inner", 3), ("clauses", 4)]) (g := _) (tt := tYes) rfl sc_weight.nd (pi_tup (pv 2)) (blkOk_by (own := [("inner", 3), ("clauses", 4)]) (N := N_weight) (sc := C8.fnScope s_weight) (by decide +kernel)) (fun _ _ _ _ _ => (pgTK K 2 (pgs_cons (pg_name (i := 3) sc_weight.nd rfl (Or.inl rfl)) (pgs_cons (pg_name (i := 4) sc_weight.nd rfl (Or.inl rfl)) pgs_nil)))) (fun _ _ _ _ _ => pts_nil) (fun _ _ _ _ _ => (pe_op op_shr (C8.pe_gc (by rfl) T.c_FULL) (pe_callB (lenK K) (by rfl) T.z_len (by decide +kernel) (pa_cons (pv 3) pa_nil))))) pa_nil)))))), ?_⟩
  have hls : ls.length + Zg.szs gs ≤ 100000 := by simp only [Zg.sz] at hs; omega
  have hlg := Zg.len_szs gs
  refine ⟨_, rfl, g, _, rfl, hg0, rfl, _, _, rfl, _, _, rfl, rfl, ?_⟩
  refine ⟨_, rfl, a, _, rfl, .inr ha, _, 1, rfl, rfl, by decide, _, _, rfl, rfl, .inr ⟨by decide, by decide⟩, ?_⟩
  refine ⟨_, rfl, c, rfl, ⟨_, hc⟩, fun D nD => lc_tup (xs := us.map V.ref) (fun j H' => ∃ ns : List Int, Same H H' ∧ H' D = some (.lst (ns.map V.int)) ∧ ns.length = j) ⟨[], Same.new nD, upd_same, rfl⟩ (fun j H' _ h => ?_) ?_ ?_⟩
  · obtain ⟨_, S, _⟩ := h
    exact Same.seqT S hc
  · rintro j x H1 hx ⟨ns, S1, hD, hn⟩
    rw [List.getElem?_map] at hx
    obtain ⟨u, hu, rfl⟩ := Option.map_eq_some_iff.mp hx
    obtain ⟨⟨l2, g2⟩, hG', hu'⟩ := hG.at_ hu
    obtain ⟨a2, c2, ts2, us2, k0, k1, _⟩ := hu'.mono S1
    have hj := (List.getElem?_eq_some_iff.mp hG').1
    refine ⟨u, _, rfl, k0, rfl, _, _, rfl, _, _, rfl, rfl, rfl, ?_⟩
    refine ⟨_, rfl, a2, _, rfl, .inr k1, _, _, rfl, rfl, Int.natCast_nonneg _, _, hD, szLs (by rw [List.length_map]; omega), ns ++ [_], Same.mut S1 nD, by rw [upd_same, List.map_append]; rfl, by simp [hn]⟩
  · rintro H1 ⟨ns, S1, hD, hn⟩
    exact ⟨D, ns, rfl, SqL.of hD, _, _, rfl, rfl, k _ _ S1⟩
def spLightest (K : PySem.W.Frag) : Sp := fun vs H Q _ => ∃ (c : Addr) (us : List Addr) (cs : List Zg.G), vs = [.ref c] ∧ SqT K H c (us.map V.ref) ∧ IsGs K H us cs ∧ cs ≠ [] ∧ Zg.szs cs ≤ 100000 ∧ ∀ (i : Nat) H', Same H H' → i < cs.length → Q (.int (i : Nat)) H'
theorem ok_lightest {f : Addr} {fd : FuncData} (F : C8.Def K mg "lightest" s_lightest f fd) (b : Binds K fd ["clauses"] []) (T : Txt K mg CC CS aB) (K_weight : C8.Cal P w K mg base 1 "weight" (spWeight K) []) : C8.Cal P w K mg base 2 "lightest" (spLightest K) [] := by
  refine C8.cal0 F b .nil sc_lightest (fun vs H Q E h => ?_) (fun cdv A outer s H vs Q E hr h => ?_)
  · obtain ⟨c, us, cs, rfl, _⟩ := h
    rfl
  obtain ⟨c, us, cs, rfl, hc, hG, hne, hs, k⟩ := h
  refine ⟨_, (pss_cons (ps_set (i := 1) sc_lightest.nd rfl (Or.inl rfl) pe_int)
    (pss_cons (ps_set (i := 2) sc_lightest.nd rfl (Or.inl rfl) (C8.pe_c K_weight hr (by decide) (by rfl) (pa_cons (pe_ix ix_tup (pv 0) pe_int (fun _ _ => rfl)) pa_nil)))
    (pss_cons (ps_for PassesOwn.never rfl (En.pi_enumT (by rfl) T.z_enumerate (pa_cons (pv 0) pa_nil)) (pg_tup (by rfl) (pgs_cons (pg_name (i := 3) sc_lightest.nd rfl (Or.inl rfl)) (pgs_cons (pg_name (i := 4) sc_lightest.nd rfl (Or.inl rfl)) pgs_nil)))
    (pss_cons (ps_set (i := 5) sc_lightest.nd rfl (Or.inl rfl) (C8.pe_c K_weight hr (by decide) (by rfl) (pa_cons (pv 4) pa_nil)))
    (pss_one (ps_if (pt_cmpR op_lt (pv 5) (pv 2) (nomark _)) (pss_cons (ps_set (i := 1) sc_lightest.nd rfl (Or.inl rfl) (pv 3))
    (pss_one (ps_set (i := 2) sc_lightest.nd rfl (Or.inl rfl) (pv 5)))) pss_nil))))
    (pss_one (ps_ret (pv 1)))))), ?_⟩
  have hlen := hG.len
  obtain ⟨u0, hu0⟩ : ∃ u0, us[0]? = some u0 := by
    cases us with
    | nil =>
      exfalso
      apply hne
      exact List.length_eq_zero_iff.mp hlen.symm
    | cons u r => exact ⟨u, rfl⟩
  obtain ⟨g0, hg0, hu0'⟩ := hG.at_ hu0
  have hp : 0 < cs.length := (List.getElem?_eq_some_iff.mp hg0).1
  refine ⟨_, rfl, c, _, 0, _, rfl, rfl, hc, atI_nat (by rw [List.getElem?_map, hu0]; rfl), u0, g0, rfl, hu0', by have := szs_mem (List.mem_of_getElem? hg0); omega, fun n0 H1 S1 => ?_⟩
  have hc1 := Same.seqT S1 hc
  have hG1 := hG.mono S1
  refine ⟨_, rfl, c, _, rfl, hc1, En.for_enumT (xs := us.map V.ref) (fun i σ H' => ∃ (at_ : Nat) (n : Int) (v3 v4 v5 : Option V), σ = [some (.ref c), some (.int (at_ : Nat)), some (.int n), v3, v4, v5] ∧ Same H1 H' ∧ at_ < cs.length) ⟨0, n0, none, none, none, rfl, Same.refl H1, hp⟩ (fun i σ H' h => ?_) ?_ ?_⟩
  · obtain ⟨_, _, _, _, _, _, S, _⟩ := h
    exact Same.seqT S hc1
  · rintro i x q σ H2 hx ⟨at_, n, v3, v4, v5, rfl, S2, hat⟩ nq
    rw [List.getElem?_map] at hx
    obtain ⟨u, hu, rfl⟩ := Option.map_eq_some_iff.mp hx
    obtain ⟨G', hG', hu'⟩ := hG1.at_ hu
    have hi := (List.getElem?_eq_some_iff.mp hG').1
    have Sq := S2.trans (Same.new (o := HO.tup [.int (i : Nat), .ref u]) nq)
    refine ⟨q, _, rfl, SqT.of upd_same, rfl, _, _, rfl, _, _, rfl, rfl, ?_⟩
    refine ⟨_, rfl, u, G', rfl, hu'.mono Sq, by have := szs_mem (List.mem_of_getElem? hG'); omega, fun n2 H3 S3 => ?_⟩
    refine ⟨_, rfl, _, rfl, n2, n, rfl, rfl, _, rfl, ?_⟩
    by_cases hl : n2 < n
    · rw [decide_eq_true hl]
      exact iteT ⟨_, rfl, _, rfl, i, n2, _, _, _, rfl, Sq.trans S3, hi⟩
    · rw [decide_eq_false hl]
      exact iteF ⟨at_, n, _, _, _, rfl, Sq.trans S3, hat⟩
  · rintro σ H2 ⟨at_, n, v3, v4, v5, rfl, S2, hat⟩
    exact ⟨_, rfl, k at_ H2 (S1.trans S2) hat⟩
/-- the branches of a part with clauses -/
def spBranches (K : PySem.W.Frag) : Sp := fun vs H Q _ => ∃ (p : Addr) (m : Nat) (d : Zn.Z) (cs : List Zg.G), vs = [.ref p] ∧ IsPt K H m p (some d, cs) ∧ PtOk m (some d, cs) ∧ cs ≠ [] ∧ m ≤ 900 ∧
  ∀ l ps Bs H', Same H H' → H l = none → H' l = some (.lst (ps.map V.ref)) → Pts K H' m ps Bs → (∀ B ∈ Bs, PtOk m B ∧ Zg.szs B.2 < Zg.szs cs ∧ Zg.deps B.2 ≤ Zg.deps cs) → Bs.length ≤ Zg.szs cs → (∀ x, (∃ B ∈ Bs, Zg.In m x B) ↔ Zg.In m x (some d, cs)) → Q (.ref l) H'
theorem ok_branches {f : Addr} {fd : FuncData} (F : C8.Def K mg "branches" s_branches f fd) (b : Binds K fd ["part"] []) (T : Txt K mg CC CS aB) (K_lightest : C8.Cal P w K mg base 2 "lightest" (spLightest K) []) (K_met : C8.Cal P w K mg base 2 "met" (spMetV K) [])
    (K_opposite : C8.Cal P w K mg base 1 "opposite" (spOpposite K) []) (K_met_all : C8.Cal P w K mg base 3 "met_all" (spMetAllV K) []) (K_denied : C8.Cal P w K mg base 74 "denied" (spDenied K 72) []) : C8.Cal P w K mg base 75 "branches" (spBranches K) [] := by
  refine C8.cal0 F b .nil sc_branches (fun vs H Q E h => ?_) (fun cdv A outer s H vs Q E hr h => ?_)
  · obtain ⟨p, m, d, cs, rfl, _⟩ := h
    rfl
  obtain ⟨p, m, d, cs, rfl, hp, hok, hne, h900, k⟩ := h
  obtain ⟨v, c, us, hp0, ⟨z, rfl, hz⟩, hc, hG⟩ := hp
  refine ⟨_, (pss_cons (ps_asg (pv 0) (pg_tup (by rfl) (pgs_cons (pg_name (i := 1) sc_branches.nd rfl (Or.inl rfl)) (pgs_cons (pg_name (i := 2) sc_branches.nd rfl (Or.inl rfl)) pgs_nil))))
    (pss_cons (ps_set (i := 3) sc_branches.nd rfl (Or.inl rfl) (C8.pe_c K_lightest hr (by decide) (by rfl) (pa_cons (pv 2) pa_nil)))
    (pss_cons (ps_set (i := 4) sc_branches.nd rfl (Or.inl rfl) (pe_op op_catU (pe_slice sl_tupU (pv 2) po_none (po_some (pv 3))) (pe_slice sl_tupU (pv 2) (po_some (pe_op op_add (pv 3) pe_int)) po_none)))
    (pss_cons (ps_asg (pe_ix ix_tup (pv 2) (pv 3) (fun _ _ => rfl)) (pg_tup (by rfl) (pgs_cons (pg_name (i := 5) sc_branches.nd rfl (Or.inl rfl)) (pgs_cons (pg_name (i := 6) sc_branches.nd rfl (Or.inl rfl)) pgs_nil))))
    (pss_cons (ps_set (i := 7) sc_branches.nd rfl (Or.inl rfl) (pe_lst pa_nil))
    (pss_cons (ps_for PassesOwn.never rfl (pi_tup (pv 5)) (pg_name (i := 8) sc_branches.nd rfl (Or.inl rfl))
    (pss_cons (ps_expr (pe_bm PySem.F.plainAttrs_list PySem.F.slot_list_append PySem.F.type_list_append mt_append (pv 7) (pa_cons (pe_tup (pa_cons (C8.pe_c K_met hr (by decide) (by rfl) (pa_cons (pv 1) (pa_cons (pv 8) pa_nil))) (pa_cons (pv 4) pa_nil))) pa_nil)))
    (pss_cons (ps_set (i := 1) sc_branches.nd rfl (Or.inl rfl) (C8.pe_c K_met hr (by decide) (by rfl) (pa_cons (pv 1) (pa_cons (C8.pe_c K_opposite hr (by decide) (by rfl) (pa_cons (pv 8) pa_nil)) pa_nil))))
    (pss_one (ps_if (pt_cmpR op_isN (pv 1) pe_non (nomark _)) (pss_one (ps_ret (pv 7))) pss_nil)))))
    (pss_cons (ps_for PassesOwn.never rfl (pi_tup (pv 6)) (pg_name (i := 9) sc_branches.nd rfl (Or.inl rfl))
    (pss_cons (ps_expr (pe_bm PySem.F.plainAttrs_list PySem.F.slot_list_append PySem.F.type_list_append mt_append (pv 7) (pa_cons (pe_tup (pa_cons (C8.pe_c K_met_all hr (by decide) (by rfl) (pa_cons (pv 1) (pa_cons (pe_ix ix_tup (pv 9) pe_int (fun _ _ => rfl)) pa_nil))) (pa_cons (pe_op op_catU (pv 4) (pe_ix ix_tup (pv 9) pe_int (fun _ _ => rfl))) pa_nil))) pa_nil)))
    (pss_one (ps_set (i := 4) sc_branches.nd rfl (Or.inl rfl) (pe_op op_catU (pv 4) (pe_tup (pa_cons (C8.pe_c K_denied hr (by decide) (by rfl) (pa_cons (pv 9) pa_nil)) pa_nil)))))))
    (pss_one (ps_ret (pv 7)))))))))), ?_⟩
  have hC := hok.cl d rfl
  have hdp := hok.dp
  have hsz := hok.sz
  have hokg := hok.ok
  dsimp only at hdp hsz hokg hG
  have hlen := hG.len
  have hlsz := Zg.len_szs cs
  refine ⟨_, rfl, p, _, rfl, hp0, rfl, _, _, rfl, _, _, rfl, rfl, ?_⟩
  refine ⟨_, rfl, c, us, cs, rfl, hc, hG, hne, by omega, fun i H1 S1 hi => ?_⟩
  have hc1 := Same.seqT S1 hc
  have hG1 := hG.mono S1
  have hil : i ≤ (us.map V.ref).length := by rw [List.length_map]; omega
  have hil1 : i + 1 ≤ (us.map V.ref).length := by rw [List.length_map]; omega
  refine ⟨_, rfl, _, rfl, _, rfl, c, _, rfl, hc1, fun c1 H2 S2 hc2 => ?_⟩
  rw [cut_to hil] at hc2
  have hc12 := Same.seqT S2 hc1
  refine ⟨_, rfl, _, rfl, _, _, rfl, rfl, _, rfl, c, _, rfl, hc12, fun c3 H3 S3 hc3 => ?_⟩
  rw [show ((i : Nat) : Int) + 1 = ((i + 1 : Nat) : Int) by omega, cut_from hil1] at hc3
  refine ⟨c1, c3, _, _, rfl, rfl, Same.seqT S3 hc2, hc3, szL (by rw [List.length_take, List.length_drop, List.length_map]; omega), fun rr H4 S4 hrr => ?_⟩
  rw [← List.map_take, ← List.map_drop, ← List.map_append] at hrr
  have S04 := S1.trans (S2.trans (S3.trans S4))
  have hG4 := hG.mono S04
  have hR4 : IsGs K H4 (us.take i ++ us.drop (i + 1)) (cs.take i ++ cs.drop (i + 1)) := hG4.out i
  obtain ⟨g, hg⟩ : ∃ g, cs[i]? = some g := ⟨_, List.getElem?_eq_getElem hi⟩
  obtain ⟨u, hu⟩ : ∃ u, us[i]? = some u := ⟨_, List.getElem?_eq_getElem (by omega)⟩
  obtain ⟨g', hg', hug⟩ := hG4.at_ hu
  rw [hg] at hg'
  cases hg'
  have os := Zg.out_szs hg
  have om := Zg.out_mem hg
  obtain ⟨od1, od2⟩ := Zg.out_deps hg
  have hgok := okGs_mem hokg (List.mem_of_getElem? hg)
  have hrok : Zg.OkGs m (cs.take i ++ cs.drop (i + 1)) := Zg.okGs_iff.mpr fun q hq => okGs_mem hokg ((om q).mpr (.inr hq))
  have hIn : ∀ x, Zg.In m x (some d, cs) ↔ Zn.Sat m d x ∧ Zg.Hd false x g ∧ ∀ q ∈ cs.take i ++ cs.drop (i + 1), Zg.Hd false x q := fun x => by
    rw [in_some, Zg.hd_case]
    refine and_congr_right fun _ => ⟨fun h => ⟨h.2 g ((om g).mpr (.inl rfl)), fun q hq => h.2 q ((om q).mpr (.inr hq))⟩, fun h => ⟨fun l hl => (by cases hl), fun q hq => ?_⟩⟩
    rcases (om q).mp hq with rfl | hq
    · exact h.1
    · exact h.2 q hq
  generalize cs.take i ++ cs.drop (i + 1) = rest at hR4 os hrok hIn od1
  generalize us.take i ++ us.drop (i + 1) = urest at hR4 hrr
  obtain ⟨ls, gs⟩ := g
  obtain ⟨a', c', ts, us', hu0, ha, hL, hc', hG'⟩ := hug
  obtain ⟨hgok1, hgok2⟩ := hgok
  have hbl := Zg.branches_len (d := d) (rest := rest) (ls := ls) (cases := gs)
  have hlr := hR4.len
  have hlrs := Zg.len_szs rest
  have hlgs := Zg.len_szs gs
  have hsg : ls.length + Zg.szs gs + 1 = Zg.sz (.mk ls gs) := by simp only [Zg.sz]; omega
  clear hG1 hc1 hc12 hc2 hc3 hG4
  have done : ∀ l ps H', Same H H' → H l = none → H' l = some (.lst (ps.map V.ref)) → Pts K H' m ps (Zg.branches d rest ls gs) → Q (.ref l) H' := fun l ps H' S n e hP => by
    refine k l ps _ H' S n e hP (fun B hB => ?_) (by omega) fun x => ?_
    · obtain ⟨z1, z2⟩ := Zg.branches_sz (m := m) hB
      have z3 := Zg.branches_dep hB
      have z4 := Zg.branches_cl hC hgok1 hgok2 B hB
      simp only [Zg.dep] at od2
      exact ⟨⟨z4, z2 hrok hgok2, by omega, by omega⟩, by omega, by omega⟩
    · rw [Zg.branches_in hC hgok1 hgok2, hIn]
  refine ⟨_, rfl, _, rfl, c, _, _, _, rfl, rfl, Same.seqT S04 hc, atI_nat (by rw [List.getElem?_map, hu]; rfl), u, _, rfl, hu0, rfl, _, _, rfl, _, _, rfl, rfl, ?_⟩
  refine ⟨sz (by simp), fun l nl => ?_⟩
  have nl0 : H l = none := by
    cases e : H l with
    | none => rfl
    | some o =>
      rw [S04 _ _ e] at nl
      cases nl
  have Sl := Same.new (o := HO.lst []) nl
  have hz4 := hz.mono (S04.trans Sl)
  refine ⟨_, rfl, a', rfl, ⟨_, Same.seqT Sl ha⟩, for_tup (xs := ts.map V.ref) (fun j σ H' => ∃ (z' : Addr) (d' : Zn.Z) (v8 : Option V) (ps : List Addr), σ = [some (.ref p), some (.ref z'), some (.ref c), some (.int (i : Nat)), some (.ref rr), some (.ref a'), some (.ref c'), some (.ref l), v8, none] ∧ Same H H' ∧ Same H4 H' ∧ IsZ K H' z' m d' ∧ H' l = some (.lst (ps.map V.ref)) ∧ Pts K H' m ps (Zg.brLits d rest (ls.take j)).1 ∧ (Zg.brLits d rest (ls.take j)).2 = some d' ∧ Zn.Closed m d') ⟨z, d, none, [], rfl, S04.trans Sl, Sl, hz4, upd_same, Pts.nil, rfl, hC⟩ (fun j σ H' _ h => ?_) ?_ ?_⟩
  · obtain ⟨_, _, _, _, _, _, S, _⟩ := h
    exact Same.seqT S ha
  · rintro j x σ H5 hx ⟨z', d', v8, ps, rfl, S5, S45, hz5, hl5, hP5, hbr, hC5⟩
    rw [List.getElem?_map] at hx
    obtain ⟨t, ht, rfl⟩ := Option.map_eq_some_iff.mp hx
    have hj : j < ls.length := by
      rw [← hL.1]
      exact (List.getElem?_eq_some_iff.mp ht).1
    have hq := List.getElem?_eq_getElem hj
    obtain ⟨t', h1, h2⟩ := hL.2 j _ hq
    rw [ht] at h1
    cases h1
    obtain ⟨o1, o2⟩ := hgok1 _ (List.getElem_mem hj)
    generalize ls[j] = q at hq h2 o1 o2
    have sn := Zg.brLits_snoc (rest := rest) (ls := ls.take j) (d := d) (l := q)
    rw [hbr] at sn
    dsimp only at sn
    rw [← take_snoc hq] at sn
    have hlen5 : ps.length ≤ ls.length := by
      rw [hP5.1]
      have := Zg.brLits_len (d := d) (rest := rest) (ls.take j) d
      rw [List.length_take] at this
      omega
    refine ⟨_, rfl, .inl ⟨rfl, _, SqL.of hl5⟩, _, rfl, _, rfl, z', t, m, d', q, rfl, hz5, h2.mono S45, o1, o2, h900, fun v1 H6 S6 hv1 => ⟨_, rfl, sz (by simp), fun pn npn => ?_⟩⟩
    have Sn := Same.new (o := HO.tup [v1, .ref rr]) npn
    have hl6 := Sn _ _ (S6 _ _ hl5)
    refine ⟨l, _, _, rfl, rfl, hl6, szLs (by rw [List.length_map]; omega), ?_⟩
    have S46 := S45.trans (S6.trans Sn)
    have hpn : IsPt K (upd H6 pn (HO.tup [v1, .ref rr])) m pn (Zn.met d' q, rest) := ⟨v1, rr, urest, SqT.of upd_same, hv1.mono Sn, Same.seqT S46 hrr, hR4.mono S46⟩
    have hP6 := ((hP5.mono (S6.trans Sn)).snoc hpn).but hl6 (But.upd (o := HO.lst (ps.map V.ref ++ [V.ref pn])))
    have hz6 := isZ_butL hl6 (But.upd (o := HO.lst (ps.map V.ref ++ [V.ref pn]))) (hz5.mono (S6.trans Sn))
    have ht6 : LitZ K _ t q := butT hl6 (But.upd (o := HO.lst (ps.map V.ref ++ [V.ref pn]))) ((h2.mono S45).mono (S6.trans Sn))
    have S07 := Same.mut (o := HO.lst (ps.map V.ref ++ [V.ref pn])) (S5.trans (S6.trans Sn)) nl0
    have S47 := Same.mut (o := HO.lst (ps.map V.ref ++ [V.ref pn])) S46 nl
    have hl7 : (upd (upd H6 pn (HO.tup [v1, .ref rr])) l (HO.lst (ps.map V.ref ++ [V.ref pn]))) l = some (.lst ((ps ++ [pn]).map V.ref)) := by rw [upd_same, List.map_append]; rfl
    generalize upd (upd H6 pn (HO.tup [v1, .ref rr])) l (HO.lst (ps.map V.ref ++ [V.ref pn])) = H7 at hP6 hz6 ht6 S07 S47 hl7 ⊢
    refine ⟨_, rfl, _, rfl, t, q, rfl, ht6, fun r8 H8 S8 hr8 => ?_⟩
    refine ⟨z', r8, m, d', Zg.opp q, rfl, hz6.mono S8, hr8, o2, o1, h900, fun v2 H9 S9 hv2 => ?_⟩
    have S79 := S8.trans S9
    cases eo : Zn.met d' (Zg.opp q) with
    | none =>
      rw [eo] at hv2 sn
      cases hv2
      refine ⟨_, rfl, rfl, _, rfl, iteT ⟨_, rfl, done l (ps ++ [pn]) H9 (S07.trans S79) nl0 (S79 _ _ hl7) ?_⟩⟩
      have hn := Zg.brLits_none_app (rest := rest) (ls := ls.take (j + 1)) (r := ls.drop (j + 1)) (d := d) (by rw [sn])
      rw [List.take_append_drop, sn] at hn
      unfold Zg.branches
      rw [hn]
      dsimp only
      rw [List.append_nil]
      exact hP6.mono S79
    | some d2 =>
      rw [eo] at hv2 sn
      obtain ⟨z2, rfl, hz2⟩ := hv2
      refine ⟨_, rfl, rfl, _, rfl, iteF ?_⟩
      refine ⟨z2, d2, _, ps ++ [pn], rfl, S07.trans S79, S47.trans S79, hz2, S79 _ _ hl7, ?_, by rw [sn], (Zn.met_some (l := Zg.opp q) hC5 o2 o1 eo).1⟩
      rw [sn]
      exact hP6.mono S79
  · rintro σ H5 ⟨z', d', v8, ps, rfl, S5, S45, hz5, hl5, hP5, hbr, hC5⟩
    rw [List.length_map, hL.1, List.take_length] at hP5 hbr
    have hbs : Zg.branches d rest ls gs = (Zg.brLits d rest ls).1 ++ Zg.brCases d' rest gs := by
      unfold Zg.branches
      rw [hbr]
    rw [hbs] at done
    have hlen5 : ps.length ≤ ls.length := by
      rw [hP5.1]
      exact Zg.brLits_len (d := d) (rest := rest) ls d
    refine ⟨_, rfl, c', rfl, ⟨_, Same.seqT S45 hc'⟩, for_tup (xs := us'.map V.ref) (fun j σ H' => ∃ (rk : Addr) (urk : List Addr) (v9 : Option V) (ps : List Addr), σ = [some (.ref p), some (.ref z'), some (.ref c), some (.int (i : Nat)), some (.ref rk), some (.ref a'), some (.ref c'), some (.ref l), v8, v9] ∧ Same H H' ∧ Same H4 H' ∧ IsZ K H' z' m d' ∧ H' l = some (.lst (ps.map V.ref)) ∧ Pts K H' m ps ((Zg.brLits d rest ls).1 ++ Zg.brCases d' rest (gs.take j)) ∧ SqT K H' rk (urk.map V.ref) ∧ IsGs K H' urk (rest ++ (gs.take j).map Zg.den)) ⟨rr, urest, none, ps, rfl, S5, S45, hz5, hl5, by rw [List.take_zero, Zg.brCases, List.append_nil]; exact hP5, Same.seqT S45 hrr, by rw [List.take_zero, List.map_nil, List.append_nil]; exact hR4.mono S45⟩ (fun j σ H' _ h => ?_) ?_ ?_⟩
    · obtain ⟨_, _, _, _, _, _, S, _⟩ := h
      exact Same.seqT S hc'
    · clear hl5 hP5 hz5 S5 S45 hlen5 ps
      rintro j x σ H5 hx ⟨rk, urk, v9, ps, rfl, S5, S45, hz5, hl5, hP5, hrk, hR5⟩
      rw [List.getElem?_map] at hx
      obtain ⟨u2, hu2, rfl⟩ := Option.map_eq_some_iff.mp hx
      obtain ⟨g2, hg2, hu2'⟩ := hG'.at_ hu2
      have hj := (List.getElem?_eq_some_iff.mp hg2).1
      have hm2 := List.mem_of_getElem? hg2
      have hok2 := okGs_mem hgok2 hm2
      have hd2 := Zg.deps_mem hm2
      have hs2 := szs_mem hm2
      have hIs := hu2'.mono S45
      obtain ⟨l2, s2⟩ := g2
      obtain ⟨a2, c2, ts2, us2, k0, k1, k2, k3, k4⟩ := id hIs
      have hsn := Zg.brCases_snoc (d := d') (cases := gs.take j) (rest := rest) (g := .mk l2 s2)
      rw [← take_snoc hg2] at hsn
      have hs2' : l2.length + Zg.szs s2 ≤ 99000 := by simp only [Zg.sz] at hs2; omega
      have hl2s := Zg.len_szs s2
      have hlen5 : ps.length ≤ 99000 := by
        rw [hP5.1, List.length_append, Zg.brCases_len, List.length_take]
        have := Zg.brLits_len (d := d) (rest := rest) ls d
        omega
      have hlenr : urk.length ≤ 200000 := by
        rw [hR5.len, List.length_append, List.length_map, List.length_take]
        omega
      refine ⟨_, rfl, .inl ⟨rfl, _, SqL.of hl5⟩, _, rfl, _, rfl, u2, _, _, _, rfl, rfl, k0, rfl, z', a2, ts2, m, d', l2, rfl, hz5, k1, k2, hok2.1, h900, fun v1 H6 S6 hv1 => ⟨_, rfl, _, rfl, u2, _, _, _, rfl, rfl, Same.seqT S6 k0, rfl, rk, c2, _, _, rfl, rfl, Same.seqT S6 hrk, Same.seqT S6 k3, szL (by rw [List.length_map, List.length_map, k4.len]; omega), fun c5 H7 S7 hc5 => ⟨sz (by simp), fun pn npn => ?_⟩⟩⟩
      have S57 := S6.trans S7
      have Sn := Same.new (o := HO.tup [v1, .ref c5]) npn
      have hl6 := Sn _ _ (S57 _ _ hl5)
      refine ⟨l, _, _, rfl, rfl, hl6, szLs (by rw [List.length_map]; omega), ?_⟩
      rw [← List.map_append] at hc5
      have hpn : IsPt K (upd H7 pn (HO.tup [v1, .ref c5])) m pn (Zn.metAll d' l2, (rest ++ (gs.take j).map Zg.den) ++ s2) := ⟨v1, c5, urk ++ us2, SqT.of upd_same, hv1.mono (S7.trans Sn), Same.seqT Sn hc5, (hR5.app k4).mono (S57.trans Sn)⟩
      have Bu : But l (upd H7 pn (HO.tup [v1, .ref c5])) (upd (upd H7 pn (HO.tup [v1, .ref c5])) l (HO.lst (ps.map V.ref ++ [V.ref pn]))) := But.upd
      have hP6 := ((hP5.mono (S57.trans Sn)).snoc hpn).but hl6 Bu
      have hz6 := isZ_butL hl6 Bu (hz5.mono (S57.trans Sn))
      have hrk6 := butT hl6 Bu (Same.seqT (S57.trans Sn) hrk)
      have hR6 := (hR5.mono (S57.trans Sn)).but hl6 Bu
      have hI6 := (hIs.mono (S57.trans Sn)).but hl6 Bu
      have S07 := Same.mut (o := HO.lst (ps.map V.ref ++ [V.ref pn])) (S5.trans (S57.trans Sn)) nl0
      have S47 := Same.mut (o := HO.lst (ps.map V.ref ++ [V.ref pn])) (S45.trans (S57.trans Sn)) nl
      have hl7 : (upd (upd H7 pn (HO.tup [v1, .ref c5])) l (HO.lst (ps.map V.ref ++ [V.ref pn]))) l = some (.lst ((ps ++ [pn]).map V.ref)) := by rw [upd_same, List.map_append]; rfl
      clear Bu hpn
      generalize upd (upd H7 pn (HO.tup [v1, .ref c5])) l (HO.lst (ps.map V.ref ++ [V.ref pn])) = H8 at hP6 hz6 hrk6 hR6 hI6 S07 S47 hl7 ⊢
      simp only [Zg.dep] at od2
      refine ⟨_, rfl, _, rfl, u2, .mk l2 s2, rfl, hI6, by omega, by omega, fun r9 H9 S9 hr9 => ⟨sz (by simp), fun tn ntn => ?_⟩⟩
      have St := S9.trans (Same.new (o := HO.tup [V.ref r9]) ntn)
      refine ⟨rk, tn, _, _, rfl, rfl, Same.seqT St hrk6, SqT.of upd_same, szL (by rw [List.length_map]; simp; omega), fun rk2 H10 S10 hrk2 => ?_⟩
      have S810 := St.trans S10
      refine ⟨rk2, urk ++ [r9], _, ps ++ [pn], rfl, S07.trans S810, S47.trans S810, hz6.mono S810, S810 _ _ hl7, ?_, by rw [List.map_append]; exact hrk2, ?_⟩
      · rw [hsn, ← List.append_assoc]
        exact hP6.mono S810
      · rw [take_snoc hg2, List.map_append, ← List.append_assoc]
        exact (hR6.mono S810).snoc (hr9.mono ((Same.new (o := HO.tup [V.ref r9]) ntn).trans S10))
    · rintro σ H6 ⟨rk, urk, v9, ps, rfl, S6, S46, hz6, hl6, hP6, _, _⟩
      rw [List.length_map, hG'.len, List.take_length] at hP6
      exact ⟨_, rfl, done l ps H6 S6 nl0 hl6 hP6⟩
end
end K18

namespace K18
open PySem L2 Bx
theorem tri_le {n : Nat} (h : n ≤ 5000) : 1 + Zg.tri n ≤ sizeLine := by
  have e : ∀ n, 2 * Zg.tri n = n * (n + 1) := by
    intro n
    induction n with
    | zero => rfl
    | succ n ih =>
      simp only [Zg.tri, Nat.mul_add, ih, Nat.add_mul, Nat.one_mul, Nat.mul_one]
      omega
  have h1 := Zg.tri_mono h
  have h2 := e 5000
  have h3 : (12502501 : Nat) ≤ sizeLine := by decide
  omega
/-- the parts that wait -/
structure Wait (K : PySem.W.Frag) (H : Hp) (m C : Nat) (l : Addr) (ps : List Addr) (Ps : List Pt) : Prop where
  at_ : H l = some (.lst (ps.map V.ref))
  pts : Pts K H m ps Ps
  ok : ∀ P ∈ Ps, PtOk m P
  stk : Zg.Stk C (Ps.map fun P => Zg.szs P.2)
theorem last_of {α : Type} {xs : List α} (h : xs ≠ []) : ∃ ys y, xs = ys ++ [y] := ⟨xs.dropLast, xs.getLast h, (List.dropLast_concat_getLast h).symm⟩
def nsz (Ps : List Pt) : Nat := Zg.fS (Ps.map fun P => Zg.szs P.2)
theorem nsz_app {a b : List Pt} : nsz (a ++ b) = nsz a + nsz b := by
  unfold nsz
  rw [List.map_append, Zg.fS_app]
theorem nsz_one (P : Pt) : nsz [P] = Zg.fN (Zg.szs P.2) := by simp [nsz, Zg.fS]
section
variable {P : Program} {w : World} {K : PySem.W.Frag} {mg : Str → Option Value} {base : Heap} {CC CS aB : Addr}
theorem Wait.pop {H : Hp} {m C : Nat} {l : Addr} {ps : List Addr} {Ps : List Pt} {p : Addr} {R : Pt} (h : Wait K H m C l (ps ++ [p]) (Ps ++ [R])) : IsPt K H m p R ∧ PtOk m R ∧ Wait K (upd H l (.lst (ps.map V.ref))) m C l ps Ps := by
  obtain ⟨h1, h2, h3, h4⟩ := h
  have hl : ps.length = Ps.length := by simpa using h2.1
  have hp : IsPt K H m p R := by
    obtain ⟨p', e, z⟩ := h2.2 Ps.length R (by rw [List.getElem?_append_right (Nat.le_refl _)]; simp)
    rw [← hl, List.getElem?_append_right (Nat.le_refl _)] at e
    simp at e
    rw [e]
    exact z
  refine ⟨hp, h3 R (by simp), upd_same, ?_, fun P hP => h3 P (List.mem_append_left _ hP), ?_⟩
  · refine Pts.but h1 But.upd ⟨hl, fun j P hj => ?_⟩
    have hjl := (List.getElem?_eq_some_iff.mp hj).1
    obtain ⟨p', e, z⟩ := h2.2 j P (by rw [List.getElem?_append_left hjl]; exact hj)
    rw [List.getElem?_append_left (by omega)] at e
    exact ⟨p', e, z⟩
  · rw [List.map_append] at h4
    exact Zg.Stk.pop h4
/-- a zone of a part, or None where it has no state -/
def spFreeZone (K : PySem.W.Frag) : Sp := fun vs H Q _ => ∃ (p : Addr) (m : Nat) (R : Pt), vs = [.ref p] ∧ IsPt K H m p R ∧ PtOk m R ∧ 0 < m ∧ m ≤ 900 ∧
  (∀ H', Same H H' → (∀ x, ¬ Zg.In m x R) → Q .non H') ∧ ∀ z d H', Same H H' → IsZ K H' z m d → Zn.Closed m d → (∀ x, Zn.Sat m d x → Zg.In m x R) → Q (.ref z) H'
theorem ok_free_zone {f : Addr} {fd : FuncData} (F : C8.Def K mg "free_zone" s_free_zone f fd) (b : Binds K fd ["part"] []) (T : Txt K mg CC CS aB) (K_opened : C8.Cal P w K mg base 74 "opened" (spOpened K) []) (K_branches : C8.Cal P w K mg base 75 "branches" (spBranches K) []) : C8.Cal P w K mg base 76 "free_zone" (spFreeZone K) [] := by
  refine C8.cal0 F b .nil sc_free_zone (fun vs H Q E h => ?_) (fun cdv A outer s H vs Q E hr h => ?_)
  · obtain ⟨p, m, R, rfl, _⟩ := h
    rfl
  obtain ⟨p, m, R, rfl, hp, hok, hm, h900, k1, k2⟩ := h
  refine ⟨_, (pss_cons (ps_set (i := 1) sc_free_zone.nd rfl (Or.inl rfl) (pe_lst (pa_cons (pv 0) pa_nil)))
    (pss_cons (ps_while PassesOwn.never (pt_truth (pv 1) (by intro _; rfl)) (pss_cons (ps_set (i := 2) sc_free_zone.nd rfl (Or.inl rfl) (C8.pe_c K_opened hr (by decide) (by rfl) (pa_cons (pe_bm0 PySem.F.plainAttrs_list PySem.F.slot_list_pop PySem.F.type_list_pop mt_pop (pv 1)) pa_nil)))
    (pss_one (ps_if (pt_cmpR op_notN (pv 2) pe_non (nomark _)) (pss_cons (ps_if (pt_not (pt_truth (pe_ix ix_tup (pv 2) pe_int (fun _ _ => rfl)) (by intro _; rfl))) (pss_one (ps_ret (pe_ix ix_tup (pv 2) pe_int (fun _ _ => rfl)))) pss_nil)
    (pss_one (ps_expr (pe_bm PySem.F.plainAttrs_list PySem.F.slot_list_extend PySem.F.type_list_extend mt_extend (pv 1) (pa_cons (C8.pe_c K_branches hr (by decide) (by rfl) (pa_cons (pv 2) pa_nil)) pa_nil))))) pss_nil))))
    (pss_one (ps_ret pe_non)))), ?_⟩
  refine ⟨_, rfl, sz (by simp), fun l nl => ?_⟩
  have Sl := Same.new (o := HO.lst [V.ref p]) nl
  dsimp only [gName, tSeq]
  have hC := tri_le hok.sz
  refine while_g (fun n σ H' => ∃ (v2 : Option V) (ps : List Addr) (Ps : List Pt), σ = [some (.ref p), some (.ref l), v2] ∧ Same H H' ∧ n = nsz Ps ∧ Wait K H' m (1 + Zg.tri (Zg.szs R.2)) l ps Ps ∧ ∀ x, (∃ B ∈ Ps, Zg.In m x B) ↔ Zg.In m x R) (nsz [R]) ⟨none, [p], [R], rfl, Sl, rfl, ⟨upd_same, Pts.one (hp.mono Sl), fun B hB => by rw [List.mem_singleton.mp hB]; exact hok, fun i n hi => by
    cases i with
    | zero => cases hi; exact Nat.le_refl _
    | succ i => cases hi⟩, fun x => by simp⟩ ?_ ?_
  · rintro n σ H1 ⟨v2, ps, Ps, rfl, S1, rfl, hW, hst⟩
    have hlen := hW.pts.1
    by_cases e : Ps = []
    · subst e
      have : ps = [] := List.length_eq_zero_iff.mp hlen
      subst this
      refine ⟨_, rfl, false, .inl ⟨_, SqL.of hW.at_, rfl⟩, iteF ?_⟩
      exact k1 H1 S1 fun x hx => by simpa using (hst x).mpr hx
    · obtain ⟨Ps, R1, rfl⟩ := last_of e
      obtain ⟨ps, p1, rfl⟩ := last_of (xs := ps) (fun z => by rw [z] at hlen; simp at hlen)
      obtain ⟨hp1, hok1, hW1⟩ := hW.pop
      have hl1 := hW.at_
      have hstk := hW.stk
      rw [List.map_append] at hl1 hstk
      have ee : (!(ps.map V.ref ++ [p1].map V.ref).isEmpty) = true := by cases ps <;> rfl
      refine ⟨_, rfl, true, .inl ⟨_, SqL.of hl1, ee.symm⟩, iteT ?_⟩
      refine ⟨_, rfl, .inl ⟨rfl, _, SqL.of hl1⟩, l, ps.map V.ref ++ [p1].map V.ref, .ref p1, rfl, rfl, hl1, by simp, ?_⟩
      rw [show ps.map V.ref ++ [p1].map V.ref = ps.map V.ref ++ [V.ref p1] from rfl] at hl1 ⊢
      rw [List.dropLast_concat]
      have Sm := Same.mut (o := HO.lst (ps.map V.ref)) S1 nl
      have hp2 := hp1.but hl1 (But.upd (o := HO.lst (ps.map V.ref)))
      generalize upd H1 l (HO.lst (ps.map V.ref)) = H2 at Sm hp2 hW1 ⊢
      rw [nsz_app, nsz_one]
      have hfp := Zg.fN_pos (Zg.szs R1.2)
      refine ⟨p1, m, R1, rfl, hp2, hok1, h900, fun H3 S3 hno => ?_, fun q d cs H3 S3 hq hokq hle => ?_⟩
      · refine ⟨_, rfl, rfl, _, rfl, iteF ?_⟩
        refine ⟨nsz Ps, by omega, _, ps, Ps, rfl, Sm.trans S3, rfl, ⟨S3 _ _ hW1.at_, hW1.pts.mono S3, hW1.ok, hW1.stk⟩, fun x => ?_⟩
        rw [← hst x]
        simp only [List.mem_append, List.mem_singleton]
        constructor
        · rintro ⟨B, hB, h⟩
          exact ⟨B, .inl hB, h⟩
        · rintro ⟨B, hB | rfl, h⟩
          · exact ⟨B, hB, h⟩
          · exact absurd h (hno x)
      · obtain ⟨v, c, us, hq0, ⟨z, rfl, hz⟩, hc, hG⟩ := id hq
        dsimp only at hG
        have hGl := hG.len
        refine ⟨_, rfl, rfl, _, rfl, iteT ?_⟩
        cases cs with
        | nil =>
          have e : us = [] := List.length_eq_zero_iff.mp hGl
          subst e
          refine ⟨_, rfl, q, _, _, _, rfl, rfl, hq0, rfl, false, .inr (.inl ⟨[], hc, rfl⟩), iteT ?_⟩
          refine ⟨_, rfl, q, _, _, _, rfl, rfl, hq0, rfl, k2 z d H3 (Sm.trans S3) hz (hokq.cl d rfl) fun x S => ?_⟩
          refine (hst x).mp ⟨R1, by simp, (hle.st x).mp ?_⟩
          exact ⟨d, rfl, S, fun g hg => by cases hg⟩
        | cons g0 cs0 =>
          have e2 : true = !(us.map V.ref).isEmpty := by
            cases us with
            | nil => cases hGl
            | cons u r => rfl
          refine ⟨_, rfl, q, _, _, _, rfl, rfl, hq0, rfl, true, .inr (.inl ⟨_, hc, e2⟩), iteF ?_⟩
          have hl3 := S3 _ _ hW1.at_
          refine ⟨_, rfl, .inl ⟨rfl, _, SqL.of hl3⟩, _, rfl, q, m, d, _, rfl, hq, hokq, by simp, h900, fun l2 qs Bs H4 S4 nl2 hl2 hPB hB hBl hBst => ?_⟩
          have hl4 := S4 _ _ hl3
          have hle2 := hle.sz
          dsimp only at hle2
          have hturn : Zg.Stk (1 + Zg.tri (Zg.szs R.2)) ((Ps ++ Bs).map fun P => Zg.szs P.2) := by
            rw [List.map_append]
            refine Zg.Stk.turn (n := Zg.szs R1.2) hstk (fun y hy => ?_) (by rw [List.length_map]; omega)
            obtain ⟨B, hB', rfl⟩ := List.mem_map.mp hy
            have := (hB B hB').2.1
            omega
          have hlen2 := hturn.len
          rw [List.length_map, List.length_append, ← hPB.1, ← hW1.pts.1] at hlen2
          refine ⟨l, l2, _, _, rfl, rfl, hl4, hl2, by rw [List.length_map, List.length_map]; omega, ?_⟩
          rw [← List.map_append]
          have Bu : But l H4 (upd H4 l (HO.lst ((ps ++ qs).map V.ref))) := But.upd
          refine ⟨nsz (Ps ++ Bs), ?_, _, ps ++ qs, Ps ++ Bs, rfl, Same.mut (Sm.trans (S3.trans S4)) nl, rfl, ⟨upd_same, ((hW1.pts.mono (S3.trans S4)).app hPB).but hl4 Bu, fun B hB' => ?_, hturn⟩, fun x => ?_⟩
          · rw [nsz_app]
            have h1 : nsz Bs < Zg.fN (Zg.szs (g0 :: cs0)) := Zg.fS_fall (fun y hy => by
              obtain ⟨B, hB', rfl⟩ := List.mem_map.mp hy
              exact (hB B hB').2.1) (by rw [List.length_map]; exact hBl)
            have h2 := Zg.fN_mono hle2
            omega
          · rcases List.mem_append.mp hB' with h | h
            · exact hW1.ok B h
            · exact (hB B h).1
          · rw [← hst x]
            simp only [List.mem_append, List.mem_singleton]
            constructor
            · rintro ⟨B, hB' | hB', h⟩
              · exact ⟨B, .inl hB', h⟩
              · exact ⟨R1, .inr rfl, (hle.st x).mp ((hBst x).mp ⟨B, hB', h⟩)⟩
            · rintro ⟨B, hB' | rfl, h⟩
              · exact ⟨B, .inl hB', h⟩
              · obtain ⟨B', hB2, h2⟩ := (hBst x).mpr ((hle.st x).mpr h)
                exact ⟨B', .inr hB2, h2⟩
  · rintro σ H Q Q' hq ⟨v, hv, kk, t, q⟩
    exact ⟨v, hv, kk, t, hq _ _ q⟩
/-- zones at zs -/
def Zs (K : PySem.W.Frag) (H : Hp) (m : Nat) (zs : List Addr) (Ds : List Zn.Z) : Prop := zs.length = Ds.length ∧ ∀ (j : Nat) (d : Zn.Z), Ds[j]? = some d → ∃ z, zs[j]? = some z ∧ IsZ K H z m d
theorem Zs.mono {H H' : Hp} {m : Nat} {zs : List Addr} {Ds : List Zn.Z} (e : Same H H') (h : Zs K H m zs Ds) : Zs K H' m zs Ds := ⟨h.1, fun j d hj => (h.2 j d hj).imp fun p x => ⟨x.1, x.2.mono e⟩⟩
theorem Zs.but {l : Addr} {H H' : Hp} {xs : List V} (hl : H l = some (.lst xs)) (e : But l H H') {m : Nat} {zs : List Addr} {Ds : List Zn.Z} (h : Zs K H m zs Ds) : Zs K H' m zs Ds := ⟨h.1, fun j d hj => (h.2 j d hj).imp fun p x => ⟨x.1, isZ_butL hl e x.2⟩⟩
theorem Zs.snoc {H : Hp} {m : Nat} {zs : List Addr} {Ds : List Zn.Z} {z : Addr} {d : Zn.Z} (h : Zs K H m zs Ds) (k : IsZ K H z m d) : Zs K H m (zs ++ [z]) (Ds ++ [d]) := by
  refine ⟨by rw [List.length_append, List.length_append, h.1]; rfl, fun j q hj => ?_⟩
  by_cases e : j < Ds.length
  · rw [List.getElem?_append_left e] at hj
    obtain ⟨t, h1, h2⟩ := h.2 j q hj
    exact ⟨t, by rw [List.getElem?_append_left (by rw [h.1]; exact e)]; exact h1, h2⟩
  · rw [List.getElem?_append_right (by omega)] at hj
    refine ⟨z, ?_, ?_⟩
    · rw [List.getElem?_append_right (by rw [h.1]; omega), h.1]
      have := (List.getElem?_eq_some_iff.mp hj).1
      simp at this
      have e2 : j - Ds.length = 0 := by omega
      rw [e2]
      rfl
    · have := List.mem_of_getElem? hj
      rw [List.mem_singleton.mp this]
      exact k
/-- the zones of a part, at most k looks -/
def spFreeZones (K : PySem.W.Frag) : Sp := fun vs H Q _ => ∃ (p : Addr) (k m : Nat) (R : Pt), vs = [.ref p, .int (k : Nat)] ∧ IsPt K H m p R ∧ PtOk m R ∧ k ≤ 100000 ∧ m ≤ 900 ∧
  (∀ H', Same H H' → Q .non H') ∧ ∀ l zs Ds H', Same H H' → H l = none → H' l = some (.lst (zs.map V.ref)) → Zs K H' m zs Ds → (∀ d ∈ Ds, Zn.Closed m d) → Ds.length ≤ k → (∀ x, (∃ d ∈ Ds, Zn.Sat m d x) ↔ Zg.In m x R) → Q (.ref l) H'
theorem ok_free_zones {f : Addr} {fd : FuncData} (F : C8.Def K mg "free_zones" s_free_zones f fd) (b : Binds K fd ["part", "looks"] []) (T : Txt K mg CC CS aB) (K_opened : C8.Cal P w K mg base 74 "opened" (spOpened K) []) (K_branches : C8.Cal P w K mg base 75 "branches" (spBranches K) []) : C8.Cal P w K mg base 76 "free_zones" (spFreeZones K) [] := by
  refine C8.cal0 F b .nil sc_free_zones (fun vs H Q E h => ?_) (fun cdv A outer s H vs Q E hr h => ?_)
  · obtain ⟨p, k, m, R, rfl, _⟩ := h
    rfl
  obtain ⟨p, kk, m, R, rfl, hp, hok, hk, h900, k1, k2⟩ := h
  refine ⟨_, (pss_cons (ps_set (i := 2) sc_free_zones.nd rfl (Or.inl rfl) (pe_lst pa_nil))
    (pss_cons (ps_set (i := 3) sc_free_zones.nd rfl (Or.inl rfl) (pe_lst (pa_cons (pv 0) pa_nil)))
    (pss_cons (ps_set (i := 4) sc_free_zones.nd rfl (Or.inl rfl) pe_int)
    (pss_cons (ps_while PassesOwn.never (pt_truth (pv 3) (by intro _; rfl)) (pss_cons (ps_if (pt_cmpR op_eq (pv 4) (pv 1) (nomark _)) (pss_one (ps_ret pe_non)) pss_nil)
    (pss_cons (ps_aug (i := 4) sc_free_zones.nd rfl (Or.inl rfl) pe_int ip_add)
    (pss_cons (ps_set (i := 5) sc_free_zones.nd rfl (Or.inl rfl) (C8.pe_c K_opened hr (by decide) (by rfl) (pa_cons (pe_bm0 PySem.F.plainAttrs_list PySem.F.slot_list_pop PySem.F.type_list_pop mt_pop (pv 3)) pa_nil)))
    (pss_one (ps_if (pt_cmpR op_notN (pv 5) pe_non (nomark _)) (pss_one (ps_if (pt_truth (pe_ix ix_tup (pv 5) pe_int (fun _ _ => rfl)) (by intro _; rfl)) (pss_one (ps_expr (pe_bm PySem.F.plainAttrs_list PySem.F.slot_list_extend PySem.F.type_list_extend mt_extend (pv 3) (pa_cons (C8.pe_c K_branches hr (by decide) (by rfl) (pa_cons (pv 5) pa_nil)) pa_nil)))) (pss_one (ps_expr (pe_bm PySem.F.plainAttrs_list PySem.F.slot_list_append PySem.F.type_list_append mt_append (pv 2) (pa_cons (pe_ix ix_tup (pv 5) pe_int (fun _ _ => rfl)) pa_nil)))))) pss_nil))))))
    (pss_one (ps_ret (pv 2))))))), ?_⟩
  refine ⟨sz (by simp), fun g ng => ⟨_, rfl, sz (by simp), fun l nl => ?_⟩⟩
  have lg : l ≠ g := fun e => by rw [e, upd_same] at nl; cases nl
  have nl0 : H l = none := by rw [upd_ne lg] at nl; exact nl
  have Sg := Same.new (o := HO.lst []) ng
  have Sl := Sg.trans (Same.new (o := HO.lst [V.ref p]) nl)
  dsimp only [gName, tSeq, tAsg, tC]
  have hC := tri_le hok.sz
  refine while_g (fun n σ H' => ∃ (v5 : Option V) (lk : Int) (looked : Nat) (ps : List Addr) (Ps : List Pt) (zs : List Addr) (Ds : List Zn.Z), σ = [some (.ref p), some (.int (kk : Nat)), some (.ref g), some (.ref l), some (.int lk), v5] ∧ lk = (looked : Nat) ∧ Same H H' ∧ n = nsz Ps ∧ Wait K H' m (1 + Zg.tri (Zg.szs R.2)) l ps Ps ∧ H' g = some (.lst (zs.map V.ref)) ∧ Zs K H' m zs Ds ∧ (∀ d ∈ Ds, Zn.Closed m d) ∧ Ds.length ≤ looked ∧ looked ≤ kk ∧
    ∀ x, ((∃ d ∈ Ds, Zn.Sat m d x) ∨ ∃ B ∈ Ps, Zg.In m x B) ↔ Zg.In m x R) (nsz [R]) ⟨none, 0, 0, [p], [R], [], [], rfl, rfl, Sl, rfl, ⟨upd_same, Pts.one (hp.mono Sl), fun B hB => by rw [List.mem_singleton.mp hB]; exact hok, fun i n hi => by
    cases i with
    | zero => cases hi; exact Nat.le_refl _
    | succ i => cases hi⟩, by rw [upd_ne (fun e => lg e.symm), upd_same]; rfl, ⟨rfl, fun j d h => by cases h⟩, fun d h => (by cases h), Nat.zero_le _, Nat.zero_le _, fun x => by simp⟩ ?_ ?_
  · rintro n σ H1 ⟨v5, lk, looked, ps, Ps, zs, Ds, rfl, elk, S1, rfl, hW, hg, hZ, hcl, hDl, hlk, hst⟩
    have hlen := hW.pts.1
    by_cases e : Ps = []
    · subst e
      have : ps = [] := List.length_eq_zero_iff.mp hlen
      subst this
      refine ⟨_, rfl, false, .inl ⟨_, SqL.of hW.at_, rfl⟩, iteF ?_⟩
      exact ⟨_, rfl, k2 g zs Ds H1 S1 ng hg hZ hcl (by omega) fun x => by rw [← hst x]; simp⟩
    · obtain ⟨Ps, R1, rfl⟩ := last_of e
      obtain ⟨ps, p1, rfl⟩ := last_of (xs := ps) (fun z => by rw [z] at hlen; simp at hlen)
      obtain ⟨hp1, hok1, hW1⟩ := hW.pop
      have hl1 := hW.at_
      have hstk := hW.stk
      rw [List.map_append] at hl1 hstk
      have ee : (!(ps.map V.ref ++ [p1].map V.ref).isEmpty) = true := by cases ps <;> rfl
      refine ⟨_, rfl, true, .inl ⟨_, SqL.of hl1, ee.symm⟩, iteT ?_⟩
      refine ⟨_, rfl, _, rfl, rfl, _, rfl, ?_⟩
      by_cases hlim : looked = kk
      · rw [decide_eq_true (by rw [elk, hlim])]
        exact iteT (k1 H1 S1)
      rw [decide_eq_false (fun z => hlim (by injection z with z; omega))]
      refine iteF ?_
      refine ⟨_, rfl, _, 1, rfl, rfl, ?_⟩
      refine ⟨_, rfl, .inl ⟨rfl, _, SqL.of hl1⟩, l, ps.map V.ref ++ [p1].map V.ref, .ref p1, rfl, rfl, hl1, by simp, ?_⟩
      rw [show ps.map V.ref ++ [p1].map V.ref = ps.map V.ref ++ [V.ref p1] from rfl] at hl1 ⊢
      rw [List.dropLast_concat]
      have Sm := Same.mut (o := HO.lst (ps.map V.ref)) S1 nl0
      have hp2 := hp1.but hl1 (But.upd (o := HO.lst (ps.map V.ref)))
      have hZ2 := hZ.but hl1 (But.upd (o := HO.lst (ps.map V.ref)))
      have hg2 : (upd H1 l (HO.lst (ps.map V.ref))) g = some (.lst (zs.map V.ref)) := by rw [upd_ne (fun e => lg e.symm)]; exact hg
      generalize upd H1 l (HO.lst (ps.map V.ref)) = H2 at Sm hp2 hW1 hZ2 hg2 ⊢
      rw [nsz_app, nsz_one]
      have hfp := Zg.fN_pos (Zg.szs R1.2)
      refine ⟨p1, m, R1, rfl, hp2, hok1, h900, fun H3 S3 hno => ?_, fun q d cs H3 S3 hq hokq hle => ?_⟩
      · refine ⟨_, rfl, rfl, _, rfl, iteF ?_⟩
        refine ⟨nsz Ps, by omega, _, _, looked + 1, ps, Ps, zs, Ds, rfl, (by show lk + 1 = _; omega), Sm.trans S3, rfl, ⟨S3 _ _ hW1.at_, hW1.pts.mono S3, hW1.ok, hW1.stk⟩, S3 _ _ hg2, hZ2.mono S3, hcl, by omega, by omega, fun x => ?_⟩
        rw [← hst x]
        simp only [List.mem_append, List.mem_singleton]
        constructor
        · rintro (h | ⟨B, hB, h⟩)
          · exact .inl h
          · exact .inr ⟨B, .inl hB, h⟩
        · rintro (h | ⟨B, hB | rfl, h⟩)
          · exact .inl h
          · exact .inr ⟨B, hB, h⟩
          · exact absurd h (hno x)
      · obtain ⟨v, c, us, hq0, ⟨z, rfl, hz⟩, hc, hG⟩ := id hq
        dsimp only at hG
        have hGl := hG.len
        refine ⟨_, rfl, rfl, _, rfl, iteT ?_⟩
        cases cs with
        | nil =>
          have e : us = [] := List.length_eq_zero_iff.mp hGl
          subst e
          refine ⟨_, rfl, q, _, _, _, rfl, rfl, hq0, rfl, false, .inr (.inl ⟨[], hc, rfl⟩), iteF ?_⟩
          have hg3 := S3 _ _ hg2
          refine ⟨_, rfl, .inl ⟨rfl, _, SqL.of hg3⟩, _, rfl, q, _, _, _, rfl, rfl, hq0, rfl, g, _, _, rfl, rfl, hg3, szLs (by rw [List.length_map, hZ.1]; omega), ?_⟩
          have Bu : But g H3 (upd H3 g (HO.lst (zs.map V.ref ++ [V.ref z]))) := But.upd
          refine ⟨nsz Ps, by omega, _, _, looked + 1, ps, Ps, zs ++ [z], Ds ++ [d], rfl, (by show lk + 1 = _; omega), Same.mut (Sm.trans S3) ng, rfl, ⟨by rw [upd_ne lg]; exact S3 _ _ hW1.at_, (hW1.pts.mono S3).but hg3 Bu, hW1.ok, hW1.stk⟩, by rw [upd_same, List.map_append]; rfl, ((hZ2.mono S3).snoc hz).but hg3 Bu, fun d' h => ?_, by simp; omega, by omega, fun x => ?_⟩
          · rcases List.mem_append.mp h with h | h
            · exact hcl d' h
            · rw [List.mem_singleton.mp h]
              exact hokq.cl d rfl
          · rw [← hst x]
            simp only [List.mem_append, List.mem_singleton]
            have hd : Zg.In m x R1 ↔ Zn.Sat m d x := by
              rw [← hle.st x, in_some, Zg.hd_case]
              exact ⟨fun h => h.1, fun h => ⟨h, fun l hl => (by cases hl), fun g hg => (by cases hg)⟩⟩
            constructor
            · rintro (⟨d', h | rfl, k⟩ | ⟨B, hB, h⟩)
              · exact .inl ⟨d', h, k⟩
              · exact .inr ⟨R1, .inr rfl, hd.mpr k⟩
              · exact .inr ⟨B, .inl hB, h⟩
            · rintro (⟨d', h, k⟩ | ⟨B, hB | rfl, h⟩)
              · exact .inl ⟨d', .inl h, k⟩
              · exact .inr ⟨B, hB, h⟩
              · exact .inl ⟨d, .inr rfl, hd.mp h⟩
        | cons g0 cs0 =>
          have e2 : true = !(us.map V.ref).isEmpty := by
            cases us with
            | nil => cases hGl
            | cons u r => rfl
          refine ⟨_, rfl, q, _, _, _, rfl, rfl, hq0, rfl, true, .inr (.inl ⟨_, hc, e2⟩), iteT ?_⟩
          have hl3 := S3 _ _ hW1.at_
          refine ⟨_, rfl, .inl ⟨rfl, _, SqL.of hl3⟩, _, rfl, q, m, d, _, rfl, hq, hokq, by simp, h900, fun l2 qs Bs H4 S4 nl2 hl2 hPB hB hBl hBst => ?_⟩
          have hl4 := S4 _ _ hl3
          have hle2 := hle.sz
          dsimp only at hle2
          have hturn : Zg.Stk (1 + Zg.tri (Zg.szs R.2)) ((Ps ++ Bs).map fun P => Zg.szs P.2) := by
            rw [List.map_append]
            refine Zg.Stk.turn (n := Zg.szs R1.2) hstk (fun y hy => ?_) (by rw [List.length_map]; omega)
            obtain ⟨B, hB', rfl⟩ := List.mem_map.mp hy
            have := (hB B hB').2.1
            omega
          have hlen2 := hturn.len
          rw [List.length_map, List.length_append, ← hPB.1, ← hW1.pts.1] at hlen2
          refine ⟨l, l2, _, _, rfl, rfl, hl4, hl2, by rw [List.length_map, List.length_map]; omega, ?_⟩
          rw [← List.map_append]
          have Bu : But l H4 (upd H4 l (HO.lst ((ps ++ qs).map V.ref))) := But.upd
          refine ⟨nsz (Ps ++ Bs), ?_, _, _, looked + 1, ps ++ qs, Ps ++ Bs, zs, Ds, rfl, (by show lk + 1 = _; omega), Same.mut (Sm.trans (S3.trans S4)) nl0, rfl, ⟨upd_same, ((hW1.pts.mono (S3.trans S4)).app hPB).but hl4 Bu, fun B hB' => ?_, hturn⟩, by rw [upd_ne (fun e => lg e.symm)]; exact (S3.trans S4) _ _ hg2, (hZ2.mono (S3.trans S4)).but hl4 Bu, hcl, by omega, by omega, fun x => ?_⟩
          · rw [nsz_app]
            have h1 : nsz Bs < Zg.fN (Zg.szs (g0 :: cs0)) := Zg.fS_fall (fun y hy => by
              obtain ⟨B, hB', rfl⟩ := List.mem_map.mp hy
              exact (hB B hB').2.1) (by rw [List.length_map]; exact hBl)
            have h2 := Zg.fN_mono hle2
            omega
          · rcases List.mem_append.mp hB' with h | h
            · exact hW1.ok B h
            · exact (hB B h).1
          · rw [← hst x]
            simp only [List.mem_append, List.mem_singleton]
            constructor
            · rintro (h | ⟨B, hB' | hB', h⟩)
              · exact .inl h
              · exact .inr ⟨B, .inl hB', h⟩
              · exact .inr ⟨R1, .inr rfl, (hle.st x).mp ((hBst x).mp ⟨B, hB', h⟩)⟩
            · rintro (h | ⟨B, hB' | rfl, h⟩)
              · exact .inl h
              · exact .inr ⟨B, .inl hB', h⟩
              · obtain ⟨B', hB2, h2⟩ := (hBst x).mpr ((hle.st x).mpr h)
                exact .inr ⟨B', .inr hB2, h2⟩
  · rintro σ H Q Q' hq ⟨v, hv, kk, t, q⟩
    exact ⟨v, hv, kk, t, hq _ _ q⟩
/-- how deep groups are, below n -/
def spDepth (K : PySem.W.Frag) (n : Nat) : Sp := fun vs H Q _ => ∃ (c : Addr) (us : List Addr) (gs : List Zg.G), vs = [.ref c] ∧ SqT K H c (us.map V.ref) ∧ IsGs K H us gs ∧ Zg.deps gs < n ∧ Q (.int (Zg.deps gs : Nat)) H
theorem ok_depth_of {f : Addr} {fd : FuncData} (F : C8.Def K mg "depth_of" s_depth_of f fd) (b : Binds K fd ["groups"] []) (T : Txt K mg CC CS aB) : ∀ n : Nat, C8.Cal P w K mg base (n + 1) "depth_of" (spDepth K n) []
  | 0 => by
    refine C8.cal0 F b .nil sc_depth_of (fun vs H Q E h => ?_) (fun cdv A outer s H vs Q E hr h => ?_)
    · obtain ⟨c, us, gs, rfl, _⟩ := h
      rfl
    · obtain ⟨c, us, gs, rfl, _, _, h, _⟩ := h
      omega
  | n + 1 => by
    have K_depth_of := ok_depth_of F b T n
    refine C8.cal0 F b .nil sc_depth_of (fun vs H Q E h => ?_) (fun cdv A outer s H vs Q E hr h => ?_)
    · obtain ⟨c, us, gs, rfl, _⟩ := h
      rfl
    obtain ⟨c, us, gs, rfl, hc, hG, hd, k⟩ := h
    refine ⟨_, (pss_cons (ps_set (i := 1) sc_depth_of.nd rfl (Or.inl rfl) pe_int)
    (pss_cons (ps_for PassesOwn.never rfl (pi_tup (pv 0)) (pg_tup (by rfl) (pgs_cons (pg_name (i := 2) sc_depth_of.nd rfl (Or.inl rfl)) (pgs_cons (pg_name (i := 3) sc_depth_of.nd rfl (Or.inl rfl)) pgs_nil)))
    (pss_cons (ps_set (i := 4) sc_depth_of.nd rfl (Or.inl rfl) (pe_op op_add pe_int (C8.pe_c K_depth_of hr (Nat.le_refl _) (by rfl) (pa_cons (pv 3) pa_nil))))
    (pss_one (ps_if (pt_cmpR op_gt (pv 4) (pv 1) (nomark _)) (pss_one (ps_set (i := 1) sc_depth_of.nd rfl (Or.inl rfl) (pv 4))) pss_nil))))
    (pss_one (ps_ret (pv 1))))), ?_⟩
    refine ⟨_, rfl, c, rfl, ⟨_, hc⟩, for_tup (xs := us.map V.ref) (fun j σ H' => ∃ (v2 v3 v4 : Option V), σ = [some (.ref c), some (.int (Zg.deps (gs.take j) : Nat)), v2, v3, v4] ∧ H' = H) ⟨none, none, none, rfl, rfl⟩ (fun j σ H' _ h => ?_) ?_ ?_⟩
    · obtain ⟨_, _, _, _, rfl⟩ := h
      exact hc
    · rintro j x σ H1 hx ⟨v2, v3, v4, rfl, rfl⟩
      rw [List.getElem?_map] at hx
      obtain ⟨u, hu, rfl⟩ := Option.map_eq_some_iff.mp hx
      obtain ⟨⟨l2, g2⟩, hG', hu'⟩ := hG.at_ hu
      have hm := Zg.deps_mem (List.mem_of_getElem? hG')
      obtain ⟨a2, c2, ts2, us2, k0, k1, k2, k3, k4⟩ := hu'
      have hst : Zg.deps (gs.take (j + 1)) = max (Zg.deps (gs.take j)) (1 + Zg.deps g2) := by
        rw [take_snoc hG', Zg.deps_app]
        simp [Zg.deps, Zg.dep]
      simp only [Zg.dep] at hm
      refine ⟨u, _, rfl, k0, rfl, _, _, rfl, _, _, rfl, rfl, ?_⟩
      refine ⟨_, rfl, c2, us2, g2, rfl, k3, k4, by omega, 1, _, rfl, rfl, ?_⟩
      refine ⟨_, rfl, _, rfl, _, _, rfl, rfl, _, rfl, ?_⟩
      by_cases hl : Zg.deps (gs.take j) < 1 + Zg.deps g2
      · rw [decide_eq_true (by omega)]
        have hv : ((Zg.deps (gs.take (j + 1)) : Nat) : Int) = 1 + ((Zg.deps g2 : Nat) : Int) := by omega
        exact iteT ⟨_, rfl, some (.ref a2), some (.ref c2), some (.int (1 + ((Zg.deps g2 : Nat) : Int))), by rw [hv]; rfl, rfl⟩
      · rw [decide_eq_false (by omega)]
        have hv : Zg.deps (gs.take (j + 1)) = Zg.deps (gs.take j) := by omega
        exact iteF ⟨some (.ref a2), some (.ref c2), some (.int (1 + ((Zg.deps g2 : Nat) : Int))), by rw [hv]; rfl, rfl⟩
    · rintro σ H1 ⟨v2, v3, v4, rfl, rfl⟩
      rw [List.length_map, hG.len, List.take_length]
      exact ⟨_, rfl, k⟩
/-- how large groups are -/
def spSize (K : PySem.W.Frag) (n : Nat) : Sp := fun vs H Q _ => ∃ (c : Addr) (us : List Addr) (gs : List Zg.G), vs = [.ref c] ∧ SqT K H c (us.map V.ref) ∧ IsGs K H us gs ∧ Zg.deps gs < n ∧ Zg.szs gs ≤ 100000 ∧ ∀ (j : Nat) H', Same H H' → j ≤ Zg.szs gs → Q (.int (j : Nat)) H'
def natI (n : Nat) : Int := n
theorem sum_nat : ∀ ns : List Nat, (ns.map natI).sum = ((ns.sum : Nat) : Int)
  | [] => rfl
  | n :: ns => by
    rw [List.map_cons, List.sum_cons, List.sum_cons, sum_nat ns]
    unfold natI
    omega
theorem ok_size_of {f : Addr} {fd : FuncData} (F : C8.Def K mg "size_of" s_size_of f fd) (b : Binds K fd ["groups"] []) (T : Txt K mg CC CS aB) : ∀ n : Nat, C8.Cal P w K mg base (n + 1) "size_of" (spSize K n) []
  | 0 => by
    refine C8.cal0 F b .nil sc_size_of (fun vs H Q E h => ?_) (fun cdv A outer s H vs Q E hr h => ?_)
    · obtain ⟨c, us, gs, rfl, _⟩ := h
      rfl
    · obtain ⟨c, us, gs, rfl, _, _, h, _⟩ := h
      omega
  | n + 1 => by
    have K_size_of := ok_size_of F b T n
    refine C8.cal0 F b .nil sc_size_of (fun vs H Q E h => ?_) (fun cdv A outer s H vs Q E hr h => ?_)
    · obtain ⟨c, us, gs, rfl, _⟩ := h
      rfl
    obtain ⟨c, us, gs, rfl, hc, hG, hd, hs, k⟩ := h
    have hlg := Zg.len_szs gs
    refine ⟨_, (pss_one (ps_ret (pe_callB (cr_sum rfl) (by rfl) T.z_sum (by decide +kernel) (pa_cons (pe_lc (own := [("literals", 1), ("others", 2)]) (g := _) (tt := tYes) rfl sc_size_of.nd (pi_tup (pv 0)) (blkOk_by (own := [("literals", 1), ("others", 2)]) (N := N_size_of) (sc := C8.fnScope s_size_of) (by decide +kernel)) (fun _ _ _ _ _ => (pgTK K 2 (pgs_cons (pg_name (i := 1) sc_size_of.nd rfl (Or.inl rfl)) (pgs_cons (pg_name (i := 2) sc_size_of.nd rfl (Or.inl rfl)) pgs_nil)))) (fun _ _ _ _ _ => pts_nil) (fun _ _ _ _ _ => (pe_op op_add (pe_callB (lenK K) (by rfl) T.z_len (by decide +kernel) (pa_cons (pv 1) pa_nil)) (C8.pe_c K_size_of hr (Nat.le_refl _) (by rfl) (pa_cons (pv 2) pa_nil))))) pa_nil)))), ?_⟩
    refine ⟨_, rfl, c, rfl, ⟨_, hc⟩, fun D nD => lc_tup (xs := us.map V.ref) (fun j H' => ∃ ns : List Nat, Same H H' ∧ H' D = some (.lst ((ns.map natI).map V.int)) ∧ ns.length = j ∧ ns.sum ≤ Zg.szs (gs.take j)) ⟨[], Same.new nD, upd_same, rfl, Nat.zero_le _⟩ (fun j H' _ h => ?_) ?_ ?_⟩
    · obtain ⟨_, S, _⟩ := h
      exact Same.seqT S hc
    · rintro j x H1 hx ⟨ns, S1, hD, hn, hsum⟩
      rw [List.getElem?_map] at hx
      obtain ⟨u, hu, rfl⟩ := Option.map_eq_some_iff.mp hx
      obtain ⟨⟨l2, g2⟩, hG', hu'⟩ := hG.at_ hu
      have hm := Zg.deps_mem (List.mem_of_getElem? hG')
      have hm2 := szs_mem (List.mem_of_getElem? hG')
      have hj := (List.getElem?_eq_some_iff.mp hG').1
      obtain ⟨a2, c2, ts2, us2, k0, k1, k2, k3, k4⟩ := hu'.mono S1
      have hst : Zg.szs (gs.take (j + 1)) = Zg.szs (gs.take j) + Zg.sz (.mk l2 g2) := by
        rw [take_snoc hG', Zg.szs_app]
        simp [Zg.szs]
      simp only [Zg.dep] at hm
      simp only [Zg.sz] at hm2 hst
      refine ⟨u, _, rfl, k0, rfl, _, _, rfl, _, _, rfl, rfl, rfl, ?_⟩
      refine ⟨_, rfl, a2, _, rfl, .inr k1, _, rfl, c2, us2, g2, rfl, k3, k4, by omega, by omega, fun i H2 S2 hi => ⟨_, _, rfl, rfl, ?_⟩⟩
      refine ⟨_, S2 _ _ hD, szLs (by rw [List.length_map, List.length_map]; omega), ns ++ [l2.length + i], Same.mut (S1.trans S2) nD, ?_, by simp [hn], ?_⟩
      · rw [upd_same, List.map_append, List.map_append, List.length_map, k2.1]
        simp [natI]
      · rw [hst, List.sum_append]
        simp
        omega
    · rintro H1 ⟨ns, S1, hD, hn, hsum⟩
      rw [List.length_map, hG.len, List.take_length] at hsum
      refine ⟨D, _, rfl, SqL.of hD, ?_⟩
      rw [sum_nat]
      exact k _ _ S1 hsum
/-- the parts that a part is settled as -/
def spSettled (K : PySem.W.Frag) : Sp := fun vs H Q _ => ∃ (p : Addr) (n : Nat) (R : Pt), vs = [.ref p] ∧ IsPt K H (n + 1) p R ∧ PtOk (n + 1) R ∧ n ≤ 800 ∧
  ∀ l ps Bs H', Same H H' → H l = none → H' l = some (.lst (ps.map V.ref)) → Pts K H' (n + 1) ps Bs → (∀ B ∈ Bs, PtOk (n + 1) B ∧ Zg.szs B.2 ≤ Zg.szs R.2 ∧ Zg.deps B.2 ≤ Zg.deps R.2 ∧ ∃ x, x 0 = 0 ∧ Zg.In (n + 1) x B) → (Zg.szs R.2 ≤ 1000 → Bs.length ≤ 1) → (∀ x, (∃ B ∈ Bs, Zg.In (n + 1) x B) ↔ Zg.In (n + 1) x R) → Q (.ref l) H'
theorem ok_settled {f : Addr} {fd : FuncData} (F : C8.Def K mg "settled" s_settled f fd) (b : Binds K fd ["part"] []) (T : Txt K mg CC CS aB) (K_opened : C8.Cal P w K mg base 74 "opened" (spOpened K) []) (K_free_zone : C8.Cal P w K mg base 76 "free_zone" (spFreeZone K) []) (K_free_zones : C8.Cal P w K mg base 76 "free_zones" (spFreeZones K) [])
    (K_depth_of : C8.Cal P w K mg base 62 "depth_of" (spDepth K 61) []) (K_size_of : C8.Cal P w K mg base 62 "size_of" (spSize K 61) []) : C8.Cal P w K mg base 77 "settled" (spSettled K) [] := by
  refine C8.cal0 F b .nil sc_settled (fun vs H Q E h => ?_) (fun cdv A outer s H vs Q E hr h => ?_)
  · obtain ⟨p, n, R, rfl, _⟩ := h
    rfl
  obtain ⟨p, n, R, rfl, hp, hok, h800, k⟩ := h
  refine ⟨_, (pss_cons (ps_set (i := 1) sc_settled.nd rfl (Or.inl rfl) (C8.pe_c K_opened hr (by decide) (by rfl) (pa_cons (pv 0) pa_nil)))
    (pss_cons (ps_if (PW.pt (pw_or (pt_cmpR op_isN (pv 1) pe_non (nomark _)) (pw_or1 (pt_cmpR op_isN (C8.pe_c K_free_zone hr (by decide) (by rfl) (pa_cons (pv 1) pa_nil)) pe_non (nomark _))))) (pss_one (ps_ret (pe_lst pa_nil))) pss_nil)
    (pss_cons (ps_set (i := 2) sc_settled.nd rfl (Or.inl rfl) pe_non)
    (pss_cons (ps_if (pt_cmpR op_gt (C8.pe_c K_depth_of hr (by decide) (by rfl) (pa_cons (pe_ix ix_tup (pv 1) pe_int (fun _ _ => rfl)) pa_nil)) (C8.pe_gc (by rfl) T.c_DEEP) (nomark _)) (pss_one (ps_set (i := 2) sc_settled.nd rfl (Or.inl rfl) (C8.pe_c K_free_zones hr (by decide) (by rfl) (pa_cons (pv 1) (pa_cons pe_non pa_nil))))) (pss_one (ps_if (pt_cmpR op_gt (C8.pe_c K_size_of hr (by decide) (by rfl) (pa_cons (pe_ix ix_tup (pv 1) pe_int (fun _ _ => rfl)) pa_nil)) (C8.pe_gc (by rfl) T.c_LARGE) (nomark _)) (pss_one (ps_set (i := 2) sc_settled.nd rfl (Or.inl rfl) (C8.pe_c K_free_zones hr (by decide) (by rfl) (pa_cons (pv 1) (pa_cons (pe_op op_fdiv (C8.pe_c K_size_of hr (by decide) (by rfl) (pa_cons (pe_ix ix_tup (pv 1) pe_int (fun _ _ => rfl)) pa_nil)) (C8.pe_gc (by rfl) T.c_A_ZONE)) pa_nil))))) pss_nil)))
    (pss_one (ps_ret (pe_ifExp (pt_cmpR op_isN (pv 2) pe_non (nomark _)) (pe_lst (pa_cons (pv 1) pa_nil)) (pe_lc (own := [("zone", 3)]) (g := gName 3) (tt := tYes) rfl sc_settled.nd (pi_list (pv 2)) (blkOk_by (own := [("zone", 3)]) (N := N_settled) (sc := C8.fnScope s_settled) (by decide +kernel)) (fun _ _ _ _ _ => (pg_name (i := 3) sc_settled.nd rfl (Or.inl rfl))) (fun _ _ _ _ _ => pts_nil) (fun _ _ _ _ _ => (pe_tup (pa_cons (pv 3) (pa_cons (pe_tup pa_nil) pa_nil)))))))))))), ?_⟩
  have nothing : ∀ H1, Same H H1 → (∀ x, ¬ Zg.In (n + 1) x R) → ([] : List V).length ≤ sizeLine ∧ ∀ l, H1 l = none → Q (.ref l) (upd H1 l (.lst [])) := by
    intro H1 S1 hno
    refine ⟨sz (by simp), fun l nl => ?_⟩
    have nl0 : H l = none := by
      cases e : H l with
      | none => rfl
      | some o =>
        rw [S1 _ _ e] at nl
        cases nl
    exact k l [] [] _ (S1.trans (Same.new nl)) nl0 upd_same Pts.nil (fun B hB => by cases hB) (by simp) fun x => ⟨fun ⟨B, hB, _⟩ => (by cases hB), fun h => absurd h (hno x)⟩
  refine ⟨_, rfl, p, n + 1, R, rfl, hp, hok, by omega, fun H1 S1 hno => ?_, fun q d cs H1 S1 hq hokq hle => ?_⟩
  · refine ⟨_, rfl, rfl, _, rfl, iteT (iteT ?_)⟩
    exact nothing H1 S1 hno
  · refine ⟨_, rfl, rfl, _, rfl, iteF ?_⟩
    refine ⟨_, rfl, q, n + 1, _, rfl, hq, hokq, by omega, by omega, fun H2 S2 hno => ?_, fun z e H2 S2 hz hzc hzs => ?_⟩
    · refine ⟨rfl, _, rfl, iteT ?_⟩
      exact nothing H2 (S1.trans S2) fun x h => hno x ((hle.st x).mpr h)
    · refine ⟨rfl, _, rfl, iteF ?_⟩
      obtain ⟨w1, w2⟩ := Zn.some_state hzc
      have hin := hzs _ w1
      obtain ⟨v, c, us, hq0, hv, hc, hG⟩ := id (hq.mono S2)
      dsimp only at hG
      have hdp := hokq.dp
      have hsz := hokq.sz
      dsimp only at hdp hsz
      have S12 := S1.trans S2
      have hq2 := hq.mono S2
      refine ⟨_, rfl, q, _, _, _, rfl, rfl, hq0, rfl, c, us, cs, rfl, hc, hG, by omega, _, _, rfl, rfl, _, rfl, ?_⟩
      rw [decide_eq_false (by omega)]
      refine iteF ?_
      have one : ∀ H3, Same H2 H3 → [V.ref q].length ≤ sizeLine ∧ ∀ l, H3 l = none → Q (.ref l) (upd H3 l (.lst [V.ref q])) := fun H3 S3 => ⟨sz (by simp), fun l nl => by
        have S13 := S12.trans S3
        have nl0 : H l = none := by
          cases e : H l with
          | none => rfl
          | some o =>
            rw [S13 _ _ e] at nl
            cases nl
        exact k l [q] [(some d, cs)] _ (S13.trans (Same.new nl)) nl0 upd_same (Pts.one (hq2.mono (S3.trans (Same.new nl)))) (fun B hB => by
          rw [List.mem_singleton.mp hB]
          exact ⟨hokq, hle.sz, hle.dp, _, w2, hin⟩) (by simp) fun x => by simp [hle.st x]⟩
      refine ⟨_, rfl, q, _, _, _, rfl, rfl, hq0, rfl, c, us, cs, rfl, hc, hG, by omega, by omega, fun j H3 S3 hj => ⟨_, _, rfl, rfl, _, rfl, ?_⟩⟩
      by_cases hlg : 1000 < j
      · rw [decide_eq_true (by omega)]
        refine iteT ?_
        refine ⟨_, rfl, _, rfl, q, _, _, _, rfl, rfl, Same.seqT S3 hq0, rfl, c, us, cs, rfl, Same.seqT S3 hc, hG.mono S3, by omega, by omega, fun j2 H4 S4 hj2 => ⟨_, 10, rfl, rfl, ⟨by decide, by decide⟩, ?_⟩⟩
        refine ⟨q, j2 / 10, n + 1, (some d, cs), rfl, hq2.mono (S3.trans S4), hokq, by omega, by omega, fun H5 S5 => ?_, fun l zs Ds H5 S5 nl hl hZ hcl hDl hst => ?_⟩
        · refine ⟨_, rfl, rfl, _, rfl, iteT ?_⟩
          refine ⟨_, rfl, ?_⟩
          exact one H5 (S3.trans (S4.trans S5))
        · refine ⟨_, rfl, rfl, _, rfl, iteF ?_⟩
          have S15 := S12.trans (S3.trans (S4.trans S5))
          refine ⟨_, rfl, l, rfl, ⟨_, SqL.of hl⟩, fun D nD => lc_list (xs := zs.map V.ref) (fun i H' => ∃ (ps : List Addr), Same H5 H' ∧ H' D = some (.lst (ps.map V.ref)) ∧ Pts K H' (n + 1) ps ((Ds.take i).map fun d => (some d, []))) ⟨[], Same.new nD, upd_same, Pts.nil⟩ (fun i H' _ h => ?_) ?_ ?_⟩
          · obtain ⟨_, S, _⟩ := h
            exact S.seq (SqL.of hl)
          · rintro i x H6 hx ⟨ps, S6, hD, hP⟩
            rw [List.getElem?_map] at hx
            obtain ⟨z2, hz2, rfl⟩ := Option.map_eq_some_iff.mp hx
            have hi : i < Ds.length := by
              rw [← hZ.1]
              exact (List.getElem?_eq_some_iff.mp hz2).1
            have hdi := List.getElem?_eq_getElem hi
            obtain ⟨z2', e1, e2⟩ := hZ.2 i _ hdi
            rw [hz2] at e1
            cases e1
            refine ⟨rfl, ?_⟩
            refine ⟨_, rfl, sz (by simp), fun a na => ⟨sz (by simp), fun r nr => ?_⟩⟩
            have Sa := (Same.new (o := HO.tup []) na).trans (Same.new (o := HO.tup [V.ref z2, V.ref a]) nr)
            have hD2 := Sa _ _ hD
            refine ⟨_, hD2, szLs (by rw [List.length_map, hP.1, List.length_map, List.length_take]; omega), ps ++ [r], Same.mut (S6.trans Sa) nD, by rw [upd_same, List.map_append]; rfl, ?_⟩
            rw [take_snoc hdi, List.map_append]
            exact ((hP.mono Sa).snoc (P := (some Ds[i], [])) ⟨.ref z2, a, [], SqT.of upd_same, ⟨z2, rfl, e2.mono (S6.trans Sa)⟩, Same.seqT (Same.new nr) (SqT.of upd_same), trivial⟩).but hD2 But.upd
          · rintro H6 ⟨ps, S6, hD, hP⟩
            rw [List.length_map, hZ.1, List.take_length] at hP
            have nD0 : H D = none := by
              cases e : H D with
              | none => rfl
              | some o =>
                rw [S15 _ _ e] at nD
                cases nD
            refine k D ps _ H6 (S15.trans S6) nD0 hD hP (fun B hB => ?_) (fun hh => by have := hle.sz; dsimp only at this; omega) fun x => ?_
            · obtain ⟨d', hd', rfl⟩ := List.mem_map.mp hB
              have hc' := hcl d' hd'
              obtain ⟨y1, y2⟩ := Zn.some_state hc'
              exact ⟨⟨fun d e => by cases e; exact hc', trivial, Nat.zero_le _, Nat.zero_le _⟩, Nat.zero_le _, Nat.zero_le _, _, y2, d', rfl, y1, fun g hg => by cases hg⟩
            · rw [← hle.st x, ← hst x]
              constructor
              · rintro ⟨B, hB, h⟩
                obtain ⟨d', hd', rfl⟩ := List.mem_map.mp hB
                obtain ⟨z', e, S, _⟩ := h
                cases e
                exact ⟨d', hd', S⟩
              · rintro ⟨d', hd', S⟩
                exact ⟨_, List.mem_map.mpr ⟨d', hd', rfl⟩, d', rfl, S, fun g hg => by cases hg⟩
      · rw [decide_eq_false (by omega)]
        refine iteF ?_
        refine ⟨_, rfl, rfl, _, rfl, iteT ?_⟩
        refine ⟨_, rfl, ?_⟩
        exact one H3 S3
end
end K18

namespace K18
open PySem L2 Bx
/-! groups as data -/
def lzD (q : Zn.Lit) : PyData := .tuple [.int (q.1 : Nat), .int (q.2.1 : Nat), .int q.2.2]
mutual
def gD : Zg.G → PyData
  | .mk ls gs => .tuple [.tuple (ls.map lzD), .tuple (gDs gs)]
def gDs : List Zg.G → List PyData
  | [] => []
  | g :: gs => gD g :: gDs gs
end
theorem iteTe {b : Bool} {A B : Prop} (e : b = true) (h : A) : if b = true then A else B := by
  rw [if_pos e]
  exact h
theorem iteFe {b : Bool} {A B : Prop} (e : b = false) (h : B) : if b = true then A else B := by
  rw [e, if_neg (by decide)]
  exact h
theorem lz_eqv {p q : Zn.Lit} (h : PyData.eqv (lzD p) (lzD q) = true) : p = q := by
  obtain ⟨a, b, c⟩ := p
  obtain ⟨a', b', c'⟩ := q
  simp only [lzD, PyData.eqv, PyData.eqvAll, Bool.and_eq_true, beq_iff_eq] at h
  obtain ⟨h1, h2, h3, _⟩ := h
  have e1 : a = a' := by omega
  have e2 : b = b' := by omega
  rw [e1, e2, h3]
theorem lzs_eqv : ∀ {ps qs : List Zn.Lit}, PyData.eqvAll (ps.map lzD) (qs.map lzD) = true → ps = qs
  | [], [], _ => rfl
  | [], q :: qs, h => by simp [PyData.eqvAll] at h
  | p :: ps, [], h => by simp [PyData.eqvAll] at h
  | p :: ps, q :: qs, h => by
    simp only [List.map_cons, PyData.eqvAll, Bool.and_eq_true] at h
    rw [lz_eqv h.1, lzs_eqv h.2]
mutual
theorem gD_eqv : ∀ (a b : Zg.G), PyData.eqv (gD a) (gD b) = true → a = b
  | .mk ls gs, .mk ls' gs', h => by
    simp only [gD, PyData.eqv, PyData.eqvAll, Bool.and_eq_true] at h
    rw [lzs_eqv h.1, gDs_eqv gs gs' h.2.1]
theorem gDs_eqv : ∀ (as bs : List Zg.G), PyData.eqvAll (gDs as) (gDs bs) = true → as = bs
  | [], [], _ => rfl
  | [], b :: bs, h => by simp [gDs, PyData.eqvAll] at h
  | a :: as, [], h => by simp [gDs, PyData.eqvAll] at h
  | a :: as, b :: bs, h => by
    simp only [gDs, PyData.eqvAll, Bool.and_eq_true] at h
    rw [gD_eqv a b h.1, gDs_eqv as bs h.2]
end
theorem lzs_lay : ∀ ls : List Zn.Lit, PyData.canLayAll0 (ls.map lzD) = true
  | [] => by simp [PyData.canLayAll0]
  | l :: ls => by simp [PyData.canLayAll0, lzs_lay ls, lzD, PyData.canLay0]
mutual
theorem gD_lay : ∀ g : Zg.G, PyData.canLay0 (gD g) = true
  | .mk ls gs => by simp [gD, PyData.canLay0, PyData.canLayAll0, lzs_lay ls, gDs_lay gs]
theorem gDs_lay : ∀ gs : List Zg.G, PyData.canLayAll0 (gDs gs) = true
  | [] => by simp [gDs, PyData.canLayAll0]
  | g :: gs => by simp [gDs, PyData.canLayAll0, gD_lay g, gDs_lay gs]
end
theorem lzs_depth : ∀ ls : List Zn.Lit, PyData.depthAll (ls.map lzD) ≤ 1
  | [] => by simp [PyData.depthAll]
  | l :: ls => by
    have := lzs_depth ls
    simp only [List.map_cons, PyData.depthAll, lzD, PyData.depth]
    omega
mutual
theorem gD_depth : ∀ g : Zg.G, PyData.depth (gD g) ≤ 2 * Zg.dep g + 1
  | .mk ls gs => by
    have h1 := lzs_depth ls
    have h2 := gDs_depth gs
    simp only [gD, PyData.depth, PyData.depthAll, Zg.dep]
    omega
theorem gDs_depth : ∀ gs : List Zg.G, PyData.depthAll (gDs gs) ≤ 2 * Zg.deps gs + 1
  | [] => by simp [gDs, PyData.depthAll]
  | g :: gs => by
    have h1 := gD_depth g
    have h2 := gDs_depth gs
    simp only [gDs, PyData.depthAll, Zg.deps]
    omega
end
theorem gDs_mem : ∀ {gs : List Zg.G} {g : Zg.G}, ((gDs gs).any fun z => PyData.eqv z (gD g)) = true → g ∈ gs
  | [], g, h => by simp [gDs] at h
  | k :: gs, g, h => by
    simp only [gDs, List.any_cons, Bool.or_eq_true] at h
    rcases h with h | h
    · rw [gD_eqv k g h]
      exact List.mem_cons_self
    · exact List.mem_cons_of_mem _ (gDs_mem h)
section
variable {K : PySem.W.Frag} {H : Hp}
theorem LitsZ.dp {ts : List Addr} {L : List Zn.Lit} (h : LitsZ K H ts L) : DpAll K H (ts.map V.ref) (L.map lzD) := by
  induction L generalizing ts with
  | nil =>
    have : ts = [] := List.length_eq_zero_iff.mp h.1
    subst this
    exact .nil
  | cons q L ih =>
    cases ts with
    | nil => cases h.1
    | cons t ts =>
      obtain ⟨t', h1, h2⟩ := h.2 0 q rfl
      cases h1
      exact .cons (.tup h2 (.cons (.int _) (.cons (.int _) (.cons (.int _) .nil)))) (ih ⟨Nat.succ.inj h.1, fun j q' hj => h.2 (j + 1) q' hj⟩)
mutual
theorem IsG.dp : ∀ {g : Addr} {G : Zg.G}, IsG K H g G → Dp K H (.ref g) (gD G)
  | g, .mk ls gs, h => by
    obtain ⟨a, c, ts, us, h1, h2, h3, h4, h5⟩ := h
    exact .tup h1 (.cons (.tup h2 h3.dp) (.cons (.tup h4 (IsGs.dp h5)) .nil))
theorem IsGs.dp : ∀ {us : List Addr} {gs : List Zg.G}, IsGs K H us gs → DpAll K H (us.map V.ref) (gDs gs)
  | [], [], _ => .nil
  | u :: us, g :: gs, h => .cons (IsG.dp h.1) (IsGs.dp h.2)
  | [], _ :: _, h => h.elim
  | _ :: _, [], h => h.elim
end
end
section
variable {P : Program} {w : World} {K : PySem.W.Frag} {mg : Str → Option Value} {base : Heap} {CC CS aB : Addr}
/-- do the integers fit the group -/
def spFits (K : PySem.W.Frag) (n : Nat) : Sp := fun vs H Q _ => ∃ (g l : Addr) (m : Nat) (x : Nat → Int) (G : Zg.G) (c : Bool), vs = [.ref g, .ref l, .bl c] ∧ IsG K H g G ∧ SqL K H l (numsV x m) ∧ Zg.OkG m G ∧ Zg.dep G ≤ n ∧ ∀ b : Bool, (b = true ↔ Zg.Hd c x G) → Q (.bl b) H
theorem ok_fits {f : Addr} {fd : FuncData} (F : C8.Def K mg "fits" s_fits f fd) (b : Binds K fd ["group", "numbers", "is_case"] []) (T : Txt K mg CC CS aB) : ∀ n : Nat, C8.Cal P w K mg base (n + 1) "fits" (spFits K n) []
  | 0 => by
    refine C8.cal0 F b .nil sc_fits (fun vs H Q E h => ?_) (fun cdv A outer s H vs Q E hr h => ?_)
    · obtain ⟨g, l, m, x, G, c, rfl, _⟩ := h
      rfl
    · obtain ⟨g, l, m, x, G, c, rfl, hg, hl, hok, hn, k⟩ := h
      have := Zg.dep_pos G
      omega
  | n + 1 => by
    have K_fits := ok_fits F b T n
    refine C8.cal0 F b .nil sc_fits (fun vs H Q E h => ?_) (fun cdv A outer s H vs Q E hr h => ?_)
    · obtain ⟨g, l, m, x, G, c, rfl, _⟩ := h
      rfl
    obtain ⟨g, l, m, x, ⟨ls, gs⟩, c, rfl, ⟨a, cc, ts, us, hg0, ha, hL, hc, hG⟩, hl, ⟨hok1, hok2⟩, hn, k⟩ := h
    refine ⟨_, (pss_cons (ps_asg (pv 0) (pg_tup (by rfl) (pgs_cons (pg_name (i := 3) sc_fits.nd rfl (Or.inl rfl)) (pgs_cons (pg_name (i := 4) sc_fits.nd rfl (Or.inl rfl)) pgs_nil))))
    (pss_cons (ps_for PassesOwn.never rfl (pi_tup (pv 3)) (pg_tup (by rfl) (pgs_cons (pg_name (i := 5) sc_fits.nd rfl (Or.inl rfl)) (pgs_cons (pg_name (i := 6) sc_fits.nd rfl (Or.inl rfl)) (pgs_cons (pg_name (i := 7) sc_fits.nd rfl (Or.inl rfl)) pgs_nil))))
    (pss_one (ps_if (pt_cmpR op_ne (pe_cmpR op_le (pe_ix ix_list (pv 1) (pv 5) (fun _ _ => rfl)) (pe_op op_add (pe_ix ix_list (pv 1) (pv 6) (fun _ _ => rfl)) (pv 7)) (nomark _)) (pv 2) (nomark _)) (pss_one (ps_ret (pe_not (pv 2)))) pss_nil)))
    (pss_cons (ps_for PassesOwn.never rfl (pi_tup (pv 4)) (pg_name (i := 8) sc_fits.nd rfl (Or.inl rfl))
    (pss_one (ps_if (pt_cmpR op_ne (C8.pe_c K_fits hr (Nat.le_refl _) (by rfl) (pa_cons (pv 8) (pa_cons (pv 1) (pa_cons (pe_not (pv 2)) pa_nil)))) (pv 2) (nomark _)) (pss_one (ps_ret (pe_not (pv 2)))) pss_nil)))
    (pss_one (ps_ret (pv 2)))))), ?_⟩
    simp only [Zg.dep] at hn
    refine ⟨_, rfl, g, _, rfl, hg0, rfl, _, _, rfl, _, _, rfl, rfl, ?_⟩
    refine ⟨_, rfl, a, rfl, ⟨_, ha⟩, for_tup (xs := ts.map V.ref) (fun j σ H' => ∃ (v5 v6 v7 : Option V), σ = [some (.ref g), some (.ref l), some (.bl c), some (.ref a), some (.ref cc), v5, v6, v7, none] ∧ H' = H ∧ ∀ q ∈ ls.take j, (Zn.Hl x q ↔ c = true)) ⟨none, none, none, rfl, rfl, fun q hq => (by simp at hq)⟩ (fun j σ H' _ h => ?_) ?_ ?_⟩
    · obtain ⟨_, _, _, _, rfl, _⟩ := h
      exact ha
    · rintro j y σ H1 hx ⟨v5, v6, v7, rfl, rfl, hall⟩
      rw [List.getElem?_map] at hx
      obtain ⟨t, ht, rfl⟩ := Option.map_eq_some_iff.mp hx
      have hj : j < ls.length := by
        rw [← hL.1]
        exact (List.getElem?_eq_some_iff.mp ht).1
      have hqj := List.getElem?_eq_getElem hj
      obtain ⟨t', g1, g2⟩ := hL.2 j _ hqj
      rw [ht] at g1
      cases g1
      obtain ⟨o1, o2⟩ := hok1 _ (List.getElem_mem hj)
      generalize ls[j] = q at hqj g2 o1 o2
      refine ⟨t, _, rfl, g2, rfl, _, _, rfl, _, _, rfl, _, _, rfl, rfl, ?_⟩
      refine ⟨_, rfl, _, rfl, l, _, _, _, rfl, rfl, hl, atI_nat (numsV_at o1), ?_⟩
      refine ⟨_, rfl, _, rfl, l, _, _, _, rfl, rfl, hl, atI_nat (numsV_at o2), _, rfl, _, _, rfl, rfl, _, _, rfl, rfl, _, rfl, rfl, _, rfl, ?_⟩
      by_cases hq : (Zn.Hl x q ↔ c = true)
      · have e : decide (x q.1 ≤ x q.2.1 + q.2.2) = c := by
          cases c
          · exact decide_eq_false (fun z => by cases hq.mp z)
          · exact decide_eq_true (show Zn.Hl x q from hq.mpr rfl)
        refine iteFe ?_ ⟨_, _, _, rfl, rfl, fun r hr => ?_⟩
        · show (!decide (V.bl (decide (x q.1 ≤ x q.2.1 + q.2.2)) = V.bl c)) = false
          rw [e]
          simp
        rw [take_snoc hqj] at hr
        rcases List.mem_append.mp hr with hr | hr
        · exact hall r hr
        · rw [List.mem_singleton.mp hr]
          exact hq
      · have e : decide (x q.1 ≤ x q.2.1 + q.2.2) = !c := by
          cases c
          · exact decide_eq_true (show Zn.Hl x q from Classical.byContradiction fun z => hq ⟨fun y => absurd y z, fun y => by cases y⟩)
          · exact decide_eq_false (fun z => hq ⟨fun _ => rfl, fun _ => z⟩)
        refine iteTe ?_ ⟨_, rfl, c, rfl, k _ ?_⟩
        · show (!decide (V.bl (decide (x q.1 ≤ x q.2.1 + q.2.2)) = V.bl c)) = true
          rw [e]
          cases c <;> simp
        · have hmq : q ∈ ls := List.mem_of_getElem? hqj
          cases c with
          | true =>
            refine ⟨fun z => (by cases z), fun z => ?_⟩
            rw [Zg.hd_case] at z
            exact absurd ⟨fun _ => rfl, fun _ => z.1 q hmq⟩ hq
          | false =>
            refine ⟨fun _ => ?_, fun _ => rfl⟩
            rw [Zg.hd_clause]
            exact .inl ⟨q, hmq, Classical.byContradiction fun z => hq ⟨fun y => absurd y z, fun y => by cases y⟩⟩
    rintro σ H1 ⟨v5, v6, v7, rfl, rfl, hall⟩
    rw [List.length_map, hL.1, List.take_length] at hall
    refine ⟨_, rfl, cc, rfl, ⟨_, hc⟩, for_tup (xs := us.map V.ref) (fun j σ H' => ∃ (v8 : Option V), σ = [some (.ref g), some (.ref l), some (.bl c), some (.ref a), some (.ref cc), v5, v6, v7, v8] ∧ H' = H1 ∧ ∀ q ∈ gs.take j, (Zg.Hd (!c) x q ↔ c = true)) ⟨none, rfl, rfl, fun q hq => (by simp at hq)⟩ (fun j σ H' _ h => ?_) ?_ ?_⟩
    · obtain ⟨_, _, rfl, _⟩ := h
      exact hc
    · rintro j y σ H2 hx ⟨v8, rfl, rfl, hal2⟩
      rw [List.getElem?_map] at hx
      obtain ⟨u, hu, rfl⟩ := Option.map_eq_some_iff.mp hx
      obtain ⟨G', hG', hu'⟩ := hG.at_ hu
      have hm := List.mem_of_getElem? hG'
      have e1 := Zg.deps_mem hm
      refine ⟨_, rfl, _, rfl, _, rfl, c, rfl, u, l, m, x, G', !c, rfl, hu', hl, okGs_mem hok2 hm, by omega, fun b hb => ⟨_, rfl, rfl, _, rfl, ?_⟩⟩
      by_cases e : b = c
      · refine iteFe ?_ ⟨_, rfl, rfl, fun r hr => ?_⟩
        · show (!decide (V.bl b = V.bl c)) = false
          rw [e]
          simp
        · rw [take_snoc hG'] at hr
          rcases List.mem_append.mp hr with hr | hr
          · exact hal2 r hr
          · rw [List.mem_singleton.mp hr, ← hb, e]
      · refine iteTe ?_ ⟨_, rfl, c, rfl, k _ ?_⟩
        · show (!decide (V.bl b = V.bl c)) = true
          cases b <;> cases c <;> simp at e ⊢
        · have e2 : b = !c := by cases b <;> cases c <;> simp at e ⊢
          subst e2
          cases c with
          | true =>
            refine ⟨fun z => (by cases z), fun z => ?_⟩
            rw [Zg.hd_case] at z
            exact absurd (hb.mpr (z.2 _ hm)) (by decide)
          | false =>
            refine ⟨fun _ => ?_, fun _ => rfl⟩
            rw [Zg.hd_clause]
            exact .inr ⟨_, hm, hb.mp rfl⟩
    · rintro σ H2 ⟨v8, rfl, rfl, hal2⟩
      rw [List.length_map, hG.len, List.take_length] at hal2
      refine ⟨_, rfl, k c ?_⟩
      cases c with
      | true =>
        rw [Zg.hd_case]
        exact ⟨fun _ => ⟨fun q hq => (hall q hq).mpr rfl, fun q hq => (hal2 q hq).mpr rfl⟩, fun _ => rfl⟩
      | false =>
        rw [Zg.hd_clause]
        refine ⟨fun z => (by cases z), ?_⟩
        rintro (⟨q, hq, z⟩ | ⟨q, hq, z⟩)
        · exact (hall q hq).mp z
        · exact (hal2 q hq).mp z
/-- is the point in the part -/
def spHasState (K : PySem.W.Frag) : Sp := fun vs H Q _ => ∃ (p l : Addr) (m D S : Nat) (B : Pt) (x : Nat → Int), vs = [.ref p, .ref l] ∧ IsPt K H m p B ∧ Zg.PB m D S B ∧ D ≤ 60 ∧ SqL K H l (numsV x m) ∧ ∀ (b : Bool) H', Same H H' → (b = true ↔ Zg.In m x B) → Q (.bl b) H'
theorem ok_has_state {f : Addr} {fd : FuncData} (F : C8.Def K mg "has_state" s_has_state f fd) (b : Binds K fd ["part", "numbers"] []) (T : Txt K mg CC CS aB) (K_has_point : C8.Cal P w K mg base 1 "has_point" (spHasPoint K) []) (K_fits : C8.Cal P w K mg base 63 "fits" (spFits K 62) []) :
    C8.Cal P w K mg base 64 "has_state" (spHasState K) [] := by
  refine C8.cal0 F b .nil sc_has_state (fun vs H Q E h => ?_) (fun cdv A outer s H vs Q E hr h => ?_)
  · obtain ⟨p, l, m, D, S, B, x, rfl, _⟩ := h
    rfl
  obtain ⟨p, l, m, D, S, ⟨o, cs⟩, x, rfl, hp, hB, hD, hl, k⟩ := h
  obtain ⟨d, rfl, hC⟩ : ∃ d, o = some d ∧ Zn.Closed m d := hB.cl
  obtain ⟨v, c, us, hp0, ⟨z, rfl, hz⟩, hc, hG⟩ := hp
  have hdp := hB.dp
  have hok := hB.ok
  dsimp only at hG hdp hok
  refine ⟨_, (pss_cons (ps_asg (pv 0) (pg_tup (by rfl) (pgs_cons (pg_name (i := 2) sc_has_state.nd rfl (Or.inl rfl)) (pgs_cons (pg_name (i := 3) sc_has_state.nd rfl (Or.inl rfl)) pgs_nil))))
    (pss_one (ps_ret (pe_and (C8.pe_c K_has_point hr (by decide) (by rfl) (pa_cons (pv 2) (pa_cons (pv 1) pa_nil))) (pe_one (C8.pe_c K_fits hr (by decide) (by rfl) (pa_cons (pe_tup (pa_cons (pe_tup pa_nil) (pa_cons (pv 3) pa_nil))) (pa_cons (pv 1) (pa_cons pe_bl pa_nil))))))))), ?_⟩
  refine ⟨_, rfl, p, _, rfl, hp0, rfl, _, _, rfl, _, _, rfl, rfl, ?_⟩
  refine ⟨_, rfl, _, rfl, z, l, m, d, x, rfl, hz, hl, fun b H1 S1 hb => ⟨_, rfl, ?_⟩⟩
  cases b with
  | false =>
    refine iteF (k false H1 S1 ⟨fun y => (by cases y), fun y => ?_⟩)
    exact hb.mpr (in_some.mp y).1
  | true =>
    refine iteT ⟨sz (by simp), fun a na => ⟨_, rfl, sz (by simp), fun g ng => ?_⟩⟩
    have Sa := Same.new (o := HO.tup []) na
    have Sg := Same.new (o := HO.tup [V.ref a, V.ref c]) ng
    have S3 := S1.trans (Sa.trans Sg)
    refine ⟨_, rfl, g, l, m, x, .mk [] cs, true, rfl, ⟨a, c, [], us, SqT.of upd_same, Same.seqT Sg (SqT.of upd_same), LitsZ.nil, Same.seqT S3 hc, hG.mono S3⟩, S3.seq hl, ⟨fun q hq => (by cases hq), hok⟩, by simp only [Zg.dep]; omega, fun b hb2 => k b _ S3 ?_⟩
    rw [in_some]
    exact hb2.trans ⟨fun y => ⟨hb.mp rfl, y⟩, fun y => y.2⟩
/-- is a part within another one, as far as is seen at once -/
def spPartIn (K : PySem.W.Frag) : Sp := fun vs H Q _ => ∃ (p q : Addr) (m D S : Nat) (A B : Pt), vs = [.ref p, .ref q] ∧ IsPt K H m p A ∧ IsPt K H m q B ∧ Zg.PB m D S A ∧ Zg.PB m D S B ∧ D ≤ 60 ∧ S ≤ 90000 ∧ ∀ (b : Bool) H', Same H H' → (b = true → ∀ x, Zg.In m x A → Zg.In m x B) → Q (.bl b) H'
theorem ok_is_part_inside {f : Addr} {fd : FuncData} (F : C8.Def K mg "is_part_inside" s_is_part_inside f fd) (b : Binds K fd ["part", "other"] []) (T : Txt K mg CC CS aB) (K_is_inside : C8.Cal P w K mg base 1 "is_inside" (spInside K) []) (K_open_group : C8.Cal P w K mg base 73 "open_group" (spOG K 72) []) :
    C8.Cal P w K mg base 74 "is_part_inside" (spPartIn K) [] := by
  refine C8.cal0 F b .nil sc_is_part_inside (fun vs H Q E h => ?_) (fun cdv A outer s H vs Q E hr h => ?_)
  · obtain ⟨p, q, m, D, S, B, C, rfl, _⟩ := h
    rfl
  obtain ⟨p, q, m, D, S, ⟨o, cs⟩, ⟨o2, hs⟩, rfl, hp, hq, hA, hB, hD, hS, k⟩ := h
  obtain ⟨d, rfl, hCd⟩ : ∃ d, o = some d ∧ Zn.Closed m d := hA.cl
  obtain ⟨e, rfl, hCe⟩ : ∃ d, o2 = some d ∧ Zn.Closed m d := hB.cl
  obtain ⟨v, c, us, hp0, ⟨z, rfl, hz⟩, hc, hG⟩ := hp
  obtain ⟨v, ch, uh, hq0, ⟨y, rfl, hy⟩, hch, hGh⟩ := hq
  dsimp only at hG hGh
  have hdB := hB.dp
  have hsB := hB.sz
  have hokB := hB.ok
  have hdA := hA.dp
  dsimp only at hdB hsB hokB hdA
  refine ⟨_, (pss_cons (ps_asg (pv 0) (pg_tup (by rfl) (pgs_cons (pg_name (i := 2) sc_is_part_inside.nd rfl (Or.inl rfl)) (pgs_cons (pg_name (i := 3) sc_is_part_inside.nd rfl (Or.inl rfl)) pgs_nil))))
    (pss_cons (ps_asg (pv 1) (pg_tup (by rfl) (pgs_cons (pg_name (i := 4) sc_is_part_inside.nd rfl (Or.inl rfl)) (pgs_cons (pg_name (i := 5) sc_is_part_inside.nd rfl (Or.inl rfl)) pgs_nil))))
    (pss_cons (ps_if (pt_not (pt_val (C8.pe_c K_is_inside hr (by decide) (by rfl) (pa_cons (pv 2) (pa_cons (pv 4) pa_nil))))) (pss_one (ps_ret pe_bl)) pss_nil)
    (pss_cons (ps_for PassesOwn.never rfl (pi_tup (pv 5)) (pg_name (i := 6) sc_is_part_inside.nd rfl (Or.inl rfl))
    (pss_cons (ps_set (i := 7) sc_is_part_inside.nd rfl (Or.inl rfl) (C8.pe_c K_open_group hr (by decide) (by rfl) (pa_cons (pv 2) (pa_cons (pv 6) (pa_cons pe_bl pa_nil)))))
    (pss_one (ps_if (PW.pt (pw_and (pt_cmpR op_notN (pv 7) pe_non (nomark _)) (pw_and1 (pt_cmpR (op_notInTD hr) (pv 7) (pv 3) (by rfl))))) (pss_one (ps_ret pe_bl)) pss_nil))))
    (pss_one (ps_ret pe_bl)))))), ?_⟩
  refine ⟨_, rfl, p, _, rfl, hp0, rfl, _, _, rfl, _, _, rfl, rfl, ?_⟩
  refine ⟨_, rfl, q, _, rfl, hq0, rfl, _, _, rfl, _, _, rfl, rfl, ?_⟩
  refine ⟨_, rfl, _, rfl, z, y, m, d, e, rfl, hz, hy, fun b H1 S1 hb => ⟨_, rfl, ?_⟩⟩
  cases b with
  | false => exact iteT (k false H1 S1 fun y => by cases y)
  | true =>
    have hch1 := Same.seqT S1 hch
    refine iteF ⟨_, rfl, ch, rfl, ⟨_, hch1⟩, for_tup (xs := uh.map V.ref) (fun j σ H' => ∃ v6 v7, σ = [some (.ref p), some (.ref q), some (.ref z), some (.ref c), some (.ref y), some (.ref ch), v6, v7] ∧ Same H1 H' ∧ ∀ h ∈ hs.take j, ∀ x, Zg.In m x (some d, cs) → Zg.Hd false x h) ⟨none, none, rfl, Same.refl H1, fun h hh => (by simp at hh)⟩ (fun j σ H' _ h => ?_) ?_ ?_⟩
    · obtain ⟨_, _, _, S, _⟩ := h
      exact Same.seqT S hch1
    · rintro j x σ H2 hx ⟨v6, v7, rfl, S2, hall⟩
      rw [List.getElem?_map] at hx
      obtain ⟨u, hu, rfl⟩ := Option.map_eq_some_iff.mp hx
      obtain ⟨G', hG', hu'⟩ := hGh.at_ hu
      have hm := List.mem_of_getElem? hG'
      have e1 := Zg.deps_mem hm
      have e2 := szs_mem hm
      have hokG := okGs_mem hokB hm
      have S12 := S1.trans S2
      refine ⟨_, rfl, _, rfl, z, u, m, d, G', false, rfl, hz.mono S12, hu'.mono S12, hokG, by omega, by omega, fun v H3 S3 hv => ?_⟩
      have og : ∀ x, Zn.Sat m d x → _ := fun x Sx => Zg.opn_ok Sx false G' hokG
      have S23 := S2.trans S3
      cases eo : Zg.opn d false G' with
      | none =>
        rw [eo] at hv
        cases hv
        refine ⟨_, rfl, rfl, _, rfl, iteF ?_⟩
        refine iteF ⟨_, _, rfl, S23, fun h hh x hx => ?_⟩
        rw [take_snoc hG'] at hh
        rcases List.mem_append.mp hh with hh | hh
        · exact hall h hh x hx
        · rw [List.mem_singleton.mp hh]
          exact ((og x (in_some.mp hx).1).2 eo).mpr rfl
      | some g =>
        rw [eo] at hv
        obtain ⟨gh, rfl, hgh⟩ := hv
        have hdg := Zg.opn_dep false _ _ eo
        have hcs3 := Same.seqT (S12.trans S3) hc
        refine ⟨_, rfl, rfl, _, rfl, iteT ?_⟩
        refine ⟨_, rfl, _, rfl, gD g, gDs cs, hgh.dp, .tup hcs3 (hG.mono (S12.trans S3)).dp, gD_lay g, gDs_lay cs, by have := gD_depth g; omega, _, rfl, ?_⟩
        cases hi : ((gDs cs).any fun z => PyData.eqv z (gD g)) with
        | false =>
          refine iteT ?_
          exact k false H3 (S12.trans S3) fun y => by cases y
        | true =>
          refine iteF ⟨_, _, rfl, S23, fun h hh x hx => ?_⟩
          rw [take_snoc hG'] at hh
          rcases List.mem_append.mp hh with hh | hh
          · exact hall h hh x hx
          · rw [List.mem_singleton.mp hh]
            have hmg := gDs_mem hi
            obtain ⟨w1, w2⟩ := in_some.mp hx
            rw [Zg.hd_case] at w2
            exact ((og x w1).1 _ eo).mp (w2.2 g hmg)
    · rintro σ H2 ⟨v6, v7, rfl, S2, hall⟩
      rw [List.length_map, hGh.len, List.take_length] at hall
      refine k true H2 (S1.trans S2) fun _ x hx => ?_
      rw [in_some, Zg.hd_case]
      exact ⟨Zn.inside_sat (hb rfl) (in_some.mp hx).1, fun l hl => (by cases hl), fun g hg => hall g hg x hx⟩
end
end K18

namespace K18
open PySem L2 Bx
theorem none_of {H H' : Hp} {l : Addr} (S : Same H H') (n : H' l = none) : H l = none := by
  cases e : H l with
  | none => rfl
  | some o =>
    rw [S _ _ e] at n
    cases n
theorem Pts.at_ {K : PySem.W.Frag} {H : Hp} {m : Nat} {ps : List Addr} {Ps : List Pt} (h : Pts K H m ps Ps) {j : Nat} {p : Addr} (e : ps[j]? = some p) : ∃ P, Ps[j]? = some P ∧ IsPt K H m p P := by
  have hj : j < Ps.length := by
    rw [← h.1]
    exact (List.getElem?_eq_some_iff.mp e).1
  have hP := List.getElem?_eq_getElem hj
  obtain ⟨p', g1, g2⟩ := h.2 j _ hP
  rw [e] at g1
  cases g1
  exact ⟨_, hP, g2⟩
section
variable {P : Program} {w : World} {K : PySem.W.Frag} {mg : Str → Option Value} {base : Heap} {CC CS aB : Addr}
def spInOne (K : PySem.W.Frag) : Sp := fun vs H Q _ => ∃ (p l : Addr) (ps : List Addr) (m D S : Nat) (A : Pt) (Bs : List Pt), vs = [.ref p, .ref l] ∧ IsPt K H m p A ∧ Zg.PB m D S A ∧ SqL K H l (ps.map V.ref) ∧ Pts K H m ps Bs ∧ (∀ B ∈ Bs, Zg.PB m D S B) ∧ D ≤ 60 ∧ S ≤ 90000 ∧
  ∀ (b : Bool) H', Same H H' → (b = true → ∃ B ∈ Bs, ∀ x, Zg.In m x A → Zg.In m x B) → Q (.bl b) H'
theorem ok_is_inside_one {f : Addr} {fd : FuncData} (F : C8.Def K mg "is_inside_one" s_is_inside_one f fd) (b : Binds K fd ["part", "others"] []) (T : Txt K mg CC CS aB) (K_is_part_inside : C8.Cal P w K mg base 74 "is_part_inside" (spPartIn K) []) :
    C8.Cal P w K mg base 75 "is_inside_one" (spInOne K) [] := by
  refine C8.cal0 F b .nil sc_is_inside_one (fun vs H Q E h => ?_) (fun cdv A outer s H vs Q E hr h => ?_)
  · obtain ⟨p, l, ps, m, D, S, A, Bs, rfl, _⟩ := h
    rfl
  obtain ⟨p, l, ps, m, D, S, A, Bs, rfl, hp, hA, hl, hP, hB, hD, hS, k⟩ := h
  refine ⟨_, (pss_cons (ps_for PassesOwn.never rfl (pi_list (pv 1)) (pg_name (i := 2) sc_is_inside_one.nd rfl (Or.inl rfl))
    (pss_one (ps_if (pt_val (C8.pe_c K_is_part_inside hr (by decide) (by rfl) (pa_cons (pv 0) (pa_cons (pv 2) pa_nil)))) (pss_one (ps_ret pe_bl)) pss_nil)))
    (pss_one (ps_ret pe_bl))), ?_⟩
  refine ⟨_, rfl, l, rfl, ⟨_, hl⟩, for_list (xs := ps.map V.ref) (fun i σ H' => ∃ v2, σ = [some (.ref p), some (.ref l), v2] ∧ Same H H') ⟨none, rfl, Same.refl H⟩ (fun i σ H' _ h => ?_) ?_ ?_⟩
  · obtain ⟨_, _, S⟩ := h
    exact S.seq hl
  · rintro i x σ H1 hx ⟨v2, rfl, S1⟩
    rw [List.getElem?_map] at hx
    obtain ⟨q, hq, rfl⟩ := Option.map_eq_some_iff.mp hx
    obtain ⟨B, hB1, hB2⟩ := hP.at_ hq
    have hm := List.mem_of_getElem? hB1
    refine ⟨_, rfl, _, rfl, p, q, m, D, S, A, B, rfl, hp.mono S1, hB2.mono S1, hA, hB B hm, hD, hS, fun b H2 S2 hb => ⟨_, rfl, ?_⟩⟩
    cases b with
    | true => exact iteT (k true H2 (S1.trans S2) fun _ => ⟨B, hm, hb rfl⟩)
    | false => exact iteF ⟨_, rfl, S1.trans S2⟩
  · rintro σ H1 ⟨v2, rfl, S1⟩
    exact k false H1 S1 fun y => by cases y
def spTrim (K : PySem.W.Frag) : Sp := fun vs H Q _ => ∃ (l : Addr) (ps : List Addr) (m D S : Nat) (Ps : List Pt), vs = [.ref l] ∧ SqL K H l (ps.map V.ref) ∧ Pts K H m ps Ps ∧ (∀ A ∈ Ps, Zg.PB m D S A) ∧ D ≤ 60 ∧ S ≤ 90000 ∧ Ps.length ≤ 300 ∧
  ∀ p qs Es H', Same H H' → SqT K H' p (qs.map V.ref) → Pts K H' m qs Es → (∀ E ∈ Es, E ∈ Ps) → (∀ A ∈ Ps, ∃ E ∈ Es, ∀ x, Zg.In m x A → Zg.In m x E) → Es.length ≤ Ps.length → Q (.ref p) H'
theorem ok_trimmed {f : Addr} {fd : FuncData} (F : C8.Def K mg "trimmed" s_trimmed f fd) (b : Binds K fd ["parts"] []) (T : Txt K mg CC CS aB) (K_is_part_inside : C8.Cal P w K mg base 74 "is_part_inside" (spPartIn K) []) (K_is_inside_one : C8.Cal P w K mg base 75 "is_inside_one" (spInOne K) []) :
    C8.Cal P w K mg base 76 "trimmed" (spTrim K) [] := by
  refine C8.cal0 F b .nil sc_trimmed (fun vs H Q E h => ?_) (fun cdv A outer s H vs Q E hr h => ?_)
  · obtain ⟨l, ps, m, D, S, Ps, rfl, _⟩ := h
    rfl
  · obtain ⟨l, ps, m, D, S, Ps, rfl, hl, hP, hA, hD, hS, h300, k⟩ := h
    refine ⟨_, (pss_cons (ps_if (pt_cmpR op_gt (pe_op op_mul (pe_callB call_len_seq (by rfl) T.z_len (by decide +kernel) (pa_cons (pv 0) pa_nil)) (pe_callB call_len_seq (by rfl) T.z_len (by decide +kernel) (pa_cons (pv 0) pa_nil))) (C8.pe_gc (by rfl) T.c_MOST_PAIRS) (nomark _)) (pss_one (ps_ret (pe_callTy call_tuple_of (by rfl) T.z_tuple (by decide +kernel) (pa_cons (pv 0) pa_nil)))) pss_nil)
    (pss_cons (ps_set (i := 1) sc_trimmed.nd rfl (Or.inl rfl) (pe_lst pa_nil))
    (pss_cons (ps_for PassesOwn.never rfl (pi_list (pv 0)) (pg_name (i := 2) sc_trimmed.nd rfl (Or.inr rfl))
    (pss_one (ps_if (pt_not (pt_val (C8.pe_c K_is_inside_one hr (by decide) (by rfl) (pa_cons (pv 2) (pa_cons (pv 1) pa_nil))))) (pss_one (ps_set (i := 1) sc_trimmed.nd rfl (Or.inl rfl) (pe_op op_catS (pe_lc (own := [("other", 3)]) (g := gName 3) rfl sc_trimmed.nd (pi_list (pv 1)) (blkOk_by (own := [("other", 3)]) (N := N_trimmed) (sc := C8.fnScope s_trimmed) (by decide +kernel)) (fun _ _ _ _ _ => (pg_name (i := 3) sc_trimmed.nd rfl (Or.inl rfl))) (fun _ _ _ _ _ => (pts_one (pt_not (pt_val (C8.pe_c K_is_part_inside hr (by decide) (by rfl) (pa_cons (pv 3) (pa_cons (pv 2) pa_nil))))))) (fun _ _ _ _ _ => (pv 3))) (pe_lst (pa_cons (pv 2) pa_nil))))) pss_nil)))
    (pss_one (ps_ret (pe_callTy call_tuple_of (by rfl) T.z_tuple (by decide +kernel) (pa_cons (pv 1) pa_nil))))))), ?_⟩
    have lp : (ps.map V.ref).length = Ps.length := by rw [List.length_map, hP.1]
    refine ⟨_, rfl, l, _, rfl, .inl hl, _, rfl, l, _, rfl, .inl hl, _, _, rfl, rfl, .inl ⟨by omega, by omega⟩, _, _, rfl, rfl, _, rfl, ?_⟩
    have hmul : ((ps.map V.ref).length : Int) * ((ps.map V.ref).length : Int) ≤ 100000 := by
      rw [lp]
      have h1 : Ps.length * Ps.length ≤ 300 * 300 := Nat.mul_le_mul h300 h300
      have h2 : ((Ps.length * Ps.length : Nat) : Int) ≤ 90000 := by omega
      rw [Int.natCast_mul] at h2
      omega
    rw [decide_eq_false (by omega)]
    refine iteF ⟨sz (by simp), fun k0 nk0 => ?_⟩
    have Sk := Same.new (o := HO.lst []) nk0
    refine ⟨_, rfl, l, rfl, ⟨_, Sk.seq hl⟩, for_list (xs := ps.map V.ref) (fun i σ H' => ∃ (v2 v3 : Option V) (ka : Addr) (qs : List Addr) (Es : List Pt), σ = [some (.ref l), some (.ref ka), v2, v3] ∧ Same H H' ∧ H' ka = some (.lst (qs.map V.ref)) ∧ Pts K H' m qs Es ∧ (∀ E ∈ Es, E ∈ Ps) ∧ (∀ A ∈ Ps.take i, ∃ E ∈ Es, ∀ x, Zg.In m x A → Zg.In m x E) ∧ Es.length ≤ i)
      ⟨none, none, k0, [], [], rfl, Sk, upd_same, Pts.nil, fun e he => (by cases he), fun d hd => (by simp at hd), Nat.le_refl _⟩ (fun i σ H' _ h => ?_) ?_ ?_⟩
    · obtain ⟨_, _, _, _, _, _, S, _⟩ := h
      exact S.seq hl
    · rintro i x σ H1 hx ⟨v2, v3, ka, qs, Es, rfl, S1, hka, hE, hin, hcov, hlen⟩
      rw [List.getElem?_map] at hx
      obtain ⟨p, hp, rfl⟩ := Option.map_eq_some_iff.mp hx
      obtain ⟨A, hA1, hA2⟩ := hP.at_ hp
      have hi := (List.getElem?_eq_some_iff.mp hA1).1
      have hAm := List.mem_of_getElem? hA1
      refine ⟨_, rfl, _, rfl, p, ka, qs, m, D, S, A, Es, rfl, hA2.mono S1, hA A hAm, SqL.of hka, hE, fun E hE => hA E (hin E hE), hD, hS, fun b H2 S2 hb => ⟨_, rfl, ?_⟩⟩
      have S12 := S1.trans S2
      have hka2 := S2 _ _ hka
      cases b with
      | true =>
        refine iteF ⟨_, _, ka, qs, Es, rfl, S12, hka2, hE.mono S2, hin, fun d hd => ?_, by omega⟩
        rw [take_snoc hA1] at hd
        rcases List.mem_append.mp hd with h | h
        · exact hcov d h
        · rw [List.mem_singleton.mp h]
          exact hb rfl
      | false =>
        refine iteT ⟨_, rfl, ka, rfl, ⟨_, SqL.of hka2⟩, fun D0 nD => lc_list (xs := qs.map V.ref) (fun j H' => ∃ (rs : List Addr) (Gs : List Pt), Same H2 H' ∧ H' D0 = some (.lst (rs.map V.ref)) ∧ Pts K H' m rs Gs ∧ (∀ g ∈ Gs, g ∈ Es) ∧ (∀ e ∈ Es.take j, e ∈ Gs ∨ ∀ x, Zg.In m x e → Zg.In m x A) ∧ Gs.length ≤ j)
          ⟨[], [], Same.new nD, upd_same, Pts.nil, fun e he => (by cases he), fun d hd => (by simp at hd), Nat.le_refl _⟩ (fun j H' _ h => ?_) ?_ ?_⟩
        · obtain ⟨_, _, S, _⟩ := h
          exact S.seq (SqL.of hka2)
        · rintro j x H3 hxj ⟨rs, Gs, S3, hD3, hG, hg1, hg2, hgl⟩
          rw [List.getElem?_map] at hxj
          obtain ⟨q, hq, rfl⟩ := Option.map_eq_some_iff.mp hxj
          obtain ⟨E1, hE1, hE2⟩ := hE.at_ hq
          have hj := (List.getElem?_eq_some_iff.mp hE1).1
          have hEm := List.mem_of_getElem? hE1
          refine ⟨rfl, ?_⟩
          refine ⟨_, rfl, _, rfl, q, p, m, D, S, E1, A, rfl, hE2.mono (S2.trans S3), hA2.mono (S12.trans S3), hA E1 (hin E1 hEm), hA A hAm, hD, hS, fun b H4 S4 hb => ⟨_, rfl, ?_⟩⟩
          have hD4 := S4 _ _ hD3
          cases b with
          | true =>
            refine iteF ⟨rs, Gs, S3.trans S4, hD4, hG.mono S4, hg1, fun e he => ?_, by omega⟩
            rw [take_snoc hE1] at he
            rcases List.mem_append.mp he with h | h
            · exact hg2 e h
            · rw [List.mem_singleton.mp h]
              exact .inr (hb rfl)
          | false =>
            refine iteT ⟨_, rfl, _, hD4, szs (by rw [List.length_map, hG.1]; omega), rs ++ [q], Gs ++ [E1], Same.mut (S3.trans S4) nD, by rw [upd_same, List.map_append]; rfl, ((hG.mono S4).but hD4 But.upd).snoc ((hE2.mono ((S2.trans S3).trans S4)).but hD4 But.upd), fun g hg => ?_, fun e he => ?_, by simp; omega⟩
            · rcases List.mem_append.mp hg with h | h
              · exact hg1 g h
              · rw [List.mem_singleton.mp h]
                exact hEm
            · rw [take_snoc hE1] at he
              rcases List.mem_append.mp he with h | h
              · exact (hg2 e h).imp (fun h => List.mem_append_left _ h) id
              · exact .inl (List.mem_append_right _ h)
        · rintro H3 ⟨rs, Gs, S3, hD3, hG, hg1, hg2, hgl⟩
          rw [List.length_map, hE.1] at hg2 hgl
          rw [List.take_length] at hg2
          refine ⟨_, rfl, sz (by simp), fun o no => ⟨D0, o, _, _, rfl, rfl, (Same.new no).seq (SqL.of hD3), SqL.of upd_same, sz (by rw [List.length_map, hG.1]; simp; omega), fun kb nkb => ?_⟩⟩
          have So := Same.new (o := HO.lst [V.ref p]) no
          have Sb := So.trans (Same.new (o := HO.lst (rs.map V.ref ++ [V.ref p])) nkb)
          have S0 := (S12.trans S3).trans Sb
          refine ⟨_, _, kb, rs ++ [p], Gs ++ [A], rfl, S0, by rw [upd_same, List.map_append]; rfl, (hG.mono Sb).snoc (hA2.mono S0), fun e he => ?_, fun d hd => ?_, by simp; omega⟩
          · rcases List.mem_append.mp he with h | h
            · exact hin e (hg1 e h)
            · rw [List.mem_singleton.mp h]
              exact hAm
          · rw [take_snoc hA1] at hd
            rcases List.mem_append.mp hd with h | h
            · obtain ⟨e, he, hde⟩ := hcov d h
              rcases hg2 e he with q | q
              · exact ⟨e, List.mem_append_left _ q, hde⟩
              · exact ⟨A, List.mem_append_right _ (by simp), fun x hx => q x (hde x hx)⟩
            · rw [List.mem_singleton.mp h]
              exact ⟨A, List.mem_append_right _ (by simp), fun x hx => hx⟩
    · rintro σ H1 ⟨v2, v3, ka, qs, Es, rfl, S1, hka, hE, hin, hcov, hlen⟩
      rw [lp] at hcov hlen
      rw [List.take_length] at hcov
      refine ⟨_, rfl, ka, _, rfl, .inl ⟨SqL.of hka, fun p np => ?_⟩⟩
      have Sp := Same.new (o := HO.tup (qs.map V.ref)) np
      exact k p qs Es _ (S1.trans Sp) (SqT.of upd_same) (hE.mono Sp) hin hcov hlen
/-- the case of a part -/
def spCaseOf (K : PySem.W.Frag) : Sp := fun vs H Q _ => ∃ (p : Addr) (m D S : Nat) (A : Pt), vs = [.ref p] ∧ IsPt K H m p A ∧ Zg.PB m D S A ∧ m ≤ 20 ∧ ∀ r H', Same H H' → IsG K H' r (Zg.ptCase m A) → Q (.ref r) H'
theorem ok_case_of {f : Addr} {fd : FuncData} (F : C8.Def K mg "case_of" s_case_of f fd) (b : Binds K fd ["part"] []) (T : Txt K mg CC CS aB) (K_literals_of : C8.Cal P w K mg base 3 "literals_of" (spLitsOf K) []) : C8.Cal P w K mg base 4 "case_of" (spCaseOf K) [] := by
  refine C8.cal0 F b .nil sc_case_of (fun vs H Q E h => ?_) (fun cdv A outer s H vs Q E hr h => ?_)
  · obtain ⟨p, m, D, S, A, rfl, _⟩ := h
    rfl
  obtain ⟨p, m, D, S, ⟨o, cs⟩, rfl, hp, hA, hm, k⟩ := h
  obtain ⟨d, rfl, hC⟩ : ∃ d, o = some d ∧ Zn.Closed m d := hA.cl
  obtain ⟨v, c, us, hp0, ⟨z, rfl, hz⟩, hc, hG⟩ := hp
  refine ⟨_, (pss_cons (ps_asg (pv 0) (pg_tup (by rfl) (pgs_cons (pg_name (i := 1) sc_case_of.nd rfl (Or.inl rfl)) (pgs_cons (pg_name (i := 2) sc_case_of.nd rfl (Or.inl rfl)) pgs_nil))))
    (pss_one (ps_ret (pe_tup (pa_cons (C8.pe_c K_literals_of hr (by decide) (by rfl) (pa_cons (pv 1) pa_nil)) (pa_cons (pv 2) pa_nil)))))), ?_⟩
  refine ⟨_, rfl, p, _, rfl, hp0, rfl, _, _, rfl, _, _, rfl, rfl, ?_⟩
  refine ⟨_, rfl, z, m, d, rfl, hz, hC, hm, fun q ts H1 S1 hq hL => ⟨_, rfl, sz (by simp), fun r nr => ?_⟩⟩
  have Sr := Same.new (o := HO.tup [V.ref q, V.ref c]) nr
  exact k r _ (S1.trans Sr) ⟨q, c, ts, us, SqT.of upd_same, Same.seqT Sr hq, hL.mono Sr, Same.seqT (S1.trans Sr) hc, hG.mono (S1.trans Sr)⟩
end
end K18

namespace K18
open PySem L2 Bx
/-- groups or none -/
def GVs (K : PySem.W.Frag) (H : Hp) : List V → List (Option Zg.G) → Prop
  | [], [] => True
  | v :: vs, o :: os => GV K H v o ∧ GVs K H vs os
  | [], _ :: _ => False
  | _ :: _, [] => False
def oD : Option Zg.G → PyData
  | none => .none
  | some g => gD g
section
variable {K : PySem.W.Frag}
theorem GV.mono {H H' : Hp} (e : Same H H') {v : V} : ∀ {o : Option Zg.G}, GV K H v o → GV K H' v o
  | none, h => h
  | some G, ⟨g, h1, h2⟩ => ⟨g, h1, h2.mono e⟩
theorem GV.but {l : Addr} {H H' : Hp} {xs : List V} (hl : H l = some (.lst xs)) (e : But l H H') {v : V} : ∀ {o : Option Zg.G}, GV K H v o → GV K H' v o
  | none, h => h
  | some G, ⟨g, h1, h2⟩ => ⟨g, h1, h2.but hl e⟩
theorem GVs.mono {H H' : Hp} (e : Same H H') : ∀ {vs : List V} {os : List (Option Zg.G)}, GVs K H vs os → GVs K H' vs os
  | [], [], _ => trivial
  | v :: vs, o :: os, h => ⟨h.1.mono e, GVs.mono e h.2⟩
  | [], _ :: _, h => h.elim
  | _ :: _, [], h => h.elim
theorem GVs.but {l : Addr} {H H' : Hp} {xs : List V} (hl : H l = some (.lst xs)) (e : But l H H') : ∀ {vs : List V} {os : List (Option Zg.G)}, GVs K H vs os → GVs K H' vs os
  | [], [], _ => trivial
  | v :: vs, o :: os, h => ⟨h.1.but hl e, GVs.but hl e h.2⟩
  | [], _ :: _, h => h.elim
  | _ :: _, [], h => h.elim
theorem GVs.snoc {H : Hp} {v : V} {o : Option Zg.G} (k : GV K H v o) : ∀ {vs : List V} {os : List (Option Zg.G)}, GVs K H vs os → GVs K H (vs ++ [v]) (os ++ [o])
  | [], [], _ => ⟨k, trivial⟩
  | u :: vs, p :: os, h => ⟨h.1, GVs.snoc k h.2⟩
  | [], _ :: _, h => h.elim
  | _ :: _, [], h => h.elim
theorem GVs.snoc' {H : Hp} {v : V} {o : Option Zg.G} {vs : List V} {os : List (Option Zg.G)} (h : GVs K H vs os) (k : GV K H v o) : GVs K H (vs ++ [v]) (os ++ [o]) := GVs.snoc k h
theorem GVs.dp {H : Hp} : ∀ {vs : List V} {os : List (Option Zg.G)}, GVs K H vs os → DpAll K H vs (os.map oD)
  | [], [], _ => .nil
  | v :: vs, none :: os, h => by
    obtain ⟨h1, h2⟩ := h
    cases h1
    exact .cons .non (GVs.dp h2)
  | v :: vs, some G :: os, h => by
    obtain ⟨⟨g, rfl, h1⟩, h2⟩ := h
    exact .cons h1.dp (GVs.dp h2)
  | [], _ :: _, h => h.elim
  | _ :: _, [], h => h.elim
end
theorem oDs_lay : ∀ os : List (Option Zg.G), PyData.canLayAll0 (os.map oD) = true
  | [] => by simp [PyData.canLayAll0]
  | none :: os => by simp [PyData.canLayAll0, oDs_lay os, oD, PyData.canLay0]
  | some g :: os => by simp [PyData.canLayAll0, oDs_lay os, oD, gD_lay g]
theorem oDs_mem : ∀ {os : List (Option Zg.G)} {g : Zg.G}, ((os.map oD).any fun z => PyData.eqv z (gD g)) = true → some g ∈ os
  | [], g, h => by simp at h
  | none :: os, g, h => by
    simp only [List.map_cons, List.any_cons, Bool.or_eq_true] at h
    rcases h with h | h
    · obtain ⟨ls, gs⟩ := g
      simp [oD, gD, PyData.eqv] at h
    · exact List.mem_cons_of_mem _ (oDs_mem h)
  | some k :: os, g, h => by
    simp only [List.map_cons, List.any_cons, Bool.or_eq_true] at h
    rcases h with h | h
    · rw [gD_eqv k g h]
      exact List.mem_cons_self
    · exact List.mem_cons_of_mem _ (oDs_mem h)
/-- parts widened by no more than the others -/
def Wid (m D S : Nat) (Ps Os Es : List Pt) : Prop := Es.length = Ps.length ∧ ∀ (j : Nat) (A : Pt), Ps[j]? = some A → ∃ E, Es[j]? = some E ∧ Zg.PB m D S E ∧ (∀ x, Zg.In m x A → Zg.In m x E) ∧ ∀ x, Zg.In m x E → Zg.In m x A ∨ Zg.InS m x Os
theorem Wid.nil {m D S : Nat} {Os : List Pt} : Wid m D S [] Os [] := ⟨rfl, fun j A h => by cases h⟩
theorem Wid.snoc {m D S : Nat} {Ps Os Es : List Pt} {A E : Pt} (h : Wid m D S Ps Os Es) (k : Zg.PB m D S E ∧ (∀ x, Zg.In m x A → Zg.In m x E) ∧ ∀ x, Zg.In m x E → Zg.In m x A ∨ Zg.InS m x Os) : Wid m D S (Ps ++ [A]) Os (Es ++ [E]) := by
  refine ⟨by simp [h.1], fun j B hj => ?_⟩
  by_cases c : j < Ps.length
  · rw [List.getElem?_append_left c] at hj
    rw [List.getElem?_append_left (by rw [h.1]; exact c)]
    exact h.2 j B hj
  · rw [List.getElem?_append_right (by omega)] at hj
    rw [List.getElem?_append_right (by rw [h.1]; omega), h.1]
    have e : j - Ps.length = 0 := by
      have := (List.getElem?_eq_some_iff.mp hj).1
      simp at this
      omega
    rw [e] at hj ⊢
    cases hj
    exact ⟨E, rfl, k⟩
theorem Wid.pb {m D S : Nat} {Ps Os Es : List Pt} (h : Wid m D S Ps Os Es) : ∀ E ∈ Es, Zg.PB m D S E := fun E hE => by
  obtain ⟨j, hj⟩ := List.getElem?_of_mem hE
  have := (List.getElem?_eq_some_iff.mp hj).1
  obtain ⟨E', e, k, _⟩ := h.2 j _ (List.getElem?_eq_getElem (by rw [← h.1]; exact this))
  rw [hj] at e
  cases e
  exact k
/-- widened parts and the others are the parts and the others -/
theorem Wid.ins {m D S : Nat} {Ps Os Es : List Pt} (h : Wid m D S Ps Os Es) (x : Nat → Int) : (Zg.InS m x Es ∨ Zg.InS m x Os ↔ Zg.InS m x Ps ∨ Zg.InS m x Os) ∧ (Zg.InS m x Ps → Zg.InS m x Es) := by
  have a : Zg.InS m x Ps → Zg.InS m x Es := fun ⟨A, hA, hx⟩ => by
    obtain ⟨j, hj⟩ := List.getElem?_of_mem hA
    obtain ⟨E, e, _, k, _⟩ := h.2 j A hj
    exact ⟨E, List.mem_of_getElem? e, k x hx⟩
  have b : Zg.InS m x Es → Zg.InS m x Ps ∨ Zg.InS m x Os := fun ⟨E, hE, hx⟩ => by
    obtain ⟨j, hj⟩ := List.getElem?_of_mem hE
    have hl := (List.getElem?_eq_some_iff.mp hj).1
    have hA := List.getElem?_eq_getElem (l := Ps) (i := j) (by rw [← h.1]; exact hl)
    obtain ⟨E', e, _, _, k⟩ := h.2 j _ hA
    rw [hj] at e
    cases e
    exact (k x hx).imp (fun y => ⟨_, List.mem_of_getElem? hA, y⟩) id
  exact ⟨⟨fun z => z.elim b .inr, fun z => z.elim (fun y => .inl (a y)) .inr⟩, a⟩
section
variable {P : Program} {w : World} {K : PySem.W.Frag} {mg : Str → Option Value} {base : Heap} {CC CS aB : Addr}
def spWid (K : PySem.W.Frag) : Sp := fun vs H Q _ => ∃ (a_ b_ : Addr) (ps qs : List Addr) (m D S : Nat) (Ps Os : List Pt), vs = [.ref a_, .ref b_] ∧ SqT K H a_ (ps.map V.ref) ∧ Pts K H m ps Ps ∧ (∀ A ∈ Ps, Zg.PB m D S A) ∧ SqT K H b_ (qs.map V.ref) ∧ Pts K H m qs Os ∧ (∀ A ∈ Os, Zg.PB m D S A) ∧ D ≤ 60 ∧ S ≤ 90000 ∧ m ≤ 20 ∧ Ps.length ≤ 300 ∧ Os.length ≤ 300 ∧
  ∀ l rs Es H', Same H H' → H l = none → H' l = some (.lst (rs.map V.ref)) → Pts K H' m rs Es → Wid m D S Ps Os Es → Q (.ref l) H'
theorem ok_widened {f : Addr} {fd : FuncData} (F : C8.Def K mg "widened" s_widened f fd) (b : Binds K fd ["parts", "others"] []) (T : Txt K mg CC CS aB) (K_denied : C8.Cal P w K mg base 74 "denied" (spDenied K 72) []) (K_case_of : C8.Cal P w K mg base 4 "case_of" (spCaseOf K) []) (K_open_group : C8.Cal P w K mg base 73 "open_group" (spOG K 72) []) :
    C8.Cal P w K mg base 75 "widened" (spWid K) [] := by
  refine C8.cal0 F b .nil sc_widened (fun vs H Q E h => ?_) (fun cdv A outer s H vs Q E hr h => ?_)
  · obtain ⟨a_, b_, ps, qs, m, D, S, Ps, Os, rfl, _⟩ := h
    rfl
  obtain ⟨a_, b_, ps, qs, m, D, S, Ps, Os, rfl, ha, hP, hPB, hb, hO, hOB, hD, hS, hm, hPl, hOl, k⟩ := h
  have hmm : m * m ≤ 20 * 20 := Nat.mul_le_mul hm hm
  refine ⟨_, (pss_cons (ps_setLc (i := 2) (own := [("other", 7)]) (g := gName 7) (tt := tYes) rfl sc_widened.nd rfl rfl (sw_true rfl rfl rfl (by decide +kernel)) (pi_tup (pv 1)) (blkOk_by (own := [("other", 7)]) (N := N_widened) (sc := C8.fnScope s_widened) (by decide +kernel)) (fun _ _ _ _ _ => (pg_name (i := 7) sc_widened.nd rfl (Or.inl rfl))) (fun _ _ _ _ _ => pts_nil) (fun _ _ _ _ _ => (C8.pe_c K_denied hr (by decide) (by rfl) (pa_cons (C8.pe_c K_case_of hr (by decide) (by rfl) (pa_cons (pv 7) pa_nil)) pa_nil))))
    (pss_cons (ps_set (i := 3) sc_widened.nd rfl (Or.inl rfl) (pe_lst pa_nil))
    (pss_cons (ps_for PassesOwn.never rfl (pi_tup (pv 0)) (pg_tup (by rfl) (pgs_cons (pg_name (i := 4) sc_widened.nd rfl (Or.inr rfl)) (pgs_cons (pg_name (i := 5) sc_widened.nd rfl (Or.inl rfl)) pgs_nil)))
    (pss_cons (ps_set (i := 6) sc_widened.nd rfl (Or.inr rfl) (pe_lc (own := [("clause", 8)]) (g := gName 8) (tt := tYes) rfl sc_widened.nd (pi_list (pv 2)) (blkOk_by (own := [("clause", 8)]) (N := N_widened) (sc := C8.fnScope s_widened) (by decide +kernel)) (fun _ _ _ _ _ => (pg_name (i := 8) sc_widened.nd rfl (Or.inl rfl))) (fun _ _ _ _ _ => pts_nil) (fun _ _ _ _ _ => (C8.pe_c K_open_group hr (by decide) (by rfl) (pa_cons (pv 4) (pa_cons (pv 8) (pa_cons pe_bl pa_nil)))))))
    (pss_one (ps_expr (pe_bm PySem.F.plainAttrs_list PySem.F.slot_list_append PySem.F.type_list_append mt_append (pv 3) (pa_cons (pe_tup (pa_cons (pv 4) (pa_cons (pe_callTy call_tuple_of (by rfl) T.z_tuple (by decide +kernel) (pa_cons (pe_lc (own := [("clause", 8)]) (g := gName 8) rfl sc_widened.nd (pi_tup (pv 5)) (blkOk_by (own := [("clause", 8)]) (N := N_widened) (sc := C8.fnScope s_widened) (by decide +kernel)) (fun _ _ _ _ _ => (pg_name (i := 8) sc_widened.nd rfl (Or.inl rfl))) (fun _ _ _ _ _ => (pts_one (pt_cmpR (notInLDK K hr) (pv 8) (pv 6) (by rfl)))) (fun _ _ _ _ _ => (pv 8))) pa_nil)) pa_nil))) pa_nil))))))
    (pss_one (ps_ret (pv 3)))))), ?_⟩
  refine ⟨_, rfl, b_, rfl, ⟨_, hb⟩, fun D0 nD => lc_tup (xs := qs.map V.ref) (fun j H' => ∃ us : List Addr, Same H H' ∧ H' D0 = some (.lst (us.map V.ref)) ∧ IsGs K H' us ((Os.take j).map fun O => Zg.den (Zg.ptCase m O))) ⟨[], Same.new nD, upd_same, trivial⟩ (fun j H' _ h => ?_) ?_ ?_⟩
  · obtain ⟨_, S1, _⟩ := h
    exact Same.seqT S1 hb
  · rintro j x H1 hx ⟨us, S1, hD0, hU⟩
    rw [List.getElem?_map] at hx
    obtain ⟨q, hq, rfl⟩ := Option.map_eq_some_iff.mp hx
    obtain ⟨O, hO1, hO2⟩ := hO.at_ hq
    have hj := (List.getElem?_eq_some_iff.mp hO1).1
    have hOm := List.mem_of_getElem? hO1
    have hc1 := (hOB O hOm).case_sz
    have hc2 := (hOB O hOm).case_dep
    refine ⟨rfl, ?_⟩
    refine ⟨_, rfl, q, m, D, S, O, rfl, hO2.mono S1, hOB O hOm, hm, fun g H2 S2 hg => ⟨g, _, rfl, hg, by omega, by omega, fun r H3 S3 hr3 => ?_⟩⟩
    have hD3 := S3 _ _ (S2 _ _ hD0)
    have hlen := hU.len
    rw [List.length_map, List.length_take] at hlen
    refine ⟨_, hD3, szs (by rw [List.length_map]; omega), us ++ [r], Same.mut (S1.trans (S2.trans S3)) nD, by rw [upd_same, List.map_append]; rfl, ?_⟩
    rw [take_snoc hO1, List.map_append]
    exact ((hU.mono (S2.trans S3)).snoc hr3).but hD3 But.upd
  rintro H1 ⟨us, S1, hD0, hU⟩
  rw [List.length_map, hO.1, List.take_length] at hU
  have nD0 := nD
  refine ⟨sz (by simp), fun l nl => ?_⟩
  have nl0 := none_of S1 nl
  have S1l := S1.trans (Same.new (o := HO.lst []) nl)
  have hD1 := (Same.new (o := HO.lst []) nl) _ _ hD0
  have hU1 := hU.mono (Same.new (o := HO.lst []) nl)
  have hl1 : upd H1 l (HO.lst []) l = some (.lst []) := upd_same
  have lD : l ≠ D0 := fun e => by
    rw [e, hD0] at nl
    cases nl
  generalize upd H1 l (HO.lst []) = H1' at S1l hD1 hU1 hl1 ⊢
  clear hD0 hU nl S1
  have hUl := hU1.len
  rw [List.length_map] at hUl
  refine ⟨_, rfl, a_, rfl, ⟨_, Same.seqT S1l ha⟩, for_tup (xs := ps.map V.ref) (fun i σ H' => ∃ (v4 v5 v6 v7 v8 : Option V) (rs : List Addr) (Es : List Pt), σ = [some (.ref a_), some (.ref b_), some (.ref D0), some (.ref l), v4, v5, v6, v7, v8] ∧ Same H H' ∧ H' D0 = some (.lst (us.map V.ref)) ∧ IsGs K H' us (Os.map fun O => Zg.den (Zg.ptCase m O)) ∧ H' l = some (.lst (rs.map V.ref)) ∧ Pts K H' m rs Es ∧ Wid m D S (Ps.take i) Os Es)
    ⟨none, none, none, none, none, [], [], rfl, S1l, hD1, hU1, hl1, Pts.nil, Wid.nil⟩ (fun i σ H' _ h => ?_) ?_ ?_⟩
  · obtain ⟨_, _, _, _, _, _, _, _, S2, _⟩ := h
    exact Same.seqT S2 ha
  · rintro i x σ H2 hx ⟨v4, v5, v6, v7, v8, rs, Es, rfl, S2, hD2, hU2, hl2, hE, hW⟩
    rw [List.getElem?_map] at hx
    obtain ⟨p, hp, rfl⟩ := Option.map_eq_some_iff.mp hx
    obtain ⟨⟨o, cs⟩, hA1, hA2⟩ := hP.at_ hp
    have hAm := List.mem_of_getElem? hA1
    have hAB := hPB _ hAm
    obtain ⟨d, rfl, hC⟩ : ∃ d, o = some d ∧ Zn.Closed m d := hAB.cl
    obtain ⟨v, c, gs, hp0, ⟨z, rfl, hz⟩, hc, hG⟩ := hA2.mono S2
    have hcd := hAB.dp
    have hcs := hAB.sz
    dsimp only at hG hcd hcs
    refine ⟨p, _, rfl, hp0, rfl, _, _, rfl, _, _, rfl, rfl, ?_⟩
    -- what is left of the barred clauses in the zone
    refine ⟨_, rfl, D0, rfl, ⟨_, SqL.of hD2⟩, fun D3 nD3 => lc_list (xs := us.map V.ref) (fun j H' => ∃ ns : List V, Same H2 H' ∧ H' D3 = some (.lst ns) ∧ ns.length = j ∧ GVs K H' ns ((Os.take j).map fun O => Zg.opn d false (Zg.den (Zg.ptCase m O)))) ⟨[], Same.new nD3, upd_same, rfl, trivial⟩ (fun j H' _ h => ?_) ?_ ?_⟩
    · obtain ⟨_, S3, _⟩ := h
      exact S3.seq (SqL.of hD2)
    · rintro j x H3 hx ⟨ns, S3, hD3, hnl, hN⟩
      rw [List.getElem?_map] at hx
      obtain ⟨u, hu, rfl⟩ := Option.map_eq_some_iff.mp hx
      obtain ⟨G', hG', hu'⟩ := hU2.at_ hu
      rw [List.getElem?_map] at hG'
      obtain ⟨O, hO1, rfl⟩ := Option.map_eq_some_iff.mp hG'
      have hj := (List.getElem?_eq_some_iff.mp hO1).1
      have hOm := List.mem_of_getElem? hO1
      have hc1 := (hOB O hOm).case_sz
      have hc2 := (hOB O hOm).case_dep
      have hd1 := Zg.den_sz (Zg.ptCase m O)
      have hd2 := Zg.den_dep (Zg.ptCase m O)
      refine ⟨rfl, ?_⟩
      refine ⟨_, rfl, _, rfl, z, u, m, d, _, false, rfl, hz.mono S3, hu'.mono S3, Zg.den_ok _ (hOB O hOm).case_ok, by omega, by omega, fun v H4 S4 hv => ?_⟩
      have hD4 := S4 _ _ hD3
      refine ⟨_, hD4, szs (by omega), ns ++ [v], Same.mut (S3.trans S4) nD3, upd_same, by simp [hnl], ?_⟩
      rw [take_snoc hO1, List.map_append]
      exact ((hN.mono S4).snoc hv).but hD4 But.upd
    rintro H3 ⟨ns, S3, hD3, hnl, hN⟩
    rw [List.length_map, hUl, List.take_length] at hN
    have nlD3 : l ≠ D3 := fun e => by
      rw [e] at hl2
      rw [hl2] at nD3
      cases nD3
    have hc3 := Same.seqT S3 hc
    have hG3 := hG.mono S3
    have hl3 := S3 _ _ hl2
    -- the clauses that are kept
    refine ⟨_, rfl, .inl ⟨rfl, _, SqL.of hl3⟩, _, rfl, _, rfl, c, rfl, ⟨_, hc3⟩, fun D5 nD5 => lc_tup (xs := gs.map V.ref) (fun j H' => ∃ (ks : List Addr) (kept : List Zg.G), Same H3 H' ∧ H' D5 = some (.lst (ks.map V.ref)) ∧ IsGs K H' ks kept ∧ (∀ g ∈ kept, g ∈ cs.take j) ∧ (∀ g ∈ cs.take j, g ∈ kept ∨ ∃ O ∈ Os, Zg.opn d false (Zg.den (Zg.ptCase m O)) = some g) ∧ Zg.szs kept ≤ Zg.szs (cs.take j)) ⟨[], [], Same.new nD5, upd_same, trivial, fun g hg => (by cases hg), fun g hg => (by simp at hg), Nat.zero_le _⟩ (fun j H' _ h => ?_) ?_ ?_⟩
    · obtain ⟨_, _, S4, _⟩ := h
      exact Same.seqT S4 hc3
    · rintro j x H4 hx ⟨ks, kept, S4, hD5, hK, hk1, hk2, hk3⟩
      rw [List.getElem?_map] at hx
      obtain ⟨u, hu, rfl⟩ := Option.map_eq_some_iff.mp hx
      obtain ⟨G', hG', hu'⟩ := hG3.at_ hu
      have hGm := List.mem_of_getElem? hG'
      have hgd := Zg.deps_mem hGm
      have hsz : Zg.szs (cs.take (j + 1)) = Zg.szs (cs.take j) + Zg.sz G' := by
        rw [take_snoc hG', Zg.szs_app]
        simp [Zg.szs]
      refine ⟨rfl, ?_⟩
      refine ⟨_, rfl, _, rfl, gD G', _, (hu'.mono S4).dp, .lst (SqL.of (S4 _ _ hD3)) (hN.mono S4).dp, gD_lay G', oDs_lay _, by have := gD_depth G'; omega, _, rfl, ?_⟩
      cases hi : ((Os.map fun O => Zg.opn d false (Zg.den (Zg.ptCase m O))).map oD).any fun z => PyData.eqv z (gD G') with
      | true =>
        refine iteF ⟨ks, kept, S4, hD5, hK, fun g hg => ?_, fun g hg => ?_, by omega⟩
        · rw [take_snoc hG']
          exact List.mem_append_left _ (hk1 g hg)
        · rw [take_snoc hG'] at hg
          rcases List.mem_append.mp hg with hg | hg
          · exact hk2 g hg
          · rw [List.mem_singleton.mp hg]
            obtain ⟨O, hO1, hO2⟩ := List.mem_map.mp (oDs_mem hi)
            exact .inr ⟨O, hO1, hO2⟩
      | false =>
        have hlen := hK.len
        have h1 := Zg.len_szs kept
        have h2 : Zg.szs (cs.take j) ≤ Zg.szs cs := by
          have := Zg.szs_app (cs.take j) (cs.drop j)
          rw [List.take_append_drop] at this
          omega
        refine iteT ⟨_, rfl, _, hD5, Nat.lt_of_le_of_lt (m := 90000) (by rw [List.length_map]; omega) (by decide), ks ++ [u], kept ++ [G'], Same.mut S4 nD5, by rw [upd_same, List.map_append]; rfl, (hK.snoc (hu'.mono S4)).but hD5 But.upd, fun g hg => ?_, fun g hg => ?_, ?_⟩
        · rw [take_snoc hG']
          rcases List.mem_append.mp hg with hg | hg
          · exact List.mem_append_left _ (hk1 g hg)
          · exact List.mem_append_right _ hg
        · rw [take_snoc hG'] at hg
          rcases List.mem_append.mp hg with hg | hg
          · exact (hk2 g hg).imp (fun y => List.mem_append_left _ y) id
          · exact .inl (List.mem_append_right _ hg)
        · rw [hsz, Zg.szs_app]
          simp only [Zg.szs]
          omega
    rintro H4 ⟨ks, kept, S4, hD5, hK, hk1, hk2, hk3⟩
    rw [List.length_map, hG3.len, List.take_length] at hk1 hk2 hk3
    refine ⟨D5, _, rfl, .inl ⟨SqL.of hD5, fun c2 nc2 => ⟨sz (by simp), fun r nr => ?_⟩⟩⟩
    have Sc := Same.new (o := HO.tup (ks.map V.ref)) nc2
    have Sr := Same.new (o := HO.tup [V.ref z, V.ref c2]) nr
    have S34 := S3.trans S4
    have Sx := S34.trans (Sc.trans Sr)
    have hl5 := (S4.trans (Sc.trans Sr)) _ _ hl3
    have hrl : rs.length = i := by
      rw [hE.1, hW.1, List.length_take]
      have := (List.getElem?_eq_some_iff.mp hA1).1
      omega
    have hil := (List.getElem?_eq_some_iff.mp hA1).1
    refine ⟨l, _, _, rfl, rfl, hl5, szs (by rw [List.length_map]; omega), ?_⟩
    have hpt : IsPt K (upd (upd H4 c2 (HO.tup (ks.map V.ref))) r (HO.tup [V.ref z, V.ref c2])) m r (some d, kept) := ⟨.ref z, c2, ks, SqT.of upd_same, ⟨z, rfl, hz.mono Sx⟩, Same.seqT Sr (SqT.of upd_same), hK.mono (Sc.trans Sr)⟩
    have hD6 := Sx _ _ hD2
    have hU6 := hU2.mono Sx
    have hE6 := hE.mono Sx
    generalize upd (upd H4 c2 (HO.tup (ks.map V.ref))) r (HO.tup [V.ref z, V.ref c2]) = H5 at Sx hl5 hpt hD6 hU6 hE6 ⊢
    have Bu : But l H5 (upd H5 l (.lst (rs.map V.ref ++ [V.ref r]))) := But.upd
    refine ⟨_, _, _, _, _, rs ++ [r], Es ++ [(some d, kept)], rfl, Same.mut (S2.trans Sx) nl0, by rw [upd_ne (fun e => lD e.symm)]; exact hD6, hU6.but hl5 Bu, by rw [upd_same, List.map_append]; rfl, (hE6.but hl5 Bu).snoc (hpt.but hl5 Bu), ?_⟩
    rw [take_snoc hA1]
    refine hW.snoc ⟨⟨⟨d, rfl, hC⟩, Zg.okGs_iff.mpr fun g hg => okGs_mem hAB.ok (hk1 g hg), Zg.deps_le fun g hg => Nat.le_trans (Zg.deps_mem (hk1 g hg)) hcd, Nat.le_trans hk3 hcs, ?_⟩, fun x hx => ?_, fun x hx => ?_⟩
    · obtain ⟨x, x0, hx⟩ := hAB.ne
      refine ⟨x, x0, ?_⟩
      rw [in_some, Zg.hd_case] at hx ⊢
      exact ⟨hx.1, fun l hl => (by cases hl), fun g hg => hx.2.2 g (hk1 g hg)⟩
    · rw [in_some, Zg.hd_case] at hx ⊢
      exact ⟨hx.1, fun l hl => (by cases hl), fun g hg => hx.2.2 g (hk1 g hg)⟩
    · rw [in_some, Zg.hd_case] at hx
      by_cases hb : ∀ g ∈ cs, Zg.Hd false x g
      · left
        rw [in_some, Zg.hd_case]
        exact ⟨hx.1, fun l hl => (by cases hl), hb⟩
      · right
        simp only [Classical.not_forall] at hb
        obtain ⟨g, hg, hn⟩ := hb
        rcases hk2 g hg with hk | ⟨O, hO1, hO2⟩
        · exact absurd (hx.2.2 g hk) hn
        · refine ⟨O, hO1, ?_⟩
          have := Zg.needless_hd (hOB O hO1) hx.1 hO2
          exact Classical.byContradiction fun y => hn (this.mpr y)
  · rintro σ H2 ⟨v4, v5, v6, v7, v8, rs, Es, rfl, S2, hD2, hU2, hl2, hE, hW⟩
    rw [List.length_map, hP.1, List.take_length] at hW
    exact ⟨_, rfl, k l rs Es H2 S2 nl0 hl2 hE hW⟩
def spWidL (K : PySem.W.Frag) : Sp := fun vs H Q _ => ∃ (a_ b_ : Addr) (ps qs : List Addr) (m D S : Nat) (Ps Os : List Pt), vs = [.ref a_, .ref b_] ∧ SqT K H a_ (ps.map V.ref) ∧ Pts K H m ps Ps ∧ (∀ A ∈ Ps, Zg.PB m D S A) ∧ SqL K H b_ (qs.map V.ref) ∧ Pts K H m qs Os ∧ (∀ A ∈ Os, Zg.PB m D S A) ∧ D ≤ 60 ∧ S ≤ 90000 ∧ m ≤ 20 ∧ Ps.length ≤ 300 ∧ Os.length ≤ 300 ∧
  ∀ l rs Es H', Same H H' → H l = none → H' l = some (.lst (rs.map V.ref)) → Pts K H' m rs Es → Wid m D S Ps Os Es → Q (.ref l) H'
theorem ok_widenedL {f : Addr} {fd : FuncData} (F : C8.Def K mg "widened" s_widened f fd) (b : Binds K fd ["parts", "others"] []) (T : Txt K mg CC CS aB) (K_denied : C8.Cal P w K mg base 74 "denied" (spDenied K 72) []) (K_case_of : C8.Cal P w K mg base 4 "case_of" (spCaseOf K) []) (K_open_group : C8.Cal P w K mg base 73 "open_group" (spOG K 72) []) :
    C8.Cal P w K mg base 75 "widened" (spWidL K) [] := by
  refine C8.cal0 F b .nil sc_widened (fun vs H Q E h => ?_) (fun cdv A outer s H vs Q E hr h => ?_)
  · obtain ⟨a_, b_, ps, qs, m, D, S, Ps, Os, rfl, _⟩ := h
    rfl
  obtain ⟨a_, b_, ps, qs, m, D, S, Ps, Os, rfl, ha, hP, hPB, hb, hO, hOB, hD, hS, hm, hPl, hOl, k⟩ := h
  have hmm : m * m ≤ 20 * 20 := Nat.mul_le_mul hm hm
  refine ⟨_, (pss_cons (ps_setLc (i := 2) (own := [("other", 7)]) (g := gName 7) (tt := tYes) rfl sc_widened.nd rfl rfl (sw_true rfl rfl rfl (by decide +kernel)) (pi_list (pv 1)) (blkOk_by (own := [("other", 7)]) (N := N_widened) (sc := C8.fnScope s_widened) (by decide +kernel)) (fun _ _ _ _ _ => (pg_name (i := 7) sc_widened.nd rfl (Or.inl rfl))) (fun _ _ _ _ _ => pts_nil) (fun _ _ _ _ _ => (C8.pe_c K_denied hr (by decide) (by rfl) (pa_cons (C8.pe_c K_case_of hr (by decide) (by rfl) (pa_cons (pv 7) pa_nil)) pa_nil))))
    (pss_cons (ps_set (i := 3) sc_widened.nd rfl (Or.inl rfl) (pe_lst pa_nil))
    (pss_cons (ps_for PassesOwn.never rfl (pi_tup (pv 0)) (pg_tup (by rfl) (pgs_cons (pg_name (i := 4) sc_widened.nd rfl (Or.inr rfl)) (pgs_cons (pg_name (i := 5) sc_widened.nd rfl (Or.inl rfl)) pgs_nil)))
    (pss_cons (ps_set (i := 6) sc_widened.nd rfl (Or.inr rfl) (pe_lc (own := [("clause", 8)]) (g := gName 8) (tt := tYes) rfl sc_widened.nd (pi_list (pv 2)) (blkOk_by (own := [("clause", 8)]) (N := N_widened) (sc := C8.fnScope s_widened) (by decide +kernel)) (fun _ _ _ _ _ => (pg_name (i := 8) sc_widened.nd rfl (Or.inl rfl))) (fun _ _ _ _ _ => pts_nil) (fun _ _ _ _ _ => (C8.pe_c K_open_group hr (by decide) (by rfl) (pa_cons (pv 4) (pa_cons (pv 8) (pa_cons pe_bl pa_nil)))))))
    (pss_one (ps_expr (pe_bm PySem.F.plainAttrs_list PySem.F.slot_list_append PySem.F.type_list_append mt_append (pv 3) (pa_cons (pe_tup (pa_cons (pv 4) (pa_cons (pe_callTy call_tuple_of (by rfl) T.z_tuple (by decide +kernel) (pa_cons (pe_lc (own := [("clause", 8)]) (g := gName 8) rfl sc_widened.nd (pi_tup (pv 5)) (blkOk_by (own := [("clause", 8)]) (N := N_widened) (sc := C8.fnScope s_widened) (by decide +kernel)) (fun _ _ _ _ _ => (pg_name (i := 8) sc_widened.nd rfl (Or.inl rfl))) (fun _ _ _ _ _ => (pts_one (pt_cmpR (notInLDK K hr) (pv 8) (pv 6) (by rfl)))) (fun _ _ _ _ _ => (pv 8))) pa_nil)) pa_nil))) pa_nil))))))
    (pss_one (ps_ret (pv 3)))))), ?_⟩
  refine ⟨_, rfl, b_, rfl, ⟨_, hb⟩, fun D0 nD => lc_list (xs := qs.map V.ref) (fun j H' => ∃ us : List Addr, Same H H' ∧ H' D0 = some (.lst (us.map V.ref)) ∧ IsGs K H' us ((Os.take j).map fun O => Zg.den (Zg.ptCase m O))) ⟨[], Same.new nD, upd_same, trivial⟩ (fun j H' _ h => ?_) ?_ ?_⟩
  · obtain ⟨_, S1, _⟩ := h
    exact S1.seq hb
  · rintro j x H1 hx ⟨us, S1, hD0, hU⟩
    rw [List.getElem?_map] at hx
    obtain ⟨q, hq, rfl⟩ := Option.map_eq_some_iff.mp hx
    obtain ⟨O, hO1, hO2⟩ := hO.at_ hq
    have hj := (List.getElem?_eq_some_iff.mp hO1).1
    have hOm := List.mem_of_getElem? hO1
    have hc1 := (hOB O hOm).case_sz
    have hc2 := (hOB O hOm).case_dep
    refine ⟨rfl, ?_⟩
    refine ⟨_, rfl, q, m, D, S, O, rfl, hO2.mono S1, hOB O hOm, hm, fun g H2 S2 hg => ⟨g, _, rfl, hg, by omega, by omega, fun r H3 S3 hr3 => ?_⟩⟩
    have hD3 := S3 _ _ (S2 _ _ hD0)
    have hlen := hU.len
    rw [List.length_map, List.length_take] at hlen
    refine ⟨_, hD3, szs (by rw [List.length_map]; omega), us ++ [r], Same.mut (S1.trans (S2.trans S3)) nD, by rw [upd_same, List.map_append]; rfl, ?_⟩
    rw [take_snoc hO1, List.map_append]
    exact ((hU.mono (S2.trans S3)).snoc hr3).but hD3 But.upd
  rintro H1 ⟨us, S1, hD0, hU⟩
  rw [List.length_map, hO.1, List.take_length] at hU
  have nD0 := nD
  refine ⟨sz (by simp), fun l nl => ?_⟩
  have nl0 := none_of S1 nl
  have S1l := S1.trans (Same.new (o := HO.lst []) nl)
  have hD1 := (Same.new (o := HO.lst []) nl) _ _ hD0
  have hU1 := hU.mono (Same.new (o := HO.lst []) nl)
  have hl1 : upd H1 l (HO.lst []) l = some (.lst []) := upd_same
  have lD : l ≠ D0 := fun e => by
    rw [e, hD0] at nl
    cases nl
  generalize upd H1 l (HO.lst []) = H1' at S1l hD1 hU1 hl1 ⊢
  clear hD0 hU nl S1
  have hUl := hU1.len
  rw [List.length_map] at hUl
  refine ⟨_, rfl, a_, rfl, ⟨_, Same.seqT S1l ha⟩, for_tup (xs := ps.map V.ref) (fun i σ H' => ∃ (v4 v5 v6 v7 v8 : Option V) (rs : List Addr) (Es : List Pt), σ = [some (.ref a_), some (.ref b_), some (.ref D0), some (.ref l), v4, v5, v6, v7, v8] ∧ Same H H' ∧ H' D0 = some (.lst (us.map V.ref)) ∧ IsGs K H' us (Os.map fun O => Zg.den (Zg.ptCase m O)) ∧ H' l = some (.lst (rs.map V.ref)) ∧ Pts K H' m rs Es ∧ Wid m D S (Ps.take i) Os Es)
    ⟨none, none, none, none, none, [], [], rfl, S1l, hD1, hU1, hl1, Pts.nil, Wid.nil⟩ (fun i σ H' _ h => ?_) ?_ ?_⟩
  · obtain ⟨_, _, _, _, _, _, _, _, S2, _⟩ := h
    exact Same.seqT S2 ha
  · rintro i x σ H2 hx ⟨v4, v5, v6, v7, v8, rs, Es, rfl, S2, hD2, hU2, hl2, hE, hW⟩
    rw [List.getElem?_map] at hx
    obtain ⟨p, hp, rfl⟩ := Option.map_eq_some_iff.mp hx
    obtain ⟨⟨o, cs⟩, hA1, hA2⟩ := hP.at_ hp
    have hAm := List.mem_of_getElem? hA1
    have hAB := hPB _ hAm
    obtain ⟨d, rfl, hC⟩ : ∃ d, o = some d ∧ Zn.Closed m d := hAB.cl
    obtain ⟨v, c, gs, hp0, ⟨z, rfl, hz⟩, hc, hG⟩ := hA2.mono S2
    have hcd := hAB.dp
    have hcs := hAB.sz
    dsimp only at hG hcd hcs
    refine ⟨p, _, rfl, hp0, rfl, _, _, rfl, _, _, rfl, rfl, ?_⟩
    -- what is left of the barred clauses in the zone
    refine ⟨_, rfl, D0, rfl, ⟨_, SqL.of hD2⟩, fun D3 nD3 => lc_list (xs := us.map V.ref) (fun j H' => ∃ ns : List V, Same H2 H' ∧ H' D3 = some (.lst ns) ∧ ns.length = j ∧ GVs K H' ns ((Os.take j).map fun O => Zg.opn d false (Zg.den (Zg.ptCase m O)))) ⟨[], Same.new nD3, upd_same, rfl, trivial⟩ (fun j H' _ h => ?_) ?_ ?_⟩
    · obtain ⟨_, S3, _⟩ := h
      exact S3.seq (SqL.of hD2)
    · rintro j x H3 hx ⟨ns, S3, hD3, hnl, hN⟩
      rw [List.getElem?_map] at hx
      obtain ⟨u, hu, rfl⟩ := Option.map_eq_some_iff.mp hx
      obtain ⟨G', hG', hu'⟩ := hU2.at_ hu
      rw [List.getElem?_map] at hG'
      obtain ⟨O, hO1, rfl⟩ := Option.map_eq_some_iff.mp hG'
      have hj := (List.getElem?_eq_some_iff.mp hO1).1
      have hOm := List.mem_of_getElem? hO1
      have hc1 := (hOB O hOm).case_sz
      have hc2 := (hOB O hOm).case_dep
      have hd1 := Zg.den_sz (Zg.ptCase m O)
      have hd2 := Zg.den_dep (Zg.ptCase m O)
      refine ⟨rfl, ?_⟩
      refine ⟨_, rfl, _, rfl, z, u, m, d, _, false, rfl, hz.mono S3, hu'.mono S3, Zg.den_ok _ (hOB O hOm).case_ok, by omega, by omega, fun v H4 S4 hv => ?_⟩
      have hD4 := S4 _ _ hD3
      refine ⟨_, hD4, szs (by omega), ns ++ [v], Same.mut (S3.trans S4) nD3, upd_same, by simp [hnl], ?_⟩
      rw [take_snoc hO1, List.map_append]
      exact ((hN.mono S4).snoc hv).but hD4 But.upd
    rintro H3 ⟨ns, S3, hD3, hnl, hN⟩
    rw [List.length_map, hUl, List.take_length] at hN
    have nlD3 : l ≠ D3 := fun e => by
      rw [e] at hl2
      rw [hl2] at nD3
      cases nD3
    have hc3 := Same.seqT S3 hc
    have hG3 := hG.mono S3
    have hl3 := S3 _ _ hl2
    -- the clauses that are kept
    refine ⟨_, rfl, .inl ⟨rfl, _, SqL.of hl3⟩, _, rfl, _, rfl, c, rfl, ⟨_, hc3⟩, fun D5 nD5 => lc_tup (xs := gs.map V.ref) (fun j H' => ∃ (ks : List Addr) (kept : List Zg.G), Same H3 H' ∧ H' D5 = some (.lst (ks.map V.ref)) ∧ IsGs K H' ks kept ∧ (∀ g ∈ kept, g ∈ cs.take j) ∧ (∀ g ∈ cs.take j, g ∈ kept ∨ ∃ O ∈ Os, Zg.opn d false (Zg.den (Zg.ptCase m O)) = some g) ∧ Zg.szs kept ≤ Zg.szs (cs.take j)) ⟨[], [], Same.new nD5, upd_same, trivial, fun g hg => (by cases hg), fun g hg => (by simp at hg), Nat.zero_le _⟩ (fun j H' _ h => ?_) ?_ ?_⟩
    · obtain ⟨_, _, S4, _⟩ := h
      exact Same.seqT S4 hc3
    · rintro j x H4 hx ⟨ks, kept, S4, hD5, hK, hk1, hk2, hk3⟩
      rw [List.getElem?_map] at hx
      obtain ⟨u, hu, rfl⟩ := Option.map_eq_some_iff.mp hx
      obtain ⟨G', hG', hu'⟩ := hG3.at_ hu
      have hGm := List.mem_of_getElem? hG'
      have hgd := Zg.deps_mem hGm
      have hsz : Zg.szs (cs.take (j + 1)) = Zg.szs (cs.take j) + Zg.sz G' := by
        rw [take_snoc hG', Zg.szs_app]
        simp [Zg.szs]
      refine ⟨rfl, ?_⟩
      refine ⟨_, rfl, _, rfl, gD G', _, (hu'.mono S4).dp, .lst (SqL.of (S4 _ _ hD3)) (hN.mono S4).dp, gD_lay G', oDs_lay _, by have := gD_depth G'; omega, _, rfl, ?_⟩
      cases hi : ((Os.map fun O => Zg.opn d false (Zg.den (Zg.ptCase m O))).map oD).any fun z => PyData.eqv z (gD G') with
      | true =>
        refine iteF ⟨ks, kept, S4, hD5, hK, fun g hg => ?_, fun g hg => ?_, by omega⟩
        · rw [take_snoc hG']
          exact List.mem_append_left _ (hk1 g hg)
        · rw [take_snoc hG'] at hg
          rcases List.mem_append.mp hg with hg | hg
          · exact hk2 g hg
          · rw [List.mem_singleton.mp hg]
            obtain ⟨O, hO1, hO2⟩ := List.mem_map.mp (oDs_mem hi)
            exact .inr ⟨O, hO1, hO2⟩
      | false =>
        have hlen := hK.len
        have h1 := Zg.len_szs kept
        have h2 : Zg.szs (cs.take j) ≤ Zg.szs cs := by
          have := Zg.szs_app (cs.take j) (cs.drop j)
          rw [List.take_append_drop] at this
          omega
        refine iteT ⟨_, rfl, _, hD5, Nat.lt_of_le_of_lt (m := 90000) (by rw [List.length_map]; omega) (by decide), ks ++ [u], kept ++ [G'], Same.mut S4 nD5, by rw [upd_same, List.map_append]; rfl, (hK.snoc (hu'.mono S4)).but hD5 But.upd, fun g hg => ?_, fun g hg => ?_, ?_⟩
        · rw [take_snoc hG']
          rcases List.mem_append.mp hg with hg | hg
          · exact List.mem_append_left _ (hk1 g hg)
          · exact List.mem_append_right _ hg
        · rw [take_snoc hG'] at hg
          rcases List.mem_append.mp hg with hg | hg
          · exact (hk2 g hg).imp (fun y => List.mem_append_left _ y) id
          · exact .inl (List.mem_append_right _ hg)
        · rw [hsz, Zg.szs_app]
          simp only [Zg.szs]
          omega
    rintro H4 ⟨ks, kept, S4, hD5, hK, hk1, hk2, hk3⟩
    rw [List.length_map, hG3.len, List.take_length] at hk1 hk2 hk3
    refine ⟨D5, _, rfl, .inl ⟨SqL.of hD5, fun c2 nc2 => ⟨sz (by simp), fun r nr => ?_⟩⟩⟩
    have Sc := Same.new (o := HO.tup (ks.map V.ref)) nc2
    have Sr := Same.new (o := HO.tup [V.ref z, V.ref c2]) nr
    have S34 := S3.trans S4
    have Sx := S34.trans (Sc.trans Sr)
    have hl5 := (S4.trans (Sc.trans Sr)) _ _ hl3
    have hrl : rs.length = i := by
      rw [hE.1, hW.1, List.length_take]
      have := (List.getElem?_eq_some_iff.mp hA1).1
      omega
    have hil := (List.getElem?_eq_some_iff.mp hA1).1
    refine ⟨l, _, _, rfl, rfl, hl5, szs (by rw [List.length_map]; omega), ?_⟩
    have hpt : IsPt K (upd (upd H4 c2 (HO.tup (ks.map V.ref))) r (HO.tup [V.ref z, V.ref c2])) m r (some d, kept) := ⟨.ref z, c2, ks, SqT.of upd_same, ⟨z, rfl, hz.mono Sx⟩, Same.seqT Sr (SqT.of upd_same), hK.mono (Sc.trans Sr)⟩
    have hD6 := Sx _ _ hD2
    have hU6 := hU2.mono Sx
    have hE6 := hE.mono Sx
    generalize upd (upd H4 c2 (HO.tup (ks.map V.ref))) r (HO.tup [V.ref z, V.ref c2]) = H5 at Sx hl5 hpt hD6 hU6 hE6 ⊢
    have Bu : But l H5 (upd H5 l (.lst (rs.map V.ref ++ [V.ref r]))) := But.upd
    refine ⟨_, _, _, _, _, rs ++ [r], Es ++ [(some d, kept)], rfl, Same.mut (S2.trans Sx) nl0, by rw [upd_ne (fun e => lD e.symm)]; exact hD6, hU6.but hl5 Bu, by rw [upd_same, List.map_append]; rfl, (hE6.but hl5 Bu).snoc (hpt.but hl5 Bu), ?_⟩
    rw [take_snoc hA1]
    refine hW.snoc ⟨⟨⟨d, rfl, hC⟩, Zg.okGs_iff.mpr fun g hg => okGs_mem hAB.ok (hk1 g hg), Zg.deps_le fun g hg => Nat.le_trans (Zg.deps_mem (hk1 g hg)) hcd, Nat.le_trans hk3 hcs, ?_⟩, fun x hx => ?_, fun x hx => ?_⟩
    · obtain ⟨x, x0, hx⟩ := hAB.ne
      refine ⟨x, x0, ?_⟩
      rw [in_some, Zg.hd_case] at hx ⊢
      exact ⟨hx.1, fun l hl => (by cases hl), fun g hg => hx.2.2 g (hk1 g hg)⟩
    · rw [in_some, Zg.hd_case] at hx ⊢
      exact ⟨hx.1, fun l hl => (by cases hl), fun g hg => hx.2.2 g (hk1 g hg)⟩
    · rw [in_some, Zg.hd_case] at hx
      by_cases hb : ∀ g ∈ cs, Zg.Hd false x g
      · left
        rw [in_some, Zg.hd_case]
        exact ⟨hx.1, fun l hl => (by cases hl), hb⟩
      · right
        simp only [Classical.not_forall] at hb
        obtain ⟨g, hg, hn⟩ := hb
        rcases hk2 g hg with hk | ⟨O, hO1, hO2⟩
        · exact absurd (hx.2.2 g hk) hn
        · refine ⟨O, hO1, ?_⟩
          have := Zg.needless_hd (hOB O hO1) hx.1 hO2
          exact Classical.byContradiction fun y => hn (this.mpr y)
  · rintro σ H2 ⟨v4, v5, v6, v7, v8, rs, Es, rfl, S2, hD2, hU2, hl2, hE, hW⟩
    rw [List.length_map, hP.1, List.take_length] at hW
    exact ⟨_, rfl, k l rs Es H2 S2 nl0 hl2 hE hW⟩
end
end K18

namespace K18
open PySem L2 Bx
section
variable {P : Program} {w : World} {K : PySem.W.Frag} {mg : Str → Option Value} {base : Heap} {CC CS aB : Addr}
/-- parts that are kept: the others are each within one of Rs -/
def Kept (m : Nat) (Ls Rs Gs : List Pt) : Prop := (∀ g ∈ Gs, g ∈ Ls) ∧ (∀ e ∈ Ls, e ∈ Gs ∨ ∃ R ∈ Rs, ∀ x, Zg.In m x e → Zg.In m x R) ∧ Gs.length ≤ Ls.length
theorem Kept.nil {m : Nat} {Rs : List Pt} : Kept m [] Rs [] := ⟨fun g h => (by cases h), fun g h => (by cases h), Nat.le_refl _⟩
theorem Kept.drop {m : Nat} {Ls Rs Gs : List Pt} {A : Pt} (h : Kept m Ls Rs Gs) (k : ∃ R ∈ Rs, ∀ x, Zg.In m x A → Zg.In m x R) : Kept m (Ls ++ [A]) Rs Gs := by
  refine ⟨fun g hg => List.mem_append_left _ (h.1 g hg), fun e he => ?_, by have := h.2.2; simp; omega⟩
  rcases List.mem_append.mp he with he | he
  · exact h.2.1 e he
  · rw [List.mem_singleton.mp he]
    exact .inr k
theorem Kept.keep {m : Nat} {Ls Rs Gs : List Pt} {A : Pt} (h : Kept m Ls Rs Gs) : Kept m (Ls ++ [A]) Rs (Gs ++ [A]) := by
  refine ⟨fun g hg => ?_, fun e he => ?_, by have := h.2.2; simp; omega⟩
  · rcases List.mem_append.mp hg with hg | hg
    · exact List.mem_append_left _ (h.1 g hg)
    · exact List.mem_append_right _ hg
  · rcases List.mem_append.mp he with he | he
    · exact (h.2.1 e he).imp (fun y => List.mem_append_left _ y) id
    · exact .inl (List.mem_append_right _ he)
theorem Kept.ins {m : Nat} {Ls Rs Gs : List Pt} (h : Kept m Ls Rs Gs) (x : Nat → Int) : (Zg.InS m x Gs → Zg.InS m x Ls) ∧ (Zg.InS m x Ls → Zg.InS m x Gs ∨ Zg.InS m x Rs) := by
  constructor
  · rintro ⟨g, hg, hx⟩
    exact ⟨g, h.1 g hg, hx⟩
  · rintro ⟨g, hg, hx⟩
    rcases h.2.1 g hg with k | ⟨R, hR, k⟩
    · exact .inl ⟨g, k, hx⟩
    · exact .inr ⟨R, hR, k x hx⟩
def spEither (K : PySem.W.Frag) : Sp := fun vs H Q _ => ∃ (a_ b_ : Addr) (ps qs : List Addr) (m D S : Nat) (Ps Os : List Pt), vs = [.ref a_, .ref b_] ∧ SqT K H a_ (ps.map V.ref) ∧ Pts K H m ps Ps ∧ (∀ A ∈ Ps, Zg.PB m D S A) ∧ SqT K H b_ (qs.map V.ref) ∧ Pts K H m qs Os ∧ (∀ A ∈ Os, Zg.PB m D S A) ∧ D ≤ 60 ∧ S ≤ 90000 ∧ m ≤ 20 ∧ Ps.length ≤ 300 ∧ Os.length ≤ 300 ∧
  ∀ p rs Es H', Same H H' → SqT K H' p (rs.map V.ref) → Pts K H' m rs Es → (∀ E ∈ Es, Zg.PB m D S E) → Es.length ≤ Ps.length + Os.length → (∀ x, Zg.InS m x Es ↔ Zg.InS m x Ps ∨ Zg.InS m x Os) → Q (.ref p) H'
theorem ok_either {f : Addr} {fd : FuncData} (F : C8.Def K mg "either" s_either f fd) (b : Binds K fd ["parts", "others"] []) (T : Txt K mg CC CS aB) (K_widened : C8.Cal P w K mg base 75 "widened" (spWid K) []) (K_widenedL : C8.Cal P w K mg base 75 "widened" (spWidL K) []) (K_is_inside_one : C8.Cal P w K mg base 75 "is_inside_one" (spInOne K) []) :
    C8.Cal P w K mg base 76 "either" (spEither K) [] := by
  refine C8.cal0 F b .nil sc_either (fun vs H Q E h => ?_) (fun cdv A outer s H vs Q E hr h => ?_)
  · obtain ⟨a_, b_, ps, qs, m, D, S, Ps, Os, rfl, _⟩ := h
    rfl
  obtain ⟨a_, b_, ps, qs, m, D, S, Ps, Os, rfl, ha, hP, hPB, hb, hO, hOB, hD, hS, hm, hPl, hOl, k⟩ := h
  refine ⟨_, (pss_cons (ps_if (pt_cmpR op_gt (pe_op op_mul (pe_callB call_len_seq (by rfl) T.z_len (by decide +kernel) (pa_cons (pv 0) pa_nil)) (pe_callB call_len_seq (by rfl) T.z_len (by decide +kernel) (pa_cons (pv 1) pa_nil))) (C8.pe_gc (by rfl) T.c_MOST_PAIRS) (nomark _)) (pss_one (ps_ret (pe_op op_catU (pv 0) (pv 1)))) pss_nil)
    (pss_cons (ps_set (i := 2) sc_either.nd rfl (Or.inr rfl) (C8.pe_c K_widened hr (by decide) (by rfl) (pa_cons (pv 1) (pa_cons (pv 0) pa_nil))))
    (pss_cons (ps_set (i := 3) sc_either.nd rfl (Or.inr rfl) (pe_lc (own := [("part", 4)]) (g := gName 4) rfl sc_either.nd (pi_list (C8.pe_c K_widenedL hr (by decide) (by rfl) (pa_cons (pv 0) (pa_cons (pv 2) pa_nil)))) (blkOk_by (own := [("part", 4)]) (N := N_either) (sc := C8.fnScope s_either) (by decide +kernel)) (fun _ _ _ _ _ => (pg_name (i := 4) sc_either.nd rfl (Or.inl rfl))) (fun _ _ _ _ _ => (pts_one (pt_not (pt_val (C8.pe_c K_is_inside_one hr (by decide) (by rfl) (pa_cons (pv 4) (pa_cons (pv 2) pa_nil))))))) (fun _ _ _ _ _ => (pv 4))))
    (pss_one (ps_ret (pe_op op_catU (pe_callTy call_tuple_of (by rfl) T.z_tuple (by decide +kernel) (pa_cons (pv 3) pa_nil)) (pe_callTy call_tuple_of (by rfl) T.z_tuple (by decide +kernel) (pa_cons (pe_lc (own := [("part", 4)]) (g := gName 4) rfl sc_either.nd (pi_list (pv 2)) (blkOk_by (own := [("part", 4)]) (N := N_either) (sc := C8.fnScope s_either) (by decide +kernel)) (fun _ _ _ _ _ => (pg_name (i := 4) sc_either.nd rfl (Or.inl rfl))) (fun _ _ _ _ _ => (pts_one (pt_not (pt_val (C8.pe_c K_is_inside_one hr (by decide) (by rfl) (pa_cons (pv 4) (pa_cons (pv 3) pa_nil))))))) (fun _ _ _ _ _ => (pv 4))) pa_nil)))))))), ?_⟩
  have lp : (ps.map V.ref).length = Ps.length := by rw [List.length_map, hP.1]
  have lq : (qs.map V.ref).length = Os.length := by rw [List.length_map, hO.1]
  refine ⟨_, rfl, a_, _, rfl, .inr ha, _, rfl, b_, _, rfl, .inr hb, _, _, rfl, rfl, .inl ⟨by omega, by omega⟩, _, _, rfl, rfl, _, rfl, ?_⟩
  have hmul : ((ps.map V.ref).length : Int) * ((qs.map V.ref).length : Int) ≤ 100000 := by
    rw [lp, lq]
    have h1 : Ps.length * Os.length ≤ 300 * 300 := Nat.mul_le_mul hPl hOl
    have h2 : ((Ps.length * Os.length : Nat) : Int) ≤ 90000 := by omega
    rw [Int.natCast_mul] at h2
    omega
  rw [decide_eq_false (by omega)]
  refine iteF ⟨_, rfl, _, rfl, b_, a_, qs, ps, m, D, S, Os, Ps, rfl, hb, hO, hOB, ha, hP, hPB, hD, hS, hm, hOl, hPl, fun r rs Rs H1 S1 nr hr1 hR hWR => ?_⟩
  have hRB := hWR.pb
  have hRl : Rs.length ≤ 300 := by rw [hWR.1]; exact hOl
  refine ⟨_, rfl, _, rfl, a_, r, ps, rs, m, D, S, Ps, Rs, rfl, Same.seqT S1 ha, hP.mono S1, hPB, SqL.of hr1, hR, hRB, hD, hS, hm, hPl, hRl, fun l ls Ls H2 S2 nl hl2 hL hWL => ?_⟩
  have hLB := hWL.pb
  have hLl : Ls.length ≤ 300 := by rw [hWL.1]; exact hPl
  have hr2 := S2 _ _ hr1
  have hR2 := hR.mono S2
  refine ⟨l, rfl, ⟨_, SqL.of hl2⟩, fun D0 nD => lc_list (xs := ls.map V.ref) (fun j H' => ∃ (ks : List Addr) (Gs : List Pt), Same H2 H' ∧ H' D0 = some (.lst (ks.map V.ref)) ∧ Pts K H' m ks Gs ∧ Kept m (Ls.take j) Rs Gs) ⟨[], [], Same.new nD, upd_same, Pts.nil, Kept.nil⟩ (fun j H' _ h => ?_) ?_ ?_⟩
  · obtain ⟨_, _, S, _⟩ := h
    exact S.seq (SqL.of hl2)
  · rintro j x H3 hx ⟨ks, Gs, S3, hD3, hG, hK⟩
    rw [List.getElem?_map] at hx
    obtain ⟨p, hp, rfl⟩ := Option.map_eq_some_iff.mp hx
    obtain ⟨A, hA1, hA2⟩ := hL.at_ hp
    have hAm := List.mem_of_getElem? hA1
    have hj := (List.getElem?_eq_some_iff.mp hA1).1
    refine ⟨rfl, ?_⟩
    refine ⟨_, rfl, _, rfl, p, r, rs, m, D, S, A, Rs, rfl, hA2.mono S3, hLB A hAm, SqL.of (S3 _ _ hr2), hR2.mono S3, hRB, hD, hS, fun b H4 S4 hb4 => ⟨_, rfl, ?_⟩⟩
    have hD4 := S4 _ _ hD3
    have hkl := hK.2.2
    rw [List.length_take] at hkl
    cases b with
    | true =>
      refine iteF ⟨ks, Gs, S3.trans S4, hD4, hG.mono S4, ?_⟩
      rw [take_snoc hA1]
      exact hK.drop (hb4 rfl)
    | false =>
      refine iteT ⟨_, rfl, _, hD4, szs (by rw [List.length_map, hG.1]; omega), ks ++ [p], Gs ++ [A], Same.mut (S3.trans S4) nD, by rw [upd_same, List.map_append]; rfl, ((hG.mono S4).but hD4 But.upd).snoc ((hA2.mono (S3.trans S4)).but hD4 But.upd), ?_⟩
      rw [take_snoc hA1]
      exact hK.keep
  rintro H3 ⟨ks, Gs, S3, hD3, hG, hK⟩
  rw [List.length_map, hL.1, List.take_length] at hK
  refine ⟨_, rfl, D0, _, rfl, .inl ⟨SqL.of hD3, fun t1 nt1 => ?_⟩⟩
  have St1 := Same.new (o := HO.tup (ks.map V.ref)) nt1
  have ht1 : upd H3 t1 (HO.tup (ks.map V.ref)) t1 = some (.tup (ks.map V.ref)) := upd_same
  have S3t := S3.trans St1
  have hD3t := St1 _ _ hD3
  have hG3 := hG.mono St1
  generalize upd H3 t1 (HO.tup (ks.map V.ref)) = H4 at S3t hD3t hG3 ht1 ⊢
  have hr4 := S3t _ _ hr2
  have hR4 := hR2.mono S3t
  have hGB : ∀ B ∈ Gs, Zg.PB m D S B := fun B hB => hLB B (hK.1 B hB)
  refine ⟨_, rfl, r, rfl, ⟨_, SqL.of hr4⟩, fun D1 nD1 => lc_list (xs := rs.map V.ref) (fun j H' => ∃ (us : List Addr) (Us : List Pt), Same H4 H' ∧ H' D1 = some (.lst (us.map V.ref)) ∧ Pts K H' m us Us ∧ Kept m (Rs.take j) Gs Us) ⟨[], [], Same.new nD1, upd_same, Pts.nil, Kept.nil⟩ (fun j H' _ h => ?_) ?_ ?_⟩
  · obtain ⟨_, _, S, _⟩ := h
    exact S.seq (SqL.of hr4)
  · rintro j x H5 hx ⟨us, Us, S5, hD5, hU, hKU⟩
    rw [List.getElem?_map] at hx
    obtain ⟨p, hp, rfl⟩ := Option.map_eq_some_iff.mp hx
    obtain ⟨A, hA1, hA2⟩ := hR4.at_ hp
    have hAm := List.mem_of_getElem? hA1
    have hj := (List.getElem?_eq_some_iff.mp hA1).1
    refine ⟨rfl, ?_⟩
    refine ⟨_, rfl, _, rfl, p, D0, ks, m, D, S, A, Gs, rfl, hA2.mono S5, hRB A hAm, SqL.of (S5 _ _ hD3t), hG3.mono S5, hGB, hD, hS, fun b H6 S6 hb6 => ⟨_, rfl, ?_⟩⟩
    have hD6 := S6 _ _ hD5
    have hkl := hKU.2.2
    rw [List.length_take] at hkl
    cases b with
    | true =>
      refine iteF ⟨us, Us, S5.trans S6, hD6, hU.mono S6, ?_⟩
      rw [take_snoc hA1]
      exact hKU.drop (hb6 rfl)
    | false =>
      refine iteT ⟨_, rfl, _, hD6, szs (by rw [List.length_map, hU.1]; omega), us ++ [p], Us ++ [A], Same.mut (S5.trans S6) nD1, by rw [upd_same, List.map_append]; rfl, ((hU.mono S6).but hD6 But.upd).snoc ((hA2.mono (S5.trans S6)).but hD6 But.upd), ?_⟩
      rw [take_snoc hA1]
      exact hKU.keep
  rintro H5 ⟨us, Us, S5, hD5, hU, hKU⟩
  rw [List.length_map, hR4.1, List.take_length] at hKU
  have h1 := hK.2.2
  have h2 := hKU.2.2
  have h3 := hWL.1
  have h4 := hWR.1
  refine ⟨D1, _, rfl, .inl ⟨SqL.of hD5, fun t2 nt2 => ?_⟩⟩
  have St2 := Same.new (o := HO.tup (us.map V.ref)) nt2
  refine ⟨t1, t2, _, _, rfl, rfl, SqT.of (St2 _ _ (S5 _ _ ht1)), SqT.of upd_same, szL (by rw [List.length_map, List.length_map, hG3.1, hU.1]; omega), fun p H6 S6 hp => ?_⟩
  rw [← List.map_append] at hp
  have S56 := S5.trans (St2.trans S6)
  refine k p _ (Gs ++ Us) _ (S1.trans (S2.trans (S3t.trans S56))) hp ((hG3.mono S56).app (hU.mono (St2.trans S6))) (fun E hE => ?_) (by rw [List.length_append]; omega) fun x => ?_
  · rcases List.mem_append.mp hE with hE | hE
    · exact hGB E hE
    · exact hRB E (hKU.1 E hE)
  · have a1 := hWR.ins x
    have a2 := hWL.ins x
    have a3 := hK.ins x
    have a4 := hKU.ins x
    have a0 : Zg.InS m x (Gs ++ Us) ↔ Zg.InS m x Gs ∨ Zg.InS m x Us := by
      unfold Zg.InS
      simp only [List.mem_append, or_and_right, exists_or]
    rw [a0]
    constructor
    · rintro (y | y)
      · exact ((a2.1.mp (.inl (a3.1 y))).elim .inl fun z => (a1.1.mp (.inl z)).symm)
      · exact (a1.1.mp (.inl (a4.1 y))).symm
    · intro y
      have hr : Zg.InS m x Ls ∨ Zg.InS m x Rs := y.elim (fun z => .inl (a2.2 z)) fun z => .inr (a1.2 z)
      have hg : Zg.InS m x Gs ∨ Zg.InS m x Rs := hr.elim a3.2 .inr
      exact hg.elim .inl fun z => (a4.2 z).symm
end
end K18

namespace K18
open PySem L2 Bx
section
variable {P : Program} {w : World} {K : PySem.W.Frag} {mg : Str → Option Value} {base : Heap} {CC CS aB : Addr}
def spLess (K : PySem.W.Frag) : Sp := fun vs H Q _ => ∃ (a_ b_ : Addr) (ps qs : List Addr) (m D S N : Nat) (Ps Os : List Pt), vs = [.ref a_, .ref b_] ∧ SqT K H a_ (ps.map V.ref) ∧ Pts K H m ps Ps ∧ (∀ A ∈ Ps, Zg.PB m D S A) ∧ SqT K H b_ (qs.map V.ref) ∧ Pts K H m qs Os ∧ (∀ A ∈ Os, Zg.PB m D S A) ∧ D ≤ 50 ∧ 0 < m ∧ m ≤ 20 ∧ Ps.length ≤ N ∧ Os.length ≤ N ∧ N ≤ 300 ∧ S + N * (1 + 2 * (m * m) + S) ≤ 1000 ∧
  ∀ p rs Es H', Same H H' → SqT K H' p (rs.map V.ref) → Pts K H' m rs Es → (∀ E ∈ Es, Zg.PB m (D + 1) (S + N * (1 + 2 * (m * m) + S)) E) → Es.length ≤ Ps.length → (∀ x, Zg.InS m x Es ↔ Zg.InS m x Ps ∧ ¬ Zg.InS m x Os) → Q (.ref p) H'
theorem ok_less {f : Addr} {fd : FuncData} (F : C8.Def K mg "less" s_less f fd) (b : Binds K fd ["parts", "others"] []) (T : Txt K mg CC CS aB) (K_denied : C8.Cal P w K mg base 74 "denied" (spDenied K 72) []) (K_case_of : C8.Cal P w K mg base 4 "case_of" (spCaseOf K) []) (K_settled : C8.Cal P w K mg base 77 "settled" (spSettled K) []) :
    C8.Cal P w K mg base 78 "less" (spLess K) [] := by
  refine C8.cal0 F b .nil sc_less (fun vs H Q E h => ?_) (fun cdv A outer s H vs Q E hr h => ?_)
  · obtain ⟨a_, b_, ps, qs, m, D, S, N, Ps, Os, rfl, _⟩ := h
    rfl
  obtain ⟨a_, b_, ps, qs, m, D, S, N, Ps, Os, rfl, ha, hP, hPB, hb, hO, hOB, hD, hm0, hm, hPl, hOl, hN, hSS, k⟩ := h
  have hmm : m * m ≤ 20 * 20 := Nat.mul_le_mul hm hm
  refine ⟨_, (pss_cons (ps_set (i := 2) sc_less.nd rfl (Or.inl rfl) (pe_callTy call_tuple_of (by rfl) T.z_tuple (by decide +kernel) (pa_cons (pe_lc (own := [("other", 6)]) (g := gName 6) (tt := tYes) rfl sc_less.nd (pi_tup (pv 1)) (blkOk_by (own := [("other", 6)]) (N := N_less) (sc := C8.fnScope s_less) (by decide +kernel)) (fun _ _ _ _ _ => (pg_name (i := 6) sc_less.nd rfl (Or.inl rfl))) (fun _ _ _ _ _ => pts_nil) (fun _ _ _ _ _ => (C8.pe_c K_denied hr (by decide) (by rfl) (pa_cons (C8.pe_c K_case_of hr (by decide) (by rfl) (pa_cons (pv 6) pa_nil)) pa_nil)))) pa_nil)))
    (pss_cons (ps_set (i := 3) sc_less.nd rfl (Or.inl rfl) (pe_lst pa_nil))
    (pss_cons (ps_for PassesOwn.never rfl (pi_tup (pv 0)) (pg_tup (by rfl) (pgs_cons (pg_name (i := 4) sc_less.nd rfl (Or.inl rfl)) (pgs_cons (pg_name (i := 5) sc_less.nd rfl (Or.inl rfl)) pgs_nil)))
    (pss_one (ps_expr (pe_bm PySem.F.plainAttrs_list PySem.F.slot_list_extend PySem.F.type_list_extend mt_extend (pv 3) (pa_cons (C8.pe_c K_settled hr (by decide) (by rfl) (pa_cons (pe_tup (pa_cons (pv 4) (pa_cons (pe_op op_catU (pv 5) (pv 2)) pa_nil))) pa_nil)) pa_nil)))))
    (pss_one (ps_ret (pe_callTy call_tuple_of (by rfl) T.z_tuple (by decide +kernel) (pa_cons (pv 3) pa_nil))))))), ?_⟩
  refine ⟨_, rfl, b_, rfl, ⟨_, hb⟩, fun D0 nD => lc_tup (xs := qs.map V.ref) (fun j H' => ∃ us : List Addr, Same H H' ∧ H' D0 = some (.lst (us.map V.ref)) ∧ IsGs K H' us ((Os.take j).map fun O => Zg.den (Zg.ptCase m O))) ⟨[], Same.new nD, upd_same, trivial⟩ (fun j H' _ h => ?_) ?_ ?_⟩
  · obtain ⟨_, S1, _⟩ := h
    exact Same.seqT S1 hb
  · rintro j x H1 hx ⟨us, S1, hD0, hU⟩
    rw [List.getElem?_map] at hx
    obtain ⟨q, hq, rfl⟩ := Option.map_eq_some_iff.mp hx
    obtain ⟨O, hO1, hO2⟩ := hO.at_ hq
    have hj := (List.getElem?_eq_some_iff.mp hO1).1
    have hOm := List.mem_of_getElem? hO1
    have hc1 := (hOB O hOm).case_sz
    have hc2 := (hOB O hOm).case_dep
    refine ⟨rfl, ?_⟩
    refine ⟨_, rfl, q, m, D, S, O, rfl, hO2.mono S1, hOB O hOm, hm, fun g H2 S2 hg => ⟨g, _, rfl, hg, by omega, by omega, fun r H3 S3 hr3 => ?_⟩⟩
    have hD3 := S3 _ _ (S2 _ _ hD0)
    have hlen := hU.len
    rw [List.length_map, List.length_take] at hlen
    refine ⟨_, hD3, szs (by rw [List.length_map]; omega), us ++ [r], Same.mut (S1.trans (S2.trans S3)) nD, by rw [upd_same, List.map_append]; rfl, ?_⟩
    rw [take_snoc hO1, List.map_append]
    exact ((hU.mono (S2.trans S3)).snoc hr3).but hD3 But.upd
  rintro H1 ⟨us, S1, hD0, hU⟩
  rw [List.length_map, hO.1, List.take_length] at hU
  refine ⟨D0, _, rfl, .inl ⟨SqL.of hD0, fun BV nBV => ?_⟩⟩
  have Sb := Same.new (o := HO.tup (us.map V.ref)) nBV
  have hBV : SqT K (upd H1 BV (HO.tup (us.map V.ref))) BV (us.map V.ref) := SqT.of upd_same
  have hU1 := hU.mono Sb
  have S1b := S1.trans Sb
  generalize upd H1 BV (HO.tup (us.map V.ref)) = H1b at hBV hU1 S1b ⊢
  clear hD0 hU nBV Sb S1
  refine ⟨sz (by simp), fun l nl => ?_⟩
  have nl0 := none_of S1b nl
  have Sl := Same.new (o := HO.lst []) nl
  have S1l := S1b.trans Sl
  have hcls1 := hU1.mono Sl
  have hBV1 := Same.seqT Sl hBV
  have hl1 : upd H1b l (HO.lst []) l = some (.lst []) := upd_same
  generalize upd H1b l (HO.lst []) = H1' at S1l hcls1 hl1 hBV1 ⊢
  have hul := hU1.len
  rw [List.length_map] at hul
  clear hBV hU1 S1b nl Sl
  refine ⟨_, rfl, a_, rfl, ⟨_, Same.seqT S1l ha⟩, for_tup (xs := ps.map V.ref) (fun i σ H' => ∃ (v4 v5 v6 : Option V) (rs : List Addr) (Es : List Pt), σ = [some (.ref a_), some (.ref b_), some (.ref BV), some (.ref l), v4, v5, v6] ∧ Same H H' ∧ H' l = some (.lst (rs.map V.ref)) ∧ Pts K H' m rs Es ∧ (SqT K H' BV (us.map V.ref) ∧ IsGs K H' us (Os.map fun O => Zg.den (Zg.ptCase m O))) ∧ (∀ E ∈ Es, Zg.PB m (D + 1) (S + N * (1 + 2 * (m * m) + S)) E) ∧ Es.length ≤ i ∧ ∀ x, Zg.InS m x Es ↔ Zg.InS m x (Ps.take i) ∧ ¬ Zg.InS m x Os)
    ⟨none, none, none, [], [], rfl, S1l, hl1, Pts.nil, ⟨hBV1, hcls1⟩, fun E hE => (by cases hE), Nat.le_refl _, fun x => by simp [Zg.InS]⟩ (fun i σ H' _ h => ?_) ?_ ?_⟩
  · obtain ⟨_, _, _, _, _, _, S2, _⟩ := h
    exact Same.seqT S2 ha
  · rintro i x σ H2 hx ⟨v4, v5, v6, rs, Es, rfl, S2, hl2, hE, ⟨hBV2, hcl2⟩, hEB, hEl, hst⟩
    rw [List.getElem?_map] at hx
    obtain ⟨p, hp, rfl⟩ := Option.map_eq_some_iff.mp hx
    obtain ⟨⟨o, cs⟩, hA1, hA2⟩ := hP.at_ hp
    have hAm := List.mem_of_getElem? hA1
    have hil := (List.getElem?_eq_some_iff.mp hA1).1
    have hAB := hPB _ hAm
    obtain ⟨d, rfl, hC⟩ : ∃ d, o = some d ∧ Zn.Closed m d := hAB.cl
    obtain ⟨v, c, gs, hp0, ⟨z, rfl, hz⟩, hc, hG⟩ := hA2.mono S2
    have hcd := hAB.dp
    have hcs := hAB.sz
    have hcok := hAB.ok
    dsimp only at hG hcd hcs hcok
    have hgl := hG.len
    have hls := Zg.len_szs cs
    refine ⟨p, _, rfl, hp0, rfl, _, _, rfl, _, _, rfl, rfl, ?_⟩
    refine ⟨_, rfl, .inl ⟨rfl, _, SqL.of hl2⟩, _, rfl, _, rfl, _, rfl, ?_⟩
    refine ⟨c, BV, _, _, rfl, rfl, hc, hBV2, szL (by simp; omega), fun cc H3 S3 hcc => ⟨sz (by simp), fun q nq => ?_⟩⟩
    have S13 := S3
    rw [← List.map_append] at hcc
    have hcl3 : IsGs K H3 (gs ++ us) (cs ++ Os.map fun O => Zg.den (Zg.ptCase m O)) := (hG.mono S13).app (hcl2.mono S13)
    have hb1 : ∀ x, (∀ g ∈ (Os.map fun O => Zg.den (Zg.ptCase m O)), Zg.Hd false x g) ↔ ¬ Zg.InS m x Os := fun x => Zg.bar_hd hOB
    have hb2 := Zg.bar_ok hOB
    have hb3 : Zg.szs (Os.map fun O => Zg.den (Zg.ptCase m O)) ≤ N * (1 + 2 * (m * m) + S) := by
      have := Zg.bar_sz hOB
      have := Nat.mul_le_mul_right (1 + 2 * (m * m) + S) hOl
      omega
    have hb4 := Zg.bar_dep hOB
    generalize (Os.map fun O => Zg.den (Zg.ptCase m O)) = bs at hcl3 hb1 hb2 hb3 hb4 hcl2
    generalize gs ++ us = gs' at hcc hcl3
    have Sq := Same.new (o := HO.tup [V.ref z, V.ref cc]) nq
    have hz3 := hz.mono (S13.trans Sq)
    have hpt : IsPt K (upd H3 q (HO.tup [V.ref z, V.ref cc])) m q (some d, cs ++ bs) := ⟨.ref z, cc, gs', SqT.of upd_same, ⟨z, rfl, hz3⟩, Same.seqT Sq hcc, hcl3.mono Sq⟩
    have Sx := S13.trans Sq
    generalize upd H3 q (HO.tup [V.ref z, V.ref cc]) = H4 at hpt Sx ⊢
    obtain ⟨n, rfl⟩ : ∃ n, m = n + 1 := ⟨m - 1, by omega⟩
    have hszA := Zg.szs_app cs bs
    have hdpA := Zg.deps_app (as := cs) (bs := bs)
    refine ⟨q, n, (some d, cs ++ bs), rfl, hpt, ⟨fun d' e => by cases e; exact hC, Zg.okGs_app.mpr ⟨hcok, hb2⟩, by dsimp only; omega, by dsimp only; omega⟩, by omega, fun l2 qs2 Bs H5 S5 nl2 hl5 hB5 hBB hB1 hBst => ?_⟩
    have hl4 := S5 _ _ (Sx _ _ hl2)
    have hB1' : Bs.length ≤ 1 := hB1 (by dsimp only; omega)
    refine ⟨l, l2, _, _, rfl, rfl, hl4, hl5, szL (by rw [List.length_map, List.length_map, hE.1, hB5.1]; omega), ?_⟩
    have Bu : But l H5 (upd H5 l (.lst (rs.map V.ref ++ qs2.map V.ref))) := But.upd
    have S25 := Sx.trans S5
    refine ⟨_, _, _, rs ++ qs2, Es ++ Bs, rfl, Same.mut (S2.trans S25) nl0, by rw [upd_same, List.map_append], ((hE.mono S25).but hl4 Bu).app (hB5.but hl4 Bu), ⟨butT hl4 Bu (Same.seqT S25 hBV2), (hcl2.mono S25).but hl4 Bu⟩, fun E hE => ?_, by rw [List.length_append]; omega, fun x => ?_⟩
    · rcases List.mem_append.mp hE with hE | hE
      · exact hEB E hE
      · obtain ⟨ok, z1, z2, x0, x1, x2⟩ := hBB E hE
        dsimp only at z1 z2
        refine ⟨?_, ok.ok, by omega, by omega, x0, x1, x2⟩
        obtain ⟨d', e', _⟩ := x2
        exact ⟨d', e', ok.cl d' e'⟩
    · have a0 : Zg.InS (n + 1) x (Es ++ Bs) ↔ Zg.InS (n + 1) x Es ∨ Zg.InS (n + 1) x Bs := by
        unfold Zg.InS
        simp only [List.mem_append, or_and_right, exists_or]
      have a1 : Zg.InS (n + 1) x (Ps.take (i + 1)) ↔ Zg.InS (n + 1) x (Ps.take i) ∨ Zg.In (n + 1) x (some d, cs) := by
        rw [take_snoc hA1]
        unfold Zg.InS
        simp only [List.mem_append, or_and_right, exists_or, List.mem_singleton, exists_eq_left]
      have a2 : Zg.InS (n + 1) x Bs ↔ Zg.In (n + 1) x (some d, cs) ∧ ¬ Zg.InS (n + 1) x Os := by
        rw [show Zg.InS (n + 1) x Bs ↔ _ from hBst x, Zg.in_app, hb1 x]
      rw [a0, a1, a2, hst x, or_and_right]
  · rintro σ H2 ⟨v4, v5, v6, rs, Es, rfl, S2, hl2, hE, hcl2, hEB, hEl, hst⟩
    rw [List.length_map, hP.1] at hEl hst
    rw [List.take_length] at hst
    refine ⟨_, rfl, l, _, rfl, .inl ⟨SqL.of hl2, fun p np => ?_⟩⟩
    have Sp := Same.new (o := HO.tup (rs.map V.ref)) np
    exact k p rs Es _ (S2.trans Sp) (SqT.of upd_same) (hE.mono Sp) hEB hEl hst
def spBoth0 (K : PySem.W.Frag) : Sp := fun vs H Q _ => ∃ (a_ b_ : Addr) (ps qs : List Addr) (m D S N : Nat) (Ps Os : List Pt), vs = [.ref a_, .ref b_] ∧ SqT K H a_ (ps.map V.ref) ∧ Pts K H m ps Ps ∧ (∀ A ∈ Ps, Zg.PB m D S A) ∧ SqT K H b_ (qs.map V.ref) ∧ Pts K H m qs Os ∧ (∀ A ∈ Os, Zg.PB m D S A) ∧ D ≤ 50 ∧ 0 < m ∧ m ≤ 20 ∧ Ps.length ≤ N ∧ Os.length ≤ N ∧ N ≤ 300 ∧ Ps.length ≤ Os.length ∧ S + (1 + N * (1 + 2 * (m * m) + S)) ≤ 1000 ∧
  ∀ p rs Es H', Same H H' → SqT K H' p (rs.map V.ref) → Pts K H' m rs Es → (∀ E ∈ Es, Zg.PB m (D + 2) (S + (1 + N * (1 + 2 * (m * m) + S))) E) → Es.length ≤ N → (∀ x, Zg.InS m x Es ↔ Zg.InS m x Ps ∧ Zg.InS m x Os) → Q (.ref p) H'
theorem both0_body {f : Addr} (T : Txt K mg CC CS aB) (K_case_of : C8.Cal P w K mg base 4 "case_of" (spCaseOf K) []) (K_settled : C8.Cal P w K mg base 77 "settled" (spSettled K) []) (K_trimmed : C8.Cal P w K mg base 76 "trimmed" (spTrim K) [])
    {cdv : Value} {A : Around} {outer : List Env} {s : Shared} {H : Hp} {vs : List V} {Q : VK} {E : XK} (hr : Room 77 (A.deeper (PyProof.Rows.envOfC "both" (C8.fnScope s_both) s.heap.objs.size f cdv))) (h : spBoth0 K vs H Q E) :
    ∃ t, PSs (cxOf C8.CX0 P w K mg base N_both "both" (C8.fnScope s_both) f cdv A outer s H E).nox (C8.fnBody s_both) t ∧ t { nx := fun _ H' => Q .non H', rt := Q } (L2.start N_both vs) H := by
  obtain ⟨a_, b_, ps, qs, m, D, S, N, Ps, Os, rfl, ha, hP, hPB, hb, hO, hOB, hD, hm0, hm, hPl, hOl, hN, hPO, hSS, k⟩ := h
  have hmm : m * m ≤ 20 * 20 := Nat.mul_le_mul hm hm
  refine ⟨_, (pss_cons (ps_if (pt_cmpR op_gt (pe_callB call_len_seq (by rfl) T.z_len (by decide +kernel) (pa_cons (pv 0) pa_nil)) (pe_callB call_len_seq (by rfl) T.z_len (by decide +kernel) (pa_cons (pv 1) pa_nil)) (nomark _)) pss_never pss_nil)
    (pss_cons (ps_set (i := 2) sc_both.nd rfl (Or.inl rfl) (pe_tup (pa_cons (pe_tup pa_nil) (pa_cons (pe_callTy call_tuple_of (by rfl) T.z_tuple (by decide +kernel) (pa_cons (pe_lc (own := [("other", 6)]) (g := gName 6) (tt := tYes) rfl sc_both.nd (pi_tup (pv 1)) (blkOk_by (own := [("other", 6)]) (N := N_both) (sc := C8.fnScope s_both) (by decide +kernel)) (fun _ _ _ _ _ => (pg_name (i := 6) sc_both.nd rfl (Or.inl rfl))) (fun _ _ _ _ _ => pts_nil) (fun _ _ _ _ _ => (C8.pe_c K_case_of hr (by decide) (by rfl) (pa_cons (pv 6) pa_nil)))) pa_nil)) pa_nil))))
    (pss_cons (ps_set (i := 3) sc_both.nd rfl (Or.inl rfl) (pe_lst pa_nil))
    (pss_cons (ps_for PassesOwn.never rfl (pi_tup (pv 0)) (pg_tup (by rfl) (pgs_cons (pg_name (i := 4) sc_both.nd rfl (Or.inl rfl)) (pgs_cons (pg_name (i := 5) sc_both.nd rfl (Or.inl rfl)) pgs_nil)))
    (pss_one (ps_expr (pe_bm PySem.F.plainAttrs_list PySem.F.slot_list_extend PySem.F.type_list_extend mt_extend (pv 3) (pa_cons (C8.pe_c K_settled hr (by decide) (by rfl) (pa_cons (pe_tup (pa_cons (pv 4) (pa_cons (pe_op op_catU (pv 5) (pe_tup (pa_cons (pv 2) pa_nil))) pa_nil))) pa_nil)) pa_nil)))))
    (pss_one (ps_ret (C8.pe_c K_trimmed hr (by decide) (by rfl) (pa_cons (pv 3) pa_nil)))))))), ?_⟩
  have lp : (ps.map V.ref).length = Ps.length := by rw [List.length_map, hP.1]
  have lq : (qs.map V.ref).length = Os.length := by rw [List.length_map, hO.1]
  refine ⟨_, rfl, a_, _, rfl, .inr ha, _, rfl, b_, _, rfl, .inr hb, _, _, rfl, rfl, _, rfl, ?_⟩
  rw [decide_eq_false (by omega)]
  refine iteF ⟨sz (by simp), fun e0 ne0 => ⟨_, rfl, b_, rfl, ⟨_, Same.seqT (Same.new ne0) hb⟩, fun D0 nD => lc_tup (xs := qs.map V.ref) (fun j H' => ∃ us : List Addr, Same (upd H e0 (HO.tup [])) H' ∧ H' D0 = some (.lst (us.map V.ref)) ∧ IsGs K H' us ((Os.take j).map (Zg.ptCase m))) ⟨[], Same.new nD, upd_same, trivial⟩ (fun j H' _ h => ?_) ?_ ?_⟩⟩
  · obtain ⟨_, S1, _⟩ := h
    exact Same.seqT ((Same.new ne0).trans S1) hb
  · rintro j x H1 hx ⟨us, S1, hD0, hU⟩
    rw [List.getElem?_map] at hx
    obtain ⟨q, hq, rfl⟩ := Option.map_eq_some_iff.mp hx
    obtain ⟨O, hO1, hO2⟩ := hO.at_ hq
    have hj := (List.getElem?_eq_some_iff.mp hO1).1
    have hOm := List.mem_of_getElem? hO1
    refine ⟨rfl, ?_⟩
    refine ⟨_, rfl, q, m, D, S, O, rfl, hO2.mono ((Same.new ne0).trans S1), hOB O hOm, hm, fun r H2 S2 hr3 => ?_⟩
    have hD3 := S2 _ _ hD0
    have hlen := hU.len
    rw [List.length_map, List.length_take] at hlen
    refine ⟨_, hD3, szs (by rw [List.length_map]; omega), us ++ [r], Same.mut (S1.trans S2) nD, by rw [upd_same, List.map_append]; rfl, ?_⟩
    rw [take_snoc hO1, List.map_append]
    exact ((hU.mono S2).snoc hr3).but hD3 But.upd
  rintro H1 ⟨us, S1, hD0, hU⟩
  rw [List.length_map, hO.1, List.take_length] at hU
  have he0 := S1 _ _ (show upd H e0 (HO.tup []) e0 = some (.tup []) from upd_same)
  have S01 := (Same.new (o := HO.tup []) ne0).trans S1
  refine ⟨D0, _, rfl, .inl ⟨SqL.of hD0, fun cv ncv => ⟨sz (by simp), fun BV nBV => ?_⟩⟩⟩
  have Sc := Same.new (o := HO.tup (us.map V.ref)) ncv
  have Sb := Same.new (o := HO.tup [V.ref e0, V.ref cv]) nBV
  have hBV : IsG K (upd (upd H1 cv (HO.tup (us.map V.ref))) BV (HO.tup [V.ref e0, V.ref cv])) BV (Zg.orOf m Os) := ⟨e0, cv, [], us, SqT.of upd_same, Same.seqT (Sc.trans Sb) (SqT.of he0), LitsZ.nil, Same.seqT Sb (SqT.of upd_same), hU.mono (Sc.trans Sb)⟩
  have S1b := S01.trans (Sc.trans Sb)
  generalize upd (upd H1 cv (HO.tup (us.map V.ref))) BV (HO.tup [V.ref e0, V.ref cv]) = H1b at hBV S1b ⊢
  clear hD0 hU nBV Sb Sc ncv S01 he0 S1
  refine ⟨sz (by simp), fun l nl => ?_⟩
  have nl0 := none_of S1b nl
  have Sl := Same.new (o := HO.lst []) nl
  have S1l := S1b.trans Sl
  have hcls1 := hBV.mono Sl
  have hl1 : upd H1b l (HO.lst []) l = some (.lst []) := upd_same
  generalize upd H1b l (HO.lst []) = H1' at S1l hcls1 hl1 ⊢
  clear hBV S1b nl Sl
  refine ⟨_, rfl, a_, rfl, ⟨_, Same.seqT S1l ha⟩, for_tup (xs := ps.map V.ref) (fun i σ H' => ∃ (v4 v5 v6 : Option V) (rs : List Addr) (Es : List Pt), σ = [some (.ref a_), some (.ref b_), some (.ref BV), some (.ref l), v4, v5, v6] ∧ Same H H' ∧ H' l = some (.lst (rs.map V.ref)) ∧ Pts K H' m rs Es ∧ IsG K H' BV (Zg.orOf m Os) ∧ (∀ E ∈ Es, Zg.PB m (D + 2) (S + (1 + N * (1 + 2 * (m * m) + S))) E) ∧ Es.length ≤ i ∧ ∀ x, Zg.InS m x Es ↔ Zg.InS m x (Ps.take i) ∧ Zg.InS m x Os)
    ⟨none, none, none, [], [], rfl, S1l, hl1, Pts.nil, hcls1, fun E hE => (by cases hE), Nat.le_refl _, fun x => by simp [Zg.InS]⟩ (fun i σ H' _ h => ?_) ?_ ?_⟩
  · obtain ⟨_, _, _, _, _, _, S2, _⟩ := h
    exact Same.seqT S2 ha
  · rintro i x σ H2 hx ⟨v4, v5, v6, rs, Es, rfl, S2, hl2, hE, hcl2, hEB, hEl, hst⟩
    rw [List.getElem?_map] at hx
    obtain ⟨p, hp, rfl⟩ := Option.map_eq_some_iff.mp hx
    obtain ⟨⟨o, cs⟩, hA1, hA2⟩ := hP.at_ hp
    have hAm := List.mem_of_getElem? hA1
    have hil := (List.getElem?_eq_some_iff.mp hA1).1
    have hAB := hPB _ hAm
    obtain ⟨d, rfl, hC⟩ : ∃ d, o = some d ∧ Zn.Closed m d := hAB.cl
    obtain ⟨v, c, gs, hp0, ⟨z, rfl, hz⟩, hc, hG⟩ := hA2.mono S2
    have hcd := hAB.dp
    have hcs := hAB.sz
    have hcok := hAB.ok
    dsimp only at hG hcd hcs hcok
    have hgl := hG.len
    have hls := Zg.len_szs cs
    refine ⟨p, _, rfl, hp0, rfl, _, _, rfl, _, _, rfl, rfl, ?_⟩
    refine ⟨_, rfl, .inl ⟨rfl, _, SqL.of hl2⟩, _, rfl, _, rfl, _, rfl, sz (by simp), fun one nOne => ?_⟩
    have S1o := Same.new (o := HO.tup [V.ref BV]) nOne
    refine ⟨c, one, _, _, rfl, rfl, Same.seqT S1o hc, SqT.of upd_same, szL (by simp; omega), fun cc H3 S3 hcc => ⟨sz (by simp), fun q nq => ?_⟩⟩
    have S13 := S1o.trans S3
    have e1 : gs.map V.ref ++ [V.ref BV] = (gs ++ [BV]).map V.ref := by simp
    rw [e1] at hcc
    have hcl3 : IsGs K H3 (gs ++ [BV]) (cs ++ [Zg.orOf m Os]) := (hG.mono S13).snoc (hcl2.mono S13)
    have hb1 : ∀ x, (∀ g ∈ [Zg.orOf m Os], Zg.Hd false x g) ↔ Zg.InS m x Os := fun x => by
      simp only [List.mem_singleton, forall_eq]
      exact Zg.or_hd hOB
    have hb2 : Zg.OkGs m [Zg.orOf m Os] := ⟨Zg.or_ok hOB, trivial⟩
    have hb3 : Zg.szs [Zg.orOf m Os] ≤ 1 + N * (1 + 2 * (m * m) + S) := by
      have := Zg.or_sz hOB
      have := Nat.mul_le_mul_right (1 + 2 * (m * m) + S) hOl
      simp only [Zg.szs]
      omega
    have hb4 : Zg.deps [Zg.orOf m Os] ≤ 2 + D := by
      have := Zg.or_dep hOB
      simp only [Zg.deps]
      omega
    generalize [Zg.orOf m Os] = bs at hcl3 hb1 hb2 hb3 hb4
    generalize gs ++ [BV] = gs' at hcc hcl3
    have Sq := Same.new (o := HO.tup [V.ref z, V.ref cc]) nq
    have hz3 := hz.mono (S13.trans Sq)
    have hpt : IsPt K (upd H3 q (HO.tup [V.ref z, V.ref cc])) m q (some d, cs ++ bs) := ⟨.ref z, cc, gs', SqT.of upd_same, ⟨z, rfl, hz3⟩, Same.seqT Sq hcc, hcl3.mono Sq⟩
    have Sx := S13.trans Sq
    generalize upd H3 q (HO.tup [V.ref z, V.ref cc]) = H4 at hpt Sx ⊢
    obtain ⟨n, rfl⟩ : ∃ n, m = n + 1 := ⟨m - 1, by omega⟩
    have hszA := Zg.szs_app cs bs
    have hdpA := Zg.deps_app (as := cs) (bs := bs)
    refine ⟨q, n, (some d, cs ++ bs), rfl, hpt, ⟨fun d' e => by cases e; exact hC, Zg.okGs_app.mpr ⟨hcok, hb2⟩, by dsimp only; omega, by dsimp only; omega⟩, by omega, fun l2 qs2 Bs H5 S5 nl2 hl5 hB5 hBB hB1 hBst => ?_⟩
    have hl4 := S5 _ _ (Sx _ _ hl2)
    have hB1' : Bs.length ≤ 1 := hB1 (by dsimp only; omega)
    refine ⟨l, l2, _, _, rfl, rfl, hl4, hl5, szL (by rw [List.length_map, List.length_map, hE.1, hB5.1]; omega), ?_⟩
    have Bu : But l H5 (upd H5 l (.lst (rs.map V.ref ++ qs2.map V.ref))) := But.upd
    have S25 := Sx.trans S5
    refine ⟨_, _, _, rs ++ qs2, Es ++ Bs, rfl, Same.mut (S2.trans S25) nl0, by rw [upd_same, List.map_append], ((hE.mono S25).but hl4 Bu).app (hB5.but hl4 Bu), (hcl2.mono S25).but hl4 Bu, fun E hE => ?_, by rw [List.length_append]; omega, fun x => ?_⟩
    · rcases List.mem_append.mp hE with hE | hE
      · exact hEB E hE
      · obtain ⟨ok, z1, z2, x0, x1, x2⟩ := hBB E hE
        dsimp only at z1 z2
        refine ⟨?_, ok.ok, by omega, by omega, x0, x1, x2⟩
        obtain ⟨d', e', _⟩ := x2
        exact ⟨d', e', ok.cl d' e'⟩
    · have a0 : Zg.InS (n + 1) x (Es ++ Bs) ↔ Zg.InS (n + 1) x Es ∨ Zg.InS (n + 1) x Bs := by
        unfold Zg.InS
        simp only [List.mem_append, or_and_right, exists_or]
      have a1 : Zg.InS (n + 1) x (Ps.take (i + 1)) ↔ Zg.InS (n + 1) x (Ps.take i) ∨ Zg.In (n + 1) x (some d, cs) := by
        rw [take_snoc hA1]
        unfold Zg.InS
        simp only [List.mem_append, or_and_right, exists_or, List.mem_singleton, exists_eq_left]
      have a2 : Zg.InS (n + 1) x Bs ↔ Zg.In (n + 1) x (some d, cs) ∧ Zg.InS (n + 1) x Os := by
        rw [show Zg.InS (n + 1) x Bs ↔ _ from hBst x, Zg.in_app, hb1 x]
      rw [a0, a1, a2, hst x, or_and_right]
  · rintro σ H2 ⟨v4, v5, v6, rs, Es, rfl, S2, hl2, hE, hcl2, hEB, hEl, hst⟩
    rw [List.length_map, hP.1] at hEl hst
    rw [List.take_length] at hst
    refine ⟨_, rfl, l, rs, m, _, _, Es, rfl, SqL.of hl2, hE, hEB, by omega, by omega, by omega, fun p qs2 Fs H3 S3 hp hF hF1 hF2 hFl => ?_⟩
    refine k p qs2 Fs H3 (S2.trans S3) hp hF (fun E hE => hEB E (hF1 E hE)) (by omega) fun x => ?_
    rw [← hst x]
    constructor
    · rintro ⟨E, hE, hx⟩
      exact ⟨E, hF1 E hE, hx⟩
    · rintro ⟨E, hE, hx⟩
      obtain ⟨F', hF', hi⟩ := hF2 E hE
      exact ⟨F', hF', hi x hx⟩
def spBoth (K : PySem.W.Frag) : Sp := fun vs H Q _ => ∃ (a_ b_ : Addr) (ps qs : List Addr) (m D S N : Nat) (Ps Os : List Pt), vs = [.ref a_, .ref b_] ∧ SqT K H a_ (ps.map V.ref) ∧ Pts K H m ps Ps ∧ (∀ A ∈ Ps, Zg.PB m D S A) ∧ SqT K H b_ (qs.map V.ref) ∧ Pts K H m qs Os ∧ (∀ A ∈ Os, Zg.PB m D S A) ∧ D ≤ 50 ∧ 0 < m ∧ m ≤ 20 ∧ Ps.length ≤ N ∧ Os.length ≤ N ∧ N ≤ 300 ∧ S + (1 + N * (1 + 2 * (m * m) + S)) ≤ 1000 ∧
  ∀ p rs Es H', Same H H' → SqT K H' p (rs.map V.ref) → Pts K H' m rs Es → (∀ E ∈ Es, Zg.PB m (D + 2) (S + (1 + N * (1 + 2 * (m * m) + S))) E) → Es.length ≤ N → (∀ x, Zg.InS m x Es ↔ Zg.InS m x Ps ∧ Zg.InS m x Os) → Q (.ref p) H'
theorem ok_both {f : Addr} {fd : FuncData} (F : C8.Def K mg "both" s_both f fd) (b : Binds K fd ["parts", "others"] []) (T : Txt K mg CC CS aB) (K_case_of : C8.Cal P w K mg base 4 "case_of" (spCaseOf K) []) (K_settled : C8.Cal P w K mg base 77 "settled" (spSettled K) []) (K_trimmed : C8.Cal P w K mg base 76 "trimmed" (spTrim K) []) :
    C8.Cal P w K mg base 79 "both" (spBoth K) [] := by
  have K_both : C8.Cal P w K mg base 78 "both" (spBoth0 K) [] := by
    refine C8.cal0 F b .nil sc_both (fun vs H Q E h => ?_) (fun cdv A outer s H vs Q E hr h => both0_body T K_case_of K_settled K_trimmed hr h)
    obtain ⟨a_, b_, ps, qs, m, D, S, N, Ps, Os, rfl, _⟩ := h
    rfl
  refine C8.cal0 F b .nil sc_both (fun vs H Q E h => ?_) (fun cdv A outer s H vs Q E hr h => ?_)
  · obtain ⟨a_, b_, ps, qs, m, D, S, N, Ps, Os, rfl, _⟩ := h
    rfl
  obtain ⟨a_, b_, ps, qs, m, D, S, N, Ps, Os, rfl, ha, hP, hPB, hb, hO, hOB, hD, hm0, hm, hPl, hOl, hN, hSS, k⟩ := h
  by_cases hle : Ps.length ≤ Os.length
  · exact both0_body T K_case_of K_settled K_trimmed (hr.mono (by decide)) ⟨a_, b_, ps, qs, m, D, S, N, Ps, Os, rfl, ha, hP, hPB, hb, hO, hOB, hD, hm0, hm, hPl, hOl, hN, hle, hSS, k⟩
  refine ⟨_, (pss_cons (ps_if (pt_cmpR op_gt (pe_callB call_len_seq (by rfl) T.z_len (by decide +kernel) (pa_cons (pv 0) pa_nil)) (pe_callB call_len_seq (by rfl) T.z_len (by decide +kernel) (pa_cons (pv 1) pa_nil)) (nomark _)) (pss_one (ps_ret (C8.pe_c K_both hr (by decide) (by rfl) (pa_cons (pv 1) (pa_cons (pv 0) pa_nil))))) pss_nil)
    pss_never), ?_⟩
  have lp : (ps.map V.ref).length = Ps.length := by rw [List.length_map, hP.1]
  have lq : (qs.map V.ref).length = Os.length := by rw [List.length_map, hO.1]
  refine ⟨_, rfl, a_, _, rfl, .inr ha, _, rfl, b_, _, rfl, .inr hb, _, _, rfl, rfl, _, rfl, ?_⟩
  rw [decide_eq_true (by omega)]
  refine iteT ⟨_, rfl, _, rfl, b_, a_, qs, ps, m, D, S, N, Os, Ps, rfl, hb, hO, hOB, ha, hP, hPB, hD, hm0, hm, hOl, hPl, hN, by omega, hSS, fun p rs Es H' S1 hp hE hEB hEl hst => k p rs Es H' S1 hp hE hEB hEl fun x => (hst x).trans and_comm⟩
end
end K18

namespace K18
open PySem L2 Bx
section
variable {P : Program} {w : World} {K : PySem.W.Frag} {mg : Str → Option Value} {base : Heap} {CC CS aB : Addr}
/-- rows of literals at ls, lists each -/
def LRows (K : PySem.W.Frag) (H : Hp) (ls : List Addr) (R : List (List Zn.Lit)) : Prop := ls.length = R.length ∧ ∀ (j : Nat) q, R[j]? = some q → ∃ l ts, ls[j]? = some l ∧ SqL K H l (ts.map V.ref) ∧ LitsZ K H ts q
theorem LRows.mono {H H' : Hp} {ls : List Addr} {R : List (List Zn.Lit)} (e : Same H H') (h : LRows K H ls R) : LRows K H' ls R := ⟨h.1, fun j q hj => by
  obtain ⟨r, ts, h1, h2, h3⟩ := h.2 j q hj
  exact ⟨r, ts, h1, e.seq h2, h3.mono e⟩⟩
/-- the parts of a cover: together the states of the rows -/
structure CovP (m : Nat) (Ps : List Pt) (R : List (List Zn.Lit)) : Prop where
  pb : ∀ A ∈ Ps, Zg.PB m 0 0 A
  st : ∀ x : Nat → Int, Zg.InS m x Ps ↔ ∃ q ∈ R, Zn.All x q
/-- Cover(parts) -/
def spCover (CC : Addr) : Sp := fun vs H Q _ => ∃ (x dx : Addr) (v : V), vs = [.ref x, v] ∧ H x = some (.ins CC dx []) ∧ Q .non (upd H x (.ins CC dx [("parts", v)]))
theorem ok_Cover_init {f : Addr} {fd : FuncData} (M : Mk K CC f) (F : C8.Fun K "__init__" "Cover.__init__" s_Cover_init f fd) (b : Binds K fd ["self", "parts"] []) (T : Txt K mg CC CS aB) : C8.Mak P w K mg base 1 "Cover" CC (spCover CC) [] := by
  refine C8.mak0 M T.g_Cover F b .nil sc_Cover_init (fun vs H Q E h => ?_) (fun cdv A outer s H vs Q E hr h => ?_)
  · obtain ⟨x, dx, v, rfl, _⟩ := h
    rfl
  · obtain ⟨x, dx, v, rfl, hx, k⟩ := h
    refine ⟨_, (pss_one (ps_fld (pv 0) (pv 1) rfl)), ?_⟩
    exact ⟨_, rfl, _, rfl, x, CC, dx, _, rfl, hx, T.cC, T.nC, by decide, k⟩
theorem isZ_but {l : Addr} {H H' : Hp} {xs : List V} {z : Addr} {m : Nat} {d : Zn.Z} (hl : H l = some (.lst xs)) (e : But l H H') (h : IsZ K H z m d) : IsZ K H' z m d := by
  obtain ⟨rs, a1, a2, a3⟩ := h
  exact ⟨rs, butT hl e a1, a2, fun i r hr => butT hl e (a3 i r hr)⟩
/-- what a row's zone is, as a value -/
def ZoneV (K : PySem.W.Frag) (H : Hp) (m : Nat) (q : List Zn.Lit) (v : V) : Prop := (v = .non ∧ Zn.metAll Zn.whole q = none) ∨ ∃ z d, v = .ref z ∧ Zn.metAll Zn.whole q = some d ∧ IsZ K H z m d
theorem ZoneV.mono {H H' : Hp} {m : Nat} {q : List Zn.Lit} {v : V} (e : Same H H') (h : ZoneV K H m q v) : ZoneV K H' m q v := h.imp id fun ⟨z, d, h1, h2, h3⟩ => ⟨z, d, h1, h2, h3.mono e⟩
theorem ZoneV.but {l : Addr} {H H' : Hp} {xs : List V} {m : Nat} {q : List Zn.Lit} {v : V} (hl : H l = some (.lst xs)) (e : But l H H') (h : ZoneV K H m q v) : ZoneV K H' m q v := h.imp id fun ⟨z, d, h1, h2, h3⟩ => ⟨z, d, h1, h2, isZ_but hl e h3⟩
def ZonesUp (K : PySem.W.Frag) (H : Hp) (D : Addr) (m : Nat) (R : List (List Zn.Lit)) (j : Nat) : Prop := ∃ zs : List V, H D = some (.lst zs) ∧ zs.length = j ∧ ∀ (k : Nat) (v : V) (q : List Zn.Lit), zs[k]? = some v → R[k]? = some q → ZoneV K H m q v
theorem ZonesUp.mono {H H' : Hp} {D : Addr} {m j : Nat} {R : List (List Zn.Lit)} (e : Same H H') (h : ZonesUp K H D m R j) : ZonesUp K H' D m R j := h.imp fun zs x => ⟨e _ _ x.1, x.2.1, fun k v q h1 h2 => (x.2.2 k v q h1 h2).mono e⟩
theorem ZonesUp.push {H : Hp} {D : Addr} {m j : Nat} {R : List (List Zn.Lit)} {v : V} {q : List Zn.Lit} (h : ZonesUp K H D m R j) (hq : R[j]? = some q) (hv : ZoneV K H m q v) (hj : j ≤ 900) : ∃ acc, H D = some (.lst acc) ∧ acc.length < sizeLine ∧ ZonesUp K (upd H D (.lst (acc ++ [v]))) D m R (j + 1) := by
  obtain ⟨zs, h1, h2, h3⟩ := h
  refine ⟨zs, h1, szs (by omega), zs ++ [v], upd_same, by simp [h2], fun k u e hk he => ?_⟩
  by_cases c : k < zs.length
  · rw [List.getElem?_append_left c] at hk
    exact (h3 k u e hk he).but h1 But.upd
  · have ek : k = zs.length := by
      have := (List.getElem?_eq_some_iff.mp hk).1
      simp at this
      omega
    subst ek
    rw [List.getElem?_append_right (Nat.le_refl _)] at hk
    have eu : u = v := by simpa using hk.symm
    subst eu
    rw [h2, hq] at he
    cases he
    exact hv.but h1 But.upd
def spOfRows (K : PySem.W.Frag) : Sp := fun vs H Q _ => ∃ (r : Addr) (ls : List Addr) (n : Nat) (R : List (List Zn.Lit)), vs = [.ref r, .int (n : Nat)] ∧ SqL K H r (ls.map V.ref) ∧ LRows K H ls R ∧ (∀ q ∈ R, Zn.Ok (n + 1) q) ∧ n ≤ 19 ∧ R.length ≤ 300 ∧
  ∀ p ps (ds : List Pt) H', Same H H' → SqT K H' p (ps.map V.ref) → Pts K H' (n + 1) ps ds → CovP (n + 1) ds R → ds.length ≤ R.length → Q (.ref p) H'
theorem ok_of_rows {f : Addr} {fd : FuncData} (F : C8.Def K mg "of_rows" s_of_rows f fd) (b : Binds K fd ["rows", "many"] []) (T : Txt K mg CC CS aB) (K_whole : C8.Cal P w K mg base 1 "whole" (spWhole K) []) (K_met_all : C8.Cal P w K mg base 3 "met_all" (spMetAll K) [])
    (K_trimmed : C8.Cal P w K mg base 76 "trimmed" (spTrim K) []) : C8.Cal P w K mg base 77 "of_rows" (spOfRows K) [] := by
  refine C8.cal0 F b .nil sc_of_rows (fun vs H Q E h => ?_) (fun cdv A outer s H vs Q E hr h => ?_)
  · obtain ⟨r, ls, n, R, rfl, _⟩ := h
    rfl
  · obtain ⟨r, ls, n, R, rfl, hr0, hL, hok, hn, h300, k⟩ := h
    refine ⟨_, (pss_cons (ps_setLc (i := 2) (own := [("row", 3)]) (g := gName 3) (tt := tYes) rfl sc_of_rows.nd rfl rfl (sw_true rfl rfl rfl (by decide +kernel)) (pi_list (pv 0)) (blkOk_by (own := [("row", 3)]) (N := N_of_rows) (sc := C8.fnScope s_of_rows) (by decide +kernel)) (fun _ _ _ _ _ => (pg_name (i := 3) sc_of_rows.nd rfl (Or.inl rfl))) (fun _ _ _ _ _ => pts_nil) (fun _ _ _ _ _ => (C8.pe_c K_met_all hr (by decide) (by rfl) (pa_cons (C8.pe_c K_whole hr (by decide) (by rfl) (pa_cons (pv 1) pa_nil)) (pa_cons (pv 3) pa_nil)))))
    (pss_one (ps_ret (C8.pe_c K_trimmed hr (by decide) (by rfl) (pa_cons (pe_lc (own := [("zone", 4)]) (g := gName 4) rfl sc_of_rows.nd (pi_list (pv 2)) (blkOk_by (own := [("zone", 4)]) (N := N_of_rows) (sc := C8.fnScope s_of_rows) (by decide +kernel)) (fun _ _ _ _ _ => (pg_name (i := 4) sc_of_rows.nd rfl (Or.inl rfl))) (fun _ _ _ _ _ => (pts_one (pt_cmpR op_notN (pv 4) pe_non (nomark _)))) (fun _ _ _ _ _ => (pe_tup (pa_cons (pv 4) (pa_cons (pe_tup pa_nil) pa_nil))))) pa_nil))))), ?_⟩
    refine ⟨_, rfl, r, rfl, ⟨_, hr0⟩, fun D nD => lc_list (xs := ls.map V.ref) (fun j H' => Same H H' ∧ ZonesUp K H' D (n + 1) R j) ⟨Same.new nD, [], upd_same, rfl, fun k v q h => (by cases h)⟩ (fun j H' _ h => h.1.seq hr0) ?_ ?_⟩
    · rintro i x H1 hx ⟨S1, hZ⟩
      rw [List.getElem?_map] at hx
      obtain ⟨l, hl, rfl⟩ := Option.map_eq_some_iff.mp hx
      have hi : i < R.length := by
        rw [← hL.1]
        exact (List.getElem?_eq_some_iff.mp hl).1
      have hq := List.getElem?_eq_getElem hi
      obtain ⟨l', ts, h1, h2, h3⟩ := hL.2 i _ hq
      rw [hl] at h1
      cases h1
      refine ⟨rfl, ?_⟩
      refine ⟨_, rfl, n, rfl, by omega, fun z0 H2 S2 hz0 => ⟨_, rfl, z0, l, ts, n + 1, Zn.whole, R[i], rfl, hz0, (S1.trans S2).seq h2, h3.mono (S1.trans S2), hok _ (List.getElem_mem hi), by omega, fun H3 S3 e => ?_, fun z d H3 S3 e hz => ?_⟩⟩
      · obtain ⟨acc, g1, g2, g3⟩ := (hZ.mono (S2.trans S3)).push hq (v := .non) (.inl ⟨rfl, e⟩) (by omega)
        exact ⟨acc, g1, g2, Same.mut (S1.trans (S2.trans S3)) nD, g3⟩
      · obtain ⟨acc, g1, g2, g3⟩ := (hZ.mono (S2.trans S3)).push hq (v := .ref z) (.inr ⟨z, d, rfl, e, hz⟩) (by omega)
        exact ⟨acc, g1, g2, Same.mut (S1.trans (S2.trans S3)) nD, g3⟩
    rintro H1 ⟨S1, hZ⟩
    rw [List.length_map, hL.1] at hZ
    obtain ⟨zs, hD, hlen, hV⟩ := hZ
    refine ⟨_, rfl, D, rfl, ⟨_, SqL.of hD⟩, fun D2 nD2 => lc_list (xs := zs) (fun j H' => ∃ (ps : List Addr) (ds : List Zn.Z), Same H1 H' ∧ H' D2 = some (.lst (ps.map V.ref)) ∧ Pts K H' (n + 1) ps (ds.map fun d => (some d, [])) ∧ ds = (R.take j).filterMap (Zn.metAll Zn.whole)) ⟨[], [], Same.new nD2, upd_same, Pts.nil, rfl⟩ (fun j H' _ h => ?_) ?_ ?_⟩
    · obtain ⟨_, _, S, _⟩ := h
      exact S.seq (SqL.of hD)
    · rintro i x H2 hx ⟨ps, ds, S2, hD2, hP, eds⟩
      have hi : i < R.length := by
        rw [← hlen]
        exact (List.getElem?_eq_some_iff.mp hx).1
      have hq := List.getElem?_eq_getElem hi
      have hfl : ds.length ≤ 300 := by
        have h1 : ds.length ≤ (R.take i).length := by rw [eds]; exact List.length_filterMap_le _ _
        rw [List.length_take] at h1
        omega
      refine ⟨rfl, ?_⟩
      rcases hV i x _ hx hq with ⟨rfl, e⟩ | ⟨z, d, rfl, e, hz⟩
      · refine ⟨_, rfl, rfl, _, rfl, iteF ⟨ps, ds, S2, hD2, hP, ?_⟩⟩
        rw [take_snoc hq, List.filterMap_append, ← eds]
        simp [e]
      · refine ⟨_, rfl, rfl, _, rfl, iteT ⟨_, rfl, (by show 0 ≤ sizeLine; decide), fun c nc => ⟨(by show 2 ≤ sizeLine; decide), fun p np => ?_⟩⟩⟩
        have Sc := Same.new (o := HO.tup []) nc
        have Sp := Sc.trans (Same.new (o := HO.tup [V.ref z, V.ref c]) np)
        have hD2' := Sp _ _ hD2
        have hp : IsPt K (upd (upd H2 c (.tup [])) p (.tup [V.ref z, V.ref c])) (n + 1) p (some d, []) := ⟨.ref z, c, [], SqT.of upd_same, ⟨z, rfl, hz.mono (S2.trans Sp)⟩, Same.seqT (Same.new (o := HO.tup [V.ref z, V.ref c]) np) (SqT.of upd_same), trivial⟩
        refine ⟨_, hD2', szs (by rw [List.length_map, hP.1, List.length_map]; omega), ps ++ [p], ds ++ [d], Same.mut (S2.trans Sp) nD2, by rw [upd_same, List.map_append]; rfl, ?_, ?_⟩
        · rw [List.map_append]
          exact ((hP.mono Sp).but hD2' But.upd).snoc (hp.but hD2' But.upd)
        rw [take_snoc hq, List.filterMap_append, ← eds]
        simp [e]
    · rintro H2 ⟨ps, ds, S2, hD2, hP, eds⟩
      rw [hlen, List.take_length] at eds
      have hfl : ds.length ≤ R.length := by rw [eds]; exact List.length_filterMap_le _ _
      have cl : ∀ d ∈ ds, ∃ q ∈ R, Zn.metAll Zn.whole q = some d ∧ Zn.Closed (n + 1) d ∧ ∀ x, Zn.Sat (n + 1) d x ↔ Zn.All x q := fun d hd => by
        rw [eds] at hd
        obtain ⟨q, hq, e⟩ := List.mem_filterMap.mp hd
        obtain ⟨c, st⟩ := Zn.metAll_some (Zn.whole_closed (n + 1)) (hok q hq) e
        exact ⟨q, hq, e, c, fun x => (st x).trans ⟨fun h => h.2, fun h => ⟨Zn.whole_sat _ x, h⟩⟩⟩
      have hin0 : ∀ (d : Zn.Z) x, Zg.In (n + 1) x (some d, []) ↔ Zn.Sat (n + 1) d x := fun d x => by
        rw [in_some, Zg.hd_case]
        exact ⟨fun h => h.1, fun h => ⟨h, fun l hl => (by cases hl), fun g hg => (by cases hg)⟩⟩
      have pb : ∀ A ∈ ds.map fun d => ((some d, []) : Pt), Zg.PB (n + 1) 0 0 A := fun A hA => by
        obtain ⟨d, hd, rfl⟩ := List.mem_map.mp hA
        obtain ⟨_, _, _, c, _⟩ := cl d hd
        obtain ⟨y1, y2⟩ := Zn.some_state c
        exact ⟨⟨d, rfl, c⟩, trivial, Nat.le_refl _, Nat.le_refl _, _, y2, (hin0 d _).mpr y1⟩
      refine ⟨D2, ps, n + 1, 0, 0, _, rfl, SqL.of hD2, hP, pb, by decide, by decide, by rw [List.length_map]; omega, fun p qs es H3 S3 hp hE hin hcov hle => ?_⟩
      rw [List.length_map] at hle
      refine k p qs es H3 ((S1.trans S2).trans S3) hp hE ⟨fun d hd => pb d (hin d hd), fun x => ⟨?_, ?_⟩⟩ (by omega)
      · rintro ⟨A, hA, hx⟩
        obtain ⟨d, hd, rfl⟩ := List.mem_map.mp (hin A hA)
        obtain ⟨q, hq, _, _, st⟩ := cl d hd
        exact ⟨q, hq, (st x).mp ((hin0 d x).mp hx)⟩
      · rintro ⟨q, hq, hA⟩
        cases e : Zn.metAll Zn.whole q with
        | none => exact absurd hA (Zn.metAll_none (Zn.whole_closed (n + 1)) (hok q hq) e x (Zn.whole_sat _ x))
        | some d =>
          have hd : d ∈ ds := by
            rw [eds]
            exact List.mem_filterMap.mpr ⟨q, hq, e⟩
          obtain ⟨_, st⟩ := Zn.metAll_some (Zn.whole_closed (n + 1)) (hok q hq) e
          obtain ⟨f, hf, hi⟩ := hcov _ (List.mem_map.mpr ⟨d, hd, rfl⟩)
          exact ⟨f, hf, hi x ((hin0 d x).mpr ((st x).mpr ⟨Zn.whole_sat _ x, hA⟩))⟩
end
end K18

namespace K18
open PySem L2 Bx
/-- the place of a name among names -/
def posOf : List Str → Str → Nat
  | [], _ => 0
  | y :: r, t => if y = t then 0 else posOf r t + 1
theorem posOf_spec : ∀ {ys : List Str} {t : Str}, t ∈ ys → ys[posOf ys t]? = some t ∧ ∀ m, m < posOf ys t → ys[m]? ≠ some t
  | [], t, h => by cases h
  | y :: r, t, h => by
    unfold posOf
    by_cases e : y = t
    · rw [if_pos e]
      exact ⟨by rw [e]; rfl, fun m hm => by omega⟩
    · rw [if_neg e]
      have h' : t ∈ r := (List.mem_cons.mp h).resolve_left fun z => e z.symm
      obtain ⟨h1, h2⟩ := posOf_spec h'
      refine ⟨by simpa using h1, fun m hm => ?_⟩
      cases m with
      | zero => simpa using e
      | succ m => simpa using h2 m (by omega)
def nm (ys : List Str) (i : Nat) : Str := ((("" : Str)) :: ys).getD i ""
def xOf (ys : List Str) (f : Str → Int) (i : Nat) : Int := vl f (nm ys i)
def ixOf (ys : List Str) (t : Str) : Nat := if t = "" then 0 else 1 + posOf ys t
def litZ (ys : List Str) (q : Str × Str × Int) : Zn.Lit := (ixOf ys q.1, ixOf ys q.2.1, q.2.2)
def litS (ys : List Str) (l : Zn.Lit) : Str × Str × Int := (nm ys l.1, nm ys l.2.1, l.2.2)
theorem nm_at {ys : List Str} {i : Nat} (h : i < ys.length + 1) : ((("" : Str)) :: ys)[i]? = some (nm ys i) := by
  unfold nm
  have h' : i < ((("" : Str)) :: ys).length := by simpa using h
  rw [List.getD_eq_getElem?_getD, List.getElem?_eq_getElem h']
  rfl
theorem nm_in {ys : List Str} {i : Nat} (h : i < ys.length + 1) : nm ys i = "" ∨ nm ys i ∈ ys := by
  have e := nm_at h
  have m := List.mem_of_getElem? e
  exact List.mem_cons.mp m
theorem ix_lt {ys : List Str} {t : Str} (h : t = "" ∨ t ∈ ys) : ixOf ys t < ys.length + 1 := by
  unfold ixOf
  by_cases e : t = ""
  · rw [if_pos e]
    omega
  · rw [if_neg e]
    have := (List.getElem?_eq_some_iff.mp (posOf_spec (h.resolve_left e)).1).1
    omega
theorem nm_ix {ys : List Str} {t : Str} (h : t = "" ∨ t ∈ ys) : nm ys (ixOf ys t) = t := by
  have e := nm_at (ix_lt h)
  unfold ixOf at e ⊢
  by_cases c : t = ""
  · rw [if_pos c] at e ⊢
    rw [c]
    rfl
  · rw [if_neg c] at e ⊢
    rw [Nat.add_comm, List.getElem?_cons_succ, (posOf_spec (h.resolve_left c)).1] at e
    rw [Nat.add_comm]
    exact (Option.some.inj e).symm
theorem all_lits {ys : List Str} {f : Str → Int} {L : List (Str × Str × Int)} (h : ∀ q ∈ L, TermsOk ys q) : Zn.All (xOf ys f) (L.map (litZ ys)) ↔ meetsB f L = true := by
  unfold Zn.All meetsB
  rw [List.all_eq_true]
  constructor
  · intro g q hq
    have := g _ (List.mem_map.mpr ⟨q, hq, rfl⟩)
    unfold Zn.Hl xOf litZ at this
    dsimp only at this
    rw [nm_ix (h q hq).1, nm_ix (h q hq).2] at this
    exact decide_eq_true this
  · intro g l hl
    obtain ⟨q, hq, rfl⟩ := List.mem_map.mp hl
    unfold Zn.Hl xOf litZ
    dsimp only
    rw [nm_ix (h q hq).1, nm_ix (h q hq).2]
    exact of_decide_eq_true (g q hq)
theorem lits_all {ys : List Str} {f : Str → Int} {ls : List Zn.Lit} : meetsB f (ls.map (litS ys)) = true ↔ Zn.All (xOf ys f) ls := by
  unfold Zn.All meetsB
  rw [List.all_eq_true]
  constructor
  · intro g l hl
    have h : decide (vl f (nm ys l.1) ≤ vl f (nm ys l.2.1) + l.2.2) = true := g _ (List.mem_map.mpr ⟨l, hl, rfl⟩)
    show vl f (nm ys l.1) ≤ vl f (nm ys l.2.1) + l.2.2
    exact of_decide_eq_true h
  · intro g q hq
    obtain ⟨l, hl, rfl⟩ := List.mem_map.mp hq
    have h : vl f (nm ys l.1) ≤ vl f (nm ys l.2.1) + l.2.2 := g l hl
    exact decide_eq_true h
theorem ok_lits {ys : List Str} {L : List (Str × Str × Int)} (h : ∀ q ∈ L, TermsOk ys q) : Zn.Ok (ys.length + 1) (L.map (litZ ys)) := fun l hl => by
  obtain ⟨q, hq, rfl⟩ := List.mem_map.mp hl
  exact ⟨ix_lt (h q hq).1, ix_lt (h q hq).2⟩
theorem terms_lits {ys : List Str} {ls : List Zn.Lit} (h : Zn.Ok (ys.length + 1) ls) : ∀ q ∈ ls.map (litS ys), TermsOk ys q := fun q hq => by
  obtain ⟨l, hl, rfl⟩ := List.mem_map.mp hq
  exact ⟨nm_in (h l hl).1, nm_in (h l hl).2⟩
/-- a cover -/
def CoverAt (K : PySem.W.Frag) (CC : Addr) (H : Hp) (c : Addr) (m : Nat) (ds : List Pt) : Prop := ∃ dc p ps, H c = some (.ins CC dc [("parts", .ref p)]) ∧ SqT K H p (ps.map V.ref) ∧ Pts K H m ps ds
theorem CoverAt.mono {K : PySem.W.Frag} {CC : Addr} {H H' : Hp} {c : Addr} {m : Nat} {ds : List Pt} (e : Same H H') (h : CoverAt K CC H c m ds) : CoverAt K CC H' c m ds := by
  obtain ⟨dc, p, ps, h1, h2, h3⟩ := h
  exact ⟨dc, p, ps, e _ _ h1, Same.seqT e h2, h3.mono e⟩
section
variable {P : Program} {w : World} {K : PySem.W.Frag} {mg : Str → Option Value} {base : Heap} {CC CS aB : Addr}
/-- States._index -/
def spIndex (K : PySem.W.Frag) (CS : Addr) : Sp := fun vs H Q _ => ∃ (o dx tn : Addr) (fs : List (Str × V)) (ys : List Str) (t : Str), vs = [.ref o, .str t] ∧ H o = some (.ins CS dx fs) ∧ fs.lookup ("names" : Str) = some (V.ref tn) ∧ Tf.TupAt H tn (ys.map V.str) ∧ (t = "" ∨ t ∈ ys) ∧ Q (.int (ixOf ys t : Nat)) H
theorem ok_States__index {f : Addr} {fd : FuncData} (me : Meth K CS "_index" f) (F : C8.Fun K "_index" "States._index" s_States__index f fd) (b : Binds K fd ["self", "term"] []) (T : Txt K mg CC CS aB) : C8.Met P w K mg base 1 CS "_index" (spIndex K CS) [] := by
  refine C8.met0 T.cS me F b sc_States__index (fun vs H Q E h => ?_) (fun cdv A outer s H vs Q E hr h => ?_)
  · obtain ⟨o, dx, tn, fs, ys, t, rfl, _⟩ := h
    rfl
  · obtain ⟨o, dx, tn, fs, ys, t, rfl, ho, hn, ht, hin, k⟩ := h
    refine ⟨_, (pss_one (ps_ret (pe_ifExp (pt_cmpR op_eq (pv 1) pe_str (nomark _)) pe_int (pe_op op_add pe_int (Tf.pe_bmF PySem.F.plainAttrs_tuple PySem.F.slot_tuple_index PySem.F.type_tuple_index mt_tup_index (pe_fld (pv 0) rfl) (pa_cons (pv 1) pa_nil)))))), ?_⟩
    refine ⟨_, rfl, rfl, _, rfl, ?_⟩
    by_cases e : t = ""
    · subst e
      have : ixOf ys ("" : Str) = 0 := if_pos rfl
      rw [this] at k
      exact iteT k
    · rw [decide_eq_false (fun z => e (V.str.inj z))]
      obtain ⟨h1, h2⟩ := posOf_spec (hin.resolve_left e)
      refine iteF ⟨_, rfl, o, CS, dx, fs, .ref tn, rfl, ho, T.cS, T.nS.1, hn, ⟨tn, _, rfl, ht⟩, _, rfl, tn, ys, t, _, rfl, rfl, ht.sq, h1, h2, 1, ((posOf ys t : Nat) : Int), rfl, rfl, ?_⟩
      have : ixOf ys t = 1 + posOf ys t := if_neg e
      rw [this] at k
      have e2 : ((1 + posOf ys t : Nat) : Int) = 1 + ((posOf ys t : Nat) : Int) := by omega
      rw [e2] at k
      exact k
end
end K18

namespace K18
open PySem L2 Bx
abbrev cs_covered : Scope := match C8.fnBody s_States__covered with
  | .Assign _ e _ :: _ => reSc (C8.fnScope s_States__covered) (compSc e)
  | _ => C8.fnScope s_States__covered
section
variable {P : Program} {w : World} {K : PySem.W.Frag} {mg : Str → Option Value} {base : Heap} {CC CS aB : Addr}
theorem butL {l a : Addr} {H H' : Hp} {xs : List V} (e : But l H H') (n : a ≠ l) (h : SqL K H a xs) : SqL K H' a xs := by
  rcases h with (h | ⟨o, h⟩) | h
  · exact .inl (.inl (e _ _ h n))
  · exact .inl (.inr ⟨o, e _ _ h n⟩)
  · exact .inr h
theorem LRows.push {H : Hp} {D l : Addr} {ls : List Addr} {R : List (List Zn.Lit)} {q : List Zn.Lit} (hD : H D = some (.lst (ls.map V.ref))) (h : LRows K H ls R) (hne : ∀ x ∈ ls, x ≠ D) (hl : l ≠ D) (hq : ∃ ts : List Addr, SqL K H l (ts.map V.ref) ∧ LitsZ K H ts q) :
    LRows K (upd H D (.lst ((ls ++ [l]).map V.ref))) (ls ++ [l]) (R ++ [q]) := by
  refine ⟨by simp [h.1], fun j e hj => ?_⟩
  by_cases c : j < R.length
  · rw [List.getElem?_append_left c] at hj
    obtain ⟨r, ts, h1, h2, h3⟩ := h.2 j e hj
    exact ⟨r, ts, by rw [List.getElem?_append_left (by rw [h.1]; exact c)]; exact h1, butL But.upd (hne r (List.mem_of_getElem? h1)) h2, h3.but hD But.upd⟩
  · have ej : j = R.length := by
      have := (List.getElem?_eq_some_iff.mp hj).1
      simp at this
      omega
    subst ej
    rw [List.getElem?_append_right (Nat.le_refl _)] at hj
    have ee : e = q := by simpa using hj.symm
    subst ee
    obtain ⟨ts, h2, h3⟩ := hq
    exact ⟨l, ts, by rw [← h.1, List.getElem?_append_right (Nat.le_refl _)]; simp, butL But.upd hl h2, h3.but hD But.upd⟩
/-- States._covered -/
def spCovered (K : PySem.W.Frag) (CC CS : Addr) : Sp := fun vs H Q _ => ∃ (o dx tn r : Addr) (fs : List (Str × V)) (ys : List Str) (R : List (List (Str × Str × Int))), vs = [.ref o, .ref r] ∧ H o = some (.ins CS dx fs) ∧ fs.lookup ("names" : Str) = some (V.ref tn) ∧ fs.lookup ("_index" : Str) = none ∧ Tf.TupAt H tn (ys.map V.str) ∧
  RowsAt K H r R ∧ R.length ≤ 300 ∧ (∀ L ∈ R, L.length ≤ 900 ∧ ∀ q ∈ L, TermsOk ys q) ∧ ys.length ≤ 19 ∧
  ∀ c ds H', Same H H' → CoverAt K CC H' c (ys.length + 1) ds → CovP (ys.length + 1) ds (R.map fun L => L.map (litZ ys)) → ds.length ≤ R.length → Q (.ref c) H'
theorem ok_States__covered {f : Addr} {fd : FuncData} (me : Meth K CS "_covered" f) (F : C8.Fun K "_covered" "States._covered" s_States__covered f fd) (b : Binds K fd ["self", "rows"] []) (T : Txt K mg CC CS aB) (K__index : C8.Met P w K mg base 1 CS "_index" (spIndex K CS) [])
    (K_of_rows : C8.Cal P w K mg base 77 "of_rows" (spOfRows K) []) (K_Cover : C8.Mak P w K mg base 1 "Cover" CC (spCover CC) []) : C8.Met P w K mg base 78 CS "_covered" (spCovered K CC CS) [] := by
  refine C8.met0 T.cS me F b sc_States__covered (fun vs H Q E h => ?_) (fun cdv A outer s H vs Q E hr h => ?_)
  · obtain ⟨o, dx, tn, r, fs, ys, R, rfl, _⟩ := h
    rfl
  · obtain ⟨o, dx, tn, r, fs, ys, R, rfl, ho, hn, hni, htn, hR, h300, hT, h19, k⟩ := h
    obtain ⟨rs, hr0, hI⟩ := id hR
    refine ⟨_, (pss_cons (ps_setLc (i := 2) (own := [("row", 3)]) (g := gName 3) (tt := tYes) rfl sc_States__covered.nd rfl rfl (sw_true rfl rfl rfl (by decide +kernel)) (pi_tup (pv 1)) (blkOk_by (own := [("row", 3)]) (N := N_States__covered) (sc := C8.fnScope s_States__covered) (by decide +kernel)) (fun _ _ _ _ _ => (pg_name (i := 3) sc_States__covered.nd rfl (Or.inl rfl))) (fun _ _ _ _ _ => pts_nil) (fun _ _ _ _ _ => (pe_lc (own := [("left", 4), ("right", 5), ("number", 6)]) (g := _) (tt := tYes) rfl sc_States__covered.nd (piTK K (pv 3)) (blkOk_by (own := [("left", 4), ("right", 5), ("number", 6)]) (N := N_States__covered) (sc := cs_covered) (by decide +kernel)) (fun _ _ _ _ _ => (pgTK K 3 (pgs_cons (pg_name (i := 4) sc_States__covered.nd rfl (Or.inl rfl)) (pgs_cons (pg_name (i := 5) sc_States__covered.nd rfl (Or.inl rfl)) (pgs_cons (pg_name (i := 6) sc_States__covered.nd rfl (Or.inl rfl)) pgs_nil))))) (fun _ _ _ _ _ => pts_nil) (fun _ _ _ _ _ => (pe_tup (pa_cons (C8.pe_mt K__index hr (by decide) (pv 0) (pa_cons (pv 4) pa_nil)) (pa_cons (C8.pe_mt K__index hr (by decide) (pv 0) (pa_cons (pv 5) pa_nil)) (pa_cons (pv 6) pa_nil))))))))
    (pss_one (ps_ret (C8.pe_mk K_Cover hr (by decide) (by rfl) (pa_cons (C8.pe_c K_of_rows hr (by decide) (by rfl) (pa_cons (pv 2) (pa_cons (pe_callB call_len_seq (by rfl) T.z_len (by decide +kernel) (pa_cons (pe_fld (pv 0) rfl) pa_nil)) pa_nil))) pa_nil))))), ?_⟩
    refine ⟨_, rfl, r, rfl, ⟨_, hr0⟩, fun D nD => lc_tup (xs := rs.map V.ref) (fun j H' => ∃ ls : List Addr, Same H H' ∧ H' D = some (.lst (ls.map V.ref)) ∧ LRows K H' ls ((R.take j).map fun L => L.map (litZ ys)) ∧ ∀ x ∈ ls, x ≠ D) ⟨[], Same.new nD, upd_same, ⟨rfl, fun j q h => (by cases h)⟩, fun x hx => (by cases hx)⟩ (fun j H' _ h => ?_) ?_ ?_⟩
    · obtain ⟨_, S, _⟩ := h
      exact Same.seqT S hr0
    · rintro i x H1 hx ⟨ls, S1, hD, hL, hne⟩
      rw [List.getElem?_map] at hx
      obtain ⟨p, hp, rfl⟩ := Option.map_eq_some_iff.mp hx
      have hi : i < R.length := by
        rw [← hI.1]
        exact (List.getElem?_eq_some_iff.mp hp).1
      have hq := List.getElem?_eq_getElem hi
      obtain ⟨p', h1, ts, h2, h3⟩ := hI.2 i _ hq
      rw [hp] at h1
      cases h1
      obtain ⟨hT1, hT2⟩ := hT _ (List.getElem_mem hi)
      generalize R[i] = L at hq h3 hT1 hT2
      refine ⟨rfl, ?_⟩
      refine ⟨_, rfl, p, rfl, ⟨_, Same.seqT S1 h2⟩, fun D2 nD2 => lc_tup (xs := ts.map V.ref) (fun j H' => Same H1 H' ∧ LitsUp K H' D2 ((L.take j).map (litZ ys))) ⟨Same.new nD2, [], upd_same, LitsZ.nil⟩ (fun j H' _ h => Same.seqT (S1.trans h.1) h2) ?_ ?_⟩
      · rintro j x H2 hx2 ⟨S2, hU⟩
        rw [List.getElem?_map] at hx2
        obtain ⟨t, ht, rfl⟩ := Option.map_eq_some_iff.mp hx2
        have hj : j < L.length := by
          rw [← h3.1]
          exact (List.getElem?_eq_some_iff.mp ht).1
        have hqj := List.getElem?_eq_getElem hj
        obtain ⟨t', g1, g2⟩ := h3.2 j _ hqj
        rw [ht] at g1
        cases g1
        have hTq := hT2 _ (List.getElem_mem hj)
        generalize L[j] = q at hqj g2 hTq
        have S02 := S1.trans S2
        have g2' : SqT K H2 t [.str q.1, .str q.2.1, .int q.2.2] := Same.seqT S02 g2
        have htn2 : Tf.TupAt H2 tn (ys.map V.str) := by
          obtain ⟨ob, z1, z2⟩ := htn
          exact ⟨ob, S02 _ _ z1, z2⟩
        refine ⟨t, _, rfl, g2', rfl, _, _, rfl, _, _, rfl, _, _, rfl, rfl, rfl, ?_⟩
        refine ⟨_, rfl, o, dx, fs, rfl, S02 _ _ ho, hni, _, rfl, o, dx, tn, fs, ys, q.1, rfl, S02 _ _ ho, hn, htn2, hTq.1, ?_⟩
        refine ⟨_, rfl, o, dx, fs, rfl, S02 _ _ ho, hni, _, rfl, o, dx, tn, fs, ys, q.2.1, rfl, S02 _ _ ho, hn, htn2, hTq.2, ?_⟩
        refine ⟨_, rfl, (by show 3 ≤ sizeLine; decide), fun a na => ?_⟩
        have Sa := Same.new (o := HO.tup [.int (ixOf ys q.1 : Nat), .int (ixOf ys q.2.1 : Nat), .int q.2.2]) na
        obtain ⟨acc, z1, z2, z3⟩ := (hU.mono Sa).push (t := a) (q := litZ ys q) (SqT.of upd_same) (by rw [List.length_map, List.length_take]; omega)
        refine ⟨acc, z1, z2, Same.mut (S2.trans Sa) nD2, ?_⟩
        rw [take_snoc hqj, List.map_append]
        exact z3
      · rintro H2 ⟨S2, ts2, hD2, hz⟩
        rw [List.length_map, h3.1, List.take_length] at hz
        have D2D : D2 ≠ D := fun e => by
          rw [e, hD] at nD2
          cases nD2
        have hDh := S2 _ _ hD
        refine ⟨_, hDh, szs (by rw [List.length_map, hL.1, List.length_map, List.length_take]; omega), ls ++ [D2], Same.mut (S1.trans S2) nD, by rw [upd_same, List.map_append]; rfl, ?_, fun x hx => ?_⟩
        · rw [take_snoc hq, List.map_append]
          have := LRows.push (q := L.map (litZ ys)) hDh (hL.mono S2) hne D2D ⟨ts2, SqL.of hD2, hz⟩
          rw [List.map_append] at this
          exact this
        · rcases List.mem_append.mp hx with h | h
          · exact hne x h
          · rw [List.mem_singleton.mp h]
            exact D2D
    · rintro H1 ⟨ls, S1, hD, hL, hne⟩
      rw [List.length_map, hI.1, List.take_length] at hL
      have htn2 : Tf.TupAt H1 tn (ys.map V.str) := by
        obtain ⟨ob, z1, z2⟩ := htn
        exact ⟨ob, S1 _ _ z1, z2⟩
      refine ⟨_, rfl, _, rfl, o, CS, dx, fs, .ref tn, rfl, S1 _ _ ho, T.cS, T.nS.1, hn, tn, _, rfl, .inr htn2.sq, D, ls, ys.length, _, by rw [List.length_map]; rfl, SqL.of hD, hL, fun q hq => ?_, h19, by rw [List.length_map]; exact h300, fun p ps ds H2 S2 hp hP hC hds x dx' nx ndx hxd => ?_⟩
      · obtain ⟨L, hL2, rfl⟩ := List.mem_map.mp hq
        exact ok_lits (hT L hL2).2
      · refine ⟨x, dx', .ref p, rfl, upd_same, rfl, ?_⟩
        have S3 : Same H2 (upd (upd (upd H2 dx' (HO.own x)) x (HO.ins CC dx' [])) x (HO.ins CC dx' [("parts", V.ref p)])) := Same.mut (Same.mut (Same.new ndx) nx) nx
        exact k x ds _ (S1.trans (S2.trans S3)) ⟨dx', p, ps, upd_same, Same.seqT S3 hp, hP.mono S3⟩ hC (by rw [List.length_map] at hds; exact hds)
end
end K18

namespace K18
open PySem L2 Bx
theorem _root_.Tf.TupAt.mono {H H' : Hp} {t : Addr} {xs : List V} (e : Same H H') (h : Tf.TupAt H t xs) : Tf.TupAt H' t xs := by
  obtain ⟨o, h1, h2⟩ := h
  exact ⟨o, e _ _ h1, h2⟩
/-- a set of states: its names, in order, and the zones of its cover -/
def StsAt (K : PySem.W.Frag) (CC CS : Addr) (H : Hp) (o : Addr) (ys : List Str) (ds : List Pt) : Prop := ∃ dx tn c, H o = some (.ins CS dx [("names", .ref tn), ("_cover", .ref c)]) ∧ Tf.TupAt H tn (ys.map V.str) ∧ CoverAt K CC H c (ys.length + 1) ds
theorem StsAt.mono {K : PySem.W.Frag} {CC CS : Addr} {H H' : Hp} {o : Addr} {ys : List Str} {ds : List Pt} (e : Same H H') (h : StsAt K CC CS H o ys ds) : StsAt K CC CS H' o ys ds := by
  obtain ⟨dx, tn, c, h1, h2, h3⟩ := h
  exact ⟨dx, tn, c, e _ _ h1, h2.mono e, h3.mono e⟩
/-- names that a set may have -/
structure NamesOk (ns : List Str) : Prop where
  few : ns.length ≤ 19
  len : ∀ x ∈ ns, x.length ≤ 1000
  lab : ∀ x ∈ ns, labelB x = true
  nd : ns.Nodup
theorem NamesOk.perm {ns ys : List Str} (h : NamesOk ns) (p : ys.Perm ns) : NamesOk ys := ⟨by rw [p.length_eq]; exact h.few, fun x hx => h.len x (p.mem_iff.mp hx), fun x hx => h.lab x (p.mem_iff.mp hx), p.nodup_iff.mpr h.nd⟩
theorem terms_perm {ns ys : List Str} {q : Str × Str × Int} (h : TermsOk ns q) (p : ys.Perm ns) : TermsOk ys q := ⟨h.1.imp id p.mem_iff.mpr, h.2.imp id p.mem_iff.mpr⟩
def KeepT (K : PySem.W.Frag) (H H' : Hp) : Prop := ∀ (a : Addr) (xs : List V), SqT K H a xs → SqT K H' a xs
theorem LitsZ.kt {K : PySem.W.Frag} {H H' : Hp} {ts : List Addr} {qs : List Zn.Lit} (e : KeepT K H H') (h : LitsZ K H ts qs) : LitsZ K H' ts qs := ⟨h.1, fun j q hj => (h.2 j q hj).imp fun t x => ⟨x.1, e _ _ x.2⟩⟩
mutual
theorem IsG.kt {K : PySem.W.Frag} {H H' : Hp} (e : KeepT K H H') : ∀ {g : Addr} {G : Zg.G}, IsG K H g G → IsG K H' g G
  | g, .mk ls gs, h => by
    obtain ⟨a, c, ts, us, h1, h2, h3, h4, h5⟩ := h
    exact ⟨a, c, ts, us, e _ _ h1, e _ _ h2, h3.kt e, e _ _ h4, IsGs.kt e h5⟩
theorem IsGs.kt {K : PySem.W.Frag} {H H' : Hp} (e : KeepT K H H') : ∀ {us : List Addr} {gs : List Zg.G}, IsGs K H us gs → IsGs K H' us gs
  | [], [], _ => trivial
  | u :: us, g :: gs, h => ⟨IsG.kt e h.1, IsGs.kt e h.2⟩
  | [], _ :: _, h => h.elim
  | _ :: _, [], h => h.elim
end
theorem Pts.kt {K : PySem.W.Frag} {H H' : Hp} {m : Nat} {ps : List Addr} {Ps : List Pt} (e : KeepT K H H') (h : Pts K H m ps Ps) : Pts K H' m ps Ps := ⟨h.1, fun j d hj => (h.2 j d hj).imp fun p x => ⟨x.1, by
  obtain ⟨v, c, us, h1, h2, h3, h4⟩ := x.2
  refine ⟨v, c, us, e _ _ h1, ?_, e _ _ h3, h4.kt e⟩
  obtain ⟨o, cs⟩ := d
  cases o with
  | none => exact h2
  | some z0 =>
    obtain ⟨z, rfl, rs, a1, a2, a3⟩ := h2
    exact ⟨z, rfl, rs, e _ _ a1, a2, fun i r hr => e _ _ (a3 i r hr)⟩⟩⟩
/-- States(names, rows), the rows given as rows -/
def spStates (K : PySem.W.Frag) (CC CS : Addr) : Sp := fun vs H Q _ => ∃ (H0 : Hp) (x dx nt rt : Addr) (ns : List Str) (R : List (List (Str × Str × Int))), vs = [.ref x, .ref nt, .ref rt] ∧ H0 x = none ∧ Same H0 H ∧ H x = some (.ins CS dx []) ∧ SqT K H0 nt (ns.map V.str) ∧ NamesOk ns ∧
  RowsAt K H0 rt R ∧ R.length ≤ 300 ∧ (∀ L ∈ R, L.length ≤ 900 ∧ ∀ q ∈ L, TermsOk ns q) ∧
  ∀ ys ds H', ys.Perm ns → ys.Pairwise Sk.LeS → Same H0 H' → StsAt K CC CS H' x ys ds → CovP (ys.length + 1) ds (R.map fun L => L.map (litZ ys)) → ds.length ≤ R.length → Q .non H'
section
variable {P : Program} {w : World} {K : PySem.W.Frag} {mg : Str → Option Value} {base : Heap} {CC CS aB : Addr}
theorem ok_States {f : Addr} {fd : FuncData} (M : Mk K CS f) (F : C8.Fun K "__init__" "States.__init__" s_States_init f fd) (b : Binds K fd ["self", "names", "rows"] []) (T : Txt K mg CC CS aB) (iT : PySem.W.kitOne K (.type "tuple") (.ref CC) = some false) (K_are_labels : C8.Cal P w K mg base 3 "are_labels" (spLabels K) [])
    (K_are_rows : C8.Cal P w K mg base 4 "are_rows" (spRowsOk K) []) (K__covered : C8.Met P w K mg base 78 CS "_covered" (spCovered K CC CS) []) : C8.Mak P w K mg base 79 "States" CS (spStates K CC CS) [] := by
  refine C8.mak0 M T.g_States F b .nil sc_States_init (fun vs H Q E h => ?_) (fun cdv A outer s H vs Q E hr h => ?_)
  · obtain ⟨H0, x, dx, nt, rt, ns, R, rfl, _⟩ := h
    rfl
  · obtain ⟨H0, x, dx, nt, rt, ns, R, rfl, nx, S0, hx, hnt, hN, hR, h300, hT, k⟩ := h
    refine ⟨_, (pss_cons (ps_if (pt_not (pt_val (C8.pe_c K_are_labels hr (by decide) (by rfl) (pa_cons (pv 1) pa_nil)))) pss_never pss_nil)
    (pss_cons (ps_fld (pv 0) (pe_callTy Tf.call_tupleF (by rfl) T.z_tuple (by decide +kernel) (pa_cons (pe_callBK (Sk.cr_sortedStr hr.units) (by rfl) T.z_sorted (by decide +kernel) (pa_cons (pv 1) pa_nil) (pk_cons (pe_bltn (v := .ty "str") (by rfl) T.z_str (by decide +kernel) rfl) pk_nil)) pa_nil)) rfl)
    (pss_one (ps_if (pt_val (pe_callB call_isi (by rfl) T.z_isinstance (by decide +kernel) (pa_cons (pv 2) (pa_cons (pe_glob (v := .ref CC) (by rfl) T.g_Cover rfl) pa_nil)))) (pss_one (ps_fld (pv 0) (pv 2) rfl)) (pss_one (ps_if (pt_val (C8.pe_c K_are_rows hr (by decide) (by rfl) (pa_cons (pv 2) (pa_cons (pv 1) pa_nil)))) (pss_one (ps_fld (pv 0) (C8.pe_mt K__covered hr (by decide) (pv 0) (pa_cons (pv 2) pa_nil)) rfl)) pss_never)))))), ?_⟩
    refine ⟨_, rfl, nt, ns, rfl, Same.seqT S0 hnt, by have := hN.few; omega, hN.len, hN.lab, hN.nd, fun H1 S1 => ⟨_, rfl, iteF ?_⟩⟩
    have S01 := S0.trans S1
    refine ⟨_, rfl, nt, ns, rfl, rfl, Same.seqT S01 hnt, fun ys p hperm hpw np => ⟨p, _, rfl, SqL.of upd_same, fun tn ot ntn ec ed => ?_⟩⟩
    have Sp := S01.trans (Same.new (o := HO.lst (ys.map V.str)) np)
    have Stn := Sp.trans (Same.new (o := HO.frz ot (HO.tup (ys.map V.str))) ntn)
    have hx1 := S1 _ _ hx
    have npx : x ≠ p := fun e => by rw [e, np] at hx1; cases hx1
    have hx2 : upd H1 p (HO.lst (ys.map V.str)) x = some (.ins CS dx []) := by rw [upd_ne npx]; exact hx1
    have ntx : x ≠ tn := fun e => by rw [e, ntn] at hx2; cases hx2
    have hx3 : upd (upd H1 p (HO.lst (ys.map V.str))) tn (HO.frz ot (HO.tup (ys.map V.str))) x = some (.ins CS dx []) := by rw [upd_ne ntx]; exact hx2
    have htn : Tf.TupAt (upd (upd H1 p (HO.lst (ys.map V.str))) tn (HO.frz ot (HO.tup (ys.map V.str)))) tn (ys.map V.str) := ⟨ot, upd_same, ec, ed⟩
    generalize upd (upd H1 p (HO.lst (ys.map V.str))) tn (HO.frz ot (HO.tup (ys.map V.str))) = H2 at Stn hx3 htn
    refine ⟨_, rfl, x, CS, dx, _, rfl, hx3, T.cS, T.nS.1, by decide, ?_⟩
    have S2 : Same H0 (upd H2 x (HO.ins CS dx (putF "names" (V.ref tn) []))) := Same.mut Stn nx
    have htn2 : Tf.TupAt (upd H2 x (HO.ins CS dx (putF "names" (V.ref tn) []))) tn (ys.map V.str) := by
      obtain ⟨o, h1, h2⟩ := htn
      have ne : tn ≠ x := fun e => by rw [e, hx3] at h1; cases h1
      exact ⟨o, by rw [upd_ne ne]; exact h1, h2⟩
    have hx4 : upd H2 x (HO.ins CS dx (putF "names" (V.ref tn) [])) x = some (.ins CS dx [("names", V.ref tn)]) := upd_same
    generalize upd H2 x (HO.ins CS dx (putF "names" (V.ref tn) [])) = H3 at S2 htn2 hx4 ⊢
    have hR3 := hR.mono S2
    obtain ⟨rs, hr0, _⟩ := id hR3
    refine ⟨_, rfl, _, _, _, _, false, rfl, .own CC, tyT hr0, iT, _, rfl, iteF ?_⟩
    refine ⟨_, rfl, _, rfl, rt, nt, ns, R, rfl, hR3, Same.seqT S2 hnt, hT, fun H4 S4 => ⟨_, rfl, iteT ?_⟩⟩
    have S24 := S2.trans S4
    refine ⟨_, rfl, x, dx, _, rfl, S4 _ _ hx4, rfl, _, rfl, x, dx, tn, rt, _, ys, R, rfl, S4 _ _ hx4, rfl, rfl, htn2.mono S4, hR.mono S24, h300, fun L hL => ⟨(hT L hL).1, fun q hq => terms_perm ((hT L hL).2 q hq) hperm⟩, (hN.perm hperm).few, fun c ds H5 S5 hC hcov hds => ?_⟩
    have hx5 := S5 _ _ (S4 _ _ hx4)
    refine ⟨_, rfl, x, CS, dx, _, rfl, hx5, T.cS, T.nS.2, (show 1 < 1000 by decide), ?_⟩
    have ne1 : ∀ (a : Addr) (u : HO), H5 a = some u → (∀ fs, u ≠ .ins CS dx fs) → a ≠ x := fun a u e h z => by
      rw [z, hx5] at e
      cases e
      exact h _ rfl
    have kt : KeepT K H5 (upd H5 x (HO.ins CS dx (putF "_cover" (V.ref c) [("names", V.ref tn)]))) := fun a xs h => by
      rcases h with (h | ⟨o, h⟩) | h
      · exact .inl (.inl (by rw [upd_ne (ne1 a _ h fun _ z => by cases z)]; exact h))
      · exact .inl (.inr ⟨o, by rw [upd_ne (ne1 a _ h fun _ z => by cases z)]; exact h⟩)
      · exact .inr h
    refine k ys ds _ hperm hpw (Same.mut (S24.trans S5) nx) ⟨dx, tn, c, upd_same, ?_, ?_⟩ hcov hds
    · obtain ⟨o, h1, h2⟩ := htn2.mono (S4.trans S5)
      exact ⟨o, by rw [upd_ne (ne1 tn _ h1 fun _ z => by cases z)]; exact h1, h2⟩
    · obtain ⟨dc, p5, ps, h1, h2, h3⟩ := hC
      have nc : c ≠ x := fun e => by
        rw [e, hx5] at h1
        injection h1 with h1
        injection h1 with _ _ h1
        injection h1 with h1 _
        injection h1 with h1 _
        exact absurd h1 (by decide)
      exact ⟨dc, p5, ps, by rw [upd_ne nc]; exact h1, kt _ _ h2, h3.kt kt⟩
/-- the class at C is known as such -/
structure OwnC (K : PySem.W.Frag) (C : Addr) : Prop where
  ha : PySem.W.findIn K (.ref C) "__class__" = some (some (.builtin "object.__class__"))
  hn : PySem.W.specialIn K (.builtin "object.__class__") "__get__" = some (some (.builtin "getset_descriptor.__get__"))
  htk : PySem.W.takesIn K (.builtin "object.__class__") = some true
  hm : PySem.W.mroIn K C (.type "object") = some true
  ki : PySem.W.kitOne K (.ref C) (.ref C) = some true
theorem OwnC.ty {K : PySem.W.Frag} {C : Addr} (O : OwnC K C) (c : Cls K C) {H : Hp} {a dx : Addr} {fs : List (Str × V)} (e : H a = some (.ins C dx fs)) : TyX K H (.ref a) (.ref C) := .base (.ins e c O.ha O.hn O.htk O.hm)
/-- States(names, cover) -/
def spStatesC (K : PySem.W.Frag) (CC CS : Addr) : Sp := fun vs H Q _ => ∃ (H0 : Hp) (x dx nt c : Addr) (ns : List Str) (Ps : List Pt), vs = [.ref x, .ref nt, .ref c] ∧ H0 x = none ∧ Same H0 H ∧ H x = some (.ins CS dx []) ∧ SqT K H0 nt (ns.map V.str) ∧ NamesOk ns ∧ CoverAt K CC H0 c (ns.length + 1) Ps ∧
  ∀ ys H', ys.Perm ns → ys.Pairwise Sk.LeS → Same H0 H' → StsAt K CC CS H' x ys Ps → Q .non H'
theorem ok_StatesC {f : Addr} {fd : FuncData} (M : Mk K CS f) (F : C8.Fun K "__init__" "States.__init__" s_States_init f fd) (b : Binds K fd ["self", "names", "rows"] []) (T : Txt K mg CC CS aB) (oC : OwnC K CC) (K_are_labels : C8.Cal P w K mg base 3 "are_labels" (spLabels K) []) :
    C8.Mak P w K mg base 79 "States" CS (spStatesC K CC CS) [] := by
  refine C8.mak0 M T.g_States F b .nil sc_States_init (fun vs H Q E h => ?_) (fun cdv A outer s H vs Q E hr h => ?_)
  · obtain ⟨H0, x, dx, nt, c, ns, Ps, rfl, _⟩ := h
    rfl
  · obtain ⟨H0, x, dx, nt, c, ns, Ps, rfl, nx, S0, hx, hnt, hN, hC, k⟩ := h
    refine ⟨_, (pss_cons (ps_if (pt_not (pt_val (C8.pe_c K_are_labels hr (by decide) (by rfl) (pa_cons (pv 1) pa_nil)))) pss_never pss_nil)
    (pss_cons (ps_fld (pv 0) (pe_callTy Tf.call_tupleF (by rfl) T.z_tuple (by decide +kernel) (pa_cons (pe_callBK (Sk.cr_sortedStr hr.units) (by rfl) T.z_sorted (by decide +kernel) (pa_cons (pv 1) pa_nil) (pk_cons (pe_bltn (v := .ty "str") (by rfl) T.z_str (by decide +kernel) rfl) pk_nil)) pa_nil)) rfl)
    (pss_one (ps_if (pt_val (pe_callB call_isi (by rfl) T.z_isinstance (by decide +kernel) (pa_cons (pv 2) (pa_cons (pe_glob (v := .ref CC) (by rfl) T.g_Cover rfl) pa_nil)))) (pss_one (ps_fld (pv 0) (pv 2) rfl)) pss_never)))), ?_⟩
    refine ⟨_, rfl, nt, ns, rfl, Same.seqT S0 hnt, by have := hN.few; omega, hN.len, hN.lab, hN.nd, fun H1 S1 => ⟨_, rfl, iteF ?_⟩⟩
    have S01 := S0.trans S1
    refine ⟨_, rfl, nt, ns, rfl, rfl, Same.seqT S01 hnt, fun ys p hperm hpw np => ⟨p, _, rfl, SqL.of upd_same, fun tn ot ntn ec ed => ?_⟩⟩
    have Sp := S01.trans (Same.new (o := HO.lst (ys.map V.str)) np)
    have Stn := Sp.trans (Same.new (o := HO.frz ot (HO.tup (ys.map V.str))) ntn)
    have hx1 := S1 _ _ hx
    have npx : x ≠ p := fun e => by rw [e, np] at hx1; cases hx1
    have hx2 : upd H1 p (HO.lst (ys.map V.str)) x = some (.ins CS dx []) := by rw [upd_ne npx]; exact hx1
    have ntx : x ≠ tn := fun e => by rw [e, ntn] at hx2; cases hx2
    have hx3 : upd (upd H1 p (HO.lst (ys.map V.str))) tn (HO.frz ot (HO.tup (ys.map V.str))) x = some (.ins CS dx []) := by rw [upd_ne ntx]; exact hx2
    have htn : Tf.TupAt (upd (upd H1 p (HO.lst (ys.map V.str))) tn (HO.frz ot (HO.tup (ys.map V.str)))) tn (ys.map V.str) := ⟨ot, upd_same, ec, ed⟩
    generalize upd (upd H1 p (HO.lst (ys.map V.str))) tn (HO.frz ot (HO.tup (ys.map V.str))) = H2 at Stn hx3 htn
    refine ⟨_, rfl, x, CS, dx, _, rfl, hx3, T.cS, T.nS.1, by decide, ?_⟩
    have S2 : Same H0 (upd H2 x (HO.ins CS dx (putF "names" (V.ref tn) []))) := Same.mut Stn nx
    have htn2 : Tf.TupAt (upd H2 x (HO.ins CS dx (putF "names" (V.ref tn) []))) tn (ys.map V.str) := by
      obtain ⟨o, h1, h2⟩ := htn
      have ne : tn ≠ x := fun e => by rw [e, hx3] at h1; cases h1
      exact ⟨o, by rw [upd_ne ne]; exact h1, h2⟩
    have hx4 : upd H2 x (HO.ins CS dx (putF "names" (V.ref tn) [])) x = some (.ins CS dx [("names", V.ref tn)]) := upd_same
    generalize upd H2 x (HO.ins CS dx (putF "names" (V.ref tn) [])) = H3 at S2 htn2 hx4 ⊢
    obtain ⟨dc, p5, ps, h1, h2, h3⟩ := hC.mono S2
    refine ⟨_, rfl, _, _, _, _, true, rfl, .own CC, oC.ty T.cC h1, oC.ki, _, rfl, iteT ?_⟩
    refine ⟨_, rfl, _, rfl, x, CS, dx, _, rfl, hx4, T.cS, T.nS.2, (show 1 < 1000 by decide), ?_⟩
    have ne1 : ∀ (a : Addr) (u : HO), H3 a = some u → (∀ fs, u ≠ .ins CS dx fs) → a ≠ x := fun a u e h z => by
      rw [z, hx4] at e
      cases e
      exact h _ rfl
    have kt : KeepT K H3 (upd H3 x (HO.ins CS dx (putF "_cover" (V.ref c) [("names", V.ref tn)]))) := fun a xs h => by
      rcases h with (h | ⟨o, h⟩) | h
      · exact .inl (.inl (by rw [upd_ne (ne1 a _ h fun _ z => by cases z)]; exact h))
      · exact .inl (.inr ⟨o, by rw [upd_ne (ne1 a _ h fun _ z => by cases z)]; exact h⟩)
      · exact .inr h
    refine k ys _ hperm hpw (Same.mut S2 nx) ⟨dx, tn, c, upd_same, ?_, ?_⟩
    · obtain ⟨o, h1, h2⟩ := htn2
      exact ⟨o, by rw [upd_ne (ne1 tn _ h1 fun _ z => by cases z)]; exact h1, h2⟩
    · have nc : c ≠ x := fun e => by
        rw [e, hx4] at h1
        injection h1 with h1
        injection h1 with _ _ h1
        injection h1 with h1 _
        injection h1 with h1 _
        exact absurd h1 (by decide)
      rw [hperm.length_eq]
      exact ⟨dc, p5, ps, by rw [upd_ne nc]; exact h1, kt _ _ h2, h3.kt kt⟩
end
end K18

namespace K18
open PySem L2 Bx
section
variable {P : Program} {w : World} {K : PySem.W.Frag} {mg : Str → Option Value} {base : Heap} {CC CS aB : Addr}
/-- state in set -/
def spContains (K : PySem.W.Frag) (CC CS : Addr) : Sp := fun vs H Q _ => ∃ (o d : Addr) (ys ks : List Str) (f : Str → Int) (ds : List Pt) (D S : Nat), vs = [.ref o, .ref d] ∧ StsAt K CC CS H o ys ds ∧ (∀ A ∈ ds, Zg.PB (ys.length + 1) D S A) ∧ D ≤ 60 ∧ H d = some (.dK (hk ks f)) ∧ ks.length = ys.length ∧ (∀ x ∈ ys, x ∈ ks) ∧ (∀ x ∈ ys, x ≠ "") ∧ ys.length ≤ 19 ∧ ds.length ≤ 300 ∧
  ∀ (b : Bool) H', Same H H' → (b = true ↔ Zg.InS (ys.length + 1) (xOf ys f) ds) → Q (.bl b) H'
theorem ok_States_contains {f : Addr} {fd : FuncData} (me : Meth K CS "__contains__" f) (F : C8.Fun K "__contains__" "States.__contains__" s_States_contains f fd) (b : Binds K fd ["self", "state"] []) (T : Txt K mg CC CS aB) (K_are_numbers : C8.Cal P w K mg base 2 "are_numbers" (spNumbers K) []) (K_has_state : C8.Cal P w K mg base 64 "has_state" (spHasState K) []) :
    C8.Met P w K mg base 65 CS "__contains__" (spContains K CC CS) [] := by
  refine C8.met0 T.cS me F b sc_States_contains (fun vs H Q E h => ?_) (fun cdv A outer s H vs Q E hr h => ?_)
  · obtain ⟨o, d, ys, ks, f, ds, D, S, rfl, _⟩ := h
    rfl
  · obtain ⟨o, d, ys, ks, f, ds, Dd, Sd, rfl, ho, hPB, hDd, hd, hl, hin, hne, h19, h300, k⟩ := h
    have hu := hu_of hr
    obtain ⟨dx, tn, c, h1, h2, dc, pp, ps, h3, h4, h5⟩ := id ho
    refine ⟨_, (pss_cons (ps_if (pt_not (pt_val (C8.pe_c K_are_numbers hr (by decide) (by rfl) (pa_cons (pv 1) (pa_cons (pe_fld (pv 0) rfl) pa_nil))))) (pss_one (ps_ret pe_bl)) pss_nil)
    (pss_cons (ps_set (i := 2) sc_States_contains.nd rfl (Or.inr rfl) (pe_op op_catS (pe_lst (pa_cons pe_int pa_nil)) (pe_lc (own := [("name", 3)]) (g := gName 3) (tt := tYes) rfl sc_States_contains.nd (pi_tup (pe_fld (pv 0) rfl)) (blkOk_by (own := [("name", 3)]) (N := N_States_contains) (sc := C8.fnScope s_States_contains) (by decide +kernel)) (fun _ _ _ _ _ => (pg_name (i := 3) sc_States_contains.nd rfl (Or.inl rfl))) (fun _ _ _ _ _ => pts_nil) (fun _ _ _ _ _ => (pe_dget hu (pv 1) (pv 3) (fun _ _ => rfl))))))
    (pss_one (ps_ret (pe_callB (cr_any rfl) (by rfl) T.z_any (by decide +kernel) (pa_cons (pe_lc (own := [("part", 4)]) (g := gName 4) (tt := tYes) rfl sc_States_contains.nd (pi_tup (pe_fld (pe_fld (pv 0) rfl) rfl)) (blkOk_by (own := [("part", 4)]) (N := N_States_contains) (sc := C8.fnScope s_States_contains) (by decide +kernel)) (fun _ _ _ _ _ => (pg_name (i := 4) sc_States_contains.nd rfl (Or.inl rfl))) (fun _ _ _ _ _ => pts_nil) (fun _ _ _ _ _ => (C8.pe_c K_has_state hr (by decide) (by rfl) (pa_cons (pv 4) (pa_cons (pv 2) pa_nil))))) pa_nil)))))), ?_⟩
    refine ⟨_, rfl, _, rfl, o, CS, dx, [("names", .ref tn), ("_cover", .ref c)], .ref tn, rfl, h1, T.cS, T.nS.1, rfl, d, tn, ks, ys, f, rfl, hd, h2.sq, hl, by omega, hin, fun H1 S1 => ⟨_, rfl, iteF ?_⟩⟩
    refine ⟨sz (by simp), fun k0 nk0 => ?_⟩
    have Sk := S1.trans (Same.new (o := HO.lst [V.int 0]) nk0)
    refine ⟨_, rfl, o, CS, dx, [("names", .ref tn), ("_cover", .ref c)], .ref tn, rfl, Sk _ _ h1, T.cS, T.nS.1, rfl, tn, rfl, ⟨_, (h2.mono Sk).sq⟩, fun D nD => lc_tup (xs := ys.map V.str) (fun j H' => Same (upd H1 k0 (HO.lst [V.int 0])) H' ∧ H' D = some (.lst ((ys.take j).map fun t => V.int (f t)))) ⟨Same.new nD, upd_same⟩ (fun j H' _ h => (h2.mono (Sk.trans h.1)).sq) ?_ ?_⟩
    · rintro j x H2 hx ⟨S2, hD⟩
      rw [List.getElem?_map] at hx
      obtain ⟨t, ht, rfl⟩ := Option.map_eq_some_iff.mp hx
      have hj := (List.getElem?_eq_some_iff.mp ht).1
      refine ⟨rfl, ?_⟩
      refine ⟨_, rfl, _, rfl, d, .int (f t), rfl, dget_hk ((Sk.trans S2) _ _ hd) (hin t (List.mem_of_getElem? ht)), _, hD, szs (by rw [List.length_map, List.length_take]; omega), Same.mut S2 nD, ?_⟩
      rw [upd_same, take_snoc ht, List.map_append]
      rfl
    rintro H2 ⟨S2, hD⟩
    rw [List.length_map, List.take_length] at hD
    have Sk2 := Sk.trans S2
    have hk0 := S2 _ _ (show upd H1 k0 (HO.lst [V.int 0]) k0 = _ from upd_same)
    have eN : [V.int 0] ++ (ys.map fun t => V.int (f t)) = numsV (xOf ys f) (ys.length + 1) := by
      refine List.ext_getElem? fun i => ?_
      by_cases c : i < ys.length + 1
      · rw [numsV_at c]
        have hm := nm_at c
        cases i with
        | zero => rfl
        | succ i =>
          rw [List.getElem?_cons_succ] at hm
          show (ys.map fun t => V.int (f t))[i]? = _
          rw [List.getElem?_map, hm]
          have hv : xOf ys f (i + 1) = f (nm ys (i + 1)) := if_neg (hne _ (List.mem_of_getElem? hm))
          rw [hv]
          rfl
      · rw [List.getElem?_eq_none (by simp; omega), List.getElem?_eq_none (by rw [numsV_len]; omega)]
    refine ⟨k0, D, _, _, rfl, rfl, SqL.of hk0, SqL.of hD, sz (by simp; omega), fun l nl => ?_⟩
    rw [eN]
    have Sl := Sk2.trans (Same.new (o := HO.lst (numsV (xOf ys f) (ys.length + 1))) nl)
    have hlx : (upd H2 l (HO.lst (numsV (xOf ys f) (ys.length + 1)))) l = some (.lst (numsV (xOf ys f) (ys.length + 1))) := upd_same
    generalize upd H2 l (HO.lst (numsV (xOf ys f) (ys.length + 1))) = H3 at Sl hlx ⊢
    refine ⟨_, rfl, o, CS, dx, [("names", .ref tn), ("_cover", .ref c)], .ref c, rfl, Sl _ _ h1, T.cS, T.nS.2, rfl, c, CC, dc, _, .ref pp, rfl, Sl _ _ h3, T.cC, T.nC, rfl, pp, rfl, ⟨_, Same.seqT Sl h4⟩, fun D2 nD2 => lc_tup (xs := ps.map V.ref) (fun j H' => ∃ bs : List Bool, Same H3 H' ∧ H' D2 = some (.lst (bs.map V.bl)) ∧ bs.length = j ∧ (bs.any id = true ↔ Zg.InS (ys.length + 1) (xOf ys f) (ds.take j))) ⟨[], Same.new nD2, upd_same, rfl, by simp [Zg.InS]⟩ (fun j H' _ h => ?_) ?_ ?_⟩
    · obtain ⟨_, S, _⟩ := h
      exact Same.seqT (Sl.trans S) h4
    · rintro i x H4 hx ⟨bs, S4, hD2, hbl, hb⟩
      rw [List.getElem?_map] at hx
      obtain ⟨p, hp, rfl⟩ := Option.map_eq_some_iff.mp hx
      obtain ⟨B, hB1, hB2⟩ := h5.at_ hp
      have hBm := List.mem_of_getElem? hB1
      have hi := (List.getElem?_eq_some_iff.mp hB1).1
      refine ⟨rfl, ?_⟩
      refine ⟨_, rfl, _, rfl, p, l, _, Dd, Sd, B, xOf ys f, rfl, hB2.mono (Sl.trans S4), hPB B hBm, hDd, SqL.of (S4 _ _ hlx), fun b H5 S5 hbb => ?_⟩
      have hD5 := S5 _ _ hD2
      refine ⟨_, hD5, szs (by rw [List.length_map]; omega), bs ++ [b], Same.mut (S4.trans S5) nD2, by rw [upd_same, List.map_append]; rfl, by simp [hbl], ?_⟩
      rw [take_snoc hB1, List.any_append, Bool.or_eq_true, hb]
      unfold Zg.InS
      simp only [List.mem_append, or_and_right, exists_or, List.mem_singleton, exists_eq_left]
      exact or_congr Iff.rfl (by simpa using hbb)
    · rintro H4 ⟨bs, S4, hD2, hbl, hb⟩
      rw [List.length_map, h5.1, List.take_length] at hb
      exact ⟨D2, bs, rfl, SqL.of hD2, k _ _ (Sl.trans S4) hb⟩
end
end K18

namespace K18
open PySem L2 Bx
section
variable {P : Program} {w : World} {K : PySem.W.Frag} {mg : Str → Option Value} {base : Heap} {CC CS aB : Addr}
/-- is there no state -/
def spEmpty (K : PySem.W.Frag) (CC CS : Addr) : Sp := fun vs H Q _ => ∃ (o : Addr) (ys : List Str) (ds : List Pt), vs = [.ref o] ∧ StsAt K CC CS H o ys ds ∧ Q (.bl ds.isEmpty) H
theorem ok_States_is_empty {f : Addr} {fd : FuncData} (me : Meth K CS "is_empty" f) (F : C8.Fun K "is_empty" "States.is_empty" s_States_is_empty f fd) (b : Binds K fd ["self"] []) (T : Txt K mg CC CS aB) : C8.Met P w K mg base 1 CS "is_empty" (spEmpty K CC CS) [] := by
  refine C8.met0 T.cS me F b sc_States_is_empty (fun vs H Q E h => ?_) (fun cdv A outer s H vs Q E hr h => ?_)
  · obtain ⟨o, ys, ds, rfl, _⟩ := h
    rfl
  · obtain ⟨o, ys, ds, rfl, ⟨dx, tn, c, h1, h2, dc, pp, ps, h3, h4, h5⟩, k⟩ := h
    refine ⟨_, (pss_one (ps_ret (pe_notT (pe_fld (pe_fld (pv 0) rfl) rfl)))), ?_⟩
    refine ⟨_, rfl, o, CS, dx, [("names", .ref tn), ("_cover", .ref c)], .ref c, rfl, h1, T.cS, T.nS.2, rfl, c, CC, dc, _, .ref pp, rfl, h3, T.cC, T.nC, rfl, ?_⟩
    refine ⟨!(ps.map V.ref).isEmpty, .inr (.inl ⟨_, h4, rfl⟩), ?_⟩
    have e : (!(!(ps.map V.ref).isEmpty)) = ds.isEmpty := by
      rw [Bool.not_not]
      have hl := h5.1
      cases ds with
      | nil => cases ps with
        | nil => rfl
        | cons a r => simp at hl
      | cons d r => cases ps with
        | nil => simp at hl
        | cons a r => rfl
    rw [e]
    exact k
end
end K18

namespace K18
open PySem L2 Bx
theorem cut_mem {xs : List V} {lo hi : Option Int} {x : V} (h : x ∈ cutV xs lo hi) : x ∈ xs := by
  unfold cutV at h
  exact List.mem_of_mem_drop (List.mem_of_mem_take h)
theorem dp_strs {K : PySem.W.Frag} {H : Hp} : ∀ xs : List Str, DpAll K H (xs.map V.str) (xs.map PyData.str)
  | [] => .nil
  | x :: xs => .cons (.str _) (dp_strs xs)
theorem shaped_strs {xs : List Str} (h : ∀ x ∈ xs, PyData.strOk x = true) : SeqAt.shaped (.list (xs.map PyData.str)) = true := by
  have h1 : ∀ {C : List Str}, (∀ a ∈ C, PyData.strOk a = true) → PyData.canLayAll0 (C.map PyData.str) = true := by
    intro C
    induction C with
    | nil => intro _; simp [PyData.canLayAll0]
    | cons a C ih => intro h; simp [PyData.canLayAll0, PyData.canLay0, h a List.mem_cons_self, ih fun b hb => h b (List.mem_cons_of_mem _ hb)]
  have h2 : ∀ C : List Str, PyData.depthAll (C.map PyData.str) ≤ 3 := by
    intro C
    induction C with
    | nil => simp [PyData.depthAll]
    | cons a C ih =>
      simp [PyData.depthAll, PyData.depth]
      omega
  unfold SeqAt.shaped
  rw [Bool.and_eq_true, decide_eq_true_eq]
  refine ⟨by simp [PyData.canLay0, h1 h], ?_⟩
  have := h2 xs
  simp [PyData.depth]
  omega
theorem ne_strs {xs : List Str} (h : ∀ x ∈ xs, PyData.strOk x = true) : (!PyData.eqv (.list (xs.map PyData.str)) (.list (xs.map PyData.str))) = false := by
  rw [PySem.SeqAt.eqv_refl _ (SeqAt.canLay_of_shaped (shaped_strs h))]
  rfl
theorem pool_ok : ∀ x ∈ pool, PyData.strOk x = true := by decide +kernel
theorem pool_ne : ∀ x ∈ pool, x ≠ ("" : Str) := by decide +kernel
theorem pool_len : ∀ x ∈ pool, x.length ≤ 1000 := by decide +kernel
theorem pool_names {ns : List Str} (h : ns.length ≤ 19) (hp : ∀ x ∈ ns, x ∈ pool) (nd : ns.Nodup) : NamesOk ns := ⟨h, fun x hx => pool_len x (hp x hx), fun x hx => pool_label x (hp x hx), nd⟩
theorem sorted_same {xs ys : List Str} (p : xs.Perm ys) (nd : ys.Nodup) (h1 : PyProof.Rows.sortedS xs = true) (h2 : ys.Pairwise Sk.LeS) : xs = ys :=
  Tx.same_sorted (Tx.pw_sorted h1) (h2.imp fun {a b} z => Tx.le_iff.mpr z) (p.nodup_iff.mpr nd) nd fun k => p.mem_iff
theorem sorted_two {xs ys : List Str} (p : xs.Perm ys) (nd : ys.Nodup) (h1 : xs.Pairwise Sk.LeS) (h2 : ys.Pairwise Sk.LeS) : xs = ys :=
  Tx.same_sorted (h1.imp fun {a b} z => Tx.le_iff.mpr z) (h2.imp fun {a b} z => Tx.le_iff.mpr z) (p.nodup_iff.mpr nd) nd fun k => p.mem_iff
theorem ite_tC {c : Bool} {v u : V} {σ : L2.St} {H : Hp} {Q : VK} (h : ∀ x, (c = true ∧ x = v ∨ c = false ∧ x = u) → Q x H) : if c = true then tC v σ H Q else tC u σ H Q := by
  cases c with
  | true => exact iteT (h v (.inl ⟨rfl, rfl⟩))
  | false => exact iteF (h u (.inr ⟨rfl, rfl⟩))
theorem eq_tup {xs : List Str} (h : ∀ x ∈ xs, PyData.strOk x = true) : SeqAt.shaped (.tuple (xs.map PyData.str)) = true ∧ (!PyData.eqv (.tuple (xs.map PyData.str)) (.tuple (xs.map PyData.str))) = false := by
  have h1 := shaped_strs h
  have h2 : SeqAt.shaped (.tuple (xs.map PyData.str)) = true := by
    unfold SeqAt.shaped at h1 ⊢
    simpa [PyData.canLay0, PyData.depth] using h1
  refine ⟨h2, ?_⟩
  rw [PySem.SeqAt.eqv_refl _ (SeqAt.canLay_of_shaped h2)]
  rfl
theorem cov_in {ys : List Str} {Ps : List Pt} {R : List (List (Str × Str × Int))} (hT : ∀ L ∈ R, ∀ q ∈ L, TermsOk ys q) (C : CovP (ys.length + 1) Ps (R.map fun L => L.map (litZ ys))) (f : Str → Int) : Zg.InS (ys.length + 1) (xOf ys f) Ps ↔ inB f R = true := by
  rw [C.st]
  unfold inB
  rw [List.any_eq_true]
  constructor
  · rintro ⟨q, hq, hA⟩
    obtain ⟨L, hL, rfl⟩ := List.mem_map.mp hq
    exact ⟨L, hL, (all_lits (hT L hL)).mp hA⟩
  · rintro ⟨L, hL, hm⟩
    exact ⟨_, List.mem_map.mpr ⟨L, hL, rfl⟩, (all_lits (hT L hL)).mpr hm⟩
/-- names in order, as a set keeps them -/
structure Nys (ys : List Str) : Prop where
  ok : NamesOk ys
  pw : ys.Pairwise Sk.LeS
  so : ∀ x ∈ ys, PyData.strOk x = true
section
variable {P : Program} {w : World} {K : PySem.W.Frag} {mg : Str → Option Value} {base : Heap} {CC CS aB : Addr}
def spAlike (K : PySem.W.Frag) (CC CS : Addr) : Sp := fun vs H Q _ => ∃ (a_ b_ : Addr) (ys : List Str) (Ps Os : List Pt), vs = [.ref a_, .ref b_] ∧ StsAt K CC CS H a_ ys Ps ∧ StsAt K CC CS H b_ ys Os ∧ (∀ x ∈ ys, PyData.strOk x = true) ∧ Q .non H
theorem ok_check_alike {f : Addr} {fd : FuncData} (F : C8.Def K mg "check_alike" s_check_alike f fd) (b : Binds K fd ["one", "other"] []) (T : Txt K mg CC CS aB) : C8.Cal P w K mg base 1 "check_alike" (spAlike K CC CS) [] := by
  refine C8.cal0 F b .nil sc_check_alike (fun vs H Q E h => ?_) (fun cdv A outer s H vs Q E hr h => ?_)
  · obtain ⟨a_, b_, ys, Ps, Os, rfl, _⟩ := h
    rfl
  obtain ⟨a_, b_, ys, Ps, Os, rfl, ⟨dx, tn, c, h1, h2, h3⟩, ⟨dx', tn', c', h1', h2', h3'⟩, hso, k⟩ := h
  refine ⟨_, (pss_one (ps_if (pt_cmpR (op_neD hr.units) (pe_fld (pv 0) rfl) (pe_fld (pv 1) rfl) (nomark _)) pss_never pss_nil)), ?_⟩
  obtain ⟨e1, e2⟩ := eq_tup hso
  refine ⟨_, rfl, a_, CS, dx, [("names", .ref tn), ("_cover", .ref c)], .ref tn, rfl, h1, T.cS, T.nS.1, rfl, _, rfl, b_, CS, dx', [("names", .ref tn'), ("_cover", .ref c')], .ref tn', rfl, h1', T.cS, T.nS.1, rfl, ?_⟩
  refine ⟨.tuple (ys.map PyData.str), .tuple (ys.map PyData.str), .tup h2.sq (dp_strs ys), .tup h2'.sq (dp_strs ys), e1, e1, _, rfl, ?_⟩
  exact iteFe e2 k
def spAnd (K : PySem.W.Frag) (CC CS : Addr) : Sp := fun vs H Q _ => ∃ (a_ b_ : Addr) (ys : List Str) (D S N : Nat) (Ps Os : List Pt), vs = [.ref a_, .ref b_] ∧ StsAt K CC CS H a_ ys Ps ∧ StsAt K CC CS H b_ ys Os ∧ Nys ys ∧ (∀ A ∈ Ps, Zg.PB (ys.length + 1) D S A) ∧ (∀ A ∈ Os, Zg.PB (ys.length + 1) D S A) ∧ Ps.length ≤ N ∧ Os.length ≤ N ∧ D ≤ 50 ∧ N ≤ 300 ∧ S + (1 + N * (1 + 2 * ((ys.length + 1) * (ys.length + 1)) + S)) ≤ 1000 ∧
  ∀ r Es H', Same H H' → StsAt K CC CS H' r ys Es → (∀ E ∈ Es, Zg.PB (ys.length + 1) (D + 2) (S + (1 + N * (1 + 2 * ((ys.length + 1) * (ys.length + 1)) + S))) E) → Es.length ≤ N → (∀ x, Zg.InS (ys.length + 1) x Es ↔ Zg.InS (ys.length + 1) x Ps ∧ Zg.InS (ys.length + 1) x Os) → Q (.ref r) H'
theorem ok_States_and {f : Addr} {fd : FuncData} (me : Meth K CS "__and__" f) (F : C8.Fun K "__and__" "States.__and__" s_States_and f fd) (b : Binds K fd ["self", "other"] []) (T : Txt K mg CC CS aB) (oS : OwnC K CS) (K_check_alike : C8.Cal P w K mg base 1 "check_alike" (spAlike K CC CS) []) (K_both : C8.Cal P w K mg base 79 "both" (spBoth K) [])
    (K_Cover : C8.Mak P w K mg base 1 "Cover" CC (spCover CC) []) (K_States : C8.Mak P w K mg base 79 "States" CS (spStatesC K CC CS) []) : C8.Met P w K mg base 81 CS "__and__" (spAnd K CC CS) [] := by
  refine C8.met0 T.cS me F b sc_States_and (fun vs H Q E h => ?_) (fun cdv A outer s H vs Q E hr h => ?_)
  · obtain ⟨a_, b_, ys, D, S, N, Ps, Os, rfl, _⟩ := h
    rfl
  obtain ⟨a_, b_, ys, D, S, N, Ps, Os, rfl, hA, hB, hY, hPB, hOB, hPl, hOl, hD, hN, hSS, k⟩ := h
  have h19 := hY.ok.few
  obtain ⟨dx, tn, c, h1, h2, dc, pp, ps, h3, hps, hPs⟩ := id hA
  obtain ⟨dx', tn', c', h1', h2', dc', pq, qs, h3', hqs, hOs⟩ := id hB
  refine ⟨_, (pss_cons (ps_if (pt_not (pt_val (pe_callB call_isi (by rfl) T.z_isinstance (by decide +kernel) (pa_cons (pv 1) (pa_cons (pe_glob (v := .ref CS) (by rfl) T.g_States rfl) pa_nil))))) pss_never pss_nil)
    (pss_cons (ps_expr (C8.pe_c K_check_alike hr (by decide) (by rfl) (pa_cons (pv 0) (pa_cons (pv 1) pa_nil))))
    (pss_one (ps_ret (C8.pe_mk K_States hr (by decide) (by rfl) (pa_cons (pe_fld (pv 0) rfl) (pa_cons (C8.pe_mk K_Cover hr (by decide) (by rfl) (pa_cons (C8.pe_c K_both hr (by decide) (by rfl) (pa_cons (pe_fld (pe_fld (pv 0) rfl) rfl) (pa_cons (pe_fld (pe_fld (pv 1) rfl) rfl) pa_nil))) pa_nil)) pa_nil))))))), ?_⟩
  refine ⟨_, rfl, _, _, _, _, true, rfl, .own CS, oS.ty T.cS h1', oS.ki, _, rfl, iteF ?_⟩
  refine ⟨_, rfl, _, rfl, a_, b_, ys, Ps, Os, rfl, hA, hB, hY.so, ?_⟩
  refine ⟨_, rfl, a_, CS, dx, [("names", .ref tn), ("_cover", .ref c)], .ref tn, rfl, h1, T.cS, T.nS.1, rfl, ?_⟩
  refine ⟨_, rfl, a_, CS, dx, [("names", .ref tn), ("_cover", .ref c)], .ref c, rfl, h1, T.cS, T.nS.2, rfl, c, CC, dc, _, .ref pp, rfl, h3, T.cC, T.nC, rfl, ?_⟩
  refine ⟨_, rfl, b_, CS, dx', [("names", .ref tn'), ("_cover", .ref c')], .ref c', rfl, h1', T.cS, T.nS.2, rfl, c', CC, dc', _, .ref pq, rfl, h3', T.cC, T.nC, rfl, ?_⟩
  refine ⟨pp, pq, ps, qs, ys.length + 1, D, S, N, Ps, Os, rfl, hps, hPs, hPB, hqs, hOs, hOB, hD, by omega, by omega, hPl, hOl, hN, hSS, fun p rs Es H1 S1 hp hE hEB hEl hst => ?_⟩
  intro x dx2 nx ndx hxd
  refine ⟨x, dx2, .ref p, rfl, upd_same, rfl, ?_⟩
  have S2 : Same H1 (upd (upd (upd H1 dx2 (HO.own x)) x (HO.ins CC dx2 [])) x (HO.ins CC dx2 [("parts", V.ref p)])) := Same.mut (Same.mut (Same.new ndx) nx) nx
  have hcov : CoverAt K CC (upd (upd (upd H1 dx2 (HO.own x)) x (HO.ins CC dx2 [])) x (HO.ins CC dx2 [("parts", V.ref p)])) x (ys.length + 1) Es := ⟨dx2, p, rs, upd_same, Same.seqT S2 hp, hE.mono S2⟩
  have S12 := S1.trans S2
  generalize upd (upd (upd H1 dx2 (HO.own x)) x (HO.ins CC dx2 [])) x (HO.ins CC dx2 [("parts", V.ref p)]) = H2 at S12 hcov
  intro o do_ no nd hne
  refine ⟨H2, o, do_, tn, x, ys, Es, rfl, no, Same.mut (Same.new nd) no, upd_same, (h2.mono S12).sq, hY.ok, hcov, fun zs H3 hperm hpw S3 hsts => ⟨rfl, ?_⟩⟩
  have e := sorted_two hperm hY.ok.nd hpw hY.pw
  subst e
  exact k o Es H3 (S12.trans S3) hsts hEB hEl hst
def spSub (K : PySem.W.Frag) (CC CS : Addr) : Sp := fun vs H Q _ => ∃ (a_ b_ : Addr) (ys : List Str) (D S N : Nat) (Ps Os : List Pt), vs = [.ref a_, .ref b_] ∧ StsAt K CC CS H a_ ys Ps ∧ StsAt K CC CS H b_ ys Os ∧ Nys ys ∧ (∀ A ∈ Ps, Zg.PB (ys.length + 1) D S A) ∧ (∀ A ∈ Os, Zg.PB (ys.length + 1) D S A) ∧ Ps.length ≤ N ∧ Os.length ≤ N ∧ D ≤ 50 ∧ N ≤ 300 ∧ S + N * (1 + 2 * ((ys.length + 1) * (ys.length + 1)) + S) ≤ 1000 ∧
  ∀ r Es H', Same H H' → StsAt K CC CS H' r ys Es → (∀ E ∈ Es, Zg.PB (ys.length + 1) (D + 1) (S + N * (1 + 2 * ((ys.length + 1) * (ys.length + 1)) + S)) E) → Es.length ≤ Ps.length → (∀ x, Zg.InS (ys.length + 1) x Es ↔ Zg.InS (ys.length + 1) x Ps ∧ ¬ Zg.InS (ys.length + 1) x Os) → Q (.ref r) H'
theorem ok_States_sub {f : Addr} {fd : FuncData} (me : Meth K CS "__sub__" f) (F : C8.Fun K "__sub__" "States.__sub__" s_States_sub f fd) (b : Binds K fd ["self", "other"] []) (T : Txt K mg CC CS aB) (oS : OwnC K CS) (K_check_alike : C8.Cal P w K mg base 1 "check_alike" (spAlike K CC CS) []) (K_less : C8.Cal P w K mg base 78 "less" (spLess K) [])
    (K_Cover : C8.Mak P w K mg base 1 "Cover" CC (spCover CC) []) (K_States : C8.Mak P w K mg base 79 "States" CS (spStatesC K CC CS) []) : C8.Met P w K mg base 81 CS "__sub__" (spSub K CC CS) [] := by
  refine C8.met0 T.cS me F b sc_States_sub (fun vs H Q E h => ?_) (fun cdv A outer s H vs Q E hr h => ?_)
  · obtain ⟨a_, b_, ys, D, S, N, Ps, Os, rfl, _⟩ := h
    rfl
  obtain ⟨a_, b_, ys, D, S, N, Ps, Os, rfl, hA, hB, hY, hPB, hOB, hPl, hOl, hD, hN, hSS, k⟩ := h
  have h19 := hY.ok.few
  obtain ⟨dx, tn, c, h1, h2, dc, pp, ps, h3, hps, hPs⟩ := id hA
  obtain ⟨dx', tn', c', h1', h2', dc', pq, qs, h3', hqs, hOs⟩ := id hB
  refine ⟨_, (pss_cons (ps_if (pt_not (pt_val (pe_callB call_isi (by rfl) T.z_isinstance (by decide +kernel) (pa_cons (pv 1) (pa_cons (pe_glob (v := .ref CS) (by rfl) T.g_States rfl) pa_nil))))) pss_never pss_nil)
    (pss_cons (ps_expr (C8.pe_c K_check_alike hr (by decide) (by rfl) (pa_cons (pv 0) (pa_cons (pv 1) pa_nil))))
    (pss_one (ps_ret (C8.pe_mk K_States hr (by decide) (by rfl) (pa_cons (pe_fld (pv 0) rfl) (pa_cons (C8.pe_mk K_Cover hr (by decide) (by rfl) (pa_cons (C8.pe_c K_less hr (by decide) (by rfl) (pa_cons (pe_fld (pe_fld (pv 0) rfl) rfl) (pa_cons (pe_fld (pe_fld (pv 1) rfl) rfl) pa_nil))) pa_nil)) pa_nil))))))), ?_⟩
  refine ⟨_, rfl, _, _, _, _, true, rfl, .own CS, oS.ty T.cS h1', oS.ki, _, rfl, iteF ?_⟩
  refine ⟨_, rfl, _, rfl, a_, b_, ys, Ps, Os, rfl, hA, hB, hY.so, ?_⟩
  refine ⟨_, rfl, a_, CS, dx, [("names", .ref tn), ("_cover", .ref c)], .ref tn, rfl, h1, T.cS, T.nS.1, rfl, ?_⟩
  refine ⟨_, rfl, a_, CS, dx, [("names", .ref tn), ("_cover", .ref c)], .ref c, rfl, h1, T.cS, T.nS.2, rfl, c, CC, dc, _, .ref pp, rfl, h3, T.cC, T.nC, rfl, ?_⟩
  refine ⟨_, rfl, b_, CS, dx', [("names", .ref tn'), ("_cover", .ref c')], .ref c', rfl, h1', T.cS, T.nS.2, rfl, c', CC, dc', _, .ref pq, rfl, h3', T.cC, T.nC, rfl, ?_⟩
  refine ⟨pp, pq, ps, qs, ys.length + 1, D, S, N, Ps, Os, rfl, hps, hPs, hPB, hqs, hOs, hOB, hD, by omega, by omega, hPl, hOl, hN, hSS, fun p rs Es H1 S1 hp hE hEB hEl hst => ?_⟩
  intro x dx2 nx ndx hxd
  refine ⟨x, dx2, .ref p, rfl, upd_same, rfl, ?_⟩
  have S2 : Same H1 (upd (upd (upd H1 dx2 (HO.own x)) x (HO.ins CC dx2 [])) x (HO.ins CC dx2 [("parts", V.ref p)])) := Same.mut (Same.mut (Same.new ndx) nx) nx
  have hcov : CoverAt K CC (upd (upd (upd H1 dx2 (HO.own x)) x (HO.ins CC dx2 [])) x (HO.ins CC dx2 [("parts", V.ref p)])) x (ys.length + 1) Es := ⟨dx2, p, rs, upd_same, Same.seqT S2 hp, hE.mono S2⟩
  have S12 := S1.trans S2
  generalize upd (upd (upd H1 dx2 (HO.own x)) x (HO.ins CC dx2 [])) x (HO.ins CC dx2 [("parts", V.ref p)]) = H2 at S12 hcov
  intro o do_ no nd hne
  refine ⟨H2, o, do_, tn, x, ys, Es, rfl, no, Same.mut (Same.new nd) no, upd_same, (h2.mono S12).sq, hY.ok, hcov, fun zs H3 hperm hpw S3 hsts => ⟨rfl, ?_⟩⟩
  have e := sorted_two hperm hY.ok.nd hpw hY.pw
  subst e
  exact k o Es H3 (S12.trans S3) hsts hEB hEl hst
def spOr (K : PySem.W.Frag) (CC CS : Addr) : Sp := fun vs H Q _ => ∃ (a_ b_ : Addr) (ys : List Str) (D S N : Nat) (Ps Os : List Pt), vs = [.ref a_, .ref b_] ∧ StsAt K CC CS H a_ ys Ps ∧ StsAt K CC CS H b_ ys Os ∧ Nys ys ∧ (∀ A ∈ Ps, Zg.PB (ys.length + 1) D S A) ∧ (∀ A ∈ Os, Zg.PB (ys.length + 1) D S A) ∧ Ps.length ≤ N ∧ Os.length ≤ N ∧ D ≤ 60 ∧ N ≤ 300 ∧ S ≤ 90000 ∧
  ∀ r Es H', Same H H' → StsAt K CC CS H' r ys Es → (∀ E ∈ Es, Zg.PB (ys.length + 1) D S E) → Es.length ≤ Ps.length + Os.length → (∀ x, Zg.InS (ys.length + 1) x Es ↔ Zg.InS (ys.length + 1) x Ps ∨ Zg.InS (ys.length + 1) x Os) → Q (.ref r) H'
theorem ok_States_or {f : Addr} {fd : FuncData} (me : Meth K CS "__or__" f) (F : C8.Fun K "__or__" "States.__or__" s_States_or f fd) (b : Binds K fd ["self", "other"] []) (T : Txt K mg CC CS aB) (oS : OwnC K CS) (K_check_alike : C8.Cal P w K mg base 1 "check_alike" (spAlike K CC CS) []) (K_either : C8.Cal P w K mg base 76 "either" (spEither K) [])
    (K_Cover : C8.Mak P w K mg base 1 "Cover" CC (spCover CC) []) (K_States : C8.Mak P w K mg base 79 "States" CS (spStatesC K CC CS) []) : C8.Met P w K mg base 81 CS "__or__" (spOr K CC CS) [] := by
  refine C8.met0 T.cS me F b sc_States_or (fun vs H Q E h => ?_) (fun cdv A outer s H vs Q E hr h => ?_)
  · obtain ⟨a_, b_, ys, D, S, N, Ps, Os, rfl, _⟩ := h
    rfl
  obtain ⟨a_, b_, ys, D, S, N, Ps, Os, rfl, hA, hB, hY, hPB, hOB, hPl, hOl, hD, hN, hSS, k⟩ := h
  have h19 := hY.ok.few
  obtain ⟨dx, tn, c, h1, h2, dc, pp, ps, h3, hps, hPs⟩ := id hA
  obtain ⟨dx', tn', c', h1', h2', dc', pq, qs, h3', hqs, hOs⟩ := id hB
  refine ⟨_, (pss_cons (ps_if (pt_not (pt_val (pe_callB call_isi (by rfl) T.z_isinstance (by decide +kernel) (pa_cons (pv 1) (pa_cons (pe_glob (v := .ref CS) (by rfl) T.g_States rfl) pa_nil))))) pss_never pss_nil)
    (pss_cons (ps_expr (C8.pe_c K_check_alike hr (by decide) (by rfl) (pa_cons (pv 0) (pa_cons (pv 1) pa_nil))))
    (pss_one (ps_ret (C8.pe_mk K_States hr (by decide) (by rfl) (pa_cons (pe_fld (pv 0) rfl) (pa_cons (C8.pe_mk K_Cover hr (by decide) (by rfl) (pa_cons (C8.pe_c K_either hr (by decide) (by rfl) (pa_cons (pe_fld (pe_fld (pv 0) rfl) rfl) (pa_cons (pe_fld (pe_fld (pv 1) rfl) rfl) pa_nil))) pa_nil)) pa_nil))))))), ?_⟩
  refine ⟨_, rfl, _, _, _, _, true, rfl, .own CS, oS.ty T.cS h1', oS.ki, _, rfl, iteF ?_⟩
  refine ⟨_, rfl, _, rfl, a_, b_, ys, Ps, Os, rfl, hA, hB, hY.so, ?_⟩
  refine ⟨_, rfl, a_, CS, dx, [("names", .ref tn), ("_cover", .ref c)], .ref tn, rfl, h1, T.cS, T.nS.1, rfl, ?_⟩
  refine ⟨_, rfl, a_, CS, dx, [("names", .ref tn), ("_cover", .ref c)], .ref c, rfl, h1, T.cS, T.nS.2, rfl, c, CC, dc, _, .ref pp, rfl, h3, T.cC, T.nC, rfl, ?_⟩
  refine ⟨_, rfl, b_, CS, dx', [("names", .ref tn'), ("_cover", .ref c')], .ref c', rfl, h1', T.cS, T.nS.2, rfl, c', CC, dc', _, .ref pq, rfl, h3', T.cC, T.nC, rfl, ?_⟩
  refine ⟨pp, pq, ps, qs, ys.length + 1, D, S, Ps, Os, rfl, hps, hPs, hPB, hqs, hOs, hOB, hD, hSS, by omega, by omega, by omega, fun p rs Es H1 S1 hp hE hEB hEl hst => ?_⟩
  intro x dx2 nx ndx hxd
  refine ⟨x, dx2, .ref p, rfl, upd_same, rfl, ?_⟩
  have S2 : Same H1 (upd (upd (upd H1 dx2 (HO.own x)) x (HO.ins CC dx2 [])) x (HO.ins CC dx2 [("parts", V.ref p)])) := Same.mut (Same.mut (Same.new ndx) nx) nx
  have hcov : CoverAt K CC (upd (upd (upd H1 dx2 (HO.own x)) x (HO.ins CC dx2 [])) x (HO.ins CC dx2 [("parts", V.ref p)])) x (ys.length + 1) Es := ⟨dx2, p, rs, upd_same, Same.seqT S2 hp, hE.mono S2⟩
  have S12 := S1.trans S2
  generalize upd (upd (upd H1 dx2 (HO.own x)) x (HO.ins CC dx2 [])) x (HO.ins CC dx2 [("parts", V.ref p)]) = H2 at S12 hcov
  intro o do_ no nd hne
  refine ⟨H2, o, do_, tn, x, ys, Es, rfl, no, Same.mut (Same.new nd) no, upd_same, (h2.mono S12).sq, hY.ok, hcov, fun zs H3 hperm hpw S3 hsts => ⟨rfl, ?_⟩⟩
  have e := sorted_two hperm hY.ok.nd hpw hY.pw
  subst e
  exact k o Es H3 (S12.trans S3) hsts hEB hEl hst
end
end K18

namespace K18
open PySem L2 Bx
section
variable {P : Program} {w : World} {K : PySem.W.Frag} {mg : Str → Option Value} {base : Heap} {CC CS aB : Addr}
def spInOneT (K : PySem.W.Frag) : Sp := fun vs H Q _ => ∃ (p l : Addr) (ps : List Addr) (m D S : Nat) (A : Pt) (Bs : List Pt), vs = [.ref p, .ref l] ∧ IsPt K H m p A ∧ Zg.PB m D S A ∧ SqT K H l (ps.map V.ref) ∧ Pts K H m ps Bs ∧ (∀ B ∈ Bs, Zg.PB m D S B) ∧ D ≤ 60 ∧ S ≤ 90000 ∧
  ∀ (b : Bool) H', Same H H' → (b = true → ∃ B ∈ Bs, ∀ x, Zg.In m x A → Zg.In m x B) → Q (.bl b) H'
theorem ok_is_inside_oneT {f : Addr} {fd : FuncData} (F : C8.Def K mg "is_inside_one" s_is_inside_one f fd) (b : Binds K fd ["part", "others"] []) (T : Txt K mg CC CS aB) (K_is_part_inside : C8.Cal P w K mg base 74 "is_part_inside" (spPartIn K) []) :
    C8.Cal P w K mg base 75 "is_inside_one" (spInOneT K) [] := by
  refine C8.cal0 F b .nil sc_is_inside_one (fun vs H Q E h => ?_) (fun cdv A outer s H vs Q E hr h => ?_)
  · obtain ⟨p, l, ps, m, D, S, A, Bs, rfl, _⟩ := h
    rfl
  obtain ⟨p, l, ps, m, D, S, A, Bs, rfl, hp, hA, hl, hP, hB, hD, hS, k⟩ := h
  refine ⟨_, (pss_cons (ps_for PassesOwn.never rfl (pi_tup (pv 1)) (pg_name (i := 2) sc_is_inside_one.nd rfl (Or.inl rfl))
    (pss_one (ps_if (pt_val (C8.pe_c K_is_part_inside hr (by decide) (by rfl) (pa_cons (pv 0) (pa_cons (pv 2) pa_nil)))) (pss_one (ps_ret pe_bl)) pss_nil)))
    (pss_one (ps_ret pe_bl))), ?_⟩
  refine ⟨_, rfl, l, rfl, ⟨_, hl⟩, for_tup (xs := ps.map V.ref) (fun i σ H' => ∃ v2, σ = [some (.ref p), some (.ref l), v2] ∧ Same H H') ⟨none, rfl, Same.refl H⟩ (fun i σ H' _ h => ?_) ?_ ?_⟩
  · obtain ⟨_, _, S⟩ := h
    exact Same.seqT S hl
  · rintro i x σ H1 hx ⟨v2, rfl, S1⟩
    rw [List.getElem?_map] at hx
    obtain ⟨q, hq, rfl⟩ := Option.map_eq_some_iff.mp hx
    obtain ⟨B, hB1, hB2⟩ := hP.at_ hq
    have hm := List.mem_of_getElem? hB1
    refine ⟨_, rfl, _, rfl, p, q, m, D, S, A, B, rfl, hp.mono S1, hB2.mono S1, hA, hB B hm, hD, hS, fun b H2 S2 hb => ⟨_, rfl, ?_⟩⟩
    cases b with
    | true => exact iteT (k true H2 (S1.trans S2) fun _ => ⟨B, hm, hb rfl⟩)
    | false => exact iteF ⟨_, rfl, S1.trans S2⟩
  · rintro σ H1 ⟨v2, rfl, S1⟩
    exact k false H1 S1 fun y => by cases y
def Tells (m : Nat) (Ps Os : List Pt) (b : Bool) : Prop := (b = true → ∀ x, Zg.InS m x Ps → Zg.InS m x Os) ∧ (b = false → ∃ x : Nat → Int, x 0 = 0 ∧ Zg.InS m x Ps ∧ ¬ Zg.InS m x Os)
def spSub2 (K : PySem.W.Frag) : Sp := fun vs H Q _ => ∃ (a_ b_ : Addr) (ps qs : List Addr) (m D S N : Nat) (Ps Os : List Pt), vs = [.ref a_, .ref b_] ∧ SqT K H a_ (ps.map V.ref) ∧ Pts K H m ps Ps ∧ (∀ A ∈ Ps, Zg.PB m D S A) ∧ SqT K H b_ (qs.map V.ref) ∧ Pts K H m qs Os ∧ (∀ A ∈ Os, Zg.PB m D S A) ∧ D ≤ 50 ∧ 0 < m ∧ m ≤ 20 ∧ Ps.length ≤ N ∧ Os.length ≤ N ∧ N ≤ 300 ∧ S + N * (1 + 2 * (m * m) + S) ≤ 4000 ∧
  ∀ (b : Bool) H', Same H H' → Tells m Ps Os b → Q (.bl b) H'
theorem ok_are_inside {f : Addr} {fd : FuncData} (F : C8.Def K mg "are_inside" s_are_inside f fd) (b : Binds K fd ["parts", "others"] []) (T : Txt K mg CC CS aB) (K_is_inside_oneT : C8.Cal P w K mg base 75 "is_inside_one" (spInOneT K) []) (K_denied : C8.Cal P w K mg base 74 "denied" (spDenied K 72) []) (K_case_of : C8.Cal P w K mg base 4 "case_of" (spCaseOf K) []) (K_free_zone : C8.Cal P w K mg base 76 "free_zone" (spFreeZone K) []) :
    C8.Cal P w K mg base 77 "are_inside" (spSub2 K) [] := by
  refine C8.cal0 F b .nil sc_are_inside (fun vs H Q E h => ?_) (fun cdv A outer s H vs Q E hr h => ?_)
  · obtain ⟨a_, b_, ps, qs, m, D, S, N, Ps, Os, rfl, _⟩ := h
    rfl
  obtain ⟨a_, b_, ps, qs, m, D, S, N, Ps, Os, rfl, ha, hP, hPB, hb, hO, hOB, hD, hm0, hm, hPl, hOl, hN, hSS, k⟩ := h
  have hmm : m * m ≤ 20 * 20 := Nat.mul_le_mul hm hm
  refine ⟨_, (pss_cons (ps_if (pt_cmpR op_le (pe_op op_mul (pe_callB call_len_seq (by rfl) T.z_len (by decide +kernel) (pa_cons (pv 0) pa_nil)) (pe_callB call_len_seq (by rfl) T.z_len (by decide +kernel) (pa_cons (pv 1) pa_nil))) (C8.pe_gc (by rfl) T.c_MOST_PAIRS) (nomark _)) (pss_one (ps_setLc (i := 0) (own := [("part", 5)]) (g := gName 5) rfl sc_are_inside.nd rfl rfl (sw_true rfl rfl rfl (by decide +kernel)) (pi_tup (pv 0)) (blkOk_by (own := [("part", 5)]) (N := N_are_inside) (sc := C8.fnScope s_are_inside) (by decide +kernel)) (fun _ _ _ _ _ => (pg_name (i := 5) sc_are_inside.nd rfl (Or.inl rfl))) (fun _ _ _ _ _ => (pts_one (pt_not (pt_val (C8.pe_c K_is_inside_oneT hr (by decide) (by rfl) (pa_cons (pv 5) (pa_cons (pv 1) pa_nil))))))) (fun _ _ _ _ _ => (pv 5)))) pss_nil)
    (pss_cons (ps_if (pt_not (pt_truth (pv 0) (by intro _; rfl))) (pss_one (ps_ret pe_bl)) pss_nil)
    (pss_cons (ps_set (i := 2) sc_are_inside.nd rfl (Or.inl rfl) (pe_callTy call_tuple_of (by rfl) T.z_tuple (by decide +kernel) (pa_cons (pe_lc (own := [("other", 6)]) (g := gName 6) (tt := tYes) rfl sc_are_inside.nd (pi_tup (pv 1)) (blkOk_by (own := [("other", 6)]) (N := N_are_inside) (sc := C8.fnScope s_are_inside) (by decide +kernel)) (fun _ _ _ _ _ => (pg_name (i := 6) sc_are_inside.nd rfl (Or.inl rfl))) (fun _ _ _ _ _ => pts_nil) (fun _ _ _ _ _ => (C8.pe_c K_denied hr (by decide) (by rfl) (pa_cons (C8.pe_c K_case_of hr (by decide) (by rfl) (pa_cons (pv 6) pa_nil)) pa_nil)))) pa_nil)))
    (pss_cons (ps_for PassesOwn.never rfl (pi_list (pv 0)) (pg_tup (by rfl) (pgs_cons (pg_name (i := 3) sc_are_inside.nd rfl (Or.inl rfl)) (pgs_cons (pg_name (i := 4) sc_are_inside.nd rfl (Or.inl rfl)) pgs_nil)))
    (pss_one (ps_if (pt_cmpR op_notN (C8.pe_c K_free_zone hr (by decide) (by rfl) (pa_cons (pe_tup (pa_cons (pv 3) (pa_cons (pe_op op_catU (pv 4) (pv 2)) pa_nil))) pa_nil)) pe_non (nomark _)) (pss_one (ps_ret pe_bl)) pss_nil)))
    (pss_one (ps_ret pe_bl)))))), ?_⟩
  have lp : (ps.map V.ref).length = Ps.length := by rw [List.length_map, hP.1]
  have lq : (qs.map V.ref).length = Os.length := by rw [List.length_map, hO.1]
  refine ⟨_, rfl, a_, _, rfl, .inr ha, _, rfl, b_, _, rfl, .inr hb, _, _, rfl, rfl, .inl ⟨by omega, by omega⟩, _, _, rfl, rfl, _, rfl, ?_⟩
  have hmul : ((ps.map V.ref).length : Int) * ((qs.map V.ref).length : Int) ≤ 100000 := by
    rw [lp, lq]
    have h1 : Ps.length * Os.length ≤ 300 * 300 := Nat.mul_le_mul (by omega) (by omega)
    have h2 : ((Ps.length * Os.length : Nat) : Int) ≤ 90000 := by omega
    rw [Int.natCast_mul] at h2
    omega
  rw [decide_eq_true (by omega)]
  refine iteT ⟨_, rfl, a_, rfl, ⟨_, ha⟩, fun D0 nD => lc_tup (xs := ps.map V.ref) (fun j H' => ∃ (ks : List Addr) (Gs : List Pt), Same H H' ∧ H' D0 = some (.lst (ks.map V.ref)) ∧ Pts K H' m ks Gs ∧ Kept m (Ps.take j) Os Gs) ⟨[], [], Same.new nD, upd_same, Pts.nil, Kept.nil⟩ (fun j H' _ h => ?_) ?_ ?_⟩
  · obtain ⟨_, _, S, _⟩ := h
    exact Same.seqT S ha
  · rintro j x H3 hx ⟨ks, Gs, S3, hD3, hG, hK⟩
    rw [List.getElem?_map] at hx
    obtain ⟨p, hp, rfl⟩ := Option.map_eq_some_iff.mp hx
    obtain ⟨A, hA1, hA2⟩ := hP.at_ hp
    have hAm := List.mem_of_getElem? hA1
    have hj := (List.getElem?_eq_some_iff.mp hA1).1
    refine ⟨rfl, ?_⟩
    refine ⟨_, rfl, _, rfl, p, b_, qs, m, D, S, A, Os, rfl, hA2.mono S3, hPB A hAm, Same.seqT S3 hb, hO.mono S3, hOB, by omega, by omega, fun b H4 S4 hb4 => ⟨_, rfl, ?_⟩⟩
    have hD4 := S4 _ _ hD3
    have hkl := hK.2.2
    rw [List.length_take] at hkl
    cases b with
    | true =>
      refine iteF ⟨ks, Gs, S3.trans S4, hD4, hG.mono S4, ?_⟩
      rw [take_snoc hA1]
      exact hK.drop (hb4 rfl)
    | false =>
      refine iteT ⟨_, rfl, _, hD4, szs (by rw [List.length_map, hG.1]; omega), ks ++ [p], Gs ++ [A], Same.mut (S3.trans S4) nD, by rw [upd_same, List.map_append]; rfl, ((hG.mono S4).but hD4 But.upd).snoc ((hA2.mono (S3.trans S4)).but hD4 But.upd), ?_⟩
      rw [take_snoc hA1]
      exact hK.keep
  rintro H1 ⟨ks, Gs, S1, hD0, hG, hK⟩
  rw [List.length_map, hP.1, List.take_length] at hK
  have hGl := hK.2.2
  have hks := hG.1
  cases Gs with
  | nil =>
    have e : ks = [] := List.length_eq_zero_iff.mp hks
    subst e
    refine ⟨_, rfl, false, .inl ⟨[], SqL.of hD0, rfl⟩, iteT ?_⟩
    refine k true H1 S1 ⟨fun _ x hx => ?_, fun y => by cases y⟩
    rcases (hK.ins x).2 hx with ⟨g, hg, _⟩ | y
    · cases hg
    · exact y
  | cons G0 Gr =>
    have e2 : true = !(ks.map V.ref).isEmpty := by
      cases ks with
      | nil => cases hks
      | cons u r => rfl
    refine ⟨_, rfl, true, .inl ⟨_, SqL.of hD0, e2⟩, iteF ?_⟩
    generalize G0 :: Gr = Gs at hG hK hGl hks
    have hGB : ∀ B ∈ Gs, Zg.PB m D S B := fun B hB => hPB B (hK.1 B hB)
    have hb1 := Same.seqT S1 hb
    have hO1 := hO.mono S1
    refine ⟨_, rfl, b_, rfl, ⟨_, hb1⟩, fun D3 nD3 => lc_tup (xs := qs.map V.ref) (fun j H' => ∃ us : List Addr, Same H1 H' ∧ H' D3 = some (.lst (us.map V.ref)) ∧ IsGs K H' us ((Os.take j).map fun O => Zg.den (Zg.ptCase m O))) ⟨[], Same.new nD3, upd_same, trivial⟩ (fun j H' _ h => ?_) ?_ ?_⟩
    · obtain ⟨_, S2, _⟩ := h
      exact Same.seqT S2 hb1
    · rintro j x H2 hx ⟨us, S2, hD2, hU⟩
      rw [List.getElem?_map] at hx
      obtain ⟨q, hq, rfl⟩ := Option.map_eq_some_iff.mp hx
      obtain ⟨O, hO1', hO2⟩ := hO1.at_ hq
      have hj := (List.getElem?_eq_some_iff.mp hO1').1
      have hOm := List.mem_of_getElem? hO1'
      have hc1 := (hOB O hOm).case_sz
      have hc2 := (hOB O hOm).case_dep
      refine ⟨rfl, ?_⟩
      refine ⟨_, rfl, q, m, D, S, O, rfl, hO2.mono S2, hOB O hOm, hm, fun g H3 S3 hg => ⟨g, _, rfl, hg, by omega, by omega, fun r H4 S4 hr3 => ?_⟩⟩
      have hD3' := S4 _ _ (S3 _ _ hD2)
      have hlen := hU.len
      rw [List.length_map, List.length_take] at hlen
      refine ⟨_, hD3', szs (by rw [List.length_map]; omega), us ++ [r], Same.mut (S2.trans (S3.trans S4)) nD3, by rw [upd_same, List.map_append]; rfl, ?_⟩
      rw [take_snoc hO1', List.map_append]
      exact ((hU.mono (S3.trans S4)).snoc hr3).but hD3' But.upd
    rintro H2 ⟨us, S2, hD3, hU⟩
    rw [List.length_map, hO.1, List.take_length] at hU
    refine ⟨D3, _, rfl, .inl ⟨SqL.of hD3, fun BV nBV => ?_⟩⟩
    have Sb := Same.new (o := HO.tup (us.map V.ref)) nBV
    have hBV : SqT K (upd H2 BV (HO.tup (us.map V.ref))) BV (us.map V.ref) := SqT.of upd_same
    have hU1 := hU.mono Sb
    have S2b := S2.trans Sb
    generalize upd H2 BV (HO.tup (us.map V.ref)) = H3 at hBV hU1 S2b ⊢
    have hul := hU1.len
    rw [List.length_map] at hul
    have hD0' := S2b _ _ hD0
    have hG' := hG.mono S2b
    clear hD3 hU nBV Sb S2
    refine ⟨_, rfl, D0, rfl, ⟨_, SqL.of hD0'⟩, for_list (xs := ks.map V.ref) (fun i σ H' => ∃ (v3 v4 v5 v6 : Option V), σ = [some (.ref D0), some (.ref b_), some (.ref BV), v3, v4, v5, v6] ∧ Same H3 H' ∧ ∀ x, Zg.InS m x (Gs.take i) → Zg.InS m x Os)
      ⟨_, _, _, _, rfl, Same.refl H3, fun x hx => (by simp [Zg.InS] at hx)⟩ (fun i σ H' _ h => ?_) ?_ ?_⟩
    · obtain ⟨_, _, _, _, _, S3, _⟩ := h
      exact S3.seq (SqL.of hD0')
    · rintro i x σ H4 hx ⟨v3, v4, v5, v6, rfl, S4, hall⟩
      rw [List.getElem?_map] at hx
      obtain ⟨p, hp, rfl⟩ := Option.map_eq_some_iff.mp hx
      obtain ⟨⟨o, cs⟩, hA1, hA2⟩ := hG'.at_ hp
      have hAm := List.mem_of_getElem? hA1
      have hAB := hGB _ hAm
      obtain ⟨d, rfl, hC⟩ : ∃ d, o = some d ∧ Zn.Closed m d := hAB.cl
      obtain ⟨v, c, gs, hp0, ⟨z, rfl, hz⟩, hc, hG4⟩ := hA2.mono S4
      have hcd := hAB.dp
      have hcs := hAB.sz
      have hcok := hAB.ok
      dsimp only at hG4 hcd hcs hcok
      have hgl := hG4.len
      have hls := Zg.len_szs cs
      refine ⟨p, _, rfl, hp0, rfl, _, _, rfl, _, _, rfl, rfl, ?_⟩
      refine ⟨_, rfl, _, rfl, _, rfl, ?_⟩
      refine ⟨c, BV, _, _, rfl, rfl, hc, Same.seqT S4 hBV, szL (by simp; omega), fun cc H5 S5 hcc => ⟨sz (by simp), fun q nq => ?_⟩⟩
      rw [← List.map_append] at hcc
      have hcl3 : IsGs K H5 (gs ++ us) (cs ++ Os.map fun O => Zg.den (Zg.ptCase m O)) := (hG4.mono S5).app ((hU1.mono S4).mono S5)
      have hb1 : ∀ x, (∀ g ∈ (Os.map fun O => Zg.den (Zg.ptCase m O)), Zg.Hd false x g) ↔ ¬ Zg.InS m x Os := fun x => Zg.bar_hd hOB
      have hb2 := Zg.bar_ok hOB
      have hb3 : Zg.szs (Os.map fun O => Zg.den (Zg.ptCase m O)) ≤ N * (1 + 2 * (m * m) + S) := by
        have := Zg.bar_sz hOB
        have := Nat.mul_le_mul_right (1 + 2 * (m * m) + S) hOl
        omega
      have hb4 := Zg.bar_dep hOB
      generalize (Os.map fun O => Zg.den (Zg.ptCase m O)) = bs at hcl3 hb1 hb2 hb3 hb4
      generalize gs ++ us = gs' at hcc hcl3
      have Sq := Same.new (o := HO.tup [V.ref z, V.ref cc]) nq
      have hpt : IsPt K (upd H5 q (HO.tup [V.ref z, V.ref cc])) m q (some d, cs ++ bs) := ⟨.ref z, cc, gs', SqT.of upd_same, ⟨z, rfl, hz.mono (S5.trans Sq)⟩, Same.seqT Sq hcc, hcl3.mono Sq⟩
      have Sx := S5.trans Sq
      generalize upd H5 q (HO.tup [V.ref z, V.ref cc]) = H6 at hpt Sx ⊢
      have hszA := Zg.szs_app cs bs
      have hdpA := Zg.deps_app (as := cs) (bs := bs)
      refine ⟨q, m, (some d, cs ++ bs), rfl, hpt, ⟨fun d' e => by cases e; exact hC, Zg.okGs_app.mpr ⟨hcok, hb2⟩, by dsimp only; omega, by dsimp only; omega⟩, hm0, by omega, fun H7 S7 hno => ?_, fun z2 d2 H7 S7 hz2 hC2 hst2 => ?_⟩
      · refine ⟨rfl, _, rfl, iteF ⟨_, _, _, _, rfl, S4.trans (Sx.trans S7), fun x hx => ?_⟩⟩
        rw [take_snoc hA1] at hx
        obtain ⟨B, hB, hi⟩ := hx
        rcases List.mem_append.mp hB with hB | hB
        · exact hall x ⟨B, hB, hi⟩
        · rw [List.mem_singleton.mp hB] at hi
          have := hno x
          rw [Zg.in_app, hb1 x] at this
          exact Classical.byContradiction fun y => this ⟨hi, y⟩
      · refine ⟨rfl, _, rfl, iteT ?_⟩
        obtain ⟨n, rfl⟩ : ∃ n, m = n + 1 := ⟨m - 1, by omega⟩
        obtain ⟨w1, w2⟩ := Zn.some_state hC2
        have w3 := hst2 _ w1
        rw [Zg.in_app, hb1] at w3
        exact k false H7 (S1.trans (S2b.trans (S4.trans (Sx.trans S7)))) ⟨fun y => (by cases y), fun _ => ⟨_, w2, ⟨_, hK.1 _ hAm, w3.1⟩, w3.2⟩⟩
    · rintro σ H4 ⟨v3, v4, v5, v6, rfl, S4, hall⟩
      rw [List.length_map, hks, List.take_length] at hall
      refine k true H4 (S1.trans (S2b.trans S4)) ⟨fun _ x hx => ?_, fun y => by cases y⟩
      exact ((hK.ins x).2 hx).elim (hall x) id
end
end K18

namespace K18
open PySem L2 Bx
theorem eqv_tup : ∀ {xs ys : List Str}, (PyData.eqv (.tuple (xs.map PyData.str)) (.tuple (ys.map PyData.str)) = true ↔ xs = ys)
  | [], [] => by simp [PyData.eqv, PyData.eqvAll]
  | [], y :: ys => by simp [PyData.eqv, PyData.eqvAll]
  | x :: xs, [] => by simp [PyData.eqv, PyData.eqvAll]
  | x :: xs, y :: ys => by
    have ih := eqv_tup (xs := xs) (ys := ys)
    simp only [PyData.eqv] at ih
    simp only [List.map_cons, PyData.eqv, PyData.eqvAll, Bool.and_eq_true, beq_iff_eq, List.cons.injEq, ih]
section
variable {P : Program} {w : World} {K : PySem.W.Frag} {mg : Str → Option Value} {base : Heap} {CC CS aB : Addr}
def spLe (K : PySem.W.Frag) (CC CS : Addr) : Sp := fun vs H Q _ => ∃ (a_ b_ : Addr) (ys : List Str) (D S N : Nat) (Ps Os : List Pt), vs = [.ref a_, .ref b_] ∧ StsAt K CC CS H a_ ys Ps ∧ StsAt K CC CS H b_ ys Os ∧ Nys ys ∧ (∀ A ∈ Ps, Zg.PB (ys.length + 1) D S A) ∧ (∀ A ∈ Os, Zg.PB (ys.length + 1) D S A) ∧ Ps.length ≤ N ∧ Os.length ≤ N ∧ D ≤ 50 ∧ N ≤ 300 ∧ S + N * (1 + 2 * ((ys.length + 1) * (ys.length + 1)) + S) ≤ 4000 ∧
  ∀ (b : Bool) H', Same H H' → Tells (ys.length + 1) Ps Os b → Q (.bl b) H'
theorem ok_States_le {f : Addr} {fd : FuncData} (me : Meth K CS "__le__" f) (F : C8.Fun K "__le__" "States.__le__" s_States_le f fd) (b : Binds K fd ["self", "other"] []) (T : Txt K mg CC CS aB) (oS : OwnC K CS) (K_check_alike : C8.Cal P w K mg base 1 "check_alike" (spAlike K CC CS) []) (K_are_inside : C8.Cal P w K mg base 77 "are_inside" (spSub2 K) []) :
    C8.Met P w K mg base 79 CS "__le__" (spLe K CC CS) [] := by
  refine C8.met0 T.cS me F b sc_States_le (fun vs H Q E h => ?_) (fun cdv A outer s H vs Q E hr h => ?_)
  · obtain ⟨a_, b_, ys, D, S, N, Ps, Os, rfl, _⟩ := h
    rfl
  obtain ⟨a_, b_, ys, D, S, N, Ps, Os, rfl, hA, hB, hY, hPB, hOB, hPl, hOl, hD, hN, hSS, k⟩ := h
  have h19 := hY.ok.few
  obtain ⟨dx, tn, c, h1, h2, dc, pp, ps, h3, hps, hPs⟩ := id hA
  obtain ⟨dx', tn', c', h1', h2', dc', pq, qs, h3', hqs, hOs⟩ := id hB
  refine ⟨_, (pss_cons (ps_if (pt_not (pt_val (pe_callB call_isi (by rfl) T.z_isinstance (by decide +kernel) (pa_cons (pv 1) (pa_cons (pe_glob (v := .ref CS) (by rfl) T.g_States rfl) pa_nil))))) pss_never pss_nil)
    (pss_cons (ps_expr (C8.pe_c K_check_alike hr (by decide) (by rfl) (pa_cons (pv 0) (pa_cons (pv 1) pa_nil))))
    (pss_one (ps_ret (C8.pe_c K_are_inside hr (by decide) (by rfl) (pa_cons (pe_fld (pe_fld (pv 0) rfl) rfl) (pa_cons (pe_fld (pe_fld (pv 1) rfl) rfl) pa_nil))))))), ?_⟩
  refine ⟨_, rfl, _, _, _, _, true, rfl, .own CS, oS.ty T.cS h1', oS.ki, _, rfl, iteF ?_⟩
  refine ⟨_, rfl, _, rfl, a_, b_, ys, Ps, Os, rfl, hA, hB, hY.so, ?_⟩
  refine ⟨_, rfl, a_, CS, dx, [("names", .ref tn), ("_cover", .ref c)], .ref c, rfl, h1, T.cS, T.nS.2, rfl, c, CC, dc, _, .ref pp, rfl, h3, T.cC, T.nC, rfl, ?_⟩
  refine ⟨_, rfl, b_, CS, dx', [("names", .ref tn'), ("_cover", .ref c')], .ref c', rfl, h1', T.cS, T.nS.2, rfl, c', CC, dc', _, .ref pq, rfl, h3', T.cC, T.nC, rfl, ?_⟩
  exact ⟨pp, pq, ps, qs, ys.length + 1, D, S, N, Ps, Os, rfl, hps, hPs, hPB, hqs, hOs, hOB, hD, by omega, by omega, hPl, hOl, hN, hSS, k⟩
/-- what == tells -/
def TellsEq (ys zs : List Str) (Ps Os : List Pt) (b : Bool) : Prop := (b = true → ys = zs ∧ ∀ x, Zg.InS (ys.length + 1) x Ps ↔ Zg.InS (ys.length + 1) x Os) ∧ (b = false → ys = zs → ∃ x : Nat → Int, x 0 = 0 ∧ ¬ (Zg.InS (ys.length + 1) x Ps ↔ Zg.InS (ys.length + 1) x Os))
def spEq (K : PySem.W.Frag) (CC CS : Addr) : Sp := fun vs H Q _ => ∃ (a_ b_ : Addr) (ys zs : List Str) (D S N : Nat) (Ps Os : List Pt), vs = [.ref a_, .ref b_] ∧ StsAt K CC CS H a_ ys Ps ∧ StsAt K CC CS H b_ zs Os ∧ Nys ys ∧ Nys zs ∧ (∀ A ∈ Ps, Zg.PB (ys.length + 1) D S A) ∧ (∀ A ∈ Os, Zg.PB (zs.length + 1) D S A) ∧ Ps.length ≤ N ∧ Os.length ≤ N ∧ D ≤ 50 ∧ N ≤ 300 ∧ S + N * (1 + 2 * ((ys.length + 1) * (ys.length + 1)) + S) ≤ 4000 ∧
  ∀ (b : Bool) H', Same H H' → TellsEq ys zs Ps Os b → Q (.bl b) H'
theorem ok_States_eq {f : Addr} {fd : FuncData} (me : Meth K CS "__eq__" f) (F : C8.Fun K "__eq__" "States.__eq__" s_States_eq f fd) (b : Binds K fd ["self", "other"] []) (T : Txt K mg CC CS aB) (oS : OwnC K CS) (K_le : C8.Met P w K mg base 79 CS "__le__" (spLe K CC CS) []) :
    C8.Met P w K mg base 81 CS "__eq__" (spEq K CC CS) [] := by
  refine C8.met0 T.cS me F b sc_States_eq (fun vs H Q E h => ?_) (fun cdv A outer s H vs Q E hr h => ?_)
  · obtain ⟨a_, b_, ys, zs, D, S, N, Ps, Os, rfl, _⟩ := h
    rfl
  obtain ⟨a_, b_, ys, zs, D, S, N, Ps, Os, rfl, hA, hB, hY, hZ, hPB, hOB, hPl, hOl, hD, hN, hSS, k⟩ := h
  have h19 := hY.ok.few
  obtain ⟨dx, tn, c, h1, h2, dc, pp, ps, h3, hps, hPs⟩ := id hA
  obtain ⟨dx', tn', c', h1', h2', dc', pq, qs, h3', hqs, hOs⟩ := id hB
  refine ⟨_, (pss_one (ps_ret (pe_and (pe_callB call_isi (by rfl) T.z_isinstance (by decide +kernel) (pa_cons (pv 1) (pa_cons (pe_glob (v := .ref CS) (by rfl) T.g_States rfl) pa_nil))) (pe_and (pe_cmpR (op_eqD hr.units) (pe_fld (pv 0) rfl) (pe_fld (pv 1) rfl) (nomark _)) (pe_and (pe_cmpR (Ow.op_leM K_le hr (by decide)) (pv 0) (pv 1) (nomark _)) (pe_one (pe_cmpR (Ow.op_leM K_le hr (by decide)) (pv 1) (pv 0) (nomark _)))))))), ?_⟩
  refine ⟨_, rfl, _, _, _, _, true, rfl, .own CS, oS.ty T.cS h1', oS.ki, _, rfl, iteT ?_⟩
  obtain ⟨e1, e2⟩ := eq_tup hY.so
  obtain ⟨f1, f2⟩ := eq_tup hZ.so
  refine ⟨_, rfl, a_, CS, dx, [("names", .ref tn), ("_cover", .ref c)], .ref tn, rfl, h1, T.cS, T.nS.1, rfl, _, rfl, b_, CS, dx', [("names", .ref tn'), ("_cover", .ref c')], .ref tn', rfl, h1', T.cS, T.nS.1, rfl, ?_⟩
  refine ⟨.tuple (ys.map PyData.str), .tuple (zs.map PyData.str), .tup h2.sq (dp_strs ys), .tup h2'.sq (dp_strs zs), e1, f1, _, rfl, ?_⟩
  by_cases e : ys = zs
  · subst e
    refine iteTe (eqv_tup.mpr rfl) ?_
    refine ⟨_, rfl, _, rfl, a_, b_, dx, dx', _, _, rfl, rfl, h1, h1', a_, b_, ys, D, S, N, Ps, Os, rfl, hA, hB, hY, hPB, hOB, hPl, hOl, hD, hN, hSS, fun b1 H1 S1 hb1 => ⟨Ow.told_bl, ?_⟩⟩
    cases b1 with
    | false =>
      refine ⟨_, rfl, iteF (k false H1 S1 ⟨fun y => (by cases y), fun _ _ => ?_⟩)⟩
      obtain ⟨x, x0, x1, x2⟩ := hb1.2 rfl
      exact ⟨x, x0, fun y => x2 (y.mp x1)⟩
    | true =>
      refine ⟨_, rfl, iteT ?_⟩
      refine ⟨_, rfl, _, rfl, b_, a_, dx', dx, _, _, rfl, rfl, S1 _ _ h1', S1 _ _ h1, b_, a_, ys, D, S, N, Os, Ps, rfl, hB.mono S1, hA.mono S1, hY, hOB, hPB, hOl, hPl, hD, hN, hSS, fun b2 H2 S2 hb2 => ⟨Ow.told_bl, ?_⟩⟩
      refine k b2 H2 (S1.trans S2) ⟨fun y => ⟨rfl, fun x => ⟨hb1.1 rfl x, hb2.1 y x⟩⟩, fun y _ => ?_⟩
      obtain ⟨x, x0, x1, x2⟩ := hb2.2 y
      exact ⟨x, x0, fun y => x2 (y.mpr x1)⟩
  · refine iteFe (Bool.eq_false_iff.mpr fun y => e (eqv_tup.mp y)) ?_
    exact k false H (Same.refl H) ⟨fun y => (by cases y), fun _ y => absurd y e⟩
end
end K18

namespace K18
open PySem L2 Bx
def InR (ys : List Str) (R : List (List (Str × Str × Int))) (x : Nat → Int) : Prop := ∃ q ∈ R.map (fun L => L.map (litZ ys)), Zn.All x q
theorem inR_iff {ys : List Str} {R : List (List (Str × Str × Int))} {x : Nat → Int} : InR ys R x ↔ ∃ L ∈ R, ∀ q ∈ L, Zn.Hl x (litZ ys q) := by
  unfold InR Zn.All
  constructor
  · rintro ⟨q, hq, h⟩
    obtain ⟨L, hL, rfl⟩ := List.mem_map.mp hq
    exact ⟨L, hL, fun q hq => h _ (List.mem_map_of_mem hq)⟩
  · rintro ⟨L, hL, h⟩
    refine ⟨_, List.mem_map_of_mem hL, fun l hl => ?_⟩
    obtain ⟨q, hq, rfl⟩ := List.mem_map.mp hl
    exact h q hq
theorem inR_in {ys : List Str} {R : List (List (Str × Str × Int))} {f : Str → Int} (hT : ∀ L ∈ R, ∀ q ∈ L, TermsOk ys q) : InR ys R (xOf ys f) ↔ inB f R = true := by
  unfold InR inB
  rw [List.any_eq_true]
  constructor
  · rintro ⟨q, hq, h⟩
    obtain ⟨L, hL, rfl⟩ := List.mem_map.mp hq
    exact ⟨L, hL, (all_lits (hT L hL)).mp h⟩
  · rintro ⟨L, hL, h⟩
    exact ⟨_, List.mem_map_of_mem hL, (all_lits (hT L hL)).mpr h⟩
section
variable {K : PySem.W.Frag} {H : Hp}
theorem LitsAt.app {ts us : List Addr} {as bs : List (Str × Str × Int)} (h : LitsAt K H ts as) (k : LitsAt K H us bs) : LitsAt K H (ts ++ us) (as ++ bs) := by
  refine ⟨by rw [List.length_append, List.length_append, h.1, k.1], fun j q hj => ?_⟩
  by_cases e : j < as.length
  · rw [List.getElem?_append_left e] at hj
    obtain ⟨t, h1, h2⟩ := h.2 j q hj
    exact ⟨t, by rw [List.getElem?_append_left (by rw [h.1]; exact e)]; exact h1, h2⟩
  · rw [List.getElem?_append_right (by omega)] at hj
    obtain ⟨t, h1, h2⟩ := k.2 _ q hj
    exact ⟨t, by rw [List.getElem?_append_right (by rw [h.1]; omega), h.1]; exact h1, h2⟩
theorem LitsAt.one {t : Addr} {q : Str × Str × Int} (h : SqT K H t [.str q.1, .str q.2.1, .int q.2.2]) : LitsAt K H [t] [q] := ⟨rfl, fun j q' hj => by
  cases j with
  | zero =>
    cases hj
    exact ⟨t, rfl, h⟩
  | succ j => cases hj⟩
theorem RowsIn.app {ts us : List Addr} {as bs : List (List (Str × Str × Int))} (h : RowsIn K H ts as) (k : RowsIn K H us bs) : RowsIn K H (ts ++ us) (as ++ bs) := by
  refine ⟨by rw [List.length_append, List.length_append, h.1, k.1], fun j q hj => ?_⟩
  by_cases e : j < as.length
  · rw [List.getElem?_append_left e] at hj
    obtain ⟨t, h1, h2⟩ := h.2 j q hj
    exact ⟨t, by rw [List.getElem?_append_left (by rw [h.1]; exact e)]; exact h1, h2⟩
  · rw [List.getElem?_append_right (by omega)] at hj
    obtain ⟨t, h1, h2⟩ := k.2 _ q hj
    exact ⟨t, by rw [List.getElem?_append_right (by rw [h.1]; omega), h.1]; exact h1, h2⟩
theorem RowsIn.two {t u : Addr} {a b : List (Str × Str × Int)} (h : RowAt K H t a) (k : RowAt K H u b) : RowsIn K H [t, u] [a, b] := ⟨rfl, fun j q' hj => by
  cases j with
  | zero =>
    cases hj
    exact ⟨t, rfl, h⟩
  | succ j => cases j with
    | zero =>
      cases hj
      exact ⟨u, rfl, k⟩
    | succ j => cases hj⟩
theorem RowsIn.one {t : Addr} {a : List (Str × Str × Int)} (h : RowAt K H t a) : RowsIn K H [t] [a] := ⟨rfl, fun j q' hj => by
  cases j with
  | zero =>
    cases hj
    exact ⟨t, rfl, h⟩
  | succ j => cases hj⟩
theorem RowsIn.nil : RowsIn K H [] [] := ⟨rfl, fun j q hj => by cases hj⟩
theorem LitsAt.nil' : LitsAt K H [] [] := ⟨rfl, fun j q hj => by cases hj⟩
end
end K18

namespace K18
open PySem L2 Bx
/-- a set with bounds on its parts -/
def SetA (K : PySem.W.Frag) (CC CS : Addr) (H : Hp) (o : Addr) (ys : List Str) (Ps : List Pt) (D S N : Nat) : Prop := StsAt K CC CS H o ys Ps ∧ (∀ A ∈ Ps, Zg.PB (ys.length + 1) D S A) ∧ Ps.length ≤ N
section
variable {K : PySem.W.Frag} {CC CS : Addr} {H H' : Hp} {a b o : Addr} {ys zs : List Str} {Ps Os : List Pt} {D S N D' S' N' M : Nat} {Q : VK}
theorem SetA.mono (h : SetA K CC CS H o ys Ps D S N) (e : Same H H') : SetA K CC CS H' o ys Ps D S N := ⟨h.1.mono e, h.2⟩
theorem SetA.up (h : SetA K CC CS H o ys Ps D S N) (h1 : D ≤ D') (h2 : S ≤ S') (h3 : N ≤ N') : SetA K CC CS H o ys Ps D' S' N' := ⟨h.1, fun A hA => (h.2.1 A hA).mono h1 h2, Nat.le_trans h.2.2 h3⟩
theorem bnd_up {m S N M : Nat} (hm : m * m ≤ M) : N * (1 + 2 * (m * m) + S) ≤ N * (1 + 2 * M + S) := Nat.mul_le_mul_left N (by omega)
theorem rd_sub (hY : Nys ys) (hA : SetA K CC CS H a ys Ps D S N) (hB : SetA K CC CS H b ys Os D S N) (hm : (ys.length + 1) * (ys.length + 1) ≤ M) (e : S + N * (1 + 2 * M + S) ≤ S') (hS : S' ≤ 1000) (hD : D ≤ 50) (hN : N ≤ 300)
    (k : ∀ r Es H', Same H H' → SetA K CC CS H' r ys Es (D + 1) S' N → (∀ x, Zg.InS (ys.length + 1) x Es ↔ Zg.InS (ys.length + 1) x Ps ∧ ¬ Zg.InS (ys.length + 1) x Os) → Es.length ≤ Ps.length → Q (.ref r) H') : Ow.r2M CS (spSub K CC CS) (.ref a) (.ref b) H Q := by
  have hb := bnd_up (S := S) (N := N) hm
  obtain ⟨⟨dx, tn, c, g1, g2, g3⟩, hP, hPl⟩ := id hA
  obtain ⟨⟨dx', tn', c', k1, k2, k3⟩, hO, hOl⟩ := id hB
  refine ⟨a, b, dx, dx', _, _, rfl, rfl, g1, k1, a, b, ys, D, S, N, Ps, Os, rfl, hA.1, hB.1, hY, hP, hO, hPl, hOl, hD, hN, by omega, fun r Es H' S1 hr hE hl hs => ⟨Ow.told_ref, ?_⟩⟩
  exact k r Es H' S1 ⟨hr, fun E hE' => (hE E hE').mono (Nat.le_refl _) (by omega), by omega⟩ hs hl
theorem rd_and (hY : Nys ys) (hA : SetA K CC CS H a ys Ps D S N) (hB : SetA K CC CS H b ys Os D S N) (hm : (ys.length + 1) * (ys.length + 1) ≤ M) (e : S + (1 + N * (1 + 2 * M + S)) ≤ S') (hS : S' ≤ 1000) (hD : D ≤ 50) (hN : N ≤ 300)
    (k : ∀ r Es H', Same H H' → SetA K CC CS H' r ys Es (D + 2) S' N → (∀ x, Zg.InS (ys.length + 1) x Es ↔ Zg.InS (ys.length + 1) x Ps ∧ Zg.InS (ys.length + 1) x Os) → Q (.ref r) H') : Ow.r2M CS (spAnd K CC CS) (.ref a) (.ref b) H Q := by
  have hb := bnd_up (S := S) (N := N) hm
  obtain ⟨⟨dx, tn, c, g1, g2, g3⟩, hP, hPl⟩ := id hA
  obtain ⟨⟨dx', tn', c', k1, k2, k3⟩, hO, hOl⟩ := id hB
  refine ⟨a, b, dx, dx', _, _, rfl, rfl, g1, k1, a, b, ys, D, S, N, Ps, Os, rfl, hA.1, hB.1, hY, hP, hO, hPl, hOl, hD, hN, by omega, fun r Es H' S1 hr hE hl hs => ⟨Ow.told_ref, ?_⟩⟩
  exact k r Es H' S1 ⟨hr, fun E hE' => (hE E hE').mono (Nat.le_refl _) (by omega), hl⟩ hs
theorem rd_or (hY : Nys ys) (hA : SetA K CC CS H a ys Ps D S N) (hB : SetA K CC CS H b ys Os D S N) (hS : S ≤ 90000) (hD : D ≤ 50) (hN : N ≤ 300)
    (k : ∀ r Es H', Same H H' → SetA K CC CS H' r ys Es D S (N + N) → (∀ x, Zg.InS (ys.length + 1) x Es ↔ Zg.InS (ys.length + 1) x Ps ∨ Zg.InS (ys.length + 1) x Os) → Q (.ref r) H') : Ow.r2M CS (spOr K CC CS) (.ref a) (.ref b) H Q := by
  obtain ⟨⟨dx, tn, c, g1, g2, g3⟩, hP, hPl⟩ := id hA
  obtain ⟨⟨dx', tn', c', k1, k2, k3⟩, hO, hOl⟩ := id hB
  refine ⟨a, b, dx, dx', _, _, rfl, rfl, g1, k1, a, b, ys, D, S, N, Ps, Os, rfl, hA.1, hB.1, hY, hP, hO, hPl, hOl, by omega, hN, hS, fun r Es H' S1 hr hE hl hs => ⟨Ow.told_ref, ?_⟩⟩
  exact k r Es H' S1 ⟨hr, hE, by omega⟩ hs
theorem rd_le (hY : Nys ys) (hA : SetA K CC CS H a ys Ps D S N) (hB : SetA K CC CS H b ys Os D S N) (hm : (ys.length + 1) * (ys.length + 1) ≤ M) (e : S + N * (1 + 2 * M + S) ≤ 4000) (hD : D ≤ 50) (hN : N ≤ 300)
    (k : ∀ t H', Same H H' → Tells (ys.length + 1) Ps Os t → Q (.bl t) H') : Ow.r2M CS (spLe K CC CS) (.ref a) (.ref b) H Q := by
  have hb := bnd_up (S := S) (N := N) hm
  obtain ⟨⟨dx, tn, c, g1, g2, g3⟩, hP, hPl⟩ := id hA
  obtain ⟨⟨dx', tn', c', k1, k2, k3⟩, hO, hOl⟩ := id hB
  exact ⟨a, b, dx, dx', _, _, rfl, rfl, g1, k1, a, b, ys, D, S, N, Ps, Os, rfl, hA.1, hB.1, hY, hP, hO, hPl, hOl, hD, hN, by omega, fun t H' S1 ht => ⟨Ow.told_bl, k t H' S1 ht⟩⟩
theorem rd_eq (hY : Nys ys) (hZ : Nys zs) (hA : SetA K CC CS H a ys Ps D S N) (hB : SetA K CC CS H b zs Os D S N) (hm : (ys.length + 1) * (ys.length + 1) ≤ M) (e : S + N * (1 + 2 * M + S) ≤ 4000) (hD : D ≤ 50) (hN : N ≤ 300)
    (k : ∀ t H', Same H H' → TellsEq ys zs Ps Os t → Q (.bl t) H') : Ow.r2M CS (spEq K CC CS) (.ref a) (.ref b) H Q := by
  have hb := bnd_up (S := S) (N := N) hm
  obtain ⟨⟨dx, tn, c, g1, g2, g3⟩, hP, hPl⟩ := id hA
  obtain ⟨⟨dx', tn', c', k1, k2, k3⟩, hO, hOl⟩ := id hB
  exact ⟨a, b, dx, dx', _, _, rfl, rfl, g1, k1, a, b, ys, zs, D, S, N, Ps, Os, rfl, hA.1, hB.1, hY, hZ, hP, hO, hPl, hOl, hD, hN, by omega, fun t H' S1 ht => ⟨Ow.told_bl, k t H' S1 ht⟩⟩
theorem rd_ne (hY : Nys ys) (hZ : Nys zs) (hA : SetA K CC CS H a ys Ps D S N) (hB : SetA K CC CS H b zs Os D S N) (hm : (ys.length + 1) * (ys.length + 1) ≤ M) (e : S + N * (1 + 2 * M + S) ≤ 4000) (hD : D ≤ 50) (hN : N ≤ 300)
    (k : ∀ t H', Same H H' → TellsEq ys zs Ps Os t → Q (.bl (!t)) H') : Ow.rNeM CS (spEq K CC CS) (.ref a) (.ref b) H Q := by
  have hb := bnd_up (S := S) (N := N) hm
  obtain ⟨⟨dx, tn, c, g1, g2, g3⟩, hP, hPl⟩ := id hA
  obtain ⟨⟨dx', tn', c', k1, k2, k3⟩, hO, hOl⟩ := id hB
  exact ⟨a, b, dx, dx', _, _, rfl, rfl, g1, k1, a, b, ys, zs, D, S, N, Ps, Os, rfl, hA.1, hB.1, hY, hZ, hP, hO, hPl, hOl, hD, hN, by omega, fun t H' S1 ht => ⟨t, rfl, k t H' S1 ht⟩⟩
theorem TellsEq.yes {t : Bool} (h : TellsEq ys ys Ps Os t) (e : ∀ x, Zg.InS (ys.length + 1) x Ps ↔ Zg.InS (ys.length + 1) x Os) : t = true := by
  cases t with
  | true => rfl
  | false =>
    obtain ⟨x, _, n⟩ := h.2 rfl rfl
    exact absurd (e x) n
theorem TellsEq.no {t : Bool} (h : TellsEq ys zs Ps Os t) (e : ys ≠ zs) : t = false := by
  cases t with
  | false => rfl
  | true => exact absurd (h.1 rfl).1 e
theorem TellsEq.iff {t : Bool} (h : TellsEq ys ys Ps Os t) : t = true ↔ ∀ x, Zg.InS (ys.length + 1) x Ps ↔ Zg.InS (ys.length + 1) x Os := ⟨fun e => (h.1 e).2, h.yes⟩
theorem Tells.yes {m : Nat} {t : Bool} (h : Tells m Ps Os t) (e : ∀ x, Zg.InS m x Ps → Zg.InS m x Os) : t = true := by
  cases t with
  | true => rfl
  | false =>
    obtain ⟨x, _, n1, n2⟩ := h.2 rfl
    exact absurd (e x n1) n2
theorem Tells.iff {m : Nat} {t : Bool} (h : Tells m Ps Os t) : t = true ↔ ∀ x, Zg.InS m x Ps → Zg.InS m x Os := ⟨h.1, h.yes⟩
end
end K18

namespace K18
open PySem L2 Bx
theorem But.mutN {l D : Addr} {H H' : Hp} {o : HO} (e : But l H H') (n : H D = none) : But l H (upd H' D o) := fun b u hb hn => by
  have ne : b ≠ D := fun q => by
    rw [q, n] at hb
    cases hb
  rw [upd_ne ne]
  exact e b u hb hn
theorem insBut {l a C dx : Addr} {H H' : Hp} {xs : List V} {fs : List (Str × V)} (hl : H l = some (.lst xs)) (e : But l H H') (h : H a = some (.ins C dx fs)) : H' a = some (.ins C dx fs) := e _ _ h fun q => by
  rw [q, hl] at h
  cases h
theorem SetA.but {K : PySem.W.Frag} {CC CS l o : Addr} {H H' : Hp} {xs : List V} {ys : List Str} {Ps : List Pt} {D S N : Nat} (hl : H l = some (.lst xs)) (e : But l H H') (h : SetA K CC CS H o ys Ps D S N) : SetA K CC CS H' o ys Ps D S N := by
  obtain ⟨⟨dx, tn, c, h1, ⟨ob, h2, h2'⟩, dc, p, ps, h3, h4, h5⟩, k⟩ := h
  refine ⟨⟨dx, tn, c, insBut hl e h1, ⟨ob, e _ _ h2 fun q => ?_, h2'⟩, dc, p, ps, insBut hl e h3, butT hl e h4, h5.but hl e⟩, k⟩
  rw [q, hl] at h2
  cases h2
theorem WellAt.lst {H : Hp} {l : Addr} (h : WellAt H l) : ∃ xs, H l = some (.lst xs) := by
  obtain ⟨_, _, _, h⟩ := h
  exact ⟨_, h⟩
theorem WellAt.mono' {H H' : Hp} {l : Addr} (e : Same H H') (h : WellAt H l) : WellAt H' l := by
  obtain ⟨x, y, z, h⟩ := h
  exact ⟨x, y, z, e _ _ h⟩
section
variable {P : Program} {w : World} {K : PySem.W.Frag} {mg : Str → Option Value} {base : Heap} {CC CS aB : Addr}
def spOneT (K : PySem.W.Frag) : Sp := fun vs H Q _ => ∃ (l p : Addr) (xs : List V), vs = [.ref l, .ref p] ∧ WellAt H l ∧ SqT K H p xs ∧ 0 < xs.length ∧ xs.length < 100000 ∧ ∀ (v : V) (H' : Hp), v ∈ xs → WellAt H' l → But l H H' → Q v H'
theorem ok_l_oneT {f : Addr} {fd : FuncData} (F : C8.Def K mg "_law_one" s_l_one f fd) (b : Binds K fd ["_law_well_here", "_law_some"] []) (T : Txt K mg CC CS aB) (K_l_draw : C8.Cal P w K mg base 1 "_law_draw" spDraw []) : C8.Cal P w K mg base 2 "_law_one" (spOneT K) [] := by
  refine C8.cal0 F b .nil sc_l_one (fun vs H Q E h => ?_) (fun cdv A outer s H vs Q E hr h => ?_)
  · obtain ⟨l, p, xs, rfl, _⟩ := h
    rfl
  · obtain ⟨l, p, xs, rfl, hW, hp, h0, h1, k⟩ := h
    refine ⟨_, (pss_one (ps_ret (pe_ix ix_tup (pv 1) (C8.pe_c K_l_draw hr (by decide) (by rfl) (pa_cons (pv 0) (pa_cons (pe_callB call_len_seq (by rfl) T.z_len (by decide +kernel) (pa_cons (pv 1) pa_nil)) pa_nil))) (fun _ _ => rfl)))), ?_⟩
    refine ⟨_, rfl, _, rfl, _, rfl, p, _, rfl, .inr hp, l, _, rfl, hW, by omega, lg (by omega), fun r H' r0 r1 W' B' => ?_⟩
    obtain ⟨j, rfl⟩ : ∃ j : Nat, r = (j : Int) := ⟨r.toNat, by omega⟩
    have hj : j < xs.length := by omega
    refine ⟨p, _, _, _, rfl, rfl, But.tup hW B' hp, atI_nat (List.getElem?_eq_getElem hj), ?_⟩
    exact k _ _ (List.getElem_mem hj) W' B'
theorem rd_mk {H : Hp} {p rt : Addr} (x dx : Addr) (no : H x = none) (nd : H dx = none) (hne : dx ≠ x) {ns ys : List Str} {R : List (List (Str × Str × Int))} {Q : Hp → Prop} (hp : SqT K H p (ns.map V.str)) (hN : NamesOk ns) (hY : Nys ys) (hpm : ys.Perm ns) (hR : RowsAt K H rt R) (h300 : R.length ≤ 300) (hT : ∀ L ∈ R, L.length ≤ 900 ∧ ∀ q ∈ L, TermsOk ns q)
    (k : ∀ Ps H', Same H H' → SetA K CC CS H' x ys Ps 0 0 R.length → (∀ x, Zg.InS (ys.length + 1) x Ps ↔ InR ys R x) → Q H') : spStates K CC CS (.ref x :: ([V.ref p, V.ref rt] ++ [])) (upd (upd H dx (.own x)) x (.ins CS dx [])) (fun v H2 => v = .non ∧ Q H2) C8.E0 := by
  refine ⟨H, x, dx, p, rt, ns, R, rfl, no, Same.mut (Same.new nd) no, upd_same, hp, hN, hR, h300, hT, fun zs Ps H6 hperm hpw S6 hst hcov hPl => ⟨rfl, ?_⟩⟩
  have e := sorted_two (hperm.trans hpm.symm) hY.ok.nd hpw hY.pw
  subst e
  exact k Ps H6 S6 ⟨hst, hcov.pb, hPl⟩ hcov.st
theorem plain_of {m : Nat} {A : Pt} (h : Zg.PB m 0 0 A) : A.2 = [] := by
  have h1 := h.sz
  have h2 := Zg.len_szs A.2
  exact List.length_eq_zero_iff.mp (by omega)
theorem TellsEq.yes0 {ys : List Str} {Ps Os : List Pt} {t : Bool} (h : TellsEq ys ys Ps Os t) (e : ∀ x : Nat → Int, x 0 = 0 → (Zg.InS (ys.length + 1) x Ps ↔ Zg.InS (ys.length + 1) x Os)) : t = true := by
  cases t with
  | true => rfl
  | false =>
    obtain ⟨x, h0, n⟩ := h.2 rfl rfl
    exact absurd (e x h0) n
end
end K18

namespace K18
open PySem L2 Bx
abbrev Lt : Type := Str × Str × Int
def side (t : Str) (l h : Int) : List Lt := [("", t, -l), (t, "", h)]
/-- a row: one name in its slice, the others in the box -/
def rowOf (ns : List Str) (lo hi : List Int) (at_ : Nat) (l h : Int) (n : Nat) : List Lt := side (ns.getD at_ "") l h ++ (List.range n).flatMap fun j => if j = at_ then [] else side (ns.getD j "") (lo.getD j 0) (hi.getD j 0)
def lowK (lo es : List Int) (at_ k : Nat) : Int := if k = 0 then lo.getD at_ 0 else es.getD (k - 1) 0 + 1
def highK (hi es : List Int) (at_ k : Nat) : Int := if k < 5 then es.getD k 0 else hi.getD at_ 0
def sliced (ns : List Str) (lo hi es : List Int) (at_ n : Nat) : List (List Lt) := (List.range n).map fun k => rowOf ns lo hi at_ (lowK lo es at_ k) (highK hi es at_ k) 3
section
variable {P : Program} {w : World} {K : PySem.W.Frag} {mg : Str → Option Value} {base : Heap} {CC CS aB : Addr}
def spSide (K : PySem.W.Frag) : Sp := fun vs H Q _ => ∃ (t : Str) (l h : Int), vs = [.str t, .int l, .int h] ∧ ∀ r H', Same H H' → RowAt K H' r (side t l h) → Q (.ref r) H'
theorem ok_l_side {f : Addr} {fd : FuncData} (F : C8.Def K mg "_law_side" s_l_side f fd) (b : Binds K fd ["_law_name", "_law_low", "_law_high"] []) (T : Txt K mg CC CS aB) : C8.Cal P w K mg base 1 "_law_side" (spSide K) [] := by
  refine C8.cal0 F b .nil sc_l_side (fun vs H Q E h => ?_) (fun cdv A outer s H vs Q E hr h => ?_)
  · obtain ⟨t, l, h, rfl, _⟩ := h
    rfl
  obtain ⟨t, l, h, rfl, k⟩ := h
  refine ⟨_, (pss_one (ps_ret (pe_tup (pa_cons (pe_tup (pa_cons pe_str (pa_cons (pv 0) (pa_cons (pe_un un_neg (pv 1)) pa_nil)))) (pa_cons (pe_tup (pa_cons (pv 0) (pa_cons pe_str (pa_cons (pv 2) pa_nil)))) pa_nil))))), ?_⟩
  refine ⟨_, rfl, _, rfl, l, rfl, sz (by simp), fun t1 nt1 => ⟨_, rfl, _, rfl, sz (by simp), fun t2 nt2 => ⟨sz (by simp), fun r nr => ?_⟩⟩⟩
  have S1 := Same.new (o := HO.tup [V.str "", V.str t, V.int (-l)]) nt1
  have S2 := Same.new (o := HO.tup [V.str t, V.str "", V.int h]) nt2
  have S3 := Same.new (o := HO.tup [V.ref t1, V.ref t2]) nr
  exact k r _ (S1.trans (S2.trans S3)) ⟨[t1, t2], SqT.of upd_same, (LitsAt.one (Same.seqT (S2.trans S3) (SqT.of upd_same))).app (LitsAt.one (Same.seqT S3 (SqT.of upd_same)))⟩
/-- the box at a list of pairs -/
def BoxAt (K : PySem.W.Frag) (H : Hp) (b : Addr) (lo hi : List Int) : Prop := ∃ bs : List Addr, SqL K H b (bs.map V.ref) ∧ bs.length = 3 ∧ lo.length = 3 ∧ hi.length = 3 ∧ ∀ (j : Nat) (q : Addr), bs[j]? = some q → SqT K H q [.int (lo.getD j 0), .int (hi.getD j 0)]
theorem BoxAt.mono {K : PySem.W.Frag} {H H' : Hp} {b : Addr} {lo hi : List Int} (e : Same H H') (h : BoxAt K H b lo hi) : BoxAt K H' b lo hi := by
  obtain ⟨bs, h1, h2, h3, h4, h5⟩ := h
  exact ⟨bs, e.seq h1, h2, h3, h4, fun j q hq => Same.seqT e (h5 j q hq)⟩
def spSliced (K : PySem.W.Frag) : Sp := fun vs H Q _ => ∃ (n b e : Addr) (at_ : Nat) (ns : List Str) (lo hi es : List Int), vs = [.ref n, .ref b, .int (at_ : Nat), .ref e] ∧ SqL K H n (ns.map V.str) ∧ ns.length = 3 ∧ BoxAt K H b lo hi ∧ SqL K H e (es.map V.int) ∧ es.length = 6 ∧ at_ < 3 ∧
  ∀ r H', Same H H' → RowsAt K H' r (sliced ns lo hi es at_ 6) → Q (.ref r) H'
theorem ok_l_sliced {f : Addr} {fd : FuncData} (F : C8.Def K mg "_law_sliced" s_l_sliced f fd) (b : Binds K fd ["_law_names", "_law_box", "_law_at", "_law_ends"] []) (T : Txt K mg CC CS aB) (K_l_side : C8.Cal P w K mg base 1 "_law_side" (spSide K) []) : C8.Cal P w K mg base 2 "_law_sliced" (spSliced K) [] := by
  refine C8.cal0 F b .nil sc_l_sliced (fun vs H Q E h => ?_) (fun cdv A outer s H vs Q E hr h => ?_)
  · obtain ⟨n, b, e, at_, ns, lo, hi, es, rfl, _⟩ := h
    rfl
  obtain ⟨n, b, e, at_, ns, lo, hi, es, rfl, hn, hnl, hb, he, hel, hat, k⟩ := h
  obtain ⟨bs, hb1, hb2, hlo, hhi, hb5⟩ := id hb
  refine ⟨_, (pss_cons (ps_par (i := 4) (j := 5) (by rfl) sc_l_sliced.nd rfl rfl (by decide) rfl rfl (pa_cons (pe_tup pa_nil) (pa_cons (pe_ix ix_tup (pe_ix ix_list (pv 1) (pv 2) (fun _ _ => rfl)) pe_int (fun _ _ => rfl)) pa_nil)) (by rfl))
    (pss_cons (ps_for PassesOwn.never rfl (pi_range1 (by rfl) T.z_range (pa_cons pe_int pa_nil)) (pg_name (i := 6) sc_l_sliced.nd rfl (Or.inl rfl))
    (C8.pss_cut (ps_set (i := 7) sc_l_sliced.nd rfl (Or.inl rfl) (pe_ifExp (pt_cmpR op_lt (pv 6) pe_int (nomark _)) (pe_ix ix_list (pv 3) (pv 6) (fun _ _ => rfl)) (pe_ix ix_tup (pe_ix ix_list (pv 1) (pv 2) (fun _ _ => rfl)) pe_int (fun _ _ => rfl))))
    (pss_cons (ps_set (i := 8) sc_l_sliced.nd rfl (Or.inl rfl) (C8.pe_c K_l_side hr (by decide) (by rfl) (pa_cons (pe_ix ix_list (pv 0) (pv 2) (fun _ _ => rfl)) (pa_cons (pv 5) (pa_cons (pv 7) pa_nil)))))
    (pss_cons (ps_for PassesOwn.never rfl (pi_range1 (by rfl) T.z_range (pa_cons pe_int pa_nil)) (pg_name (i := 9) sc_l_sliced.nd rfl (Or.inl rfl))
    (pss_one (ps_if (pt_cmpR op_ne (pv 9) (pv 2) (nomark _)) (pss_one (ps_set (i := 8) sc_l_sliced.nd rfl (Or.inl rfl) (pe_op op_catU (pv 8) (C8.pe_c K_l_side hr (by decide) (by rfl) (pa_cons (pe_ix ix_list (pv 0) (pv 9) (fun _ _ => rfl)) (pa_cons (pe_ix ix_tup (pe_ix ix_list (pv 1) (pv 9) (fun _ _ => rfl)) pe_int (fun _ _ => rfl)) (pa_cons (pe_ix ix_tup (pe_ix ix_list (pv 1) (pv 9) (fun _ _ => rfl)) pe_int (fun _ _ => rfl)) pa_nil))))))) pss_nil)))
    (pss_one (ps_par (i := 4) (j := 5) (by rfl) sc_l_sliced.nd rfl rfl (by decide) rfl rfl (pa_cons (pe_op op_catU (pv 4) (pe_tup (pa_cons (pv 8) pa_nil))) (pa_cons (pe_op op_add (pv 7) pe_int) pa_nil)) (by rfl)))))))
    (pss_one (ps_ret (pv 4))))), ?_⟩
  have nat : ∀ {j : Nat}, j < 3 → (ns.map V.str)[j]? = some (.str (ns.getD j "")) := fun {j} hj => by
    rw [List.getElem?_map, List.getElem?_eq_getElem (by omega), List.getD_eq_getElem?_getD, List.getElem?_eq_getElem (by omega)]
    rfl
  have bat : ∀ {j : Nat}, j < 3 → ∃ q, (bs.map V.ref)[j]? = some (.ref q) ∧ SqT K H q [.int (lo.getD j 0), .int (hi.getD j 0)] := fun {j} hj => by
    have e1 := List.getElem?_eq_getElem (l := bs) (i := j) (by omega)
    exact ⟨bs[j], by rw [List.getElem?_map, e1]; rfl, hb5 j _ e1⟩
  have eat : ∀ {j : Nat}, j < 6 → (es.map V.int)[j]? = some (.int (es.getD j 0)) := fun {j} hj => by
    rw [List.getElem?_map, List.getElem?_eq_getElem (by omega), List.getD_eq_getElem?_getD, List.getElem?_eq_getElem (by omega)]
    rfl
  obtain ⟨qa, qa1, qa2⟩ := bat hat
  refine ⟨sz (by simp), fun r0 nr0 => ?_⟩
  have S0 := Same.new (o := HO.tup []) nr0
  have hr0 : RowsAt K (upd H r0 (HO.tup [])) r0 [] := ⟨[], SqT.of upd_same, RowsIn.nil⟩
  generalize upd H r0 (HO.tup []) = H0 at S0 hr0 ⊢
  refine ⟨_, rfl, _, rfl, b, _, _, _, rfl, rfl, S0.seq hb1, atI_nat qa1, qa, _, 0, _, rfl, rfl, Same.seqT S0 qa2, rfl, _, _, rfl, ?_⟩
  refine ⟨6, rfl, by decide, by decide, for_range (lo := 0) (n := 6) (fun u σ H' => ∃ (r : Addr) (lw : Int) (v6 v7 v8 v9 : Option V), σ = [some (.ref n), some (.ref b), some (.int (at_ : Nat)), some (.ref e), some (.ref r), some (.int lw), v6, v7, v8, v9] ∧ Same H H' ∧ RowsAt K H' r (sliced ns lo hi es at_ u) ∧ (u < 6 → lw = lowK lo es at_ u)) ⟨r0, _, _, _, _, _, rfl, S0, hr0, fun _ => rfl⟩ ?_ ?_⟩
  · rintro u σ H1 hu6 ⟨r, lw, v6, v7, v8, v9, rfl, S1, hR, hlw⟩
    obtain rfl := hlw hu6
    have S1n := S1.seq hn
    have S1b := S1.seq hb1
    refine ⟨fun σ' H' => σ' = [some (.ref n), some (.ref b), some (.int (at_ : Nat)), some (.ref e), some (.ref r), some (.int (lowK lo es at_ u)), some (.int (0 + (u : Int))), some (.int (highK hi es at_ u)), v8, v9] ∧ H' = H1, ?_, ?_⟩
    · refine ⟨_, rfl, _, _, rfl, rfl, _, rfl, ?_⟩
      have eu : (0 : Int) + (u : Int) = (u : Int) := by omega
      by_cases c : u < 5
      · refine iteTe (decide_eq_true (by omega)) ?_
        refine ⟨_, rfl, _, rfl, e, _, _, _, rfl, rfl, S1.seq he, by rw [eu]; exact atI_nat (eat (by omega)), ?_⟩
        refine ⟨?_, rfl⟩
        unfold highK
        rw [if_pos c]
        rfl
      · refine iteFe (decide_eq_false (by omega)) ?_
        refine ⟨_, rfl, _, rfl, b, _, _, _, rfl, rfl, S1b, atI_nat qa1, qa, _, 1, _, rfl, rfl, Same.seqT S1 qa2, rfl, ?_⟩
        refine ⟨?_, rfl⟩
        unfold highK
        rw [if_neg c]
        rfl
    rintro σ' H' ⟨rfl, rfl⟩
    refine ⟨_, rfl, _, rfl, n, _, _, _, rfl, rfl, S1n, atI_nat (nat hat), _, rfl, _, rfl, _, _, _, rfl, fun r1 H2 S2 hr1 => ?_⟩
    have S12 := S1.trans S2
    refine ⟨3, rfl, by decide, by decide, for_range (lo := 0) (n := 3) (fun j σ H' => ∃ (r8 : Addr) (v9 : Option V), σ = [some (.ref n), some (.ref b), some (.int (at_ : Nat)), some (.ref e), some (.ref r), some (.int (lowK lo es at_ u)), some (.int (0 + (u : Int))), some (.int (highK hi es at_ u)), some (.ref r8), v9] ∧ Same H H' ∧ RowsAt K H' r (sliced ns lo hi es at_ u) ∧ RowAt K H' r8 (rowOf ns lo hi at_ (lowK lo es at_ u) (highK hi es at_ u) j)) ⟨r1, _, rfl, S12, hR.mono S2, by simpa [rowOf] using hr1⟩ ?_ ?_⟩
    · rintro j σ H3 hj3 ⟨r8, v9, rfl, S3, hR3, hrow⟩
      have ej : (0 : Int) + (j : Int) = (j : Int) := by omega
      have rsucc : rowOf ns lo hi at_ (lowK lo es at_ u) (highK hi es at_ u) (j + 1) = rowOf ns lo hi at_ (lowK lo es at_ u) (highK hi es at_ u) j ++ if j = at_ then [] else side (ns.getD j "") (lo.getD j 0) (hi.getD j 0) := by
        unfold rowOf
        rw [List.range_succ, List.flatMap_append, List.append_assoc]
        simp
      refine ⟨_, rfl, _, rfl, rfl, _, rfl, ?_⟩
      by_cases c : j = at_
      · refine iteFe (by rw [ej, c, decide_eq_true rfl]; rfl) ?_
        exact ⟨r8, _, rfl, S3, hR3, by rw [rsucc, if_pos c, List.append_nil]; exact hrow⟩
      · refine iteTe (by rw [ej, decide_eq_false fun z => c (by injection z with z; omega)]; rfl) ?_
        obtain ⟨qj, qj1, qj2⟩ := bat hj3
        have qj3 := Same.seqT S3 qj2
        refine ⟨_, rfl, _, rfl, _, rfl, n, _, _, _, rfl, rfl, S3.seq hn, by rw [ej]; exact atI_nat (nat hj3), ?_⟩
        refine ⟨_, rfl, _, rfl, b, _, _, _, rfl, rfl, S3.seq hb1, by rw [ej]; exact atI_nat qj1, qj, _, 0, _, rfl, rfl, qj3, rfl, ?_⟩
        refine ⟨_, rfl, _, rfl, b, _, _, _, rfl, rfl, S3.seq hb1, by rw [ej]; exact atI_nat qj1, qj, _, 1, _, rfl, rfl, qj3, rfl, _, _, _, rfl, fun r2 H4 S4 hr2 => ?_⟩
        obtain ⟨ts, h1, h2⟩ := hrow.mono S4
        obtain ⟨us, g1, g2⟩ := hr2
        have tl1 : ts.length ≤ 100 := by
          rw [h2.1]
          unfold rowOf
          rw [List.length_append]
          have : ((List.range j).flatMap fun j => if j = at_ then [] else side (ns.getD j "") (lo.getD j 0) (hi.getD j 0)).length ≤ (List.range j).length * 2 := Zg.flatMap_len' fun x _ => by
            split
            · simp
            · simp [side]
          rw [List.length_range] at this
          have s2 : ∀ t l h, (side t l h).length = 2 := fun _ _ _ => rfl
          rw [s2]
          omega
        have ul : us.length = 2 := g2.1
        refine ⟨r8, r2, _, _, rfl, rfl, h1, g1, szL (by rw [List.length_map, List.length_map]; omega), fun c8 H5 S5 hc8 => ?_⟩
        rw [← List.map_append] at hc8
        refine ⟨c8, _, rfl, S3.trans (S4.trans S5), hR3.mono (S4.trans S5), ts ++ us, hc8, ?_⟩
        rw [rsucc, if_neg c]
        exact (h2.mono S5).app (g2.mono S5)
    · rintro σ H3 ⟨r8, v9, rfl, S3, hR3, hrow⟩
      refine ⟨_, rfl, _, rfl, sz (by simp), fun t nt => ?_⟩
      have St := Same.new (o := HO.tup [V.ref r8]) nt
      obtain ⟨rs, h1, h2⟩ := hR3.mono St
      have rl : rs.length ≤ 6 := by
        rw [h2.1]
        unfold sliced
        rw [List.length_map, List.length_range]
        omega
      refine ⟨r, t, _, _, rfl, rfl, h1, SqT.of upd_same, szL (by rw [List.length_map]; simp; omega), fun c4 H4 S4 hc4 => ⟨_, rfl, _, 1, rfl, rfl, _, _, rfl, ?_⟩⟩
      have S34 := St.trans S4
      replace hc4 : SqT K H4 c4 ((rs ++ [r8]).map V.ref) := by rw [List.map_append]; exact hc4
      refine ⟨c4, _, _, _, _, _, rfl, S3.trans S34, ⟨rs ++ [r8], hc4, ?_⟩, fun h6 => ?_⟩
      rotate_left
      · have e1 : highK hi es at_ u = es.getD u 0 := if_pos (by omega)
        have e2 : lowK lo es at_ (u + 1) = es.getD u 0 + 1 := if_neg (by omega)
        rw [e2, ← e1]
      · have : sliced ns lo hi es at_ (u + 1) = sliced ns lo hi es at_ u ++ [rowOf ns lo hi at_ (lowK lo es at_ u) (highK hi es at_ u) 3] := by
          unfold sliced
          rw [List.range_succ, List.map_append]
          rfl
        rw [this]
        exact (h2.mono S4).app (RowsIn.one (hrow.mono S34))
  · rintro σ H1 ⟨r, lw, v6, v7, v8, v9, rfl, S1, hR, _⟩
    exact ⟨_, rfl, k r H1 S1 hR⟩
end
end K18

namespace K18
open PySem L2 Bx
section
variable {P : Program} {w : World} {K : PySem.W.Frag} {mg : Str → Option Value} {base : Heap} {CC CS aB : Addr}
def spCheckTerm (K : PySem.W.Frag) : Sp := fun vs H Q _ => ∃ (t : Str) (p : Addr) (ns : List Str), vs = [.str t, .ref p] ∧ SqT K H p (ns.map V.str) ∧ (t = "" ∨ t ∈ ns) ∧ Q .non H
theorem ok_check_term {f : Addr} {fd : FuncData} (F : C8.Def K mg "check_term" s_check_term f fd) (b : Binds K fd ["term", "names"] []) (T : Txt K mg CC CS aB) : C8.Cal P w K mg base 1 "check_term" (spCheckTerm K) [] := by
  refine C8.cal0 F b .nil sc_check_term (fun vs H Q E h => ?_) (fun cdv A outer s H vs Q E hr h => ?_)
  · obtain ⟨t, p, ns, rfl, _⟩ := h
    rfl
  obtain ⟨t, p, ns, rfl, hp, ht, k⟩ := h
  refine ⟨_, (pss_one (ps_if (PW.pt (pw_or (pt_not (pt_val (pe_callB call_isi (by rfl) T.z_isinstance (by decide +kernel) (pa_cons (pv 0) (pa_cons (pe_bltn (v := .ty "str") (by rfl) T.z_str (by decide +kernel) rfl) pa_nil))))) (pw_or1 (PW.pt (pw_and (pt_cmpR op_ne (pv 0) pe_str (nomark _)) (pw_and1 (pt_cmpR op_notIn_seq (pv 0) (pv 1) (by rfl)))))))) pss_never pss_nil)), ?_⟩
  refine ⟨_, rfl, _, _, _, _, true, rfl, .ty _, .base (.str _), rfl, _, rfl, ?_⟩
  refine iteF ⟨_, rfl, rfl, _, rfl, ?_⟩
  by_cases e : t = ""
  · exact iteFe (by rw [e]; rfl) (iteF k)
  · refine iteTe (by rw [decide_eq_false fun z => e (by injection z)]; rfl) ?_
    refine ⟨_, rfl, _, rfl, p, _, rfl, .inr hp, rfl, flat_strs ns, _, rfl, ?_⟩
    rw [inV_strs, decide_eq_true (ht.resolve_left e)]
    exact iteF k
/-- the bound of a difference over the states of a plain part -/
def BoundOk (m : Nat) (d : Zn.Z) (i j : Nat) (o : Option Int) : Prop := (o = none → ∀ c : Int, ∃ x, Zn.Sat m d x ∧ x j + c < x i) ∧ ∀ c, o = some c → (∀ x, Zn.Sat m d x → x i ≤ x j + c) ∧ ∃ x, Zn.Sat m d x ∧ x i = x j + c
def spMost (K : PySem.W.Frag) : Sp := fun vs H Q _ => ∃ (p pp : Addr) (m i j : Nat) (d : Zn.Z), vs = [.ref p, .int (i : Nat), .int (j : Nat)] ∧ SqT K H p [V.ref pp] ∧ IsPt K H m pp (some d, []) ∧ Zn.Closed m d ∧ i < m ∧ j < m ∧ m ≤ 900 ∧
  ∀ o H', Same H H' → BoundOk m d i j o → Q (optV o) H'
theorem ok_most_apart {f : Addr} {fd : FuncData} (F : C8.Def K mg "most_apart" s_most_apart f fd) (b : Binds K fd ["parts", "i", "j"] []) (T : Txt K mg CC CS aB) (K_opened : C8.Cal P w K mg base 74 "opened" (spOpened K) []) : C8.Cal P w K mg base 75 "most_apart" (spMost K) [] := by
  refine C8.cal0 F b .nil sc_most_apart (fun vs H Q E h => ?_) (fun cdv A outer s H vs Q E hr h => ?_)
  · obtain ⟨p, pp, m, i, j, d, rfl, _⟩ := h
    rfl
  obtain ⟨p, pp, m, i, j, d, rfl, hp, hpt, hC, hi, hj, h900, k⟩ := h
  refine ⟨_, (pss_cons (ps_set (i := 3) sc_most_apart.nd rfl (Or.inl rfl) pe_non)
    (pss_cons (ps_set (i := 4) sc_most_apart.nd rfl (Or.inl rfl) (pe_callTy call_list_of (by rfl) T.z_list (by decide +kernel) (pa_cons (pv 0) pa_nil)))
    (pss_cons (ps_while PassesOwn.never (pt_truth (pv 4) (by intro _; rfl)) (pss_cons (ps_set (i := 5) sc_most_apart.nd rfl (Or.inl rfl) (C8.pe_c K_opened hr (by decide) (by rfl) (pa_cons (pe_bm0 PySem.F.plainAttrs_list PySem.F.slot_list_pop PySem.F.type_list_pop mt_pop (pv 4)) pa_nil)))
    (pss_one (ps_if (pt_cmpR op_notN (pv 5) pe_non (nomark _)) (pss_cons (ps_set (i := 6) sc_most_apart.nd rfl (Or.inl rfl) (pe_ix ix_tup (pe_ix ix_tup (pe_ix ix_tup (pv 5) pe_int (fun _ _ => rfl)) (pv 1) (fun _ _ => rfl)) (pv 2) (fun _ _ => rfl)))
    (pss_one (ps_if (PW.pt (pw_or (pt_cmpR op_isN (pv 3) pe_non (nomark _)) (pw_or (pt_cmpR op_isN (pv 6) pe_non (nomark _)) (pw_or1 (pt_cmpR op_gt (pv 6) (pv 3) (nomark _)))))) (pss_one (ps_if (pt_truth (pe_ix ix_tup (pv 5) pe_int (fun _ _ => rfl)) (by intro _; rfl)) pss_never (pss_one (ps_if (pt_cmpR op_isN (pv 6) pe_non (nomark _)) (pss_one (ps_ret pe_non)) (pss_one (ps_set (i := 3) sc_most_apart.nd rfl (Or.inl rfl) (pv 6))))))) pss_nil))) pss_nil))))
    (pss_one (ps_ret (pv 3)))))), ?_⟩
  refine ⟨_, rfl, p, _, rfl, .inr hp, fun l nl => ?_⟩
  have Sl := Same.new (o := HO.lst [V.ref pp]) nl
  dsimp only [gName, tSeq, tAsg, tC]
  refine while_g (fun n σ H' => ∃ (vm : V) (v5 v6 : Option V), σ = [some (.ref p), some (.int (i : Nat)), some (.int (j : Nat)), some vm, some (.ref l), v5, v6] ∧ Same H H' ∧ ((n = 1 ∧ vm = .non ∧ H' l = some (.lst [V.ref pp])) ∨ (n = 0 ∧ H' l = some (.lst []) ∧ ∃ o, vm = optV o ∧ BoundOk m d i j o))) 1 ⟨.non, none, none, rfl, Sl, .inl ⟨rfl, rfl, upd_same⟩⟩ ?_ ?_
  · rintro n σ H1 ⟨vm, v5, v6, rfl, S1, ⟨rfl, rfl, hl⟩ | ⟨rfl, hl, o, rfl, hb⟩⟩
    · refine ⟨_, rfl, true, .inl ⟨_, SqL.of hl, rfl⟩, iteT ?_⟩
      refine ⟨_, rfl, .inl ⟨rfl, _, SqL.of hl⟩, l, [V.ref pp], .ref pp, rfl, rfl, hl, rfl, ?_⟩
      have S2 := Same.mut (o := HO.lst []) S1 nl
      have hl2 : upd H1 l (.lst []) l = some (.lst []) := upd_same
      obtain ⟨m, rfl⟩ : ∃ m', m = m' + 1 := ⟨m - 1, by omega⟩
      refine ⟨pp, m + 1, (some d, []), rfl, hpt.mono S2, ⟨fun d' e => by cases e; exact hC, trivial, Nat.zero_le _, Nat.zero_le _⟩, h900, fun H3 S3 hno => ?_, fun q d2 cs H3 S3 hq hokq hle => ?_⟩
      · exact absurd (Zg.in_plain.mpr (Zn.some_state hC).1) (hno _)
      have hz0 : Zg.szs cs = 0 := by
        have := hle.sz
        simpa [Zg.szs] using this
      have hcs := Zg.len_szs cs
      have ecs : cs = [] := List.length_eq_zero_iff.mp (by omega)
      subst ecs
      have hC2 := hokq.cl d2 rfl
      have hst : ∀ x, Zn.Sat (m + 1) d2 x ↔ Zn.Sat (m + 1) d x := fun x => by
        have := hle.st x
        rw [Zg.in_plain, Zg.in_plain] at this
        exact this
      have hb : BoundOk (m + 1) d i j (d2 i j) := by
        constructor
        · intro e c
          obtain ⟨x, h1, _, h2⟩ := Zn.no_bound hC2 hi hj e (c + 1)
          exact ⟨x, (hst x).mp h1, by omega⟩
        · intro c e
          obtain ⟨x, h1, _, h2⟩ := Zn.at_bound hC2 hi hj e
          exact ⟨fun y hy => (hst y).mpr hy i j c hi hj e, x, (hst x).mp h1, h2⟩
      obtain ⟨v, c, gs, hq0, ⟨z, rfl, hz⟩, hc, hG⟩ := id hq
      have egs : gs = [] := List.length_eq_zero_iff.mp hG.len
      subst egs
      obtain ⟨zr, hzs, hzl, hz1⟩ := id hz
      obtain ⟨rr, hrr⟩ : ∃ rr, zr[i]? = some rr := ⟨_, List.getElem?_eq_getElem (by rw [hzl]; exact hi)⟩
      have hl3 := S3 _ _ hl2
      have S03 := S2.trans S3
      refine ⟨_, rfl, rfl, _, rfl, iteT ?_⟩
      refine ⟨_, rfl, q, _, 0, _, rfl, rfl, hq0, rfl, _, rfl, z, _, _, _, rfl, rfl, hzs, atI_nat (by rw [List.getElem?_map, hrr]; rfl), _, rfl, rr, _, _, _, rfl, rfl, hz1 i rr hrr, atI_nat (rowV_at hj), ?_⟩
      refine ⟨_, rfl, rfl, _, rfl, iteT (iteT ?_)⟩
      refine ⟨_, rfl, q, _, 1, _, rfl, rfl, hq0, rfl, false, .inr (.inl ⟨_, hc, rfl⟩), iteF ?_⟩
      cases e : d2 i j with
      | none =>
        refine ⟨_, rfl, rfl, _, rfl, iteT ?_⟩
        rw [e] at hb
        exact k none H3 S03 hb
      | some a =>
        refine ⟨_, rfl, rfl, _, rfl, iteF ?_⟩
        rw [e] at hb
        exact ⟨_, rfl, 0, by omega, .int a, _, _, rfl, S03, .inr ⟨rfl, hl3, some a, rfl, hb⟩⟩
    · refine ⟨_, rfl, false, .inl ⟨_, SqL.of hl, rfl⟩, iteF ?_⟩
      exact ⟨_, rfl, k o H1 S1 hb⟩
  · rintro σ H Q Q' hq ⟨v, hv, kk, t, q⟩
    exact ⟨v, hv, kk, t, hq _ _ q⟩
/-- States.bound of a set of one plain part -/
def spBound (K : PySem.W.Frag) (CC CS : Addr) : Sp := fun vs H Q _ => ∃ (o : Addr) (ys : List Str) (d : Zn.Z) (t u : Str), vs = [.ref o, .str t, .str u] ∧ StsAt K CC CS H o ys [(some d, [])] ∧ Zn.Closed (ys.length + 1) d ∧ ys.length ≤ 19 ∧ (t = "" ∨ t ∈ ys) ∧ (u = "" ∨ u ∈ ys) ∧
  ∀ p H', Same H H' → BoundOk (ys.length + 1) d (ixOf ys t) (ixOf ys u) p → Q (optV p) H'
theorem ok_States_bound {f : Addr} {fd : FuncData} (me : Meth K CS "bound" f) (F : C8.Fun K "bound" "States.bound" s_States_bound f fd) (b : Binds K fd ["self", "left", "right"] []) (T : Txt K mg CC CS aB) (K_check_term : C8.Cal P w K mg base 1 "check_term" (spCheckTerm K) []) (K_is_empty : C8.Met P w K mg base 1 CS "is_empty" (spEmpty K CC CS) [])
    (K_most_apart : C8.Cal P w K mg base 75 "most_apart" (spMost K) []) (K__index : C8.Met P w K mg base 1 CS "_index" (spIndex K CS) []) : C8.Met P w K mg base 76 CS "bound" (spBound K CC CS) [] := by
  refine C8.met0 T.cS me F b sc_States_bound (fun vs H Q E h => ?_) (fun cdv A outer s H vs Q E hr h => ?_)
  · obtain ⟨o, ys, d, t, u, rfl, _⟩ := h
    rfl
  obtain ⟨o, ys, d, t, u, rfl, ho, hC, h19, ht, hu', k⟩ := h
  obtain ⟨dx, tn, c, h1, h2, dc, pp, ps, h3, h4, h5⟩ := id ho
  refine ⟨_, (pss_cons (ps_expr (C8.pe_c K_check_term hr (by decide) (by rfl) (pa_cons (pv 1) (pa_cons (pe_fld (pv 0) rfl) pa_nil))))
    (pss_cons (ps_expr (C8.pe_c K_check_term hr (by decide) (by rfl) (pa_cons (pv 2) (pa_cons (pe_fld (pv 0) rfl) pa_nil))))
    (pss_cons (ps_if (pt_val (C8.pe_mt0 K_is_empty hr (by decide) (pv 0))) pss_never pss_nil)
    (pss_one (ps_ret (C8.pe_c K_most_apart hr (by decide) (by rfl) (pa_cons (pe_fld (pe_fld (pv 0) rfl) rfl) (pa_cons (C8.pe_mt K__index hr (by decide) (pv 0) (pa_cons (pv 1) pa_nil)) (pa_cons (C8.pe_mt K__index hr (by decide) (pv 0) (pa_cons (pv 2) pa_nil)) pa_nil))))))))), ?_⟩
  refine ⟨_, rfl, _, rfl, o, CS, dx, [("names", .ref tn), ("_cover", .ref c)], .ref tn, rfl, h1, T.cS, T.nS.1, rfl, t, tn, ys, rfl, h2.sq, ht, ?_⟩
  refine ⟨_, rfl, _, rfl, o, CS, dx, [("names", .ref tn), ("_cover", .ref c)], .ref tn, rfl, h1, T.cS, T.nS.1, rfl, u, tn, ys, rfl, h2.sq, hu', ?_⟩
  refine ⟨_, rfl, o, dx, _, rfl, h1, rfl, o, ys, _, rfl, ho, _, rfl, iteF ?_⟩
  refine ⟨_, rfl, o, CS, dx, [("names", .ref tn), ("_cover", .ref c)], .ref c, rfl, h1, T.cS, T.nS.2, rfl, c, CC, dc, _, .ref pp, rfl, h3, T.cC, T.nC, rfl, ?_⟩
  refine ⟨_, rfl, o, dx, _, rfl, h1, rfl, _, rfl, o, dx, tn, _, ys, t, rfl, h1, rfl, h2, ht, ?_⟩
  refine ⟨_, rfl, o, dx, _, rfl, h1, rfl, _, rfl, o, dx, tn, _, ys, u, rfl, h1, rfl, h2, hu', ?_⟩
  obtain ⟨q, hq, hq2⟩ := h5.2 0 _ rfl
  have hl : ps.length = 1 := h5.1
  have eps : ps = [q] := by
    match ps, hl, hq with
    | [a], _, hq => cases hq; rfl
  subst eps
  exact ⟨pp, q, ys.length + 1, ixOf ys t, ixOf ys u, d, rfl, h4, hq2, hC, ix_lt ht, ix_lt hu', by omega, fun p H' S hp => k p H' S hp⟩
end
end K18

namespace K18
open PySem L2 Bx
def cn : List Str := ["b", "ab", "value", "c", "zz", "d", "aa", "y", "x"]
theorem cn_pos : ∀ i, i < 9 → posOf cn (cn.getD i "") = i := by decide +kernel
theorem cn_mem : ∀ t ∈ cn, ∃ i, i < 9 ∧ t = cn.getD i "" := by decide +kernel
def links (nums : List Int) : List Lt := (List.range nums.length).map fun i => (cn.getD i "", cn.getD (i + 1) "", nums.getD i 0)
theorem links_snoc (nums : List Int) (v : Int) : links (nums ++ [v]) = links nums ++ [(cn.getD nums.length "", cn.getD (nums.length + 1) "", v)] := by
  unfold links
  rw [List.length_append, List.length_singleton, List.range_succ, List.map_append]
  congr 1
  · refine List.map_congr_left fun i hi => ?_
    have := List.mem_range.mp hi
    have e : (nums ++ [v]).getD i 0 = nums.getD i 0 := by rw [List.getD_eq_getElem?_getD, List.getD_eq_getElem?_getD, List.getElem?_append_left this]
    rw [e]
  · have e : (nums ++ [v]).getD nums.length 0 = v := by rw [List.getD_eq_getElem?_getD, List.getElem?_append_right (Nat.le_refl _)]; simp
    rw [List.map_cons, List.map_nil, e]
theorem links_at {nums : List Int} {i : Nat} (h : i < nums.length) : (cn.getD i "", cn.getD (i + 1) "", nums.getD i 0) ∈ links nums := List.mem_map.mpr ⟨i, List.mem_range.mpr h, rfl⟩
theorem take_sum {nums : List Int} {k : Nat} (h : k < nums.length) : (nums.take (k + 1)).sum = (nums.take k).sum + nums.getD k 0 := by
  have e := List.getElem?_eq_getElem h
  rw [take_snoc e, List.sum_append, List.getD_eq_getElem?_getD, e, List.sum_cons, List.sum_nil, Int.add_zero]
  rfl
theorem drop_sum {nums : List Int} {k : Nat} (h : k < nums.length) : (nums.drop k).sum = nums.getD k 0 + (nums.drop (k + 1)).sum := by
  rw [List.drop_eq_getElem_cons h, List.sum_cons, List.getD_eq_getElem?_getD, List.getElem?_eq_getElem h]
  rfl
theorem chain_le {nums : List Int} {g : Str → Int} (h : ∀ q ∈ links nums, g q.1 ≤ g q.2.1 + q.2.2) : ∀ k, k ≤ nums.length → g (cn.getD 0 "") ≤ g (cn.getD k "") + (nums.take k).sum
  | 0, _ => by simp
  | k + 1, hk => by
    have ih := chain_le h k (by omega)
    have := h _ (links_at (i := k) (by omega))
    dsimp only at this
    rw [take_sum (by omega)]
    omega
theorem sum_bound {B : Int} (hB : 0 ≤ B) : ∀ {nums : List Int}, (∀ v ∈ nums, -B ≤ v ∧ v ≤ B) → -(nums.length * B) ≤ nums.sum ∧ nums.sum ≤ nums.length * B
  | [], _ => by simp
  | a :: l, h => by
    obtain ⟨h1, h2⟩ := sum_bound hB (nums := l) fun v hv => h v (List.mem_cons_of_mem _ hv)
    obtain ⟨h3, h4⟩ := h a List.mem_cons_self
    rw [List.sum_cons, List.length_cons]
    have e : ((l.length + 1 : Nat) : Int) * B = (l.length : Int) * B + B := by
      rw [Int.natCast_add, Int.add_mul]
      simp
    rw [e]
    omega
theorem getD_bound {B : Int} {nums : List Int} (h : ∀ v ∈ nums, -B ≤ v ∧ v ≤ B) {i : Nat} (hi : i < nums.length) : -B ≤ nums.getD i 0 ∧ nums.getD i 0 ≤ B := by
  rw [List.getD_eq_getElem?_getD, List.getElem?_eq_getElem hi]
  exact h _ (List.getElem_mem hi)
/-- loose literals -/
def Loose (L : List Lt) : Prop := ∀ q ∈ L, q.1 ∈ cn ∧ q.2.1 ∈ cn ∧ q.2.2 = 10 ^ 40
def tight (nums : List Int) (t : Str) : Int := (nums.drop (posOf cn t)).sum
def wide (t : Str) : Int := if posOf cn t = 8 then 10 ^ 40 else (posOf cn t : Int) * 10 ^ 21
theorem vl_cn {f : Str → Int} : ∀ t ∈ cn, vl f t = f t := by
  intro t ht
  unfold vl
  rw [if_neg ((by decide +kernel : ∀ t ∈ cn, t ≠ ("" : Str)) t ht)]
theorem cn_in : ∀ i, i < 9 → cn.getD i "" ∈ cn := by decide +kernel
theorem meets_of {f : Str → Int} {nums : List Int} {L : List Lt} (hl : nums.length = 8) (hL : Loose L) (h1 : ∀ i, i < 8 → f (cn.getD i "") ≤ f (cn.getD (i + 1) "") + nums.getD i 0) (h2 : ∀ s ∈ cn, ∀ t ∈ cn, f s ≤ f t + 10 ^ 40) : meetsB f (links nums ++ L) = true := by
  unfold meetsB
  rw [List.all_eq_true]
  intro q hq
  refine decide_eq_true ?_
  rcases List.mem_append.mp hq with hq | hq
  · obtain ⟨i, hi, rfl⟩ := List.mem_map.mp hq
    have hi := List.mem_range.mp hi
    dsimp only
    rw [vl_cn _ (cn_in i (by omega)), vl_cn _ (cn_in (i + 1) (by omega))]
    exact h1 i (by omega)
  · obtain ⟨a, b, c⟩ := hL q hq
    rw [vl_cn _ a, vl_cn _ b, c]
    exact h2 _ a _ b
theorem tight_ok {nums : List Int} {L : List Lt} (hl : nums.length = 8) (hb : ∀ v ∈ nums, -(10 ^ 20 : Int) ≤ v ∧ v ≤ 10 ^ 20) (hL : Loose L) : meetsB (tight nums) (links nums ++ L) = true ∧ tight nums (cn.getD 0 "") = nums.sum ∧ tight nums (cn.getD 8 "") = 0 := by
  refine ⟨meets_of hl hL (fun i hi => ?_) (fun s hs t ht => ?_), ?_, ?_⟩
  · unfold tight
    rw [cn_pos i (by omega), cn_pos (i + 1) (by omega), drop_sum (by omega)]
    omega
  · have bd : ∀ k, -(8 * 10 ^ 20 : Int) ≤ (nums.drop k).sum ∧ (nums.drop k).sum ≤ 8 * 10 ^ 20 := fun k => by
      obtain ⟨h1, h2⟩ := sum_bound (B := 10 ^ 20) (by decide) (nums := nums.drop k) fun v hv => hb v (List.mem_of_mem_drop hv)
      have : ((nums.drop k).length : Int) * 10 ^ 20 ≤ 8 * 10 ^ 20 := Int.mul_le_mul_of_nonneg_right (by rw [List.length_drop]; omega) (by decide)
      omega
    unfold tight
    have a := bd (posOf cn s)
    have b := bd (posOf cn t)
    have : (16 * 10 ^ 20 : Int) ≤ 10 ^ 40 := by decide
    omega
  · unfold tight
    rw [cn_pos 0 (by decide)]
    rfl
  · unfold tight
    rw [cn_pos 8 (by decide), List.drop_eq_nil_of_le (by omega)]
    rfl
theorem wide_ok {nums : List Int} {L : List Lt} (hl : nums.length = 8) (hb : ∀ v ∈ nums, -(10 ^ 20 : Int) ≤ v ∧ v ≤ 10 ^ 20) (hL : Loose L) : meetsB wide (links nums ++ L) = true ∧ wide (cn.getD 0 "") = 0 ∧ wide (cn.getD 8 "") = 10 ^ 40 := by
  refine ⟨meets_of hl hL (fun i hi => ?_) (fun s hs t ht => ?_), ?_, ?_⟩
  · have h1 := (getD_bound hb (i := i) (by omega)).1
    unfold wide
    rw [cn_pos i (by omega), cn_pos (i + 1) (by omega), if_neg (by omega)]
    by_cases c : i + 1 = 8
    · rw [if_pos c]
      have : i = 7 := by omega
      subst this
      have : (7 * 10 ^ 21 + 10 ^ 20 : Int) ≤ 10 ^ 40 := by decide
      omega
    · rw [if_neg c]
      have : ((i + 1 : Nat) : Int) * 10 ^ 21 = (i : Int) * 10 ^ 21 + 10 ^ 21 := by
        rw [Int.natCast_add, Int.add_mul]
        simp
      have h3 : (10 ^ 20 : Int) ≤ 10 ^ 21 := by decide
      omega
  · have bd : ∀ t ∈ cn, 0 ≤ wide t ∧ wide t ≤ 10 ^ 40 := fun t ht => by
      obtain ⟨i, hi, rfl⟩ := cn_mem t ht
      unfold wide
      rw [cn_pos i hi]
      by_cases c : i = 8
      · rw [if_pos c]
        decide
      · rw [if_neg c]
        have : (i : Int) * 10 ^ 21 ≤ 8 * 10 ^ 21 := Int.mul_le_mul_of_nonneg_right (by omega) (by decide)
        have h2 : (8 * 10 ^ 21 : Int) ≤ 10 ^ 40 := by decide
        have h3 : (0 : Int) ≤ (i : Int) * 10 ^ 21 := Int.mul_nonneg (by omega) (by decide)
        omega
    have a := bd s hs
    have b := bd t ht
    omega
  · unfold wide
    rw [cn_pos 0 (by decide)]
    rfl
  · unfold wide
    rw [cn_pos 8 (by decide)]
    rfl
end K18

namespace K18
open PySem L2 Bx
theorem cn_len : cn.length = 9 := rfl
theorem cn_ok : (∀ x ∈ cn, labelB x = true) ∧ (∀ x ∈ cn, PyData.strOk x = true) ∧ (∀ x ∈ cn, x.length ≤ 1000) ∧ (∀ x ∈ cn, x ≠ ("" : Str)) ∧ cn.Nodup := by decide +kernel
theorem cn_at {i : Nat} (h : i < 9) : (cn.map V.str)[i]? = some (.str (cn.getD i "")) := by
  have hl : i < cn.length := h
  rw [List.getElem?_map, List.getElem?_eq_getElem hl, List.getD_eq_getElem?_getD, List.getElem?_eq_getElem hl]
  rfl
theorem cn_atI : ∀ (i : Int), -8 ≤ i → i ≤ 7 → ∃ t ∈ cn, atI (cn.map V.str) i = some (.str t) := by
  intro i h1 h2
  have : i = -8 ∨ i = -7 ∨ i = -6 ∨ i = -5 ∨ i = -4 ∨ i = -3 ∨ i = -2 ∨ i = -1 ∨ i = 0 ∨ i = 1 ∨ i = 2 ∨ i = 3 ∨ i = 4 ∨ i = 5 ∨ i = 6 ∨ i = 7 := by omega
  rcases this with rfl | rfl | rfl | rfl | rfl | rfl | rfl | rfl | rfl | rfl | rfl | rfl | rfl | rfl | rfl | rfl <;> exact ⟨_, by simp [cn], rfl⟩
section
variable {P : Program} {w : World} {K : PySem.W.Frag} {mg : Str → Option Value} {base : Heap} {CC CS aB : Addr}
def spChain : Sp := fun vs H Q _ => ∃ (l : Addr), vs = [.ref l] ∧ WellAt H l ∧ ∀ H', WellAt H' l → But l H H' → Q (.bl true) H'
theorem ok_l_chain {f : Addr} {fd : FuncData} (F : C8.Def K mg "_law_chain" s_l_chain f fd) (b : Binds K fd ["_law_well_here"] []) (T : Txt K mg CC CS aB) (K_l_draw : C8.Cal P w K mg base 1 "_law_draw" spDraw []) (K_States : C8.Mak P w K mg base 79 "States" CS (spStates K CC CS) []) (K_bound : C8.Met P w K mg base 76 CS "bound" (spBound K CC CS) []) :
    C8.Cal P w K mg base 81 "_law_chain" spChain [] := by
  refine C8.cal0 F b .nil sc_l_chain (fun vs H Q E h => ?_) (fun cdv A outer s H vs Q E hr h => ?_)
  · obtain ⟨l, rfl, _⟩ := h
    rfl
  obtain ⟨l, rfl, hW, k⟩ := h
  refine ⟨_, (pss_cons (ps_set (i := 1) sc_l_chain.nd rfl (Or.inl rfl) (pe_lst (pa_cons pe_str (pa_cons pe_str (pa_cons pe_str (pa_cons pe_str (pa_cons pe_str (pa_cons pe_str (pa_cons pe_str (pa_cons pe_str (pa_cons pe_str pa_nil)))))))))))
    (pss_cons (ps_asg (pe_tup (pa_cons (pe_tup pa_nil) (pa_cons pe_int pa_nil))) (pg_tup (by rfl) (pgs_cons (pg_name (i := 2) sc_l_chain.nd rfl (Or.inl rfl)) (pgs_cons (pg_name (i := 3) sc_l_chain.nd rfl (Or.inl rfl)) pgs_nil))))
    (pss_cons (ps_for PassesOwn.never rfl (pi_range1 (by rfl) T.z_range (pa_cons pe_int pa_nil)) (pg_name (i := 4) sc_l_chain.nd rfl (Or.inl rfl))
    (pss_cons (ps_set (i := 5) sc_l_chain.nd rfl (Or.inl rfl) (pe_op op_sub (C8.pe_c K_l_draw hr (by decide) (by rfl) (pa_cons (pv 0) (pa_cons (pe_op op_mul pe_int (pe_op op_pow pe_int pe_int)) pa_nil))) (pe_op op_pow pe_int pe_int)))
    (pss_one (ps_par (i := 2) (j := 3) (by rfl) sc_l_chain.nd rfl rfl (by decide) rfl rfl (pa_cons (pe_op op_catU (pv 2) (pe_tup (pa_cons (pe_tup (pa_cons (pe_ix ix_list (pv 1) (pv 4) (fun _ _ => rfl)) (pa_cons (pe_ix ix_list (pv 1) (pe_op op_add (pv 4) pe_int) (fun _ _ => rfl)) (pa_cons (pv 5) pa_nil)))) pa_nil))) (pa_cons (pe_op op_add (pv 3) (pv 5)) pa_nil)) (by rfl)))))
    (pss_cons (ps_for PassesOwn.never rfl (pi_range1 (by rfl) T.z_range (pa_cons pe_int pa_nil)) (pg_name (i := 4) sc_l_chain.nd rfl (Or.inl rfl))
    (pss_cons (ps_set (i := 6) sc_l_chain.nd rfl (Or.inl rfl) (C8.pe_c K_l_draw hr (by decide) (by rfl) (pa_cons (pv 0) (pa_cons pe_int pa_nil))))
    (pss_one (ps_set (i := 2) sc_l_chain.nd rfl (Or.inl rfl) (pe_op op_catU (pv 2) (pe_tup (pa_cons (pe_tup (pa_cons (pe_ix ix_list (pv 1) (pv 6) (fun _ _ => rfl)) (pa_cons (pe_ix ix_list (pv 1) (pe_op op_sub (pe_op op_sub (pv 6) pe_int) (C8.pe_c K_l_draw hr (by decide) (by rfl) (pa_cons (pv 0) (pa_cons pe_int pa_nil)))) (fun _ _ => rfl)) (pa_cons (pe_op op_pow pe_int pe_int) pa_nil)))) pa_nil)))))))
    (pss_cons (ps_set (i := 7) sc_l_chain.nd rfl (Or.inl rfl) (C8.pe_mk K_States hr (by decide) (by rfl) (pa_cons (pe_callTy call_tuple_of (by rfl) T.z_tuple (by decide +kernel) (pa_cons (pe_revL (pv 1)) pa_nil)) (pa_cons (pe_tup (pa_cons (pv 2) pa_nil)) pa_nil))))
    (pss_cons (ps_set (i := 8) sc_l_chain.nd rfl (Or.inl rfl) (C8.pe_mt K_bound hr (by decide) (pv 7) (pa_cons pe_str (pa_cons pe_str pa_nil))))
    (pss_one (ps_ret (pe_and (pe_cmpR op_eq (C8.pe_mt K_bound hr (by decide) (pv 7) (pa_cons pe_str (pa_cons pe_str pa_nil))) (pv 3) (nomark _)) (pe_one (pe_or (pe_cmpR op_isN (pv 8) pe_non (nomark _)) (pe_one (pe_cmpR op_ge (pv 8) (pe_op op_pow pe_int pe_int) (nomark _)))))))))))))), ?_⟩
  refine ⟨sz (by simp), fun n nn => ?_⟩
  rw [show ([V.str "b", V.str "ab", V.str "value", V.str "c", V.str "zz", V.str "d", V.str "aa", V.str "y", V.str "x"] : List V) = cn.map V.str from rfl]
  have Sn := Same.new (o := HO.lst (cn.map V.str)) nn
  have hn : upd H n (HO.lst (cn.map V.str)) n = some (.lst (cn.map V.str)) := upd_same
  have hW0 := hW.mono' Sn
  have nl : n ≠ l := fun e => by
    obtain ⟨_, h⟩ := hW.lst
    rw [e, h] at nn
    cases nn
  have B0 : But l H (upd H n (HO.lst (cn.map V.str))) := But.of Sn
  generalize upd H n (HO.lst (cn.map V.str)) = H0 at hn hW0 B0
  refine ⟨sz (by simp), fun r0 nr0 => ⟨sz (by simp), fun t0 nt0 => ?_⟩⟩
  have Sr := Same.new (o := HO.tup []) nr0
  have St := Same.new (o := HO.tup [V.ref r0, V.int 0]) nt0
  have ht0 : SqT K (upd (upd H0 r0 (HO.tup [])) t0 (HO.tup [V.ref r0, V.int 0])) t0 [V.ref r0, V.int 0] := SqT.of upd_same
  have hr0 : RowAt K (upd (upd H0 r0 (HO.tup [])) t0 (HO.tup [V.ref r0, V.int 0])) r0 (links [] ++ []) := ⟨[], Same.seqT St (SqT.of upd_same), LitsAt.nil'⟩
  have Srt := Sr.trans St
  have hn1 := Srt _ _ hn
  have hW1 := hW0.mono' Srt
  have B1 := B0.trans (But.of Srt)
  generalize upd (upd H0 r0 (HO.tup [])) t0 (HO.tup [V.ref r0, V.int 0]) = H1 at ht0 hr0 hn1 hW1 B1 ⊢
  refine ⟨t0, _, rfl, ht0, rfl, _, _, rfl, _, _, rfl, rfl, ?_⟩
  refine ⟨8, rfl, by decide, by decide, for_range (lo := 0) (n := 8) (fun u σ H' => ∃ (r : Addr) (nums : List Int) (v4 v5 v6 v7 v8 : Option V), σ = [some (.ref l), some (.ref n), some (.ref r), some (.int nums.sum), v4, v5, v6, v7, v8] ∧ WellAt H' l ∧ But l H H' ∧ H' n = some (.lst (cn.map V.str)) ∧ RowAt K H' r (links nums ++ []) ∧ nums.length = u ∧ ∀ v ∈ nums, -(10 ^ 20 : Int) ≤ v ∧ v ≤ 10 ^ 20) ⟨r0, [], _, _, _, _, _, rfl, hW1, B1, hn1, hr0, rfl, fun v hv => by cases hv⟩ ?_ ?_⟩
  · rintro u σ H2 hu8 ⟨r, nums, v4, v5, v6, v7, v8, rfl, W2, B2, hn2, hr2, hnl, hnb⟩
    have eu : (0 : Int) + (u : Int) = (u : Int) := by omega
    refine ⟨_, rfl, 10, 20, rfl, rfl, ⟨by decide, by decide, by decide⟩, 2, _, rfl, rfl, ?_⟩
    refine ⟨.inl ⟨by decide, by decide⟩, l, _, rfl, W2, by decide, by decide +kernel, fun x H3 x0 x1 W3 B3 => ?_⟩
    have x1 : x < 2 * 10 ^ 20 := x1
    refine ⟨10, 20, rfl, rfl, ⟨by decide, by decide, by decide⟩, x, _, rfl, rfl, ?_⟩
    have hn3 := B3 _ _ hn2 nl
    obtain ⟨_, hw2⟩ := W2.lst
    have hr3 := hr2.but hw2 B3
    refine ⟨_, rfl, _, rfl, _, rfl, n, _, _, _, rfl, rfl, SqL.of hn3, by rw [eu]; exact atI_nat (cn_at (by omega)), ?_⟩
    refine ⟨_, rfl, _, rfl, _, 1, rfl, rfl, n, _, _, _, rfl, rfl, SqL.of hn3, by rw [show (0 : Int) + (u : Int) + 1 = ((u + 1 : Nat) : Int) by omega]; exact atI_nat (cn_at (by omega)), _, rfl, sz (by simp), fun t1 nt1 => ⟨sz (by simp), fun t2 nt2 => ?_⟩⟩
    have T1 := Same.new (o := HO.tup [V.str (cn.getD u ""), V.str (cn.getD (u + 1) ""), V.int (x - 10 ^ Int.toNat 20)]) nt1
    have T2 := Same.new (o := HO.tup [V.ref t1]) nt2
    have T12 := T1.trans T2
    obtain ⟨ts, h1, h2⟩ := hr3.mono T12
    have tl : ts.length ≤ 100 := by
      rw [h2.1, List.append_nil]
      unfold links
      rw [List.length_map, List.length_range]
      omega
    refine ⟨r, t2, _, _, rfl, rfl, h1, SqT.of upd_same, szL (by rw [List.length_map]; simp; omega), fun c H4 S4 hc => ?_⟩
    refine ⟨_, rfl, _, rfl, _, _, rfl, rfl, _, _, rfl, ?_⟩
    have S34 := T12.trans S4
    replace hc : SqT K H4 c ((ts ++ [t1]).map V.ref) := by rw [List.map_append]; exact hc
    refine ⟨c, nums ++ [x - 10 ^ 20], some (.int (0 + (u : Int))), some (.int (x - 10 ^ 20)), v6, v7, v8, ?_, W3.mono' S34, B2.trans (B3.trans (But.of S34)), S34 _ _ hn3, ⟨ts ++ [t1], hc, ?_⟩, by simp [hnl], fun v hv => ?_⟩
    · have : (nums ++ [x - 10 ^ 20]).sum = nums.sum + (x - 10 ^ 20) := by simp
      rw [this]
      rfl
    · rw [List.append_nil, links_snoc, hnl]
      rw [List.append_nil] at h2
      exact (h2.mono S4).app (LitsAt.one (Same.seqT (T2.trans S4) (SqT.of upd_same)))
    · rcases List.mem_append.mp hv with hv | hv
      · exact hnb v hv
      · rw [List.mem_singleton.mp hv]
        omega
  · rintro σ H2 ⟨r, nums, v4, v5, v6, v7, v8, rfl, W2, B2, hn2, hr2, hnl, hnb⟩
    refine ⟨92, rfl, by decide, by decide, for_range (lo := 0) (n := 92) (fun u σ H' => ∃ (r : Addr) (L : List Lt) (v4 v5 v6 v7 v8 : Option V), σ = [some (.ref l), some (.ref n), some (.ref r), some (.int nums.sum), v4, v5, v6, v7, v8] ∧ WellAt H' l ∧ But l H H' ∧ H' n = some (.lst (cn.map V.str)) ∧ RowAt K H' r (links nums ++ L) ∧ L.length = u ∧ Loose L) ⟨r, [], _, _, _, _, _, rfl, W2, B2, hn2, hr2, rfl, fun v hv => by cases hv⟩ ?_ ?_⟩
    · rintro u σ H3 hu9 ⟨r, L, v4, v5, v6, v7, v8, rfl, W3, B3, hn3, hr3, hLl, hL⟩
      refine ⟨_, rfl, l, 9, rfl, W3, by decide, by decide, fun x H4 x0 x1 W4 B4 => ?_⟩
      have hn4 := B4 _ _ hn3 nl
      obtain ⟨_, hw3⟩ := W3.lst
      have hr4 := hr3.but hw3 B4
      obtain ⟨m, rfl⟩ : ∃ j : Nat, x = (j : Int) := ⟨x.toNat, by omega⟩
      refine ⟨_, rfl, _, rfl, _, rfl, n, _, _, _, rfl, rfl, SqL.of hn4, atI_nat (cn_at (by omega)), ?_⟩
      refine ⟨_, rfl, _, rfl, _, 1, rfl, rfl, _, rfl, l, 8, rfl, W4, by decide, by decide, fun y H5 y0 y1 W5 B5 => ⟨_, y, rfl, rfl, ?_⟩⟩
      have hn5 := B5 _ _ hn4 nl
      obtain ⟨_, hw4⟩ := W4.lst
      have hr5 := hr4.but hw4 B5
      obtain ⟨t, ht, hti⟩ := cn_atI ((m : Int) - 1 - y) (by omega) (by omega)
      refine ⟨n, _, _, _, rfl, rfl, SqL.of hn5, hti, 10, 40, rfl, rfl, ⟨by decide, by decide, by decide⟩, sz (by simp), fun t1 nt1 => ⟨sz (by simp), fun t2 nt2 => ?_⟩⟩
      have T1 := Same.new (o := HO.tup [V.str (cn.getD m ""), V.str t, V.int (10 ^ Int.toNat 40)]) nt1
      have T2 := Same.new (o := HO.tup [V.ref t1]) nt2
      have T12 := T1.trans T2
      obtain ⟨ts, h1, h2⟩ := hr5.mono T12
      have tl : ts.length ≤ 200 := by
        rw [h2.1, List.length_append]
        unfold links
        rw [List.length_map, List.length_range]
        omega
      refine ⟨r, t2, _, _, rfl, rfl, h1, SqT.of upd_same, szL (by rw [List.length_map]; simp; omega), fun c H6 S6 hc => ?_⟩
      have S56 := T12.trans S6
      replace hc : SqT K H6 c ((ts ++ [t1]).map V.ref) := by rw [List.map_append]; exact hc
      refine ⟨c, L ++ [(cn.getD m "", t, 10 ^ 40)], _, _, _, _, _, rfl, W5.mono' S56, B3.trans (B4.trans (B5.trans (But.of S56))), S56 _ _ hn5, ⟨ts ++ [t1], hc, ?_⟩, by simp [hLl], fun q hq => ?_⟩
      · rw [← List.append_assoc]
        exact (h2.mono S6).app (LitsAt.one (Same.seqT (T2.trans S6) (SqT.of upd_same)))
      · rcases List.mem_append.mp hq with hq | hq
        · exact hL q hq
        · rw [List.mem_singleton.mp hq]
          exact ⟨cn_in m (by omega), ht, rfl⟩
    · rintro σ H3 ⟨r, L, v4, v5, v6, v7, v8, rfl, W3, B3, hn3, hr3, hLl, hL⟩
      obtain ⟨c1, c2, c3, c4, c5⟩ := cn_ok
      refine ⟨_, rfl, n, _, rfl, SqL.of hn3, fun rv nrv => ⟨rv, _, rfl, .inl ⟨SqL.of upd_same, fun tp ntp => ?_⟩⟩⟩
      have Srv := Same.new (o := HO.lst (cn.map V.str).reverse) nrv
      have Stp := Same.new (o := HO.tup (cn.map V.str).reverse) ntp
      have htp : SqT K (upd (upd H3 rv (HO.lst (cn.map V.str).reverse)) tp (HO.tup (cn.map V.str).reverse)) tp (cn.reverse.map V.str) := by
        rw [List.map_reverse]
        exact SqT.of upd_same
      have S4 := Srv.trans Stp
      generalize upd (upd H3 rv (HO.lst (cn.map V.str).reverse)) tp (HO.tup (cn.map V.str).reverse) = H4 at htp S4 ⊢
      refine ⟨_, rfl, sz (by simp), fun t2 nt2 => ?_⟩
      have S5 := Same.new (o := HO.tup [V.ref r]) nt2
      have hrows : RowsAt K (upd H4 t2 (HO.tup [V.ref r])) t2 [links nums ++ L] := ⟨[r], SqT.of upd_same, RowsIn.one (hr3.mono (S4.trans S5))⟩
      have htp5 := Same.seqT S5 htp
      have S45 := S4.trans S5
      generalize upd H4 t2 (HO.tup [V.ref r]) = H5 at hrows htp5 S45 ⊢
      have hN : NamesOk cn.reverse := ⟨by decide, fun x hx => c3 x (List.mem_reverse.mp hx), fun x hx => c1 x (List.mem_reverse.mp hx), (List.reverse_perm cn).nodup_iff.mpr c5⟩
      obtain ⟨ys, hperm, hpw⟩ : ∃ ys : List Str, ys.Perm cn.reverse ∧ ys.Pairwise Sk.LeS := ⟨_, List.mergeSort_perm cn.reverse _, Sk.sort_pw cn.reverse⟩
      have hmem : ∀ x, x ∈ ys ↔ x ∈ cn := fun x => hperm.mem_iff.trans List.mem_reverse
      have hY : Nys ys := ⟨hN.perm hperm, hpw, fun x hx => c2 x ((hmem x).mp hx)⟩
      have hyl : ys.length = 9 := hperm.length_eq
      have hT : ∀ q ∈ links nums ++ L, q.1 ∈ cn ∧ q.2.1 ∈ cn := fun q hq => by
        rcases List.mem_append.mp hq with hq | hq
        · obtain ⟨i, hi, rfl⟩ := List.mem_map.mp hq
          have := List.mem_range.mp hi
          exact ⟨cn_in i (by omega), cn_in (i + 1) (by omega)⟩
        · exact ⟨(hL q hq).1, (hL q hq).2.1⟩
      have hll : (links nums ++ L).length ≤ 900 := by
        rw [List.length_append, hLl]
        unfold links
        rw [List.length_map, List.length_range]
        omega
      refine fun o dx0 nx0 nd0 ne0 => rd_mk (CC := CC) (CS := CS) o dx0 nx0 nd0 ne0 htp5 hN hY hperm hrows (by simp) (fun M hM => by rw [List.mem_singleton.mp hM]; exact ⟨hll, fun q hq => ⟨.inr (List.mem_reverse.mpr (hT q hq).1), .inr (List.mem_reverse.mpr (hT q hq).2)⟩⟩) fun Ps H6 S6 hA sA => ?_
      -- one plain part
      have hTy : ∀ M ∈ [links nums ++ L], ∀ q ∈ M, TermsOk ys q := fun M hM q hq => by
        rw [List.mem_singleton.mp hM] at hq
        exact ⟨.inr ((hmem _).mpr (hT q hq).1), .inr ((hmem _).mpr (hT q hq).2)⟩
      obtain ⟨u1, u2, u3⟩ := tight_ok hnl hnb hL
      obtain ⟨w1, w2, w3⟩ := wide_ok hnl hnb hL
      have inP : ∀ f, meetsB f (links nums ++ L) = true → Zg.InS (ys.length + 1) (xOf ys f) Ps := fun f hf => (sA _).mpr ((inR_in hTy).mpr (by unfold inB; simp [hf]))
      obtain ⟨A, hAm, hin0⟩ := inP _ u1
      have hPl : Ps.length ≤ 1 := hA.2.2
      have eP : Ps = [A] := by
        match Ps, hPl, hAm with
        | [B], _, hm => rw [List.mem_singleton.mp hm]
        | _ :: _ :: _, h, _ => simp at h
      subst eP
      have hAB := hA.2.1 A hAm
      have eA : A = (some (Zg.zoneOf A), []) := by
        have := hAB.eta
        rw [plain_of hAB] at this
        exact this
      have hC := hAB.cl'
      have inZ : ∀ x, Zg.InS (ys.length + 1) x [A] ↔ Zn.Sat (ys.length + 1) (Zg.zoneOf A) x := fun x => by
        unfold Zg.InS
        rw [← Zg.in_plain, ← eA]
        simp
      have hst : StsAt K CC CS H6 o ys [(some (Zg.zoneOf A), [])] := by
        rw [← eA]
        exact hA.1
      generalize Zg.zoneOf A = d at hC inZ hst
      have hx : ("x" : Str) = cn.getD 8 "" := rfl
      have hb0 : ("b" : Str) = cn.getD 0 "" := rfl
      have mx : ("x" : Str) ∈ ys := (hmem _).mpr (by decide +kernel)
      have mb : ("b" : Str) ∈ ys := (hmem _).mpr (by decide +kernel)
      have val : ∀ f t, t ∈ ys → xOf ys f (ixOf ys t) = f t := fun f t ht => by
        unfold xOf
        rw [nm_ix (.inr ht)]
        exact vl_cn _ ((hmem t).mp ht)
      have tot : ∀ x, Zn.Sat (ys.length + 1) d x → x (ixOf ys "b") ≤ x (ixOf ys "x") + nums.sum := fun x hx => by
        obtain ⟨M, hM, hq⟩ := inR_iff.mp ((sA x).mp ((inZ x).mpr hx))
        rw [List.mem_singleton.mp hM] at hq
        have := chain_le (nums := nums) (g := fun t => x (ixOf ys t)) (fun q h => hq q (List.mem_append_left _ h)) nums.length (Nat.le_refl _)
        rw [List.take_length, hnl] at this
        exact this
      have s1 := (inZ _).mp (inP _ u1)
      have s2 := (inZ _).mp (inP _ w1)
      have v1 := val (tight nums) "b" mb
      have v2 := val (tight nums) "x" mx
      have v3 := val wide "b" mb
      have v4' := val wide "x" mx
      rw [hb0] at v1 v3
      rw [hx] at v2 v4'
      rw [u2] at v1
      rw [u3] at v2
      rw [w2] at v3
      rw [w3] at v4'
      have fwd : ∀ p, BoundOk (ys.length + 1) d (ixOf ys "b") (ixOf ys "x") p → p = some nums.sum := fun p hp => by
        cases p with
        | none =>
          obtain ⟨x, h1, h2⟩ := hp.1 rfl nums.sum
          have := tot x h1
          omega
        | some c =>
          obtain ⟨h1, x, h2, h3⟩ := hp.2 c rfl
          have a1 := tot x h2
          have a2 := h1 _ s1
          rw [hb0, hx, v1, v2] at a2
          have : c = nums.sum := by omega
          rw [this]
      have bwd : ∀ p, BoundOk (ys.length + 1) d (ixOf ys "x") (ixOf ys "b") p → p = none ∨ ∃ c, p = some c ∧ 10 ^ 40 ≤ c := fun p hp => by
        cases p with
        | none => exact .inl rfl
        | some c =>
          refine .inr ⟨c, rfl, ?_⟩
          have a2 := (hp.2 c rfl).1 _ s2
          rw [hb0, hx, v3, v4'] at a2
          omega
      obtain ⟨dz, tz, cz, k1, k2, k3⟩ := id hst
      refine ⟨_, rfl, o, dz, _, rfl, k1, rfl, ?_⟩
      dsimp only [tNil]
      refine ⟨o, ys, d, _, _, rfl, hst, hC, by omega, .inr mx, .inr mb, fun p2 H7 S7 hb2 => ?_⟩
      refine ⟨_, rfl, o, dz, _, rfl, S7 _ _ k1, rfl, ?_⟩
      dsimp only [tNil]
      refine ⟨o, ys, d, _, _, rfl, hst.mono S7, hC, by omega, .inr mb, .inr mx, fun p1 H8 S8 hb1 => ?_⟩
      obtain rfl := fwd p1 hb1
      have WF : WellAt H8 l := ((W3.mono' S45).mono' S6).mono' (S7.trans S8)
      have BF : But l H H8 := B3.trans ((But.of S45).trans (But.of (S6.trans (S7.trans S8))))
      refine ⟨_, rfl, rfl, _, rfl, iteTe (decide_eq_true rfl) ?_⟩
      rcases bwd p2 hb2 with rfl | ⟨c, rfl, hc⟩
      · exact ⟨_, rfl, rfl, _, rfl, iteT (k H8 WF BF)⟩
      · refine ⟨_, rfl, rfl, _, rfl, iteF ⟨_, rfl, 10, 40, rfl, rfl, ⟨by decide, by decide, by decide⟩, c, _, rfl, rfl, ?_⟩⟩
        have : decide ((10 : Int) ^ (40 : Int).toNat ≤ c) = true := decide_eq_true hc
        show Q (V.bl (decide ((10 : Int) ^ (40 : Int).toNat ≤ c))) H8
        rw [this]
        exact k H8 WF BF
end
end K18

namespace K18
open PySem L2 Bx
def InB (f : Str → Int) (t : Str) (l h : Int) : Prop := l ≤ f t ∧ f t ≤ h
theorem side_meets {f : Str → Int} {t : Str} {l h : Int} (ht : t ≠ "") : meetsB f (side t l h) = true ↔ InB f t l h := by
  unfold meetsB side InB
  have e1 : vl f t = f t := if_neg ht
  have e2 : vl f "" = 0 := if_pos rfl
  simp only [List.all_cons, List.all_nil, Bool.and_true, Bool.and_eq_true, decide_eq_true_eq, e1, e2]
  constructor
  · rintro ⟨a, b⟩
    exact ⟨by omega, by omega⟩
  · rintro ⟨a, b⟩
    exact ⟨by omega, by omega⟩
theorem meets_app {f : Str → Int} {a b : List Lt} : meetsB f (a ++ b) = true ↔ meetsB f a = true ∧ meetsB f b = true := by
  unfold meetsB
  rw [List.all_append, Bool.and_eq_true]
theorem row_meets {f : Str → Int} {ns : List Str} {lo hi : List Int} {at_ : Nat} {l h : Int} (hat : at_ < 3) (hn : ∀ j, j < 3 → ns.getD j "" ≠ "") : meetsB f (rowOf ns lo hi at_ l h 3) = true ↔ InB f (ns.getD at_ "") l h ∧ ∀ j, j < 3 → j ≠ at_ → InB f (ns.getD j "") (lo.getD j 0) (hi.getD j 0) := by
  unfold rowOf
  rw [meets_app, side_meets (hn _ hat)]
  refine and_congr_right fun _ => ?_
  constructor
  · intro h j hj hne
    rw [← side_meets (hn j hj)]
    unfold meetsB at h ⊢
    rw [List.all_eq_true] at h ⊢
    intro q hq
    exact h q (List.mem_flatMap.mpr ⟨j, List.mem_range.mpr hj, by rw [if_neg hne]; exact hq⟩)
  · intro h
    unfold meetsB
    rw [List.all_eq_true]
    intro q hq
    obtain ⟨j, hj, hq⟩ := List.mem_flatMap.mp hq
    have hj := List.mem_range.mp hj
    by_cases c : j = at_
    · rw [if_pos c] at hq
      cases hq
    · rw [if_neg c] at hq
      have := (side_meets (f := f) (hn j hj)).mpr (h j hj c)
      unfold meetsB at this
      rw [List.all_eq_true] at this
      exact this q hq
/-- six slices, one behind the other -/
structure Segs (L U : Nat → Int) : Prop where
  le : ∀ k, k < 6 → L k ≤ U k
  nx : ∀ k, k < 5 → L (k + 1) = U k + 1
theorem Segs.cover {L U : Nat → Int} (s : Segs L U) {v : Int} (h0 : L 0 ≤ v) (h5 : v ≤ U 5) : ∃ k, k < 6 ∧ L k ≤ v ∧ v ≤ U k := by
  have n0 : L 1 = U 0 + 1 := s.nx 0 (by decide)
  have n1 : L 2 = U 1 + 1 := s.nx 1 (by decide)
  have n2 : L 3 = U 2 + 1 := s.nx 2 (by decide)
  have n3 : L 4 = U 3 + 1 := s.nx 3 (by decide)
  have n4 : L 5 = U 4 + 1 := s.nx 4 (by decide)
  by_cases c0 : v ≤ U 0
  · exact ⟨0, by decide, h0, c0⟩
  by_cases c1 : v ≤ U 1
  · exact ⟨1, by decide, by omega, c1⟩
  by_cases c2 : v ≤ U 2
  · exact ⟨2, by decide, by omega, c2⟩
  by_cases c3 : v ≤ U 3
  · exact ⟨3, by decide, by omega, c3⟩
  by_cases c4 : v ≤ U 4
  · exact ⟨4, by decide, by omega, c4⟩
  exact ⟨5, by decide, by omega, h5⟩
theorem Segs.lt {L U : Nat → Int} (s : Segs L U) : ∀ (d k : Nat), k + 1 + d < 6 → U k < L (k + 1 + d)
  | 0, k, h => by
    have := s.nx k (by omega)
    show U k < L (k + 1)
    omega
  | d + 1, k, h => by
    have ih := Segs.lt s d k (by omega)
    have h1 := s.le (k + 1 + d) (by omega)
    have h2 := s.nx (k + 1 + d) (by omega)
    show U k < L (k + 1 + d + 1)
    omega
theorem Segs.disj {L U : Nat → Int} (s : Segs L U) {k j : Nat} (hk : k < 6) (hj : j < 6) (h : k ≠ j) {v : Int} (a : L k ≤ v ∧ v ≤ U k) (b : L j ≤ v ∧ v ≤ U j) : False := by
  rcases Nat.lt_or_gt_of_ne h with c | c
  · have := s.lt (j - k - 1) k (by omega)
    rw [show k + 1 + (j - k - 1) = j by omega] at this
    omega
  · have := s.lt (k - j - 1) j (by omega)
    rw [show j + 1 + (k - j - 1) = k by omega] at this
    omega
theorem Segs.in_ {L U : Nat → Int} (s : Segs L U) {k : Nat} (hk : k < 6) {v : Int} (a : L k ≤ v ∧ v ≤ U k) : L 0 ≤ v ∧ v ≤ U 5 := by
  constructor
  · by_cases c : k = 0
    · subst c
      exact a.1
    · have h1 := s.lt (k - 1) 0 (by omega)
      rw [show 0 + 1 + (k - 1) = k by omega] at h1
      have := s.le 0 (by decide)
      omega
  · by_cases c : k = 5
    · subst c
      exact a.2
    · have h1 := s.lt (5 - k - 1) k (by omega)
      rw [show k + 1 + (5 - k - 1) = 5 by omega] at h1
      have := s.le 5 (by decide)
      omega
/-- in the box -/
def Box (f : Str → Int) (ns : List Str) (lo hi : List Int) : Prop := ∀ j, j < 3 → InB f (ns.getD j "") (lo.getD j 0) (hi.getD j 0)
theorem sliced_at {ns : List Str} {lo hi es : List Int} {at_ k : Nat} (hk : k < 6) : (sliced ns lo hi es at_ 6)[k]? = some (rowOf ns lo hi at_ (lowK lo es at_ k) (highK hi es at_ k) 3) := by
  unfold sliced
  rw [List.getElem?_map, List.getElem?_range hk]
  rfl
theorem sliced_in {f : Str → Int} {ns : List Str} {lo hi es : List Int} {at_ : Nat} (hat : at_ < 3) (hn : ∀ j, j < 3 → ns.getD j "" ≠ "") (s : Segs (lowK lo es at_) (highK hi es at_)) : inB f (sliced ns lo hi es at_ 6) = true ↔ Box f ns lo hi := by
  unfold inB
  rw [List.any_eq_true]
  constructor
  · rintro ⟨r, hr, hm⟩
    obtain ⟨k, hk, rfl⟩ := List.mem_map.mp hr
    have hk := List.mem_range.mp hk
    obtain ⟨h1, h2⟩ := (row_meets hat hn).mp hm
    intro j hj
    by_cases c : j = at_
    · subst c
      exact s.in_ hk h1
    · exact h2 j hj c
  · intro h
    obtain ⟨k, hk, h1⟩ := s.cover (h at_ hat).1 (h at_ hat).2
    exact ⟨_, List.mem_map.mpr ⟨k, List.mem_range.mpr hk, rfl⟩, (row_meets hat hn).mpr ⟨h1, fun j hj _ => h j hj⟩⟩
/-- the thin box, and what is left -/
theorem thin_in {f : Str → Int} {ns : List Str} {lo hi es : List Int} {a : Nat} {ls : Int} (hn : ∀ j, j < 3 → ns.getD j "" ≠ "") (s : Segs (lowK lo es 1) (highK hi es 1)) (ha : a < 6) (h1 : lowK lo es 1 a ≤ ls) :
    inB f [rowOf ns lo hi 1 ls (highK hi es 1 a) 3] = true ↔ Box f ns lo hi ∧ InB f (ns.getD 1 "") ls (highK hi es 1 a) := by
  unfold inB
  rw [List.any_cons, List.any_nil, Bool.or_false, row_meets (by decide) hn]
  constructor
  · rintro ⟨x, y⟩
    refine ⟨fun j hj => ?_, x⟩
    by_cases c : j = 1
    · subst c
      exact s.in_ ha ⟨by have := x.1; omega, x.2⟩
    · exact y j hj c
  · rintro ⟨x, y⟩
    exact ⟨y, fun j hj _ => x j hj⟩
theorem left_in {f : Str → Int} {ns : List Str} {lo hi es : List Int} {a : Nat} {ls : Int} (hn : ∀ j, j < 3 → ns.getD j "" ≠ "") (s : Segs (lowK lo es 1) (highK hi es 1)) (ha : a < 6) (h1 : lowK lo es 1 a ≤ ls) (h2 : ls ≤ highK hi es 1 a) :
    inB f ((sliced ns lo hi es 1 6).take a ++ [rowOf ns lo hi 1 (lowK lo es 1 a) (ls - 1) 3] ++ (sliced ns lo hi es 1 6).drop (a + 1)) = true ↔ Box f ns lo hi ∧ ¬ InB f (ns.getD 1 "") ls (highK hi es 1 a) := by
  unfold inB
  rw [List.any_eq_true]
  have other : ∀ k, k < 6 → k ≠ a → InB f (ns.getD 1 "") (lowK lo es 1 k) (highK hi es 1 k) → ¬ InB f (ns.getD 1 "") ls (highK hi es 1 a) := fun k hk hne x y => s.disj hk ha hne x ⟨by have := y.1; omega, y.2⟩
  constructor
  · rintro ⟨r, hr, hm⟩
    have byk : ∀ k, k < 6 → k ≠ a → (sliced ns lo hi es 1 6)[k]? = some r → Box f ns lo hi ∧ ¬ InB f (ns.getD 1 "") ls (highK hi es 1 a) := fun k hk hne e => by
      rw [sliced_at hk] at e
      cases e
      obtain ⟨x, y⟩ := (row_meets (by decide) hn).mp hm
      refine ⟨fun j hj => ?_, other k hk hne x⟩
      by_cases c : j = 1
      · subst c
        exact s.in_ hk x
      · exact y j hj c
    rcases List.mem_append.mp hr with hr | hr
    · rcases List.mem_append.mp hr with hr | hr
      · obtain ⟨k, hk⟩ := List.getElem?_of_mem hr
        rw [List.getElem?_take] at hk
        split at hk
        · rename_i hka
          exact byk k (by omega) (by omega) hk
        · cases hk
      · rw [List.mem_singleton.mp hr] at hm
        obtain ⟨x, y⟩ := (row_meets (by decide) hn).mp hm
        refine ⟨fun j hj => ?_, fun z => ?_⟩
        · by_cases c : j = 1
          · subst c
            exact s.in_ ha ⟨x.1, by have := x.2; omega⟩
          · exact y j hj c
        · have := x.2
          have := z.1
          omega
    · obtain ⟨k, hk⟩ := List.getElem?_of_mem hr
      rw [List.getElem?_drop] at hk
      have hl := (List.getElem?_eq_some_iff.mp hk).1
      have : (sliced ns lo hi es 1 6).length = 6 := by
        unfold sliced
        rw [List.length_map, List.length_range]
      exact byk (a + 1 + k) (by omega) (by omega) hk
  · rintro ⟨hB, hno⟩
    obtain ⟨k, hk, x⟩ := s.cover (hB 1 (by decide)).1 (hB 1 (by decide)).2
    by_cases c : k = a
    · subst c
      refine ⟨_, List.mem_append_left _ (List.mem_append_right _ (List.mem_singleton.mpr rfl)), (row_meets (by decide) hn).mpr ⟨⟨x.1, ?_⟩, fun j hj _ => hB j hj⟩⟩
      exact Classical.byContradiction fun z => hno ⟨by omega, x.2⟩
    · have hm : meetsB f (rowOf ns lo hi 1 (lowK lo es 1 k) (highK hi es 1 k) 3) = true := (row_meets (by decide) hn).mpr ⟨x, fun j hj _ => hB j hj⟩
      have e := sliced_at (ns := ns) (lo := lo) (hi := hi) (es := es) (at_ := 1) hk
      rcases Nat.lt_or_gt_of_ne c with d | d
      · refine ⟨_, List.mem_append_left _ (List.mem_append_left _ (List.mem_of_getElem? (i := k) ?_)), hm⟩
        rw [List.getElem?_take, if_pos d]
        exact e
      · refine ⟨_, List.mem_append_right _ (List.mem_of_getElem? (i := k - (a + 1)) ?_), hm⟩
        rw [List.getElem?_drop, show a + 1 + (k - (a + 1)) = k by omega]
        exact e
/-- a whole box as one row -/
def boxRow (ns : List Str) (lo hi : List Int) (n : Nat) : List Lt := (List.range n).flatMap fun j => side (ns.getD j "") (lo.getD j 0) (hi.getD j 0)
theorem box_in {f : Str → Int} {ns : List Str} {lo hi : List Int} (hn : ∀ j, j < 3 → ns.getD j "" ≠ "") : inB f [boxRow ns lo hi 3] = true ↔ Box f ns lo hi := by
  unfold inB
  rw [List.any_cons, List.any_nil, Bool.or_false]
  constructor
  · intro h j hj
    rw [← side_meets (hn j hj)]
    unfold meetsB boxRow at *
    rw [List.all_eq_true] at h ⊢
    exact fun q hq => h q (List.mem_flatMap.mpr ⟨j, List.mem_range.mpr hj, hq⟩)
  · intro h
    unfold meetsB boxRow
    rw [List.all_eq_true]
    intro q hq
    obtain ⟨j, hj, hq⟩ := List.mem_flatMap.mp hq
    have := (side_meets (f := f) (hn j (List.mem_range.mp hj))).mpr (h j (List.mem_range.mp hj))
    unfold meetsB at this
    rw [List.all_eq_true] at this
    exact this q hq
theorem side_terms {t : Str} {l h : Int} {ys : List Str} (ht : t ∈ ys) : ∀ q ∈ side t l h, TermsOk ys q := fun q hq => by
  unfold side at hq
  simp only [List.mem_cons, List.not_mem_nil, or_false] at hq
  rcases hq with rfl | rfl
  · exact ⟨.inl rfl, .inr ht⟩
  · exact ⟨.inr ht, .inl rfl⟩
theorem row_terms {ns ys : List Str} {lo hi : List Int} {at_ : Nat} {l h : Int} (hat : at_ < 3) (hn : ∀ j, j < 3 → ns.getD j "" ∈ ys) : (rowOf ns lo hi at_ l h 3).length ≤ 900 ∧ ∀ q ∈ rowOf ns lo hi at_ l h 3, TermsOk ys q := by
  constructor
  · unfold rowOf
    rw [List.length_append]
    have : ((List.range 3).flatMap fun j => if j = at_ then [] else side (ns.getD j "") (lo.getD j 0) (hi.getD j 0)).length ≤ (List.range 3).length * 2 := Zg.flatMap_len' fun x _ => by
      split
      · simp
      · simp [side]
    rw [List.length_range] at this
    have s2 : ∀ t l h, (side t l h).length = 2 := fun _ _ _ => rfl
    rw [s2]
    omega
  · intro q hq
    unfold rowOf at hq
    rcases List.mem_append.mp hq with hq | hq
    · exact side_terms (hn _ hat) q hq
    · obtain ⟨j, hj, hq⟩ := List.mem_flatMap.mp hq
      by_cases c : j = at_
      · rw [if_pos c] at hq
        cases hq
      · rw [if_neg c] at hq
        exact side_terms (hn j (List.mem_range.mp hj)) q hq
theorem sliced_terms {ns ys : List Str} {lo hi es : List Int} {at_ : Nat} (hat : at_ < 3) (hn : ∀ j, j < 3 → ns.getD j "" ∈ ys) : ∀ L ∈ sliced ns lo hi es at_ 6, L.length ≤ 900 ∧ ∀ q ∈ L, TermsOk ys q := fun L hL => by
  obtain ⟨k, _, rfl⟩ := List.mem_map.mp hL
  exact row_terms hat hn
theorem boxRow_terms {ns ys : List Str} {lo hi : List Int} (hn : ∀ j, j < 3 → ns.getD j "" ∈ ys) : (boxRow ns lo hi 3).length ≤ 900 ∧ ∀ q ∈ boxRow ns lo hi 3, TermsOk ys q := by
  constructor
  · unfold boxRow
    have : ((List.range 3).flatMap fun j => side (ns.getD j "") (lo.getD j 0) (hi.getD j 0)).length ≤ (List.range 3).length * 2 := Zg.flatMap_len' fun x _ => by simp [side]
    rw [List.length_range] at this
    omega
  · intro q hq
    obtain ⟨j, hj, hq⟩ := List.mem_flatMap.mp hq
    exact side_terms (hn j (List.mem_range.mp hj)) q hq
theorem inR_x {ys : List Str} {R : List (List Lt)} {x : Nat → Int} (h0 : x 0 = 0) : InR ys R x ↔ inB (fun t => x (ixOf ys t)) R = true := by
  rw [inR_iff]
  unfold inB
  rw [List.any_eq_true]
  have e : ∀ t, vl (fun t => x (ixOf ys t)) t = x (ixOf ys t) := fun t => by
    unfold vl
    by_cases c : t = ""
    · rw [if_pos c, c]
      exact h0.symm
    · rw [if_neg c]
  refine exists_congr fun L => and_congr_right fun _ => ?_
  unfold meetsB
  rw [List.all_eq_true]
  refine forall_congr' fun q => forall_congr' fun _ => ?_
  rw [decide_eq_true_eq, e, e]
  exact Iff.rfl
theorem Tells.yes0 {m : Nat} {Ps Os : List Pt} {t : Bool} (h : Tells m Ps Os t) (e : ∀ x : Nat → Int, x 0 = 0 → Zg.InS m x Ps → Zg.InS m x Os) : t = true := by
  cases t with
  | true => rfl
  | false =>
    obtain ⟨x, h0, n1, n2⟩ := h.2 rfl
    exact absurd (e x h0 n1) n2
end K18

namespace K18
open PySem L2 Bx
def pools : List (List Str) := [["b", "ab", "x"], ["zz", "a", "y"], ["value", "q", "qq"]]
theorem pools_ok : ∀ ns ∈ pools, ns.length = 3 ∧ (ns ++ [("w" : Str)]).Nodup ∧ (∀ x ∈ ns ++ [("w" : Str)], labelB x = true ∧ PyData.strOk x = true ∧ x.length ≤ 1000 ∧ x ≠ "") := by decide +kernel
theorem lg2 {n : Nat} (h : n < 2 ^ 200) : n.log2 < 9000 := Nat.lt_trans (PySem.Flt.log2_lt_of (by decide) h) (by decide)
/-- ends as they are drawn -/
def Ends (far lo : Int) (es : List Int) : Prop := ∀ i, i < es.length → ∃ r, 0 ≤ r ∧ r < far ∧ es.getD i 0 = lo + 2 + (far + 2) * (i : Int) + r
theorem segs_of {far l : Int} {es lo hi : List Int} {at_ : Nat} (h : Ends far l es) (h6 : es.length = 6) (hf : 3 ≤ far) (hlo : lo.getD at_ 0 = l) (hhi : hi.getD at_ 0 = es.getD 5 0) : Segs (lowK lo es at_) (highK hi es at_) := by
  have hU : ∀ k, k < 6 → highK hi es at_ k = es.getD k 0 := fun k hk => by
    unfold highK
    by_cases c : k < 5
    · rw [if_pos c]
    · rw [if_neg c, hhi, show k = 5 by omega]
  have hL0 : lowK lo es at_ 0 = l := (if_pos rfl).trans hlo
  have hL : ∀ k, lowK lo es at_ (k + 1) = es.getD k 0 + 1 := fun k => if_neg (by omega)
  have step : ∀ k, k < 5 → es.getD k 0 + 1 ≤ es.getD (k + 1) 0 := fun k hk => by
    obtain ⟨r, r0, r1, e1⟩ := h k (by omega)
    obtain ⟨q, q0, q1, e2⟩ := h (k + 1) (by omega)
    have : (far + 2) * ((k + 1 : Nat) : Int) = (far + 2) * (k : Int) + (far + 2) := by
      rw [Int.natCast_add, Int.mul_add]
      simp
    rw [e1, e2, this]
    omega
  constructor
  · intro k hk
    rw [hU k hk]
    cases k with
    | zero =>
      rw [hL0]
      obtain ⟨r, r0, r1, e1⟩ := h 0 (by omega)
      rw [e1]
      simp
      omega
    | succ k =>
      rw [hL]
      exact step k (by omega)
  · intro k hk
    rw [hU k (by omega), hL]
structure BoxB (K : PySem.W.Frag) (bad : List Addr) (H : Hp) (bs els : List Addr) (lo : List Int) (E : List (List Int)) (far : Int) (n : Nat) : Prop where
  lb : bs.length = n
  le : els.length = n
  ll : lo.length = n
  lE : E.length = n
  at_ : ∀ j, j < n → ∃ b e es, bs[j]? = some b ∧ els[j]? = some e ∧ E[j]? = some es ∧ SqT K H b [.int (lo.getD j 0), .int (es.getD 5 0)] ∧ H e = some (.lst (es.map V.int)) ∧ es.length = 6 ∧ Ends far (lo.getD j 0) es ∧ e ∉ bad
theorem BoxB.but {K : PySem.W.Frag} {bad : List Addr} {p : Addr} {H H' : Hp} {xs : List V} {bs els : List Addr} {lo : List Int} {E : List (List Int)} {far : Int} {n : Nat} (hp : p ∈ bad) (hl : H p = some (.lst xs)) (B : But p H H') (h : BoxB K bad H bs els lo E far n) : BoxB K bad H' bs els lo E far n := ⟨h.lb, h.le, h.ll, h.lE, fun j hj => by
  obtain ⟨b, e, es, a1, a2, a3, a4, a5, a6, a7, a8⟩ := h.at_ j hj
  exact ⟨b, e, es, a1, a2, a3, butT hl B a4, B _ _ a5 fun q => a8 (q ▸ hp), a6, a7, a8⟩⟩
theorem BoxB.mono {K : PySem.W.Frag} {bad : List Addr} {H H' : Hp} {bs els : List Addr} {lo : List Int} {E : List (List Int)} {far : Int} {n : Nat} (S : Same H H') (h : BoxB K bad H bs els lo E far n) : BoxB K bad H' bs els lo E far n := ⟨h.lb, h.le, h.ll, h.lE, fun j hj => by
  obtain ⟨b, e, es, a1, a2, a3, a4, a5, a6, a7, a8⟩ := h.at_ j hj
  exact ⟨b, e, es, a1, a2, a3, Same.seqT S a4, S _ _ a5, a6, a7, a8⟩⟩
theorem LitsAt.drop {K : PySem.W.Frag} {H : Hp} {ts : List Addr} {L : List Lt} (h : LitsAt K H ts L) (n : Nat) : LitsAt K H (ts.drop n) (L.drop n) := ⟨by rw [List.length_drop, List.length_drop, h.1], fun j q hj => by
  rw [List.getElem?_drop] at hj ⊢
  exact h.2 _ q hj⟩
theorem RowsIn.drop {K : PySem.W.Frag} {H : Hp} {ts : List Addr} {R : List (List Lt)} (h : RowsIn K H ts R) (n : Nat) : RowsIn K H (ts.drop n) (R.drop n) := ⟨by rw [List.length_drop, List.length_drop, h.1], fun j q hj => by
  rw [List.getElem?_drop] at hj ⊢
  exact h.2 _ q hj⟩
theorem RowsIn.take {K : PySem.W.Frag} {H : Hp} {ts : List Addr} {R : List (List Lt)} (h : RowsIn K H ts R) (n : Nat) : RowsIn K H (ts.take n) (R.take n) := ⟨by rw [List.length_take, List.length_take, h.1], fun j q hj => by
  rw [List.getElem?_take] at hj ⊢
  by_cases c : j < n
  · rw [if_pos c] at hj ⊢
    exact h.2 _ q hj
  · rw [if_neg c] at hj
    cases hj⟩
theorem names_ne {ns : List Str} (h : (ns ++ [("w" : Str)]).Nodup) (h3 : ns.length = 3) : ns.getD 0 "" ≠ ns.getD 1 "" ∧ ns.getD 2 "" ≠ ns.getD 1 "" ∧ ns.getD 2 "" ≠ ns.getD 0 "" := by
  match ns, h3, h with
  | [a, b, c], _, h =>
    have h' := (List.nodup_append.mp h).1
    simp only [List.nodup_cons, List.mem_cons, List.not_mem_nil, or_false, not_or] at h'
    exact ⟨h'.1.1, fun e => h'.2.1 e.symm, fun e => h'.1.2 e.symm⟩
theorem corner {ns ys : List Str} {lo hi : List Int} {ls : Int} (hd : ns.getD 0 "" ≠ ns.getD 1 "" ∧ ns.getD 2 "" ≠ ns.getD 1 "" ∧ ns.getD 2 "" ≠ ns.getD 0 "") (hne : ∀ j, j < 3 → ns.getD j "" ≠ "") (hin : ∀ j, j < 3 → ns.getD j "" ∈ ys)
    (h0 : lo.getD 0 0 ≤ hi.getD 0 0) (h1 : lo.getD 1 0 ≤ ls ∧ ls ≤ hi.getD 1 0) (h2 : lo.getD 2 0 ≤ hi.getD 2 0) : ∃ x : Nat → Int, x 0 = 0 ∧ Box (fun t => x (ixOf ys t)) ns lo hi ∧ x (ixOf ys (ns.getD 1 "")) = ls := by
  let f : Str → Int := fun t => if t = ns.getD 1 "" then ls else if t = ns.getD 0 "" then lo.getD 0 0 else lo.getD 2 0
  have at_ : ∀ j, j < 3 → xOf ys f (ixOf ys (ns.getD j "")) = f (ns.getD j "") := fun j hj => by
    unfold xOf
    rw [nm_ix (.inr (hin j hj))]
    exact if_neg (hne j hj)
  have f0 : f (ns.getD 0 "") = lo.getD 0 0 := (if_neg hd.1).trans (if_pos rfl)
  have f1 : f (ns.getD 1 "") = ls := if_pos rfl
  have f2 : f (ns.getD 2 "") = lo.getD 2 0 := (if_neg hd.2.1).trans (if_neg hd.2.2)
  have z : xOf ys f 0 = 0 := by
    have e : ixOf ys "" = 0 := if_pos rfl
    unfold xOf
    rw [← e, nm_ix (.inl rfl)]
    exact if_pos rfl
  refine ⟨xOf ys f, z, fun j hj => ?_, (at_ 1 (by decide)).trans f1⟩
  show _ ≤ xOf ys f _ ∧ xOf ys f _ ≤ _
  rw [at_ j hj]
  match j, hj with
  | 0, _ => rw [f0]; exact ⟨Int.le_refl _, h0⟩
  | 1, _ => rw [f1]; exact h1
  | 2, _ => rw [f2]; exact ⟨Int.le_refl _, h2⟩
section
variable {P : Program} {w : World} {K : PySem.W.Frag} {mg : Str → Option Value} {base : Heap} {CC CS aB : Addr}
def spLaw (K : PySem.W.Frag) : Sp := fun vs H Q _ => ∃ (a : Addr) (ns : List Int), vs = [.ref a] ∧ SqL K H a (ns.map V.int) ∧ ns.length ≤ 63 ∧ ∀ H', Q (.bl true) H'
theorem ok_law {f : Addr} {fd : FuncData} (F : C8.Fun K "law" "law" s_law f fd) (T : Txt K mg CC CS aB) (hS : PySem.W.selfFirst K CS = true) (hmO : PySem.W.mroIn K CS (.type "object") = some true) (hneO : PySem.W.findIn K (.ref CS) "__ne__" = some (some (.builtin "object.__ne__")))
    (K_l_well : C8.Cal P w K mg base 1 "_law_well" spWell []) (K_l_draw : C8.Cal P w K mg base 1 "_law_draw" spDraw []) (K_l_one : C8.Cal P w K mg base 2 "_law_one" (spOne K) []) (K_l_side : C8.Cal P w K mg base 1 "_law_side" (spSide K) []) (K_l_sliced : C8.Cal P w K mg base 2 "_law_sliced" (spSliced K) []) (K_l_chain : C8.Cal P w K mg base 81 "_law_chain" spChain [])
    (K_States : C8.Mak P w K mg base 79 "States" CS (spStates K CC CS) []) (K_eq : C8.Met P w K mg base 81 CS "__eq__" (spEq K CC CS) []) (K_le : C8.Met P w K mg base 79 CS "__le__" (spLe K CC CS) []) (K_and : C8.Met P w K mg base 81 CS "__and__" (spAnd K CC CS) []) (K_sub : C8.Met P w K mg base 81 CS "__sub__" (spSub K CC CS) []) (K_is_empty : C8.Met P w K mg base 1 CS "is_empty" (spEmpty K CC CS) []) :
    FnOk P w K mg base C8.CX0 84 f fd ["_law_script"] (spLaw K) := by
  refine C8.fn0 F sc_law (fun vs H Q E h => ?_) (fun cdv A outer s H vs Q E hr h => ?_)
  · obtain ⟨a, ns, rfl, _⟩ := h
    rfl
  · obtain ⟨a, ns, rfl, hS0, hlen, k⟩ := h
    refine ⟨_, (pss_cons (ps_for PassesOwn.never rfl (pi_list (pe_slice sl_list (pe_op op_catS (pv 0) (pe_lst (pa_cons pe_int pa_nil))) po_none (po_some pe_int))) (pg_name (i := 1) sc_law.nd rfl (Or.inl rfl))
    (pss_cons (ps_set (i := 2) sc_law.nd rfl (Or.inr rfl) (C8.pe_c K_l_well hr (by decide) (by rfl) (pa_cons (pv 1) pa_nil)))
    (pss_cons (ps_set (i := 3) sc_law.nd rfl (Or.inr rfl) (C8.pe_c K_l_one hr (by decide) (by rfl) (pa_cons (pv 2) (pa_cons (pe_lst (pa_cons pe_int (pa_cons (pe_op op_pow pe_int pe_int) pa_nil))) pa_nil))))
    (pss_cons (ps_set (i := 4) sc_law.nd rfl (Or.inl rfl) (C8.pe_c K_l_one hr (by decide) (by rfl) (pa_cons (pv 2) (pa_cons (pe_lst (pa_cons (pe_lst (pa_cons pe_str (pa_cons pe_str (pa_cons pe_str pa_nil)))) (pa_cons (pe_lst (pa_cons pe_str (pa_cons pe_str (pa_cons pe_str pa_nil)))) (pa_cons (pe_lst (pa_cons pe_str (pa_cons pe_str (pa_cons pe_str pa_nil)))) pa_nil)))) pa_nil))))
    (pss_cons (ps_par (i := 5) (j := 6) (by rfl) sc_law.nd rfl rfl (by decide) rfl rfl (pa_cons (pe_lst pa_nil) (pa_cons (pe_lst pa_nil) pa_nil)) (by rfl))
    (pss_cons (ps_for PassesOwn.never rfl (pi_range1 (by rfl) T.z_range (pa_cons pe_int pa_nil)) (pg_name (i := 7) sc_law.nd rfl (Or.inl rfl))
    (pss_cons (ps_set (i := 8) sc_law.nd rfl (Or.inr rfl) (pe_op op_sub (C8.pe_c K_l_draw hr (by decide) (by rfl) (pa_cons (pv 2) (pa_cons (pe_op op_mul pe_int (pv 3)) pa_nil))) (pv 3)))
    (pss_cons (ps_expr (pe_bm PySem.F.plainAttrs_list PySem.F.slot_list_append PySem.F.type_list_append mt_append (pv 6) (pa_cons (pe_lc (own := [("_law_j", 19)]) (g := gName 19) (tt := tYes) rfl sc_law.nd (pi_range1 (by rfl) T.z_range (pa_cons pe_int pa_nil)) (blkOk_by (own := [("_law_j", 19)]) (N := N_law) (sc := C8.fnScope s_law) (by decide +kernel)) (fun _ _ _ _ _ => (pg_name (i := 19) sc_law.nd rfl (Or.inl rfl))) (fun _ _ _ _ _ => pts_nil) (fun _ _ _ _ _ => (pe_op op_add (pe_op op_add (pe_op op_add (pv 8) pe_int) (pe_op op_mul (pe_op op_add (pv 3) pe_int) (pv 19))) (C8.pe_c K_l_draw hr (by decide) (by rfl) (pa_cons (pv 2) (pa_cons (pv 3) pa_nil)))))) pa_nil)))
    (pss_one (ps_expr (pe_bm PySem.F.plainAttrs_list PySem.F.slot_list_append PySem.F.type_list_append mt_append (pv 5) (pa_cons (pe_tup (pa_cons (pv 8) (pa_cons (pe_ix ix_list (pe_ix ix_list (pv 6) (pv 7) (fun _ _ => rfl)) pe_int (fun _ _ => rfl)) pa_nil))) pa_nil)))))))
    (pss_cons (ps_set (i := 9) sc_law.nd rfl (Or.inl rfl) (C8.pe_c K_l_sliced hr (by decide) (by rfl) (pa_cons (pv 4) (pa_cons (pv 5) (pa_cons pe_int (pa_cons (pe_ix ix_list (pv 6) pe_int (fun _ _ => rfl)) pa_nil))))))
    (pss_cons (ps_set (i := 10) sc_law.nd rfl (Or.inl rfl) (C8.pe_mk K_States hr (by decide) (by rfl) (pa_cons (pe_op op_catU (pe_callTy call_tuple_of (by rfl) T.z_tuple (by decide +kernel) (pa_cons (pv 4) pa_nil)) (pe_tup (pa_cons pe_str pa_nil))) (pa_cons (C8.pe_c K_l_sliced hr (by decide) (by rfl) (pa_cons (pv 4) (pa_cons (pv 5) (pa_cons pe_int (pa_cons (pe_ix ix_list (pv 6) pe_int (fun _ _ => rfl)) pa_nil))))) pa_nil))))
    (pss_cons (ps_set (i := 11) sc_law.nd rfl (Or.inl rfl) (C8.pe_mk K_States hr (by decide) (by rfl) (pa_cons (pe_op op_catU (pe_tup (pa_cons pe_str pa_nil)) (pe_callTy call_tuple_of (by rfl) T.z_tuple (by decide +kernel) (pa_cons (pv 4) pa_nil))) (pa_cons (pv 9) pa_nil))))
    (pss_cons (ps_set (i := 12) sc_law.nd rfl (Or.inl rfl) (pe_tup pa_nil))
    (pss_cons (ps_for PassesOwn.never rfl (pi_range1 (by rfl) T.z_range (pa_cons pe_int pa_nil)) (pg_name (i := 7) sc_law.nd rfl (Or.inl rfl))
    (pss_one (ps_set (i := 12) sc_law.nd rfl (Or.inl rfl) (pe_op op_catU (pv 12) (C8.pe_c K_l_side hr (by decide) (by rfl) (pa_cons (pe_ix ix_list (pv 4) (pv 7) (fun _ _ => rfl)) (pa_cons (pe_ix ix_tup (pe_ix ix_list (pv 5) (pv 7) (fun _ _ => rfl)) pe_int (fun _ _ => rfl)) (pa_cons (pe_ix ix_tup (pe_ix ix_list (pv 5) (pv 7) (fun _ _ => rfl)) pe_int (fun _ _ => rfl)) pa_nil))))))))
    (pss_cons (ps_set (i := 13) sc_law.nd rfl (Or.inl rfl) (C8.pe_mk K_States hr (by decide) (by rfl) (pa_cons (pe_op op_catU (pe_tup (pa_cons pe_str pa_nil)) (pe_callTy call_tuple_of (by rfl) T.z_tuple (by decide +kernel) (pa_cons (pv 4) pa_nil))) (pa_cons (pe_tup (pa_cons (pv 12) pa_nil)) pa_nil))))
    (pss_cons (ps_if (PW.pt (pw_or (pt_cmpR (Ow.op_neM hmO hneO K_eq hr (by decide)) (pv 10) (pv 11) (nomark _)) (pw_or (pt_not (pt_cmpR (Ow.op_leM K_le hr (by decide)) (pv 10) (pv 11) (nomark _))) (pw_or (pt_not (pt_cmpR (Ow.op_leM K_le hr (by decide)) (pv 11) (pv 10) (nomark _))) (pw_or (pt_cmpR (Ow.op_neM hmO hneO K_eq hr (by decide)) (pv 10) (pv 13) (nomark _)) (pw_or1 (pt_cmpR (Ow.op_neM hmO hneO K_eq hr (by decide)) (pv 13) (pv 11) (nomark _)))))))) (pss_one (ps_ret pe_bl)) pss_nil)
    (pss_cons (ps_if (PW.pt (pw_or (pt_not (pt_val (C8.pe_mt0 K_is_empty hr (by decide) (pe_op (Ow.op_subM hS K_sub hr (by decide)) (pv 10) (pv 11))))) (pw_or (pt_not (pt_val (C8.pe_mt0 K_is_empty hr (by decide) (pe_op (Ow.op_subM hS K_sub hr (by decide)) (pv 11) (pv 13))))) (pw_or1 (pt_cmpR (Ow.op_neM hmO hneO K_eq hr (by decide)) (pe_op (Ow.op_andM hS K_and hr (by decide)) (pv 10) (pv 11)) (pv 13) (nomark _)))))) (pss_one (ps_ret pe_bl)) pss_nil)
    (pss_cons (ps_set (i := 14) sc_law.nd rfl (Or.inl rfl) (C8.pe_c K_l_draw hr (by decide) (by rfl) (pa_cons (pv 2) (pa_cons pe_int pa_nil))))
    (pss_cons (ps_set (i := 15) sc_law.nd rfl (Or.inl rfl) (pe_ix ix_list (pe_ix ix_list (pv 6) pe_int (fun _ _ => rfl)) (pv 14) (fun _ _ => rfl)))
    (C8.pss_cut (ps_set (i := 8) sc_law.nd rfl (Or.inr rfl) (pe_ifExp (pt_cmpR op_gt (pv 14) pe_int (nomark _)) (pe_op op_add (pe_ix ix_list (pe_ix ix_list (pv 6) pe_int (fun _ _ => rfl)) (pe_op op_sub (pv 14) pe_int) (fun _ _ => rfl)) pe_int) (pe_ix ix_tup (pe_ix ix_list (pv 5) pe_int (fun _ _ => rfl)) pe_int (fun _ _ => rfl))))
    (pss_cons (ps_set (i := 16) sc_law.nd rfl (Or.inl rfl) (pe_op op_add (pv 8) (C8.pe_c K_l_draw hr (by decide) (by rfl) (pa_cons (pv 2) (pa_cons (pe_op op_add (pe_op op_sub (pv 15) (pv 8)) pe_int) pa_nil)))))
    (pss_cons (ps_set (i := 17) sc_law.nd rfl (Or.inl rfl) (pe_op op_catU (C8.pe_c K_l_side hr (by decide) (by rfl) (pa_cons (pe_ix ix_list (pv 4) pe_int (fun _ _ => rfl)) (pa_cons (pv 8) (pa_cons (pe_op op_sub (pv 16) pe_int) pa_nil)))) (pe_slice sl_tupU (pe_ix ix_tup (pv 9) (pv 14) (fun _ _ => rfl)) (po_some pe_int) po_none)))
    (pss_cons (ps_set (i := 11) sc_law.nd rfl (Or.inl rfl) (C8.pe_mk K_States hr (by decide) (by rfl) (pa_cons (pe_op op_catU (pe_tup (pa_cons pe_str pa_nil)) (pe_callTy call_tuple_of (by rfl) T.z_tuple (by decide +kernel) (pa_cons (pv 4) pa_nil))) (pa_cons (pe_op op_catU (pe_op op_catU (pe_slice sl_tupU (pv 9) po_none (po_some (pv 14))) (pe_tup (pa_cons (pv 17) pa_nil))) (pe_slice sl_tupU (pv 9) (po_some (pe_op op_add (pv 14) pe_int)) po_none)) pa_nil))))
    (pss_cons (ps_set (i := 18) sc_law.nd rfl (Or.inl rfl) (C8.pe_mk K_States hr (by decide) (by rfl) (pa_cons (pe_op op_catU (pe_tup (pa_cons pe_str pa_nil)) (pe_callTy call_tuple_of (by rfl) T.z_tuple (by decide +kernel) (pa_cons (pv 4) pa_nil))) (pa_cons (pe_tup (pa_cons (pe_op op_catU (C8.pe_c K_l_side hr (by decide) (by rfl) (pa_cons (pe_ix ix_list (pv 4) pe_int (fun _ _ => rfl)) (pa_cons (pv 16) (pa_cons (pv 15) pa_nil)))) (pe_slice sl_tupU (pe_ix ix_tup (pv 9) (pv 14) (fun _ _ => rfl)) (po_some pe_int) po_none)) pa_nil)) pa_nil))))
    (pss_one (ps_if (PW.pt (pw_or (pt_cmpR (Ow.op_neM hmO hneO K_eq hr (by decide)) (pe_op (Ow.op_subM hS K_sub hr (by decide)) (pv 10) (pv 11)) (pv 18) (nomark _)) (pw_or (pt_not (pt_cmpR (Ow.op_leM K_le hr (by decide)) (pv 11) (pv 10) (nomark _))) (pw_or (pt_cmpR (Ow.op_leM K_le hr (by decide)) (pv 10) (pv 11) (nomark _)) (pw_or1 (pt_not (pt_val (C8.pe_c K_l_chain hr (by decide) (by rfl) (pa_cons (pv 2) pa_nil))))))))) (pss_one (ps_ret pe_bl)) pss_nil)))))))))))))))))))))))
    (pss_one (ps_ret pe_bl))), ?_⟩
    refine ⟨_, rfl, sz (by simp), fun z nz => ⟨a, z, _, _, rfl, rfl, (Same.new nz).seq hS0, SqL.of upd_same, sz (by simp; omega), fun y ny => ⟨_, rfl, y, _, rfl, SqL.of upd_same, fun t nt => ⟨t, rfl, ⟨_, SqL.of upd_same⟩, ?_⟩⟩⟩⟩
    generalize hcs : cutV (ns.map V.int ++ [.int 0]) none (some 3) = cs
    have hint : ∀ x ∈ cs, ∃ c, x = V.int c := fun x hx => by
      rw [← hcs] at hx
      rcases List.mem_append.mp (cut_mem hx) with h | h
      · obtain ⟨c, _, rfl⟩ := List.mem_map.mp h
        exact ⟨c, rfl⟩
      · exact ⟨0, by simpa using h⟩
    refine for_list (xs := cs) (fun i σ H' => ∃ (v1 v2 v3 v4 v5 v6 v7 v8 v9 v10 v11 v12 v13 v14 v15 v16 v17 v18 v19 : Option V), σ = [some (.ref a), v1, v2, v3, v4, v5, v6, v7, v8, v9, v10, v11, v12, v13, v14, v15, v16, v17, v18, v19] ∧ H' t = some (.lst cs)) ⟨none, none, none, none, none, none, none, none, none, none, none, none, none, none, none, none, none, none, none, rfl, upd_same⟩ (fun i σ H' _ h => ?_) ?_ ?_
    · obtain ⟨_, _, _, _, _, _, _, _, _, _, _, _, _, _, _, _, _, _, _, _, h⟩ := h
      exact SqL.of h
    · rintro i x σ H0 hx ⟨v1, v2, v3, v4, v5, v6, v7, v8, v9, v10, v11, v12, v13, v14, v15, v16, v17, v18, v19, rfl, ht⟩
      obtain ⟨cc, rfl⟩ := hint x (List.mem_of_getElem? hx)
      refine ⟨_, rfl, cc, rfl, fun l H1 nl S1 W1 => ?_⟩
      have tl : t ≠ l := fun e => by rw [e, nl] at ht; cases ht
      have ht1 := S1 _ _ ht
      clear ht S1
      -- how far
      refine ⟨_, rfl, 10, 30, rfl, rfl, ⟨by decide, by decide, by decide⟩, sz (by simp), fun lf nlf => ?_⟩
      have Sf := Same.new (o := HO.lst [V.int 3, V.int (10 ^ Int.toNat 30)]) nlf
      have W2 := W1.mono' Sf
      have lfl : lf ≠ l := fun e => by
        obtain ⟨_, h⟩ := W1.lst
        rw [e, h] at nlf
        cases nlf
      refine ⟨l, lf, _, rfl, W2, lfl, SqL.of upd_same, by simp, by simp, fun v H2 hv W3 B3 => ?_⟩
      have ht2 := B3 _ _ (Sf _ _ ht1) tl
      obtain ⟨far, rfl, hf0, hf1⟩ : ∃ far : Int, v = .int far ∧ 3 ≤ far ∧ far ≤ 10 ^ 30 := by
        simp only [List.mem_cons, List.not_mem_nil, or_false] at hv
        rcases hv with rfl | rfl
        · exact ⟨3, rfl, by decide, by decide⟩
        · exact ⟨10 ^ 30, rfl, by decide, by decide⟩
      clear B3 Sf W1 W2 hv ht1 nlf
      -- the names
      refine ⟨_, rfl, sz (by simp), fun m1 nm1 => ⟨sz (by simp), fun m2 nm2 => ⟨sz (by simp), fun m3 nm3 => ⟨sz (by simp), fun lm nlm => ?_⟩⟩⟩⟩
      have Q1 := Same.new (o := HO.lst [V.str "b", V.str "ab", V.str "x"]) nm1
      have Q2 := Same.new (o := HO.lst [V.str "zz", V.str "a", V.str "y"]) nm2
      have Q3 := Same.new (o := HO.lst [V.str "value", V.str "q", V.str "qq"]) nm3
      have Q4 := Same.new (o := HO.lst [V.ref m1, V.ref m2, V.ref m3]) nlm
      have c1 := Q4 _ _ (Q3 _ _ (Q2 _ _ (upd_same : upd H2 m1 (HO.lst [V.str "b", V.str "ab", V.str "x"]) m1 = _)))
      have c2 := Q4 _ _ (Q3 _ _ (upd_same : upd (upd H2 m1 (HO.lst [V.str "b", V.str "ab", V.str "x"])) m2 (HO.lst [V.str "zz", V.str "a", V.str "y"]) m2 = _))
      have c3 := Q4 _ _ (upd_same : upd (upd (upd H2 m1 (HO.lst [V.str "b", V.str "ab", V.str "x"])) m2 (HO.lst [V.str "zz", V.str "a", V.str "y"])) m3 (HO.lst [V.str "value", V.str "q", V.str "qq"]) m3 = _)
      have Q := Q1.trans (Q2.trans (Q3.trans Q4))
      have clm : upd (upd (upd (upd H2 m1 (HO.lst [V.str "b", V.str "ab", V.str "x"])) m2 (HO.lst [V.str "zz", V.str "a", V.str "y"])) m3 (HO.lst [V.str "value", V.str "q", V.str "qq"])) lm (HO.lst [V.ref m1, V.ref m2, V.ref m3]) lm = some (.lst [V.ref m1, V.ref m2, V.ref m3]) := upd_same
      obtain ⟨_, hw3⟩ := W3.lst
      have fresh : ∀ {q : Addr} {G : Hp}, Same H2 G → G q = none → q ≠ l := fun {q G} S n e => by
        have := S _ _ hw3
        rw [e] at n
        rw [n] at this
        cases this
      have ml : m1 ≠ l ∧ m2 ≠ l ∧ m3 ≠ l ∧ lm ≠ l := ⟨fresh (Same.refl _) nm1, fresh Q1 nm2, fresh (Q1.trans Q2) nm3, fresh (Q1.trans (Q2.trans Q3)) nlm⟩
      have W4 := W3.mono' Q
      have ht3 := Q _ _ ht2
      generalize upd (upd (upd (upd H2 m1 (HO.lst [V.str "b", V.str "ab", V.str "x"])) m2 (HO.lst [V.str "zz", V.str "a", V.str "y"])) m3 (HO.lst [V.str "value", V.str "q", V.str "qq"])) lm (HO.lst [V.ref m1, V.ref m2, V.ref m3]) = H3 at c1 c2 c3 clm W4 ht3 ⊢
      clear Q1 Q2 Q3 Q4 Q nm1 nm2 nm3 nlm W3 hw3 fresh ht2
      refine ⟨l, lm, _, rfl, W4, ml.2.2.2, SqL.of clm, by simp, by simp, fun v H4 hv W5 B5 => ?_⟩
      have ht4 := B5 _ _ ht3 tl
      obtain ⟨n, ns, hns, rfl, hn, hnl⟩ : ∃ n ns, ns ∈ pools ∧ v = V.ref n ∧ H4 n = some (.lst (ns.map V.str)) ∧ n ≠ l := by
        simp only [List.mem_cons, List.not_mem_nil, or_false] at hv
        rcases hv with rfl | rfl | rfl
        · exact ⟨m1, ["b", "ab", "x"], by simp [pools], rfl, B5 _ _ c1 ml.1, ml.1⟩
        · exact ⟨m2, ["zz", "a", "y"], by simp [pools], rfl, B5 _ _ c2 ml.2.1, ml.2.1⟩
        · exact ⟨m3, ["value", "q", "qq"], by simp [pools], rfl, B5 _ _ c3 ml.2.2.1, ml.2.2.1⟩
      obtain ⟨hn3, hnd, hnp⟩ := pools_ok ns hns
      clear c1 c2 c3 clm ml hv W4 ht3 B5 hns
      -- the box
      refine ⟨sz (by simp), fun bx nbx => ⟨sz (by simp), fun en nen => ⟨_, _, rfl, ?_⟩⟩⟩
      have Sb := Same.new (o := HO.lst []) nbx
      have Se := Same.new (o := HO.lst []) nen
      have hbx := Se _ _ (upd_same : upd H4 bx (HO.lst []) bx = _)
      have hen : upd (upd H4 bx (HO.lst [])) en (HO.lst []) en = some (.lst []) := upd_same
      have nen4 := none_of Sb nen
      have be : bx ≠ en := fun e => by
        rw [← e] at nen
        have := (upd_same : upd H4 bx (HO.lst []) bx = some (HO.lst []))
        rw [nen] at this
        cases this
      obtain ⟨_, hw5⟩ := W5.lst
      have bl : bx ≠ l := fun e => by rw [e, hw5] at nbx; cases nbx
      have el : en ≠ l := fun e => by rw [e, hw5] at nen4; cases nen4
      have Sbe := Sb.trans Se
      have W6 := W5.mono' Sbe
      generalize upd (upd H4 bx (HO.lst [])) en (HO.lst []) = H5 at hbx hen Sbe W6 ⊢
      refine ⟨3, rfl, by decide, by decide, for_range (lo := 0) (n := 3) (fun u σ H' => ∃ (w7 w8 w19 : Option V) (bs els : List Addr) (lo : List Int) (E : List (List Int)), σ = [some (.ref a), some (.int cc), some (.ref l), some (.int far), some (.ref n), some (.ref bx), some (.ref en), w7, w8, v9, v10, v11, v12, v13, v14, v15, v16, v17, v18, w19] ∧ WellAt H' l ∧ But l H4 H' ∧ H' bx = some (.lst (bs.map V.ref)) ∧ H' en = some (.lst (els.map V.ref)) ∧ BoxB K [l, en, bx] H' bs els lo E far u) ⟨_, _, _, [], [], [], [], rfl, W6, But.of Sbe, hbx, hen, rfl, rfl, rfl, rfl, fun j hj => by omega⟩ ?_ ?_⟩
      · rintro u σ G hu3 ⟨w7, w8, w19, bs, els, lo, E, rfl, WG, BG, hbG, heG, hB⟩
        refine ⟨_, rfl, _, rfl, 2, far, rfl, rfl, .inl ⟨by decide, by decide⟩, l, _, rfl, WG, by omega, lg2 (by omega), fun x G1 x0 x1 WG1 BG1 => ⟨_, rfl, x, far, rfl, rfl, ?_⟩⟩
        have hbG1 := BG1 _ _ hbG bl
        have heG1 := BG1 _ _ heG el
        obtain ⟨_, hwG⟩ := WG.lst
        have hB1 := hB.but (by simp) hwG BG1
        have BG01 := BG.trans BG1
        clear hB hbG heG hwG BG BG1 WG
        refine ⟨_, rfl, .inl ⟨rfl, _, SqL.of heG1⟩, 6, rfl, by decide, by decide, fun D nD => lc_it walk_range (fun j H' => ∃ es : List Int, WellAt H' l ∧ But l G1 H' ∧ H' D = some (.lst (es.map V.int)) ∧ es.length = j ∧ Ends far (x - far) es) ⟨[], WG1.mono' (Same.new nD), But.of (Same.new nD), upd_same, rfl, fun i hi => by cases hi⟩ (fun _ _ _ _ => trivial) ?_ ?_⟩
        · rintro j y G2 G3 hj ⟨es, W2, B2, hD2, hel, hends⟩ ⟨rfl, rfl⟩
          refine ⟨rfl, _, rfl, _, 2, rfl, rfl, _, rfl, far, 2, rfl, rfl, _, rfl, _, _, rfl, rfl, .inr ⟨by omega, by omega⟩, _, _, rfl, rfl, _, rfl, _, rfl, l, far, rfl, W2, by omega, lg2 (by omega), fun r G4 r0 r1 W4 B4 => ⟨_, _, rfl, rfl, ?_⟩⟩
          have Dl : D ≠ l := fun e => by
            obtain ⟨_, h⟩ := id WG1
            rw [e] at nD
            obtain ⟨_, _, h⟩ := h
            rw [nD] at h
            cases h
          have hD4 := B4 _ _ hD2 Dl
          refine ⟨_, hD4, szs (by rw [List.length_map]; omega), es ++ [x - far + 2 + (far + 2) * (j : Int) + r], ?_, But.mutN (B2.trans B4) nD, ?_, by simp [hel], fun i hi => ?_⟩
          · obtain ⟨x, y, z, h⟩ := W4
            exact ⟨x, y, z, by rw [upd_ne (fun e => Dl e.symm)]; exact h⟩
          · rw [upd_same, List.map_append]
            refine congrArg (fun z => some (HO.lst (_ ++ [V.int z]))) ?_
            show x - far + 2 + (far + 2) * (0 + (j : Int)) + r = _
            rw [Int.zero_add]
          · by_cases c : i < es.length
            · obtain ⟨q, q0, q1, q2⟩ := hends i c
              exact ⟨q, q0, q1, by rw [List.getD_eq_getElem?_getD, List.getElem?_append_left c, ← List.getD_eq_getElem?_getD]; exact q2⟩
            · rw [List.length_append, List.length_singleton] at hi
              have ei : i = es.length := by omega
              subst ei
              exact ⟨r, r0, r1, by rw [List.getD_eq_getElem?_getD, List.getElem?_append_right (Nat.le_refl _), hel]; simp⟩
        rintro G2 ⟨es, W2, B2, hD2, hel, hends⟩
        have hel : es.length = 6 := by rw [hel]; rfl
        have De : D ≠ en := fun e => by rw [e, heG1] at nD; cases nD
        have Db : D ≠ bx := fun e => by rw [e, hbG1] at nD; cases nD
        have Dl : D ≠ l := fun e => by
          obtain ⟨_, h⟩ := WG1.lst
          rw [e, h] at nD
          cases nD
        have hb2 := B2 _ _ hbG1 bl
        have he2 := B2 _ _ heG1 el
        obtain ⟨_, hwG1⟩ := WG1.lst
        have hB2 := hB1.but (by simp) hwG1 B2
        have B02 := BG01.trans B2
        refine ⟨en, _, _, rfl, rfl, he2, szs (by rw [List.length_map, hB2.le]; omega), ?_⟩
        have he3 : upd G2 en (.lst (els.map V.ref ++ [V.ref D])) en = some (.lst ((els ++ [D]).map V.ref)) := by rw [upd_same, List.map_append]; rfl
        have hb3 : upd G2 en (.lst (els.map V.ref ++ [V.ref D])) bx = _ := (upd_ne be).trans hb2
        have hD3 : upd G2 en (.lst (els.map V.ref ++ [V.ref D])) D = _ := (upd_ne De).trans hD2
        have hB3 := hB2.but (by simp) he2 (But.upd (o := HO.lst (els.map V.ref ++ [V.ref D])))
        have B03 : But l H4 (upd G2 en (.lst (els.map V.ref ++ [V.ref D]))) := But.mutN B02 nen4
        have W3 : WellAt (upd G2 en (.lst (els.map V.ref ++ [V.ref D]))) l := by
          obtain ⟨x, y, z, h⟩ := W2
          exact ⟨x, y, z, by rw [upd_ne el.symm]; exact h⟩
        generalize upd G2 en (.lst (els.map V.ref ++ [V.ref D])) = G3 at he3 hb3 hD3 hB3 B03 W3 ⊢
        have eu : (0 : Int) + (u : Int) = (u : Int) := by omega
        have atu : ((els ++ [D]).map V.ref)[u]? = some (V.ref D) := by
          rw [List.getElem?_map, List.getElem?_append_right (by rw [hB3.le]; exact Nat.le_refl _), hB3.le, Nat.sub_self]
          rfl
        have at5 : (es.map V.int)[5]? = some (.int (es.getD 5 0)) := by
          rw [List.getElem?_map, List.getElem?_eq_getElem (by omega), List.getD_eq_getElem?_getD, List.getElem?_eq_getElem (by omega)]
          rfl
        refine ⟨_, rfl, .inl ⟨rfl, _, SqL.of hb3⟩, _, rfl, _, rfl, _, rfl, en, _, _, _, rfl, rfl, SqL.of he3, by rw [eu]; exact atI_nat atu, D, _, 5, _, rfl, rfl, SqL.of hD3, (show atI _ ((5 : Nat) : Int) = _ from atI_nat at5), sz (by simp), fun tb ntb => ?_⟩
        have Sb := Same.new (o := HO.tup [V.int (x - far), V.int (es.getD 5 0)]) ntb
        have htb : SqT K (upd G3 tb (HO.tup [V.int (x - far), V.int (es.getD 5 0)])) tb [V.int (x - far), V.int (es.getD 5 0)] := SqT.of upd_same
        have hb4 := Sb _ _ hb3
        have he4 := Sb _ _ he3
        have hD4 := Sb _ _ hD3
        have hB4 := hB3.mono Sb
        have B04 := B03.trans (But.of Sb)
        have W4 := W3.mono' Sb
        generalize upd G3 tb (HO.tup [V.int (x - far), V.int (es.getD 5 0)]) = G4 at htb hb4 he4 hD4 hB4 B04 W4 ⊢
        refine ⟨bx, _, _, rfl, rfl, hb4, szs (by rw [List.length_map, hB4.lb]; omega), ?_⟩
        have hB5 := hB4.but (by simp) hb4 (But.upd (o := HO.lst (bs.map V.ref ++ [V.ref tb])))
        refine ⟨_, _, _, bs ++ [tb], els ++ [D], lo ++ [x - far], E ++ [es], rfl, ?_, But.mutN B04 nbx, by rw [upd_same, List.map_append]; rfl, (upd_ne be.symm).trans he4, ?_⟩
        · obtain ⟨x, y, z, h⟩ := W4
          exact ⟨x, y, z, by rw [upd_ne bl.symm]; exact h⟩
        · refine ⟨by simp [hB5.lb], by simp [hB5.le], by simp [hB5.ll], by simp [hB5.lE], fun j hj => ?_⟩
          by_cases c : j < u
          · obtain ⟨b, e, es', a1, a2, a3, a4, a5, a6, a7, a8⟩ := hB5.at_ j c
            have e1 : (lo ++ [x - far]).getD j 0 = lo.getD j 0 := by rw [List.getD_eq_getElem?_getD, List.getElem?_append_left (by rw [hB5.ll]; exact c), ← List.getD_eq_getElem?_getD]
            exact ⟨b, e, es', by rw [List.getElem?_append_left (by rw [hB5.lb]; exact c)]; exact a1, by rw [List.getElem?_append_left (by rw [hB5.le]; exact c)]; exact a2, by rw [List.getElem?_append_left (by rw [hB5.lE]; exact c)]; exact a3, by rw [e1]; exact a4, a5, a6, by rw [e1]; exact a7, a8⟩
          · have ej : j = u := by omega
            subst ej
            have e1 : (lo ++ [x - far]).getD j 0 = x - far := by rw [List.getD_eq_getElem?_getD, List.getElem?_append_right (by rw [hB5.ll]; exact Nat.le_refl _), hB5.ll]; simp
            refine ⟨tb, D, es, by rw [List.getElem?_append_right (by rw [hB5.lb]; exact Nat.le_refl _), hB5.lb]; simp, by rw [List.getElem?_append_right (by rw [hB5.le]; exact Nat.le_refl _), hB5.le]; simp, by rw [List.getElem?_append_right (by rw [hB5.lE]; exact Nat.le_refl _), hB5.lE]; simp, by rw [e1]; exact butT hb4 But.upd htb, (upd_ne Db).trans hD4, hel, by rw [e1]; exact hends, by simp [Dl, De, Db]⟩
      rintro σ G ⟨w7, w8, w19, bs, els, lo, E, rfl, WG, BG, hbG, heG, hB⟩
      have hnG := BG _ _ hn hnl
      have htG := BG _ _ ht4 tl
      clear hn ht4 BG W6 Sbe hbx hen hw5 W5 Sb Se nbx nen nen4
      obtain ⟨b0, e0, es0, q01, q02, q03, q04, q05, q06, q07, _⟩ := hB.at_ 0 (by decide)
      obtain ⟨b1, e1, es1, q11, q12, q13, q14, q15, q16, q17, _⟩ := hB.at_ 1 (by decide)
      obtain ⟨b2, e2, es2, q21, q22, q23, q24, q25, q26, q27, _⟩ := hB.at_ 2 (by decide)
      have eE : E = [es0, es1, es2] := by
        have := hB.lE
        match E, this with
        | [a, b, c], _ =>
          cases q03
          cases q13
          cases q23
          rfl
      have ebs : bs = [b0, b1, b2] := by
        have := hB.lb
        match bs, this with
        | [a, b, c], _ =>
          cases q01
          cases q11
          cases q21
          rfl
      have eels : els = [e0, e1, e2] := by
        have := hB.le
        match els, this with
        | [a, b, c], _ =>
          cases q02
          cases q12
          cases q22
          rfl
      obtain ⟨lo0, lo1, lo2, elo⟩ : ∃ x y z, lo = [x, y, z] := by
        have := hB.ll
        match lo, this with
        | [a, b, c], _ => exact ⟨a, b, c, rfl⟩
      subst elo ebs eels eE
      clear q01 q02 q03 q11 q12 q13 q21 q22 q23 hB
      have hbox : BoxAt K G bx [lo0, lo1, lo2] [es0.getD 5 0, es1.getD 5 0, es2.getD 5 0] := ⟨[b0, b1, b2], SqL.of hbG, rfl, rfl, rfl, fun j q hq => by
        match j, hq with
        | 0, hq => cases hq; exact q04
        | 1, hq => cases hq; exact q14
        | 2, hq => cases hq; exact q24⟩
      generalize hhi : [es0.getD 5 0, es1.getD 5 0, es2.getD 5 0] = hi at hbox
      generalize hlo : [lo0, lo1, lo2] = lo at hbox
      have hnj : ∀ j, j < 3 → ns.getD j "" ∈ ns := fun j hj => by
        rw [List.getD_eq_getElem?_getD, List.getElem?_eq_getElem (by omega)]
        exact List.getElem_mem _
      have hnw : ∀ j, j < 3 → ns.getD j "" ∈ ns ++ [("w" : Str)] := fun j hj => List.mem_append_left _ (hnj j hj)
      have hnwr : ∀ j, j < 3 → ns.getD j "" ∈ [("w" : Str)] ++ ns := fun j hj => List.mem_append_right _ (hnj j hj)
      have hnne : ∀ j, j < 3 → ns.getD j "" ≠ "" := fun j hj => (hnp _ (hnw j hj)).2.2.2
      -- rows along the second name
      refine ⟨_, rfl, _, rfl, _, rfl, en, _, 1, _, rfl, rfl, SqL.of heG, rfl, n, bx, e1, 1, ns, lo, hi, es1, rfl, SqL.of hnG, hn3, hbox, SqL.of q15, q16, by decide, fun r9 G1 S1 hr9 => ?_⟩
      -- the set cut along the first
      refine ⟨_, rfl, n, _, rfl, .inl ⟨SqL.of (S1 _ _ hnG), fun tn ntn => ?_⟩⟩
      have Stn := Same.new (o := HO.tup (ns.map V.str)) ntn
      refine ⟨sz (by simp), fun tw ntw => ?_⟩
      have Stw := Same.new (o := HO.tup [V.str "w"]) ntw
      refine ⟨tn, tw, _, _, rfl, rfl, Same.seqT Stw (SqT.of upd_same), SqT.of upd_same, szL (by rw [List.length_map]; simp; omega), fun pn G2 S2 hpn => ?_⟩
      replace hpn : SqT K G2 pn ((ns ++ [("w" : Str)]).map V.str) := by rw [List.map_append]; exact hpn
      have S12 := S1.trans (Stn.trans (Stw.trans S2))
      have hr92 := hr9.mono (Stn.trans (Stw.trans S2))
      clear Stn Stw S2 S1 ntn ntw hr9
      refine ⟨_, rfl, _, rfl, _, rfl, en, _, 0, _, rfl, rfl, SqL.of (S12 _ _ heG), rfl, n, bx, e0, 0, ns, lo, hi, es0, rfl, SqL.of (S12 _ _ hnG), hn3, hbox.mono S12, SqL.of (S12 _ _ q05), q06, by decide, fun r10 G3 S3 hr10 => ?_⟩
      have hN : NamesOk (ns ++ [("w" : Str)]) := ⟨by simp; omega, fun x hx => (hnp x hx).2.2.1, fun x hx => (hnp x hx).1, hnd⟩
      obtain ⟨ys, hperm, hpw⟩ : ∃ ys : List Str, ys.Perm (ns ++ [("w" : Str)]) ∧ ys.Pairwise Sk.LeS := ⟨_, List.mergeSort_perm (ns ++ [("w" : Str)]) _, Sk.sort_pw (ns ++ [("w" : Str)])⟩
      have hY : Nys ys := ⟨hN.perm hperm, hpw, fun x hx => (hnp x (hperm.mem_iff.mp hx)).2.1⟩
      have hyl : ys.length = 4 := by rw [hperm.length_eq]; simp; omega
      have hmm : (ys.length + 1) * (ys.length + 1) ≤ 25 := by rw [hyl]; decide
      have sl6 : ∀ (es : List Int) (a : Nat), (sliced ns lo hi es a 6).length = 6 := fun es a => by
        unfold sliced
        rw [List.length_map, List.length_range]
      refine fun o1 dx0 nx0 nd0 ne0 => rd_mk (CC := CC) (CS := CS) o1 dx0 nx0 nd0 ne0 (Same.seqT S3 hpn) hN hY hperm hr10 (by rw [sl6]; decide) (sliced_terms (by decide) hnw) fun P1 G4 S4 h1 s1 => ?_
      have S34 := S3.trans S4
      have S14 := S12.trans S34
      -- the set cut along the second, its names turned
      have hpr : ys.Perm ([("w" : Str)] ++ ns) := hperm.trans List.perm_append_comm
      have hNr : NamesOk ([("w" : Str)] ++ ns) := hN.perm List.perm_append_comm
      refine ⟨sz (by simp), fun tw ntw => ⟨_, rfl, n, _, rfl, .inl ⟨SqL.of ((S14.trans (Same.new ntw)) _ _ hnG), fun tn ntn => ?_⟩⟩⟩
      have Stw := Same.new (o := HO.tup [V.str "w"]) ntw
      have Stn := Same.new (o := HO.tup (ns.map V.str)) ntn
      refine ⟨tw, tn, _, _, rfl, rfl, Same.seqT Stn (SqT.of upd_same), SqT.of upd_same, szL (by rw [List.length_map]; simp; omega), fun pn2 G5 S5 hpn2 => ?_⟩
      replace hpn2 : SqT K G5 pn2 (([("w" : Str)] ++ ns).map V.str) := by rw [List.map_append]; exact hpn2
      have S45 := Stw.trans (Stn.trans S5)
      have S15 := S14.trans S45
      clear Stw Stn S5 ntw ntn
      have hr95 := hr92.mono (S34.trans S45)
      refine ⟨_, rfl, ?_⟩
      refine fun o2 dx0 nx0 nd0 ne0 => rd_mk (CC := CC) (CS := CS) o2 dx0 nx0 nd0 ne0 hpn2 hNr hY hpr hr95 (by rw [sl6]; decide) (sliced_terms (by decide) hnwr) fun P2 G6 S6 h2 s2 => ?_
      have S16 := S15.trans S6
      have h16 := h1.mono (S45.trans S6)
      have hr96 := hr95.mono S6
      have hpn6 := Same.seqT S6 hpn2
      clear h1 hr95 hr92 hpn2 hpn hr10 S45 S15 S14 S34 S12 S3 S4 S6
      -- the box as one row
      refine ⟨sz (by simp), fun e0' ne0' => ?_⟩
      have Se0 := Same.new (o := HO.tup []) ne0'
      have hw0 : RowAt K (upd G6 e0' (HO.tup [])) e0' (boxRow ns lo hi 0) := ⟨[], SqT.of upd_same, LitsAt.nil'⟩
      generalize upd G6 e0' (HO.tup []) = G7 at Se0 hw0 ⊢
      obtain ⟨bs, hb1, hb2, _, _, hb5⟩ := id hbox
      refine ⟨3, rfl, by decide, by decide, for_range (lo := 0) (n := 3) (fun u σ H' => ∃ (r : Addr) (w7 : Option V), σ = [some (.ref a), some (.int cc), some (.ref l), some (.int far), some (.ref n), some (.ref bx), some (.ref en), w7, w8, some (.ref r9), some (.ref o1), some (.ref o2), some (.ref r), v13, v14, v15, v16, v17, v18, w19] ∧ Same G6 H' ∧ RowAt K H' r (boxRow ns lo hi u)) ⟨e0', _, rfl, Se0, hw0⟩ ?_ ?_⟩
      · rintro u σ J hu3 ⟨r, w7, rfl, SJ, hr⟩
        have eu : (0 : Int) + (u : Int) = (u : Int) := by omega
        have SJ1 := S16.trans SJ
        have e1' := List.getElem?_eq_getElem (l := bs) (i := u) (by omega)
        have bat : (bs.map V.ref)[u]? = some (.ref bs[u]) := by rw [List.getElem?_map, e1']; rfl
        have bq := Same.seqT SJ1 (hb5 u _ e1')
        have nat : (ns.map V.str)[u]? = some (.str (ns.getD u "")) := by
          rw [List.getElem?_map, List.getElem?_eq_getElem (by omega), List.getD_eq_getElem?_getD, List.getElem?_eq_getElem (by omega)]
          rfl
        refine ⟨_, rfl, _, rfl, _, rfl, n, _, _, _, rfl, rfl, SqL.of (SJ1 _ _ hnG), by rw [eu]; exact atI_nat nat, ?_⟩
        refine ⟨_, rfl, _, rfl, bx, _, _, _, rfl, rfl, SJ1.seq hb1, by rw [eu]; exact atI_nat bat, bs[u], _, 0, _, rfl, rfl, bq, rfl, ?_⟩
        refine ⟨_, rfl, _, rfl, bx, _, _, _, rfl, rfl, SJ1.seq hb1, by rw [eu]; exact atI_nat bat, bs[u], _, 1, _, rfl, rfl, bq, rfl, _, _, _, rfl, fun r2 J2 SJ2 hr2 => ?_⟩
        obtain ⟨ts, g1, g2⟩ := hr.mono SJ2
        obtain ⟨us, y1, y2⟩ := hr2
        have tl1 : ts.length ≤ 100 := by
          rw [g2.1]
          have : (boxRow ns lo hi u).length ≤ (List.range u).length * 2 := Zg.flatMap_len' fun x _ => by simp [side]
          rw [List.length_range] at this
          omega
        have ul : us.length = 2 := y2.1
        refine ⟨r, r2, _, _, rfl, rfl, g1, y1, szL (by rw [List.length_map, List.length_map]; omega), fun c J3 SJ3 hc => ?_⟩
        rw [← List.map_append] at hc
        refine ⟨c, _, rfl, SJ.trans (SJ2.trans SJ3), ts ++ us, hc, ?_⟩
        have : boxRow ns lo hi (u + 1) = boxRow ns lo hi u ++ side (ns.getD u "") (lo.getD u 0) (hi.getD u 0) := by
          unfold boxRow
          rw [List.range_succ, List.flatMap_append]
          simp
        rw [this]
        exact (g2.mono SJ3).app (y2.mono SJ3)
      rintro σ J ⟨r12, w7, rfl, SJ, hw⟩
      -- the box as a set
      have S1J := S16.trans SJ
      refine ⟨sz (by simp), fun tw ntw => ⟨_, rfl, n, _, rfl, .inl ⟨SqL.of ((S1J.trans (Same.new ntw)) _ _ hnG), fun tn ntn => ?_⟩⟩⟩
      have Stw := Same.new (o := HO.tup [V.str "w"]) ntw
      have Stn := Same.new (o := HO.tup (ns.map V.str)) ntn
      refine ⟨tw, tn, _, _, rfl, rfl, Same.seqT Stn (SqT.of upd_same), SqT.of upd_same, szL (by rw [List.length_map]; simp; omega), fun pn3 J1 SJ1 hpn3 => ?_⟩
      replace hpn3 : SqT K J1 pn3 (([("w" : Str)] ++ ns).map V.str) := by rw [List.map_append]; exact hpn3
      have SJJ := Stw.trans (Stn.trans SJ1)
      refine ⟨_, rfl, sz (by simp), fun tr ntr => ?_⟩
      have Str_ := Same.new (o := HO.tup [V.ref r12]) ntr
      have hrw : RowsAt K (upd J1 tr (HO.tup [V.ref r12])) tr [boxRow ns lo hi 3] := ⟨[r12], SqT.of upd_same, RowsIn.one (hw.mono (SJJ.trans Str_))⟩
      have hpn4 := Same.seqT Str_ hpn3
      have SJ2 := SJJ.trans Str_
      generalize upd J1 tr (HO.tup [V.ref r12]) = J2 at hrw hpn4 SJ2 ⊢
      refine fun o3 dx0 nx0 nd0 ne0 => rd_mk (CC := CC) (CS := CS) o3 dx0 nx0 nd0 ne0 hpn4 hNr hY hpr hrw (by simp) (fun L hL => by rw [List.mem_singleton.mp hL]; exact boxRow_terms hnwr) fun P3 J3 S3 h3 s3 => ?_
      have S23 := SJ2.trans S3
      have S63 := SJ.trans S23
      have S13 := S16.trans S63
      have hA := (h16.mono S63).up (Nat.le_refl 0) (Nat.le_refl 0) (show (sliced ns lo hi es0 0 6).length ≤ 6 by rw [sl6]; exact Nat.le_refl 6)
      have hB := (h2.mono S63).up (Nat.le_refl 0) (Nat.le_refl 0) (show (sliced ns lo hi es1 1 6).length ≤ 6 by rw [sl6]; exact Nat.le_refl 6)
      have hC := h3.up (Nat.le_refl 0) (Nat.le_refl 0) (show 1 ≤ 6 by decide)
      have hr9 := hr96.mono S63
      have hn3' := S13 _ _ hnG
      have he3 := S13 _ _ heG
      have q15' := S13 _ _ q15
      have hbx3 := hbox.mono S13
      have ht3 := S13 _ _ htG
      have W3 := WG.mono' S13
      clear h16 h2 h3 hr96 S23 SJ2 S3 SJJ Stw Stn SJ1 Str_ hrw hpn4 hpn3 hpn6 S1J SJ hw S63 S13 S16 Se0 hw0 ntw ntn ntr ne0' WG htG
      have sg0 : Segs (lowK lo es0 0) (highK hi es0 0) := segs_of q07 q06 hf0 (by rw [← hlo]) (by rw [← hhi]; rfl)
      have sg1 : Segs (lowK lo es1 1) (highK hi es1 1) := segs_of q17 q16 hf0 (by rw [← hlo]) (by rw [← hhi]; rfl)
      have m1 : ∀ x : Nat → Int, x 0 = 0 → (Zg.InS (ys.length + 1) x P1 ↔ Box (fun t => x (ixOf ys t)) ns lo hi) := fun x h0 => (s1 x).trans ((inR_x h0).trans (sliced_in (by decide) hnne sg0))
      have m2 : ∀ x : Nat → Int, x 0 = 0 → (Zg.InS (ys.length + 1) x P2 ↔ Box (fun t => x (ixOf ys t)) ns lo hi) := fun x h0 => (s2 x).trans ((inR_x h0).trans (sliced_in (by decide) hnne sg1))
      have m3 : ∀ x : Nat → Int, x 0 = 0 → (Zg.InS (ys.length + 1) x P3 ↔ Box (fun t => x (ixOf ys t)) ns lo hi) := fun x h0 => (s3 x).trans ((inR_x h0).trans (box_in hnne))
      have noE : ∀ {r : Addr} {J : Hp} {E : List Pt} {D S N : Nat}, SetA K CC CS J r ys E D S N → (∀ x : Nat → Int, x 0 = 0 → ¬ Zg.InS (ys.length + 1) x E) → E = [] := fun {r J E D S N} h hn => by
        cases E with
        | nil => rfl
        | cons A E =>
          obtain ⟨x, h0, hx⟩ := (h.2.1 A List.mem_cons_self).ne
          exact absurd ⟨A, List.mem_cons_self, hx⟩ (hn x h0)
      -- equal, and each within the other one
      refine ⟨_, rfl, _, rfl, rd_ne (M := 25) hY hY hA hB hmm (by decide) (by decide) (by decide) fun b1 K1 T1 ht1 => ?_⟩
      obtain rfl := ht1.yes0 fun x h0 => (m1 x h0).trans (m2 x h0).symm
      refine ⟨_, rfl, iteFe rfl ?_⟩
      refine ⟨_, rfl, _, rfl, rd_le (M := 25) hY (hA.mono T1) (hB.mono T1) hmm (by decide) (by decide) (by decide) fun b2 K2 T2 ht2 => ?_⟩
      obtain rfl := ht2.yes0 fun x h0 h => (m2 x h0).mpr ((m1 x h0).mp h)
      refine ⟨_, rfl, iteF ?_⟩
      have T12 := T1.trans T2
      refine ⟨_, rfl, _, rfl, rd_le (M := 25) hY (hB.mono T12) (hA.mono T12) hmm (by decide) (by decide) (by decide) fun b3 K3 T3 ht3' => ?_⟩
      obtain rfl := ht3'.yes0 fun x h0 h => (m1 x h0).mpr ((m2 x h0).mp h)
      refine ⟨_, rfl, iteF ?_⟩
      have T13 := T12.trans T3
      refine ⟨_, rfl, _, rfl, rd_ne (M := 25) hY hY (hA.mono T13) (hC.mono T13) hmm (by decide) (by decide) (by decide) fun b4 K4 T4 ht4 => ?_⟩
      obtain rfl := ht4.yes0 fun x h0 => (m1 x h0).trans (m3 x h0).symm
      refine ⟨_, rfl, iteFe rfl ?_⟩
      have T14 := T13.trans T4
      refine ⟨_, rfl, _, rfl, rd_ne (M := 25) hY hY (hC.mono T14) (hB.mono T14) hmm (by decide) (by decide) (by decide) fun b5 K5 T5 ht5 => ?_⟩
      obtain rfl := ht5.yes0 fun x h0 => (m3 x h0).trans (m2 x h0).symm
      refine ⟨_, rfl, iteFe rfl ?_⟩
      have T15 := T14.trans T5
      clear T1 T2 T3 T4 T5 T12 T13 T14 ht1 ht2 ht3' ht4 ht5
      -- nothing between them
      refine ⟨_, rfl, _, rfl, rd_sub (M := 25) hY (hA.mono T15) (hB.mono T15) hmm (S' := 306) (by decide) (by decide) (by decide) (by decide) fun r1 E1 K6 T6 hE1 sE1 _ => ?_⟩
      have eE1 := noE hE1 fun x h0 h => ((sE1 x).mp h).2 ((m2 x h0).mpr ((m1 x h0).mp ((sE1 x).mp h).1))
      obtain ⟨dz, tz, cz, k1, k2, k3⟩ := id hE1.1
      refine ⟨r1, dz, _, rfl, k1, rfl, r1, ys, E1, rfl, hE1.1, ?_⟩
      subst eE1
      refine ⟨_, rfl, iteF ?_⟩
      have T16 := T15.trans T6
      refine ⟨_, rfl, _, rfl, rd_sub (M := 25) hY (hB.mono T16) (hC.mono T16) hmm (S' := 306) (by decide) (by decide) (by decide) (by decide) fun r2 E2 K7 T7 hE2 sE2 _ => ?_⟩
      have eE2 := noE hE2 fun x h0 h => ((sE2 x).mp h).2 ((m3 x h0).mpr ((m2 x h0).mp ((sE2 x).mp h).1))
      obtain ⟨dz2, tz2, cz2, k12, k22, k32⟩ := id hE2.1
      refine ⟨r2, dz2, _, rfl, k12, rfl, r2, ys, E2, rfl, hE2.1, ?_⟩
      subst eE2
      refine ⟨_, rfl, iteF ?_⟩
      have T17 := T16.trans T7
      refine ⟨_, rfl, _, rfl, rd_and (M := 25) hY (hA.mono T17) (hB.mono T17) hmm (S' := 307) (by decide) (by decide) (by decide) (by decide) fun r3 E3 K8 T8 hE3 sE3 => ?_⟩
      have T18 := T17.trans T8
      refine ⟨_, rfl, rd_ne (M := 25) hY hY hE3 ((hC.mono T18).up (Nat.zero_le _) (by decide) (Nat.le_refl _)) hmm (by decide) (by decide) (by decide) fun b6 K9 T9 ht6 => ?_⟩
      obtain rfl := ht6.yes0 fun x h0 => (sE3 x).trans (⟨fun h => (m3 x h0).mpr ((m1 x h0).mp h.1), fun h => ⟨(m1 x h0).mpr ((m3 x h0).mp h), (m2 x h0).mpr ((m3 x h0).mp h)⟩⟩)
      refine ⟨_, rfl, iteFe rfl ?_⟩
      have T19 := T18.trans T9
      have hA9 := hA.mono T19
      have hB9 := hB.mono T19
      have W9 := W3.mono' T19
      have ht9 := T19 _ _ ht3
      have hr99 := hr9.mono T19
      have hn9 := T19 _ _ hn3'
      have he9 := T19 _ _ he3
      have q99 := T19 _ _ q15'
      have hbx9 := hbx3.mono T19
      clear T6 T7 T8 T9 T15 T16 T17 T18 T19 hA hB W3 ht3 hr9 hn3' he3 q15' hbx3 hE1 sE1 hE2 sE2 hE3 sE3 ht6 k1 k2 k3 k12 k22 k32 m3 hC
      -- where it is cut
      refine ⟨_, rfl, l, 6, rfl, W9, by decide, by decide +kernel, fun at0 L0 p0 p1 WL BL => ?_⟩
      obtain ⟨an, rfl⟩ : ∃ j : Nat, at0 = (j : Int) := ⟨at0.toNat, by omega⟩
      have ha6 : an < 6 := by omega
      obtain ⟨wl9, hl9⟩ := W9.lst
      have hA1 := hA9.but hl9 BL
      have hB1 := hB9.but hl9 BL
      have hr91 := hr99.but hl9 BL
      have ht1 := BL _ _ ht9 tl
      have hn1 := BL _ _ hn9 hnl
      have he1 := BL _ _ he9 el
      have e1l : e1 ≠ l := fun e => (‹¬ e1 ∈ [l, en, bx]›) (by rw [e]; simp)
      have qe1 := BL _ _ q99 e1l
      have hbx1 : BoxAt K L0 bx lo hi := by
        obtain ⟨bs, z1, z2, z3, z4, z5⟩ := hbx9
        exact ⟨bs, butL BL bl z1, z2, z3, z4, fun j q hj => butT hl9 BL (z5 j q hj)⟩
      have eat : ∀ {j : Nat}, j < 6 → (es1.map V.int)[j]? = some (.int (es1.getD j 0)) := fun {j} hj => by
        rw [List.getElem?_map, List.getElem?_eq_getElem (by omega), List.getD_eq_getElem?_getD, List.getElem?_eq_getElem (by omega)]
        rfl
      have hU : ∀ k, k < 6 → highK hi es1 1 k = es1.getD k 0 := fun k hk => by
        unfold highK
        by_cases c : k < 5
        · rw [if_pos c]
        · rw [if_neg c, ← hhi, show k = 5 by omega]
          rfl
      clear hA9 hB9 hr99 ht9 hn9 he9 q99 hbx9 BL W9 hl9
      refine ⟨_, rfl, en, _, 1, _, rfl, rfl, SqL.of he1, rfl, ?_⟩
      refine ⟨_, rfl, e1, _, (an : Nat), _, rfl, rfl, SqL.of qe1, atI_nat (eat ha6), ?_⟩
      -- where it begins
      refine ⟨fun σ' H' => σ' = [some (V.ref a), some (V.int cc), some (V.ref l), some (V.int far), some (V.ref n), some (V.ref bx), some (V.ref en), w7, some (V.int (lowK lo es1 1 an)), some (V.ref r9), some (V.ref o1), some (V.ref o2), some (V.ref r12), some (V.ref o3), some (V.int (an : Nat)), some (V.int (highK hi es1 1 an)), v16, v17, v18, w19] ∧ H' = L0, ?_, ?_⟩
      · refine ⟨_, rfl, _, _, rfl, rfl, _, rfl, ?_⟩
        by_cases c : an = 0
        · refine iteFe (decide_eq_false (by omega)) ?_
          obtain ⟨bs, z1, z2, z3, z4, z5⟩ := hbx1
          have e1' := List.getElem?_eq_getElem (l := bs) (i := 1) (by omega)
          have bat : (bs.map V.ref)[1]? = some (.ref bs[1]) := by rw [List.getElem?_map, e1']; rfl
          refine ⟨_, rfl, bx, _, 1, _, rfl, rfl, z1, (show atI _ ((1 : Nat) : Int) = _ from atI_nat bat), bs[1], _, 0, _, rfl, rfl, z5 1 _ e1', rfl, ?_⟩
          refine ⟨?_, rfl⟩
          rw [hU an ha6]
          unfold lowK
          rw [if_pos c]
          rfl
        · refine iteTe (decide_eq_true (by omega)) ?_
          refine ⟨_, rfl, en, _, 1, _, rfl, rfl, SqL.of he1, rfl, _, rfl, _, _, rfl, rfl, e1, _, ((an - 1 : Nat) : Int), _, rfl, ?_, SqL.of qe1, atI_nat (eat (by omega)), _, _, rfl, rfl, ?_⟩
          · exact congrArg V.int (by omega)
          refine ⟨?_, rfl⟩
          rw [hU an ha6]
          unfold lowK
          rw [if_neg c]
          rfl
      rintro σ' H' ⟨rfl, rfl⟩
      have sle := sg1.le an ha6
      have sbig : highK hi es1 1 an - lowK lo es1 1 an + 1 < 2 ^ 150 := by
        rw [hU an ha6]
        unfold lowK
        obtain ⟨r, r0, r1, e1⟩ := q17 an (by omega)
        by_cases c : an = 0
        · rw [if_pos c, e1, c, ← hlo]
          simp
          omega
        · obtain ⟨q, q0, q1, e2⟩ := q17 (an - 1) (by omega)
          have : (far + 2) * (an : Int) = (far + 2) * ((an - 1 : Nat) : Int) + (far + 2) := by
            rw [show (an : Int) = ((an - 1 : Nat) : Int) + 1 by omega, Int.mul_add]
            simp
          rw [if_neg c, e1, e2, this]
          omega
      refine ⟨_, rfl, _, rfl, _, rfl, _, rfl, _, _, rfl, rfl, _, _, rfl, rfl, l, _, rfl, WL, by omega, lg2 (by omega), fun rr L1 p2 p3 WL1 BL => ⟨_, _, rfl, rfl, ?_⟩⟩
      obtain ⟨wl9, hl9⟩ := WL.lst
      have hA2 := hA1.but hl9 BL
      have hB2 := hB1.but hl9 BL
      have hr92 := hr91.but hl9 BL
      have ht2 := BL _ _ ht1 tl
      have hn2 := BL _ _ hn1 hnl
      clear hA1 hB1 hr91 ht1 hn1 he1 qe1 hbx1 BL WL hl9
      have nat1 : (ns.map V.str)[1]? = some (.str (ns.getD 1 "")) := by
        rw [List.getElem?_map, List.getElem?_eq_getElem (by omega), List.getD_eq_getElem?_getD, List.getElem?_eq_getElem (by omega)]
        rfl
      generalize hls : lowK lo es1 1 an + rr = ls
      have ls0 : lowK lo es1 1 an ≤ ls := by omega
      have ls1 : ls ≤ highK hi es1 1 an := by omega
      obtain ⟨rs9, h9a, h9b⟩ := hr92
      have hrl : rs9.length = 6 := h9b.1.trans (sl6 _ _)
      obtain ⟨q9, q9a, q9b⟩ := h9b.2 an _ (sliced_at ha6)
      have rat : (rs9.map V.ref)[an]? = some (.ref q9) := by rw [List.getElem?_map, q9a]; rfl
      refine ⟨_, rfl, n, _, 1, _, rfl, rfl, SqL.of hn2, (show atI _ ((1 : Nat) : Int) = _ from atI_nat nat1), _, rfl, _, rfl, _, _, congrArg V.int hls, rfl, _, _, _, rfl, fun u1 L2 S2 hu1 => ?_⟩
      refine ⟨_, rfl, _, rfl, r9, _, (an : Nat), _, rfl, rfl, Same.seqT S2 h9a, atI_nat rat, ?_⟩
      obtain ⟨t9, g9a, g9b⟩ := q9b
      have t9l : t9.length ≤ 900 := by
        rw [g9b.1]
        exact (row_terms (at_ := 1) (l := lowK lo es1 1 an) (h := highK hi es1 1 an) (lo := lo) (hi := hi) (by decide) hnw).1
      have t92 : 2 ≤ (t9.map V.ref).length := by
        rw [List.length_map, g9b.1]
        simp [rowOf, side]
      refine ⟨2, rfl, q9, _, rfl, Same.seqT S2 g9a, fun u2 L3 S3 hu2 => ?_⟩
      replace hu2 : SqT K L3 u2 ((t9.drop 2).map V.ref) := by
        rw [List.map_drop, ← cut_from t92]
        exact hu2
      obtain ⟨t1, g1a, g1b⟩ := hu1
      have t1l : t1.length = 2 := g1b.1
      have S23 := S2.trans S3
      refine ⟨u1, u2, _, _, rfl, rfl, Same.seqT S3 g1a, hu2, szL (by rw [List.length_map, List.length_map, List.length_drop]; omega), fun u3 L4 S4 hu3 => ?_⟩
      have S24 := S23.trans S4
      have hpart : RowAt K L4 u3 (rowOf ns lo hi 1 (lowK lo es1 1 an) (ls - 1) 3) := ⟨t1 ++ t9.drop 2, by rw [List.map_append]; exact hu3, (g1b.mono (S3.trans S4)).app ((g9b.drop 2).mono S24)⟩
      clear hu3 hu2 g1a g1b S2 S3 S4 S23
      -- what is left
      refine ⟨sz (by simp), fun tw ntw => ⟨_, rfl, n, _, rfl, .inl ⟨SqL.of ((S24.trans (Same.new ntw)) _ _ hn2), fun tn ntn => ?_⟩⟩⟩
      have Stw := Same.new (o := HO.tup [V.str "w"]) ntw
      have Stn := Same.new (o := HO.tup (ns.map V.str)) ntn
      refine ⟨tw, tn, _, _, rfl, rfl, Same.seqT Stn (SqT.of upd_same), SqT.of upd_same, szL (by rw [List.length_map]; simp; omega), fun pn4 L5 S5 hpn4 => ?_⟩
      replace hpn4 : SqT K L5 pn4 (([("w" : Str)] ++ ns).map V.str) := by rw [List.map_append]; exact hpn4
      have S45 := Stw.trans (Stn.trans S5)
      have S25 := S24.trans S45
      clear Stw Stn S5 ntw ntn
      refine ⟨_, rfl, _, rfl, (an : Nat), rfl, r9, _, rfl, Same.seqT S25 h9a, fun c1 L6 S6 hc1 => ?_⟩
      replace hc1 : SqT K L6 c1 ((rs9.take an).map V.ref) := by
        rw [List.map_take, ← cut_to (by rw [List.length_map]; omega)]
        exact hc1
      refine ⟨_, rfl, sz (by simp), fun tp ntp => ?_⟩
      have Stp := Same.new (o := HO.tup [V.ref u3]) ntp
      refine ⟨c1, tp, _, _, rfl, rfl, Same.seqT Stp hc1, SqT.of upd_same, szL (by rw [List.length_map, List.length_take]; simp; omega), fun c2 L7 S7 hc2 => ?_⟩
      have S27 := S25.trans (S6.trans (Stp.trans S7))
      refine ⟨_, rfl, _, rfl, _, _, rfl, rfl, _, rfl, r9, _, rfl, Same.seqT S27 h9a, fun c3 L8 S8 hc3 => ?_⟩
      replace hc3 : SqT K L8 c3 ((rs9.drop (an + 1)).map V.ref) := by
        rw [List.map_drop, ← cut_from (by rw [List.length_map]; omega)]
        exact hc3
      refine ⟨c2, c3, _, _, rfl, rfl, Same.seqT S8 hc2, hc3, szL (by simp; omega), fun c4 L9 S9 hc4 => ?_⟩
      have S28 := S27.trans S8
      have S29 := S28.trans S9
      have hR4 : RowsAt K L9 c4 ((sliced ns lo hi es1 1 6).take an ++ [rowOf ns lo hi 1 (lowK lo es1 1 an) (ls - 1) 3] ++ (sliced ns lo hi es1 1 6).drop (an + 1)) := ⟨rs9.take an ++ [u3] ++ rs9.drop (an + 1), by rw [List.map_append, List.map_append]; exact hc4, (((h9b.mono S29).take an).app (RowsIn.one (hpart.mono (S45.trans (S6.trans (Stp.trans (S7.trans (S8.trans S9)))))))).app ((h9b.mono S29).drop (an + 1))⟩
      have hpn9 := Same.seqT (S6.trans (Stp.trans (S7.trans (S8.trans S9)))) hpn4
      clear hc1 hc2 hc3 hc4 S6 Stp S7 S8 S9 S28 S27 S25 S45 S24 hpart hpn4 ntp
      have s6l : ∀ L ∈ (sliced ns lo hi es1 1 6).take an ++ [rowOf ns lo hi 1 (lowK lo es1 1 an) (ls - 1) 3] ++ (sliced ns lo hi es1 1 6).drop (an + 1), L.length ≤ 900 ∧ ∀ q ∈ L, TermsOk ([("w" : Str)] ++ ns) q := fun L hL => by
        rcases List.mem_append.mp hL with hL | hL
        · rcases List.mem_append.mp hL with hL | hL
          · exact sliced_terms (by decide) hnwr L (List.mem_of_mem_take hL)
          · rw [List.mem_singleton.mp hL]
            exact row_terms (by decide) hnwr
        · exact sliced_terms (by decide) hnwr L (List.mem_of_mem_drop hL)
      have l6 : ((sliced ns lo hi es1 1 6).take an ++ [rowOf ns lo hi 1 (lowK lo es1 1 an) (ls - 1) 3] ++ (sliced ns lo hi es1 1 6).drop (an + 1)).length ≤ 6 := by
        rw [List.length_append, List.length_append, List.length_take, List.length_drop, sl6]
        simp
        omega
      refine fun o4 dx0 nx0 nd0 ne0 => rd_mk (CC := CC) (CS := CS) o4 dx0 nx0 nd0 ne0 hpn9 hNr hY hpr hR4 (by omega) s6l fun P4 M0 S0 h4 s4 => ?_
      have S20 := S29.trans S0
      replace h4 := h4.up (Nat.le_refl 0) (Nat.le_refl 0) l6
      clear hpn9 hR4 s6l l6 nx0 nd0 ne0 S29 S0
      -- the thin one
      refine ⟨sz (by simp), fun tw ntw => ⟨_, rfl, n, _, rfl, .inl ⟨SqL.of ((S20.trans (Same.new ntw)) _ _ hn2), fun tn ntn => ?_⟩⟩⟩
      have Stw := Same.new (o := HO.tup [V.str "w"]) ntw
      have Stn := Same.new (o := HO.tup (ns.map V.str)) ntn
      refine ⟨tw, tn, _, _, rfl, rfl, Same.seqT Stn (SqT.of upd_same), SqT.of upd_same, szL (by rw [List.length_map]; simp; omega), fun pn5 M1 S5 hpn5 => ?_⟩
      replace hpn5 : SqT K M1 pn5 (([("w" : Str)] ++ ns).map V.str) := by rw [List.map_append]; exact hpn5
      have S01 := Stw.trans (Stn.trans S5)
      have S21 := S20.trans S01
      clear Stw Stn S5 ntw ntn
      refine ⟨_, rfl, n, _, 1, _, rfl, rfl, SqL.of (S21 _ _ hn2), (show atI _ ((1 : Nat) : Int) = _ from atI_nat nat1), _, rfl, _, rfl, ns.getD 1 "", ls, highK hi es1 1 an, congrArg (fun q => [V.str (ns.getD 1 ""), V.int q, V.int (highK hi es1 1 an)]) hls, fun u5 M2 S5 hu5 => ?_⟩
      have S22 := S21.trans S5
      refine ⟨_, rfl, _, rfl, r9, _, (an : Nat), _, rfl, rfl, Same.seqT S22 h9a, atI_nat rat, ?_⟩
      refine ⟨2, rfl, q9, _, rfl, Same.seqT S22 g9a, fun u6 M3 S3 hu6 => ?_⟩
      replace hu6 : SqT K M3 u6 ((t9.drop 2).map V.ref) := by
        rw [List.map_drop, ← cut_from t92]
        exact hu6
      obtain ⟨t5, g5a, g5b⟩ := hu5
      have t5l : t5.length = 2 := g5b.1
      have S23 := S22.trans S3
      refine ⟨u5, u6, _, _, rfl, rfl, Same.seqT S3 g5a, hu6, szL (by rw [List.length_map, List.length_map, List.length_drop]; omega), fun u7 M4 S4 hu7 => ?_⟩
      have S24 := S23.trans S4
      have hthin : RowAt K M4 u7 (rowOf ns lo hi 1 ls (highK hi es1 1 an) 3) := ⟨t5 ++ t9.drop 2, by rw [List.map_append]; exact hu7, (g5b.mono (S3.trans S4)).app ((g9b.drop 2).mono S24)⟩
      refine ⟨sz (by simp), fun tp ntp => ?_⟩
      have Stp := Same.new (o := HO.tup [V.ref u7]) ntp
      have hR5 : RowsAt K (upd M4 tp (HO.tup [V.ref u7])) tp [rowOf ns lo hi 1 ls (highK hi es1 1 an) 3] := ⟨[u7], SqT.of upd_same, RowsIn.one (hthin.mono Stp)⟩
      have hpn6 := Same.seqT (S5.trans (S3.trans (S4.trans Stp))) hpn5
      have S15 := S01.trans (S5.trans (S3.trans (S4.trans Stp)))
      have S25 := S24.trans Stp
      generalize upd M4 tp (HO.tup [V.ref u7]) = M5 at hR5 hpn6 S25 S15 ⊢
      refine fun o5 dx0 nx0 nd0 ne0 => rd_mk (CC := CC) (CS := CS) o5 dx0 nx0 nd0 ne0 hpn6 hNr hY hpr hR5 (by simp) (fun L hL => by rw [List.mem_singleton.mp hL]; exact row_terms (by decide) hnwr) fun P5 M6 S6 h5 s5 => ?_
      have S26 := S25.trans S6
      have hA6 := hA2.mono S26
      have hD6 := h4.mono (S15.trans S6)
      have hE6 := h5.up (Nat.zero_le 1) (Nat.zero_le 306) (show 1 ≤ 6 by decide)
      have WL6 := WL1.mono' S26
      have ht6 := S26 _ _ ht2
      clear hA2 hB2 h4 h5 hn2 ht2 h9a h9b q9a g9a g9b rat hu6 hu7 g5a g5b hthin hR5 hpn5 hpn6 S20 S21 S22 S23 S24 S25 S26 S15 S01 S5 S3 S4 Stp S6 nx0 nd0 ne0 ntp WL1
      have m4 : ∀ x : Nat → Int, x 0 = 0 → (Zg.InS (ys.length + 1) x P4 ↔ Box (fun t => x (ixOf ys t)) ns lo hi ∧ ¬ InB (fun t => x (ixOf ys t)) (ns.getD 1 "") ls (highK hi es1 1 an)) := fun x h0 => (s4 x).trans ((inR_x h0).trans (left_in hnne sg1 ha6 ls0 ls1))
      have m5 : ∀ x : Nat → Int, x 0 = 0 → (Zg.InS (ys.length + 1) x P5 ↔ Box (fun t => x (ixOf ys t)) ns lo hi ∧ InB (fun t => x (ixOf ys t)) (ns.getD 1 "") ls (highK hi es1 1 an)) := fun x h0 => (s5 x).trans ((inR_x h0).trans (thin_in hnne sg1 ha6 ls0))
      -- what is cut off is the thin one
      refine ⟨_, rfl, _, rfl, rd_sub (M := 25) hY hA6 hD6 hmm (S' := 306) (by decide) (by decide) (by decide) (by decide) fun r6 E6 M7 T1 hX6 sE6 _ => ?_⟩
      refine ⟨_, rfl, rd_ne (M := 25) hY hY hX6 (hE6.mono T1) hmm (by decide) (by decide) (by decide) fun b1 M8 T2 hq1 => ?_⟩
      obtain rfl := hq1.yes0 fun x h0 => (sE6 x).trans ⟨fun h => (m5 x h0).mpr ⟨(m1 x h0).mp h.1, Classical.byContradiction fun g => h.2 ((m4 x h0).mpr ⟨(m1 x h0).mp h.1, g⟩)⟩, fun h => ⟨(m1 x h0).mpr ((m5 x h0).mp h).1, fun g => ((m4 x h0).mp g).2 ((m5 x h0).mp h).2⟩⟩
      refine ⟨_, rfl, iteFe rfl ?_⟩
      have T12 := T1.trans T2
      refine ⟨_, rfl, _, rfl, rd_le (M := 25) hY (hD6.mono T12) (hA6.mono T12) hmm (by decide) (by decide) (by decide) fun b2 M9 T3 hq2 => ?_⟩
      obtain rfl := hq2.yes0 fun x h0 h => (m1 x h0).mpr ((m4 x h0).mp h).1
      refine ⟨_, rfl, iteF ?_⟩
      have T13 := T12.trans T3
      refine ⟨_, rfl, _, rfl, rd_le (M := 25) hY (hA6.mono T13) (hD6.mono T13) hmm (by decide) (by decide) (by decide) fun b3 M10 T4 hq3 => ?_⟩
      have b3f : b3 = false := by
        cases b3 with
        | false => rfl
        | true =>
          exfalso
          have sg2 : Segs (lowK lo es2 2) (highK hi es2 2) := segs_of q27 q26 hf0 (by rw [← hlo]) (by rw [← hhi]; rfl)
          have c0 : lo.getD 0 0 ≤ hi.getD 0 0 := (sg0.in_ (k := 0) (by decide) ⟨Int.le_refl _, sg0.le 0 (by decide)⟩).2
          have c2 : lo.getD 2 0 ≤ hi.getD 2 0 := (sg2.in_ (k := 0) (by decide) ⟨Int.le_refl _, sg2.le 0 (by decide)⟩).2
          have c1 : lo.getD 1 0 ≤ ls ∧ ls ≤ hi.getD 1 0 := sg1.in_ ha6 ⟨ls0, ls1⟩
          obtain ⟨x, h0, hb, hl⟩ := corner (ys := ys) (names_ne hnd hn3) hnne (fun j hj => hpr.mem_iff.mpr (hnwr j hj)) c0 c1 c2
          refine ((m4 x h0).mp (hq3.1 rfl x ((m1 x h0).mpr hb))).2 ?_
          show ls ≤ x (ixOf ys (ns.getD 1 "")) ∧ x (ixOf ys (ns.getD 1 "")) ≤ _
          rw [hl]
          exact ⟨Int.le_refl _, ls1⟩
      subst b3f
      refine ⟨_, rfl, iteF ?_⟩
      have T14 := T13.trans T4
      refine ⟨_, rfl, l, rfl, WL6.mono' T14, fun M11 WL11 BL11 => ?_⟩
      refine ⟨_, rfl, iteF ?_⟩
      exact ⟨_, _, _, _, _, _, _, _, _, _, _, _, _, _, _, _, _, _, _, rfl, BL11 _ _ (T14 _ _ ht6) tl⟩
    · rintro σ H0 ⟨v1, v2, v3, v4, v5, v6, v7, v8, v9, v10, v11, v12, v13, v14, v15, v16, v17, v18, v19, rfl, _⟩
      exact k H0
end
end K18

namespace K18
open PySem L2 Bx He
theorem facts {l : PySem.W.OpenLaw} {w : World} {K : PySem.W.Frag} {h : Heap} {mg : Str → Option Value} {fa : Addr} (X : K.In h) (G : h.Ns mainGlobals mg) (hfa : mg ("law" : Str) = some (.ref fa)) (c : Hy.obsY BX fnX tsX K = Hy.valY fnX tsX w) :
    ∃ fd : FuncData, (∀ (s : Shared) (v : Value), BindsTo s fd ⟨[v], []⟩ [("_law_script", v)]) ∧ ∀ base : Heap, K.In base → base.Ns mainGlobals mg → FnOk l.prog w K mg base C8.CX0 84 fa fd ["_law_script"] (spLaw K) := by
  have hB := Hy.says_fact c
  obtain ⟨hf, mm⟩ := ba (show ((faX.all fun f => f.ok K) && moreX K) = true from hB)
  have fact : ∀ (i : Nat) {f : Fa}, faX[i]? = some f → f.ok K = true := fun i {f} h => List.all_eq_true.mp hf f (List.mem_of_getElem? h)
  obtain ⟨m0, mm⟩ := ba mm
  obtain ⟨m1, mm⟩ := ba mm
  obtain ⟨m2, mm⟩ := ba mm
  obtain ⟨m3, mm⟩ := ba mm
  obtain ⟨m4, mm⟩ := ba mm
  obtain ⟨m5, mm⟩ := ba mm
  obtain ⟨m6, mm⟩ := ba mm
  obtain ⟨m7, mm⟩ := ba mm
  obtain ⟨m8, mm⟩ := ba mm
  obtain ⟨m9, mm⟩ := ba mm
  obtain ⟨m10, mm⟩ := ba mm
  have e := hfa.symm.trans (glo_ok X G (fact 46 (f := .glo "law") rfl))
  cases e
  have BB_BARRED : Kd.SD K w (ga K "BARRED") barred := Hy.says_tab c 0 (t := (fun K => ga K "BARRED", barred)) rfl
  have T : Txt K mg (ga K "Cover") (ga K "States") (ga K "BARRED") := { g_Cover := (glo_ok X G (fact 47 (f := .glo "Cover") rfl)), g_States := (glo_ok X G (fact 48 (f := .glo "States") rfl)), cC := cls_ok (fact 73 (f := .cls "Cover") rfl), cS := cls_ok (fact 74 (f := .cls "States") rfl), nC := noat_ok (fact 75 (f := .noat "Cover" "parts") rfl), nS := ⟨noat_ok (fact 76 (f := .noat "States" "names") rfl), noat_ok (fact 77 (f := .noat "States" "_cover") rfl)⟩, c_LARGE := (by obtain ⟨t, h⟩ := int_ok X G (fact 52 (f := .int "LARGE" 1000) rfl); exact ⟨_, h, t, rfl⟩), c_FULL := (by obtain ⟨t, h⟩ := int_ok X G (fact 53 (f := .int "FULL" 1000000000000) rfl); exact ⟨_, h, t, rfl⟩), c_A_ZONE := (by obtain ⟨t, h⟩ := int_ok X G (fact 54 (f := .int "A_ZONE" 10) rfl); exact ⟨_, h, t, rfl⟩), c_DEEP := (by obtain ⟨t, h⟩ := int_ok X G (fact 55 (f := .int "DEEP" 60) rfl); exact ⟨_, h, t, rfl⟩), c_LONGEST := (by obtain ⟨t, h⟩ := int_ok X G (fact 50 (f := .int "LONGEST" 8) rfl); exact ⟨_, h, t, rfl⟩), c_MOST_PAIRS := (by obtain ⟨t, h⟩ := int_ok X G (fact 51 (f := .int "MOST_PAIRS" 100000) rfl); exact ⟨_, h, t, rfl⟩), c_BARRED := ⟨_, (glo_ok X G (fact 49 (f := .glo "BARRED") rfl)), rfl⟩, z_sum := free_ok X G (fact 56 (f := .free "sum") rfl), z_NotImplemented := free_ok X G (fact 57 (f := .free "NotImplemented") rfl), z_isinstance := free_ok X G (fact 58 (f := .free "isinstance") rfl), z_len := free_ok X G (fact 59 (f := .free "len") rfl), z_int := free_ok X G (fact 60 (f := .free "int") rfl), z_bool := free_ok X G (fact 61 (f := .free "bool") rfl), z_str := free_ok X G (fact 62 (f := .free "str") rfl), z_tuple := free_ok X G (fact 63 (f := .free "tuple") rfl), z_list := free_ok X G (fact 64 (f := .free "list") rfl), z_dict := free_ok X G (fact 65 (f := .free "dict") rfl), z_set := free_ok X G (fact 66 (f := .free "set") rfl), z_range := free_ok X G (fact 67 (f := .free "range") rfl), z_enumerate := free_ok X G (fact 68 (f := .free "enumerate") rfl), z_zip := free_ok X G (fact 69 (f := .free "zip") rfl), z_sorted := free_ok X G (fact 70 (f := .free "sorted") rfl), z_all := free_ok X G (fact 71 (f := .free "all") rfl), z_any := free_ok X G (fact 72 (f := .free "any") rfl) }
  have oC : OwnC K (ga K "Cover") := ⟨eqO_ok m4, eqO_ok m2, of_decide_eq_true m3, of_decide_eq_true m5, of_decide_eq_true m6⟩
  have oS : OwnC K (ga K "States") := ⟨eqO_ok m7, eqO_ok m2, of_decide_eq_true m3, of_decide_eq_true m8, of_decide_eq_true m9⟩
  obtain ⟨oc0, od0, kV0, dc0, pm0, an0, cd0, ct0, sl0, l0, c0, k0⟩ := Hy.says_fun c 0 (d := ⟨fun K => ga K "_law_well", "_law_well", "_law_well", C8.fnArgs s_l_well, C8.fnBody s_l_well, C8.fnScope s_l_well⟩) rfl
  have F0 : C8.Fun K "_law_well" "_law_well" s_l_well (ga K "_law_well") _ := ⟨⟨_, _, _, _, _, _, _, _, _, _, rfl, l0, c0⟩⟩
  have D0 : C8.Def K mg "_law_well" s_l_well (ga K "_law_well") _ := ⟨F0, (glo_ok X G (fact 0 (f := .glo "_law_well") rfl)), k0⟩
  have b0 : Binds K _ ["_law_cell"] [] := C8.Fun.binds F0 rfl fun _ _ _ _ _ _ us hl => match us, hl with | [_], _ => rfl
  obtain ⟨oc1, od1, kV1, dc1, pm1, an1, cd1, ct1, sl1, l1, c1, k1⟩ := Hy.says_fun c 1 (d := ⟨fun K => ga K "_law_draw", "_law_draw", "_law_draw", C8.fnArgs s_l_draw, C8.fnBody s_l_draw, C8.fnScope s_l_draw⟩) rfl
  have F1 : C8.Fun K "_law_draw" "_law_draw" s_l_draw (ga K "_law_draw") _ := ⟨⟨_, _, _, _, _, _, _, _, _, _, rfl, l1, c1⟩⟩
  have D1 : C8.Def K mg "_law_draw" s_l_draw (ga K "_law_draw") _ := ⟨F1, (glo_ok X G (fact 1 (f := .glo "_law_draw") rfl)), k1⟩
  have b1 : Binds K _ ["_law_well_here", "_law_base"] [] := C8.Fun.binds F1 rfl fun _ _ _ _ _ _ us hl => match us, hl with | [_, _], _ => rfl
  obtain ⟨oc2, od2, kV2, dc2, pm2, an2, cd2, ct2, sl2, l2, c2, k2⟩ := Hy.says_fun c 2 (d := ⟨fun K => ga K "_law_one", "_law_one", "_law_one", C8.fnArgs s_l_one, C8.fnBody s_l_one, C8.fnScope s_l_one⟩) rfl
  have F2 : C8.Fun K "_law_one" "_law_one" s_l_one (ga K "_law_one") _ := ⟨⟨_, _, _, _, _, _, _, _, _, _, rfl, l2, c2⟩⟩
  have D2 : C8.Def K mg "_law_one" s_l_one (ga K "_law_one") _ := ⟨F2, (glo_ok X G (fact 2 (f := .glo "_law_one") rfl)), k2⟩
  have b2 : Binds K _ ["_law_well_here", "_law_some"] [] := C8.Fun.binds F2 rfl fun _ _ _ _ _ _ us hl => match us, hl with | [_, _], _ => rfl
  obtain ⟨oc3, od3, kV3, dc3, pm3, an3, cd3, ct3, sl3, l3, c3, k3⟩ := Hy.says_fun c 3 (d := ⟨fun K => ga K "is_number", "is_number", "is_number", C8.fnArgs s_is_number, C8.fnBody s_is_number, C8.fnScope s_is_number⟩) rfl
  have F3 : C8.Fun K "is_number" "is_number" s_is_number (ga K "is_number") _ := ⟨⟨_, _, _, _, _, _, _, _, _, _, rfl, l3, c3⟩⟩
  have D3 : C8.Def K mg "is_number" s_is_number (ga K "is_number") _ := ⟨F3, (glo_ok X G (fact 3 (f := .glo "is_number") rfl)), k3⟩
  have b3 : Binds K _ ["thing"] [] := C8.Fun.binds F3 rfl fun _ _ _ _ _ _ us hl => match us, hl with | [_], _ => rfl
  obtain ⟨oc4, od4, kV4, dc4, pm4, an4, cd4, ct4, sl4, l4, c4, k4⟩ := Hy.says_fun c 4 (d := ⟨fun K => ga K "is_literal", "is_literal", "is_literal", C8.fnArgs s_is_literal, C8.fnBody s_is_literal, C8.fnScope s_is_literal⟩) rfl
  have F4 : C8.Fun K "is_literal" "is_literal" s_is_literal (ga K "is_literal") _ := ⟨⟨_, _, _, _, _, _, _, _, _, _, rfl, l4, c4⟩⟩
  have D4 : C8.Def K mg "is_literal" s_is_literal (ga K "is_literal") _ := ⟨F4, (glo_ok X G (fact 4 (f := .glo "is_literal") rfl)), k4⟩
  have b4 : Binds K _ ["thing"] [] := C8.Fun.binds F4 rfl fun _ _ _ _ _ _ us hl => match us, hl with | [_], _ => rfl
  obtain ⟨oc5, od5, kV5, dc5, pm5, an5, cd5, ct5, sl5, l5, c5, k5⟩ := Hy.says_fun c 5 (d := ⟨fun K => ga K "is_word", "is_word", "is_word", C8.fnArgs s_is_word, C8.fnBody s_is_word, C8.fnScope s_is_word⟩) rfl
  have F5 : C8.Fun K "is_word" "is_word" s_is_word (ga K "is_word") _ := ⟨⟨_, _, _, _, _, _, _, _, _, _, rfl, l5, c5⟩⟩
  have D5 : C8.Def K mg "is_word" s_is_word (ga K "is_word") _ := ⟨F5, (glo_ok X G (fact 5 (f := .glo "is_word") rfl)), k5⟩
  have b5 : Binds K _ ["thing"] [] := C8.Fun.binds F5 rfl fun _ _ _ _ _ _ us hl => match us, hl with | [_], _ => rfl
  obtain ⟨oc6, od6, kV6, dc6, pm6, an6, cd6, ct6, sl6, l6, c6, k6⟩ := Hy.says_fun c 6 (d := ⟨fun K => ga K "is_label", "is_label", "is_label", C8.fnArgs s_is_label, C8.fnBody s_is_label, C8.fnScope s_is_label⟩) rfl
  have F6 : C8.Fun K "is_label" "is_label" s_is_label (ga K "is_label") _ := ⟨⟨_, _, _, _, _, _, _, _, _, _, rfl, l6, c6⟩⟩
  have D6 : C8.Def K mg "is_label" s_is_label (ga K "is_label") _ := ⟨F6, (glo_ok X G (fact 6 (f := .glo "is_label") rfl)), k6⟩
  have b6 : Binds K _ ["thing"] [] := C8.Fun.binds F6 rfl fun _ _ _ _ _ _ us hl => match us, hl with | [_], _ => rfl
  obtain ⟨oc7, od7, kV7, dc7, pm7, an7, cd7, ct7, sl7, l7, c7, k7⟩ := Hy.says_fun c 7 (d := ⟨fun K => ga K "are_different", "are_different", "are_different", C8.fnArgs s_are_different, C8.fnBody s_are_different, C8.fnScope s_are_different⟩) rfl
  have F7 : C8.Fun K "are_different" "are_different" s_are_different (ga K "are_different") _ := ⟨⟨_, _, _, _, _, _, _, _, _, _, rfl, l7, c7⟩⟩
  have D7 : C8.Def K mg "are_different" s_are_different (ga K "are_different") _ := ⟨F7, (glo_ok X G (fact 7 (f := .glo "are_different") rfl)), k7⟩
  have b7 : Binds K _ ["things"] [] := C8.Fun.binds F7 rfl fun _ _ _ _ _ _ us hl => match us, hl with | [_], _ => rfl
  obtain ⟨oc8, od8, kV8, dc8, pm8, an8, cd8, ct8, sl8, l8, c8, k8⟩ := Hy.says_fun c 8 (d := ⟨fun K => ga K "are_labels", "are_labels", "are_labels", C8.fnArgs s_are_labels, C8.fnBody s_are_labels, C8.fnScope s_are_labels⟩) rfl
  have F8 : C8.Fun K "are_labels" "are_labels" s_are_labels (ga K "are_labels") _ := ⟨⟨_, _, _, _, _, _, _, _, _, _, rfl, l8, c8⟩⟩
  have D8 : C8.Def K mg "are_labels" s_are_labels (ga K "are_labels") _ := ⟨F8, (glo_ok X G (fact 8 (f := .glo "are_labels") rfl)), k8⟩
  have b8 : Binds K _ ["thing"] [] := C8.Fun.binds F8 rfl fun _ _ _ _ _ _ us hl => match us, hl with | [_], _ => rfl
  obtain ⟨oc9, od9, kV9, dc9, pm9, an9, cd9, ct9, sl9, l9, c9, k9⟩ := Hy.says_fun c 9 (d := ⟨fun K => ga K "is_over", "is_over", "is_over", C8.fnArgs s_is_over, C8.fnBody s_is_over, C8.fnScope s_is_over⟩) rfl
  have F9 : C8.Fun K "is_over" "is_over" s_is_over (ga K "is_over") _ := ⟨⟨_, _, _, _, _, _, _, _, _, _, rfl, l9, c9⟩⟩
  have D9 : C8.Def K mg "is_over" s_is_over (ga K "is_over") _ := ⟨F9, (glo_ok X G (fact 9 (f := .glo "is_over") rfl)), k9⟩
  have b9 : Binds K _ ["literal", "names"] [] := C8.Fun.binds F9 rfl fun _ _ _ _ _ _ us hl => match us, hl with | [_, _], _ => rfl
  obtain ⟨oc10, od10, kV10, dc10, pm10, an10, cd10, ct10, sl10, l10, c10, k10⟩ := Hy.says_fun c 10 (d := ⟨fun K => ga K "are_rows", "are_rows", "are_rows", C8.fnArgs s_are_rows, C8.fnBody s_are_rows, C8.fnScope s_are_rows⟩) rfl
  have F10 : C8.Fun K "are_rows" "are_rows" s_are_rows (ga K "are_rows") _ := ⟨⟨_, _, _, _, _, _, _, _, _, _, rfl, l10, c10⟩⟩
  have D10 : C8.Def K mg "are_rows" s_are_rows (ga K "are_rows") _ := ⟨F10, (glo_ok X G (fact 10 (f := .glo "are_rows") rfl)), k10⟩
  have b10 : Binds K _ ["rows", "names"] [] := C8.Fun.binds F10 rfl fun _ _ _ _ _ _ us hl => match us, hl with | [_, _], _ => rfl
  obtain ⟨oc11, od11, kV11, dc11, pm11, an11, cd11, ct11, sl11, l11, c11, k11⟩ := Hy.says_fun c 11 (d := ⟨fun K => ga K "shortened", "shortened", "shortened", C8.fnArgs s_shortened, C8.fnBody s_shortened, C8.fnScope s_shortened⟩) rfl
  have F11 : C8.Fun K "shortened" "shortened" s_shortened (ga K "shortened") _ := ⟨⟨_, _, _, _, _, _, _, _, _, _, rfl, l11, c11⟩⟩
  have D11 : C8.Def K mg "shortened" s_shortened (ga K "shortened") _ := ⟨F11, (glo_ok X G (fact 11 (f := .glo "shortened") rfl)), k11⟩
  have b11 : Binds K _ ["row", "start", "tail"] [] := C8.Fun.binds F11 rfl fun _ _ _ _ _ _ us hl => match us, hl with | [_, _, _], _ => rfl
  obtain ⟨oc12, od12, kV12, dc12, pm12, an12, cd12, ct12, sl12, l12, c12, k12⟩ := Hy.says_fun c 12 (d := ⟨fun K => ga K "met", "met", "met", C8.fnArgs s_met, C8.fnBody s_met, C8.fnScope s_met⟩) rfl
  have F12 : C8.Fun K "met" "met" s_met (ga K "met") _ := ⟨⟨_, _, _, _, _, _, _, _, _, _, rfl, l12, c12⟩⟩
  have D12 : C8.Def K mg "met" s_met (ga K "met") _ := ⟨F12, (glo_ok X G (fact 12 (f := .glo "met") rfl)), k12⟩
  have b12 : Binds K _ ["zone", "literal"] [] := C8.Fun.binds F12 rfl fun _ _ _ _ _ _ us hl => match us, hl with | [_, _], _ => rfl
  obtain ⟨oc13, od13, kV13, dc13, pm13, an13, cd13, ct13, sl13, l13, c13, k13⟩ := Hy.says_fun c 13 (d := ⟨fun K => ga K "met_all", "met_all", "met_all", C8.fnArgs s_met_all, C8.fnBody s_met_all, C8.fnScope s_met_all⟩) rfl
  have F13 : C8.Fun K "met_all" "met_all" s_met_all (ga K "met_all") _ := ⟨⟨_, _, _, _, _, _, _, _, _, _, rfl, l13, c13⟩⟩
  have D13 : C8.Def K mg "met_all" s_met_all (ga K "met_all") _ := ⟨F13, (glo_ok X G (fact 13 (f := .glo "met_all") rfl)), k13⟩
  have b13 : Binds K _ ["zone", "literals"] [] := C8.Fun.binds F13 rfl fun _ _ _ _ _ _ us hl => match us, hl with | [_, _], _ => rfl
  obtain ⟨oc14, od14, kV14, dc14, pm14, an14, cd14, ct14, sl14, l14, c14, k14⟩ := Hy.says_fun c 14 (d := ⟨fun K => ga K "whole", "whole", "whole", C8.fnArgs s_whole, C8.fnBody s_whole, C8.fnScope s_whole⟩) rfl
  have F14 : C8.Fun K "whole" "whole" s_whole (ga K "whole") _ := ⟨⟨_, _, _, _, _, _, _, _, _, _, rfl, l14, c14⟩⟩
  have D14 : C8.Def K mg "whole" s_whole (ga K "whole") _ := ⟨F14, (glo_ok X G (fact 14 (f := .glo "whole") rfl)), k14⟩
  have b14 : Binds K _ ["many"] [] := C8.Fun.binds F14 rfl fun _ _ _ _ _ _ us hl => match us, hl with | [_], _ => rfl
  obtain ⟨oc15, od15, kV15, dc15, pm15, an15, cd15, ct15, sl15, l15, c15, k15⟩ := Hy.says_fun c 15 (d := ⟨fun K => ga K "is_inside", "is_inside", "is_inside", C8.fnArgs s_is_inside, C8.fnBody s_is_inside, C8.fnScope s_is_inside⟩) rfl
  have F15 : C8.Fun K "is_inside" "is_inside" s_is_inside (ga K "is_inside") _ := ⟨⟨_, _, _, _, _, _, _, _, _, _, rfl, l15, c15⟩⟩
  have D15 : C8.Def K mg "is_inside" s_is_inside (ga K "is_inside") _ := ⟨F15, (glo_ok X G (fact 15 (f := .glo "is_inside") rfl)), k15⟩
  have b15 : Binds K _ ["zone", "other"] [] := C8.Fun.binds F15 rfl fun _ _ _ _ _ _ us hl => match us, hl with | [_, _], _ => rfl
  obtain ⟨oc16, od16, kV16, dc16, pm16, an16, cd16, ct16, sl16, l16, c16, k16⟩ := Hy.says_fun c 16 (d := ⟨fun K => ga K "head_of", "head_of", "head_of", C8.fnArgs s_head_of, C8.fnBody s_head_of, C8.fnScope s_head_of⟩) rfl
  have F16 : C8.Fun K "head_of" "head_of" s_head_of (ga K "head_of") _ := ⟨⟨_, _, _, _, _, _, _, _, _, _, rfl, l16, c16⟩⟩
  have D16 : C8.Def K mg "head_of" s_head_of (ga K "head_of") _ := ⟨F16, (glo_ok X G (fact 16 (f := .glo "head_of") rfl)), k16⟩
  have b16 : Binds K _ ["zone", "indexes", "i"] [] := C8.Fun.binds F16 rfl fun _ _ _ _ _ _ us hl => match us, hl with | [_, _, _], _ => rfl
  obtain ⟨oc17, od17, kV17, dc17, pm17, an17, cd17, ct17, sl17, l17, c17, k17⟩ := Hy.says_fun c 17 (d := ⟨fun K => ga K "is_needed", "is_needed", "is_needed", C8.fnArgs s_is_needed, C8.fnBody s_is_needed, C8.fnScope s_is_needed⟩) rfl
  have F17 : C8.Fun K "is_needed" "is_needed" s_is_needed (ga K "is_needed") _ := ⟨⟨_, _, _, _, _, _, _, _, _, _, rfl, l17, c17⟩⟩
  have D17 : C8.Def K mg "is_needed" s_is_needed (ga K "is_needed") _ := ⟨F17, (glo_ok X G (fact 17 (f := .glo "is_needed") rfl)), k17⟩
  have b17 : Binds K _ ["zone", "firsts", "i", "j"] [] := C8.Fun.binds F17 rfl fun _ _ _ _ _ _ us hl => match us, hl with | [_, _, _, _], _ => rfl
  obtain ⟨oc18, od18, kV18, dc18, pm18, an18, cd18, ct18, sl18, l18, c18, k18⟩ := Hy.says_fun c 18 (d := ⟨fun K => ga K "literals_among", "literals_among", "literals_among", C8.fnArgs s_literals_among, C8.fnBody s_literals_among, C8.fnScope s_literals_among⟩) rfl
  have F18 : C8.Fun K "literals_among" "literals_among" s_literals_among (ga K "literals_among") _ := ⟨⟨_, _, _, _, _, _, _, _, _, _, rfl, l18, c18⟩⟩
  have D18 : C8.Def K mg "literals_among" s_literals_among (ga K "literals_among") _ := ⟨F18, (glo_ok X G (fact 18 (f := .glo "literals_among") rfl)), k18⟩
  have b18 : Binds K _ ["zone", "indexes"] [] := C8.Fun.binds F18 rfl fun _ _ _ _ _ _ us hl => match us, hl with | [_, _], _ => rfl
  obtain ⟨oc19, od19, kV19, dc19, pm19, an19, cd19, ct19, sl19, l19, c19, k19⟩ := Hy.says_fun c 19 (d := ⟨fun K => ga K "literals_of", "literals_of", "literals_of", C8.fnArgs s_literals_of, C8.fnBody s_literals_of, C8.fnScope s_literals_of⟩) rfl
  have F19 : C8.Fun K "literals_of" "literals_of" s_literals_of (ga K "literals_of") _ := ⟨⟨_, _, _, _, _, _, _, _, _, _, rfl, l19, c19⟩⟩
  have D19 : C8.Def K mg "literals_of" s_literals_of (ga K "literals_of") _ := ⟨F19, (glo_ok X G (fact 19 (f := .glo "literals_of") rfl)), k19⟩
  have b19 : Binds K _ ["zone"] [] := C8.Fun.binds F19 rfl fun _ _ _ _ _ _ us hl => match us, hl with | [_], _ => rfl
  obtain ⟨oc20, od20, kV20, dc20, pm20, an20, cd20, ct20, sl20, l20, c20, k20⟩ := Hy.says_fun c 20 (d := ⟨fun K => ga K "opposite", "opposite", "opposite", C8.fnArgs s_opposite, C8.fnBody s_opposite, C8.fnScope s_opposite⟩) rfl
  have F20 : C8.Fun K "opposite" "opposite" s_opposite (ga K "opposite") _ := ⟨⟨_, _, _, _, _, _, _, _, _, _, rfl, l20, c20⟩⟩
  have D20 : C8.Def K mg "opposite" s_opposite (ga K "opposite") _ := ⟨F20, (glo_ok X G (fact 20 (f := .glo "opposite") rfl)), k20⟩
  have b20 : Binds K _ ["literal"] [] := C8.Fun.binds F20 rfl fun _ _ _ _ _ _ us hl => match us, hl with | [_], _ => rfl
  obtain ⟨oc21, od21, kV21, dc21, pm21, an21, cd21, ct21, sl21, l21, c21, k21⟩ := Hy.says_fun c 21 (d := ⟨fun K => ga K "denied", "denied", "denied", C8.fnArgs s_denied, C8.fnBody s_denied, C8.fnScope s_denied⟩) rfl
  have F21 : C8.Fun K "denied" "denied" s_denied (ga K "denied") _ := ⟨⟨_, _, _, _, _, _, _, _, _, _, rfl, l21, c21⟩⟩
  have D21 : C8.Def K mg "denied" s_denied (ga K "denied") _ := ⟨F21, (glo_ok X G (fact 21 (f := .glo "denied") rfl)), k21⟩
  have b21 : Binds K _ ["group"] [] := C8.Fun.binds F21 rfl fun _ _ _ _ _ _ us hl => match us, hl with | [_], _ => rfl
  obtain ⟨oc22, od22, kV22, dc22, pm22, an22, cd22, ct22, sl22, l22, c22, k22⟩ := Hy.says_fun c 22 (d := ⟨fun K => ga K "open_group", "open_group", "open_group", C8.fnArgs s_open_group, C8.fnBody s_open_group, C8.fnScope s_open_group⟩) rfl
  have F22 : C8.Fun K "open_group" "open_group" s_open_group (ga K "open_group") _ := ⟨⟨_, _, _, _, _, _, _, _, _, _, rfl, l22, c22⟩⟩
  have D22 : C8.Def K mg "open_group" s_open_group (ga K "open_group") _ := ⟨F22, (glo_ok X G (fact 22 (f := .glo "open_group") rfl)), k22⟩
  have b22 : Binds K _ ["zone", "group", "is_case"] [] := C8.Fun.binds F22 rfl fun _ _ _ _ _ _ us hl => match us, hl with | [_, _, _], _ => rfl
  obtain ⟨oc23, od23, kV23, dc23, pm23, an23, cd23, ct23, sl23, l23, c23, k23⟩ := Hy.says_fun c 23 (d := ⟨fun K => ga K "opened", "opened", "opened", C8.fnArgs s_opened, C8.fnBody s_opened, C8.fnScope s_opened⟩) rfl
  have F23 : C8.Fun K "opened" "opened" s_opened (ga K "opened") _ := ⟨⟨_, _, _, _, _, _, _, _, _, _, rfl, l23, c23⟩⟩
  have D23 : C8.Def K mg "opened" s_opened (ga K "opened") _ := ⟨F23, (glo_ok X G (fact 23 (f := .glo "opened") rfl)), k23⟩
  have b23 : Binds K _ ["part"] [] := C8.Fun.binds F23 rfl fun _ _ _ _ _ _ us hl => match us, hl with | [_], _ => rfl
  obtain ⟨oc24, od24, kV24, dc24, pm24, an24, cd24, ct24, sl24, l24, c24, k24⟩ := Hy.says_fun c 24 (d := ⟨fun K => ga K "weight", "weight", "weight", C8.fnArgs s_weight, C8.fnBody s_weight, C8.fnScope s_weight⟩) rfl
  have F24 : C8.Fun K "weight" "weight" s_weight (ga K "weight") _ := ⟨⟨_, _, _, _, _, _, _, _, _, _, rfl, l24, c24⟩⟩
  have D24 : C8.Def K mg "weight" s_weight (ga K "weight") _ := ⟨F24, (glo_ok X G (fact 24 (f := .glo "weight") rfl)), k24⟩
  have b24 : Binds K _ ["clause"] [] := C8.Fun.binds F24 rfl fun _ _ _ _ _ _ us hl => match us, hl with | [_], _ => rfl
  obtain ⟨oc25, od25, kV25, dc25, pm25, an25, cd25, ct25, sl25, l25, c25, k25⟩ := Hy.says_fun c 25 (d := ⟨fun K => ga K "lightest", "lightest", "lightest", C8.fnArgs s_lightest, C8.fnBody s_lightest, C8.fnScope s_lightest⟩) rfl
  have F25 : C8.Fun K "lightest" "lightest" s_lightest (ga K "lightest") _ := ⟨⟨_, _, _, _, _, _, _, _, _, _, rfl, l25, c25⟩⟩
  have D25 : C8.Def K mg "lightest" s_lightest (ga K "lightest") _ := ⟨F25, (glo_ok X G (fact 25 (f := .glo "lightest") rfl)), k25⟩
  have b25 : Binds K _ ["clauses"] [] := C8.Fun.binds F25 rfl fun _ _ _ _ _ _ us hl => match us, hl with | [_], _ => rfl
  obtain ⟨oc26, od26, kV26, dc26, pm26, an26, cd26, ct26, sl26, l26, c26, k26⟩ := Hy.says_fun c 26 (d := ⟨fun K => ga K "branches", "branches", "branches", C8.fnArgs s_branches, C8.fnBody s_branches, C8.fnScope s_branches⟩) rfl
  have F26 : C8.Fun K "branches" "branches" s_branches (ga K "branches") _ := ⟨⟨_, _, _, _, _, _, _, _, _, _, rfl, l26, c26⟩⟩
  have D26 : C8.Def K mg "branches" s_branches (ga K "branches") _ := ⟨F26, (glo_ok X G (fact 26 (f := .glo "branches") rfl)), k26⟩
  have b26 : Binds K _ ["part"] [] := C8.Fun.binds F26 rfl fun _ _ _ _ _ _ us hl => match us, hl with | [_], _ => rfl
  obtain ⟨oc27, od27, kV27, dc27, pm27, an27, cd27, ct27, sl27, l27, c27, k27⟩ := Hy.says_fun c 27 (d := ⟨fun K => ga K "free_zone", "free_zone", "free_zone", C8.fnArgs s_free_zone, C8.fnBody s_free_zone, C8.fnScope s_free_zone⟩) rfl
  have F27 : C8.Fun K "free_zone" "free_zone" s_free_zone (ga K "free_zone") _ := ⟨⟨_, _, _, _, _, _, _, _, _, _, rfl, l27, c27⟩⟩
  have D27 : C8.Def K mg "free_zone" s_free_zone (ga K "free_zone") _ := ⟨F27, (glo_ok X G (fact 27 (f := .glo "free_zone") rfl)), k27⟩
  have b27 : Binds K _ ["part"] [] := C8.Fun.binds F27 rfl fun _ _ _ _ _ _ us hl => match us, hl with | [_], _ => rfl
  obtain ⟨oc28, od28, kV28, dc28, pm28, an28, cd28, ct28, sl28, l28, c28, k28⟩ := Hy.says_fun c 28 (d := ⟨fun K => ga K "free_zones", "free_zones", "free_zones", C8.fnArgs s_free_zones, C8.fnBody s_free_zones, C8.fnScope s_free_zones⟩) rfl
  have F28 : C8.Fun K "free_zones" "free_zones" s_free_zones (ga K "free_zones") _ := ⟨⟨_, _, _, _, _, _, _, _, _, _, rfl, l28, c28⟩⟩
  have D28 : C8.Def K mg "free_zones" s_free_zones (ga K "free_zones") _ := ⟨F28, (glo_ok X G (fact 28 (f := .glo "free_zones") rfl)), k28⟩
  have b28 : Binds K _ ["part", "looks"] [] := C8.Fun.binds F28 rfl fun _ _ _ _ _ _ us hl => match us, hl with | [_, _], _ => rfl
  obtain ⟨oc29, od29, kV29, dc29, pm29, an29, cd29, ct29, sl29, l29, c29, k29⟩ := Hy.says_fun c 29 (d := ⟨fun K => ga K "depth_of", "depth_of", "depth_of", C8.fnArgs s_depth_of, C8.fnBody s_depth_of, C8.fnScope s_depth_of⟩) rfl
  have F29 : C8.Fun K "depth_of" "depth_of" s_depth_of (ga K "depth_of") _ := ⟨⟨_, _, _, _, _, _, _, _, _, _, rfl, l29, c29⟩⟩
  have D29 : C8.Def K mg "depth_of" s_depth_of (ga K "depth_of") _ := ⟨F29, (glo_ok X G (fact 29 (f := .glo "depth_of") rfl)), k29⟩
  have b29 : Binds K _ ["groups"] [] := C8.Fun.binds F29 rfl fun _ _ _ _ _ _ us hl => match us, hl with | [_], _ => rfl
  obtain ⟨oc30, od30, kV30, dc30, pm30, an30, cd30, ct30, sl30, l30, c30, k30⟩ := Hy.says_fun c 30 (d := ⟨fun K => ga K "size_of", "size_of", "size_of", C8.fnArgs s_size_of, C8.fnBody s_size_of, C8.fnScope s_size_of⟩) rfl
  have F30 : C8.Fun K "size_of" "size_of" s_size_of (ga K "size_of") _ := ⟨⟨_, _, _, _, _, _, _, _, _, _, rfl, l30, c30⟩⟩
  have D30 : C8.Def K mg "size_of" s_size_of (ga K "size_of") _ := ⟨F30, (glo_ok X G (fact 30 (f := .glo "size_of") rfl)), k30⟩
  have b30 : Binds K _ ["groups"] [] := C8.Fun.binds F30 rfl fun _ _ _ _ _ _ us hl => match us, hl with | [_], _ => rfl
  obtain ⟨oc31, od31, kV31, dc31, pm31, an31, cd31, ct31, sl31, l31, c31, k31⟩ := Hy.says_fun c 31 (d := ⟨fun K => ga K "settled", "settled", "settled", C8.fnArgs s_settled, C8.fnBody s_settled, C8.fnScope s_settled⟩) rfl
  have F31 : C8.Fun K "settled" "settled" s_settled (ga K "settled") _ := ⟨⟨_, _, _, _, _, _, _, _, _, _, rfl, l31, c31⟩⟩
  have D31 : C8.Def K mg "settled" s_settled (ga K "settled") _ := ⟨F31, (glo_ok X G (fact 31 (f := .glo "settled") rfl)), k31⟩
  have b31 : Binds K _ ["part"] [] := C8.Fun.binds F31 rfl fun _ _ _ _ _ _ us hl => match us, hl with | [_], _ => rfl
  obtain ⟨oc32, od32, kV32, dc32, pm32, an32, cd32, ct32, sl32, l32, c32, k32⟩ := Hy.says_fun c 32 (d := ⟨fun K => ga K "is_part_inside", "is_part_inside", "is_part_inside", C8.fnArgs s_is_part_inside, C8.fnBody s_is_part_inside, C8.fnScope s_is_part_inside⟩) rfl
  have F32 : C8.Fun K "is_part_inside" "is_part_inside" s_is_part_inside (ga K "is_part_inside") _ := ⟨⟨_, _, _, _, _, _, _, _, _, _, rfl, l32, c32⟩⟩
  have D32 : C8.Def K mg "is_part_inside" s_is_part_inside (ga K "is_part_inside") _ := ⟨F32, (glo_ok X G (fact 32 (f := .glo "is_part_inside") rfl)), k32⟩
  have b32 : Binds K _ ["part", "other"] [] := C8.Fun.binds F32 rfl fun _ _ _ _ _ _ us hl => match us, hl with | [_, _], _ => rfl
  obtain ⟨oc33, od33, kV33, dc33, pm33, an33, cd33, ct33, sl33, l33, c33, k33⟩ := Hy.says_fun c 33 (d := ⟨fun K => ga K "is_inside_one", "is_inside_one", "is_inside_one", C8.fnArgs s_is_inside_one, C8.fnBody s_is_inside_one, C8.fnScope s_is_inside_one⟩) rfl
  have F33 : C8.Fun K "is_inside_one" "is_inside_one" s_is_inside_one (ga K "is_inside_one") _ := ⟨⟨_, _, _, _, _, _, _, _, _, _, rfl, l33, c33⟩⟩
  have D33 : C8.Def K mg "is_inside_one" s_is_inside_one (ga K "is_inside_one") _ := ⟨F33, (glo_ok X G (fact 33 (f := .glo "is_inside_one") rfl)), k33⟩
  have b33 : Binds K _ ["part", "others"] [] := C8.Fun.binds F33 rfl fun _ _ _ _ _ _ us hl => match us, hl with | [_, _], _ => rfl
  obtain ⟨oc34, od34, kV34, dc34, pm34, an34, cd34, ct34, sl34, l34, c34, k34⟩ := Hy.says_fun c 34 (d := ⟨fun K => ga K "trimmed", "trimmed", "trimmed", C8.fnArgs s_trimmed, C8.fnBody s_trimmed, C8.fnScope s_trimmed⟩) rfl
  have F34 : C8.Fun K "trimmed" "trimmed" s_trimmed (ga K "trimmed") _ := ⟨⟨_, _, _, _, _, _, _, _, _, _, rfl, l34, c34⟩⟩
  have D34 : C8.Def K mg "trimmed" s_trimmed (ga K "trimmed") _ := ⟨F34, (glo_ok X G (fact 34 (f := .glo "trimmed") rfl)), k34⟩
  have b34 : Binds K _ ["parts"] [] := C8.Fun.binds F34 rfl fun _ _ _ _ _ _ us hl => match us, hl with | [_], _ => rfl
  obtain ⟨oc35, od35, kV35, dc35, pm35, an35, cd35, ct35, sl35, l35, c35, k35⟩ := Hy.says_fun c 35 (d := ⟨fun K => ga K "case_of", "case_of", "case_of", C8.fnArgs s_case_of, C8.fnBody s_case_of, C8.fnScope s_case_of⟩) rfl
  have F35 : C8.Fun K "case_of" "case_of" s_case_of (ga K "case_of") _ := ⟨⟨_, _, _, _, _, _, _, _, _, _, rfl, l35, c35⟩⟩
  have D35 : C8.Def K mg "case_of" s_case_of (ga K "case_of") _ := ⟨F35, (glo_ok X G (fact 35 (f := .glo "case_of") rfl)), k35⟩
  have b35 : Binds K _ ["part"] [] := C8.Fun.binds F35 rfl fun _ _ _ _ _ _ us hl => match us, hl with | [_], _ => rfl
  obtain ⟨oc36, od36, kV36, dc36, pm36, an36, cd36, ct36, sl36, l36, c36, k36⟩ := Hy.says_fun c 36 (d := ⟨fun K => ga K "less", "less", "less", C8.fnArgs s_less, C8.fnBody s_less, C8.fnScope s_less⟩) rfl
  have F36 : C8.Fun K "less" "less" s_less (ga K "less") _ := ⟨⟨_, _, _, _, _, _, _, _, _, _, rfl, l36, c36⟩⟩
  have D36 : C8.Def K mg "less" s_less (ga K "less") _ := ⟨F36, (glo_ok X G (fact 36 (f := .glo "less") rfl)), k36⟩
  have b36 : Binds K _ ["parts", "others"] [] := C8.Fun.binds F36 rfl fun _ _ _ _ _ _ us hl => match us, hl with | [_, _], _ => rfl
  obtain ⟨oc37, od37, kV37, dc37, pm37, an37, cd37, ct37, sl37, l37, c37, k37⟩ := Hy.says_fun c 37 (d := ⟨fun K => ga K "both", "both", "both", C8.fnArgs s_both, C8.fnBody s_both, C8.fnScope s_both⟩) rfl
  have F37 : C8.Fun K "both" "both" s_both (ga K "both") _ := ⟨⟨_, _, _, _, _, _, _, _, _, _, rfl, l37, c37⟩⟩
  have D37 : C8.Def K mg "both" s_both (ga K "both") _ := ⟨F37, (glo_ok X G (fact 37 (f := .glo "both") rfl)), k37⟩
  have b37 : Binds K _ ["parts", "others"] [] := C8.Fun.binds F37 rfl fun _ _ _ _ _ _ us hl => match us, hl with | [_, _], _ => rfl
  obtain ⟨oc38, od38, kV38, dc38, pm38, an38, cd38, ct38, sl38, l38, c38, k38⟩ := Hy.says_fun c 38 (d := ⟨fun K => ga K "of_rows", "of_rows", "of_rows", C8.fnArgs s_of_rows, C8.fnBody s_of_rows, C8.fnScope s_of_rows⟩) rfl
  have F38 : C8.Fun K "of_rows" "of_rows" s_of_rows (ga K "of_rows") _ := ⟨⟨_, _, _, _, _, _, _, _, _, _, rfl, l38, c38⟩⟩
  have D38 : C8.Def K mg "of_rows" s_of_rows (ga K "of_rows") _ := ⟨F38, (glo_ok X G (fact 38 (f := .glo "of_rows") rfl)), k38⟩
  have b38 : Binds K _ ["rows", "many"] [] := C8.Fun.binds F38 rfl fun _ _ _ _ _ _ us hl => match us, hl with | [_, _], _ => rfl
  obtain ⟨oc39, od39, kV39, dc39, pm39, an39, cd39, ct39, sl39, l39, c39, k39⟩ := Hy.says_fun c 39 (d := ⟨fun K => ga K "check_alike", "check_alike", "check_alike", C8.fnArgs s_check_alike, C8.fnBody s_check_alike, C8.fnScope s_check_alike⟩) rfl
  have F39 : C8.Fun K "check_alike" "check_alike" s_check_alike (ga K "check_alike") _ := ⟨⟨_, _, _, _, _, _, _, _, _, _, rfl, l39, c39⟩⟩
  have D39 : C8.Def K mg "check_alike" s_check_alike (ga K "check_alike") _ := ⟨F39, (glo_ok X G (fact 39 (f := .glo "check_alike") rfl)), k39⟩
  have b39 : Binds K _ ["one", "other"] [] := C8.Fun.binds F39 rfl fun _ _ _ _ _ _ us hl => match us, hl with | [_, _], _ => rfl
  obtain ⟨oc40, od40, kV40, dc40, pm40, an40, cd40, ct40, sl40, l40, c40, k40⟩ := Hy.says_fun c 40 (d := ⟨fun K => ga K "are_inside", "are_inside", "are_inside", C8.fnArgs s_are_inside, C8.fnBody s_are_inside, C8.fnScope s_are_inside⟩) rfl
  have F40 : C8.Fun K "are_inside" "are_inside" s_are_inside (ga K "are_inside") _ := ⟨⟨_, _, _, _, _, _, _, _, _, _, rfl, l40, c40⟩⟩
  have D40 : C8.Def K mg "are_inside" s_are_inside (ga K "are_inside") _ := ⟨F40, (glo_ok X G (fact 40 (f := .glo "are_inside") rfl)), k40⟩
  have b40 : Binds K _ ["parts", "others"] [] := C8.Fun.binds F40 rfl fun _ _ _ _ _ _ us hl => match us, hl with | [_, _], _ => rfl
  obtain ⟨oc41, od41, kV41, dc41, pm41, an41, cd41, ct41, sl41, l41, c41, k41⟩ := Hy.says_fun c 41 (d := ⟨fun K => ga K "check_term", "check_term", "check_term", C8.fnArgs s_check_term, C8.fnBody s_check_term, C8.fnScope s_check_term⟩) rfl
  have F41 : C8.Fun K "check_term" "check_term" s_check_term (ga K "check_term") _ := ⟨⟨_, _, _, _, _, _, _, _, _, _, rfl, l41, c41⟩⟩
  have D41 : C8.Def K mg "check_term" s_check_term (ga K "check_term") _ := ⟨F41, (glo_ok X G (fact 41 (f := .glo "check_term") rfl)), k41⟩
  have b41 : Binds K _ ["term", "names"] [] := C8.Fun.binds F41 rfl fun _ _ _ _ _ _ us hl => match us, hl with | [_, _], _ => rfl
  obtain ⟨oc42, od42, kV42, dc42, pm42, an42, cd42, ct42, sl42, l42, c42, k42⟩ := Hy.says_fun c 42 (d := ⟨fun K => ga K "most_apart", "most_apart", "most_apart", C8.fnArgs s_most_apart, C8.fnBody s_most_apart, C8.fnScope s_most_apart⟩) rfl
  have F42 : C8.Fun K "most_apart" "most_apart" s_most_apart (ga K "most_apart") _ := ⟨⟨_, _, _, _, _, _, _, _, _, _, rfl, l42, c42⟩⟩
  have D42 : C8.Def K mg "most_apart" s_most_apart (ga K "most_apart") _ := ⟨F42, (glo_ok X G (fact 42 (f := .glo "most_apart") rfl)), k42⟩
  have b42 : Binds K _ ["parts", "i", "j"] [] := C8.Fun.binds F42 rfl fun _ _ _ _ _ _ us hl => match us, hl with | [_, _, _], _ => rfl
  obtain ⟨oc43, od43, kV43, dc43, pm43, an43, cd43, ct43, sl43, l43, c43, k43⟩ := Hy.says_fun c 43 (d := ⟨fun K => ga K "_law_side", "_law_side", "_law_side", C8.fnArgs s_l_side, C8.fnBody s_l_side, C8.fnScope s_l_side⟩) rfl
  have F43 : C8.Fun K "_law_side" "_law_side" s_l_side (ga K "_law_side") _ := ⟨⟨_, _, _, _, _, _, _, _, _, _, rfl, l43, c43⟩⟩
  have D43 : C8.Def K mg "_law_side" s_l_side (ga K "_law_side") _ := ⟨F43, (glo_ok X G (fact 43 (f := .glo "_law_side") rfl)), k43⟩
  have b43 : Binds K _ ["_law_name", "_law_low", "_law_high"] [] := C8.Fun.binds F43 rfl fun _ _ _ _ _ _ us hl => match us, hl with | [_, _, _], _ => rfl
  obtain ⟨oc44, od44, kV44, dc44, pm44, an44, cd44, ct44, sl44, l44, c44, k44⟩ := Hy.says_fun c 44 (d := ⟨fun K => ga K "_law_sliced", "_law_sliced", "_law_sliced", C8.fnArgs s_l_sliced, C8.fnBody s_l_sliced, C8.fnScope s_l_sliced⟩) rfl
  have F44 : C8.Fun K "_law_sliced" "_law_sliced" s_l_sliced (ga K "_law_sliced") _ := ⟨⟨_, _, _, _, _, _, _, _, _, _, rfl, l44, c44⟩⟩
  have D44 : C8.Def K mg "_law_sliced" s_l_sliced (ga K "_law_sliced") _ := ⟨F44, (glo_ok X G (fact 44 (f := .glo "_law_sliced") rfl)), k44⟩
  have b44 : Binds K _ ["_law_names", "_law_box", "_law_at", "_law_ends"] [] := C8.Fun.binds F44 rfl fun _ _ _ _ _ _ us hl => match us, hl with | [_, _, _, _], _ => rfl
  obtain ⟨oc45, od45, kV45, dc45, pm45, an45, cd45, ct45, sl45, l45, c45, k45⟩ := Hy.says_fun c 45 (d := ⟨fun K => ga K "_law_chain", "_law_chain", "_law_chain", C8.fnArgs s_l_chain, C8.fnBody s_l_chain, C8.fnScope s_l_chain⟩) rfl
  have F45 : C8.Fun K "_law_chain" "_law_chain" s_l_chain (ga K "_law_chain") _ := ⟨⟨_, _, _, _, _, _, _, _, _, _, rfl, l45, c45⟩⟩
  have D45 : C8.Def K mg "_law_chain" s_l_chain (ga K "_law_chain") _ := ⟨F45, (glo_ok X G (fact 45 (f := .glo "_law_chain") rfl)), k45⟩
  have b45 : Binds K _ ["_law_well_here"] [] := C8.Fun.binds F45 rfl fun _ _ _ _ _ _ us hl => match us, hl with | [_], _ => rfl
  obtain ⟨oc46, od46, kV46, dc46, pm46, an46, cd46, ct46, sl46, l46, c46, k46⟩ := Hy.says_fun c 46 (d := ⟨fun K => ga K "law", "law", "law", C8.fnArgs s_law, C8.fnBody s_law, C8.fnScope s_law⟩) rfl
  have F46 : C8.Fun K "law" "law" s_law (ga K "law") _ := ⟨⟨_, _, _, _, _, _, _, _, _, _, rfl, l46, c46⟩⟩
  obtain ⟨oc_vi, od_vi, kV_vi, dc_vi, pm_vi, an_vi, cd_vi, ct_vi, sl_vi, l_vi, c_vi, k_vi⟩ := Hy.says_fun c 47 (d := ⟨fun K => ma K (ga K "Cover") "__init__", "__init__", "Cover.__init__", C8.fnArgs s_Cover_init, C8.fnBody s_Cover_init, C8.fnScope s_Cover_init⟩) rfl
  have F_vi : C8.Fun K "__init__" "Cover.__init__" s_Cover_init (ma K (ga K "Cover") "__init__") _ := ⟨⟨_, _, _, _, _, _, _, _, _, _, rfl, l_vi, c_vi⟩⟩
  have b_vi : Binds K _ ["self", "parts"] [] := C8.Fun.binds F_vi rfl fun _ _ _ _ _ _ us hl => match us, hl with | [_, _], _ => rfl
  obtain ⟨oc_si, od_si, kV_si, dc_si, pm_si, an_si, cd_si, ct_si, sl_si, l_si, c_si, k_si⟩ := Hy.says_fun c 48 (d := ⟨fun K => ma K (ga K "States") "__init__", "__init__", "States.__init__", C8.fnArgs s_States_init, C8.fnBody s_States_init, C8.fnScope s_States_init⟩) rfl
  have F_si : C8.Fun K "__init__" "States.__init__" s_States_init (ma K (ga K "States") "__init__") _ := ⟨⟨_, _, _, _, _, _, _, _, _, _, rfl, l_si, c_si⟩⟩
  have b_si : Binds K _ ["self", "names", "rows"] [] := C8.Fun.binds F_si rfl fun _ _ _ _ _ _ us hl => match us, hl with | [_, _, _], _ => rfl
  obtain ⟨oc_cv, od_cv, kV_cv, dc_cv, pm_cv, an_cv, cd_cv, ct_cv, sl_cv, l_cv, c_cv, k_cv⟩ := Hy.says_fun c 49 (d := ⟨fun K => ma K (ga K "States") "_covered", "_covered", "States._covered", C8.fnArgs s_States__covered, C8.fnBody s_States__covered, C8.fnScope s_States__covered⟩) rfl
  have F_cv : C8.Fun K "_covered" "States._covered" s_States__covered (ma K (ga K "States") "_covered") _ := ⟨⟨_, _, _, _, _, _, _, _, _, _, rfl, l_cv, c_cv⟩⟩
  have b_cv : Binds K _ ["self", "rows"] [] := C8.Fun.binds F_cv rfl fun _ _ _ _ _ _ us hl => match us, hl with | [_, _], _ => rfl
  obtain ⟨oc_ix, od_ix, kV_ix, dc_ix, pm_ix, an_ix, cd_ix, ct_ix, sl_ix, l_ix, c_ix, k_ix⟩ := Hy.says_fun c 50 (d := ⟨fun K => ma K (ga K "States") "_index", "_index", "States._index", C8.fnArgs s_States__index, C8.fnBody s_States__index, C8.fnScope s_States__index⟩) rfl
  have F_ix : C8.Fun K "_index" "States._index" s_States__index (ma K (ga K "States") "_index") _ := ⟨⟨_, _, _, _, _, _, _, _, _, _, rfl, l_ix, c_ix⟩⟩
  have b_ix : Binds K _ ["self", "term"] [] := C8.Fun.binds F_ix rfl fun _ _ _ _ _ _ us hl => match us, hl with | [_, _], _ => rfl
  obtain ⟨oc_an, od_an, kV_an, dc_an, pm_an, an_an, cd_an, ct_an, sl_an, l_an, c_an, k_an⟩ := Hy.says_fun c 51 (d := ⟨fun K => ma K (ga K "States") "__and__", "__and__", "States.__and__", C8.fnArgs s_States_and, C8.fnBody s_States_and, C8.fnScope s_States_and⟩) rfl
  have F_an : C8.Fun K "__and__" "States.__and__" s_States_and (ma K (ga K "States") "__and__") _ := ⟨⟨_, _, _, _, _, _, _, _, _, _, rfl, l_an, c_an⟩⟩
  have b_an : Binds K _ ["self", "other"] [] := C8.Fun.binds F_an rfl fun _ _ _ _ _ _ us hl => match us, hl with | [_, _], _ => rfl
  obtain ⟨oc_su, od_su, kV_su, dc_su, pm_su, an_su, cd_su, ct_su, sl_su, l_su, c_su, k_su⟩ := Hy.says_fun c 52 (d := ⟨fun K => ma K (ga K "States") "__sub__", "__sub__", "States.__sub__", C8.fnArgs s_States_sub, C8.fnBody s_States_sub, C8.fnScope s_States_sub⟩) rfl
  have F_su : C8.Fun K "__sub__" "States.__sub__" s_States_sub (ma K (ga K "States") "__sub__") _ := ⟨⟨_, _, _, _, _, _, _, _, _, _, rfl, l_su, c_su⟩⟩
  have b_su : Binds K _ ["self", "other"] [] := C8.Fun.binds F_su rfl fun _ _ _ _ _ _ us hl => match us, hl with | [_, _], _ => rfl
  obtain ⟨oc_le, od_le, kV_le, dc_le, pm_le, an_le, cd_le, ct_le, sl_le, l_le, c_le, k_le⟩ := Hy.says_fun c 53 (d := ⟨fun K => ma K (ga K "States") "__le__", "__le__", "States.__le__", C8.fnArgs s_States_le, C8.fnBody s_States_le, C8.fnScope s_States_le⟩) rfl
  have F_le : C8.Fun K "__le__" "States.__le__" s_States_le (ma K (ga K "States") "__le__") _ := ⟨⟨_, _, _, _, _, _, _, _, _, _, rfl, l_le, c_le⟩⟩
  have b_le : Binds K _ ["self", "other"] [] := C8.Fun.binds F_le rfl fun _ _ _ _ _ _ us hl => match us, hl with | [_, _], _ => rfl
  obtain ⟨oc_eq, od_eq, kV_eq, dc_eq, pm_eq, an_eq, cd_eq, ct_eq, sl_eq, l_eq, c_eq, k_eq⟩ := Hy.says_fun c 54 (d := ⟨fun K => ma K (ga K "States") "__eq__", "__eq__", "States.__eq__", C8.fnArgs s_States_eq, C8.fnBody s_States_eq, C8.fnScope s_States_eq⟩) rfl
  have F_eq : C8.Fun K "__eq__" "States.__eq__" s_States_eq (ma K (ga K "States") "__eq__") _ := ⟨⟨_, _, _, _, _, _, _, _, _, _, rfl, l_eq, c_eq⟩⟩
  have b_eq : Binds K _ ["self", "other"] [] := C8.Fun.binds F_eq rfl fun _ _ _ _ _ _ us hl => match us, hl with | [_, _], _ => rfl
  obtain ⟨oc_ie, od_ie, kV_ie, dc_ie, pm_ie, an_ie, cd_ie, ct_ie, sl_ie, l_ie, c_ie, k_ie⟩ := Hy.says_fun c 55 (d := ⟨fun K => ma K (ga K "States") "is_empty", "is_empty", "States.is_empty", C8.fnArgs s_States_is_empty, C8.fnBody s_States_is_empty, C8.fnScope s_States_is_empty⟩) rfl
  have F_ie : C8.Fun K "is_empty" "States.is_empty" s_States_is_empty (ma K (ga K "States") "is_empty") _ := ⟨⟨_, _, _, _, _, _, _, _, _, _, rfl, l_ie, c_ie⟩⟩
  have b_ie : Binds K _ ["self"] [] := C8.Fun.binds F_ie rfl fun _ _ _ _ _ _ us hl => match us, hl with | [_], _ => rfl
  obtain ⟨oc_bo, od_bo, kV_bo, dc_bo, pm_bo, an_bo, cd_bo, ct_bo, sl_bo, l_bo, c_bo, k_bo⟩ := Hy.says_fun c 56 (d := ⟨fun K => ma K (ga K "States") "bound", "bound", "States.bound", C8.fnArgs s_States_bound, C8.fnBody s_States_bound, C8.fnScope s_States_bound⟩) rfl
  have F_bo : C8.Fun K "bound" "States.bound" s_States_bound (ma K (ga K "States") "bound") _ := ⟨⟨_, _, _, _, _, _, _, _, _, _, rfl, l_bo, c_bo⟩⟩
  have b_bo : Binds K _ ["self", "left", "right"] [] := C8.Fun.binds F_bo rfl fun _ _ _ _ _ _ us hl => match us, hl with | [_, _, _], _ => rfl
  refine ⟨PySem.W.fnOf "law" "law" (C8.fnArgs s_law) (C8.fnBody s_law) (C8.fnScope s_law) .none kV46 dc46 pm46 an46 cd46 ct46, fun s v => .of_eq rfl, fun base _ _ => ?_⟩
  have Q_l_well : C8.Cal l.prog w K mg base 1 "_law_well" spWell [] := ok_l_well D0 b0 T
  have Q_l_draw : C8.Cal l.prog w K mg base 1 "_law_draw" spDraw [] := ok_l_draw D1 b1 T
  have Q_l_one : C8.Cal l.prog w K mg base 2 "_law_one" (spOne K) [] := ok_l_one D2 b2 T Q_l_draw
  have Q_is_number : C8.Cal l.prog w K mg base 1 "is_number" (spNum K) [] := ok_is_number D3 b3 T
  have Q_is_literal : C8.Cal l.prog w K mg base 2 "is_literal" (spLitG K) [] := ok_is_literal D4 b4 T Q_is_number
  have Q_is_word : C8.Cal l.prog w K mg base 1 "is_word" spWord [] := ok_is_word D5 b5 T
  have Q_is_label : C8.Cal l.prog w K mg base 2 "is_label" (fun vs H Q _ => ∃ x : Str, vs = [.str x] ∧ x.length ≤ 1000 ∧ ∀ H', Same H H' → Q (.bl (labelB x)) H') [] := ok_is_label D6 b6 T BB_BARRED Q_is_word
  have Q_are_different : C8.Cal l.prog w K mg base 1 "are_different" (spLabels K) [] := ok_are_different D7 b7 T
  have Q_are_labels : C8.Cal l.prog w K mg base 3 "are_labels" (spLabels K) [] := ok_are_labels D8 b8 T Q_is_label Q_are_different
  have Q_is_over : C8.Cal l.prog w K mg base 3 "is_over" (spOver K) [] := ok_is_over D9 b9 T Q_is_literal
  have Q_are_rows : C8.Cal l.prog w K mg base 4 "are_rows" (spRowsOk K) [] := ok_are_rows D10 b10 T Q_is_over
  have Q_shortened : C8.Cal l.prog w K mg base 1 "shortened" (spShort K) [] := ok_shortened D11 b11 T
  have Q_met : C8.Cal l.prog w K mg base 2 "met" (spMet K) [] := ok_met D12 b12 T Q_shortened
  have Q_met_all : C8.Cal l.prog w K mg base 3 "met_all" (spMetAll K) [] := ok_met_all D13 b13 T Q_met
  have Q_whole : C8.Cal l.prog w K mg base 1 "whole" (spWhole K) [] := ok_whole D14 b14 T
  have Q_is_inside : C8.Cal l.prog w K mg base 1 "is_inside" (spInside K) [] := ok_is_inside D15 b15 T
  have Q_head_of : C8.Cal l.prog w K mg base 1 "head_of" (spHead K) [] := ok_head_of D16 b16 T
  have Q_is_needed : C8.Cal l.prog w K mg base 1 "is_needed" (spNeeded K) [] := ok_is_needed D17 b17 T
  have Q_literals_among : C8.Cal l.prog w K mg base 2 "literals_among" (spAmong K) [] := ok_literals_among D18 b18 T Q_head_of Q_is_needed
  have Q_literals_of : C8.Cal l.prog w K mg base 3 "literals_of" (spLitsOf K) [] := ok_literals_of D19 b19 T Q_literals_among
  have Q_opposite : C8.Cal l.prog w K mg base 1 "opposite" (spOpposite K) [] := ok_opposite D20 b20 T
  have Q_denied : C8.Cal l.prog w K mg base 74 "denied" (spDenied K 72) [] := ok_denied D21 b21 T Q_opposite 72
  have Q_met_allT : C8.Cal l.prog w K mg base 3 "met_all" (spMetAllT K) [] := ok_met_allT D13 b13 T Q_met
  have Q_open_group : C8.Cal l.prog w K mg base 73 "open_group" (spOG K 72) [] := ok_open_group D22 b22 T 72
  have Q_opened : C8.Cal l.prog w K mg base 74 "opened" (spOpened K) [] := ok_opened D23 b23 T Q_open_group Q_met_allT
  have Q_weight : C8.Cal l.prog w K mg base 1 "weight" (spWeight K) [] := ok_weight D24 b24 T
  have Q_lightest : C8.Cal l.prog w K mg base 2 "lightest" (spLightest K) [] := ok_lightest D25 b25 T Q_weight
  have Q_branches : C8.Cal l.prog w K mg base 75 "branches" (spBranches K) [] := ok_branches D26 b26 T Q_lightest (metV Q_met) Q_opposite (metAllV Q_met_allT) Q_denied
  have Q_free_zone : C8.Cal l.prog w K mg base 76 "free_zone" (spFreeZone K) [] := ok_free_zone D27 b27 T Q_opened Q_branches
  have Q_free_zones : C8.Cal l.prog w K mg base 76 "free_zones" (spFreeZones K) [] := ok_free_zones D28 b28 T Q_opened Q_branches
  have Q_depth_of : C8.Cal l.prog w K mg base 62 "depth_of" (spDepth K 61) [] := ok_depth_of D29 b29 T 61
  have Q_size_of : C8.Cal l.prog w K mg base 62 "size_of" (spSize K 61) [] := ok_size_of D30 b30 T 61
  have Q_settled : C8.Cal l.prog w K mg base 77 "settled" (spSettled K) [] := ok_settled D31 b31 T Q_opened Q_free_zone Q_free_zones Q_depth_of Q_size_of
  have Q_is_part_inside : C8.Cal l.prog w K mg base 74 "is_part_inside" (spPartIn K) [] := ok_is_part_inside D32 b32 T Q_is_inside Q_open_group
  have Q_is_inside_one : C8.Cal l.prog w K mg base 75 "is_inside_one" (spInOne K) [] := ok_is_inside_one D33 b33 T Q_is_part_inside
  have Q_trimmed : C8.Cal l.prog w K mg base 76 "trimmed" (spTrim K) [] := ok_trimmed D34 b34 T Q_is_part_inside Q_is_inside_one
  have Q_case_of : C8.Cal l.prog w K mg base 4 "case_of" (spCaseOf K) [] := ok_case_of D35 b35 T Q_literals_of
  have Q_less : C8.Cal l.prog w K mg base 78 "less" (spLess K) [] := ok_less D36 b36 T Q_denied Q_case_of Q_settled
  have Q_both : C8.Cal l.prog w K mg base 79 "both" (spBoth K) [] := ok_both D37 b37 T Q_case_of Q_settled Q_trimmed
  have Q_of_rows : C8.Cal l.prog w K mg base 77 "of_rows" (spOfRows K) [] := ok_of_rows D38 b38 T Q_whole Q_met_all Q_trimmed
  have Q_Cover : C8.Mak l.prog w K mg base 1 "Cover" (ga K "Cover") (spCover (ga K "Cover")) [] := ok_Cover_init (mkr_ok (fact 78 (f := .mkr "Cover") rfl)) F_vi b_vi T
  have Q__index : C8.Met l.prog w K mg base 1 (ga K "States") "_index" (spIndex K (ga K "States")) [] := ok_States__index (meth_ok (fact 81 (f := .meth "States" "_index") rfl)) F_ix b_ix T
  have Q__covered : C8.Met l.prog w K mg base 78 (ga K "States") "_covered" (spCovered K (ga K "Cover") (ga K "States")) [] := ok_States__covered (meth_ok (fact 80 (f := .meth "States" "_covered") rfl)) F_cv b_cv T Q__index Q_of_rows Q_Cover
  have Q_States : C8.Mak l.prog w K mg base 79 "States" (ga K "States") (spStates K (ga K "Cover") (ga K "States")) [] := ok_States (mkr_ok (fact 79 (f := .mkr "States") rfl)) F_si b_si T (of_decide_eq_true m0) Q_are_labels Q_are_rows Q__covered
  have Q_StatesC : C8.Mak l.prog w K mg base 79 "States" (ga K "States") (spStatesC K (ga K "Cover") (ga K "States")) [] := ok_StatesC (mkr_ok (fact 79 (f := .mkr "States") rfl)) F_si b_si T oC Q_are_labels
  have Q_is_empty : C8.Met l.prog w K mg base 1 (ga K "States") "is_empty" (spEmpty K (ga K "Cover") (ga K "States")) [] := ok_States_is_empty (meth_ok (fact 86 (f := .meth "States" "is_empty") rfl)) F_ie b_ie T 
  have Q_check_alike : C8.Cal l.prog w K mg base 1 "check_alike" (spAlike K (ga K "Cover") (ga K "States")) [] := ok_check_alike D39 b39 T
  have Q_and : C8.Met l.prog w K mg base 81 (ga K "States") "__and__" (spAnd K (ga K "Cover") (ga K "States")) [] := ok_States_and (meth_ok (fact 82 (f := .meth "States" "__and__") rfl)) F_an b_an T oS Q_check_alike Q_both Q_Cover Q_StatesC
  have Q_sub : C8.Met l.prog w K mg base 81 (ga K "States") "__sub__" (spSub K (ga K "Cover") (ga K "States")) [] := ok_States_sub (meth_ok (fact 83 (f := .meth "States" "__sub__") rfl)) F_su b_su T oS Q_check_alike Q_less Q_Cover Q_StatesC
  have Q_is_inside_oneT : C8.Cal l.prog w K mg base 75 "is_inside_one" (spInOneT K) [] := ok_is_inside_oneT D33 b33 T Q_is_part_inside
  have Q_are_inside : C8.Cal l.prog w K mg base 77 "are_inside" (spSub2 K) [] := ok_are_inside D40 b40 T Q_is_inside_oneT Q_denied Q_case_of Q_free_zone
  have Q_le : C8.Met l.prog w K mg base 79 (ga K "States") "__le__" (spLe K (ga K "Cover") (ga K "States")) [] := ok_States_le (meth_ok (fact 84 (f := .meth "States" "__le__") rfl)) F_le b_le T oS Q_check_alike Q_are_inside
  have Q_eq : C8.Met l.prog w K mg base 81 (ga K "States") "__eq__" (spEq K (ga K "Cover") (ga K "States")) [] := ok_States_eq (meth_ok (fact 85 (f := .meth "States" "__eq__") rfl)) F_eq b_eq T oS Q_le
  have Q_check_term : C8.Cal l.prog w K mg base 1 "check_term" (spCheckTerm K) [] := ok_check_term D41 b41 T
  have Q_most_apart : C8.Cal l.prog w K mg base 75 "most_apart" (spMost K) [] := ok_most_apart D42 b42 T Q_opened
  have Q_bound : C8.Met l.prog w K mg base 76 (ga K "States") "bound" (spBound K (ga K "Cover") (ga K "States")) [] := ok_States_bound (meth_ok (fact 87 (f := .meth "States" "bound") rfl)) F_bo b_bo T Q_check_term Q_is_empty Q_most_apart Q__index
  have Q_l_side : C8.Cal l.prog w K mg base 1 "_law_side" (spSide K) [] := ok_l_side D43 b43 T
  have Q_l_sliced : C8.Cal l.prog w K mg base 2 "_law_sliced" (spSliced K) [] := ok_l_sliced D44 b44 T Q_l_side
  have Q_l_chain : C8.Cal l.prog w K mg base 81 "_law_chain" spChain [] := ok_l_chain D45 b45 T Q_l_draw Q_States Q_bound
  exact ok_law F46 T m1 (of_decide_eq_true m8) (eqO_ok m10) Q_l_well Q_l_draw Q_l_one Q_l_side Q_l_sliced Q_l_chain Q_States Q_eq Q_le Q_and Q_sub Q_is_empty
end K18

set_option maxHeartbeats 0
open PySem PySem.W PySem.Calls PyProof.Rows
theorem PySem.Challenge.cw_behindexits_k18_wide_sets_holds : PySem.Challenge.rw_behindexits_k18_wide_sets.Holds := by
  w_on; o_law
  refine HandSHeadRun.head_any (r := OpenLaw.row PySem.Challenge.rw_behindexits_k18_wide_sets) (q := view (OpenLaw.row PySem.Challenge.rw_behindexits_k18_wide_sets).prog [124]) (H := K18.hkX) (ob := K18.obX) (M := 8000) (loose := K18.nms) (d := HandSHeadRun.topDef (OpenLaw.row PySem.Challenge.rw_behindexits_k18_wide_sets).prog 124) (kwd := []) K18.obX_eq
    (by kernel_rfl) (fun s => by kernel_rfl) K18.run (by kernel_rfl) (by kernel_rfl) (by kernel_rfl) (by rfl) (by first | assumption | decide +kernel) (by decide +kernel) ⟨rfl, rfl, rfl, rfl, rfl, by decide +kernel⟩ ?hw ?hc
  case hw => w_witness2
  case hc =>
    refine L2.walk_ofE (l := PySem.Challenge.rw_behindexits_k18_wide_sets) (n := 63) (k := 84) (x := "_law_script") (CX := C8.CX0) rfl (by decide) (by kernel_rfl) ⟨rfl, by decide, by decide⟩ ?F (fun _ _ _ _ z => z)
    intro w mg fa h Y G hmg0
    obtain ⟨K, KX, c⟩ := Y
    have hmg : mg ("law" : PySem.Str) = some (.ref fa) := by
      have e : (HandSHeadRun.topDef (OpenLaw.row PySem.Challenge.rw_behindexits_k18_wide_sets).prog 124).name = ("law" : PySem.Str) := by kernel_rfl
      rw [← e]
      exact hmg0
    obtain ⟨fd, hb, hF⟩ := K18.facts (l := PySem.Challenge.rw_behindexits_k18_wide_sets) (w := w) KX G hmg c
    exact ⟨K, fd, K18.spLaw K, KX, hb, fun H a ns hl _ hS => ⟨a, ns, rfl, hS, hl, fun _ => rfl⟩, hF⟩

