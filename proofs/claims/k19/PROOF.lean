import PyProof.Rows.All
import Wide.All
import OpenK.AllK
import Wide.FinOn
import HandS.Codes
import HandS.Conv
import HandS.DeepEq
import HandS.Dict
import HandS.DictComp
import HandS.Evl
import HandS.ExcField
import HandS.ExcInit
import HandS.ExcIs
import HandS.ExcValue
import HandS.ForMost
import HandS.HeadHook2
import HandS.IsInst
import HandS.More
import HandS.OwnEq
import HandS.SetFor
import HandS.StrMore
import HandS.Strs
import HandS.Text
import HandS.TupAny
import HandS.Walk
import HandS.Wide
import KE.GoesMore
import KE.KDictList
import PyProof.Draws
import PyProof.EnumMake
import PySem.Challenge.RW_behindexits_k19_errors_made
set_option Elab.async false
set_option linter.all false
set_option maxRecDepth 100000
set_option maxHeartbeats 4000000
namespace Bx
open PySem PySem.Spec PyProof.Rows L2
example (K : PySem.W.Frag) : PySem.W.kitOne K (.type "bool") (.type "int") = some true := by rfl
example (K : PySem.W.Frag) : PySem.W.kitOne K (.type "NoneType") (.type "int") = some false := by rfl
example (K : PySem.W.Frag) : PySem.W.kitOne K (.type "list") (.type "tuple") = some false := by rfl
example (K : PySem.W.Frag) : PySem.W.kitAny K (.type "dict") [.type "list", .type "tuple"] = some false := by rfl
section
variable {X : Cx}
def rCatS (K : PySem.W.Frag) : R2 := fun x y H Q => ∃ l b xs zs, x = .ref l ∧ y = .ref b ∧ SqL K H l xs ∧ SqL K H b zs ∧ xs.length + zs.length ≤ sizeLine ∧ ∀ p, H p = none → Q (.ref p) (upd H p (.lst (xs ++ zs)))
theorem op_catS : OpR X (binaryOp .Add) (rCatS X.K) := by
  intro pins s σ H x y v u Q I rx ry h
  obtain ⟨l, b, xs, zs, rfl, rfl, hH, hB, hz, q⟩ := h
  cases rx
  cases ry
  obtain ⟨its, r, ⟨⟨cls, dd, data, sl⟩, n, ho, hc, hdd, hd⟩, _⟩ := I.list hH
  obtain ⟨its2, r2, ⟨⟨cls2, dd2, data2, sl2⟩, n2, ho2, hc2, hdd2, hd2⟩, _⟩ := I.list hB
  simp only at hc hd hdd hc2 hd2 hdd2
  subst hc hd hdd hc2 hd2 hdd2
  have e1 := r.length
  have e2 := r2.length
  have e : its.toArray ++ its2.toArray = (its ++ its2).toArray := by simp
  refine concat_meets ⟨_, ho, rfl⟩ ⟨_, ho2, rfl⟩ noFill_list_add seq_list_add PySem.F.slot_list_add PySem.F.entry_list_add (PySem.F.args_list_add_2 _ _) (list_addW l b its.toArray its2.toArray n n2 none none sl sl2 (by simp; omega)) ⟨ho, ho2, ?_⟩
  rw [e]
  exact ⟨.ref _, _, I.lnew (t' := s.toks) (r.append r2) (by rw [List.length_append]; omega), rfl, q _ I.fresh⟩

/-! len(set(t)), t a tuple of ints -/
def tLenSetT (K : PySem.W.Frag) (ta : TE) : TE := fun σ H Q => ta σ H fun x H1 => ∃ (l : Addr) (ns : List Int), x = .ref l ∧ SqT K H1 l (ns.map V.int) ∧ ns.length ≤ 1000 ∧
  ∀ out : List Int, out.Nodup → (∀ k, k ∈ out ↔ k ∈ ns) → Q (.int (out.length : Nat)) H1
theorem pe_lenSetT {a : Expr} {ta : TE} {p p2 q pos : Pos} (hm : X.mg "len" = none) (hm2 : X.mg "set" = none) (ha : PE X a ta) (hg : Gl X "len" := by rfl) (hg2 : Gl X "set" := by rfl) (hc : X.calm = true := by rfl)
    (na : starEach [a] X.env = (false, eval a X.env) :: starEach [] X.env := by rfl) : PE X (.Call (.Name "len" p) [.Call (.Name "set" p2) [a] [] q] [] pos) (tLenSetT X.K ta) := by
  refine ⟨fun pins s σ H Q I h => ?_⟩
  refine Call_ (ld_blt I hg hm boot_len ?_)
  refine PyProof.Rows.callWith_builtin1 (PyProof.Rows.args_cons ?_ rfl) rfl rfl
  refine Call_ (ld_blt I hg2 hm2 boot_set ?_)
  refine PyProof.Rows.callWith_type1 (PyProof.Rows.args_cons (thn (ha.run pins s σ H _ I h) fun v s1 ⟨x, H1, I1, r1, q1⟩ => PyProof.Rows.args_nil ?_) na) na rfl
  obtain ⟨l, ns, rfl, hq, hl, q1⟩ := q1
  cases r1
  obtain ⟨its, rv, pt, hz⟩ := I1.tuple hq
  have hi : IntsAre its.toArray.toList ns := ints_of_vals rv
  have hd := I1.ok.hd hc
  refine call_set_tupI ns hd (show s1.heap.IsTuple l its.toArray from pt) hi (by unfold scanBound; omega) fun h' tk c R1 hcn k => ?_
  refine PyProof.Rows.args_nil ?_
  obtain ⟨o, es, ep, t, ho, hex, hdt, g, nd, hm2, hb, hf, hn, hr, hl2⟩ := R1
  have I2 : Inv X pins σ H1 { s1 with heap := h', toks := tk } := I1.kept fun b o e => k b o e
  have hlen : es.size = (es.toList.map keyOf).length := by rw [List.length_map, Array.length_toList]
  refine call_len_set ho hex hdt hf (by rw [hn]; omega) ⟨.int ((es.toList.map keyOf).length : Nat), H1, I2.tok _, ⟨_, by rw [← hlen]⟩, q1 _ nd fun j => ?_⟩
  rw [← hm2 j, decide_eq_true_eq]
end
section
variable {prog : Program} {w : World} {A : Around} {E : Value → Shared → Prop} {s : Shared}
theorem fm_congr {α β : Type} {f g : α → Option β} : ∀ {l : List α}, (∀ m ∈ l, f m = g m) → l.filterMap f = l.filterMap g
  | [], _ => rfl
  | a :: l, h => by
    rw [List.filterMap_cons, List.filterMap_cons, h a List.mem_cons_self, fm_congr fun m hm => h m (List.mem_cons_of_mem _ hm)]
theorem rev_applied {A : Around} {E : Value → Shared → Prop} {s : Shared} {sl : Addr} {vs : Value} {n : Nat} {Q : Int × Int × Nat → Shared → Prop} (hs : s.heap.IsSliceOf sl .none .none vs) (ps : IsPart vs (some (-1))) (h : Q (((n : Nat) : Int) - 1, -1, n) s) :
    wpAny (model prog w) A (Builtin.Slice.sliceApplied (.ref sl) (pure ((n : Nat) : Int))) Q E s := by
  obtain ⟨os, hos, hcs, hds⟩ := id hs
  unfold Builtin.Slice.sliceApplied Builtin.Slice.sliceFields
  refine wpAny_bind (wpAny_bind (wpAny_field hos hds (x := .none) rfl (wpAny_bind (wpAny_field hos hds (x := .none) rfl (wpAny_bind (wpAny_field hos hds (x := vs) rfl (wpAny_pure ?_)))))))
  refine wpAny_bind (HT.slicePart_ ps ?_)
  show wpAny _ _ (if ((-1 : Int) == 0) = true then _ else _) _ _ s
  rw [if_neg (by decide)]
  refine wpAny_bind (slicePart_none (wpAny_bind (slicePart_none (wpAny_bind (wpAny_pure ?_)))))
  have ea : Builtin.Slice.sliceAdjust none none (-1) ((n : Nat) : Int) = (((n : Nat) : Int) - 1, -1) := by
    unfold Builtin.Slice.sliceAdjust
    simp
  have ep : Builtin.Slice.slicePlaces (((n : Nat) : Int) - 1) (-1) (-1) = n := by
    unfold Builtin.Slice.slicePlaces
    have h1 : ¬ ((-1 : Int) > 0) := by decide
    have h2 : (- -1 : Int) = 1 := by decide
    simp only [h1, if_false, h2, Int.ediv_one]
    split <;> omega
  show wpAny _ _ (match Builtin.Slice.sliceAdjust none none (-1) ((n : Nat) : Int) with | (lo, hi) => pure (lo, (-1 : Int), Builtin.Slice.slicePlaces lo hi (-1))) _ _ s
  rw [ea]
  show wpAny _ _ (pure (((n : Nat) : Int) - 1, (-1 : Int), Builtin.Slice.slicePlaces (((n : Nat) : Int) - 1) (-1) (-1))) _ _ s
  rw [ep]
  exact wpAny_pure h
theorem rev_pick (items : Array Value) : ((List.range items.size).filterMap fun (m : Nat) => items[(((items.size : Nat) : Int) - 1 + (m : Int) * (-1)).toNat]?).toArray = items.toList.reverse.toArray := by
  have e : ((List.range items.size).filterMap fun (m : Nat) => items[(((items.size : Nat) : Int) - 1 + (m : Int) * (-1)).toNat]?) = ((List.range items.size).map fun k => items.size - 1 - k).filterMap (items[·]?) := by
    rw [List.filterMap_map]
    refine fm_congr fun m hm => ?_
    have := List.mem_range.mp hm
    show items[(((items.size : Nat) : Int) - 1 + (m : Int) * (-1)).toNat]? = items[items.size - 1 - m]?
    rw [show (((items.size : Nat) : Int) - 1 + (m : Int) * (-1)).toNat = items.size - 1 - m by omega]
  rw [e, PySem.W.krv_range, List.filterMap_reverse, PySem.W.krv_all]
theorem getItem_tuple_rev {t sl : Addr} {items : Array Value} {vs : Value} {Q : Value → Shared → Prop} (ht : IsTup s.heap t items) (hs : s.heap.IsSliceOf sl .none .none vs) (ps : IsPart vs (some (-1)))
    (h : Q (.ref s.heap.objs.size) { s with heap := s.heap.push { cls := .type "tuple", data := .seq items.toList.reverse.toArray } })
    (hsz : items.size ≤ sizeLine) : wpAny (model prog w) A (getItem (.ref t) (.ref sl)) Q E s := by
  have htake : sizeOk (.seq items.toList.reverse.toArray) := by
    show items.toList.reverse.toArray.size ≤ sizeLine
    rw [List.size_toArray, List.length_reverse, Array.length_toList]
    exact hsz
  obtain ⟨os, hos, hcs, hds⟩ := id hs
  have hTs : s.TypeIs (.ref sl) "slice" := ⟨os, hos, hcs⟩
  unfold getItem
  try with_reducible refine wpAny_holding ?_
  first | refine wpAny_bind (wpAny_pure ?_) | skip
  refine wpAny_bind (wpAny_sequenceKey ht.typeIs (by decide) ?_)
  refine wpAny_bind (wpAny_callSpecial?_slot (name := Str.ofString "__getitem__") ht.typeIs PyProof.Rows.slot_tuple_getitem
    (wpAny_call_entry PyProof.Rows.slot_tuple_getitem ht.typeIs entry_tuple_getitem ?_ (args_tuple_getitem _ _)))
  show wpAny _ _ (Builtin.Tuple.tupleItemsOf (.ref t) >>= _) _ _ s
  refine wpAny_bind (tupleItemsOf_ ht ?_)
  refine wpAny_bind (wpAny_typeOf hTs ?_)
  rw [if_pos (by decide)]
  refine wpAny_bind (rev_applied hs ps ?_)
  have hno : ¬ (((((items.size : Nat) : Int) - 1) == 0 && (-1 : Int) == 1 && items.size == items.size) = true) := by
    intro q
    rw [Bool.and_eq_true, Bool.and_eq_true] at q
    exact absurd q.1.2 (by decide)
  show wpAny _ _ (if ((((items.size : Nat) : Int) - 1) == 0 && (-1 : Int) == 1 && items.size == items.size) = true then _ else _) _ _ s
  rw [if_neg hno, rev_pick]
  first
    | exact wpAny_bind (m := Builtin.Tuple.tupleExact _) (wpAny_newObj_type (wpAny_pure ⟨_, rfl, wpAny_pure h⟩) htake)
    | exact wpAny_bind (m := Builtin.Tuple.tupleExact _) (wpAny_newObj_type (wpAny_bind (wpAny_pure (wpAny_pure ⟨_, rfl, wpAny_pure h⟩))) htake)
    | exact wpAny_bind (wpAny_bind (m := Builtin.Tuple.tupleExact _) (wpAny_newObj_type (wpAny_pure (wpAny_pure ⟨_, rfl, wpAny_pure h⟩)) htake))
    | exact wpAny_bind (wpAny_bind (m := Builtin.Tuple.tupleExact _) (wpAny_newObj_type (wpAny_pure ⟨_, rfl, wpAny_pure h⟩) htake))
end
section
variable {X : Cx}
def tRevT (K : PySem.W.Frag) (te : TE) : TE := fun σ H Q => te σ H fun x H1 => ∃ a xs, x = .ref a ∧ SqT K H1 a xs ∧ ∀ p, H1 p = none → Q (.ref p) (upd H1 p (.tup xs.reverse))
theorem pe_revT {e : Expr} {te : TE} {k : Nat} {p1 p2 p3 pos : Pos} (he : PE X e te) : PE X (.Subscript e (.Slice none none (some (.UnaryOp .USub (.Constant (.int 1) k p1) p2)) p3) pos) (tRevT X.K te) := by
  refine ⟨fun pins s σ H Q I h => ?_⟩
  refine Subscript_ (thn (he.run pins s σ H _ I h) fun v s1 ⟨x, H1, I1, r1, q1⟩ => ?_)
  obtain ⟨a, xs, ex, hx, q⟩ := q1
  subst ex
  cases r1
  have hst : PO X (some (.UnaryOp .USub (.Constant (.int 1) k p1) p2)) (tPart (tUn (rU fun i => .int (-i)) (tC (.int 1)))) := po_some (pe_un un_neg pe_int)
  refine wpAny_Slice (thn (po_none.run pins s1 σ H1 (fun o H2 => o = none ∧ H2 = H1) I1 ⟨rfl, rfl⟩) fun vl s2 ⟨l, H2, I2, pl, el, e2⟩ => ?_)
  subst el e2
  refine thn (po_none.run pins s2 σ H2 (fun o H3 => o = none ∧ H3 = H2) I2 ⟨rfl, rfl⟩) fun vu s3 ⟨u, H3, I3, pu, eu, e3⟩ => ?_
  subst eu e3
  refine thn (hst.run pins s3 σ H3 (fun o H4 => o = some (-1) ∧ H4 = H3) I3 ⟨1, rfl, -1, rfl, rfl, rfl⟩) fun vs s4 ⟨o, H4, I4, ps, eo, e4⟩ => ?_
  subst eo e4
  cases pl
  cases pu
  have I5 : Inv X pins σ H4 { s4 with heap := s4.heap.push { cls := .type "slice", data := .fields #[Value.none, Value.none, vs] } } := I4.kept (t' := s4.toks) fun b ob q => Heap.get?_push_of_some _ q
  obtain ⟨its, r, ht, hz⟩ := I5.tuple hx
  have hlen := r.length
  show wpAny (model X.prog X.w) X.A (subscriptTail e (.Slice none none (some (.UnaryOp .USub (.Constant (.int 1) k p1) p2)) p3) (.ref a) (.ref s4.heap.objs.size)) (EP X pins σ Q) X.xe { s4 with heap := s4.heap.push { cls := .type "slice", data := .fields #[Value.none, Value.none, vs] } }
  refine tail_any (ops := [.ref a, .ref s4.heap.objs.size]) ht.typeIs (PyProof.Rows.slot_tuple_getitem.lookup) ?_ (by with_unfolding_all rfl)
  refine getItem_tuple_rev ht (Heap.IsSliceOf.new _ Value.none Value.none vs) ps ?_ (by rw [List.size_toArray]; omega)
  refine ⟨.ref _, _, I5.laid (t' := s4.toks) (o := .tup xs.reverse) (fun b ob q => Heap.get?_push_of_some _ q) (Nat.le_refl _) ?_, rfl, q _ (I5.hok.fresh (Nat.le_refl _))⟩
  exact ⟨by rw [List.length_reverse]; exact hz, _, r.reverse, ⟨_, Heap.get?_push_size _ rfl, rfl, 0, rfl⟩⟩
end
end Bx

namespace Bx
open PySem PySem.Spec PyProof.Rows L2
/-! ### what stays -/
theorem Same.new {H : Hp} {p : Addr} {o : HO} (h : H p = none) : Same H (upd H p o) := fun a u e => by
  rw [upd_ne (ne_of_none e h)]
  exact e
theorem Same.mut {H H' : Hp} {p : Addr} {o : HO} (e : Same H H') (h : H p = none) : Same H (upd H' p o) := fun a u ha => by
  rw [upd_ne (ne_of_none ha h)]
  exact e a u ha
theorem Same.seqT {K : PySem.W.Frag} {H H' : Hp} {a : Addr} {xs : List V} (e : Same H H') (h : SqT K H a xs) : SqT K H' a xs := by
  rcases h with (h | ⟨o, h⟩) | h
  · exact .inl (.inl (e _ _ h))
  · exact .inl (.inr ⟨o, e _ _ h⟩)
  · exact .inr h
theorem Same.ty {K : PySem.W.Frag} {H H' : Hp} {v : V} {t : Value} (e : Same H H') (h : TyX K H v t) : TyX K H' v t := by
  cases h with
  | base b =>
    cases b with
    | non => exact .base .non
    | bl x => exact .base (.bl x)
    | int i => exact .base (.int i)
    | str x => exact .base (.str x)
    | flt x => exact .base (.flt x)
    | lst q => exact .base (.lst (e _ _ q))
    | frz q => exact .base (.frz (e _ _ q))
    | tup q => exact .base (.tup (e _ _ q))
    | dK q => exact .base (.dK (e _ _ q))
    | dT q => exact .base (.dT (e _ _ q))
    | ins q cl ha hn htk hm => exact .base (.ins (e _ _ q) cl ha hn htk hm)
  | byt b => exact .byt b
  | set q => exact .set (e _ _ q)
  | kList a b => exact .kList a b
  | kTuple a b => exact .kTuple a b
  | kDict a b => exact .kDict a b
  | fTuple q => exact .fTuple (e _ _ q)
  | fDict q => exact .fDict (e _ _ q)
theorem tyT {K : PySem.W.Frag} {H : Hp} {a : Addr} {xs : List V} (h : SqT K H a xs) : TyX K H (.ref a) (.type "tuple") := by
  rcases h with (h | ⟨o, h⟩) | ⟨o, its, n, hk, hc, _⟩
  · exact .base (.tup h)
  · exact .fTuple h
  · exact .kTuple hk hc
theorem tyL {K : PySem.W.Frag} {H : Hp} {a : Addr} {xs : List V} (h : SqL K H a xs) : TyX K H (.ref a) (.type "list") := by
  rcases h with (h | ⟨o, h⟩) | ⟨o, its, n, hk, hc, _⟩
  · exact .base (.lst h)
  · exact .base (.frz h)
  · exact .kList hk hc
/-- .. all but the one at l -/
def But (l : Addr) (H H' : Hp) : Prop := ∀ b o, H b = some o → b ≠ l → H' b = some o
theorem But.refl (l : Addr) (H : Hp) : But l H H := fun _ _ h _ => h
theorem But.trans {l : Addr} {H H1 H2 : Hp} (a : But l H H1) (b : But l H1 H2) : But l H H2 := fun c o h n => b c o (a c o h n) n
theorem But.of {l : Addr} {H H' : Hp} (a : Same H H') : But l H H' := fun c o h _ => a c o h
theorem But.upd {l : Addr} {H : Hp} {o : HO} : But l H (upd H l o) := fun c u h n => by
  rw [upd_ne n]
  exact h
theorem But.seq {K : PySem.W.Frag} {l : Addr} {H H' : Hp} {a : Addr} {xs : List V} (e : But l H H') (n : a ≠ l) (h : SqL K H a xs) : SqL K H' a xs := by
  rcases h with (h | ⟨o, h⟩) | h
  · exact .inl (.inl (e _ _ h n))
  · exact .inl (.inr ⟨o, e _ _ h n⟩)
  · exact .inr h
theorem But.seqT {K : PySem.W.Frag} {l : Addr} {H H' : Hp} {a : Addr} {xs : List V} (e : But l H H') (n : a ≠ l) (h : SqT K H a xs) : SqT K H' a xs := by
  rcases h with (h | ⟨o, h⟩) | h
  · exact .inl (.inl (e _ _ h n))
  · exact .inl (.inr ⟨o, e _ _ h n⟩)
  · exact .inr h
theorem But.free {l : Addr} {H H' : Hp} (e : But l H H') {p : Addr} (n : p ≠ l) (h : H' p = Option.none) : H p = Option.none := by
  cases q : H p with
  | none => rfl
  | some o =>
    rw [e p o q n] at h
    cases h
/-! ### tuples of any kind: what a sum, a slice is -/
section
variable {X : Cx}
def rCatU (K : PySem.W.Frag) : R2 := fun x y H Q => ∃ a b xs ys, x = .ref a ∧ y = .ref b ∧ SqT K H a xs ∧ SqT K H b ys ∧ xs.length + ys.length ≤ sizeLine ∧ ∀ c H', Same H H' → SqT K H' c (xs ++ ys) → Q (.ref c) H'
theorem op_catU : OpR X (binaryOp .Add) (rCatU X.K) := by
  intro pins s σ H x y v u Q I rx ry h
  obtain ⟨a, b, xs, ys, ex, ey, ha, hb, hz, q⟩ := h
  refine op_catA pins s σ H x y v u Q I rx ry ⟨a, b, xs, ys, ex, ey, ha, hb, hz, fun e => ?_, fun _ e => ?_, fun _ _ p hp => ?_⟩
  · subst e
    exact q b H (Same.refl H) hb
  · subst e
    exact q a H (Same.refl H) (by rw [List.append_nil]; exact ha)
  · exact q p _ (Same.new hp) (.inl (.inl upd_same))
def rSlU (K : PySem.W.Frag) : V → Option Int → Option Int → Hp → VK → Prop := fun x lo hi H Q => ∃ a xs, x = .ref a ∧ SqT K H a xs ∧ ∀ c H', Same H H' → SqT K H' c (cutV xs lo hi) → Q (.ref c) H'
theorem sl_tupU : SlR X (rSlU X.K) := by
  intro pins s σ H x v vl vu lo hi sl Q I rx hs pl pu h
  obtain ⟨a, xs, ex, hx, q⟩ := h
  refine sl_tupA pins s σ H x v vl vu lo hi sl Q I rx hs pl pu ⟨a, xs, ex, hx, fun hw => ?_, fun _ p hp => ?_⟩
  · refine q a H (Same.refl H) ?_
    unfold cutV
    rw [hw.1, hw.2, List.drop_zero, Nat.sub_zero, List.take_length]
    exact hx
  · exact q p _ (Same.new hp) (.inl (.inl upd_same))
end
/-! ### a loop over enumerate of a list -/
theorem for_enumL {K : PySem.W.Frag} {a : Addr} {xs : List V} {g : TG} {tb : TS} {D : Ends} {σ : L2.St} {H : Hp} (Pv : Nat → L2.St → Hp → Prop) (h0 : Pv 0 σ H) (hq : ∀ i σ H, Pv i σ H → SqL K H a xs)
    (hs : ∀ (i : Nat) (x : V) (T : Addr) (σ : L2.St) (H : Hp), xs[i]? = some x → Pv i σ H → H T = none → g (.ref T) σ (upd H T (.tup [.int (i : Nat), x])) fun σ2 H2 => tb { D with nx := Pv (i + 1), ct := Pv (i + 1), bk := D.nx } σ2 H2) (hd : ∀ σ H, Pv xs.length σ H → D.nx σ H) :
    ∃ W : Nat → Nat → L2.St → Hp → Prop, (∃ m, W 0 m σ H) ∧ ∀ i m σ H, W i m σ H →
      ((Ite K a).stop i H ∧ D.nx σ H) ∨ ((Ite K a).go i H ∧ ∃ N : L2.St → Hp → Prop, (∀ σ' H', N σ' H' → ∃ m', m' < m ∧ W (i + 1) m' σ' H') ∧ ∀ v H', (Ite K a).yld i H v H' → g v σ H' fun σ2 H2 => tb { D with nx := N, ct := N, bk := D.nx } σ2 H2) := by
  refine ⟨fun i m σ H => m = xs.length - i ∧ i ≤ xs.length ∧ Pv i σ H, ⟨xs.length, rfl, Nat.zero_le _, h0⟩, ?_⟩
  rintro i m σ H ⟨rfl, hi, p⟩
  have qx := hq i σ H p
  by_cases hlt : i < xs.length
  · have hx : xs[i]? = some xs[i] := List.getElem?_eq_getElem hlt
    refine .inr ⟨⟨xs, _, qx, hx⟩, Pv (i + 1), fun σ' H' p' => ⟨xs.length - (i + 1), by omega, rfl, hlt, p'⟩, fun v H' y => ?_⟩
    obtain ⟨T, x', rfl, hT, rfl, f1⟩ := y
    exact hs i x' T σ H (f1 xs qx) p hT
  · have e : i = xs.length := by omega
    subst e
    exact .inl ⟨⟨xs, qx, Nat.le_refl _⟩, hd σ H p⟩
end Bx

namespace Bx
open PySem PySem.Spec PyProof.Rows L2
theorem lay_ints : ∀ is : List Int, PyData.canLayAll0 (is.map PyData.int) = true
  | [] => by simp [PyData.canLayAll0]
  | i :: is => by simp [PyData.canLayAll0, PyData.canLay0, lay_ints is]
theorem dep_ints : ∀ is : List Int, PyData.depthAll (is.map PyData.int) ≤ 1
  | [] => by simp [PyData.depthAll]
  | i :: is => by
    have := dep_ints is
    simp [PyData.depthAll, PyData.depth]
    omega
theorem shaped_ints (is : List Int) : SeqAt.shaped (.list (is.map PyData.int)) = true := by
  unfold SeqAt.shaped
  rw [Bool.and_eq_true, decide_eq_true_eq]
  refine ⟨by simp [PyData.canLay0, lay_ints], ?_⟩
  have := dep_ints is
  simp [PyData.depth]
  omega
theorem lay_strs : ∀ {is : List Str}, (∀ x ∈ is, PyData.strOk x = true) → PyData.canLayAll0 (is.map PyData.str) = true
  | [], _ => by simp [PyData.canLayAll0]
  | i :: is, h => by simp [PyData.canLayAll0, PyData.canLay0, lay_strs fun x hx => h x (List.mem_cons_of_mem _ hx), h i List.mem_cons_self]
theorem dep_strs : ∀ is : List Str, PyData.depthAll (is.map PyData.str) ≤ 1
  | [] => by simp [PyData.depthAll]
  | i :: is => by
    have := dep_strs is
    simp [PyData.depthAll, PyData.depth]
    omega
theorem shaped_strs {is : List Str} (h : ∀ x ∈ is, PyData.strOk x = true) : SeqAt.shaped (.list (is.map PyData.str)) = true := by
  unfold SeqAt.shaped
  rw [Bool.and_eq_true, decide_eq_true_eq]
  refine ⟨by simp [PyData.canLay0, lay_strs h], ?_⟩
  have := dep_strs is
  simp [PyData.depth]
  omega
theorem dp_ints {K : PySem.W.Frag} {H : Hp} : ∀ is : List Int, DpAll K H (is.map V.int) (is.map PyData.int)
  | [] => .nil
  | i :: is => .cons (.int i) (dp_ints is)
theorem dp_strs {K : PySem.W.Frag} {H : Hp} : ∀ is : List Str, DpAll K H (is.map V.str) (is.map PyData.str)
  | [] => .nil
  | i :: is => .cons (.str i) (dp_strs is)
theorem eqv_strs : ∀ {xs ys : List Str}, PyData.eqvAll (xs.map PyData.str) (ys.map PyData.str) = true ↔ xs = ys
  | [], [] => by simp [PyData.eqvAll]
  | [], _ :: _ => by simp [PyData.eqvAll]
  | _ :: _, [] => by simp [PyData.eqvAll]
  | x :: xs, y :: ys => by
    have e := @eqv_strs xs ys
    simp [PyData.eqvAll, PyData.eqv, e]
theorem eqv_ints : ∀ {xs ys : List Int}, PyData.eqvAll (xs.map PyData.int) (ys.map PyData.int) = true ↔ xs = ys
  | [], [] => by simp [PyData.eqvAll]
  | [], _ :: _ => by simp [PyData.eqvAll]
  | _ :: _, [] => by simp [PyData.eqvAll]
  | x :: xs, y :: ys => by
    have e := @eqv_ints xs ys
    simp [PyData.eqvAll, PyData.eqv, e]
theorem But.tupW {K : PySem.W.Frag} {l : Addr} {ws : List V} {H H' : Hp} {a : Addr} {xs : List V} (hw : H l = some (.lst ws)) (e : But l H H') (h : SqT K H a xs) : SqT K H' a xs := by
  rcases h with (h | ⟨o, h⟩) | h
  · exact .inl (.inl (e _ _ h (ne_of h hw (by intro q; cases q))))
  · exact .inl (.inr ⟨o, e _ _ h (ne_of h hw (by intro q; cases q))⟩)
  · exact .inr h
theorem at_lastI {is : List Int} (h : is ≠ []) : ∃ a, a ∈ is ∧ atI (is.map V.int) (-1) = some (.int a) ∧ is[is.length - 1]? = some a := by
  obtain ⟨init, a, rfl⟩ : ∃ init a, is = init ++ [a] := ⟨is.dropLast, is.getLast h, (List.dropLast_concat_getLast h).symm⟩
  refine ⟨a, by simp, ?_, by simp⟩
  rw [List.map_append]
  exact atI_last _ _
theorem flat_ints (is : List Int) : (is.map V.int).all flatV = true := by
  rw [List.all_eq_true]
  intro x hx
  obtain ⟨i, _, rfl⟩ := List.mem_map.mp hx
  rfl
theorem inV_ints {i : Int} {is : List Int} : inV (.int i) (is.map V.int) = decide (i ∈ is) := by
  unfold inV
  rw [Bool.eq_iff_iff, List.any_eq_true, decide_eq_true_eq]
  constructor
  · rintro ⟨x, hx, e⟩
    obtain ⟨j, hj, rfl⟩ := List.mem_map.mp hx
    have : j = i := by simpa [eqV] using e
    exact this ▸ hj
  · intro h
    exact ⟨.int i, List.mem_map_of_mem h, by simp [eqV]⟩
theorem But.mut {l : Addr} {H H' : Hp} {p : Addr} {o : HO} (e : But l H H') (h : H p = Option.none) : But l H (L2.upd H' p o) := fun a u ha n => by
  rw [upd_ne (ne_of_none ha h)]
  exact e a u ha n
theorem But.lst {l : Addr} {H H' : Hp} {a : Addr} {o : HO} (e : But l H H') (h : H a = some o) (n : a ≠ l) : H' a = some o := e a o h n
/-! the same rules by the frame's own K (within a comprehension) -/
section
variable {X : Cx} (K : PySem.W.Frag)
theorem ixLK (h : X.K = K := by rfl) : IxR X (rIxL K) := by subst h; exact ix_list
theorem ixTK (h : X.K = K := by rfl) : IxR X (rIxT K) := by subst h; exact ix_tup
theorem inK (h : X.K = K := by rfl) : OpR X (compareOp .In) (rIn K false) := by subst h; exact op_in_seq
theorem notInK (h : X.K = K := by rfl) : OpR X (compareOp .NotIn) (rIn K true) := by subst h; exact op_notIn_seq
theorem isiK (h : X.K = K := by rfl) : CallR X (.builtin "isinstance") (rIsi K) := by subst h; exact call_isi
theorem lenK (h : X.K = K := by rfl) : CallR X (.builtin "len") (Evl.rLenS K) := by subst h; exact call_len_seq
end
end Bx

namespace Bx
open PySem PySem.Spec PyProof.Rows L2
/-! {k: v for a in A for b in B}: two clauses -/
theorem dcompTurn2_out (kx vx t0 i0 t1 i1 : Expr) (ifs0 ifs1 : List Expr) (scope : Scope) (pos : Pos) (it : Value) (acc : Addr) (env : Env) :
    compTurn (.DictComp kx vx [⟨t0, i0, ifs0, 0⟩, ⟨t1, i1, ifs1, 0⟩] scope pos) 0 it (.ref acc) env = (do
      standAt i0.pos
      match ← pyNext it with
      | none => pure (.done .next)
      | some v =>
        letOwnedTupleGo t0 it v
        assign t0 env v
        let mut ok := true
        for c in ifs0 do
          if ok then ok ← isTrue c env (eval c env)
        if ok then
          let x ← eval i1 env
          standAt i1.pos
          let x ← foldedSetIterable i1 env x
          let _ ← runOwn (.compStart (.DictComp kx vx [⟨t0, i0, ifs0, 0⟩, ⟨t1, i1, ifs1, 0⟩] scope pos) 1 (← holding [x] (pyIter x)) (.ref acc) env) env
        again (.compLoop (.DictComp kx vx [⟨t0, i0, ifs0, 0⟩, ⟨t1, i1, ifs1, 0⟩] scope pos) 0 it (.ref acc) env)) := by rfl
theorem dcompTurn2_in (kx vx t0 i0 t1 i1 : Expr) (ifs0 ifs1 : List Expr) (scope : Scope) (pos : Pos) (it : Value) (acc : Addr) (env : Env) :
    compTurn (.DictComp kx vx [⟨t0, i0, ifs0, 0⟩, ⟨t1, i1, ifs1, 0⟩] scope pos) 1 it (.ref acc) env = (do
      standAt i1.pos
      match ← pyNext it with
      | none => pure (.done .next)
      | some v =>
        letOwnedTupleGo t1 it v
        assign t1 env v
        let mut ok := true
        for c in ifs1 do
          if ok then ok ← isTrue c env (eval c env)
        if ok then
          (do
            let kv ← eval kx env
            let vv ← holding [kv] (eval vx env)
            standAt { kx.pos with endLine := vx.pos.endLine, endCol := vx.pos.endCol }
            holding [kv, vv] (dictSet acc kv vv))
        again (.compLoop (.DictComp kx vx [⟨t0, i0, ifs0, 0⟩, ⟨t1, i1, ifs1, 0⟩] scope pos) 1 it (.ref acc) env)) := by rfl

section
variable {prog : Program} {w : World} {A : Around} {R : Result → Shared → Prop} {s : Shared} {kx vx t0 i0 t1 i1 : Expr} {ifs0 ifs1 : List Expr} {scope : Scope} {pos : Pos} {it : Value} {acc : Addr} {env : Env}
theorem dcompLoop2_out (hs : ∀ x, foldedSetIterable i1 env x = pure x) (I : Nat → Shared → Prop)
    (turn : ∀ n s, I n s → wpAny (model prog w) A (pyNext it) (fun r s₁ => match r with
      | none => R (.ok .next) s₁
      | some v => wpAny (model prog w) A (letOwnedTupleGo t0 it v) (fun _ s₁' => wpAny (model prog w) A (assign t0 env v) (fun _ s₂ =>
          wpAny (model prog w) A (forIn ifs0 true fun c r => if r = true then do let ok ← isTrue c env (eval c env); pure (ForInStep.yield ok) else pure (ForInStep.yield r)) (fun ok s₃ =>
            if ok = true then wpAny (model prog w) A (eval i1 env) (fun x s₄ => wpAny (model prog w) A (pyIter x) (fun it1 s₅ =>
              codeAny (model prog w) A (.compStart (.DictComp kx vx [⟨t0, i0, ifs0, 0⟩, ⟨t1, i1, ifs1, 0⟩] scope pos) 1 it1 (.ref acc) env) (fun r s' => match r with
                | .ok _ => ∃ m, m < n ∧ I m s'
                | .error _ => False) s₅) (notedBy (model prog w) A env fun e s' => R (.error e) s') s₄) (notedBy (model prog w) A env fun e s' => R (.error e) s') s₃
            else ∃ m, m < n ∧ I m s₃) (notedBy (model prog w) A env fun e s' => R (.error e) s') s₂) (notedBy (model prog w) A env fun e s' => R (.error e) s') s₁') (notedBy (model prog w) A env fun e s' => R (.error e) s') s₁) (notedBy (model prog w) A env fun e s' => R (.error e) s') s)
    (n : Nat) (h : I n s) :
    codeAny (model prog w) A (.compLoop (.DictComp kx vx [⟨t0, i0, ifs0, 0⟩, ⟨t1, i1, ifs1, 0⟩] scope pos) 0 it (.ref acc) env) R s := by
  refine codeAny_loop rfl I (fun n s hI => ?_) n h
  show wpAny _ A ((compTurn (.DictComp kx vx [⟨t0, i0, ifs0, 0⟩, ⟨t1, i1, ifs1, 0⟩] scope pos) 0 it (.ref acc) env).onRaise (fun x => do noteFrame x env; theTreesLotGoes x)) _ _ s
  refine wpAny_noted ?_
  rw [dcompTurn2_out]
  refine wpAny_bind (wpAny_standAt (wpAny_bind (wpAny_mono (turn n s hI) (fun r s₁ h₁ => ?_) fun _ _ h' => h')))
  cases r with
  | none => exact wpAny_pure h₁
  | some v =>
    refine wpAny_bind (wpAny_mono h₁ (fun _ s₁' h₁' => ?_) fun _ _ h' => h')
    refine wpAny_bind (wpAny_mono h₁' (fun _ s₂ h₂ => wpAny_bind (wpAny_mono h₂ (fun ok s₃ h₃ => ?_) fun _ _ h' => h')) fun _ _ h' => h')
    cases ok with
    | false => exact wpAny_pure ⟨rfl, h₃⟩
    | true =>
      refine wpAny_bind (wpAny_mono h₃ (fun x s₄ h₄ => ?_) fun _ _ h' => h')
      refine wpAny_bind (wpAny_standAt (wpAny_bind (wpAny_of_eq (hs x) (wpAny_bind (wpAny_holding (wpAny_mono h₄ (fun it1 s₅ h₅ => ?_) fun _ _ h' => h'))))))
      refine wpAny_bind (wpAny_runOwn ?_)
      rw [Around.mark_none]
      refine codeAny_mono h₅ fun r s' hr => ?_
      cases r with
      | ok f =>
        first
          | exact wpAny_pure ⟨rfl, hr⟩
          | exact wpAny_bind (wpAny_pure (wpAny_pure ⟨rfl, hr⟩))
      | error e => exact hr.elim
theorem dcompLoop2_in (I : Nat → Shared → Prop)
    (turn : ∀ n s, I n s → wpAny (model prog w) A (pyNext it) (fun r s₁ => match r with
      | none => R (.ok .next) s₁
      | some v => wpAny (model prog w) A (letOwnedTupleGo t1 it v) (fun _ s₁' => wpAny (model prog w) A (assign t1 env v) (fun _ s₂ =>
          wpAny (model prog w) A (forIn ifs1 true fun c r => if r = true then do let ok ← isTrue c env (eval c env); pure (ForInStep.yield ok) else pure (ForInStep.yield r)) (fun ok s₃ =>
            if ok = true then wpAny (model prog w) A (eval kx env) (fun kv s₄ => wpAny (model prog w) A (eval vx env) (fun vv s₅ =>
              wpAny (model prog w) A (dictSet acc kv vv) (fun _ s₆ => ∃ m, m < n ∧ I m s₆) (notedBy (model prog w) A env fun e s' => R (.error e) s') s₅) (notedBy (model prog w) A env fun e s' => R (.error e) s') s₄) (notedBy (model prog w) A env fun e s' => R (.error e) s') s₃
            else ∃ m, m < n ∧ I m s₃) (notedBy (model prog w) A env fun e s' => R (.error e) s') s₂) (notedBy (model prog w) A env fun e s' => R (.error e) s') s₁') (notedBy (model prog w) A env fun e s' => R (.error e) s') s₁) (notedBy (model prog w) A env fun e s' => R (.error e) s') s)
    (n : Nat) (h : I n s) :
    codeAny (model prog w) A (.compLoop (.DictComp kx vx [⟨t0, i0, ifs0, 0⟩, ⟨t1, i1, ifs1, 0⟩] scope pos) 1 it (.ref acc) env) R s := by
  refine codeAny_loop rfl I (fun n s hI => ?_) n h
  show wpAny _ A ((compTurn (.DictComp kx vx [⟨t0, i0, ifs0, 0⟩, ⟨t1, i1, ifs1, 0⟩] scope pos) 1 it (.ref acc) env).onRaise (fun x => do noteFrame x env; theTreesLotGoes x)) _ _ s
  refine wpAny_noted ?_
  rw [dcompTurn2_in]
  refine wpAny_bind (wpAny_standAt (wpAny_bind (wpAny_mono (turn n s hI) (fun r s₁ h₁ => ?_) fun _ _ h' => h')))
  cases r with
  | none => exact wpAny_pure h₁
  | some v =>
    refine wpAny_bind (wpAny_mono h₁ (fun _ s₁' h₁' => ?_) fun _ _ h' => h')
    refine wpAny_bind (wpAny_mono h₁' (fun _ s₂ h₂ => wpAny_bind (wpAny_mono h₂ (fun ok s₃ h₃ => ?_) fun _ _ h' => h')) fun _ _ h' => h')
    cases ok with
    | false => exact wpAny_pure ⟨rfl, h₃⟩
    | true =>
      exact wpAny_bind (wpAny_bind (wpAny_mono h₃ (fun kv s₄ h₄ => wpAny_bind (wpAny_holding (wpAny_mono h₄ (fun vv s₅ h₅ => wpAny_bind (wpAny_standAt (wpAny_holding (wpAny_mono h₅ (fun _ s₆ h₆ => wpAny_pure ⟨rfl, h₆⟩) fun _ _ h' => h')))) fun _ _ h' => h'))) fun _ _ h' => h'))
theorem dcompStart1_ok (h0 : codeAny (model prog w) A (.compLoop (.DictComp kx vx [⟨t0, i0, ifs0, 0⟩, ⟨t1, i1, ifs1, 0⟩] scope pos) 1 it (.ref acc) env) R s)
    (h : wpAny (model prog w) A (pyIter it) (fun it' s' => codeAny (model prog w) A (.compLoop (.DictComp kx vx [⟨t0, i0, ifs0, 0⟩, ⟨t1, i1, ifs1, 0⟩] scope pos) 1 it' (.ref acc) env) R s')
      (notedBy (model prog w) A env fun x s' => R (.error x) s') s) :
    codeAny (model prog w) A (.compStart (.DictComp kx vx [⟨t0, i0, ifs0, 0⟩, ⟨t1, i1, ifs1, 0⟩] scope pos) 1 it (.ref acc) env) R s := by
  refine codeAny_of_tree ?_
  show wpAny _ _ ((compStart (.DictComp kx vx [⟨t0, i0, ifs0, 0⟩, ⟨t1, i1, ifs1, 0⟩] scope pos) 1 it (.ref acc) env).onRaise (fun x => do noteFrame x env; standAt theWindowsPlace)) _ _ s
  refine wpAny_notedAt ?_
  unfold compStart
  show wpAny _ _ (ask >>= _) _ _ s
  refine wpAny_bind (wpAny_askSetting (wpAny_ite ?_))
  split
  · first
      | exact wpAny_bind (wpAny_pure (wpAny_pure (And.intro rfl h0)))
      | exact wpAny_pure (And.intro rfl h0)
  · first
      | exact wpAny_bind (wpAny_rule (wpAny_bind (wpAny_standAt (wpAny_bind (wpAny_mono h (fun it' s' h' => wpAny_pure (And.intro rfl h')) fun _ _ x => x)))))
      | (refine wpAny_bind (wpAny_rule ?_); show wpAny _ _ (standAt i1.pos >>= _) _ _ s; exact wpAny_bind (wpAny_standAt (wpAny_bind (wpAny_mono h (fun it' s' h' => wpAny_pure (And.intro rfl h')) fun _ _ x => x))))
end

section
variable {X : Cx}
def tDc2 (wi : TI) (g : TG) (tt : TT) (wi1 : TI) (g1 : TG) (tt1 : TT) (tk tv : TE) (vs vs1 : List Nat) : TE := fun σ H Q => wi σ H fun J H1 => ∀ D, H1 D = none → ∃ W : Nat → Nat → Hp → Prop, (∃ m, W 0 m (upd H1 D (.dK []))) ∧ ∀ i m H, W i m H →
  (J.stop i H ∧ Q (.ref D) H) ∨ (J.go i H ∧ ∃ Nx : Hp → Prop, (∀ H', Nx H' → ∃ m', m' < m ∧ W (i + 1) m' H') ∧ ∀ x H', J.yld i H x H' → g x (wipe σ vs) H' fun σ2 H2 => wipe σ2 vs = wipe σ vs ∧ tt σ2 H2 fun b H3 =>
    if b = true then wi1 σ2 H3 fun J1 H4 => ∃ W1 : Nat → Nat → Hp → Prop, (∃ m, W1 0 m H4) ∧ ∀ j k H, W1 j k H →
      (J1.stop j H ∧ Nx H) ∨ (J1.go j H ∧ ∃ Nx1 : Hp → Prop, (∀ H', Nx1 H' → ∃ k', k' < k ∧ W1 (j + 1) k' H') ∧ ∀ x H', J1.yld j H x H' → g1 x (wipe σ2 vs1) H' fun σ3 H5 => wipe σ3 vs1 = wipe σ2 vs1 ∧ tt1 σ3 H5 fun b H6 =>
        if b = true then tk σ3 H6 fun y H7 => tv σ3 H7 fun z H8 => ∃ kvs k, y = kV k ∧ H8 D = some (.dK kvs) ∧ kvs.length < sizeLine ∧ Nx1 (upd H8 D (.dK (putK kvs k z))) else Nx1 H6)
    else Nx H3)
theorem dc2_core {pins : List (Addr × Obj)} {s : Shared} {σ : L2.St} {H : Hp} {Q : VK} {kx vx tg iter tg1 iter1 : Expr} {ifs ifs1 : List Expr} {scope : Scope} {own : List (Str × Nat)} {vs1 : List Nat} {pos pos' : Pos} {wi wi1 : TI} {g g1 : TG} {tt tt1 : TT} {tk tv : TE} {use : Option (Value → Sem Unit)} {Qf : Value → Shared → Prop}
    (hc : X.calm = true) (hN : X.N.Nodup) (I : Inv X pins σ H s) (hi : PI X tg iter wi) (ok : BlkOk X.N X.env.scope scope own) (hv : ∀ i ∈ vs1, i ∈ own.map (·.2))
    (hg : ∀ (s : Shared) (H : Hp) (C : Addr) (cl : List (Str × Addr)) (fp : List Addr), PG (X.blk s H scope (compEnvC scope cl C X.env) fp) tg g) (ht : ∀ (s : Shared) (H : Hp) (C : Addr) (cl : List (Str × Addr)) (fp : List Addr), PTs (X.blk s H scope (compEnvC scope cl C X.env) fp) ifs tt)
    (hk : ∀ (s : Shared) (H : Hp) (C : Addr) (cl : List (Str × Addr)) (fp : List Addr), PE (X.blk s H scope (compEnvC scope cl C X.env) fp) kx tk) (he : ∀ (s : Shared) (H : Hp) (C : Addr) (cl : List (Str × Addr)) (fp : List Addr), PE (X.blk s H scope (compEnvC scope cl C X.env) fp) vx tv) (hs : ∀ x, foldedSetIterable iter X.env x = pure x)
    (hi1 : ∀ (s : Shared) (H : Hp) (C : Addr) (cl : List (Str × Addr)) (fp : List Addr), PI (X.blk s H scope (compEnvC scope cl C X.env) fp) tg1 iter1 wi1)
    (hg1 : ∀ (s : Shared) (H : Hp) (C : Addr) (cl : List (Str × Addr)) (fp : List Addr), PG (X.blk s H scope (compEnvC scope cl C X.env) fp) tg1 g1)
    (ht1 : ∀ (s : Shared) (H : Hp) (C : Addr) (cl : List (Str × Addr)) (fp : List Addr), PTs (X.blk s H scope (compEnvC scope cl C X.env) fp) ifs1 tt1)
    (hs1 : ∀ env x, foldedSetIterable iter1 env x = pure x)
    (h : tDc2 wi g tt wi1 g1 tt1 tk tv (own.map (·.2)) vs1 σ H Q)
    (hback : ∀ D C s' m H', Inv X pins σ H' s' → Q (.ref D) H' → s'.heap.Ns C m → FpOk X pins H' C → compPost (model X.prog X.w) X.A X.xe use Qf (.ref D) C (.ok .next) s') :
    wpAny (model X.prog X.w) X.A (comprehension (.DictComp kx vx [⟨tg, iter, ifs, 0⟩, ⟨tg1, iter1, ifs1, 0⟩] scope pos) scope X.env pos' newDict false (eval iter X.env) use) Qf X.xe s := by
  have hcells : ∀ y ∈ scope.names, y.2 = .free → ∃ c, X.env.cells.lookup y.1 = some c := fun y hy e => by
    rcases ok.free y hy e with k | k
    · exact I.ok.has _ (.inl k)
    · exact I.ok.has _ (.inr k)
  refine wpAny_comprehension_free (use := use) rfl hs (closure_ok hcells) ok.kind (fun y hy e => by rw [ok.uniq y hy, e])
    (thn (hi.run pins s σ H _ I h) fun srcv s1 hx => thn hx fun itval s2 h2 => ?_)
  obtain ⟨it, fp, tn, J, H2, e, I2, T, st2, f2, q⟩ := h2
  subst e
  refine wpAny_newObj_type (newEnv_comp ?_)
  generalize hD : s2.heap.objs.size = D
  have hDn : H2 D = none := I2.hok.fresh (Nat.le_of_eq hD)
  obtain ⟨W, ⟨m0, w0⟩, turn⟩ := q D hDn
  -- the new list
  generalize hs3 : ({ s2 with heap := s2.heap.push { cls := .type "dict", data := .dict #[] } } : Shared) = s3
  have I3 : Inv X pins σ (upd H2 D (.dK [])) s3 := by
    rw [← hs3]
    refine I2.laid (t' := s2.toks) (fun b o e => Heap.get?_push_of_some _ e) (Nat.le_of_eq hD) ?_
    rw [← hD]
    exact dk_empty s2.heap I2.big
  have h3 : s3.heap = s2.heap.push { cls := .type "dict", data := .dict #[] } := by rw [← hs3]
  have sz : ∀ b ∈ fp, b < s2.heap.objs.size := fun b hb => by
    obtain ⟨o, e, _⟩ := T.obj _ _ st2 b hb
    exact Heap.lt_size e
  have f3 : ∀ b ∈ fp, FpOk X pins (upd H2 D (.dK [])) b ∧ b < s3.heap.objs.size := fun b hb => by
    have hlt := sz b hb
    refine ⟨⟨?_, (f2 b hb).2⟩, by rw [h3, Heap.size_push]; exact Nat.lt_succ_of_lt hlt⟩
    rw [upd_ne (by rw [← hD]; exact Nat.ne_of_lt hlt)]
    exact (f2 b hb).1
  have st3 : tn 0 s3.heap := T.keep _ _ _ st2 fun b _ o e => by rw [h3]; exact Heap.get?_push_of_some _ e
  have I4 := block_start I3 ok hN f3
  have pg := hg s3 (upd H2 D (.dK [])) s3.heap.objs.size (cellsFrom (s3.heap.objs.size + 1) scope.names (cloFrom X.env.cells scope.names [])) fp
  have pt := ht s3 (upd H2 D (.dK [])) s3.heap.objs.size (cellsFrom (s3.heap.objs.size + 1) scope.names (cloFrom X.env.cells scope.names [])) fp
  have pk := hk s3 (upd H2 D (.dK [])) s3.heap.objs.size (cellsFrom (s3.heap.objs.size + 1) scope.names (cloFrom X.env.cells scope.names [])) fp
  have pe := he s3 (upd H2 D (.dK [])) s3.heap.objs.size (cellsFrom (s3.heap.objs.size + 1) scope.names (cloFrom X.env.cells scope.names [])) fp
  have pi1 := hi1 s3 (upd H2 D (.dK [])) s3.heap.objs.size (cellsFrom (s3.heap.objs.size + 1) scope.names (cloFrom X.env.cells scope.names [])) fp
  have pg1 := hg1 s3 (upd H2 D (.dK [])) s3.heap.objs.size (cellsFrom (s3.heap.objs.size + 1) scope.names (cloFrom X.env.cells scope.names [])) fp
  have pt1 := ht1 s3 (upd H2 D (.dK [])) s3.heap.objs.size (cellsFrom (s3.heap.objs.size + 1) scope.names (cloFrom X.env.cells scope.names [])) fp
  show codeAny _ _ (.compStart (.DictComp kx vx [⟨tg, iter, ifs, 0⟩, ⟨tg1, iter1, ifs1, 0⟩] scope pos) 0 (.ref it) (.ref D) (compEnvC scope (cellsFrom (s3.heap.objs.size + 1) scope.names (cloFrom X.env.cells scope.names [])) s3.heap.objs.size X.env)) (compPost (model X.prog X.w) X.A X.xe use Qf (.ref D) s3.heap.objs.size) { s3 with heap := pushCells (s3.heap.push { cls := .type "dict", data := .dict #[] }) scope.names }
  have offp : ∀ b ∈ fp, (upd H2 D (.dK [])) b = none := fun b hb => (f3 b hb).1.1
  generalize hce : compEnvC scope (cellsFrom (s3.heap.objs.size + 1) scope.names (cloFrom X.env.cells scope.names [])) s3.heap.objs.size X.env = ce at I4 pg pt pk pe pi1 pg1 pt1 ⊢
  have cL : ce.locals = s3.heap.objs.size := by subst hce; rfl
  generalize hH3 : upd H2 D (.dK []) = H3 at I3 I4 pg pt pk pe pi1 pg1 pt1 w0 offp f3
  generalize hs4 : ({ s3 with heap := pushCells (s3.heap.push { cls := .type "dict", data := .dict #[] }) scope.names } : Shared) = s4 at I4 ⊢
  have st4 : tn 0 s4.heap := T.keep _ _ _ st3 fun b _ o e => by rw [← hs4]; exact pushCells_keeps _ _ _ _ (Heap.get?_push_of_some _ e)
  have quiet : ∀ {σ' : L2.St} {H' : Hp} {s' : Shared}, Inv (X.blk s3 H3 scope ce fp) [] σ' H' s' → (∀ b ∈ fp, H' b = none) → ∀ b ∈ fp, FpOk (X.blk s3 H3 scope ce fp) [] H' b := fun {σ' H' s'} I' hn b hb =>
    ⟨hn b hb, (I'.ok.exf b hb).1, I'.ok.exfs b hb, .inl hb, fun x c e => (I'.ok.exf b hb).2 x c e, fun p hp => absurd (show p ∈ ([] : List (Addr × Obj)) ++ [] from hp) (by simp)⟩
  have loop : codeAny (model X.prog X.w) X.A (.compLoop (.DictComp kx vx [⟨tg, iter, ifs, 0⟩, ⟨tg1, iter1, ifs1, 0⟩] scope pos) 0 (.ref it) (.ref D) ce) (compPost (model X.prog X.w) X.A X.xe use Qf (.ref D) s3.heap.objs.size) s4 := by
    refine dcompLoop2_out (hs1 ce) (fun n s' => ∃ i H', Inv (X.blk s3 H3 scope ce fp) [] (wipe σ (own.map (·.2))) H' s' ∧ tn i s'.heap ∧ (∀ b ∈ fp, H' b = none) ∧ W i n H') ?_ m0 ⟨0, H3, I4, st4, offp, w0⟩
    rintro n s5 ⟨i, H5, I5, st5, n5, w5⟩
    rcases turn i n H5 w5 with ⟨stop, qq⟩ | ⟨go, Nx, hNx, step⟩
    · have td := T.done (X.blk s3 H3 scope ce fp) rfl rfl rfl hc i [] s5 _ H5 (fun _ _ => False) I5 (quiet I5 n5) st5 stop
      refine thnF td fun r s6 ⟨hr, I6⟩ => ?_
      subst hr
      -- back in the def's context
      have I7 : Inv X pins σ H5 s6 := I3.call' (ch := fp) I6.os I6.base I6.hok I6.bare fun b hb => ⟨(f3 b hb).1.2.2.2.1, (f3 b hb).1.2.1, (f3 b hb).1.2.2.2.2.1, (f3 b hb).1.2.2.2.2.2⟩
      have nC : H5 s3.heap.objs.size = none := by
        have z : H5 ce.locals = none := I6.free
        rw [cL] at z
        exact z
      obtain ⟨m, hn, _⟩ := I6.loc
      have hn : s6.heap.Ns ce.locals m := hn
      rw [cL] at hn
      exact hback D s3.heap.objs.size s6 m H5 I7 qq hn (I3.fpOk (Nat.le_refl _) nC)
    · have ti := T.item (X.blk s3 H3 scope ce fp) rfl rfl rfl hc i [] s5 _ H5 (fun _ _ => False) I5 (quiet I5 n5) st5 go
      refine thnF ti fun r s6 ⟨u, hr, h6⟩ => ?_
      subst hr
      refine thnF h6 fun _ s7 ⟨x, H7, I7, r7, y7, st7, n7⟩ => ?_
      have I7' := I7.pinned (quiet I7 n7) (T.obj _ _ st7)
      refine thnF (pg.run _ s7 _ H7 x u _ I7' r7 (step x H7 y7)) fun _ s8 ⟨σ8, H8, I8, hw8, q8⟩ => ?_
      refine thnF (pt.run _ s8 σ8 H8 _ I8 q8) fun b s9 ⟨H9, I9, q9⟩ => ?_
      -- the turn's end, from any slots that know what the block knew at its start
      have shut : ∀ {σ9 : L2.St} {s' : Shared} {H' : Hp}, Inv (X.blk s3 H3 scope ce fp) ([] ++ pinsAt fp s7.heap) σ9 H' s' → (wipe σ (own.map (·.2))).length = σ9.length → (∀ (j : Nat) v, (wipe σ (own.map (·.2)))[j]? = some (some v) → σ9[j]? = some (some v)) → Nx H' →
          ∃ m, m < n ∧ ∃ i H', Inv (X.blk s3 H3 scope ce fp) [] (wipe σ (own.map (·.2))) H' s' ∧ tn i s'.heap ∧ (∀ b ∈ fp, H' b = none) ∧ W i m H' := fun {σ9 s' H'} I' hl hk nx => by
        obtain ⟨m', hm, w'⟩ := hNx H' nx
        have kept : ∀ b ∈ fp, ∀ o, s7.heap.get? b = some o → s'.heap.get? b = some o ∧ H' b = none := fun b hb o e =>
          let z := I'.pin (b, o) (List.mem_append_right _ (List.mem_append_right _ (mem_pinsAt hb e)))
          ⟨z.1, z.2.1⟩
        refine ⟨m', hm, i + 1, H', (I'.unpinned (pins := [])).weak hl hk, T.keep _ _ _ st7 fun b hb o e => (kept b hb o e).1, fun b hb => ?_, w'⟩
        obtain ⟨o, e, _⟩ := T.obj _ _ st7 b hb
        exact (kept b hb o e).2
      have len8 : (wipe σ (own.map (·.2))).length = σ8.length := by rw [← hw8, wipe_length]
      have know8 : ∀ (j : Nat) v, (wipe σ (own.map (·.2)))[j]? = some (some v) → σ8[j]? = some (some v) := fun j v e => by
        rw [← hw8] at e
        exact (wipe_some e).1
      have know9 : ∀ (j : Nat) v, (wipe σ (own.map (·.2)))[j]? = some (some v) → (wipe σ8 vs1)[j]? = some (some v) := fun j v e => by
        rw [← hw8] at e
        obtain ⟨e1, e2⟩ := wipe_some e
        rw [wipe_out fun z => e2 (hv j z)]
        exact e1
      cases b with
      | false =>
        simp only [Bool.false_eq_true, if_false] at q9 ⊢
        exact shut I9 len8 know8 q9
      | true =>
        simp only [if_true] at q9 ⊢
        refine thnF (pi1.run _ s9 σ8 H9 _ I9 q9) fun srcv s10 hx => thnF hx fun itval s11 h11 => ?_
        obtain ⟨it1, fp1, tn1, J1, H11, e1, I11, T1, st11, f11, W1, ⟨m1, w1⟩, turn1⟩ := h11
        subst e1
        -- the inner loop
        have quiet1 : ∀ {H' : Hp}, (∀ b ∈ fp1, H' b = none) → ∀ b ∈ fp1, FpOk (X.blk s3 H3 scope ce fp) ([] ++ pinsAt fp s7.heap) H' b := fun hn b hb => ⟨hn b hb, (f11 b hb).2⟩
        have inner : codeAny (model X.prog X.w) X.A (.compLoop (.DictComp kx vx [⟨tg, iter, ifs, 0⟩, ⟨tg1, iter1, ifs1, 0⟩] scope pos) 1 (.ref it1) (.ref D) ce)
            (fun r s' => match r with
              | .ok _ => ∃ m, m < n ∧ ∃ i H', Inv (X.blk s3 H3 scope ce fp) [] (wipe σ (own.map (·.2))) H' s' ∧ tn i s'.heap ∧ (∀ b ∈ fp, H' b = none) ∧ W i m H'
              | .error _ => False) s11 := by
          refine dcompLoop2_in (fun k s' => ∃ j H', Inv (X.blk s3 H3 scope ce fp) ([] ++ pinsAt fp s7.heap) (wipe σ8 vs1) H' s' ∧ tn1 j s'.heap ∧ (∀ b ∈ fp1, H' b = none) ∧ W1 j k H') ?_ m1 ⟨0, H11, I11.weak (wipe_length _ _) (fun j v e => (wipe_some e).1), st11, fun b hb => (f11 b hb).1, w1⟩
          rintro k s12 ⟨j, H12, I12, st12, n12, w12⟩
          rcases turn1 j k H12 w12 with ⟨stop1, nx1⟩ | ⟨go1, Nx1, hNx1, step1⟩
          · refine thnF (T1.done (X.blk s3 H3 scope ce fp) rfl rfl rfl hc j _ s12 (wipe σ8 vs1) H12 (fun _ _ => False) I12 (quiet1 n12) st12 stop1) fun r s13 ⟨hr, I13⟩ => ?_
            subst hr
            exact shut I13 (len8.trans (wipe_length σ8 vs1).symm) know9 nx1
          · refine thnF (T1.item (X.blk s3 H3 scope ce fp) rfl rfl rfl hc j _ s12 (wipe σ8 vs1) H12 (fun _ _ => False) I12 (quiet1 n12) st12 go1) fun r s13 ⟨u1, hr, h13⟩ => ?_
            subst hr
            refine thnF h13 fun _ s14 ⟨x1, H14, I14, r14, y14, st14, n14⟩ => ?_
            have I14' := I14.pinned (quiet1 n14) (T1.obj _ _ st14)
            refine thnF (pg1.run _ s14 (wipe σ8 vs1) H14 x1 u1 _ I14' r14 (step1 x1 H14 y14)) fun _ s15 ⟨σ15, H15, I15, hw15, q15⟩ => ?_
            refine thnF (pt1.run _ s15 σ15 H15 _ I15 q15) fun b1 s16 ⟨H16, I16, q16⟩ => ?_
            have shut1 : ∀ {s' : Shared} {H' : Hp}, Inv (X.blk s3 H3 scope ce fp) (([] ++ pinsAt fp s7.heap) ++ pinsAt fp1 s14.heap) σ15 H' s' → Nx1 H' → ∃ m, m < k ∧ ∃ j H', Inv (X.blk s3 H3 scope ce fp) ([] ++ pinsAt fp s7.heap) (wipe σ8 vs1) H' s' ∧ tn1 j s'.heap ∧ (∀ b ∈ fp1, H' b = none) ∧ W1 j m H' := fun {s' H'} I' nx => by
              obtain ⟨m', hm, w'⟩ := hNx1 H' nx
              have kept : ∀ b ∈ fp1, ∀ o, s14.heap.get? b = some o → s'.heap.get? b = some o ∧ H' b = none := fun b hb o e =>
                let z := I'.pin (b, o) (List.mem_append_right _ (List.mem_append_right _ (mem_pinsAt hb e)))
                ⟨z.1, z.2.1⟩
              refine ⟨m', hm, j + 1, H', I'.unpinned.weak (by rw [← hw15, wipe_length]) (fun j v e => by rw [← hw15] at e; exact (wipe_some e).1), T1.keep _ _ _ st14 fun b hb o e => (kept b hb o e).1, fun b hb => ?_, w'⟩
              obtain ⟨o, e, _⟩ := T1.obj _ _ st14 b hb
              exact (kept b hb o e).2
            cases b1 with
            | false =>
              simp only [Bool.false_eq_true, if_false] at q16 ⊢
              exact shut1 I16 q16
            | true =>
              simp only [if_true] at q16 ⊢
              refine thnF (pk.run _ s16 σ15 H16 _ I16 q16) fun z s17 ⟨yk, H17, I17, r17, q17⟩ => ?_
              refine thnF (pe.run _ s17 σ15 H17 _ I17 q17) fun z2 s18 ⟨yv, H18, I18, r18, kvs, k1, ek, hD18, hz18, nx⟩ => ?_
              subst ek
              exact d_dictSet (X := X.blk s3 H3 scope ce fp) I18 hD18 hz18 r17 r18 fun s19 I19 => shut1 I19 nx
        exact dcompStart1_ok inner (T1.self X.A 0 _ _ _ st11 inner)
  exact codeAny_compStart_dict loop (T.self X.A 0 _ _ _ st4 loop)
theorem pe_dc2 {kx vx tg iter tg1 iter1 : Expr} {ifs ifs1 : List Expr} {scope : Scope} {own : List (Str × Nat)} {vs1 : List Nat} {pos : Pos} {wi wi1 : TI} {g g1 : TG} {tt tt1 : TT} {tk tv : TE} (hc : X.calm = true) (hN : X.N.Nodup) (hi : PI X tg iter wi) (ok : BlkOk X.N X.env.scope scope own) (hv : ∀ i ∈ vs1, i ∈ own.map (·.2))
    (hg : ∀ (s : Shared) (H : Hp) (C : Addr) (cl : List (Str × Addr)) (fp : List Addr), PG (X.blk s H scope (compEnvC scope cl C X.env) fp) tg g) (ht : ∀ (s : Shared) (H : Hp) (C : Addr) (cl : List (Str × Addr)) (fp : List Addr), PTs (X.blk s H scope (compEnvC scope cl C X.env) fp) ifs tt)
    (hi1 : ∀ (s : Shared) (H : Hp) (C : Addr) (cl : List (Str × Addr)) (fp : List Addr), PI (X.blk s H scope (compEnvC scope cl C X.env) fp) tg1 iter1 wi1)
    (hg1 : ∀ (s : Shared) (H : Hp) (C : Addr) (cl : List (Str × Addr)) (fp : List Addr), PG (X.blk s H scope (compEnvC scope cl C X.env) fp) tg1 g1) (ht1 : ∀ (s : Shared) (H : Hp) (C : Addr) (cl : List (Str × Addr)) (fp : List Addr), PTs (X.blk s H scope (compEnvC scope cl C X.env) fp) ifs1 tt1)
    (hk : ∀ (s : Shared) (H : Hp) (C : Addr) (cl : List (Str × Addr)) (fp : List Addr), PE (X.blk s H scope (compEnvC scope cl C X.env) fp) kx tk) (he : ∀ (s : Shared) (H : Hp) (C : Addr) (cl : List (Str × Addr)) (fp : List Addr), PE (X.blk s H scope (compEnvC scope cl C X.env) fp) vx tv) (hs : ∀ x, foldedSetIterable iter X.env x = pure x := by intro _; rfl) (hs1 : ∀ env x, foldedSetIterable iter1 env x = pure x := by intro _ _; rfl) :
    PE X (.DictComp kx vx [⟨tg, iter, ifs, 0⟩, ⟨tg1, iter1, ifs1, 0⟩] scope pos) (tDc2 wi g tt wi1 g1 tt1 tk tv (own.map (·.2)) vs1) := by
  refine ⟨fun pins s σ H Q I h => ?_⟩
  rw [arm_eval_DictComp]
  refine dc2_core hc hN I hi ok hv hg ht hk he hs hi1 hg1 ht1 hs1 h fun D C s' m H' I' q hn f => ⟨m, hn, fun h'' sb => ?_⟩
  obtain ⟨f0, f1, f2, f3, f4, f5⟩ := f
  exact ⟨.ref D, H', I'.turned (t' := s'.toks) (fun b o hb e => (sb.2 b hb).trans e) f0 f1 f3 f4 f5, rfl, q⟩

end
section
variable {X : Cx} (K : PySem.W.Frag)
theorem pgTK {es : List Expr} {k : Nat} {pos : Pos} {t : TGs} (n : Nat) (h : PGs X es t) (hc : X.calm = true := by rfl) (hK : X.K = K := by rfl) (hn : (assignEach es X.env).length = n := by rfl) (hst : (assignEach es X.env).findIdx? (·.1) = none := by rfl) : PG X (.Tuple es k pos) (gTup K n t) := by
  subst hK
  exact pg_tup hc h hn hst
theorem piTK {tg l : Expr} {tl : TE} (hl : PE X l tl) (hK : X.K = K := by rfl) : PI X tg l (iTup K tl) := by
  subst hK
  exact pi_tup hl
theorem piLK {tg l : Expr} {tl : TE} (hl : PE X l tl) (hK : X.K = K := by rfl) : PI X tg l (iList K tl) := by
  subst hK
  exact pi_list hl
end
end Bx

/-! own errors as values: made, read, asked by isinstance -/
namespace Ev
open PySem PySem.Spec PyProof.Rows L2
/-- C(e, ..) as a value, C's own __init__ keeping sp -/
def tMkV (C : Addr) (sp : Sp) (dvs : List V) (ta : TA) : TE := fun σ H Q => ta σ H fun vs H1 => vs.length ≤ 1000 ∧ ∀ a, H1 a = none → sp (.ref a :: (vs ++ dvs)) (upd H1 a (exo a C none)) (fun v H2 => v = .non ∧ Q (.ref a) H2) (fun _ _ _ => False)
/-- a class of errors with its own __init__ that may be made by its name -/
structure MakE (P : Program) (w : World) (K : PySem.W.Frag) (mg : Str → Option Value) (base : Heap) (k : Nat) (x : Str) (C : Addr) (sp : Sp) (dvs : List V) : Prop where
  ex : ∃ (fI : Addr) (fd : FuncData) (ps : List Str) (ds : List Value), OexC K C ∧ PySem.W.findIn K (.ref C) "__init__" = some (some (.ref fI)) ∧ PySem.W.typeIn K (.ref fI) = some (.type "function") ∧
    FnOk P w K mg base C8.CX0 k fI fd ps sp ∧ mg x = some (.ref C) ∧ Binds K fd ps ds ∧ Vals dvs ds
section
variable {X : Cx} {dvs : List V} {e : Expr} {es : List Expr} {ta : TA} {p pos : Pos} {x : Str} {C : Addr} {k j : Nat} {sp : Sp}
theorem pe_mkv (M : MakE X.prog X.w X.K X.mg X.base k x C sp dvs) (hr : Room j X.A) (hk : k + 1 ≤ j) (hg : Gl X x) (ha : PA X (e :: es) ta)
    (hdb : (x == ("__debug__" : Str)) = false := by decide) (he : starEach (e :: es) X.env = (false, eval e X.env) :: starEach es X.env := by rfl) (hpl : (backTo pos (starEach es X.env)).any (·.1) = false := by rfl) :
    PE X (.Call (.Name x p) (e :: es) [] pos) (tMkV C sp dvs ta) := by
  obtain ⟨fI, fd, ps, ds, T, iC, tI, F1, hm, hb, hd⟩ := M.ex
  have hr := hr.mono hk
  have hx : Passes C8.CX0 X (fun _ _ _ => False) := C8.pass0
  refine ⟨fun pins s σ H Q I h => ?_⟩
  obtain ⟨nm, q, N, bs, bm, sn, sub, ab, col, dd, k0, k1, k2, k3, k5, hC, hbm⟩ := T.cls
  refine wpAny_Call_Name_kw (ld_glob I hg hm ?_ hdb)
  refine PySem.W.callWith_K (h₀ := X.base) I.ok.mod.kin T.kC (thn (ha.run pos pins s σ H _ I h) fun us s1 ⟨vs, H1, I1, r1, hz, q1⟩ => ⟨I1.kIn, ?_⟩) he hpl
  show wpAny _ _ (call (.ref C) us) _ _ _
  obtain ⟨hp, g, dr, tk, os⟩ := s1
  have hsz : hp.objs.size ≤ hp.objs.size + 1 := Nat.le_succ _
  have hn : H1 (hp.objs.size + 1) = none := I1.hok.fresh hsz
  have hq := q1 (hp.objs.size + 1) hn
  have kk : ∀ b o, hp.get? b = some o → ((hp.push (PySem.W.kdv_tup us)).push (PySem.HandSPX.excO C hp.objs.size)).get? b = some o := fun b o e => Heap.get?_push_of_some _ (Heap.get?_push_of_some _ e)
  have hget : ((hp.push (PySem.W.kdv_tup us)).push (PySem.HandSPX.excO C hp.objs.size)).get? (hp.objs.size + 1) = some (PySem.HandSPX.excO C hp.objs.size) := by heap_get
  have I2 : Inv X pins σ (upd H1 (hp.objs.size + 1) (exo (hp.objs.size + 1) C none)) ⟨(hp.push (PySem.W.kdv_tup us)).push (PySem.HandSPX.excO C hp.objs.size), g, dr, tk, os⟩ :=
    I1.laid (t' := tk) (a := hp.objs.size + 1) (o := exo (hp.objs.size + 1) C none) (h' := (hp.push (PySem.W.kdv_tup us)).push (PySem.HandSPX.excO C hp.objs.size)) kk hsz (L2.exo_ok hget)
  have r2 : Vals (V.ref (hp.objs.size + 1) :: (vs ++ dvs)) (Value.ref (hp.objs.size + 1) :: (us ++ ds)) := .cons rfl (r1.append hd)
  have hl : (Value.ref (hp.objs.size + 1) :: us ++ ds).length = ps.length := by
    have e := r2.length
    rw [F1.len _ _ _ _ hq] at e
    exact e.symm
  have hus : us.length ≤ sizeLine := by
    rw [← Paired.length r1, sizeLine_eq]
    omega
  refine wpAny_call (PySem.HandSPX.call_own F.excBase_ValueError (fun Y => PySem.HandSPX.refsVE_contains Y bm hbm) (I1.kIn _ _ hC) (PySem.W.looks_findIn I1.kIn iC) (fun self => PySem.W.bind_fn I1.kIn self tI) hus
    (codeAny_mono (F1.run _ X.stack _ _ ⟨Value.ref (hp.objs.size + 1) :: us, []⟩ (Value.ref (hp.objs.size + 1) :: (us ++ ds)) _ _ (fun _ _ _ => False) (hr.make C us []) (I2.env0.make C us []) (hb _ (Value.ref (hp.objs.size + 1) :: us) I2.kIn hl) r2 hq) fun r s' hq' => ?_))
  cases r with
  | error er => exact hx pins σ _ _ er s' I2 hq'
  | ok fl =>
    cases fl with
    | ret u =>
      obtain ⟨v, H', I3, rv, ev, q3⟩ := I2.after hq'
      subst ev
      exact ⟨rv, ⟨V.ref (hp.objs.size + 1), H', I3, rfl, q3⟩⟩
    | next => exact False.elim hq'
    | brk => exact False.elim hq'
    | cont => exact False.elim hq'
/-- C(), C without its own __init__ -/
theorem pe_mkv0 {bmB : List Value} {B newId initId : String} (F : ExcBaseFacts B newId initId bmB) (q : PySem.W.excIn X.K C bmB newId = true) (gC : X.mg x = some (.ref C)) (kC : PySem.W.keepIn X.K (.ref C) = true) (hg : Gl X x)
    (hdb : (x == ("__debug__" : Str)) = false := by decide) :
    PE X (.Call (.Name x p) [] [] pos) (fun σ H Q => ∀ a, H a = none → Q (.ref a) (upd H a (exo a C none))) := by
  refine ⟨fun pins s σ H Q I h => ?_⟩
  refine wpAny_Call_Name_kw (ld_glob I hg gC ?_ hdb)
  refine PySem.W.callWith_K0 I.kIn kC ?_
  obtain ⟨bm, N, nm, qn, bs, hdct, sn, sub, ab, col, dd, k0, k1, k2, k3, k5, mN, hC, hN, hni, T⟩ := exc_obj I.kIn q
  refine wpAny_call_exc_subT F T hC hN hni (fun h' a hm => ?_) (by show 0 ≤ sizeLine; exact Nat.zero_le _)
  have hn : H a = none := I.hok.gone hm.new
  obtain ⟨t, ht, _, _⟩ := hm.there
  exact ⟨.ref a, upd H a (exo a C none), I.laidN hm.keeps hm.new hn (L2.exo_ok ht), rfl, h a hn⟩
/-- e.f, e an error with its dict -/
def tXv (K : PySem.W.Frag) (f : Str) (te : TE) : TE := fun σ H Q => te σ H fun x H1 => ∃ (a C d : Addr) (fs : List (Str × V)) (v : V), x = .ref a ∧ XfC K C ∧ PySem.W.findIn K (.ref C) f = some none ∧ H1 a = some (exo a C (some d)) ∧ H1 d = some (exd d fs) ∧ fs.lookup f = some v ∧ Q v H1
theorem pe_xv {te : TE} {n : Str} (he : PE X e te) (hb : attributeBase e n X.env (eval e X.env) = eval e X.env := by rfl) : PE X (.Attribute e n pos) (tXv X.K n te) := by
  refine ⟨fun pins s σ H Q I h => ?_⟩
  refine attr_of hb (thn (he.run pins s σ H _ I h) fun u s1 hh => ?_)
  obtain ⟨x, H1, I1, rx, a, C, d, fs, v, ex, T, hno, ea, ed, l, q⟩ := hh
  subst ex
  obtain rfl : u = Value.ref a := rx
  obtain ⟨t1, ho⟩ := exo_at I1.hok ea
  obtain ⟨mA, hns, hr⟩ := exd_at I1.hok ed
  obtain ⟨od, hod, hl⟩ := lookIn_ns hns
  obtain ⟨u, hu, ru⟩ := RelO.some_of (v := v) (o := mA n) (by rw [← l]; exact hr n)
  have J : PySem.W.InstAt s1.heap a { cls := .ref C, dict := some d, data := .fields #[.ref t1, .none, .none, .none, .bool false, .none] } C (some od) := ⟨ho, rfl, rfl, hod⟩
  exact HandSPX.exc_get I1.kIn J T.ga T.gg T.exC (PySem.W.findObj_own T.hdC hno rfl (by rw [hl, hu])) (handed_of ru) ⟨v, H1, I1.tok _, ru, q⟩
/-- either of two readings of an operator -/
def rOr (r1 r2 : R2) : R2 := fun x y H Q => r1 x y H Q ∨ r2 x y H Q
theorem op_or {f : Value → Value → Sem Value} {r1 r2 : R2} (h1 : OpR X f r1) (h2 : OpR X f r2) : OpR X f (rOr r1 r2) := by
  intro pins s σ H x y v u Q I rx ry h
  rcases h with h | h
  · exact h1 pins s σ H x y v u Q I rx ry h
  · exact h2 pins s σ H x y v u Q I rx ry h
end
end Ev

namespace PySem.W
open PySem PySem.Spec PySem.Calls PyProof.Rows
section
variable {prog : Program} {w : World} {A : Around} {E : Value → Shared → Prop} {s : Shared} {K : Frag} {x D : Addr} {ox oD : Obj}
theorem kin_classD {Q : Option Value → Shared → Prop} (hga : findIn K (.ref D) "__getattribute__" = some (some (.builtin "BaseException.__getattribute__"))) (hgt : findIn K (.ref D) "__getattr__" = some none) (hsub : subIn K (.ref D) (.type "BaseException") = some true)
    (hdct : hasDictIn K D = true) (ha : findIn K (.ref D) "__class__" = some (some (.builtin "object.__class__")))
    (hn : specialIn K (.builtin "object.__class__") "__get__" = some (some (.builtin "getset_descriptor.__get__"))) (htk : takesIn K (.builtin "object.__class__") = some true) (hm : mroIn K D (.type "object") = some true)
    (X : K.In s.heap) (I : InstAt s.heap x ox D (some oD)) (h : Q (some (.ref D)) { s with toks := s.toks + 1 }) : wpAny (model prog w) A (getAttr? (.ref x) "__class__") Q E s := by
  have hf : findObj K D (some oD) "__class__" = some (.bind (.builtin "getset_descriptor.__get__") (.builtin "object.__class__")) := findObj_data (by obtain ⟨cd, hc, _⟩ := any_some hdct; rw [hc]; rfl) ha hn htk
  obtain ⟨hp, g, d, t, os⟩ := s
  have L0 := I.type (M := model prog w)
  have L1 := looks_findIn (M := model prog w) X hga
  have L2 := looks_findIn (M := model prog w) X hgt
  have L3 := looks_find (M := model prog w) X I hf
  have sub : Looks (model prog w) hp (isInstance (.ref x) (.type "BaseException")) true := L0.andThen (looks_subIn X hsub)
  have hx0 : (false && onTheHeap (Value.builtin "BaseException.__getattribute__")) = false := rfl
  have hx2 : (Value.builtin "BaseException.__getattribute__" == Value.builtin "object.__getattribute__") = false := by decide +kernel
  have hx1 : (onTheHeap (Value.ref D) && Value.builtin "BaseException.__getattribute__" == Value.builtin "object.__getattribute__") = false := by rw [hx2]; rfl
  unfold getAttr? getAttrBy? getAttrBy
  refine wpAny_bind (wpAny_mkText (wpAny_bind (wpAny_attempt (wpAny_holding (wpAny_bind (L0.at (wpAny_bind (L1.at ?_))))))))
  show wpAny _ _ (if (onTheHeap (Value.ref D) && Value.builtin "BaseException.__getattribute__" == Value.builtin "object.__getattribute__") = true then _ else _) _ _ _
  rw [hx1, if_neg Bool.false_ne_true]
  unfold getAttrByItsOwn hookBefore
  refine wpAny_bind ?_
  rw [if_pos (show onTheHeap (Value.ref D) = true from rfl)]
  refine L2.at ?_
  refine wpAny_bind (wpAny_attempt (wpAny_holding ?_))
  unfold callGetattribute
  rw [hx0, if_neg Bool.false_ne_true]
  unfold boundAndCalled
  rw [PySem.F.excAttr_ValueError.ga.bind (.ref x)]
  refine wpAny_bind (wpAny_pure ?_)
  show wpAny _ _ (call (.builtin "BaseException.__getattribute__") [.ref x, .str "__class__" t]) _ _ _
  refine wpAny_call (codeAny_call_builtin PySem.F.excAttr_ValueError.ga.plain PySem.F.entry_bexc_ga ?_)
  refine @check_slot (model prog w) _ _ ⟨hp, g, d, t + 1, os⟩ "BaseException.__getattribute__" "BaseException" "__getattribute__" (.ref x) [.str "__class__" t] [] _ (by decide +kernel) (by decide +kernel) sub (PySem.F.args_bexc_ga (.ref x) (.str "__class__" t)) ?_
  unfold Builtin.«object.__getattribute__»
  refine wpAny_bind (wpAny_of_eq (a := ((Value.ref x : Value), [Value.str "__class__" t])) (by first | rfl | (simp only [slotArgs]; rfl)) ?_)
  refine wpAny_bind (wpAny_pure (wpAny_bind (L0.at (wpAny_bind (L3.at ?_)))))
  show wpAny _ _ (holding [Value.builtin "object.__class__"] (call (.builtin "getset_descriptor.__get__") [.builtin "object.__class__", .ref x, .ref D]) >>= ret) _ _ _
  refine wpAny_bind (wpAny_holding (wpAny_call (class_get (s := ⟨hp, g, d, t + 1, os⟩) (ox := ox) (od := some oD) X I hm ?_)))
  refine wpAny_pure ?_
  show wpAny _ _ (handedOut (.ref D)) _ _ _
  rw [handedOut_of (v := .ref D) rfl]
  first
    | exact wpAny_pure (wpAny_pure h)
    | exact wpAny_pure h
    | exact wpAny_pure (wpAny_bind (wpAny_pure (wpAny_pure h)))
theorem kitx_excD (hga : findIn K (.ref D) "__getattribute__" = some (some (.builtin "BaseException.__getattribute__"))) (hgt : findIn K (.ref D) "__getattr__" = some none) (hsub : subIn K (.ref D) (.type "BaseException") = some true) (hdct : hasDictIn K D = true) (ha : findIn K (.ref D) "__class__" = some (some (.builtin "object.__class__")))
    (hn : specialIn K (.builtin "object.__class__") "__get__" = some (some (.builtin "getset_descriptor.__get__"))) (htk : takesIn K (.builtin "object.__class__") = some true) (hm : mroIn K D (.type "object") = some true) :
    KitX K (.ref x) (.ref D) (fun h => InstAt h x ox D (some oD)) where
  ty := fun _ _ _ I => I.type
  it := fun _ _ X _ => by
    obtain ⟨cdD, hcD, _⟩ := any_some hdct
    unfold clsIn at hcD
    split at hcD
    · rename_i c' d' cd' sl' ho
      intro A' Q' E' s' k q
      unfold isType loadHead
      exact wpAny_bind (wpAny_loadPart (k _ _ (X _ _ ho)) (wpAny_pure q))
    · cases hcD
  ne := fun h tp dd its n sl X htp => by
    obtain ⟨cdD, hcD, _⟩ := any_some hdct
    refine Bool.eq_false_iff.mpr fun q => ?_
    have e : D = tp := Value.ref.inj (beq_iff_eq.mp q)
    subst e
    unfold clsIn at hcD
    split at hcD
    · rename_i c' d' cd' sl' ho
      have z := (X _ _ ho).symm.trans htp
      cases z
    · cases hcD
  ca := fun X I k => kin_classD hga hgt hsub hdct ha hn htk hm X I k
end
end PySem.W

namespace Ev
open PySem PySem.Spec PyProof.Rows L2 Bx
/-- isinstance(e, c), e a made error of the class D -/
def rIsV (K : PySem.W.Frag) : List V → Hp → VK → Prop := fun xs H Q => ∃ (a D : Addr) (d : Option Addr) (c : V) (cv : Value) (b : Bool), xs = [.ref a, c] ∧ ExcC K D ∧ (∀ u, RelV c u → u = cv) ∧ H a = some (exo a D d) ∧ (∀ dd, d = some dd → ∃ fs, H dd = some (exd dd fs)) ∧
  PySem.W.kitOne K (.ref D) cv = some b ∧ Q (.bl b) H
theorem call_isV {X : Cx} : CallR X (.builtin "isinstance") (rIsV X.K) := by
  intro pins s σ H xs us Q I r h
  obtain ⟨a, D, d, c, cv, b, rfl, C, hcv, ea, hd, e, q⟩ := h
  cases r with
  | cons rx rr =>
    cases rr with
    | cons rt rr =>
      cases rr
      cases rx
      have ec := hcv _ rt
      subst ec
      obtain ⟨t1, ho⟩ := exo_at I.hok ea
      cases d with
      | none =>
        have J : PySem.W.InstAt s.heap a { cls := .ref D, dict := none, data := .fields #[.ref t1, .none, .none, .none, .bool false, .none] } D none := ⟨ho, rfl, rfl, trivial⟩
        exact PySem.W.kia_one (PySem.W.handS_kitx_exc C.hg C.hk C.hs C.hd C.ha C.hn C.ht C.hm) I.kIn J e (fun z => nomatch z) fun tk => ⟨.bl b, H, I.kept (t' := tk) fun _ _ z => z, rfl, q⟩
      | some dd =>
        obtain ⟨fs, ed⟩ := hd dd rfl
        obtain ⟨mA, hns, hr⟩ := exd_at I.hok ed
        obtain ⟨od, hod, hl⟩ := lookIn_ns hns
        have J : PySem.W.InstAt s.heap a { cls := .ref D, dict := some dd, data := .fields #[.ref t1, .none, .none, .none, .bool false, .none] } D (some od) := ⟨ho, rfl, rfl, hod⟩
        exact PySem.W.kia_one (PySem.W.kitx_excD C.hg C.hk C.hs C.hd C.ha C.hn C.ht C.hm) I.kIn J e (fun z => nomatch z) fun tk => ⟨.bl b, H, I.kept (t' := tk) fun _ _ z => z, rfl, q⟩
/-- something that nobody looks at -/
def blank : HO := .ext fun _ => True
/-- d[t] = v, d an empty dict, t a written tuple of texts: nothing of it is told but that d stays -/
theorem d_putW {X : Cx} {pins : List (Addr × Obj)} {σ : L2.St} {H : Hp} {s : Shared} {a b : Addr} {ks : List Key} {v : V} {u r : Value} {A : Around} {E : Value → Shared → Prop} {Q : Unit → Shared → Prop} (hu : A.units + 1 < cLine) (I : Inv X pins σ H s)
    (e : H a = some (.dT [])) (hb : SqT X.K H b (ks.map kV)) (ry : RelV (.ref b) u) (rv : RelV v r) (h : ∀ s', Inv X pins σ (upd H a blank) s' → Q () s') :
    wpAny (model X.prog X.w) A (setItem (.ref a) u r) Q E s := by
  cases (show u = Value.ref b from ry)
  obtain ⟨its, rt, ⟨o, h1, h2, n, h3⟩, _⟩ := I.tuple hb
  have hk : (tupleKind (mixKind X.prog X.w)).is s.heap ks b := ⟨o, its.toArray, n, h1, h2, h3, by simpa using items_are rt⟩
  obtain ⟨z, hd, xs, rel, dd⟩ := dt_of I.hok e
  have hz : xs.length ≤ sizeLine := by rw [← Paired.length rel]; exact z
  refine wpAny_setItem_heap (hsz := hz) (tupleKind_room_in1 hu) hk dd fun h' dd' hs => h _ ?_
  obtain ⟨q, es, ep, hq, h2, h3, h4, _, h5⟩ := dd'
  exact d_write I (by rw [e]; exact True.intro) hs ⟨q, hq⟩ ⟨True.intro, ⟨q, hq⟩, fun _ _ _ _ => True.intro⟩
def sPutW (K : PySem.W.Frag) (td ty tv : TE) : TS := fun D σ H => tv σ H fun v H1 => td σ H1 fun x H2 => ty σ H2 fun y H3 => ∃ (a b : Addr) (ks : List Key), x = .ref a ∧ y = .ref b ∧ H3 a = some (.dT []) ∧ SqT K H3 b (ks.map kV) ∧ D.nx σ (upd H3 a blank)
theorem ps_putW {X : Cx} {o i value : Expr} {td ty tv : TE} {pos pos' : Pos} (hu : X.A.units + 1 < cLine) (ho : PE X o td) (hi : PE X i ty) (hv : PE X value tv) (hs : swapsWith value (some (.Subscript o i pos')) pos.line X.env = pure false := by rfl) :
    PS X (.Assign [.Subscript o i pos'] value pos) (sPutW X.K td ty tv) := by
  refine ⟨fun pins s σ H D I h => ?_⟩
  refine wpAny_Assign_Subscript (thn (hv.run pins s σ H _ I h) fun r s1 ⟨v, H1, I1, rv, q1⟩ => thn (ho.run pins s1 σ H1 _ I1 q1) fun u s2 ⟨x, H2, I2, rx, q2⟩ => thn (hi.run pins s2 σ H2 _ I2 q2) fun iv s3 ⟨y, H3, I3, ry, a, b, ks, ex, ey, ea, hb, q3⟩ => ?_) hs
  subst ex ey
  obtain rfl : u = Value.ref a := rx
  exact d_putW hu I3 ea hb ry rv fun s4 I4 => ⟨σ, _, I4, q3⟩
mutual
theorem dp_same {K : PySem.W.Frag} {H H' : Hp} (e : Same H H') : ∀ {d : PyData} {v : V}, Dp K H v d → Dp K H' v d
  | _, _, .non => .non
  | _, _, .bl b => .bl b
  | _, _, .int i => .int i
  | _, _, .str x => .str x
  | _, _, .lst hs ha => .lst (by
      rcases hs with (h | ⟨o, h⟩) | h
      · exact .inl (.inl (e _ _ h))
      · exact .inl (.inr ⟨o, e _ _ h⟩)
      · exact .inr h) (dpAll_same e ha)
  | _, _, .tup hs ha => .tup (Same.seqT e hs) (dpAll_same e ha)
theorem dpAll_same {K : PySem.W.Frag} {H H' : Hp} (e : Same H H') : ∀ {ds : List PyData} {vs : List V}, DpAll K H vs ds → DpAll K H' vs ds
  | _, _, .nil => .nil
  | _, _, .cons h t => .cons (dp_same e h) (dpAll_same e t)
end
/-- a thing that is equal to itself: data, a dict of a flat value, an instance of the class at CP with such fields -/
inductive Own (K : PySem.W.Frag) (CP : Addr) (H : Hp) : V → Prop
  | dat {v : V} {d : PyData} : Dp K H v d → SeqAt.shaped d = true → PyData.eqv d d = true → Own K CP H v
  | dic {a : Addr} {k : Key} {v : V} : H a = some (.dK [(k, v)]) → flatB v = true → Own K CP H (.ref a)
  | prg {a dx p q : Addr} {fs : List (Str × V)} : H a = some (.ins CP dx (("inputs", .ref p) :: ("block", .ref q) :: fs)) → SqT K H p [.str "n"] → SqT K H q [] → Own K CP H (.ref a)
theorem Own.same {K : PySem.W.Frag} {CP : Addr} {H H' : Hp} {v : V} (e : Same H H') : Own K CP H v → Own K CP H' v
  | .dat h s q => .dat (dp_same e h) s q
  | .dic h f => .dic (e _ _ h) f
  | .prg h p q => .prg (e _ _ h) (Same.seqT e p) (Same.seqT e q)
/-- two programs that are the same object -/
def RPrg (K : PySem.W.Frag) (CP : Addr) : Addr → Addr → Hp → Prop := fun a b H => a = b ∧ ∃ (dx p q : Addr) (fs : List (Str × V)), H a = some (.ins CP dx (("inputs", .ref p) :: ("block", .ref q) :: fs)) ∧ SqT K H p [.str "n"] ∧ SqT K H q []
abbrev rSelf (K : PySem.W.Frag) (CP : Addr) : R2 := rOr (rEqD K) (rOr (rEqV K) (rEqG (DIns CP (RPrg K CP))))
theorem own_eq {K : PySem.W.Frag} {CP : Addr} {H : Hp} {v : V} {Q : VK} (h : Own K CP H v) (q : ∀ H', Same H H' → Q (.bl true) H') : rSelf K CP v v H Q := by
  have q0 : Q (.bl true) H := q H fun _ _ z => z
  cases h with
  | @dat v d hd hs he => exact .inl ⟨d, d, hd, hd, hs, hs, by rw [he]; exact q0⟩
  | @dic a k v ha hf => exact .inr (.inl ⟨1, by decide, .inr ⟨a, a, _, _, rfl, rfl, ha, ha, rfl, fun p hp => by
      simp only [List.mem_singleton] at hp
      subst hp
      exact ⟨v, by simp [valV], .inl ⟨rfl, hf⟩⟩⟩, q0⟩)
  | @prg a dx p r fs ha hp hr => exact .inr (.inr ⟨⟨a, a, dx, dx, _, _, rfl, rfl, ha, ha, rfl, dx, p, r, fs, ha, hp, hr⟩, q⟩)
end Ev

/-! enumerate(tuple) -/
namespace En
open PySem PySem.Spec PyProof.Rows L2
open AutoSeq1 (wpAny_loadPart')
theorem new_tuple (l : Addr) (items : Array Value) (n : Nat) (dct : Option Addr) (sl : Array (Option Value)) :
    Meets (Builtin.«enumerate.__new__» ⟨[.type "enumerate", .ref l], []⟩) (fun _ R s => s.heap.get? l = some { cls := .type "tuple", dict := dct, data := .seq items n, slots := sl } ∧
      R (.ok (.ret (.ref (s.heap.push { cls := .type "tuple_iterator", data := .fields #[.ref l, .int 0 0] }).objs.size)))
        { s with heap := (s.heap.push { cls := .type "tuple_iterator", data := .fields #[.ref l, .int 0 0] }).push { cls := .type "enumerate", data := .fields #[.none, .bool false, .ref s.heap.objs.size, rawInt 0, .none, .none] } }) :=
  .of_wp fun prog w A R s h => by
    obtain ⟨hp, g, d, tk, os⟩ := s; obtain ⟨hl, h⟩ := h
    have hsub := sub_enumerate
    have hL : Heap.IsTuple (Shared.heap ⟨hp, g, d, tk, os⟩) l items := ⟨_, hl, rfl, n, rfl⟩
    wp_walk using wpAny_loadPart' hl
    refine wpAny_stack_any fun st => wpAny_pure ?_
    split
    · rename_i c _ _ _ _ _
      cases (c == Value.type "enumerate")
      · wp_walk using wpAny_loadPart' hl, wpAny_pyIter_tuple hL
        exact ⟨_, rfl, h⟩
      · wp_walk using wpAny_loadPart' hl, wpAny_pyIter_tuple hL
        exact ⟨_, rfl, h⟩
    · wp_walk using wpAny_loadPart' hl, wpAny_pyIter_tuple hL
      exact ⟨_, rfl, h⟩
section
variable {prog : Program} {w : World} {A : Around} {E : Value → Shared → Prop} {s : Shared}
theorem call_tuple {l : Addr} {items : Array Value} {Q : Value → Shared → Prop} (hL : s.heap.IsTuple l items)
    (h : ∀ h', IsEnum h' (s.heap.objs.size + 1) s.heap.objs.size 0 .none → h'.IsTupleIter s.heap.objs.size l 0 → h'.objs.size = s.heap.objs.size + 2 →
      (∀ b o, s.heap.get? b = some o → h'.get? b = some o) → Q (.ref (s.heap.objs.size + 1)) { s with heap := h' }) :
    wpAny (model prog w) A (call (.type "enumerate") [.ref l]) Q E s := by
  obtain ⟨⟨c, dct, dt, sl⟩, hl, hc, n, hd⟩ := hL
  replace hc : c = .type "tuple" := hc
  replace hd : dt = .seq items n := hd
  subst hc hd
  refine callType_new F.called_enumerate (by decide) (F.typeCall_enumerate_1 _) (F.newCall_enumerate_1 _) (fun obj => F.args_object_init_2 obj _) F.entry_enumerate_new
    (new_tuple l items n dct sl) ⟨hl, ?_⟩
  have hz : (s.heap.push { cls := .type "tuple_iterator", data := .fields #[.ref l, .int 0 0] }).objs.size = s.heap.objs.size + 1 := Heap.size_push ..
  show _ ∧ _
  rw [hz]
  have he : IsEnum ((s.heap.push { cls := .type "tuple_iterator", data := .fields #[.ref l, .int 0 0] }).push
      { cls := .type "enumerate", data := .fields #[.none, .bool false, .ref s.heap.objs.size, rawInt 0, .none, .none] }) (s.heap.objs.size + 1) s.heap.objs.size 0 .none := by
    have := Heap.get?_push_size (s.heap.push { cls := .type "tuple_iterator", data := .fields #[.ref l, .int 0 0] })
      (o := { cls := .type "enumerate", data := .fields #[.none, .bool false, .ref s.heap.objs.size, rawInt 0, .none, .none] }) rfl
    rw [hz] at this; exact this
  refine ⟨⟨_, he, rfl⟩, h _ he ⟨_, Heap.get?_push_of_some _ (Heap.get?_push_size _ rfl), rfl, rfl⟩ (by rw [Heap.size_push, hz]) fun b o x => Heap.get?_push_of_some _ (Heap.get?_push_of_some _ x)⟩
end
theorem draws {prog : Program} {w : World} {A : Around} (hh : A.handled = none) (it l : Addr) (hne : l ≠ it) (items : Array Value) :
    Draws prog w A it [it, l] items.size (fun i v => items[i]? = some v) (fun i h => h.IsTupleIter it l i ∧ h.IsTuple l items) where
  live := fun _ _ st => let ⟨o, ho, _⟩ := st.1; ⟨o, ho⟩
  frame := fun _ _ _ st hk => ⟨st.1.at fun o e => hk it (by simp) o e, st.2.at fun o e => hk l (by simp) o e⟩
  item := fun i s Q E hi st hQ => wpAny_nextOf_tuple_item st.1 st.2 (x := items[i]) (by simp [hi]) fun h' hit' hs' => hQ _ h' s.toks (by simp [hi]) ⟨hit', st.2.extBut hs'.extBut hne⟩ hs'
  done := fun s Q E st hE => wpAny_nextOf_tuple_end hh st.1 st.2 (by simp) hE
/-- the tuple at a, each item in a new pair -/
def Itu (K : PySem.W.Frag) (a : Addr) : It :=
  ⟨fun i H => ∃ (xs : List V) (x : V), SqT K H a xs ∧ xs[i]? = some x, fun i H v H' => ∃ T x, v = .ref T ∧ H T = none ∧ H' = upd H T (.tup [.int (i : Nat), x]) ∧ ∀ xs, SqT K H a xs → xs[i]? = some x, fun i H => ∃ xs : List V, SqT K H a xs ∧ xs.length ≤ i⟩
theorem turn {P : Program} {w : World} {K : PySem.W.Frag} {elts : List Expr} {kk : Nat} {tpos : Pos} (a e it : Addr) :
    Turn P w K (.Tuple elts kk tpos) (Itu K a) [e, it] e (fun i h => (∃ old, IsEnum h e it ((i : Nat) : Int) old) ∧ h.IsTupleIter it a i ∧ e ≠ it) where
  mem := by simp
  obj := fun i h st b hb => by
    obtain ⟨⟨old, he⟩, ⟨o, ho, hc, hd⟩, _⟩ := st
    have e' : b = e ∨ b = it := by simpa using hb
    rcases e' with z | z
    · rw [z]; exact ⟨_, he, fun v q => nomatch q⟩
    · rw [z]; exact ⟨o, ho, fun v q => by rw [hd] at q; cases q⟩
  keep := fun i h h' st k => let ⟨⟨old, he⟩, hi, hne⟩ := st; ⟨⟨old, k e (by simp) _ he⟩, hi.at fun o q => k it (by simp) o q, hne⟩
  item := by
    intro X hP hw hK hc i pins s σ H E I hf st hg
    subst hP hw hK
    obtain ⟨⟨old, he⟩, hit, hne⟩ := st
    obtain ⟨xs, x, hq, hx⟩ := hg
    obtain ⟨its, rv, p, hz⟩ := I.tuple hq
    obtain ⟨u, hu, ru⟩ := rv.get hx
    have hel : e < s.heap.objs.size := Heap.lt_size he
    have hil : it < s.heap.objs.size := by obtain ⟨_, q, _⟩ := hit; exact Heap.lt_size q
    have pt : s.heap.IsTuple a its.toArray := p
    have nai : a ≠ it := fun z => by
      obtain ⟨o1, q1, c1, _⟩ := pt
      obtain ⟨o2, q2, c2, _⟩ := hit
      rw [z, q2] at q1
      cases q1
      rw [c2] at c1
      injection c1 with c1
      exact absurd c1 (by decide)
    have nea : e ≠ a := fun z => by
      obtain ⟨o1, q1, c1, _⟩ := pt
      rw [← z, he] at q1
      cases q1
      injection c1 with c1
      exact absurd c1 (by decide)
    have hi2 : i < its.toArray.size := by
      have := (List.getElem?_eq_some_iff.mp hu).1
      simpa using this
    refine wpAny_pyNext_enum_itemD (draws (A := X.A.in1) (I.ok.hd hc) it a nai its.toArray) he ⟨hit, pt⟩ hi2 hne (by simp [hne, nea]) fun u' h' tk hu' ho hst' hT hsz hk => ?_
    have eu : u' = u := by
      have : its.toArray[i]? = some u := by simpa using hu
      rw [this] at hu'
      exact (Option.some.inj hu').symm
    subst eu
    refine ⟨_, rfl, wpAny_letOwnedTupleGo_enum (s := { s with heap := h', toks := tk + 1 }) ho fun h'' he' sb => ?_⟩
    have hT2 : h''.get? s.heap.objs.size = some { cls := .type "tuple", data := .seq #[.int i tk, u'] } := (sb.2 _ (Nat.ne_of_gt hel)).trans hT
    have new : ObjOk X.prog X.w (upd H s.heap.objs.size (.tup [.int (i : Nat), x])) h'' s.heap.objs.size (.tup [.int (i : Nat), x]) :=
      ⟨by show 2 ≤ sizeLine; decide, [.int i tk, u'], .cons ⟨_, rfl⟩ (.cons ru .nil), ⟨_, hT2, rfl, _, rfl⟩⟩
    have I1 : Inv X pins σ (upd H s.heap.objs.size (.tup [.int (i : Nat), x])) { s with heap := h'', toks := tk + 1 } :=
      I.turnedNew (ch := [e, it]) (fun b ob hb q => (sb.2 b (fun z => hb (by simp [z]))).trans (hk b ob (fun z => hb (by simp [z])) (fun z => hb (by simp [z])) q)) hf (Nat.le_refl _) new
    refine ⟨.ref s.heap.objs.size, _, I1, rfl, ⟨_, x, rfl, I.hok.fresh (Nat.le_refl _), rfl, fun ys hy => by rw [I.tuple_inj hy hq]; exact hx⟩, ⟨⟨u', ?_⟩, hst'.1.at fun o q => (sb.2 it (Ne.symm hne)).trans q, hne⟩, fun b hb => ?_⟩
    · have e1 : ((i + 1 : Nat) : Int) = (i : Int) + 1 := by omega
      rw [e1]; exact he'
    · have hb' : b < s.heap.objs.size := by
        have e' : b = e ∨ b = it := by simpa using hb
        rcases e' with z | z
        · rw [z]; exact hel
        · rw [z]; exact hil
      rw [upd_ne (Nat.ne_of_lt hb')]
      exact (hf b hb).1
  done := by
    intro X hP hw hK hc i pins s σ H E I hf st hg
    subst hP hw hK
    obtain ⟨⟨old, he⟩, hit, hne⟩ := st
    obtain ⟨xs, hq, hx⟩ := hg
    obtain ⟨its, rv, p, hz⟩ := I.tuple hq
    obtain ⟨f0, f1, f2, f3, f4, f5⟩ := hf it (by simp)
    have hl := rv.length
    have pt : s.heap.IsTuple a its.toArray := p
    have hT : s.TypeIs (.ref e) "enumerate" := ⟨_, he, rfl⟩
    unfold pyNext
    refine wpAny_bind (wpAny_attempt (wpAny_callSpecial?_slot (name := Str.ofString "__next__") hT F.slot_enumerate_next
      (wpAny_call_entry F.slot_enumerate_next hT F.entry_enumerate_next ?_ (F.args_enumerate_next_1 _))))
    show wpAny _ _ (field (.ref e) 2 >>= _) _ _ _
    refine wpAny_bind (wpAny_field he rfl (x := .ref it) rfl (wpAny_bind (wpAny_nextOf_tuple_end (I.ok.hd hc) hit pt (by simp; omega) fun h' x he' hx' => ?_)))
    obtain ⟨o, ho, hco⟩ := hx'
    refine wpAny_bind (wpAny_isInstance (T := "StopIteration") (b := true) ⟨o, ho, hco⟩ isSubtype_stop ?_)
    exact wpAny_pure ⟨rfl, I.turned (t' := s.toks) (fun b o hb q => he' b o hb q) f0 f1 f3 f4 f5⟩
  self := fun A i s Q E st h => let ⟨⟨_, he⟩, _⟩ := st; wpAny_pyIter_enum he h
def iEnumT (K : PySem.W.Frag) (ta : TA) : TI := fun σ H R => ta σ H fun vs H1 => ∃ a xs, vs = [.ref a] ∧ SqT K H1 a xs ∧ R (Itu K a) H1
theorem pi_enumT {X : Cx} {e : Expr} {ta : TA} {p pos tpos : Pos} {elts : List Expr} {kk : Nat} (hg : Gl X "enumerate") (hm : X.mg "enumerate" = none) (ha : PA X [e] ta) (hs : starEach [e] X.env = [(false, eval e X.env)] := by rfl) :
    PI X (.Tuple elts kk tpos) (.Call (.Name "enumerate" p) [e] [] pos) (iEnumT X.K ta) := by
  refine ⟨fun pins s σ H R I h => ?_⟩
  refine Call_ (ld_blt I hg hm boot_enumerate (PyProof.Rows.callWith_type1 (thn (ha.run pos pins s σ H _ I h) fun us s1 ⟨vs, H1, I1, r1, q1⟩ => ?_) hs rfl))
  obtain ⟨a, xs, ex, hq, q⟩ := q1
  subst ex
  cases r1 with
  | cons r rr =>
    cases rr
    cases r
    obtain ⟨its, rv, p', hz⟩ := I1.tuple hq
    refine call_tuple (show s1.heap.IsTuple a its.toArray from p') fun h' he hit hsz hk => wpAny_pyIter_enum he ?_
    have I2 : Inv X pins σ H1 { s1 with heap := h' } := I1.kept (t' := s1.toks) hk
    refine ⟨s1.heap.objs.size + 1, [s1.heap.objs.size + 1, s1.heap.objs.size], _, _, H1, rfl, I2, turn a (s1.heap.objs.size + 1) s1.heap.objs.size, ⟨⟨.none, he⟩, hit, Nat.succ_ne_self _⟩, fun b hb => ?_, q⟩
    have e' : b = s1.heap.objs.size + 1 ∨ b = s1.heap.objs.size := by simpa using hb
    have hle : s1.heap.objs.size ≤ b := by
      rcases e' with z | z
      · rw [z]; exact Nat.le_add_right _ _
      · rw [z]; exact Nat.le_refl _
    exact I1.fpOk hle (I1.hok.fresh hle)
theorem for_enumT {K : PySem.W.Frag} {a : Addr} {xs : List V} {g : TG} {tb : TS} {D : Ends} {σ : L2.St} {H : Hp} (Pv : Nat → L2.St → Hp → Prop) (h0 : Pv 0 σ H) (hq : ∀ i σ H, Pv i σ H → SqT K H a xs)
    (hs : ∀ (i : Nat) (x : V) (T : Addr) (σ : L2.St) (H : Hp), xs[i]? = some x → Pv i σ H → H T = none → g (.ref T) σ (upd H T (.tup [.int (i : Nat), x])) fun σ2 H2 => tb { D with nx := Pv (i + 1), ct := Pv (i + 1), bk := D.nx } σ2 H2) (hd : ∀ σ H, Pv xs.length σ H → D.nx σ H) :
    ∃ W : Nat → Nat → L2.St → Hp → Prop, (∃ m, W 0 m σ H) ∧ ∀ i m σ H, W i m σ H →
      ((Itu K a).stop i H ∧ D.nx σ H) ∨ ((Itu K a).go i H ∧ ∃ N : L2.St → Hp → Prop, (∀ σ' H', N σ' H' → ∃ m', m' < m ∧ W (i + 1) m' σ' H') ∧ ∀ v H', (Itu K a).yld i H v H' → g v σ H' fun σ2 H2 => tb { D with nx := N, ct := N, bk := D.nx } σ2 H2) := by
  refine ⟨fun i m σ H => m = xs.length - i ∧ i ≤ xs.length ∧ Pv i σ H, ⟨xs.length, rfl, Nat.zero_le _, h0⟩, ?_⟩
  rintro i m σ H ⟨rfl, hi, p⟩
  have qx := hq i σ H p
  by_cases hlt : i < xs.length
  · have hx : xs[i]? = some xs[i] := List.getElem?_eq_getElem hlt
    refine .inr ⟨⟨xs, _, qx, hx⟩, Pv (i + 1), fun σ' H' p' => ⟨xs.length - (i + 1), by omega, rfl, hlt, p'⟩, fun v H' y => ?_⟩
    obtain ⟨T, x', rfl, hT, rfl, f1⟩ := y
    exact hs i x' T σ H (f1 xs qx) p hT
  · have e : i = xs.length := by omega
    subst e
    exact .inl ⟨⟨xs, qx, Nat.le_refl _⟩, hd σ H p⟩
end En

/-! a written dict with text keys: which keys it has -/
namespace Kd
open PySem L2 Bx
def strOf : Value → Option Str
  | .str x _ => some x
  | _ => none
def SD (K : PySem.W.Frag) (w : World) (d : Addr) (keys : List Str) : Prop := ∃ es n, KDict K w d es n ∧ es.toList.map (fun e => strOf e.key) = keys.map some
theorem key_str {v : Value} {x : Str} (h : strOf v = some x) : ∃ t, v = .str x t := by
  cases v with
  | str y t =>
    have e : y = x := Option.some.inj h
    rw [e]
    exact ⟨t, rfl⟩
  | _ => cases h
theorem isStr_eq (x z : Str) (t : Tok) : (Value.str x t).isStr z = decide (x = z) := by
  show (x == z) = decide (x = z)
  rw [Bool.eq_iff_iff, beq_iff_eq, decide_eq_true_eq]
theorem find_keys (z : Str) : ∀ {l : List DictEntry} {keys : List Str}, l.map (fun e => strOf e.key) = keys.map some → (l.find? (·.key.isStr z)).isSome = decide (z ∈ keys) ∧ l.any (·.refKey) = false
  | [], [], _ => ⟨by simp, rfl⟩
  | [], _ :: _, h => by cases h
  | _ :: _, [], h => by cases h
  | e :: l, k :: keys, h => by
    rw [List.map_cons, List.map_cons] at h
    injection h with h1 h2
    obtain ⟨t, ht⟩ := key_str h1
    obtain ⟨i1, i2⟩ := find_keys z h2
    have er : e.refKey = false := by
      unfold DictEntry.refKey
      rw [ht]
    refine ⟨?_, by rw [List.any_cons, er, i2]; rfl⟩
    have es : e.key.isStr z = decide (k = z) := by rw [ht]; exact isStr_eq k z t
    by_cases q : k = z
    · rw [List.find?_cons, es, decide_eq_true q]
      simp [q]
    · rw [List.find?_cons, es, decide_eq_false q]
      show (l.find? (·.key.isStr z)).isSome = _
      rw [i1, Bool.eq_iff_iff, decide_eq_true_eq, decide_eq_true_eq, List.mem_cons]
      exact ⟨fun h => .inr h, fun h => h.resolve_left fun e => q e.symm⟩
theorem SD.ns {K : PySem.W.Frag} {w : World} {d : Addr} {keys : List Str} (h : SD K w d keys) (z : Str) : ∃ r, PySem.W.nsIn K d z = some r ∧ r.isSome = decide (z ∈ keys) := by
  obtain ⟨es, n, D, hk⟩ := h
  obtain ⟨i1, i2⟩ := find_keys z hk
  unfold PySem.W.nsIn
  rw [D.at_]
  show ∃ r, (match es.toList.find? (·.key.isStr z) with | some e => some (some e.val) | none => if es.toList.any (·.refKey) then none else some none) = some r ∧ _
  cases q : es.toList.find? (·.key.isStr z) with
  | some e =>
    rw [q] at i1
    exact ⟨_, rfl, i1⟩
  | none =>
    rw [q] at i1
    rw [i2]
    exact ⟨none, rfl, i1⟩
section
variable {X : Cx}
def rNotInSD (d : Addr) (keys : List Str) : R2 := fun x y H Q => ∃ z : Str, x = .str z ∧ y = .ref d ∧ Q (.bl (!decide (z ∈ keys))) H
theorem op_notInSD {d : Addr} {keys : List Str} (h : SD X.K X.w d keys) : OpR X (compareOp .NotIn) (rNotInSD d keys) := by
  intro pins s σ H x y v u Q I rx ry q
  obtain ⟨z, rfl, rfl, q⟩ := q
  obtain ⟨r, e1, e2⟩ := h.ns z
  obtain ⟨es, n, D, _⟩ := h
  exact op_notIn_kd D pins s σ H _ _ v u Q I rx ry ⟨z, r, rfl, rfl, e1, by rw [e2]; exact q⟩
def rInSD (d : Addr) (keys : List Str) : R2 := fun x y H Q => ∃ z : Str, x = .str z ∧ y = .ref d ∧ Q (.bl (decide (z ∈ keys))) H
theorem op_inSD {d : Addr} {keys : List Str} (h : SD X.K X.w d keys) : OpR X (compareOp .In) (rInSD d keys) := by
  intro pins s σ H x y v u Q I rx ry q
  obtain ⟨z, rfl, rfl, q⟩ := q
  obtain ⟨r, e1, e2⟩ := h.ns z
  obtain ⟨es, n, D, _⟩ := h
  exact op_in_kd D pins s σ H _ _ v u Q I rx ry ⟨z, r, rfl, rfl, e1, by rw [e2]; exact q⟩
end
end Kd

/-! tuple(d) of a dict with keys of ints and texts -/
namespace Td
open PySem PySem.Spec PySem.W PySem.Calls PyProof.Rows
section
variable {prog : Program} {w : World} {A : Around} {E : Value → Shared → Prop} {s : Shared} {T : String} {r d : Addr} {n : Nat} {P : Nat → Value → Prop} {OK : Heap → Prop}
theorem kdl_collect {Q : List Value → Shared → Prop} (K : KdlSrc prog w T r d n P OK) (hh : A.handled = none) (hok : OK s.heap) (hn : n ≤ sizeLine)
    (hQ : ∀ (h' : Heap) (tk : Nat) (acc : Array Value), (∀ b o, s.heap.get? b = some o → h'.get? b = some o) → ItemsOf P acc n → Q acc.toList { s with heap := h', toks := tk }) :
    wpAny (model prog w) A (collect (.ref r)) Q E s := by
  unfold collect
  refine wpAny_bind (wpAny_runValue (codeAny_builtin F.entry_proto_collect ?_))
  rw [Around.under_plainId F.plain_proto_collect _]
  show wpAny _ A.in1 (newList [] >>= fun l => again (.builtin "list.__iadd__" ⟨[l, .ref r], []⟩)) _ _ s
  refine wpAny_bind (wpAny_newObj_type ?_)
  refine wpAny_pure ⟨plainId_quiet F.plain_list_iadd _, codeAny_builtin F.entry_list_iadd ?_⟩
  rw [Around.under_plainId F.plain_list_iadd _]
  show wpAny _ A.in1 (Builtin.List.listExtendWith (.ref s.heap.objs.size) (.ref r) (.ref s.heap.objs.size)) _ _ _
  have hS : (s.heap.push { cls := .type "list", data := .seq ([] : List Value).toArray }).get? s.heap.objs.size = some { cls := .type "list", data := .seq #[] 0 } := Heap.get?_push_size _ rfl
  have hlt := K.there _ hok
  refine wpAny_mono (kdl_extend (A := A) (R := fun x s' => x = .ok (.ret (.ref s.heap.objs.size)) ∧ ∃ h' tk acc c, s' = { s with heap := h', toks := tk } ∧ (∀ b o, s.heap.get? b = some o → h'.get? b = some o) ∧ h'.get? s.heap.objs.size = some { cls := .type "list", dict := none, data := .seq acc c, slots := #[] } ∧ ItemsOf P acc n) K hh
    (s := { s with heap := s.heap.push { cls := .type "list", data := .seq ([] : List Value).toArray } }) (K.keep _ _ hok fun b _ o e => Heap.get?_push_of_some _ e) _ (Nat.ne_of_gt hlt.1) (Nat.ne_of_gt hlt.2) _ 0 hS
    (fun h' tk acc' c' hk hS' hacc => ⟨rfl, h', tk, acc', c', rfl, fun b o e => hk b o (Nat.ne_of_lt (Heap.lt_size e)) (Heap.get?_push_of_some _ e), hS', hacc⟩) hn) (fun fin s' h => ?_) (fun e s' h => ?_)
  · have fin' : ∀ s' : Shared, (∃ h' tk acc c, s' = { s with heap := h', toks := tk } ∧ (∀ b o, s.heap.get? b = some o → h'.get? b = some o) ∧ h'.get? s.heap.objs.size = some { cls := .type "list", dict := none, data := .seq acc c, slots := #[] } ∧ ItemsOf P acc n) →
        wpAny (model prog w) A (match Value.ref s.heap.objs.size with
          | Value.ref a => do
            match (← load a).data with
              | Data.seq xs _ => pure xs.toList
              | _ => unsupported "internal:collect"
          | _ => unsupported "internal:collect") Q E s' := by
      rintro _ ⟨h', tk, acc, c, rfl, hk, hS', hacc⟩
      show wpAny _ A (load s.heap.objs.size >>= _) _ _ _
      refine wpAny_bind (wpAny_load hS' ?_)
      exact wpAny_pure (hQ h' tk acc hk hacc)
    cases fin with
    | done f =>
      obtain ⟨e, h⟩ := h
      cases e
      exact fin' _ h
    | again c' => exact ⟨h.1, codeAny_mono h.2 fun x s'' hx => by obtain ⟨rfl, h⟩ := hx; exact fin' _ h⟩
  · exact absurd h.1 (by simp)
theorem code_tuple_new {Q₁ : Value → Shared → Prop} (K : KdlSrc prog w T r d n P OK) (hn : n ≤ sizeLine) (hok : OK s.heap) (hh : A.handled = none) (hT : T ≠ "tuple")
    (hQ : ∀ (h' : Heap) (tk : Nat) (acc : Array Value), (∀ b o, s.heap.get? b = some o → h'.get? b = some o) → ItemsOf P acc n → Q₁ (.ref h'.objs.size) { s with heap := h'.push { cls := .type "tuple", data := .seq acc }, toks := tk }) :
    codeAny (model prog w) A (.call (.builtin "tuple.__new__") ⟨[.type "tuple", .ref r], []⟩) (wants Q₁ E) s := by
  refine codeAny_of_tree ?_
  show wpAny _ A.in1 (do checkBuiltinCall "tuple.__new__" ⟨[.type "tuple", .ref r], []⟩; again (.builtin "tuple.__new__" ⟨[.type "tuple", .ref r], []⟩)) _ _ s
  refine wpAny_bind (wpAny_of_eq (PySem.F.newCall_tuple_1 (.ref r)) (wpAny_pure ⟨plainId_quiet (by decide +kernel) _, codeAny_builtin PySem.F.entry_tuple_new ?_⟩))
  rw [Around.under_plainId (by decide +kernel) _]
  have hsub := sub_tuple_self
  have hinit := init_tuple_lookup
  have hmh := madeHere_tuple
  obtain ⟨hp, g, dd, tk, os⟩ := s
  have ht : Shared.TypeIs ⟨hp, g, dd, tk, os⟩ (.ref r) T := K.type ⟨hp, g, dd, tk, os⟩ hok
  have hcol : ∀ {Q : List Value → Shared → Prop} {E' : Value → Shared → Prop}, (∀ (h' : Heap) (tk' : Nat) (acc : Array Value), (∀ b o, hp.get? b = some o → h'.get? b = some o) → ItemsOf P acc n → Q acc.toList { heap := h', gens := g, drawn := dd, toks := tk', os := os }) → wpAny (model prog w) A.in1 (collect (.ref r)) Q E' ⟨hp, g, dd, tk, os⟩ :=
    fun h => kdl_collect (s := ⟨hp, g, dd, tk, os⟩) K hh hok hn h
  have hTb : (Value.type T == Value.type "tuple") = false := by simpa using hT
  wp_walk using wpAny_typeOf ht, hcol
  intro h' tk' acc hk hI
  show wpAny _ _ (Builtin.Tuple.tupleExact acc.toList.toArray >>= fun v => ret v) _ _ _
  unfold Builtin.Tuple.tupleExact
  refine wpAny_bind (wpAny_newObj_type ?_ (by show acc.toList.toArray.size ≤ sizeLine; simp; rw [hI.1]; exact hn))
  refine wpAny_pure ?_
  have e : acc.toList.toArray = acc := by simp
  show Q₁ (.ref h'.objs.size) { heap := h'.push { cls := .type "tuple", data := .seq acc.toList.toArray }, gens := g, drawn := dd, toks := tk', os := os }
  rw [e]
  exact hQ h' tk' acc hk hI
end
end Td
namespace L2
open PySem PySem.Spec PyProof.Rows
def rTupD : List V → Hp → VK → Prop := fun xs H Q => ∃ p kvs, xs = [.ref p] ∧ H p = some (.dK kvs) ∧ ∀ q, H q = none → Q (.ref q) (upd H q (.tup (kvs.map fun kv => kV kv.1)))
theorem call_tuple_dK {X : Cx} (hc : X.calm = true) : CallR X (.type "tuple") rTupD := by
  intro pins s σ H xs us Q I r h
  obtain ⟨p, kvs, e, hk, q⟩ := h
  subst e
  obtain ⟨u, eu, rx⟩ := vals1 r
  subst eu
  obtain rfl : u = Value.ref p := rx
  obtain ⟨z, lo, vs, rk, hd⟩ := (show ObjOk X.prog X.w H s.heap p (.dK kvs) from I.hok p _ hk)
  obtain ⟨ep, hat⟩ := hd.dictAt
  have hl : kvs.length = vs.length := Paired.length rk
  have ft := PySem.F.called_tuple
  refine PySem.callType_codes (Q₁ := fun obj s₁ => s₁.TypeIs obj "tuple" ∧ (EP X pins σ Q) obj s₁) ft (PySem.F.typeCall_tuple_1 _) PySem.F.entry_object_init
    (Td.code_tuple_new (PySem.W.kdl_dict (knd := mixKind X.prog X.w) (kvs := vs) (ep := ep) lo) (by rw [← hl]; exact z) hat (I.ok.hd hc) (by decide) fun h' tk acc hkeep hacc => ?_) fun obj s₁ hq => ?_
  · refine ⟨⟨_, Heap.get?_push_size _ rfl, rfl⟩, .ref h'.objs.size, upd H h'.objs.size (.tup (kvs.map fun kv => kV kv.1)), ?_, rfl, ?_⟩
    · have I1 : Inv X pins σ H { s with heap := h', toks := tk } := I.kept hkeep
      refine I1.laid (t' := tk) (fun b o e => Heap.get?_push_of_some _ e) (Nat.le_refl _) (show ObjOk X.prog X.w _ _ _ (.tup (kvs.map fun kv => kV kv.1)) from ⟨?_, acc.toList, ?_, ?_⟩)
      · rw [List.length_map]; exact z
      · have el : acc.toList.length = acc.size := by simp
        refine vals_of_at (by rw [List.length_map, el, hacc.1, hl]) fun j x w h1 h2 => ?_
        obtain ⟨k, y, hky, hi⟩ := hacc.2 j w (by rw [← Array.getElem?_toList]; exact h2)
        have e1 : (kvs.map (·.1))[j]? = some k := by
          rw [KV.keys rk, List.getElem?_map, hky] <;> rfl
        have e2 : (kvs.map fun kv => kV kv.1)[j]? = some (kV k) := by
          have e3 : (kvs.map fun kv => kV kv.1) = (kvs.map (·.1)).map kV := by rw [List.map_map] <;> rfl
          rw [e3, List.getElem?_map, e1] <;> rfl
        rw [e2] at h1
        cases h1
        exact keyIs_rel hi
      · have e : acc.toList.toArray = acc := by simp
        rw [e]
        exact IsTup.new _ _
    · have I1 : Inv X pins σ H { s with heap := h', toks := tk } := I.kept hkeep
      exact q _ (I1.hok.fresh (Nat.le_refl _))
  · obtain ⟨ht, hq⟩ := hq
    exact ⟨ht, PySem.F.args_object_init_2 obj _, (PySem.object_init_meets ft.init.lookup ft.made (by decide)) _ _ _ _ _ ⟨ht, rfl, hq⟩⟩
end L2

namespace K19
open PySem L2 Bx Ev
def top (i : Nat) : Stmt := PySem.Challenge.pw_behindexits_k19_errors_made.main.body.getD i (.Pass ⟨0, 0, 0, 0⟩)
abbrev s_NoLiterals_init : Stmt := inClass (top 2) 0
abbrev N_NoLiterals_init : List Str := ["self", "at"]
theorem sc_NoLiterals_init : FnScope N_NoLiterals_init ["self", "at"] (C8.fnScope s_NoLiterals_init) := ⟨rfl, rfl, rfl, by decide +kernel, rfl, by decide +kernel, by decide +kernel⟩
abbrev s_BadStates_init : Stmt := inClass (top 3) 0
abbrev N_BadStates_init : List Str := ["self", "why"]
theorem sc_BadStates_init : FnScope N_BadStates_init ["self", "why"] (C8.fnScope s_BadStates_init) := ⟨rfl, rfl, rfl, by decide +kernel, rfl, by decide +kernel, by decide +kernel⟩
abbrev s_NoName_init : Stmt := inClass (top 4) 0
abbrev N_NoName_init : List Str := ["self", "term"]
theorem sc_NoName_init : FnScope N_NoName_init ["self", "term"] (C8.fnScope s_NoName_init) := ⟨rfl, rfl, rfl, by decide +kernel, rfl, by decide +kernel, by decide +kernel⟩
abbrev s_BadProgram_init : Stmt := inClass (top 7) 0
abbrev N_BadProgram_init : List Str := ["self", "place", "why"]
theorem sc_BadProgram_init : FnScope N_BadProgram_init ["self", "place", "why"] (C8.fnScope s_BadProgram_init) := ⟨rfl, rfl, rfl, by decide +kernel, rfl, by decide +kernel, by decide +kernel⟩
abbrev s_NoPlace_init : Stmt := inClass (top 8) 0
abbrev N_NoPlace_init : List Str := ["self", "place"]
theorem sc_NoPlace_init : FnScope N_NoPlace_init ["self", "place"] (C8.fnScope s_NoPlace_init) := ⟨rfl, rfl, rfl, by decide +kernel, rfl, by decide +kernel, by decide +kernel⟩
abbrev s_NoAnswers_init : Stmt := inClass (top 10) 0
abbrev N_NoAnswers_init : List Str := ["self", "at"]
theorem sc_NoAnswers_init : FnScope N_NoAnswers_init ["self", "at"] (C8.fnScope s_NoAnswers_init) := ⟨rfl, rfl, rfl, by decide +kernel, rfl, by decide +kernel, by decide +kernel⟩
abbrev s_NoSteps_init : Stmt := inClass (top 11) 0
abbrev N_NoSteps_init : List Str := ["self", "steps"]
theorem sc_NoSteps_init : FnScope N_NoSteps_init ["self", "steps"] (C8.fnScope s_NoSteps_init) := ⟨rfl, rfl, rfl, by decide +kernel, rfl, by decide +kernel, by decide +kernel⟩
abbrev s_TooFew_init : Stmt := inClass (top 13) 0
abbrev N_TooFew_init : List Str := ["self", "many"]
theorem sc_TooFew_init : FnScope N_TooFew_init ["self", "many"] (C8.fnScope s_TooFew_init) := ⟨rfl, rfl, rfl, by decide +kernel, rfl, by decide +kernel, by decide +kernel⟩
abbrev s_NoWay_init : Stmt := inClass (top 15) 0
abbrev N_NoWay_init : List Str := ["self", "way"]
theorem sc_NoWay_init : FnScope N_NoWay_init ["self", "way"] (C8.fnScope s_NoWay_init) := ⟨rfl, rfl, rfl, by decide +kernel, rfl, by decide +kernel, by decide +kernel⟩
abbrev s_Never_init : Stmt := inClass (top 16) 0
abbrev N_Never_init : List Str := ["self", "way"]
theorem sc_Never_init : FnScope N_Never_init ["self", "way"] (C8.fnScope s_Never_init) := ⟨rfl, rfl, rfl, by decide +kernel, rfl, by decide +kernel, by decide +kernel⟩
abbrev s_TooMany_init : Stmt := inClass (top 19) 0
abbrev N_TooMany_init : List Str := ["self", "most"]
theorem sc_TooMany_init : FnScope N_TooMany_init ["self", "most"] (C8.fnScope s_TooMany_init) := ⟨rfl, rfl, rfl, by decide +kernel, rfl, by decide +kernel, by decide +kernel⟩
abbrev s_BadChoices_init : Stmt := inClass (top 20) 0
abbrev N_BadChoices_init : List Str := ["self", "at"]
theorem sc_BadChoices_init : FnScope N_BadChoices_init ["self", "at"] (C8.fnScope s_BadChoices_init) := ⟨rfl, rfl, rfl, by decide +kernel, rfl, by decide +kernel, by decide +kernel⟩
abbrev s_BadText_init : Stmt := inClass (top 21) 0
abbrev N_BadText_init : List Str := ["self", "row"]
theorem sc_BadText_init : FnScope N_BadText_init ["self", "row"] (C8.fnScope s_BadText_init) := ⟨rfl, rfl, rfl, by decide +kernel, rfl, by decide +kernel, by decide +kernel⟩
abbrev s_is_word : Stmt := top 35
abbrev N_is_word : List Str := ["thing"]
theorem sc_is_word : FnScope N_is_word ["thing"] (C8.fnScope s_is_word) := ⟨rfl, rfl, rfl, by decide +kernel, rfl, by decide +kernel, by decide +kernel⟩
abbrev s_is_name : Stmt := top 36
abbrev N_is_name : List Str := ["thing"]
theorem sc_is_name : FnScope N_is_name ["thing"] (C8.fnScope s_is_name) := ⟨rfl, rfl, rfl, by decide +kernel, rfl, by decide +kernel, by decide +kernel⟩
abbrev s_are_different : Stmt := top 37
abbrev N_are_different : List Str := ["things"]
theorem sc_are_different : FnScope N_are_different ["things"] (C8.fnScope s_are_different) := ⟨rfl, rfl, rfl, by decide +kernel, rfl, by decide +kernel, by decide +kernel⟩
abbrev s_are_names : Stmt := top 38
abbrev N_are_names : List Str := ["thing", "part"]
theorem sc_are_names : FnScope N_are_names ["thing"] (C8.fnScope s_are_names) := ⟨rfl, rfl, rfl, by decide +kernel, rfl, by decide +kernel, by decide +kernel⟩
abbrev s_Check_init : Stmt := inClass (top 56) 0
abbrev N_Check_init : List Str := ["self", "inputs", "block"]
theorem sc_Check_init : FnScope N_Check_init ["self", "inputs", "block"] (C8.fnScope s_Check_init) := ⟨rfl, rfl, rfl, by decide +kernel, rfl, by decide +kernel, by decide +kernel⟩
abbrev s_Check_block_flow : Stmt := inClass (top 56) 1
abbrev N_Check_block_flow : List Str := ["self", "block", "before", "known", "looped", "flow", "index", "statement", "place", "why", "past"]
theorem sc_Check_block_flow : FnScope N_Check_block_flow ["self", "block", "before", "known", "looped"] (C8.fnScope s_Check_block_flow) := ⟨rfl, rfl, rfl, by decide +kernel, rfl, by decide +kernel, by decide +kernel⟩
abbrev s_Program_init : Stmt := inClass (top 59) 0
abbrev N_Program_init : List Str := ["self", "inputs", "block", "check"]
theorem sc_Program_init : FnScope N_Program_init ["self", "inputs", "block"] (C8.fnScope s_Program_init) := ⟨rfl, rfl, rfl, by decide +kernel, rfl, by decide +kernel, by decide +kernel⟩
abbrev s_Program_eq : Stmt := inClass (top 59) 5
abbrev N_Program_eq : List Str := ["self", "other"]
theorem sc_Program_eq : FnScope N_Program_eq ["self", "other"] (C8.fnScope s_Program_eq) := ⟨rfl, rfl, rfl, by decide +kernel, rfl, by decide +kernel, by decide +kernel⟩
abbrev s_l_well : Stmt := top 61
abbrev N_l_well : List Str := ["_law_cell"]
theorem sc_l_well : FnScope N_l_well ["_law_cell"] (C8.fnScope s_l_well) := ⟨rfl, rfl, rfl, by decide +kernel, rfl, by decide +kernel, by decide +kernel⟩
abbrev s_l_draw : Stmt := top 62
abbrev N_l_draw : List Str := ["_law_well_here", "_law_base", "_law_digit", "_law_number"]
theorem sc_l_draw : FnScope N_l_draw ["_law_well_here", "_law_base"] (C8.fnScope s_l_draw) := ⟨rfl, rfl, rfl, by decide +kernel, rfl, by decide +kernel, by decide +kernel⟩
abbrev s_l_one : Stmt := top 63
abbrev N_l_one : List Str := ["_law_well_here", "_law_some"]
theorem sc_l_one : FnScope N_l_one ["_law_well_here", "_law_some"] (C8.fnScope s_l_one) := ⟨rfl, rfl, rfl, by decide +kernel, rfl, by decide +kernel, by decide +kernel⟩
abbrev s_l_kinds : Stmt := top 64
abbrev N_l_kinds : List Str := ["_law_e", "_law_some"]
theorem sc_l_kinds : FnScope N_l_kinds ["_law_e"] (C8.fnScope s_l_kinds) := ⟨rfl, rfl, rfl, by decide +kernel, rfl, by decide +kernel, by decide +kernel⟩
abbrev s_l_first : Stmt := top 65
abbrev N_l_first : List Str := ["_law_a", "_law_b", "_law_rows", "_law_e"]
theorem sc_l_first : FnScope N_l_first ["_law_a", "_law_b"] (C8.fnScope s_l_first) := ⟨rfl, rfl, rfl, by decide +kernel, rfl, by decide +kernel, by decide +kernel⟩
abbrev s_l_second : Stmt := top 66
abbrev N_l_second : List Str := ["_law_a", "_law_b", "_law_rows", "_law_e"]
theorem sc_l_second : FnScope N_l_second ["_law_a", "_law_b"] (C8.fnScope s_l_second) := ⟨rfl, rfl, rfl, by decide +kernel, rfl, by decide +kernel, by decide +kernel⟩
abbrev s_law : Stmt := top 67
abbrev N_law : List Str := ["_law_script", "_law_cell", "_law_well_here", "_law_number", "_law_program", "_law_some", "_law_a", "_law_b", "_law_rows", "_law_at", "_law_error", "_law_right", "_law_k"]
theorem sc_law : FnScope N_law ["_law_script"] (C8.fnScope s_law) := ⟨rfl, rfl, rfl, by decide +kernel, rfl, by decide +kernel, by decide +kernel⟩
def errN : Nat → Str
  | 0 => "BadChoices"
  | 1 => "BadProgram"
  | 2 => "BadStates"
  | 3 => "BadText"
  | 4 => "Ended"
  | 5 => "Never"
  | 6 => "NoAnswers"
  | 7 => "NoInputs"
  | 8 => "NoLiterals"
  | 9 => "NoName"
  | 10 => "NoPath"
  | 11 => "NoPlace"
  | 12 => "NoStates"
  | 13 => "NoSteps"
  | 14 => "NoValues"
  | 15 => "NoWay"
  | 16 => "TooFew"
  | 17 => "TooLong"
  | 18 => "TooMany"
  | 19 => "Unlike"
  | _ => ""
def barred : List Str := ["again", "always", "any", "as", "ask", "below", "catch", "choose", "else", "end", "error", "for", "from", "if", "inputs", "leave", "none", "or", "out", "raise", "read", "return", "set", "try", "value"]
/-- what the written part says of all the errors' classes -/
structure Txt (K : PySem.W.Frag) (mg : Str → Option Value) (C : Nat → Addr) (C_BehindError C_Program aE aB : Addr) : Prop where
  g : ∀ k, k < 20 → mg (errN k) = some (.ref (C k))
  g_BehindError : mg "BehindError" = some (.ref C_BehindError)
  g_Program : mg "Program" = some (.ref C_Program)
  exc : ∀ k, k < 20 → ExcC K (C k)
  kit : ∀ i j, i < 20 → j < 20 → PySem.W.kitOne K (.ref (C i)) (.ref (C j)) = some (decide (j = i))
  kitB : ∀ k, k < 20 → PySem.W.kitOne K (.ref (C k)) (.ref C_BehindError) = some true
  kitV : ∀ k, k < 20 → PySem.W.kitOne K (.ref (C k)) (.type "ValueError") = some true
  x0 : ∀ k, k ∈ [4, 7, 10, 12, 14, 17, 19] → PySem.W.excIn K (C k) [.type "ValueError", .type "Exception", .type "BaseException", .type "object"] "ValueError.__new__" = true
  k0 : ∀ k, k ∈ [4, 7, 10, 12, 14, 17, 19] → PySem.W.keepIn K (.ref (C k)) = true
  no : ∀ p ∈ ([(0, "at"), (1, "place"), (1, "why"), (2, "why"), (3, "row"), (5, "way"), (6, "at"), (8, "at"), (9, "term"), (11, "place"), (13, "steps"), (15, "way"), (16, "many"), (18, "most")] : List (Nat × Str)), PySem.W.findIn K (.ref (C p.1)) p.2 = some none
  oex : ∀ k, k ∈ [0, 1, 2, 3, 5, 6, 8, 9, 11, 13, 15, 16, 18] → OexC K (C k)
  c_LONGEST : ∃ u, mg "LONGEST" = some u ∧ RelV (.int 8) u
  c_BARRED : ∃ u, mg "BARRED" = some u ∧ RelV (.ref aB) u
  c_END : ∃ u, mg "END" = some u ∧ RelV (.ref aE) u
  sE : ∀ H, SqT K H aE [.str "end"]
  cP : Cls K C_Program
  nP : NoAttr K C_Program "inputs" ∧ NoAttr K C_Program "block" ∧ NoAttr K C_Program "flow" ∧ NoAttr K C_Program "known_before" ∧ NoAttr K C_Program "settings" ∧ NoAttr K C_Program "kept" 
  z_isinstance : mg "isinstance" = none
  z_len : mg "len" = none
  z_int : mg "int" = none
  z_str : mg "str" = none
  z_tuple : mg "tuple" = none
  z_set : mg "set" = none
  z_all : mg "all" = none
  z_range : mg "range" = none
  z_enumerate : mg "enumerate" = none
  z_ValueError : mg "ValueError" = none
end K19

namespace K19
open PySem L2 Bx Ev
section
variable {P : Program} {w : World} {K : PySem.W.Frag} {mg : Str → Option Value} {base : Heap} {C : Nat → Addr} {C_BehindError C_Program aE aB : Addr}
/-- is_word("n") -/
def spWord : Sp := fun vs H Q _ => vs = [.str "n"] ∧ ∀ H', Same H H' → Q (.bl true) H'
theorem ok_is_word {f : Addr} {fd : FuncData} (F : C8.Def K mg "is_word" s_is_word f fd) (b : Binds K fd ["thing"] []) (T : Txt K mg C C_BehindError C_Program aE aB) : C8.Cal P w K mg base 1 "is_word" spWord [] := by
  refine C8.cal0 F b .nil sc_is_word (fun vs H Q E h => ?_) (fun cdv A outer s H vs Q E hr h => ?_)
  · obtain ⟨rfl, _⟩ := h
    rfl
  · obtain ⟨rfl, k⟩ := h
    refine ⟨_, (pss_cons (ps_if (PW.pt (pw_or (pt_not (pt_val (pe_callB call_isi (by rfl) T.z_isinstance (by decide +kernel) (pa_cons (pv 0) (pa_cons (pe_bltn (v := .ty "str") (by rfl) T.z_str (by decide +kernel) rfl) pa_nil))))) (pw_or1 (pt_not (pt_chain op_le op_le pe_int (pe_callB call_len_str (by rfl) T.z_len (by decide +kernel) (pa_cons (pv 0) pa_nil)) (C8.pe_gc (by rfl) T.c_LONGEST)))))) (pss_one (ps_ret pe_bl)) pss_nil)
    (pss_one (ps_ret (pe_and (pe_bm0 PySem.F.plainAttrs_str PySem.F.slot_str_isascii PySem.F.type_str_isascii mt_isascii (pv 0)) (pe_and (pe_bm0 PySem.F.plainAttrs_str PySem.F.slot_str_isalpha PySem.F.type_str_isalpha mt_isalpha (pv 0)) (pe_one (pe_bm0 PySem.F.plainAttrs_str PySem.F.slot_str_islower PySem.F.type_str_islower mt_islower (pv 0)))))))), ?_⟩
    refine ⟨_, rfl, _, _, _, _, true, rfl, .ty _, .base (.str _), rfl, _, rfl, ?_⟩
    refine iteF ?_
    refine ⟨_, rfl, _, rfl, by decide +kernel, _, _, rfl, rfl, _, rfl, ?_⟩
    refine iteT ⟨_, _, rfl, rfl, _, rfl, ?_⟩
    refine iteF ?_
    have e1 : Txt.isascii "n" = true := by decide +kernel
    have e2 : Txt.isalpha "n" = true := by decide +kernel
    have e3 : Txt.islower "n" = true := by decide +kernel
    refine ⟨_, rfl, rfl, _, rfl, rfl, trivial, _, rfl, ?_⟩
    rw [e1]
    refine iteT ⟨_, rfl, rfl, _, rfl, rfl, trivial, _, rfl, ?_⟩
    rw [e2]
    refine iteT ⟨_, rfl, rfl, _, rfl, rfl, trivial, ?_⟩
    rw [e3]
    exact k H (Same.refl H)
/-- is_name("n") -/
theorem ok_is_name {f : Addr} {fd : FuncData} (F : C8.Def K mg "is_name" s_is_name f fd) (b : Binds K fd ["thing"] []) (T : Txt K mg C C_BehindError C_Program aE aB) (B : Kd.SD K w aB barred) (K_is_word : C8.Cal P w K mg base 1 "is_word" spWord []) : C8.Cal P w K mg base 2 "is_name" spWord [] := by
  refine C8.cal0 F b .nil sc_is_name (fun vs H Q E h => ?_) (fun cdv A outer s H vs Q E hr h => ?_)
  · obtain ⟨rfl, _⟩ := h
    rfl
  · obtain ⟨rfl, k⟩ := h
    refine ⟨_, (pss_one (ps_ret (pe_and (C8.pe_c K_is_word hr (by decide) (by rfl) (pa_cons (pv 0) pa_nil)) (pe_one (pe_cmpR (Kd.op_notInSD B) (pv 0) (C8.pe_gc (by rfl) T.c_BARRED) (by rfl)))))), ?_⟩
    refine ⟨_, rfl, rfl, fun H1 S1 => ?_⟩
    refine ⟨_, rfl, iteT ⟨_, rfl, _, rfl, rfl, ?_⟩⟩
    have e : (!decide (("n" : Str) ∈ barred)) = true := by decide +kernel
    rw [e]
    exact k H1 S1
/-- one name in a tuple -/
def spOneName (K : PySem.W.Frag) : Sp := fun vs H Q _ => ∃ p, vs = [.ref p] ∧ SqT K H p [.str "n"] ∧ ∀ H', Same H H' → Q (.bl true) H'
theorem ok_are_different {f : Addr} {fd : FuncData} (F : C8.Def K mg "are_different" s_are_different f fd) (b : Binds K fd ["things"] []) (T : Txt K mg C C_BehindError C_Program aE aB) : C8.Cal P w K mg base 1 "are_different" (spOneName K) [] := by
  refine C8.cal0 F b .nil sc_are_different (fun vs H Q E h => ?_) (fun cdv A outer s H vs Q E hr h => ?_)
  · obtain ⟨p, rfl, _⟩ := h
    rfl
  · obtain ⟨p, rfl, hp, k⟩ := h
    refine ⟨_, (pss_one (ps_ret (pe_cmpR op_eq (pe_lenSet rfl (by rfl) T.z_len (by rfl) T.z_set (pv 0)) (pe_callB call_len_seq (by rfl) T.z_len (by decide +kernel) (pa_cons (pv 0) pa_nil)) (nomark _)))), ?_⟩
    exact ⟨_, rfl, p, ["n"], rfl, .inr hp, by decide, _, rfl, p, _, rfl, .inr hp, rfl, k H fun _ _ z => z⟩
theorem ok_are_names {f : Addr} {fd : FuncData} (F : C8.Def K mg "are_names" s_are_names f fd) (b : Binds K fd ["thing"] []) (T : Txt K mg C C_BehindError C_Program aE aB) (K_is_name : C8.Cal P w K mg base 2 "is_name" spWord []) (K_are_different : C8.Cal P w K mg base 1 "are_different" (spOneName K) []) : C8.Cal P w K mg base 3 "are_names" (spOneName K) [] := by
  refine C8.cal0 F b .nil sc_are_names (fun vs H Q E h => ?_) (fun cdv A outer s H vs Q E hr h => ?_)
  · obtain ⟨p, rfl, _⟩ := h
    rfl
  · obtain ⟨p, rfl, hp, k⟩ := h
    refine ⟨_, (pss_one (ps_ret (pe_and (pe_callB call_isi (by rfl) T.z_isinstance (by decide +kernel) (pa_cons (pv 0) (pa_cons (pe_bltn (v := .ty "tuple") (by rfl) T.z_tuple (by decide +kernel) rfl) pa_nil))) (pe_and (pe_callB (cr_all rfl) (by rfl) T.z_all (by decide +kernel) (pa_cons (pe_lc (own := [("part", 1)]) (g := gName 1) (tt := tYes) rfl sc_are_names.nd (pi_tup (pv 0)) (blkOk_by (own := [("part", 1)]) (N := N_are_names) (sc := C8.fnScope s_are_names) (by decide +kernel)) (fun _ _ _ _ _ => (pg_name (i := 1) sc_are_names.nd rfl (Or.inl rfl))) (fun _ _ _ _ _ => pts_nil) (fun _ _ _ _ _ => (C8.pe_c K_is_name hr (by decide) (by rfl) (pa_cons (pv 1) pa_nil)))) pa_nil)) (pe_one (C8.pe_c K_are_different hr (by decide) (by rfl) (pa_cons (pv 0) pa_nil))))))), ?_⟩
    refine ⟨_, rfl, _, _, _, _, true, rfl, .ty _, tyT hp, rfl, _, rfl, ?_⟩
    refine iteT ?_
    refine ⟨_, rfl, p, rfl, ⟨_, hp⟩, fun D nD => lc_tup (xs := [V.str "n"]) (fun j H' => Same H H' ∧ H' D = some (.lst (List.replicate j (.bl true)))) ⟨Same.new nD, upd_same⟩ (fun i H' _ h => Same.seqT h.1 hp) ?_ ?_⟩
    · rintro i x H1 hx ⟨S1, h1⟩
      have i0 : i = 0 ∧ x = .str "n" := by
        cases i with
        | zero => exact ⟨rfl, (Option.some.inj hx).symm⟩
        | succ i => cases i <;> cases hx
      obtain ⟨rfl, rfl⟩ := i0
      refine ⟨rfl, ?_⟩
      refine ⟨_, rfl, rfl, fun H2 S2 => ⟨_, S2 _ _ h1, by decide, (Same.mut (Same.trans S1 S2) nD), ?_⟩⟩
      rw [upd_same]
      rfl
    · rintro H1 ⟨S1, h1⟩
      refine ⟨D, [true], rfl, SqL.of h1, _, rfl, iteT ?_⟩
      exact ⟨_, rfl, p, rfl, Same.seqT S1 hp, fun H' S => k H' (S1.trans S)⟩
end
end K19

namespace K19
open PySem L2 Bx Ev
theorem butI {K : PySem.W.Frag} {l C dx : Addr} {fs : List (Str × V)} {H H' : Hp} {ys : List V} {a : Addr} (hl : H l = some (.ins C dx fs)) (e : But l H H') (h : SqT K H a ys) : SqT K H' a ys := by
  rcases h with (h | ⟨o, h⟩) | h
  · exact .inl (.inl (e _ _ h fun z => by rw [z, hl] at h; cases h))
  · exact .inl (.inr ⟨o, e _ _ h fun z => by rw [z, hl] at h; cases h⟩)
  · exact .inr h
section
variable {P : Program} {w : World} {K : PySem.W.Frag} {mg : Str → Option Value} {base : Heap} {C : Nat → Addr} {C_BehindError C_Program aE aB CK : Addr}
/-- what the written part says of Check -/
structure ChkC (K : PySem.W.Frag) (CK : Addr) : Prop where
  cl : Cls K CK
  n1 : NoAttr K CK "inputs"
  n2 : NoAttr K CK "block"
  n3 : NoAttr K CK "settings"
  n4 : NoAttr K CK "known"
  n5 : NoAttr K CK "flow"
def spBF (K : PySem.W.Frag) : Sp := fun vs H Q _ => ∃ (x q b p : Addr), vs = [.ref x, .ref q, .ref b, .ref p, .bl false] ∧ SqT K H q [] ∧ ∀ H' r, Same H H' → Q r H'
theorem ok_block_flow {f : Addr} {fd : FuncData} (me : Meth K CK "block_flow" f) (F : C8.Fun K "block_flow" "Check.block_flow" s_Check_block_flow f fd) (b : Binds K fd ["self", "block", "before", "known", "looped"] []) (TC : ChkC K CK) (T : Txt K mg C C_BehindError C_Program aE aB) :
    C8.Met P w K mg base 1 CK "block_flow" (spBF K) [] := by
  refine C8.met0 TC.cl me F b sc_Check_block_flow (fun vs H Q E h => ?_) (fun cdv A outer s H vs Q E hr h => ?_)
  · obtain ⟨x, q, b, p, rfl, _⟩ := h
    rfl
  · obtain ⟨x, q, b, p, rfl, hq, k⟩ := h
    have hu : (A.deeper (PyProof.Rows.envOfC "Check.block_flow" (C8.fnScope s_Check_block_flow) s.heap.objs.size f cdv)).units + 1 < cLine := by
      have := hr.units
      omega
    refine ⟨_, (pss_cons (ps_set (i := 5) sc_Check_block_flow.nd rfl (Or.inl rfl) pe_dnewT)
    (pss_cons (ps_for PassesOwn.never rfl (En.pi_enumT (by rfl) T.z_enumerate (pa_cons (pv 1) pa_nil)) (pg_tup (by rfl) (pgs_cons (pg_name (i := 6) sc_Check_block_flow.nd rfl (Or.inl rfl)) (pgs_cons (pg_name (i := 7) sc_Check_block_flow.nd rfl (Or.inl rfl)) pgs_nil))) pss_never)
    (pss_cons (ps_if (pt_cmpR op_notN (pv 3) pe_non (nomark _)) (pss_one (Ev.ps_putW hu (pv 5) (C8.pe_gc (by rfl) T.c_END) (pv 3))) pss_nil)
    (pss_one (ps_ret (pv 5)))))), ?_⟩
    intro d nd
    have S1 := Same.new (o := HO.dT []) nd
    have h1 : upd H d (.dT []) d = some (.dT []) := upd_same
    refine ⟨_, rfl, q, [], rfl, Same.seqT S1 hq, En.for_enumT (xs := []) (fun i σ H' => σ = [some (.ref x), some (.ref q), some (.ref b), some (.ref p), some (.bl false), some (.ref d), none, none, none, none, none] ∧ H' = upd H d (.dT [])) ⟨rfl, rfl⟩ (fun i σ H' h => ?_) ?_ ?_⟩
    · obtain ⟨_, rfl⟩ := h
      exact Same.seqT S1 hq
    · intro i y q σ H' hx _ _
      cases hx
    · rintro σ H' ⟨rfl, rfl⟩
      refine ⟨_, rfl, rfl, _, rfl, ?_⟩
      have e : (!decide (V.ref p = V.non)) = true := by rw [decide_eq_false (fun z => by cases z)]; rfl
      rw [e]
      refine iteT ?_
      refine ⟨_, rfl, _, rfl, d, aE, [.inr "end"], rfl, rfl, h1, T.sE _, ?_⟩
      exact ⟨_, rfl, k _ _ (Same.mut S1 nd)⟩
def chkF (p q d e : Addr) (r : V) : List (Str × V) := putF "flow" r (putF "known" (.ref e) (putF "settings" (.ref d) (putF "block" (.ref q) (putF "inputs" (.ref p) []))))
def spChkI (K : PySem.W.Frag) (CK : Addr) : Sp := fun vs H Q _ => ∃ (x p q dx : Addr), vs = [.ref x, .ref p, .ref q] ∧ H x = some (.ins CK dx []) ∧ SqT K H p [.str "n"] ∧ SqT K H q [] ∧ ∀ H' d e r, But x H H' → H' x = some (.ins CK dx (chkF p q d e r)) → H' d = some (.dK []) → d ≠ x → Q .non H'
theorem ok_Check {fI : Addr} {fd : FuncData} (M : Mk K CK fI) (hm : mg "Check" = some (.ref CK)) (F : C8.Fun K "__init__" "Check.__init__" s_Check_init fI fd) (b : Binds K fd ["self", "inputs", "block"] []) (T : Txt K mg C C_BehindError C_Program aE aB) (TC : ChkC K CK)
    (K_are_names : C8.Cal P w K mg base 3 "are_names" (spOneName K) []) (K_block_flow : C8.Met P w K mg base 1 CK "block_flow" (spBF K) []) : C8.Mak P w K mg base 4 "Check" CK (spChkI K CK) [] := by
  refine C8.mak0 M hm F b .nil sc_Check_init (fun vs H Q E h => ?_) (fun cdv A outer s H vs Q E hr h => ?_)
  · obtain ⟨x, p, q, dx, rfl, _⟩ := h
    rfl
  · obtain ⟨x, p, q, dx, rfl, hx0, hp, hq, k⟩ := h
    refine ⟨_, (pss_cons (ps_if (pt_not (pt_val (C8.pe_c K_are_names hr (by decide) (by rfl) (pa_cons (pv 1) pa_nil)))) (pss_one ps_never) pss_nil)
    (pss_cons (ps_if (pt_not (pt_val (pe_callB call_isi (by rfl) T.z_isinstance (by decide +kernel) (pa_cons (pv 2) (pa_cons (pe_bltn (v := .ty "tuple") (by rfl) T.z_tuple (by decide +kernel) rfl) pa_nil))))) (pss_one ps_never) pss_nil)
    (pss_cons (ps_fld (pv 0) (pv 1) rfl)
    (pss_cons (ps_fld (pv 0) (pv 2) rfl)
    (pss_cons (ps_fld (pv 0) pe_dnewK rfl)
    (pss_cons (ps_fld (pv 0) pe_dnewK rfl)
    (pss_one (ps_fld (pv 0) (C8.pe_mt K_block_flow hr (by decide) (pv 0) (pa_cons (pv 2) (pa_cons (pe_tup pa_nil) (pa_cons (pv 1) (pa_cons pe_bl pa_nil))))) rfl)))))))), ?_⟩
    refine ⟨_, rfl, p, rfl, hp, fun H0 S0 => ⟨_, rfl, iteF ?_⟩⟩
    refine ⟨_, rfl, _, _, _, _, true, rfl, .ty _, tyT (Same.seqT S0 hq), rfl, _, rfl, iteF ?_⟩
    have hx := S0 _ _ hx0
    have hq0 := Same.seqT S0 hq
    refine ⟨_, rfl, _, rfl, x, CK, dx, _, rfl, hx, TC.cl, TC.n1, by decide, ?_⟩
    refine ⟨_, rfl, _, rfl, x, CK, dx, _, rfl, upd_same, TC.cl, TC.n2, (show (1 : Nat) < 1000 by decide), ?_⟩
    rw [upd_upd]
    have B1 : But x H (upd H0 x (.ins CK dx (putF "block" (.ref q) (putF "inputs" (.ref p) [])))) := (But.of S0).trans But.upd
    have h1 : upd H0 x (.ins CK dx (putF "block" (.ref q) (putF "inputs" (.ref p) []))) x = some (.ins CK dx (putF "block" (.ref q) (putF "inputs" (.ref p) []))) := upd_same
    generalize upd H0 x (.ins CK dx (putF "block" (.ref q) (putF "inputs" (.ref p) []))) = H1 at *
    intro d nd
    have ndx : d ≠ x := fun z => by rw [z, h1] at nd; cases nd
    have S2 := Same.new (o := HO.dK []) nd
    refine ⟨_, rfl, x, CK, dx, _, rfl, S2 _ _ h1, TC.cl, TC.n3, (show (2 : Nat) < 1000 by decide), ?_⟩
    have B2 : But x H (upd (upd H1 d (.dK [])) x (.ins CK dx (putF "settings" (.ref d) (putF "block" (.ref q) (putF "inputs" (.ref p) []))))) := (B1.trans (But.of S2)).trans But.upd
    have hd2 : upd (upd H1 d (.dK [])) x (.ins CK dx (putF "settings" (.ref d) (putF "block" (.ref q) (putF "inputs" (.ref p) [])))) d = some (.dK []) := by rw [upd_ne ndx, upd_same]
    generalize hH2 : upd (upd H1 d (.dK [])) x (.ins CK dx (putF "settings" (.ref d) (putF "block" (.ref q) (putF "inputs" (.ref p) [])))) = H2 at *
    have h2 : H2 x = some (.ins CK dx (putF "settings" (.ref d) (putF "block" (.ref q) (putF "inputs" (.ref p) [])))) := by rw [← hH2]; exact upd_same
    intro e ne
    have nex : e ≠ x := fun z => by rw [z, h2] at ne; cases ne
    have S3 := Same.new (o := HO.dK []) ne
    refine ⟨_, rfl, x, CK, dx, _, rfl, S3 _ _ h2, TC.cl, TC.n4, (show (3 : Nat) < 1000 by decide), ?_⟩
    have h3 : upd (upd H2 e (.dK [])) x (.ins CK dx (putF "known" (.ref e) (putF "settings" (.ref d) (putF "block" (.ref q) (putF "inputs" (.ref p) []))))) x = some (.ins CK dx (putF "known" (.ref e) (putF "settings" (.ref d) (putF "block" (.ref q) (putF "inputs" (.ref p) []))))) := upd_same
    have hd3 : upd (upd H2 e (.dK [])) x (.ins CK dx (putF "known" (.ref e) (putF "settings" (.ref d) (putF "block" (.ref q) (putF "inputs" (.ref p) []))))) d = some (.dK []) := by rw [upd_ne ndx]; exact S3 _ _ hd2
    have B3 : But x H (upd (upd H2 e (.dK [])) x (.ins CK dx (putF "known" (.ref e) (putF "settings" (.ref d) (putF "block" (.ref q) (putF "inputs" (.ref p) [])))))) := (B2.trans (But.of S3)).trans But.upd
    generalize upd (upd H2 e (.dK [])) x (.ins CK dx (putF "known" (.ref e) (putF "settings" (.ref d) (putF "block" (.ref q) (putF "inputs" (.ref p) []))))) = H3 at *
    have hq3 := butI hx0 B3 hq
    refine ⟨_, rfl, x, dx, _, rfl, h3, (by rfl), _, rfl, by decide, fun t nt => ⟨_, rfl, x, q, t, p, rfl, Same.seqT (Same.new nt) hq3, fun H4 r S4 => ?_⟩⟩
    have S34 := (Same.new nt).trans S4
    refine ⟨_, rfl, x, CK, dx, _, rfl, S34 _ _ h3, TC.cl, TC.n5, (show (4 : Nat) < 1000 by decide), ?_⟩
    exact k _ d e r ((B3.trans (But.of S34)).trans But.upd) upd_same (by rw [upd_ne ndx]; exact S34 _ _ hd3) ndx
/-- Program.__init__ of a program of one input and no statement -/
def spPI (K : PySem.W.Frag) (CP : Addr) : Sp := fun vs H Q _ => ∃ (x dx p q : Addr), vs = [.ref x, .ref p, .ref q] ∧ H x = some (.ins CP dx []) ∧ SqT K H p [.str "n"] ∧ SqT K H q [] ∧ ∀ H' fs, But x H H' → H' x = some (.ins CP dx ((("inputs", V.ref p) :: ("block", V.ref q) :: fs : List (Str × V)))) → Q .non H'
theorem ok_Program {fI : Addr} {fd : FuncData} (M : Mk K C_Program fI) (F : C8.Fun K "__init__" "Program.__init__" s_Program_init fI fd) (b : Binds K fd ["self", "inputs", "block"] []) (T : Txt K mg C C_BehindError C_Program aE aB) (TC : ChkC K CK)
    (K_Check : C8.Mak P w K mg base 4 "Check" CK (spChkI K CK) []) : C8.Mak P w K mg base 6 "Program" C_Program (spPI K C_Program) [] := by
  refine C8.mak0 M T.g_Program F b .nil sc_Program_init (fun vs H Q E h => ?_) (fun cdv A outer s H vs Q E hr h => ?_)
  · obtain ⟨x, dx, p, q, rfl, _⟩ := h
    rfl
  · obtain ⟨x, dx, p, q, rfl, hx, hp, hq, k⟩ := h
    refine ⟨_, (pss_cons (ps_set (i := 3) sc_Program_init.nd rfl (Or.inl rfl) (C8.pe_mk K_Check hr (by decide) (by rfl) (pa_cons (pv 1) (pa_cons (pv 2) pa_nil))))
    (pss_cons (ps_fld (pv 0) (pv 1) rfl)
    (pss_cons (ps_fld (pv 0) (pv 2) rfl)
    (pss_cons (ps_fld (pv 0) (pe_fld (pv 3) rfl) rfl)
    (pss_cons (ps_fld (pv 0) (pe_fld (pv 3) rfl) rfl)
    (pss_cons (ps_fld (pv 0) (pe_callTy (call_tuple_dK rfl) (by rfl) T.z_tuple (by decide +kernel) (pa_cons (pe_fld (pv 3) rfl) pa_nil)) rfl)
    (pss_one (ps_fld (pv 0) pe_dnewK rfl)))))))), ?_⟩
    refine ⟨_, rfl, _, rfl, fun y dy ny ndy hne => ?_⟩
    have S2 : Same H (upd (upd H dy (.own y)) y (.ins CK dy [])) := Same.mut (Same.new ndy) ny
    refine ⟨y, p, q, dy, rfl, upd_same, Same.seqT S2 hp, Same.seqT S2 hq, fun H3 d e r B3 h3 hd nd => ⟨rfl, ?_⟩⟩
    have S3 : Same H H3 := fun c o e => B3 c o (S2 c o e) (fun z => by rw [z, ny] at e; cases e)
    have hx3 := S3 _ _ hx
    have nyx : y ≠ x := fun z => by rw [z, hx] at ny; cases ny
    have ndx : d ≠ x := fun z => by rw [z, hx3] at hd; cases hd
    have keep : ∀ {o : HO} {H' : Hp}, H' y = some (.ins CK dy (chkF p q d e r)) → upd H' x o y = some (.ins CK dy (chkF p q d e r)) := fun h => by rw [upd_ne nyx]; exact h
    have keepD : ∀ {o : HO} {H' : Hp}, H' d = some (.dK []) → upd H' x o d = some (.dK []) := fun h => by rw [upd_ne ndx]; exact h
    refine ⟨_, rfl, _, rfl, x, C_Program, dx, _, rfl, hx3, T.cP, T.nP.1, by decide, ?_⟩
    refine ⟨_, rfl, _, rfl, x, C_Program, dx, _, rfl, upd_same, T.cP, T.nP.2.1, (show (1 : Nat) < 1000 by decide), ?_⟩
    refine ⟨_, rfl, y, CK, dy, _, _, rfl, keep (keep h3), TC.cl, TC.n5, rfl, _, rfl, x, C_Program, dx, _, rfl, upd_same, T.cP, T.nP.2.2.1, (show (2 : Nat) < 1000 by decide), ?_⟩
    refine ⟨_, rfl, y, CK, dy, _, _, rfl, keep (keep (keep h3)), TC.cl, TC.n4, rfl, _, rfl, x, C_Program, dx, _, rfl, upd_same, T.cP, T.nP.2.2.2.1, (show (3 : Nat) < 1000 by decide), ?_⟩
    refine ⟨_, rfl, y, CK, dy, _, _, rfl, keep (keep (keep (keep h3))), TC.cl, TC.n3, rfl, d, _, rfl, keepD (keepD (keepD (keepD hd))), fun t nt => ?_⟩
    have St := Same.new (o := HO.tup ([] : List V)) nt
    refine ⟨_, rfl, x, C_Program, dx, _, rfl, St _ _ upd_same, T.cP, T.nP.2.2.2.2.1, (show (4 : Nat) < 1000 by decide), ?_⟩
    intro u nu
    have Su := Same.new (o := HO.dK []) nu
    refine ⟨_, rfl, x, C_Program, dx, _, rfl, Su _ _ upd_same, T.cP, T.nP.2.2.2.2.2, (show (5 : Nat) < 1000 by decide), ?_⟩
    refine k _ [("flow", r), ("known_before", V.ref e), ("settings", V.ref t), ("kept", V.ref u)] ?_ upd_same
    exact ((((((((But.of S3).trans But.upd).trans But.upd).trans But.upd).trans But.upd).trans (But.of St)).trans But.upd).trans (But.of Su)).trans But.upd
theorem ok_Program_eq {f : Addr} {fd : FuncData} (F : C8.Fun K "__eq__" "Program.__eq__" s_Program_eq f fd) (T : Txt K mg C C_BehindError C_Program aE aB) (IP : C8.InsC K C_Program) : FnOk P w K mg base C8.CX0 1 f fd ["self", "other"] (spEq (RPrg K C_Program)) := by
  refine C8.fn0 F sc_Program_eq (fun vs H Q E h => ?_) (fun cdv A outer s H vs Q E hr h => ?_)
  · obtain ⟨a, b, rfl, _⟩ := h
    rfl
  · obtain ⟨a, b, rfl, ⟨rfl, dx, p, q, fs, ha, hp, hq⟩, k⟩ := h
    refine ⟨_, (pss_one (ps_ret (pe_and (pe_callB (C8.call_isC IP) (by rfl) T.z_isinstance (by decide +kernel) (pa_cons (pv 1) (pa_cons (pe_glob (v := .ref C_Program) (by rfl) T.g_Program rfl) pa_nil))) (pe_and (pe_cmpR (op_eqD hr.units) (pe_fld (pv 0) rfl) (pe_fld (pv 1) rfl) (nomark _)) (pe_one (pe_cmpR (op_eqD hr.units) (pe_fld (pv 0) rfl) (pe_fld (pv 1) rfl) (nomark _))))))), ?_⟩
    have dp : Dp K H (.ref p) (.tuple [.str "n"]) := .tup hp (.cons (.str _) .nil)
    have dq : Dp K H (.ref q) (.tuple []) := .tup hq .nil
    refine ⟨_, rfl, a, dx, _, rfl, ha, _, rfl, iteT ?_⟩
    refine ⟨_, rfl, a, _, dx, _, _, rfl, ha, T.cP, T.nP.1, rfl, _, rfl, a, _, dx, _, _, rfl, ha, T.cP, T.nP.1, rfl, ?_⟩
    refine ⟨_, _, dp, dp, by decide +kernel, by decide +kernel, _, rfl, ?_⟩
    have e1 : PyData.eqv (.tuple [.str "n"]) (.tuple [.str "n"]) = true := by decide +kernel
    rw [e1]
    refine iteT ?_
    refine ⟨_, rfl, a, _, dx, _, _, rfl, ha, T.cP, T.nP.2.1, rfl, _, rfl, a, _, dx, _, _, rfl, ha, T.cP, T.nP.2.1, rfl, ?_⟩
    refine ⟨_, _, dq, dq, by decide +kernel, by decide +kernel, ?_⟩
    have e2 : PyData.eqv (.tuple []) (.tuple []) = true := by decide +kernel
    rw [e2]
    exact k H fun _ _ z => z
end
end K19

namespace K19
open PySem L2 Bx Ev
section
variable {P : Program} {w : World} {K : PySem.W.Frag} {mg : Str → Option Value} {base : Heap} {C : Nat → Addr} {C_BehindError C_Program aE aB CK : Addr}
/-- __init__ of an error of one thing, of two -/
def spI1 (C : Addr) (f : Str) : Sp := fun vs H Q _ => ∃ (a : Addr) (y : V), vs = [.ref a, y] ∧ H a = some (exo a C none) ∧ ∀ H' d, But a H H' → H d = none → d ≠ a → H' a = some (exo a C (some d)) → H' d = some (exd d [(f, y)]) → Q .non H'
def spI2 (C : Addr) (f g : Str) : Sp := fun vs H Q _ => ∃ (a : Addr) (y z : V), vs = [.ref a, y, z] ∧ H a = some (exo a C none) ∧ ∀ H' d, But a H H' → H d = none → d ≠ a → H' a = some (exo a C (some d)) → H' d = some (exd d [(g, z), (f, y)]) → Q .non H'
theorem but_made {H : Hp} {a d : Addr} {o u : HO} (nd : H d = none) : But a H (upd (upd H d o) a u) := fun b v e ne => by
  rw [upd_ne ne, upd_ne (ne_of_none e nd)]
  exact e
theorem mk_BadChoices {fI : Addr} {fd : FuncData} (F : C8.Fun K "__init__" "BadChoices.__init__" s_BadChoices_init fI fd) (b : Binds K fd ["self", "at"] []) (T : Txt K mg C C_BehindError C_Program aE aB) (iC : PySem.W.findIn K (.ref (C 0)) "__init__" = some (some (.ref fI))) (tI : PySem.W.typeIn K (.ref fI) = some (.type "function")) :
    MakE P w K mg base 1 "BadChoices" (C 0) (spI1 (C 0) "at") [] := by
  refine ⟨fI, fd, _, [], T.oex 0 (by decide), iC, tI, C8.fn0 F sc_BadChoices_init (fun vs H Q E h => ?_) (fun cdv A outer s H vs Q E hr h => ?_), T.g 0 (by decide), b, .nil⟩
  · obtain ⟨a, y, rfl, _⟩ := h
    rfl
  · obtain ⟨a, y, rfl, ha, k⟩ := h
    refine ⟨_, (pss_one (ps_ost (pv 0) (pv 1))), ?_⟩
    exact ⟨_, rfl, _, rfl, a, C 0, rfl, T.oex 0 (by decide), T.no (0, "at") (by decide +kernel), .inl ⟨ha, fun dx nd ne => k _ dx (but_made nd) nd ne upd_same (by rw [upd_ne ne, upd_same])⟩⟩
theorem mk_BadStates {fI : Addr} {fd : FuncData} (F : C8.Fun K "__init__" "BadStates.__init__" s_BadStates_init fI fd) (b : Binds K fd ["self", "why"] []) (T : Txt K mg C C_BehindError C_Program aE aB) (iC : PySem.W.findIn K (.ref (C 2)) "__init__" = some (some (.ref fI))) (tI : PySem.W.typeIn K (.ref fI) = some (.type "function")) :
    MakE P w K mg base 1 "BadStates" (C 2) (spI1 (C 2) "why") [] := by
  refine ⟨fI, fd, _, [], T.oex 2 (by decide), iC, tI, C8.fn0 F sc_BadStates_init (fun vs H Q E h => ?_) (fun cdv A outer s H vs Q E hr h => ?_), T.g 2 (by decide), b, .nil⟩
  · obtain ⟨a, y, rfl, _⟩ := h
    rfl
  · obtain ⟨a, y, rfl, ha, k⟩ := h
    refine ⟨_, (pss_one (ps_ost (pv 0) (pv 1))), ?_⟩
    exact ⟨_, rfl, _, rfl, a, C 2, rfl, T.oex 2 (by decide), T.no (2, "why") (by decide +kernel), .inl ⟨ha, fun dx nd ne => k _ dx (but_made nd) nd ne upd_same (by rw [upd_ne ne, upd_same])⟩⟩
theorem mk_BadText {fI : Addr} {fd : FuncData} (F : C8.Fun K "__init__" "BadText.__init__" s_BadText_init fI fd) (b : Binds K fd ["self", "row"] []) (T : Txt K mg C C_BehindError C_Program aE aB) (iC : PySem.W.findIn K (.ref (C 3)) "__init__" = some (some (.ref fI))) (tI : PySem.W.typeIn K (.ref fI) = some (.type "function")) :
    MakE P w K mg base 1 "BadText" (C 3) (spI1 (C 3) "row") [] := by
  refine ⟨fI, fd, _, [], T.oex 3 (by decide), iC, tI, C8.fn0 F sc_BadText_init (fun vs H Q E h => ?_) (fun cdv A outer s H vs Q E hr h => ?_), T.g 3 (by decide), b, .nil⟩
  · obtain ⟨a, y, rfl, _⟩ := h
    rfl
  · obtain ⟨a, y, rfl, ha, k⟩ := h
    refine ⟨_, (pss_one (ps_ost (pv 0) (pv 1))), ?_⟩
    exact ⟨_, rfl, _, rfl, a, C 3, rfl, T.oex 3 (by decide), T.no (3, "row") (by decide +kernel), .inl ⟨ha, fun dx nd ne => k _ dx (but_made nd) nd ne upd_same (by rw [upd_ne ne, upd_same])⟩⟩
theorem mk_Never {fI : Addr} {fd : FuncData} (F : C8.Fun K "__init__" "Never.__init__" s_Never_init fI fd) (b : Binds K fd ["self", "way"] []) (T : Txt K mg C C_BehindError C_Program aE aB) (iC : PySem.W.findIn K (.ref (C 5)) "__init__" = some (some (.ref fI))) (tI : PySem.W.typeIn K (.ref fI) = some (.type "function")) :
    MakE P w K mg base 1 "Never" (C 5) (spI1 (C 5) "way") [] := by
  refine ⟨fI, fd, _, [], T.oex 5 (by decide), iC, tI, C8.fn0 F sc_Never_init (fun vs H Q E h => ?_) (fun cdv A outer s H vs Q E hr h => ?_), T.g 5 (by decide), b, .nil⟩
  · obtain ⟨a, y, rfl, _⟩ := h
    rfl
  · obtain ⟨a, y, rfl, ha, k⟩ := h
    refine ⟨_, (pss_one (ps_ost (pv 0) (pv 1))), ?_⟩
    exact ⟨_, rfl, _, rfl, a, C 5, rfl, T.oex 5 (by decide), T.no (5, "way") (by decide +kernel), .inl ⟨ha, fun dx nd ne => k _ dx (but_made nd) nd ne upd_same (by rw [upd_ne ne, upd_same])⟩⟩
theorem mk_NoAnswers {fI : Addr} {fd : FuncData} (F : C8.Fun K "__init__" "NoAnswers.__init__" s_NoAnswers_init fI fd) (b : Binds K fd ["self", "at"] []) (T : Txt K mg C C_BehindError C_Program aE aB) (iC : PySem.W.findIn K (.ref (C 6)) "__init__" = some (some (.ref fI))) (tI : PySem.W.typeIn K (.ref fI) = some (.type "function")) :
    MakE P w K mg base 1 "NoAnswers" (C 6) (spI1 (C 6) "at") [] := by
  refine ⟨fI, fd, _, [], T.oex 6 (by decide), iC, tI, C8.fn0 F sc_NoAnswers_init (fun vs H Q E h => ?_) (fun cdv A outer s H vs Q E hr h => ?_), T.g 6 (by decide), b, .nil⟩
  · obtain ⟨a, y, rfl, _⟩ := h
    rfl
  · obtain ⟨a, y, rfl, ha, k⟩ := h
    refine ⟨_, (pss_one (ps_ost (pv 0) (pv 1))), ?_⟩
    exact ⟨_, rfl, _, rfl, a, C 6, rfl, T.oex 6 (by decide), T.no (6, "at") (by decide +kernel), .inl ⟨ha, fun dx nd ne => k _ dx (but_made nd) nd ne upd_same (by rw [upd_ne ne, upd_same])⟩⟩
theorem mk_NoLiterals {fI : Addr} {fd : FuncData} (F : C8.Fun K "__init__" "NoLiterals.__init__" s_NoLiterals_init fI fd) (b : Binds K fd ["self", "at"] []) (T : Txt K mg C C_BehindError C_Program aE aB) (iC : PySem.W.findIn K (.ref (C 8)) "__init__" = some (some (.ref fI))) (tI : PySem.W.typeIn K (.ref fI) = some (.type "function")) :
    MakE P w K mg base 1 "NoLiterals" (C 8) (spI1 (C 8) "at") [] := by
  refine ⟨fI, fd, _, [], T.oex 8 (by decide), iC, tI, C8.fn0 F sc_NoLiterals_init (fun vs H Q E h => ?_) (fun cdv A outer s H vs Q E hr h => ?_), T.g 8 (by decide), b, .nil⟩
  · obtain ⟨a, y, rfl, _⟩ := h
    rfl
  · obtain ⟨a, y, rfl, ha, k⟩ := h
    refine ⟨_, (pss_one (ps_ost (pv 0) (pv 1))), ?_⟩
    exact ⟨_, rfl, _, rfl, a, C 8, rfl, T.oex 8 (by decide), T.no (8, "at") (by decide +kernel), .inl ⟨ha, fun dx nd ne => k _ dx (but_made nd) nd ne upd_same (by rw [upd_ne ne, upd_same])⟩⟩
theorem mk_NoName {fI : Addr} {fd : FuncData} (F : C8.Fun K "__init__" "NoName.__init__" s_NoName_init fI fd) (b : Binds K fd ["self", "term"] []) (T : Txt K mg C C_BehindError C_Program aE aB) (iC : PySem.W.findIn K (.ref (C 9)) "__init__" = some (some (.ref fI))) (tI : PySem.W.typeIn K (.ref fI) = some (.type "function")) :
    MakE P w K mg base 1 "NoName" (C 9) (spI1 (C 9) "term") [] := by
  refine ⟨fI, fd, _, [], T.oex 9 (by decide), iC, tI, C8.fn0 F sc_NoName_init (fun vs H Q E h => ?_) (fun cdv A outer s H vs Q E hr h => ?_), T.g 9 (by decide), b, .nil⟩
  · obtain ⟨a, y, rfl, _⟩ := h
    rfl
  · obtain ⟨a, y, rfl, ha, k⟩ := h
    refine ⟨_, (pss_one (ps_ost (pv 0) (pv 1))), ?_⟩
    exact ⟨_, rfl, _, rfl, a, C 9, rfl, T.oex 9 (by decide), T.no (9, "term") (by decide +kernel), .inl ⟨ha, fun dx nd ne => k _ dx (but_made nd) nd ne upd_same (by rw [upd_ne ne, upd_same])⟩⟩
theorem mk_NoPlace {fI : Addr} {fd : FuncData} (F : C8.Fun K "__init__" "NoPlace.__init__" s_NoPlace_init fI fd) (b : Binds K fd ["self", "place"] []) (T : Txt K mg C C_BehindError C_Program aE aB) (iC : PySem.W.findIn K (.ref (C 11)) "__init__" = some (some (.ref fI))) (tI : PySem.W.typeIn K (.ref fI) = some (.type "function")) :
    MakE P w K mg base 1 "NoPlace" (C 11) (spI1 (C 11) "place") [] := by
  refine ⟨fI, fd, _, [], T.oex 11 (by decide), iC, tI, C8.fn0 F sc_NoPlace_init (fun vs H Q E h => ?_) (fun cdv A outer s H vs Q E hr h => ?_), T.g 11 (by decide), b, .nil⟩
  · obtain ⟨a, y, rfl, _⟩ := h
    rfl
  · obtain ⟨a, y, rfl, ha, k⟩ := h
    refine ⟨_, (pss_one (ps_ost (pv 0) (pv 1))), ?_⟩
    exact ⟨_, rfl, _, rfl, a, C 11, rfl, T.oex 11 (by decide), T.no (11, "place") (by decide +kernel), .inl ⟨ha, fun dx nd ne => k _ dx (but_made nd) nd ne upd_same (by rw [upd_ne ne, upd_same])⟩⟩
theorem mk_NoSteps {fI : Addr} {fd : FuncData} (F : C8.Fun K "__init__" "NoSteps.__init__" s_NoSteps_init fI fd) (b : Binds K fd ["self", "steps"] []) (T : Txt K mg C C_BehindError C_Program aE aB) (iC : PySem.W.findIn K (.ref (C 13)) "__init__" = some (some (.ref fI))) (tI : PySem.W.typeIn K (.ref fI) = some (.type "function")) :
    MakE P w K mg base 1 "NoSteps" (C 13) (spI1 (C 13) "steps") [] := by
  refine ⟨fI, fd, _, [], T.oex 13 (by decide), iC, tI, C8.fn0 F sc_NoSteps_init (fun vs H Q E h => ?_) (fun cdv A outer s H vs Q E hr h => ?_), T.g 13 (by decide), b, .nil⟩
  · obtain ⟨a, y, rfl, _⟩ := h
    rfl
  · obtain ⟨a, y, rfl, ha, k⟩ := h
    refine ⟨_, (pss_one (ps_ost (pv 0) (pv 1))), ?_⟩
    exact ⟨_, rfl, _, rfl, a, C 13, rfl, T.oex 13 (by decide), T.no (13, "steps") (by decide +kernel), .inl ⟨ha, fun dx nd ne => k _ dx (but_made nd) nd ne upd_same (by rw [upd_ne ne, upd_same])⟩⟩
theorem mk_NoWay {fI : Addr} {fd : FuncData} (F : C8.Fun K "__init__" "NoWay.__init__" s_NoWay_init fI fd) (b : Binds K fd ["self", "way"] []) (T : Txt K mg C C_BehindError C_Program aE aB) (iC : PySem.W.findIn K (.ref (C 15)) "__init__" = some (some (.ref fI))) (tI : PySem.W.typeIn K (.ref fI) = some (.type "function")) :
    MakE P w K mg base 1 "NoWay" (C 15) (spI1 (C 15) "way") [] := by
  refine ⟨fI, fd, _, [], T.oex 15 (by decide), iC, tI, C8.fn0 F sc_NoWay_init (fun vs H Q E h => ?_) (fun cdv A outer s H vs Q E hr h => ?_), T.g 15 (by decide), b, .nil⟩
  · obtain ⟨a, y, rfl, _⟩ := h
    rfl
  · obtain ⟨a, y, rfl, ha, k⟩ := h
    refine ⟨_, (pss_one (ps_ost (pv 0) (pv 1))), ?_⟩
    exact ⟨_, rfl, _, rfl, a, C 15, rfl, T.oex 15 (by decide), T.no (15, "way") (by decide +kernel), .inl ⟨ha, fun dx nd ne => k _ dx (but_made nd) nd ne upd_same (by rw [upd_ne ne, upd_same])⟩⟩
theorem mk_TooFew {fI : Addr} {fd : FuncData} (F : C8.Fun K "__init__" "TooFew.__init__" s_TooFew_init fI fd) (b : Binds K fd ["self", "many"] []) (T : Txt K mg C C_BehindError C_Program aE aB) (iC : PySem.W.findIn K (.ref (C 16)) "__init__" = some (some (.ref fI))) (tI : PySem.W.typeIn K (.ref fI) = some (.type "function")) :
    MakE P w K mg base 1 "TooFew" (C 16) (spI1 (C 16) "many") [] := by
  refine ⟨fI, fd, _, [], T.oex 16 (by decide), iC, tI, C8.fn0 F sc_TooFew_init (fun vs H Q E h => ?_) (fun cdv A outer s H vs Q E hr h => ?_), T.g 16 (by decide), b, .nil⟩
  · obtain ⟨a, y, rfl, _⟩ := h
    rfl
  · obtain ⟨a, y, rfl, ha, k⟩ := h
    refine ⟨_, (pss_one (ps_ost (pv 0) (pv 1))), ?_⟩
    exact ⟨_, rfl, _, rfl, a, C 16, rfl, T.oex 16 (by decide), T.no (16, "many") (by decide +kernel), .inl ⟨ha, fun dx nd ne => k _ dx (but_made nd) nd ne upd_same (by rw [upd_ne ne, upd_same])⟩⟩
theorem mk_TooMany {fI : Addr} {fd : FuncData} (F : C8.Fun K "__init__" "TooMany.__init__" s_TooMany_init fI fd) (b : Binds K fd ["self", "most"] []) (T : Txt K mg C C_BehindError C_Program aE aB) (iC : PySem.W.findIn K (.ref (C 18)) "__init__" = some (some (.ref fI))) (tI : PySem.W.typeIn K (.ref fI) = some (.type "function")) :
    MakE P w K mg base 1 "TooMany" (C 18) (spI1 (C 18) "most") [] := by
  refine ⟨fI, fd, _, [], T.oex 18 (by decide), iC, tI, C8.fn0 F sc_TooMany_init (fun vs H Q E h => ?_) (fun cdv A outer s H vs Q E hr h => ?_), T.g 18 (by decide), b, .nil⟩
  · obtain ⟨a, y, rfl, _⟩ := h
    rfl
  · obtain ⟨a, y, rfl, ha, k⟩ := h
    refine ⟨_, (pss_one (ps_ost (pv 0) (pv 1))), ?_⟩
    exact ⟨_, rfl, _, rfl, a, C 18, rfl, T.oex 18 (by decide), T.no (18, "most") (by decide +kernel), .inl ⟨ha, fun dx nd ne => k _ dx (but_made nd) nd ne upd_same (by rw [upd_ne ne, upd_same])⟩⟩
theorem mk_BadProgram {fI : Addr} {fd : FuncData} (F : C8.Fun K "__init__" "BadProgram.__init__" s_BadProgram_init fI fd) (b : Binds K fd ["self", "place", "why"] []) (T : Txt K mg C C_BehindError C_Program aE aB) (iC : PySem.W.findIn K (.ref (C 1)) "__init__" = some (some (.ref fI))) (tI : PySem.W.typeIn K (.ref fI) = some (.type "function")) :
    MakE P w K mg base 1 "BadProgram" (C 1) (spI2 (C 1) "place" "why") [] := by
  refine ⟨fI, fd, _, [], T.oex 1 (by decide), iC, tI, C8.fn0 F sc_BadProgram_init (fun vs H Q E h => ?_) (fun cdv A outer s H vs Q E hr h => ?_), T.g 1 (by decide), b, .nil⟩
  · obtain ⟨a, y, z, rfl, _⟩ := h
    rfl
  · obtain ⟨a, y, z, rfl, ha, k⟩ := h
    refine ⟨_, (pss_cons (ps_ost (pv 0) (pv 1)) (pss_one (ps_ost (pv 0) (pv 2)))), ?_⟩
    refine ⟨_, rfl, _, rfl, a, C 1, rfl, T.oex 1 (by decide), T.no (1, "place") (by decide +kernel), .inl ⟨ha, fun dx nd ne => ?_⟩⟩
    refine ⟨_, rfl, _, rfl, a, C 1, rfl, T.oex 1 (by decide), T.no (1, "why") (by decide +kernel), .inr ⟨dx, [("place", y)], upd_same, by rw [upd_ne ne, upd_same], (show (1 : Nat) ≤ 900 by decide), ?_⟩⟩
    refine k _ dx (fun b v e hb => ?_) nd ne (by rw [upd_ne ne.symm, upd_same]) upd_same
    rw [upd_ne (ne_of_none e nd)]
    exact but_made nd b v e hb
/-- the errors of one thing and of two may be made -/
structure Makes (P : Program) (w : World) (K : PySem.W.Frag) (mg : Str → Option Value) (base : Heap) (C : Nat → Addr) : Prop where
  m0 : MakE P w K mg base 1 "BadChoices" (C 0) (spI1 (C 0) "at") []
  m1 : MakE P w K mg base 1 "BadProgram" (C 1) (spI2 (C 1) "place" "why") []
  m2 : MakE P w K mg base 1 "BadStates" (C 2) (spI1 (C 2) "why") []
  m3 : MakE P w K mg base 1 "BadText" (C 3) (spI1 (C 3) "row") []
  m5 : MakE P w K mg base 1 "Never" (C 5) (spI1 (C 5) "way") []
  m6 : MakE P w K mg base 1 "NoAnswers" (C 6) (spI1 (C 6) "at") []
  m8 : MakE P w K mg base 1 "NoLiterals" (C 8) (spI1 (C 8) "at") []
  m9 : MakE P w K mg base 1 "NoName" (C 9) (spI1 (C 9) "term") []
  m11 : MakE P w K mg base 1 "NoPlace" (C 11) (spI1 (C 11) "place") []
  m13 : MakE P w K mg base 1 "NoSteps" (C 13) (spI1 (C 13) "steps") []
  m15 : MakE P w K mg base 1 "NoWay" (C 15) (spI1 (C 15) "way") []
  m16 : MakE P w K mg base 1 "TooFew" (C 16) (spI1 (C 16) "many") []
  m18 : MakE P w K mg base 1 "TooMany" (C 18) (spI1 (C 18) "most") []
/-- what an equality of things asks of Program -/
structure EqQ (P : Program) (w : World) (K : PySem.W.Frag) (mg : Str → Option Value) (base : Heap) (CP : Addr) : Prop where
  ex : ∃ (f : Addr) (fd : FuncData), FnOk P w K mg base C8.CX0 1 f fd ["self", "other"] (spEq (RPrg K CP)) ∧ PySem.W.findIn K (.ref CP) "__eq__" = some (some (.ref f)) ∧ PySem.W.isFn K (.ref f) = true ∧ Binds K fd ["self", "other"] []
theorem op_self {X : Cx} {CP : Addr} {j : Nat} (E : EqQ X.prog X.w X.K X.mg X.base CP) (hr : Room j X.A) (hk : 1 ≤ j) : OpR X (compareOp .Eq) (rSelf X.K CP) := by
  obtain ⟨f, fd, F, hs, hf, hb⟩ := E.ex
  exact op_or (op_eqD hr.units) (op_or (op_eqV hr.units) (op_eqG (rcG_ins (E := C8.E0) F hs hf hb C8.pass0) (hr.mono hk)))
/-- at e an error of the class k -/
def IsE (C : Nat → Addr) (H : Hp) (k : Nat) (e : Addr) : Prop := ∃ d, H e = some (exo e (C k) d) ∧ ∀ dd, d = some dd → ∃ fs, H dd = some (exd dd fs)
theorem IsE.same {H H' : Hp} {k : Nat} {e : Addr} (s : Same H H') (h : IsE C H k e) : IsE C H' k e := by
  obtain ⟨d, h1, h2⟩ := h
  exact ⟨d, s _ _ h1, fun dd z => (h2 dd z).imp fun fs q => s _ _ q⟩
theorem isE_ask {H : Hp} {k j : Nat} {e : Addr} {Q : VK} (T : Txt K mg C C_BehindError C_Program aE aB) (hk : k < 20) (hj : j < 20) (h : IsE C H k e) (q : Q (.bl (decide (j = k))) H) : rIsV K [.ref e, .ref (C j)] H Q := by
  obtain ⟨d, h1, h2⟩ := h
  exact ⟨e, C k, d, _, _, _, rfl, T.exc k hk, fun u r => r, h1, h2, T.kit k j hk hj, q⟩
theorem isE_base {H : Hp} {k : Nat} {e : Addr} {Q : VK} (T : Txt K mg C C_BehindError C_Program aE aB) (hk : k < 20) (h : IsE C H k e) (q : Q (.bl true) H) : rIsV K [.ref e, .ref C_BehindError] H Q := by
  obtain ⟨d, h1, h2⟩ := h
  exact ⟨e, C k, d, _, _, _, rfl, T.exc k hk, fun u r => r, h1, h2, T.kitB k hk, q⟩
theorem isE_val {H : Hp} {k : Nat} {e : Addr} {Q : VK} (T : Txt K mg C C_BehindError C_Program aE aB) (hk : k < 20) (h : IsE C H k e) (q : Q (.bl true) H) : rIsV K [.ref e, .ty "ValueError"] H Q := by
  obtain ⟨d, h1, h2⟩ := h
  exact ⟨e, C k, d, _, _, _, rfl, T.exc k hk, fun u r => r, h1, h2, T.kitV k hk, q⟩
/-- of which classes an error is -/
def spKinds (C : Nat → Addr) : Sp := fun vs H Q _ => ∃ (e : Addr) (k : Nat), vs = [.ref e] ∧ k < 20 ∧ IsE C H k e ∧ ∀ p H', Same H H' → H' p = some (.lst ((List.range 20).map fun j => V.bl (decide (j = k)))) → Q (.ref p) H'
theorem ok_l_kinds {f : Addr} {fd : FuncData} (F : C8.Def K mg "_law_kinds" s_l_kinds f fd) (b : Binds K fd ["_law_e"] []) (T : Txt K mg C C_BehindError C_Program aE aB) : C8.Cal P w K mg base 1 "_law_kinds" (spKinds C) [] := by
  refine C8.cal0 F b .nil sc_l_kinds (fun vs H Q E h => ?_) (fun cdv A outer s H vs Q E hr h => ?_)
  · obtain ⟨e, k, rfl, _⟩ := h
    rfl
  · obtain ⟨e, kk, rfl, hk, he, k⟩ := h
    refine ⟨_, (pss_cons (ps_set (i := 1) sc_l_kinds.nd rfl (Or.inl rfl) (pe_lst (pa_cons (pe_callB Ev.call_isV (by rfl) T.z_isinstance (by decide +kernel) (pa_cons (pv 0) (pa_cons (pe_glob (v := .ref (C 0)) (by rfl) (T.g 0 (by decide)) rfl) pa_nil))) (pa_cons (pe_callB Ev.call_isV (by rfl) T.z_isinstance (by decide +kernel) (pa_cons (pv 0) (pa_cons (pe_glob (v := .ref (C 1)) (by rfl) (T.g 1 (by decide)) rfl) pa_nil))) (pa_cons (pe_callB Ev.call_isV (by rfl) T.z_isinstance (by decide +kernel) (pa_cons (pv 0) (pa_cons (pe_glob (v := .ref (C 2)) (by rfl) (T.g 2 (by decide)) rfl) pa_nil))) (pa_cons (pe_callB Ev.call_isV (by rfl) T.z_isinstance (by decide +kernel) (pa_cons (pv 0) (pa_cons (pe_glob (v := .ref (C 3)) (by rfl) (T.g 3 (by decide)) rfl) pa_nil))) pa_nil))))))
    (pss_cons (ps_set (i := 1) sc_l_kinds.nd rfl (Or.inl rfl) (pe_op op_catS (pv 1) (pe_lst (pa_cons (pe_callB Ev.call_isV (by rfl) T.z_isinstance (by decide +kernel) (pa_cons (pv 0) (pa_cons (pe_glob (v := .ref (C 4)) (by rfl) (T.g 4 (by decide)) rfl) pa_nil))) (pa_cons (pe_callB Ev.call_isV (by rfl) T.z_isinstance (by decide +kernel) (pa_cons (pv 0) (pa_cons (pe_glob (v := .ref (C 5)) (by rfl) (T.g 5 (by decide)) rfl) pa_nil))) (pa_cons (pe_callB Ev.call_isV (by rfl) T.z_isinstance (by decide +kernel) (pa_cons (pv 0) (pa_cons (pe_glob (v := .ref (C 6)) (by rfl) (T.g 6 (by decide)) rfl) pa_nil))) (pa_cons (pe_callB Ev.call_isV (by rfl) T.z_isinstance (by decide +kernel) (pa_cons (pv 0) (pa_cons (pe_glob (v := .ref (C 7)) (by rfl) (T.g 7 (by decide)) rfl) pa_nil))) pa_nil)))))))
    (pss_cons (ps_set (i := 1) sc_l_kinds.nd rfl (Or.inl rfl) (pe_op op_catS (pv 1) (pe_lst (pa_cons (pe_callB Ev.call_isV (by rfl) T.z_isinstance (by decide +kernel) (pa_cons (pv 0) (pa_cons (pe_glob (v := .ref (C 8)) (by rfl) (T.g 8 (by decide)) rfl) pa_nil))) (pa_cons (pe_callB Ev.call_isV (by rfl) T.z_isinstance (by decide +kernel) (pa_cons (pv 0) (pa_cons (pe_glob (v := .ref (C 9)) (by rfl) (T.g 9 (by decide)) rfl) pa_nil))) (pa_cons (pe_callB Ev.call_isV (by rfl) T.z_isinstance (by decide +kernel) (pa_cons (pv 0) (pa_cons (pe_glob (v := .ref (C 10)) (by rfl) (T.g 10 (by decide)) rfl) pa_nil))) (pa_cons (pe_callB Ev.call_isV (by rfl) T.z_isinstance (by decide +kernel) (pa_cons (pv 0) (pa_cons (pe_glob (v := .ref (C 11)) (by rfl) (T.g 11 (by decide)) rfl) pa_nil))) pa_nil)))))))
    (pss_cons (ps_set (i := 1) sc_l_kinds.nd rfl (Or.inl rfl) (pe_op op_catS (pv 1) (pe_lst (pa_cons (pe_callB Ev.call_isV (by rfl) T.z_isinstance (by decide +kernel) (pa_cons (pv 0) (pa_cons (pe_glob (v := .ref (C 12)) (by rfl) (T.g 12 (by decide)) rfl) pa_nil))) (pa_cons (pe_callB Ev.call_isV (by rfl) T.z_isinstance (by decide +kernel) (pa_cons (pv 0) (pa_cons (pe_glob (v := .ref (C 13)) (by rfl) (T.g 13 (by decide)) rfl) pa_nil))) (pa_cons (pe_callB Ev.call_isV (by rfl) T.z_isinstance (by decide +kernel) (pa_cons (pv 0) (pa_cons (pe_glob (v := .ref (C 14)) (by rfl) (T.g 14 (by decide)) rfl) pa_nil))) (pa_cons (pe_callB Ev.call_isV (by rfl) T.z_isinstance (by decide +kernel) (pa_cons (pv 0) (pa_cons (pe_glob (v := .ref (C 15)) (by rfl) (T.g 15 (by decide)) rfl) pa_nil))) pa_nil)))))))
    (pss_one (ps_ret (pe_op op_catS (pv 1) (pe_lst (pa_cons (pe_callB Ev.call_isV (by rfl) T.z_isinstance (by decide +kernel) (pa_cons (pv 0) (pa_cons (pe_glob (v := .ref (C 16)) (by rfl) (T.g 16 (by decide)) rfl) pa_nil))) (pa_cons (pe_callB Ev.call_isV (by rfl) T.z_isinstance (by decide +kernel) (pa_cons (pv 0) (pa_cons (pe_glob (v := .ref (C 17)) (by rfl) (T.g 17 (by decide)) rfl) pa_nil))) (pa_cons (pe_callB Ev.call_isV (by rfl) T.z_isinstance (by decide +kernel) (pa_cons (pv 0) (pa_cons (pe_glob (v := .ref (C 18)) (by rfl) (T.g 18 (by decide)) rfl) pa_nil))) (pa_cons (pe_callB Ev.call_isV (by rfl) T.z_isinstance (by decide +kernel) (pa_cons (pv 0) (pa_cons (pe_glob (v := .ref (C 19)) (by rfl) (T.g 19 (by decide)) rfl) pa_nil))) pa_nil)))))))))))), ?_⟩
    obtain ⟨d, h1, h2⟩ := he
    refine ⟨_, rfl, e, C kk, d, _, _, _, rfl, T.exc kk hk, fun u r => r, h1, h2, T.kit kk 0 hk (by decide), ⟨_, rfl, e, C kk, d, _, _, _, rfl, T.exc kk hk, fun u r => r, h1, h2, T.kit kk 1 hk (by decide), ⟨_, rfl, e, C kk, d, _, _, _, rfl, T.exc kk hk, fun u r => r, h1, h2, T.kit kk 2 hk (by decide), ⟨_, rfl, e, C kk, d, _, _, _, rfl, T.exc kk hk, fun u r => r, h1, h2, T.kit kk 3 hk (by decide), ?_⟩⟩⟩⟩
    refine ⟨(by show 4 ≤ sizeLine; decide), fun p1 n1 => ?_⟩
    have S1 := Same.new (o := HO.lst [.bl (decide (0 = kk)), .bl (decide (1 = kk)), .bl (decide (2 = kk)), .bl (decide (3 = kk))]) n1
    have hp1 : (upd H p1 (.lst [.bl (decide (0 = kk)), .bl (decide (1 = kk)), .bl (decide (2 = kk)), .bl (decide (3 = kk))])) p1 = some (.lst [.bl (decide (0 = kk)), .bl (decide (1 = kk)), .bl (decide (2 = kk)), .bl (decide (3 = kk))]) := upd_same
    generalize upd H p1 (.lst [.bl (decide (0 = kk)), .bl (decide (1 = kk)), .bl (decide (2 = kk)), .bl (decide (3 = kk))]) = H1 at *
    refine ⟨_, rfl, ⟨_, rfl, e, C kk, d, _, _, _, rfl, T.exc kk hk, fun u r => r, S1 _ _ h1, (fun dd z => (h2 dd z).imp fun fs q => S1 _ _ q), T.kit kk 4 hk (by decide), ⟨_, rfl, e, C kk, d, _, _, _, rfl, T.exc kk hk, fun u r => r, S1 _ _ h1, (fun dd z => (h2 dd z).imp fun fs q => S1 _ _ q), T.kit kk 5 hk (by decide), ⟨_, rfl, e, C kk, d, _, _, _, rfl, T.exc kk hk, fun u r => r, S1 _ _ h1, (fun dd z => (h2 dd z).imp fun fs q => S1 _ _ q), T.kit kk 6 hk (by decide), ⟨_, rfl, e, C kk, d, _, _, _, rfl, T.exc kk hk, fun u r => r, S1 _ _ h1, (fun dd z => (h2 dd z).imp fun fs q => S1 _ _ q), T.kit kk 7 hk (by decide), ?_⟩⟩⟩⟩⟩
    refine ⟨(by show 4 ≤ sizeLine; decide), fun q1 m1 => ?_⟩
    have R1 := Same.new (o := HO.lst [.bl (decide (4 = kk)), .bl (decide (5 = kk)), .bl (decide (6 = kk)), .bl (decide (7 = kk))]) m1
    refine ⟨p1, q1, _, _, rfl, rfl, SqL.of (R1 _ _ hp1), SqL.of upd_same, (by show 8 ≤ sizeLine; decide), fun p2 n2 => ?_⟩
    have S2 := Same.trans S1 (Same.trans R1 (Same.new (o := HO.lst [.bl (decide (0 = kk)), .bl (decide (1 = kk)), .bl (decide (2 = kk)), .bl (decide (3 = kk)), .bl (decide (4 = kk)), .bl (decide (5 = kk)), .bl (decide (6 = kk)), .bl (decide (7 = kk))]) n2))
    have hp2 : (upd (upd H1 q1 (.lst [.bl (decide (4 = kk)), .bl (decide (5 = kk)), .bl (decide (6 = kk)), .bl (decide (7 = kk))])) p2 (.lst [.bl (decide (0 = kk)), .bl (decide (1 = kk)), .bl (decide (2 = kk)), .bl (decide (3 = kk)), .bl (decide (4 = kk)), .bl (decide (5 = kk)), .bl (decide (6 = kk)), .bl (decide (7 = kk))])) p2 = some (.lst [.bl (decide (0 = kk)), .bl (decide (1 = kk)), .bl (decide (2 = kk)), .bl (decide (3 = kk)), .bl (decide (4 = kk)), .bl (decide (5 = kk)), .bl (decide (6 = kk)), .bl (decide (7 = kk))]) := upd_same
    show tSeq _ _ _ _ (upd (upd H1 q1 (.lst [.bl (decide (4 = kk)), .bl (decide (5 = kk)), .bl (decide (6 = kk)), .bl (decide (7 = kk))])) p2 (.lst [.bl (decide (0 = kk)), .bl (decide (1 = kk)), .bl (decide (2 = kk)), .bl (decide (3 = kk)), .bl (decide (4 = kk)), .bl (decide (5 = kk)), .bl (decide (6 = kk)), .bl (decide (7 = kk))]))
    generalize upd (upd H1 q1 (.lst [.bl (decide (4 = kk)), .bl (decide (5 = kk)), .bl (decide (6 = kk)), .bl (decide (7 = kk))])) p2 (.lst [.bl (decide (0 = kk)), .bl (decide (1 = kk)), .bl (decide (2 = kk)), .bl (decide (3 = kk)), .bl (decide (4 = kk)), .bl (decide (5 = kk)), .bl (decide (6 = kk)), .bl (decide (7 = kk))]) = H2 at *
    refine ⟨_, rfl, ⟨_, rfl, e, C kk, d, _, _, _, rfl, T.exc kk hk, fun u r => r, S2 _ _ h1, (fun dd z => (h2 dd z).imp fun fs q => S2 _ _ q), T.kit kk 8 hk (by decide), ⟨_, rfl, e, C kk, d, _, _, _, rfl, T.exc kk hk, fun u r => r, S2 _ _ h1, (fun dd z => (h2 dd z).imp fun fs q => S2 _ _ q), T.kit kk 9 hk (by decide), ⟨_, rfl, e, C kk, d, _, _, _, rfl, T.exc kk hk, fun u r => r, S2 _ _ h1, (fun dd z => (h2 dd z).imp fun fs q => S2 _ _ q), T.kit kk 10 hk (by decide), ⟨_, rfl, e, C kk, d, _, _, _, rfl, T.exc kk hk, fun u r => r, S2 _ _ h1, (fun dd z => (h2 dd z).imp fun fs q => S2 _ _ q), T.kit kk 11 hk (by decide), ?_⟩⟩⟩⟩⟩
    refine ⟨(by show 4 ≤ sizeLine; decide), fun q2 m2 => ?_⟩
    have R2 := Same.new (o := HO.lst [.bl (decide (8 = kk)), .bl (decide (9 = kk)), .bl (decide (10 = kk)), .bl (decide (11 = kk))]) m2
    refine ⟨p2, q2, _, _, rfl, rfl, SqL.of (R2 _ _ hp2), SqL.of upd_same, (by show 12 ≤ sizeLine; decide), fun p3 n3 => ?_⟩
    have S3 := Same.trans S2 (Same.trans R2 (Same.new (o := HO.lst [.bl (decide (0 = kk)), .bl (decide (1 = kk)), .bl (decide (2 = kk)), .bl (decide (3 = kk)), .bl (decide (4 = kk)), .bl (decide (5 = kk)), .bl (decide (6 = kk)), .bl (decide (7 = kk)), .bl (decide (8 = kk)), .bl (decide (9 = kk)), .bl (decide (10 = kk)), .bl (decide (11 = kk))]) n3))
    have hp3 : (upd (upd H2 q2 (.lst [.bl (decide (8 = kk)), .bl (decide (9 = kk)), .bl (decide (10 = kk)), .bl (decide (11 = kk))])) p3 (.lst [.bl (decide (0 = kk)), .bl (decide (1 = kk)), .bl (decide (2 = kk)), .bl (decide (3 = kk)), .bl (decide (4 = kk)), .bl (decide (5 = kk)), .bl (decide (6 = kk)), .bl (decide (7 = kk)), .bl (decide (8 = kk)), .bl (decide (9 = kk)), .bl (decide (10 = kk)), .bl (decide (11 = kk))])) p3 = some (.lst [.bl (decide (0 = kk)), .bl (decide (1 = kk)), .bl (decide (2 = kk)), .bl (decide (3 = kk)), .bl (decide (4 = kk)), .bl (decide (5 = kk)), .bl (decide (6 = kk)), .bl (decide (7 = kk)), .bl (decide (8 = kk)), .bl (decide (9 = kk)), .bl (decide (10 = kk)), .bl (decide (11 = kk))]) := upd_same
    show tSeq _ _ _ _ (upd (upd H2 q2 (.lst [.bl (decide (8 = kk)), .bl (decide (9 = kk)), .bl (decide (10 = kk)), .bl (decide (11 = kk))])) p3 (.lst [.bl (decide (0 = kk)), .bl (decide (1 = kk)), .bl (decide (2 = kk)), .bl (decide (3 = kk)), .bl (decide (4 = kk)), .bl (decide (5 = kk)), .bl (decide (6 = kk)), .bl (decide (7 = kk)), .bl (decide (8 = kk)), .bl (decide (9 = kk)), .bl (decide (10 = kk)), .bl (decide (11 = kk))]))
    generalize upd (upd H2 q2 (.lst [.bl (decide (8 = kk)), .bl (decide (9 = kk)), .bl (decide (10 = kk)), .bl (decide (11 = kk))])) p3 (.lst [.bl (decide (0 = kk)), .bl (decide (1 = kk)), .bl (decide (2 = kk)), .bl (decide (3 = kk)), .bl (decide (4 = kk)), .bl (decide (5 = kk)), .bl (decide (6 = kk)), .bl (decide (7 = kk)), .bl (decide (8 = kk)), .bl (decide (9 = kk)), .bl (decide (10 = kk)), .bl (decide (11 = kk))]) = H3 at *
    refine ⟨_, rfl, ⟨_, rfl, e, C kk, d, _, _, _, rfl, T.exc kk hk, fun u r => r, S3 _ _ h1, (fun dd z => (h2 dd z).imp fun fs q => S3 _ _ q), T.kit kk 12 hk (by decide), ⟨_, rfl, e, C kk, d, _, _, _, rfl, T.exc kk hk, fun u r => r, S3 _ _ h1, (fun dd z => (h2 dd z).imp fun fs q => S3 _ _ q), T.kit kk 13 hk (by decide), ⟨_, rfl, e, C kk, d, _, _, _, rfl, T.exc kk hk, fun u r => r, S3 _ _ h1, (fun dd z => (h2 dd z).imp fun fs q => S3 _ _ q), T.kit kk 14 hk (by decide), ⟨_, rfl, e, C kk, d, _, _, _, rfl, T.exc kk hk, fun u r => r, S3 _ _ h1, (fun dd z => (h2 dd z).imp fun fs q => S3 _ _ q), T.kit kk 15 hk (by decide), ?_⟩⟩⟩⟩⟩
    refine ⟨(by show 4 ≤ sizeLine; decide), fun q3 m3 => ?_⟩
    have R3 := Same.new (o := HO.lst [.bl (decide (12 = kk)), .bl (decide (13 = kk)), .bl (decide (14 = kk)), .bl (decide (15 = kk))]) m3
    refine ⟨p3, q3, _, _, rfl, rfl, SqL.of (R3 _ _ hp3), SqL.of upd_same, (by show 16 ≤ sizeLine; decide), fun p4 n4 => ?_⟩
    have S4 := Same.trans S3 (Same.trans R3 (Same.new (o := HO.lst [.bl (decide (0 = kk)), .bl (decide (1 = kk)), .bl (decide (2 = kk)), .bl (decide (3 = kk)), .bl (decide (4 = kk)), .bl (decide (5 = kk)), .bl (decide (6 = kk)), .bl (decide (7 = kk)), .bl (decide (8 = kk)), .bl (decide (9 = kk)), .bl (decide (10 = kk)), .bl (decide (11 = kk)), .bl (decide (12 = kk)), .bl (decide (13 = kk)), .bl (decide (14 = kk)), .bl (decide (15 = kk))]) n4))
    have hp4 : (upd (upd H3 q3 (.lst [.bl (decide (12 = kk)), .bl (decide (13 = kk)), .bl (decide (14 = kk)), .bl (decide (15 = kk))])) p4 (.lst [.bl (decide (0 = kk)), .bl (decide (1 = kk)), .bl (decide (2 = kk)), .bl (decide (3 = kk)), .bl (decide (4 = kk)), .bl (decide (5 = kk)), .bl (decide (6 = kk)), .bl (decide (7 = kk)), .bl (decide (8 = kk)), .bl (decide (9 = kk)), .bl (decide (10 = kk)), .bl (decide (11 = kk)), .bl (decide (12 = kk)), .bl (decide (13 = kk)), .bl (decide (14 = kk)), .bl (decide (15 = kk))])) p4 = some (.lst [.bl (decide (0 = kk)), .bl (decide (1 = kk)), .bl (decide (2 = kk)), .bl (decide (3 = kk)), .bl (decide (4 = kk)), .bl (decide (5 = kk)), .bl (decide (6 = kk)), .bl (decide (7 = kk)), .bl (decide (8 = kk)), .bl (decide (9 = kk)), .bl (decide (10 = kk)), .bl (decide (11 = kk)), .bl (decide (12 = kk)), .bl (decide (13 = kk)), .bl (decide (14 = kk)), .bl (decide (15 = kk))]) := upd_same
    show tSeq _ _ _ _ (upd (upd H3 q3 (.lst [.bl (decide (12 = kk)), .bl (decide (13 = kk)), .bl (decide (14 = kk)), .bl (decide (15 = kk))])) p4 (.lst [.bl (decide (0 = kk)), .bl (decide (1 = kk)), .bl (decide (2 = kk)), .bl (decide (3 = kk)), .bl (decide (4 = kk)), .bl (decide (5 = kk)), .bl (decide (6 = kk)), .bl (decide (7 = kk)), .bl (decide (8 = kk)), .bl (decide (9 = kk)), .bl (decide (10 = kk)), .bl (decide (11 = kk)), .bl (decide (12 = kk)), .bl (decide (13 = kk)), .bl (decide (14 = kk)), .bl (decide (15 = kk))]))
    generalize upd (upd H3 q3 (.lst [.bl (decide (12 = kk)), .bl (decide (13 = kk)), .bl (decide (14 = kk)), .bl (decide (15 = kk))])) p4 (.lst [.bl (decide (0 = kk)), .bl (decide (1 = kk)), .bl (decide (2 = kk)), .bl (decide (3 = kk)), .bl (decide (4 = kk)), .bl (decide (5 = kk)), .bl (decide (6 = kk)), .bl (decide (7 = kk)), .bl (decide (8 = kk)), .bl (decide (9 = kk)), .bl (decide (10 = kk)), .bl (decide (11 = kk)), .bl (decide (12 = kk)), .bl (decide (13 = kk)), .bl (decide (14 = kk)), .bl (decide (15 = kk))]) = H4 at *
    refine ⟨_, rfl, ⟨_, rfl, e, C kk, d, _, _, _, rfl, T.exc kk hk, fun u r => r, S4 _ _ h1, (fun dd z => (h2 dd z).imp fun fs q => S4 _ _ q), T.kit kk 16 hk (by decide), ⟨_, rfl, e, C kk, d, _, _, _, rfl, T.exc kk hk, fun u r => r, S4 _ _ h1, (fun dd z => (h2 dd z).imp fun fs q => S4 _ _ q), T.kit kk 17 hk (by decide), ⟨_, rfl, e, C kk, d, _, _, _, rfl, T.exc kk hk, fun u r => r, S4 _ _ h1, (fun dd z => (h2 dd z).imp fun fs q => S4 _ _ q), T.kit kk 18 hk (by decide), ⟨_, rfl, e, C kk, d, _, _, _, rfl, T.exc kk hk, fun u r => r, S4 _ _ h1, (fun dd z => (h2 dd z).imp fun fs q => S4 _ _ q), T.kit kk 19 hk (by decide), ?_⟩⟩⟩⟩⟩
    refine ⟨(by show 4 ≤ sizeLine; decide), fun q4 m4 => ?_⟩
    have R4 := Same.new (o := HO.lst [.bl (decide (16 = kk)), .bl (decide (17 = kk)), .bl (decide (18 = kk)), .bl (decide (19 = kk))]) m4
    refine ⟨p4, q4, _, _, rfl, rfl, SqL.of (R4 _ _ hp4), SqL.of upd_same, (by show 20 ≤ sizeLine; decide), fun p5 n5 => ?_⟩
    exact k p5 _ (Same.trans S4 (Same.trans R4 (Same.new n5))) upd_same
end
end K19

namespace K19
open PySem L2 Bx Ev
section
variable {P : Program} {w : World} {K : PySem.W.Frag} {mg : Str → Option Value} {base : Heap} {C : Nat → Addr} {C_BehindError C_Program aE aB CK : Addr}
theorem xf_of {k : Nat} (T : Txt K mg C C_BehindError C_Program aE aB) (hk : k < 20) : XfC K (C k) := ⟨(T.exc k hk).hg, (T.exc k hk).hk, (T.exc k hk).hs, (T.exc k hk).hd⟩
/-- a row: a number, an error of this class, True -/
def RowAt (C : Nat → Addr) (H : Hp) (r : Addr) (k : Nat) : Prop := k < 20 ∧ ∃ e, H r = some (.tup [.int (k : Nat), .ref e, .bl true]) ∧ IsE C H k e
theorem RowAt.same {H H' : Hp} {r : Addr} {k : Nat} (s : Same H H') (h : RowAt C H r k) : RowAt C H' r k := by
  obtain ⟨hk, e, h1, h2⟩ := h
  exact ⟨hk, e, s _ _ h1, h2.same s⟩
theorem RowAt.but {H H' : Hp} {p r : Addr} {k : Nat} {xs : List V} (s : But p H H') (hp : H p = some (.lst xs)) (h : RowAt C H r k) : RowAt C H' r k := by
  obtain ⟨hk, e, h1, d, h2, h3⟩ := h
  refine ⟨hk, e, s _ _ h1 (ne_of h1 hp (fun z => by cases z)), d, s _ _ h2 (ne_of h2 hp (fun z => by have z' : HO.ext _ = HO.lst xs := z; cases z')), fun dd z => ?_⟩
  obtain ⟨fs, h4⟩ := h3 dd z
  exact ⟨fs, s _ _ h4 (ne_of h4 hp (fun z => by have z' : HO.ext _ = HO.lst xs := z; cases z'))⟩
abbrev Rows (C : Nat → Addr) (H : Hp) (rs : List Addr) (ks : List Nat) : Prop := Paired (RowAt C H) rs ks
theorem Rows.same {H H' : Hp} (s : Same H H') : ∀ {rs : List Addr} {ks : List Nat}, Rows C H rs ks → Rows C H' rs ks
  | _, _, .nil => .nil
  | _, _, .cons h t => .cons (h.same s) (Rows.same s t)
theorem Rows.but {H H' : Hp} {p : Addr} {xs : List V} (s : But p H H') (hp : H p = some (.lst xs)) : ∀ {rs : List Addr} {ks : List Nat}, Rows C H rs ks → Rows C H' rs ks
  | _, _, .nil => .nil
  | _, _, .cons h t => .cons (h.but s hp) (Rows.but s hp t)
theorem Rows.snoc {H : Hp} {r : Addr} {k : Nat} (h : RowAt C H r k) : ∀ {rs : List Addr} {ks : List Nat}, Rows C H rs ks → Rows C H (rs ++ [r]) (ks ++ [k])
  | _, _, .nil => .cons h .nil
  | _, _, .cons q t => .cons q (Rows.snoc h t)
/-- what stands while the rows grow -/
structure Grow (C : Nat → Addr) (H0 H : Hp) (p : Addr) (rs : List Addr) (ks : List Nat) : Prop where
  same : Same H0 H
  fresh : H0 p = none
  lst : H p = some (.lst (rs.map V.ref))
  rows : Rows C H rs ks
theorem Grow.more {H0 H H' : Hp} {p r : Addr} {rs : List Addr} {ks : List Nat} {k : Nat} (g : Grow C H0 H p rs ks) (s : Same H H') (h : RowAt C H' r k) : Grow C H0 (upd H' p (.lst (rs.map V.ref ++ [.ref r]))) p (rs ++ [r]) (ks ++ [k]) := by
  have hp : H' p = some (.lst (rs.map V.ref)) := s _ _ g.lst
  refine ⟨Same.mut (Same.trans g.same s) g.fresh, g.fresh, by rw [upd_same, List.map_append]; rfl, ?_⟩
  exact Rows.but But.upd hp (Rows.snoc h (Rows.same s g.rows))
/-- an error that has just been made -/
theorem made_same {H H' : Hp} {a : Addr} {o : HO} (na : H a = none) (B : But a (upd H a o) H') : Same H H' := fun c v e => by
  have hc : c ≠ a := fun z => by rw [z, na] at e; cases e
  exact B c v (by rw [upd_ne hc]; exact e) hc
theorem made_isE {H' : Hp} {a d k : Addr} {fs : List (Str × V)} (h1 : H' a = some (exo a (C k) (some d))) (h2 : H' d = some (exd d fs)) : IsE C H' k a := ⟨some d, h1, fun dd z => ⟨fs, by cases z; exact h2⟩⟩
def spRows (K : PySem.W.Frag) (C : Nat → Addr) (CP : Addr) (ks : List Nat) : Sp := fun vs H Q _ => ∃ (x y : V), vs = [x, y] ∧ Own K CP H x ∧ Own K CP H y ∧ ∀ p H' rs, Same H H' → H' p = some (.lst (rs.map V.ref)) → Rows C H' rs ks → Q (.ref p) H'

theorem ok_l_first {f : Addr} {fd : FuncData} (F : C8.Def K mg "_law_first" s_l_first f fd) (b : Binds K fd ["_law_a", "_law_b"] []) (T : Txt K mg C C_BehindError C_Program aE aB) (KE : Makes P w K mg base C) (KQ : EqQ P w K mg base C_Program) :
    C8.Cal P w K mg base 3 "_law_first" (spRows K C C_Program [0, 1, 2, 3, 5, 6, 8]) [] := by
  refine C8.cal0 F b .nil sc_l_first (fun vs H Q E h => ?_) (fun cdv A outer s H vs Q E hr h => ?_)
  · obtain ⟨x, y, rfl, _⟩ := h
    rfl
  · obtain ⟨x, y, rfl, ox, oy, k⟩ := h
    refine ⟨_, (pss_cons (ps_set (i := 2) sc_l_first.nd rfl (Or.inl rfl) (pe_lst pa_nil))
    (pss_cons (ps_set (i := 3) sc_l_first.nd rfl (Or.inl rfl) (Ev.pe_mkv (x := "BadChoices") (KE.m0) hr (by decide) (by rfl) (pa_cons (pv 0) pa_nil)))
    (pss_cons (ps_expr (pe_bm PySem.F.plainAttrs_list PySem.F.slot_list_append PySem.F.type_list_append mt_append (pv 2) (pa_cons (pe_tup (pa_cons pe_int (pa_cons (pv 3) (pa_cons (pe_cmpR (op_self KQ hr (by decide)) (Ev.pe_xv (pv 3)) (pv 0) (nomark _)) pa_nil)))) pa_nil)))
    (pss_cons (ps_set (i := 3) sc_l_first.nd rfl (Or.inl rfl) (Ev.pe_mkv (x := "BadProgram") (KE.m1) hr (by decide) (by rfl) (pa_cons (pv 0) (pa_cons (pv 1) pa_nil))))
    (pss_cons (ps_expr (pe_bm PySem.F.plainAttrs_list PySem.F.slot_list_append PySem.F.type_list_append mt_append (pv 2) (pa_cons (pe_tup (pa_cons pe_int (pa_cons (pv 3) (pa_cons (pe_and (pe_cmpR (op_self KQ hr (by decide)) (Ev.pe_xv (pv 3)) (pv 0) (nomark _)) (pe_one (pe_cmpR (op_self KQ hr (by decide)) (Ev.pe_xv (pv 3)) (pv 1) (nomark _)))) pa_nil)))) pa_nil)))
    (pss_cons (ps_set (i := 3) sc_l_first.nd rfl (Or.inl rfl) (Ev.pe_mkv (x := "BadStates") (KE.m2) hr (by decide) (by rfl) (pa_cons (pv 0) pa_nil)))
    (pss_cons (ps_expr (pe_bm PySem.F.plainAttrs_list PySem.F.slot_list_append PySem.F.type_list_append mt_append (pv 2) (pa_cons (pe_tup (pa_cons pe_int (pa_cons (pv 3) (pa_cons (pe_cmpR (op_self KQ hr (by decide)) (Ev.pe_xv (pv 3)) (pv 0) (nomark _)) pa_nil)))) pa_nil)))
    (pss_cons (ps_set (i := 3) sc_l_first.nd rfl (Or.inl rfl) (Ev.pe_mkv (x := "BadText") (KE.m3) hr (by decide) (by rfl) (pa_cons (pv 1) pa_nil)))
    (pss_cons (ps_expr (pe_bm PySem.F.plainAttrs_list PySem.F.slot_list_append PySem.F.type_list_append mt_append (pv 2) (pa_cons (pe_tup (pa_cons pe_int (pa_cons (pv 3) (pa_cons (pe_cmpR (op_self KQ hr (by decide)) (Ev.pe_xv (pv 3)) (pv 1) (nomark _)) pa_nil)))) pa_nil)))
    (pss_cons (ps_set (i := 3) sc_l_first.nd rfl (Or.inl rfl) (Ev.pe_mkv (x := "Never") (KE.m5) hr (by decide) (by rfl) (pa_cons (pv 0) pa_nil)))
    (pss_cons (ps_expr (pe_bm PySem.F.plainAttrs_list PySem.F.slot_list_append PySem.F.type_list_append mt_append (pv 2) (pa_cons (pe_tup (pa_cons pe_int (pa_cons (pv 3) (pa_cons (pe_cmpR (op_self KQ hr (by decide)) (Ev.pe_xv (pv 3)) (pv 0) (nomark _)) pa_nil)))) pa_nil)))
    (pss_cons (ps_set (i := 3) sc_l_first.nd rfl (Or.inl rfl) (Ev.pe_mkv (x := "NoAnswers") (KE.m6) hr (by decide) (by rfl) (pa_cons (pv 1) pa_nil)))
    (pss_cons (ps_expr (pe_bm PySem.F.plainAttrs_list PySem.F.slot_list_append PySem.F.type_list_append mt_append (pv 2) (pa_cons (pe_tup (pa_cons pe_int (pa_cons (pv 3) (pa_cons (pe_cmpR (op_self KQ hr (by decide)) (Ev.pe_xv (pv 3)) (pv 1) (nomark _)) pa_nil)))) pa_nil)))
    (pss_cons (ps_set (i := 3) sc_l_first.nd rfl (Or.inl rfl) (Ev.pe_mkv (x := "NoLiterals") (KE.m8) hr (by decide) (by rfl) (pa_cons (pv 0) pa_nil)))
    (pss_cons (ps_expr (pe_bm PySem.F.plainAttrs_list PySem.F.slot_list_append PySem.F.type_list_append mt_append (pv 2) (pa_cons (pe_tup (pa_cons pe_int (pa_cons (pv 3) (pa_cons (pe_cmpR (op_self KQ hr (by decide)) (Ev.pe_xv (pv 3)) (pv 0) (nomark _)) pa_nil)))) pa_nil)))
    (pss_one (ps_ret (pv 2)))))))))))))))))), ?_⟩
    refine ⟨Nat.zero_le _, fun p np => ?_⟩
    have G : Grow C H (upd H p (.lst [])) p [] [] := ⟨Same.new np, np, upd_same, .nil⟩

    -- BadChoices
    refine ⟨_, rfl, (by show 1 ≤ 1000; decide), fun e ne => ⟨e, _, rfl, upd_same, fun H1 d B nd hd he hdd => ⟨rfl, ?_⟩⟩⟩
    have S1 := made_same ne B
    refine ⟨_, rfl, .inl ⟨rfl, _, .inl (.inl (S1 _ _ G.lst))⟩, _, rfl, _, rfl, e, C 0, d, _, _, rfl, xf_of T (by decide), T.no (0, "at") (by decide +kernel), he, hdd, rfl, _, rfl, ?_⟩
    refine own_eq (Own.same (Same.trans G.same S1) ox) (fun H2 S2 => ?_)
    refine ⟨(by show 3 ≤ sizeLine; decide), fun r nr => ?_⟩
    have S12 : Same _ (upd H2 r (.tup [.int 0, .ref e, .bl true])) := Same.trans S1 (Same.trans S2 (Same.new nr))
    have R1 : RowAt C (upd H2 r (.tup [.int 0, .ref e, .bl true])) r 0 := ⟨by decide, e, upd_same, (made_isE he hdd).same (Same.trans S2 (Same.new nr))⟩
    have G2 := Grow.more G S12 R1
    have GO := G
    have G := G2
    refine ⟨p, _, _, rfl, rfl, S12 _ _ GO.lst, ?_, ?_⟩
    · have hl := Paired.length GO.rows
      rw [List.length_map, hl]
      show 0 < sizeLine
      decide
    clear R1 S12
    -- BadProgram
    refine ⟨_, rfl, _, rfl, (by show 2 ≤ 1000; decide), fun e ne => ⟨e, _, _, rfl, upd_same, fun H1 d B nd hd he hdd => ⟨rfl, ?_⟩⟩⟩
    have S1 := made_same ne B
    refine ⟨_, rfl, .inl ⟨rfl, _, .inl (.inl (S1 _ _ G.lst))⟩, _, rfl, _, rfl, e, C 1, d, _, _, rfl, xf_of T (by decide), T.no (1, "place") (by decide +kernel), he, hdd, rfl, _, rfl, ?_⟩
    refine own_eq (Own.same (Same.trans G.same S1) ox) (fun H3 S3 => ?_)
    refine ⟨_, rfl, iteT ?_⟩
    refine ⟨_, rfl, e, C 1, d, _, _, rfl, xf_of T (by decide), T.no (1, "why") (by decide +kernel), S3 _ _ he, S3 _ _ hdd, rfl, _, rfl, ?_⟩
    refine own_eq (Own.same (Same.trans G.same (Same.trans S1 S3)) oy) (fun H2 S23 => ?_)
    have S2 : Same H1 H2 := Same.trans S3 S23
    refine ⟨(by show 3 ≤ sizeLine; decide), fun r nr => ?_⟩
    have S12 : Same _ (upd H2 r (.tup [.int 1, .ref e, .bl true])) := Same.trans S1 (Same.trans S2 (Same.new nr))
    have R1 : RowAt C (upd H2 r (.tup [.int 1, .ref e, .bl true])) r 1 := ⟨by decide, e, upd_same, (made_isE he hdd).same (Same.trans S2 (Same.new nr))⟩
    have G2 := Grow.more G S12 R1
    have GO := G
    have G := G2
    refine ⟨p, _, _, rfl, rfl, S12 _ _ GO.lst, ?_, ?_⟩
    · have hl := Paired.length GO.rows
      rw [List.length_map, hl]
      show 1 < sizeLine
      decide
    clear R1 S12
    -- BadStates
    refine ⟨_, rfl, (by show 1 ≤ 1000; decide), fun e ne => ⟨e, _, rfl, upd_same, fun H1 d B nd hd he hdd => ⟨rfl, ?_⟩⟩⟩
    have S1 := made_same ne B
    refine ⟨_, rfl, .inl ⟨rfl, _, .inl (.inl (S1 _ _ G.lst))⟩, _, rfl, _, rfl, e, C 2, d, _, _, rfl, xf_of T (by decide), T.no (2, "why") (by decide +kernel), he, hdd, rfl, _, rfl, ?_⟩
    refine own_eq (Own.same (Same.trans G.same S1) ox) (fun H2 S2 => ?_)
    refine ⟨(by show 3 ≤ sizeLine; decide), fun r nr => ?_⟩
    have S12 : Same _ (upd H2 r (.tup [.int 2, .ref e, .bl true])) := Same.trans S1 (Same.trans S2 (Same.new nr))
    have R1 : RowAt C (upd H2 r (.tup [.int 2, .ref e, .bl true])) r 2 := ⟨by decide, e, upd_same, (made_isE he hdd).same (Same.trans S2 (Same.new nr))⟩
    have G2 := Grow.more G S12 R1
    have GO := G
    have G := G2
    refine ⟨p, _, _, rfl, rfl, S12 _ _ GO.lst, ?_, ?_⟩
    · have hl := Paired.length GO.rows
      rw [List.length_map, hl]
      show 2 < sizeLine
      decide
    clear R1 S12
    -- BadText
    refine ⟨_, rfl, (by show 1 ≤ 1000; decide), fun e ne => ⟨e, _, rfl, upd_same, fun H1 d B nd hd he hdd => ⟨rfl, ?_⟩⟩⟩
    have S1 := made_same ne B
    refine ⟨_, rfl, .inl ⟨rfl, _, .inl (.inl (S1 _ _ G.lst))⟩, _, rfl, _, rfl, e, C 3, d, _, _, rfl, xf_of T (by decide), T.no (3, "row") (by decide +kernel), he, hdd, rfl, _, rfl, ?_⟩
    refine own_eq (Own.same (Same.trans G.same S1) oy) (fun H2 S2 => ?_)
    refine ⟨(by show 3 ≤ sizeLine; decide), fun r nr => ?_⟩
    have S12 : Same _ (upd H2 r (.tup [.int 3, .ref e, .bl true])) := Same.trans S1 (Same.trans S2 (Same.new nr))
    have R1 : RowAt C (upd H2 r (.tup [.int 3, .ref e, .bl true])) r 3 := ⟨by decide, e, upd_same, (made_isE he hdd).same (Same.trans S2 (Same.new nr))⟩
    have G2 := Grow.more G S12 R1
    have GO := G
    have G := G2
    refine ⟨p, _, _, rfl, rfl, S12 _ _ GO.lst, ?_, ?_⟩
    · have hl := Paired.length GO.rows
      rw [List.length_map, hl]
      show 3 < sizeLine
      decide
    clear R1 S12
    -- Never
    refine ⟨_, rfl, (by show 1 ≤ 1000; decide), fun e ne => ⟨e, _, rfl, upd_same, fun H1 d B nd hd he hdd => ⟨rfl, ?_⟩⟩⟩
    have S1 := made_same ne B
    refine ⟨_, rfl, .inl ⟨rfl, _, .inl (.inl (S1 _ _ G.lst))⟩, _, rfl, _, rfl, e, C 5, d, _, _, rfl, xf_of T (by decide), T.no (5, "way") (by decide +kernel), he, hdd, rfl, _, rfl, ?_⟩
    refine own_eq (Own.same (Same.trans G.same S1) ox) (fun H2 S2 => ?_)
    refine ⟨(by show 3 ≤ sizeLine; decide), fun r nr => ?_⟩
    have S12 : Same _ (upd H2 r (.tup [.int 5, .ref e, .bl true])) := Same.trans S1 (Same.trans S2 (Same.new nr))
    have R1 : RowAt C (upd H2 r (.tup [.int 5, .ref e, .bl true])) r 5 := ⟨by decide, e, upd_same, (made_isE he hdd).same (Same.trans S2 (Same.new nr))⟩
    have G2 := Grow.more G S12 R1
    have GO := G
    have G := G2
    refine ⟨p, _, _, rfl, rfl, S12 _ _ GO.lst, ?_, ?_⟩
    · have hl := Paired.length GO.rows
      rw [List.length_map, hl]
      show 4 < sizeLine
      decide
    clear R1 S12
    -- NoAnswers
    refine ⟨_, rfl, (by show 1 ≤ 1000; decide), fun e ne => ⟨e, _, rfl, upd_same, fun H1 d B nd hd he hdd => ⟨rfl, ?_⟩⟩⟩
    have S1 := made_same ne B
    refine ⟨_, rfl, .inl ⟨rfl, _, .inl (.inl (S1 _ _ G.lst))⟩, _, rfl, _, rfl, e, C 6, d, _, _, rfl, xf_of T (by decide), T.no (6, "at") (by decide +kernel), he, hdd, rfl, _, rfl, ?_⟩
    refine own_eq (Own.same (Same.trans G.same S1) oy) (fun H2 S2 => ?_)
    refine ⟨(by show 3 ≤ sizeLine; decide), fun r nr => ?_⟩
    have S12 : Same _ (upd H2 r (.tup [.int 6, .ref e, .bl true])) := Same.trans S1 (Same.trans S2 (Same.new nr))
    have R1 : RowAt C (upd H2 r (.tup [.int 6, .ref e, .bl true])) r 6 := ⟨by decide, e, upd_same, (made_isE he hdd).same (Same.trans S2 (Same.new nr))⟩
    have G2 := Grow.more G S12 R1
    have GO := G
    have G := G2
    refine ⟨p, _, _, rfl, rfl, S12 _ _ GO.lst, ?_, ?_⟩
    · have hl := Paired.length GO.rows
      rw [List.length_map, hl]
      show 5 < sizeLine
      decide
    clear R1 S12
    -- NoLiterals
    refine ⟨_, rfl, (by show 1 ≤ 1000; decide), fun e ne => ⟨e, _, rfl, upd_same, fun H1 d B nd hd he hdd => ⟨rfl, ?_⟩⟩⟩
    have S1 := made_same ne B
    refine ⟨_, rfl, .inl ⟨rfl, _, .inl (.inl (S1 _ _ G.lst))⟩, _, rfl, _, rfl, e, C 8, d, _, _, rfl, xf_of T (by decide), T.no (8, "at") (by decide +kernel), he, hdd, rfl, _, rfl, ?_⟩
    refine own_eq (Own.same (Same.trans G.same S1) ox) (fun H2 S2 => ?_)
    refine ⟨(by show 3 ≤ sizeLine; decide), fun r nr => ?_⟩
    have S12 : Same _ (upd H2 r (.tup [.int 8, .ref e, .bl true])) := Same.trans S1 (Same.trans S2 (Same.new nr))
    have R1 : RowAt C (upd H2 r (.tup [.int 8, .ref e, .bl true])) r 8 := ⟨by decide, e, upd_same, (made_isE he hdd).same (Same.trans S2 (Same.new nr))⟩
    have G2 := Grow.more G S12 R1
    have GO := G
    have G := G2
    refine ⟨p, _, _, rfl, rfl, S12 _ _ GO.lst, ?_, ?_⟩
    · have hl := Paired.length GO.rows
      rw [List.length_map, hl]
      show 6 < sizeLine
      decide
    clear R1 S12
    exact ⟨_, rfl, k p _ _ G.same G.lst G.rows⟩
theorem ok_l_second {f : Addr} {fd : FuncData} (F : C8.Def K mg "_law_second" s_l_second f fd) (b : Binds K fd ["_law_a", "_law_b"] []) (T : Txt K mg C C_BehindError C_Program aE aB) (KE : Makes P w K mg base C) (KQ : EqQ P w K mg base C_Program) :
    C8.Cal P w K mg base 3 "_law_second" (spRows K C C_Program [9, 11, 13, 15, 16, 18]) [] := by
  refine C8.cal0 F b .nil sc_l_second (fun vs H Q E h => ?_) (fun cdv A outer s H vs Q E hr h => ?_)
  · obtain ⟨x, y, rfl, _⟩ := h
    rfl
  · obtain ⟨x, y, rfl, ox, oy, k⟩ := h
    refine ⟨_, (pss_cons (ps_set (i := 2) sc_l_second.nd rfl (Or.inl rfl) (pe_lst pa_nil))
    (pss_cons (ps_set (i := 3) sc_l_second.nd rfl (Or.inl rfl) (Ev.pe_mkv (x := "NoName") (KE.m9) hr (by decide) (by rfl) (pa_cons (pv 1) pa_nil)))
    (pss_cons (ps_expr (pe_bm PySem.F.plainAttrs_list PySem.F.slot_list_append PySem.F.type_list_append mt_append (pv 2) (pa_cons (pe_tup (pa_cons pe_int (pa_cons (pv 3) (pa_cons (pe_cmpR (op_self KQ hr (by decide)) (Ev.pe_xv (pv 3)) (pv 1) (nomark _)) pa_nil)))) pa_nil)))
    (pss_cons (ps_set (i := 3) sc_l_second.nd rfl (Or.inl rfl) (Ev.pe_mkv (x := "NoPlace") (KE.m11) hr (by decide) (by rfl) (pa_cons (pv 0) pa_nil)))
    (pss_cons (ps_expr (pe_bm PySem.F.plainAttrs_list PySem.F.slot_list_append PySem.F.type_list_append mt_append (pv 2) (pa_cons (pe_tup (pa_cons pe_int (pa_cons (pv 3) (pa_cons (pe_cmpR (op_self KQ hr (by decide)) (Ev.pe_xv (pv 3)) (pv 0) (nomark _)) pa_nil)))) pa_nil)))
    (pss_cons (ps_set (i := 3) sc_l_second.nd rfl (Or.inl rfl) (Ev.pe_mkv (x := "NoSteps") (KE.m13) hr (by decide) (by rfl) (pa_cons (pv 1) pa_nil)))
    (pss_cons (ps_expr (pe_bm PySem.F.plainAttrs_list PySem.F.slot_list_append PySem.F.type_list_append mt_append (pv 2) (pa_cons (pe_tup (pa_cons pe_int (pa_cons (pv 3) (pa_cons (pe_cmpR (op_self KQ hr (by decide)) (Ev.pe_xv (pv 3)) (pv 1) (nomark _)) pa_nil)))) pa_nil)))
    (pss_cons (ps_set (i := 3) sc_l_second.nd rfl (Or.inl rfl) (Ev.pe_mkv (x := "NoWay") (KE.m15) hr (by decide) (by rfl) (pa_cons (pv 0) pa_nil)))
    (pss_cons (ps_expr (pe_bm PySem.F.plainAttrs_list PySem.F.slot_list_append PySem.F.type_list_append mt_append (pv 2) (pa_cons (pe_tup (pa_cons pe_int (pa_cons (pv 3) (pa_cons (pe_cmpR (op_self KQ hr (by decide)) (Ev.pe_xv (pv 3)) (pv 0) (nomark _)) pa_nil)))) pa_nil)))
    (pss_cons (ps_set (i := 3) sc_l_second.nd rfl (Or.inl rfl) (Ev.pe_mkv (x := "TooFew") (KE.m16) hr (by decide) (by rfl) (pa_cons (pv 1) pa_nil)))
    (pss_cons (ps_expr (pe_bm PySem.F.plainAttrs_list PySem.F.slot_list_append PySem.F.type_list_append mt_append (pv 2) (pa_cons (pe_tup (pa_cons pe_int (pa_cons (pv 3) (pa_cons (pe_cmpR (op_self KQ hr (by decide)) (Ev.pe_xv (pv 3)) (pv 1) (nomark _)) pa_nil)))) pa_nil)))
    (pss_cons (ps_set (i := 3) sc_l_second.nd rfl (Or.inl rfl) (Ev.pe_mkv (x := "TooMany") (KE.m18) hr (by decide) (by rfl) (pa_cons (pv 0) pa_nil)))
    (pss_cons (ps_expr (pe_bm PySem.F.plainAttrs_list PySem.F.slot_list_append PySem.F.type_list_append mt_append (pv 2) (pa_cons (pe_tup (pa_cons pe_int (pa_cons (pv 3) (pa_cons (pe_cmpR (op_self KQ hr (by decide)) (Ev.pe_xv (pv 3)) (pv 0) (nomark _)) pa_nil)))) pa_nil)))
    (pss_one (ps_ret (pv 2)))))))))))))))), ?_⟩
    refine ⟨Nat.zero_le _, fun p np => ?_⟩
    have G : Grow C H (upd H p (.lst [])) p [] [] := ⟨Same.new np, np, upd_same, .nil⟩

    -- NoName
    refine ⟨_, rfl, (by show 1 ≤ 1000; decide), fun e ne => ⟨e, _, rfl, upd_same, fun H1 d B nd hd he hdd => ⟨rfl, ?_⟩⟩⟩
    have S1 := made_same ne B
    refine ⟨_, rfl, .inl ⟨rfl, _, .inl (.inl (S1 _ _ G.lst))⟩, _, rfl, _, rfl, e, C 9, d, _, _, rfl, xf_of T (by decide), T.no (9, "term") (by decide +kernel), he, hdd, rfl, _, rfl, ?_⟩
    refine own_eq (Own.same (Same.trans G.same S1) oy) (fun H2 S2 => ?_)
    refine ⟨(by show 3 ≤ sizeLine; decide), fun r nr => ?_⟩
    have S12 : Same _ (upd H2 r (.tup [.int 9, .ref e, .bl true])) := Same.trans S1 (Same.trans S2 (Same.new nr))
    have R1 : RowAt C (upd H2 r (.tup [.int 9, .ref e, .bl true])) r 9 := ⟨by decide, e, upd_same, (made_isE he hdd).same (Same.trans S2 (Same.new nr))⟩
    have G2 := Grow.more G S12 R1
    have GO := G
    have G := G2
    refine ⟨p, _, _, rfl, rfl, S12 _ _ GO.lst, ?_, ?_⟩
    · have hl := Paired.length GO.rows
      rw [List.length_map, hl]
      show 0 < sizeLine
      decide
    clear R1 S12
    -- NoPlace
    refine ⟨_, rfl, (by show 1 ≤ 1000; decide), fun e ne => ⟨e, _, rfl, upd_same, fun H1 d B nd hd he hdd => ⟨rfl, ?_⟩⟩⟩
    have S1 := made_same ne B
    refine ⟨_, rfl, .inl ⟨rfl, _, .inl (.inl (S1 _ _ G.lst))⟩, _, rfl, _, rfl, e, C 11, d, _, _, rfl, xf_of T (by decide), T.no (11, "place") (by decide +kernel), he, hdd, rfl, _, rfl, ?_⟩
    refine own_eq (Own.same (Same.trans G.same S1) ox) (fun H2 S2 => ?_)
    refine ⟨(by show 3 ≤ sizeLine; decide), fun r nr => ?_⟩
    have S12 : Same _ (upd H2 r (.tup [.int 11, .ref e, .bl true])) := Same.trans S1 (Same.trans S2 (Same.new nr))
    have R1 : RowAt C (upd H2 r (.tup [.int 11, .ref e, .bl true])) r 11 := ⟨by decide, e, upd_same, (made_isE he hdd).same (Same.trans S2 (Same.new nr))⟩
    have G2 := Grow.more G S12 R1
    have GO := G
    have G := G2
    refine ⟨p, _, _, rfl, rfl, S12 _ _ GO.lst, ?_, ?_⟩
    · have hl := Paired.length GO.rows
      rw [List.length_map, hl]
      show 1 < sizeLine
      decide
    clear R1 S12
    -- NoSteps
    refine ⟨_, rfl, (by show 1 ≤ 1000; decide), fun e ne => ⟨e, _, rfl, upd_same, fun H1 d B nd hd he hdd => ⟨rfl, ?_⟩⟩⟩
    have S1 := made_same ne B
    refine ⟨_, rfl, .inl ⟨rfl, _, .inl (.inl (S1 _ _ G.lst))⟩, _, rfl, _, rfl, e, C 13, d, _, _, rfl, xf_of T (by decide), T.no (13, "steps") (by decide +kernel), he, hdd, rfl, _, rfl, ?_⟩
    refine own_eq (Own.same (Same.trans G.same S1) oy) (fun H2 S2 => ?_)
    refine ⟨(by show 3 ≤ sizeLine; decide), fun r nr => ?_⟩
    have S12 : Same _ (upd H2 r (.tup [.int 13, .ref e, .bl true])) := Same.trans S1 (Same.trans S2 (Same.new nr))
    have R1 : RowAt C (upd H2 r (.tup [.int 13, .ref e, .bl true])) r 13 := ⟨by decide, e, upd_same, (made_isE he hdd).same (Same.trans S2 (Same.new nr))⟩
    have G2 := Grow.more G S12 R1
    have GO := G
    have G := G2
    refine ⟨p, _, _, rfl, rfl, S12 _ _ GO.lst, ?_, ?_⟩
    · have hl := Paired.length GO.rows
      rw [List.length_map, hl]
      show 2 < sizeLine
      decide
    clear R1 S12
    -- NoWay
    refine ⟨_, rfl, (by show 1 ≤ 1000; decide), fun e ne => ⟨e, _, rfl, upd_same, fun H1 d B nd hd he hdd => ⟨rfl, ?_⟩⟩⟩
    have S1 := made_same ne B
    refine ⟨_, rfl, .inl ⟨rfl, _, .inl (.inl (S1 _ _ G.lst))⟩, _, rfl, _, rfl, e, C 15, d, _, _, rfl, xf_of T (by decide), T.no (15, "way") (by decide +kernel), he, hdd, rfl, _, rfl, ?_⟩
    refine own_eq (Own.same (Same.trans G.same S1) ox) (fun H2 S2 => ?_)
    refine ⟨(by show 3 ≤ sizeLine; decide), fun r nr => ?_⟩
    have S12 : Same _ (upd H2 r (.tup [.int 15, .ref e, .bl true])) := Same.trans S1 (Same.trans S2 (Same.new nr))
    have R1 : RowAt C (upd H2 r (.tup [.int 15, .ref e, .bl true])) r 15 := ⟨by decide, e, upd_same, (made_isE he hdd).same (Same.trans S2 (Same.new nr))⟩
    have G2 := Grow.more G S12 R1
    have GO := G
    have G := G2
    refine ⟨p, _, _, rfl, rfl, S12 _ _ GO.lst, ?_, ?_⟩
    · have hl := Paired.length GO.rows
      rw [List.length_map, hl]
      show 3 < sizeLine
      decide
    clear R1 S12
    -- TooFew
    refine ⟨_, rfl, (by show 1 ≤ 1000; decide), fun e ne => ⟨e, _, rfl, upd_same, fun H1 d B nd hd he hdd => ⟨rfl, ?_⟩⟩⟩
    have S1 := made_same ne B
    refine ⟨_, rfl, .inl ⟨rfl, _, .inl (.inl (S1 _ _ G.lst))⟩, _, rfl, _, rfl, e, C 16, d, _, _, rfl, xf_of T (by decide), T.no (16, "many") (by decide +kernel), he, hdd, rfl, _, rfl, ?_⟩
    refine own_eq (Own.same (Same.trans G.same S1) oy) (fun H2 S2 => ?_)
    refine ⟨(by show 3 ≤ sizeLine; decide), fun r nr => ?_⟩
    have S12 : Same _ (upd H2 r (.tup [.int 16, .ref e, .bl true])) := Same.trans S1 (Same.trans S2 (Same.new nr))
    have R1 : RowAt C (upd H2 r (.tup [.int 16, .ref e, .bl true])) r 16 := ⟨by decide, e, upd_same, (made_isE he hdd).same (Same.trans S2 (Same.new nr))⟩
    have G2 := Grow.more G S12 R1
    have GO := G
    have G := G2
    refine ⟨p, _, _, rfl, rfl, S12 _ _ GO.lst, ?_, ?_⟩
    · have hl := Paired.length GO.rows
      rw [List.length_map, hl]
      show 4 < sizeLine
      decide
    clear R1 S12
    -- TooMany
    refine ⟨_, rfl, (by show 1 ≤ 1000; decide), fun e ne => ⟨e, _, rfl, upd_same, fun H1 d B nd hd he hdd => ⟨rfl, ?_⟩⟩⟩
    have S1 := made_same ne B
    refine ⟨_, rfl, .inl ⟨rfl, _, .inl (.inl (S1 _ _ G.lst))⟩, _, rfl, _, rfl, e, C 18, d, _, _, rfl, xf_of T (by decide), T.no (18, "most") (by decide +kernel), he, hdd, rfl, _, rfl, ?_⟩
    refine own_eq (Own.same (Same.trans G.same S1) ox) (fun H2 S2 => ?_)
    refine ⟨(by show 3 ≤ sizeLine; decide), fun r nr => ?_⟩
    have S12 : Same _ (upd H2 r (.tup [.int 18, .ref e, .bl true])) := Same.trans S1 (Same.trans S2 (Same.new nr))
    have R1 : RowAt C (upd H2 r (.tup [.int 18, .ref e, .bl true])) r 18 := ⟨by decide, e, upd_same, (made_isE he hdd).same (Same.trans S2 (Same.new nr))⟩
    have G2 := Grow.more G S12 R1
    have GO := G
    have G := G2
    refine ⟨p, _, _, rfl, rfl, S12 _ _ GO.lst, ?_, ?_⟩
    · have hl := Paired.length GO.rows
      rw [List.length_map, hl]
      show 5 < sizeLine
      decide
    clear R1 S12
    exact ⟨_, rfl, k p _ _ G.same G.lst G.rows⟩
end
end K19

namespace K19
open PySem L2 Bx Ev
theorem lg {n : Nat} (h : n < 2 ^ 64) : n.log2 < 9000 := Nat.lt_trans (PySem.Flt.log2_lt_of (by decide) h) (by decide)
def WellAt (H : Hp) (l : Addr) : Prop := ∃ x y z : Int, H l = some (.lst [.int x, .int y, .int z])
section
variable {P : Program} {w : World} {K : PySem.W.Frag} {mg : Str → Option Value} {base : Heap} {C : Nat → Addr} {C_BehindError C_Program aE aB CK : Addr}
def spWell : Sp := fun vs H Q _ => ∃ (c : Int), vs = [.int c] ∧ ∀ p H', H p = none → Same H H' → WellAt H' p → Q (.ref p) H'
theorem ok_l_well {f : Addr} {fd : FuncData} (F : C8.Def K mg "_law_well" s_l_well f fd) (b : Binds K fd ["_law_cell"] []) (T : Txt K mg C C_BehindError C_Program aE aB) : C8.Cal P w K mg base 1 "_law_well" spWell [] := by
  refine C8.cal0 F b .nil sc_l_well (fun vs H Q E h => ?_) (fun cdv A outer s H vs Q E hr h => ?_)
  · obtain ⟨c, rfl, _⟩ := h
    rfl
  · obtain ⟨c, rfl, k⟩ := h
    refine ⟨_, (pss_one (ps_ret (pe_lst (pa_cons (pe_op op_mul (pv 0) (pe_callTy call_int1 (by rfl) T.z_int (by decide +kernel) (pa_cons (pe_cmpR op_ge (pv 0) (pe_op op_pow pe_int pe_int) (nomark _)) pa_nil))) (pa_cons (pe_op op_mod (pe_callTy call_int1 (by rfl) T.z_int (by decide +kernel) (pa_cons (pv 0) pa_nil)) pe_int) (pa_cons pe_int pa_nil)))))), ?_⟩
    refine ⟨_, rfl, _, rfl, _, _, rfl, rfl, ⟨by decide, by decide, by decide⟩, _, _, rfl, rfl, .inr ⟨_, rfl, _, _, rfl, rfl, .inr ⟨by split <;> decide, by split <;> decide⟩, _, rfl, .inl ⟨_, rfl, _, _, rfl, rfl, (by show (0 : Int) < 2147483587; decide), (by show 3 ≤ sizeLine; decide), fun p hp => ?_⟩⟩⟩
    exact k p _ hp (Same.new hp) ⟨_, _, _, upd_same⟩
def spDraw : Sp := fun vs H Q _ => ∃ (l : Addr) (b : Int), vs = [.ref l, .int b] ∧ WellAt H l ∧ 0 < b ∧ b.natAbs.log2 < 9000 ∧ ∀ (r : Int) (H' : Hp), 0 ≤ r → r < b → WellAt H' l → But l H H' → Q (.int r) H'
theorem ok_l_draw {f : Addr} {fd : FuncData} (F : C8.Def K mg "_law_draw" s_l_draw f fd) (b : Binds K fd ["_law_well_here", "_law_base"] []) (T : Txt K mg C C_BehindError C_Program aE aB) : C8.Cal P w K mg base 1 "_law_draw" spDraw [] := by
  refine C8.cal0 F b .nil sc_l_draw (fun vs H Q E h => ?_) (fun cdv A outer s H vs Q E hr h => ?_)
  · obtain ⟨l, b, rfl, _⟩ := h
    rfl
  · obtain ⟨l, b, rfl, ⟨x, y, z, hW⟩, hb, hlg, k⟩ := h
    refine ⟨_, (pss_cons (ps_if (pt_cmpR op_gt (pe_ix ix_list (pv 0) pe_int (fun _ _ => rfl)) pe_int (nomark _)) (pss_cons (ps_set (i := 2) sc_l_draw.nd rfl (Or.inl rfl) (pe_op op_mod (pe_callTy call_int1 (by rfl) T.z_int (by decide +kernel) (pa_cons (pe_ix ix_list (pv 0) pe_int (fun _ _ => rfl)) pa_nil)) (pv 1)))
    (pss_cons (ps_asg (pe_op op_fdivW (pe_ix ix_list (pv 0) pe_int (fun _ _ => rfl)) (pv 1)) (pg_sub (pv 0) pe_int set_list))
    (pss_one (ps_ret (pv 2))))) pss_nil)
    (pss_cons (ps_asg (pe_op op_add (pe_ix ix_list (pv 0) pe_int (fun _ _ => rfl)) pe_int) (pg_sub (pv 0) pe_int set_list))
    (pss_cons (ps_set (i := 3) sc_l_draw.nd rfl (Or.inl rfl) (pe_op op_mod (pe_callTy call_int1 (by rfl) T.z_int (by decide +kernel) (pa_cons (pe_op op_mul (pe_callTy call_int1 (by rfl) T.z_int (by decide +kernel) (pa_cons (pe_op op_add (pe_op op_add (pe_ix ix_list (pv 0) pe_int (fun _ _ => rfl)) (pe_op op_mul pe_int (pe_ix ix_list (pv 0) pe_int (fun _ _ => rfl)))) pe_int) pa_nil)) pe_int) pa_nil)) pe_int))
    (pss_cons (ps_set (i := 3) sc_l_draw.nd rfl (Or.inl rfl) (pe_op op_mod (pe_callTy call_int1 (by rfl) T.z_int (by decide +kernel) (pa_cons (pe_op op_mul (pv 3) (pe_op op_add (pe_op op_fdiv (pv 3) pe_int) pe_int)) pa_nil)) pe_int))
    (pss_one (ps_ret (pe_op op_mod (pe_op op_fdiv (pe_op op_mod (pe_callTy call_int1 (by rfl) T.z_int (by decide +kernel) (pa_cons (pe_op op_mul (pv 3) (pe_op op_add (pe_op op_fdiv (pv 3) pe_int) pe_int)) pa_nil)) pe_int) pe_int) (pv 1)))))))), ?_⟩
    refine ⟨_, rfl, l, _, _, _, rfl, rfl, SqL.of hW, rfl, _, _, rfl, rfl, _, rfl, ?_⟩
    refine ite2 (fun hx => ?_) (fun hx => ?_)
    · refine ⟨_, rfl, l, _, _, _, rfl, rfl, SqL.of hW, rfl, .inl ⟨_, rfl, _, rfl, _, _, rfl, rfl, hb, ?_⟩⟩
      refine ⟨_, rfl, l, _, _, _, rfl, rfl, SqL.of hW, rfl, _, rfl, _, _, rfl, rfl, ⟨hb, hlg⟩, _, rfl, l, _, _, _, rfl, rfl, hW, rfl, ?_⟩
      refine ⟨_, rfl, ?_⟩
      exact k _ _ (Int.emod_nonneg _ (by omega)) (Int.emod_lt_of_pos _ hb) ⟨_, _, _, upd_same⟩ But.upd
    · refine ⟨_, rfl, l, _, _, _, rfl, rfl, SqL.of hW, rfl, _, _, rfl, rfl, _, rfl, l, _, _, _, rfl, rfl, hW, rfl, ?_⟩
      refine ⟨_, rfl, l, _, _, _, rfl, rfl, SqL.of upd_same, rfl, _, rfl, l, _, _, _, rfl, rfl, SqL.of upd_same, rfl, _, _, rfl, rfl, .inl ⟨by decide, by decide⟩, _, _, rfl, rfl, _, _, rfl, rfl, .inl ⟨_, rfl, _, _, rfl, rfl, .inr ⟨by decide, by decide⟩, .inl ⟨_, rfl, _, _, rfl, rfl, (by show (0 : Int) < 2147483647; decide), ?_⟩⟩⟩
      generalize hn : ((y + 6131 * (z + 1) + 17) * 48271) % 2147483647 = n
      have n0 : 0 ≤ n := by omega
      have n1 : n < 2147483647 := by omega
      refine ⟨_, rfl, _, rfl, _, _, rfl, rfl, ⟨by decide, by decide⟩, _, _, rfl, rfl, _, _, rfl, rfl, .inl ⟨by omega, by omega⟩, .inl ⟨_, rfl, _, _, rfl, rfl, (by show (0 : Int) < 2147483647; decide), ?_⟩⟩
      generalize hm : (n * (n / 1013 + 69621)) % 2147483647 = m
      have m0 : 0 ≤ m := by rw [← hm]; exact Int.emod_nonneg _ (by decide)
      have m1 : m < 2147483647 := by rw [← hm]; exact Int.emod_lt_of_pos _ (by decide)
      refine ⟨_, rfl, _, rfl, _, _, rfl, rfl, ⟨by decide, by decide⟩, _, _, rfl, rfl, _, _, rfl, rfl, .inl ⟨by omega, by omega⟩, .inl ⟨_, rfl, _, _, rfl, rfl, (by show (0 : Int) < 2147483399; decide), _, _, rfl, rfl, ⟨by decide, by decide⟩, _, rfl, _, _, rfl, rfl, hb, ?_⟩⟩
      exact k _ _ (Int.emod_nonneg _ (by omega)) (Int.emod_lt_of_pos _ hb) ⟨_, _, _, upd_same⟩ But.upd
def spOne (K : PySem.W.Frag) : Sp := fun vs H Q _ => ∃ (l p : Addr) (xs : List V), vs = [.ref l, .ref p] ∧ WellAt H l ∧ p ≠ l ∧ SqL K H p xs ∧ 0 < xs.length ∧ xs.length < 100000 ∧ ∀ (v : V) (H' : Hp), v ∈ xs → WellAt H' l → But l H H' → Q v H'
theorem ok_l_one {f : Addr} {fd : FuncData} (F : C8.Def K mg "_law_one" s_l_one f fd) (b : Binds K fd ["_law_well_here", "_law_some"] []) (T : Txt K mg C C_BehindError C_Program aE aB) (K_l_draw : C8.Cal P w K mg base 1 "_law_draw" spDraw []) : C8.Cal P w K mg base 2 "_law_one" (spOne K) [] := by
  refine C8.cal0 F b .nil sc_l_one (fun vs H Q E h => ?_) (fun cdv A outer s H vs Q E hr h => ?_)
  · obtain ⟨l, p, xs, rfl, _⟩ := h
    rfl
  · obtain ⟨l, p, xs, rfl, hW, hpl, hp, h0, h1, k⟩ := h
    refine ⟨_, (pss_one (ps_ret (pe_ix ix_list (pv 1) (C8.pe_c K_l_draw hr (by decide) (by rfl) (pa_cons (pv 0) (pa_cons (pe_callB call_len_seq (by rfl) T.z_len (by decide +kernel) (pa_cons (pv 1) pa_nil)) pa_nil))) (fun _ _ => rfl)))), ?_⟩
    refine ⟨_, rfl, _, rfl, _, rfl, p, _, rfl, .inl hp, l, _, rfl, hW, by omega, lg (by omega), fun r H' r0 r1 W' B' => ?_⟩
    obtain ⟨j, rfl⟩ : ∃ j : Nat, r = (j : Int) := ⟨r.toNat, by omega⟩
    have hj : j < xs.length := by omega
    refine ⟨p, _, _, _, rfl, rfl, B'.seq hpl hp, atI_nat (List.getElem?_eq_getElem hj), ?_⟩
    exact k _ _ (List.getElem_mem hj) W' B'
theorem WellAt.same {H H' : Hp} {l : Addr} (S : Same H H') (W : WellAt H l) : WellAt H' l := by
  obtain ⟨x, y, z, hw⟩ := W
  exact ⟨x, y, z, S _ _ hw⟩
theorem WellAt.ne {H : Hp} {l p : Addr} (W : WellAt H l) (h : H p = none) : p ≠ l := fun e => by
  obtain ⟨x, y, z, hw⟩ := W
  rw [e, hw] at h
  cases h
theorem WellAt.upd {H : Hp} {l p : Addr} {o : HO} (W : WellAt H l) (h : p ≠ l) : WellAt (upd H p o) l := by
  obtain ⟨x, y, z, hw⟩ := W
  exact ⟨x, y, z, by rw [upd_ne h.symm]; exact hw⟩
theorem sz {n : Nat} (h : n ≤ 1000) : n ≤ sizeLine := Nat.le_trans h (by decide)
theorem cut_mem {xs : List V} {lo hi : Option Int} {x : V} (h : x ∈ cutV xs lo hi) : x ∈ xs := by
  unfold cutV at h
  exact List.mem_of_mem_drop (List.mem_of_mem_take h)
/-- the things of which two are drawn -/
structure Things (H : Hp) (CP l : Addr) (n : Int) (q dd u v x t1 t2 : Addr) : Prop where
  w : WellAt H l
  ql : q ≠ l
  hq : H q = some (.lst [.int 1, .int n])
  hd : H dd = some (.dK [(.inr "a", .int n)])
  hu : H u = some (.tup [])
  hv : H v = some (.tup [.int 0, .int 1])
  hx : ∃ (dx : Addr) (fs : List (Str × V)), H x = some (.ins CP dx (("inputs", .ref t1) :: ("block", .ref t2) :: fs))
  h1 : H t1 = some (.tup [.str "n"])
  h2 : H t2 = some (.tup [])
abbrev things (n : Int) (q dd u v x : Addr) : List V := [.int n, .int (-n), .non, .str "word", .ref q, .ref dd, .ref u, .ref v, .ref x, .bl true]
theorem Things.but {H H' : Hp} {CP l q dd u v x t1 t2 : Addr} {n : Int} (t : Things H CP l n q dd u v x t1 t2) (B : But l H H') (W : WellAt H' l) : Things H' CP l n q dd u v x t1 t2 := by
  obtain ⟨a, b, c, hl⟩ := t.w
  obtain ⟨dx, fs, hx⟩ := t.hx
  exact ⟨W, t.ql, B _ _ t.hq t.ql, B _ _ t.hd (ne_of t.hd hl (fun z => by cases z)), B _ _ t.hu (ne_of t.hu hl (fun z => by cases z)), B _ _ t.hv (ne_of t.hv hl (fun z => by cases z)), ⟨dx, fs, B _ _ hx (ne_of hx hl (fun z => by cases z))⟩, B _ _ t.h1 (ne_of t.h1 hl (fun z => by cases z)), B _ _ t.h2 (ne_of t.h2 hl (fun z => by cases z))⟩
theorem eqv_int (n : Int) : PyData.eqv (.int n) (.int n) = true := by simp [PyData.eqv]
theorem eqv_pair (n : Int) : PyData.eqv (.list [.int 1, .int n]) (.list [.int 1, .int n]) = true := by
  simp [PyData.eqv, PyData.eqvAll]
theorem Things.own {H : Hp} {CP l q dd u v x t1 t2 : Addr} {n : Int} (t : Things H CP l n q dd u v x t1 t2) {y : V} (hy : y ∈ things n q dd u v x) : Own K CP H y := by
  obtain ⟨dx, fs, hx⟩ := t.hx
  simp only [things, List.mem_cons, List.not_mem_nil, or_false] at hy
  rcases hy with rfl | rfl | rfl | rfl | rfl | rfl | rfl | rfl | rfl | rfl
  · exact .dat (.int n) rfl (eqv_int n)
  · exact .dat (.int (-n)) rfl (eqv_int _)
  · exact .dat .non rfl (by decide +kernel)
  · exact .dat (.str _) (by decide +kernel) (by decide +kernel)
  · exact .dat (.lst (SqL.of t.hq) (.cons (.int 1) (.cons (.int n) .nil))) rfl (eqv_pair n)
  · exact .dic t.hd rfl
  · exact .dat (.tup (SqT.of t.hu) .nil) (by decide +kernel) (by decide +kernel)
  · exact .dat (.tup (SqT.of t.hv) (.cons (.int 0) (.cons (.int 1) .nil))) (by decide +kernel) (by decide +kernel)
  · exact .prg hx (SqT.of t.h1) (SqT.of t.h2)
  · exact .dat (.bl true) rfl (by decide +kernel)
theorem Rows.get {H : Hp} {r : Addr} : ∀ {rs : List Addr} {ks : List Nat} {i : Nat}, Rows C H rs ks → rs[i]? = some r → ∃ k, RowAt C H r k
  | _, _, 0, .cons q _, e => by
    have e' := Option.some.inj e
    subst e'
    exact ⟨_, q⟩
  | _, _, i + 1, .cons _ t, e => Rows.get (i := i) t e
theorem dpAll_bools {H : Hp} : ∀ (bs : List Bool), DpAll K H (bs.map V.bl) (bs.map PyData.bool)
  | [] => .nil
  | b :: bs => .cons (.bl b) (dpAll_bools bs)
theorem dp_bools {H : Hp} {p : Addr} {bs : List Bool} (h : H p = some (.lst (bs.map V.bl))) : Dp K H (.ref p) (.list (bs.map PyData.bool)) := .lst (SqL.of h) (dpAll_bools bs)
/-- the twenty answers for the class k -/
def ans (k : Nat) : List Bool := (List.range 20).map fun j => decide (j = k)
theorem ans_shaped : ∀ k, k < 20 → SeqAt.shaped (.list ((ans k).map PyData.bool)) = true := by decide +kernel
theorem ans_eqv : ∀ k, k < 20 → PyData.eqv (.list ((ans k).map PyData.bool)) (.list ((ans k).map PyData.bool)) = true := by decide +kernel
theorem if_false_of {c : Bool} {A B : Prop} (hc : c = false) (h : B) : if c = true then A else B := by
  rw [hc, if_neg Bool.false_ne_true]
  exact h
theorem dec_at (j k : Nat) : decide (V.int (0 + (j : Nat)) = V.int (k : Nat)) = decide (j = k) := by
  refine decide_eq_decide.mpr ⟨fun h => ?_, fun h => by rw [h]; simp⟩
  have h' := V.int.inj h
  omega
theorem lst_app {H : Hp} {p : Addr} {xs ys : List Addr} : (upd H p (.lst (xs.map V.ref ++ ys.map V.ref))) p = some (.lst ((xs ++ ys).map V.ref)) := by rw [upd_same, List.map_append]
theorem row0 {Hh : Hp} {e r : Addr} {k : Nat} (hk : k < 20) (ne : Hh e = none) (nr : (upd Hh e (exo e (C k) none)) r = none) : RowAt C (upd (upd Hh e (exo e (C k) none)) r (.tup [.int (k : Nat), .ref e, .bl true])) r k :=
  ⟨hk, e, upd_same, none, Same.new nr _ _ upd_same, fun dd z => by cases z⟩
theorem row0s {Hh : Hp} {e r : Addr} {k : Nat} {t : HO} (ne : Hh e = none) (nr : (upd Hh e (exo e (C k) none)) r = none) : Same Hh (upd (upd Hh e (exo e (C k) none)) r t) := Same.trans (Same.new ne) (Same.new nr)
theorem Rows.app {H : Hp} : ∀ {rs rs2 : List Addr} {ks ks2 : List Nat}, Rows C H rs ks → Rows C H rs2 ks2 → Rows C H (rs ++ rs2) (ks ++ ks2)
  | _, _, _, _, .nil, h => h
  | _, _, _, _, .cons q t, h => .cons q (Rows.app t h)
def spLaw (K : PySem.W.Frag) : Sp := fun vs H Q _ => ∃ (a : Addr) (ns : List Int), vs = [.ref a] ∧ SqL K H a (ns.map V.int) ∧ ns.length ≤ 63 ∧ ∀ H', Q (.bl true) H'
theorem ok_law {f : Addr} {fd : FuncData} (F : C8.Fun K "law" "law" s_law f fd) (T : Txt K mg C C_BehindError C_Program aE aB)
    (K_l_well : C8.Cal P w K mg base 1 "_law_well" spWell []) (K_l_draw : C8.Cal P w K mg base 1 "_law_draw" spDraw []) (K_l_one : C8.Cal P w K mg base 2 "_law_one" (spOne K) [])
    (K_Program : C8.Mak P w K mg base 6 "Program" C_Program (spPI K C_Program) []) (K_l_kinds : C8.Cal P w K mg base 1 "_law_kinds" (spKinds C) [])
    (K_l_first : C8.Cal P w K mg base 3 "_law_first" (spRows K C C_Program [0, 1, 2, 3, 5, 6, 8]) []) (K_l_second : C8.Cal P w K mg base 3 "_law_second" (spRows K C C_Program [9, 11, 13, 15, 16, 18]) []) : FnOk P w K mg base C8.CX0 8 f fd ["_law_script"] (spLaw K) := by
  refine C8.fn0 F sc_law (fun vs H Q E h => ?_) (fun cdv A outer s H vs Q E hr h => ?_)
  · obtain ⟨a, ns, rfl, _⟩ := h
    rfl
  · obtain ⟨a, ns, rfl, hS, hlen, k⟩ := h
    refine ⟨_, (pss_cons (ps_for PassesOwn.never rfl (pi_list (pe_slice sl_list (pe_op op_catS (pv 0) (pe_lst (pa_cons pe_int pa_nil))) po_none (po_some pe_int))) (pg_name (i := 1) sc_law.nd rfl (Or.inl rfl))
    (pss_cons (ps_set (i := 2) sc_law.nd rfl (Or.inl rfl) (C8.pe_c K_l_well hr (by decide) (by rfl) (pa_cons (pv 1) pa_nil)))
    (pss_cons (ps_par (i := 3) (j := 4) (by rfl) sc_law.nd rfl rfl (by decide) rfl rfl (pa_cons (C8.pe_c K_l_draw hr (by decide) (by rfl) (pa_cons (pv 2) (pa_cons (pe_op op_pow pe_int pe_int) pa_nil))) (pa_cons (C8.pe_mk K_Program hr (by decide) (by rfl) (pa_cons (pe_tup (pa_cons pe_str pa_nil)) (pa_cons (pe_tup pa_nil) pa_nil))) pa_nil)) (by rfl))
    (pss_cons (ps_set (i := 5) sc_law.nd rfl (Or.inl rfl) (pe_lst (pa_cons (pv 3) (pa_cons (pe_un un_neg (pv 3)) (pa_cons pe_non (pa_cons pe_str (pa_cons (pe_lst (pa_cons pe_int (pa_cons (pv 3) pa_nil))) (pa_cons (pe_disp (pps_cons pe_str (pv 3) pps_nil) (by rfl) (by rfl) (fun z => by cases z) (by decide)) (pa_cons (pe_tup pa_nil) (pa_cons (pe_tup (pa_cons pe_int (pa_cons pe_int pa_nil))) (pa_cons (pv 4) (pa_cons pe_bl pa_nil))))))))))))
    (pss_cons (ps_par (i := 6) (j := 7) (by rfl) sc_law.nd rfl rfl (by decide) rfl rfl (pa_cons (C8.pe_c K_l_one hr (by decide) (by rfl) (pa_cons (pv 2) (pa_cons (pv 5) pa_nil))) (pa_cons (C8.pe_c K_l_one hr (by decide) (by rfl) (pa_cons (pv 2) (pa_cons (pv 5) pa_nil))) pa_nil)) (by rfl))
    (pss_cons (ps_set (i := 8) sc_law.nd rfl (Or.inl rfl) (pe_op op_catS (C8.pe_c K_l_first hr (by decide) (by rfl) (pa_cons (pv 6) (pa_cons (pv 7) pa_nil))) (C8.pe_c K_l_second hr (by decide) (by rfl) (pa_cons (pv 6) (pa_cons (pv 7) pa_nil)))))
    (pss_cons (ps_set (i := 8) sc_law.nd rfl (Or.inl rfl) (pe_op op_catS (pv 8) (pe_lst (pa_cons (pe_tup (pa_cons pe_int (pa_cons (Ev.pe_mkv0 PySem.F.excBase_ValueError (T.x0 4 (by decide)) (T.g 4 (by decide)) (T.k0 4 (by decide)) (by rfl)) (pa_cons pe_bl pa_nil)))) (pa_cons (pe_tup (pa_cons pe_int (pa_cons (Ev.pe_mkv0 PySem.F.excBase_ValueError (T.x0 7 (by decide)) (T.g 7 (by decide)) (T.k0 7 (by decide)) (by rfl)) (pa_cons pe_bl pa_nil)))) (pa_cons (pe_tup (pa_cons pe_int (pa_cons (Ev.pe_mkv0 PySem.F.excBase_ValueError (T.x0 10 (by decide)) (T.g 10 (by decide)) (T.k0 10 (by decide)) (by rfl)) (pa_cons pe_bl pa_nil)))) (pa_cons (pe_tup (pa_cons pe_int (pa_cons (Ev.pe_mkv0 PySem.F.excBase_ValueError (T.x0 12 (by decide)) (T.g 12 (by decide)) (T.k0 12 (by decide)) (by rfl)) (pa_cons pe_bl pa_nil)))) pa_nil)))))))
    (pss_cons (ps_set (i := 8) sc_law.nd rfl (Or.inl rfl) (pe_op op_catS (pv 8) (pe_lst (pa_cons (pe_tup (pa_cons pe_int (pa_cons (Ev.pe_mkv0 PySem.F.excBase_ValueError (T.x0 14 (by decide)) (T.g 14 (by decide)) (T.k0 14 (by decide)) (by rfl)) (pa_cons pe_bl pa_nil)))) (pa_cons (pe_tup (pa_cons pe_int (pa_cons (Ev.pe_mkv0 PySem.F.excBase_ValueError (T.x0 17 (by decide)) (T.g 17 (by decide)) (T.k0 17 (by decide)) (by rfl)) (pa_cons pe_bl pa_nil)))) (pa_cons (pe_tup (pa_cons pe_int (pa_cons (Ev.pe_mkv0 PySem.F.excBase_ValueError (T.x0 19 (by decide)) (T.g 19 (by decide)) (T.k0 19 (by decide)) (by rfl)) (pa_cons pe_bl pa_nil)))) pa_nil))))))
    (pss_one (ps_for PassesOwn.never rfl (pi_list (pv 8)) (pg_tup (by rfl) (pgs_cons (pg_name (i := 9) sc_law.nd rfl (Or.inr rfl)) (pgs_cons (pg_name (i := 10) sc_law.nd rfl (Or.inl rfl)) (pgs_cons (pg_name (i := 11) sc_law.nd rfl (Or.inl rfl)) pgs_nil))))
    (pss_cons (ps_if (PW.pt (pw_or (pt_not (pt_truth (pv 11) (by intro _; rfl))) (pw_or (pt_not (pt_val (pe_callB Ev.call_isV (by rfl) T.z_isinstance (by decide +kernel) (pa_cons (pv 10) (pa_cons (pe_glob (v := .ref C_BehindError) (by rfl) T.g_BehindError rfl) pa_nil))))) (pw_or1 (pt_not (pt_val (pe_callB Ev.call_isV (by rfl) T.z_isinstance (by decide +kernel) (pa_cons (pv 10) (pa_cons (pe_bltn (v := .ty "ValueError") (by rfl) T.z_ValueError (by decide +kernel) rfl) pa_nil))))))))) (pss_one (ps_ret pe_bl)) pss_nil)
    (pss_one (ps_if (pt_cmpR (op_neD hr.units) (C8.pe_c K_l_kinds hr (by decide) (by rfl) (pa_cons (pv 10) pa_nil)) (pe_lc (own := [("_law_k", 12)]) (g := gName 12) (tt := tYes) rfl sc_law.nd (pi_range1 (by rfl) T.z_range (pa_cons pe_int pa_nil)) (blkOk_by (own := [("_law_k", 12)]) (N := N_law) (sc := C8.fnScope s_law) (by decide +kernel)) (fun _ _ _ _ _ => (pg_name (i := 12) sc_law.nd rfl (Or.inl rfl))) (fun _ _ _ _ _ => pts_nil) (fun _ _ _ _ _ => (pe_cmpR op_eq (pv 12) (pv 9) (nomark _)))) (nomark _)) (pss_one (ps_ret pe_bl)) pss_nil)))))))))))))
    (pss_one (ps_ret pe_bl))), ?_⟩
    refine ⟨_, rfl, sz (by simp), fun z nz => ⟨a, z, _, _, rfl, rfl, (Same.new nz).seq hS, SqL.of upd_same, sz (by simp; omega), fun y ny => ⟨_, rfl, y, _, rfl, SqL.of upd_same, fun t nt => ⟨t, rfl, ⟨_, SqL.of upd_same⟩, ?_⟩⟩⟩⟩
    generalize hcs : cutV (ns.map V.int ++ [.int 0]) none (some 10) = cs
    have hint : ∀ x ∈ cs, ∃ c, x = V.int c := fun x hx => by
      rw [← hcs] at hx
      rcases List.mem_append.mp (cut_mem hx) with h | h
      · obtain ⟨c, _, rfl⟩ := List.mem_map.mp h
        exact ⟨c, rfl⟩
      · exact ⟨0, by simpa using h⟩
    refine for_list (xs := cs) (fun i σ H' => ∃ (v1 v2 v3 v4 v5 v6 v7 v8 v9 v10 v11 v12 : Option V), σ = [some (.ref a), v1, v2, v3, v4, v5, v6, v7, v8, v9, v10, v11, v12] ∧ H' t = some (.lst cs)) ⟨none, none, none, none, none, none, none, none, none, none, none, none, rfl, upd_same⟩ (fun i σ H' _ h => ?_) ?_ ?_
    · obtain ⟨_, _, _, _, _, _, _, _, _, _, _, _, _, h⟩ := h
      exact SqL.of h
    · rintro i x σ H0 hx ⟨v1, v2, v3, v4, v5, v6, v7, v8, v9, v10, v11, v12, rfl, ht⟩
      obtain ⟨cc, rfl⟩ := hint x (List.mem_of_getElem? hx)
      refine ⟨_, rfl, cc, rfl, fun l H1 nl S1 W1 => ?_⟩
      refine ⟨_, rfl, _, _, rfl, rfl, ⟨by decide, by decide, by decide⟩, l, _, rfl, W1, by decide, by decide +kernel, fun r H2 r0 r1 W2 B2 => ?_⟩
      have htl : t ≠ l := fun z => by rw [z, nl] at ht; cases ht
      have ht2 := B2 _ _ (S1 _ _ ht) htl
      refine ⟨(by show 1 ≤ sizeLine; decide), fun t1 n1 => ⟨(by show 0 ≤ sizeLine; decide), fun t2 n2 => fun x dx nx ndx hne => ?_⟩⟩
      have S3 := Same.trans (Same.new (o := HO.tup [.str "n"]) n1) (Same.new (o := HO.tup []) n2)
      have hP1 : (upd (upd H2 t1 (.tup [.str "n"])) t2 (.tup [])) t1 = some (.tup [.str "n"]) := Same.new n2 _ _ upd_same
      have hP2 : (upd (upd H2 t1 (.tup [.str "n"])) t2 (.tup [])) t2 = some (.tup []) := upd_same
      have S4 : Same (upd (upd H2 t1 (.tup [.str "n"])) t2 (.tup [])) _ := Same.mut (o := .ins C_Program dx []) (Same.new (o := .own x) ndx) nx
      refine ⟨x, dx, t1, t2, rfl, upd_same, SqT.of (S4 _ _ hP1), SqT.of (S4 _ _ hP2), fun H3 fs3 B3 hx3 => ⟨rfl, ?_⟩⟩
      have S24 : Same (upd (upd H2 t1 (.tup [.str "n"])) t2 (.tup [])) H3 := made_same (o := .ins C_Program dx []) nx (fun b o e hb => B3 b o (by rw [upd_ne hb] at e ⊢; exact Same.new ndx b o e) hb)
      have S23 : Same H2 H3 := Same.trans S3 S24
      have W3 := W2.same S23
      have ht3 := S23 _ _ ht2
      have hp1 := S24 _ _ hP1
      have hp2 := S24 _ _ hP2
      have K3 : Same H0 H3 ∨ True := .inr True.intro
      clear K3 S24 S4 hP1 hP2 B3
      refine ⟨_, _, rfl, ?_⟩
      refine ⟨_, rfl, _, rfl, r, rfl, ⟨_, rfl, (by show 2 ≤ sizeLine; decide), fun q nq => ?_⟩⟩
      have Sq := Same.new (o := HO.lst [.int 1, .int r]) nq
      intro dd ndd
      refine ⟨_, rfl, upd_same, [(.inr "a", .int r)], rfl, (show (1 : Nat) ≤ 15 by decide), (by show 0 ≤ sizeLine; decide), fun u nu => ⟨(by show 2 ≤ sizeLine; decide), fun v nv => ⟨_, rfl, (by show 10 ≤ sizeLine; decide), fun sm nsm => ?_⟩⟩⟩
      have Sdd : Same (upd H3 q (.lst [.int 1, .int r])) (upd (upd (upd H3 q (.lst [.int 1, .int r])) dd (.dK [])) dd (.dK (mergeK [] [(Sum.inr "a", V.int r)]))) := Same.mut (Same.new ndd) ndd
      have hq3 := Sdd _ _ (show (upd H3 q (.lst [.int 1, .int r])) q = some (.lst [.int 1, .int r]) from upd_same)
      have hdd3 : (upd (upd (upd H3 q (.lst [.int 1, .int r])) dd (.dK [])) dd (.dK (mergeK [] [(Sum.inr "a", V.int r)]))) dd = some (.dK [(.inr "a", .int r)]) := upd_same
      have Su := Same.new (o := HO.tup []) nu
      have Sv := Same.new (o := HO.tup [.int 0, .int 1]) nv
      have Ssm := Same.new (o := HO.lst (things r q dd u v x)) nsm
      have S3s := Same.trans Sq (Same.trans Sdd (Same.trans Su (Same.trans Sv Ssm)))
      have Sds := Same.trans Su (Same.trans Sv Ssm)
      have Th : Things (upd _ sm (.lst (things r q dd u v x))) C_Program l r q dd u v x t1 t2 :=
        ⟨W3.same S3s, W3.ne nq, Sds _ _ hq3, Sds _ _ hdd3, Same.trans Sv Ssm _ _ upd_same, Ssm _ _ upd_same, ⟨dx, fs3, S3s _ _ hx3⟩, S3s _ _ hp1, S3s _ _ hp2⟩
      have hsm : sm ≠ l := (W3.same (Same.trans Sq (Same.trans Sdd (Same.trans Su Sv)))).ne nsm
      have hts := S3s _ _ ht3
      refine ⟨_, rfl, _, rfl, l, sm, _, rfl, Th.w, hsm, SqL.of upd_same, (by show (0 : Nat) < 10; decide), (by show (10 : Nat) < 100000; decide), fun va H5 hva W5 B5 => ?_⟩
      have Th5 := Th.but B5 W5
      refine ⟨_, rfl, _, rfl, l, sm, _, rfl, W5, hsm, SqL.of (B5 _ _ upd_same hsm), (by show (0 : Nat) < 10; decide), (by show (10 : Nat) < 100000; decide), fun vb H6 hvb W6 B6 => ?_⟩
      have Th6 := Th5.but B6 W6
      have oa : Own K C_Program _ va := Th6.own hva
      have ob : Own K C_Program _ vb := Th6.own hvb
      have ht6 := B6 _ _ (B5 _ _ hts htl) htl
      clear Th Th5 Th6 hts B5 B6 Sds S3s Ssm Sv Su Sdd hq3 hdd3 nsm nv nu ndd nq Sq
      refine ⟨_, _, rfl, ?_⟩
      refine ⟨_, rfl, _, rfl, va, vb, rfl, oa, ob, fun p1 H7 rs1 S7 h7 R7 => ?_⟩
      refine ⟨_, rfl, _, rfl, va, vb, rfl, oa.same S7, ob.same S7, fun p2 H8 rs2 S8 h8 R8 => ?_⟩
      have l7 : rs1.length = 7 := Paired.length R7
      have l8 : rs2.length = 6 := Paired.length R8
      refine ⟨p1, p2, _, _, rfl, rfl, SqL.of (S8 _ _ h7), SqL.of h8, sz (by rw [List.length_map, List.length_map]; omega), fun p3 n3 => ?_⟩
      have S9 := Same.trans S8 (Same.new (o := HO.lst (rs1.map V.ref ++ rs2.map V.ref)) n3)
      have R9 := Rows.app (R7.same S9) (R8.same (Same.new (o := HO.lst (rs1.map V.ref ++ rs2.map V.ref)) n3))
      have h9 : (upd H8 p3 (.lst (rs1.map V.ref ++ rs2.map V.ref))) p3 = some (.lst ((rs1 ++ rs2).map V.ref)) := by rw [upd_same, List.map_append]
      have t9 := S9 _ _ (S7 _ _ ht6)
      refine ⟨_, rfl, fun e4 m4 => ⟨(by show 3 ≤ sizeLine; decide), fun r4 w4 => fun e7 m7 => ⟨(by show 3 ≤ sizeLine; decide), fun r7 w7 => fun e10 m10 => ⟨(by show 3 ≤ sizeLine; decide), fun r10 w10 => fun e12 m12 => ⟨(by show 3 ≤ sizeLine; decide), fun r12 w12 => ⟨(by show 4 ≤ sizeLine; decide), fun q10 z10 => ?_⟩⟩⟩⟩⟩⟩
      have T4 := row0s (C := C) (k := 4) (t := .tup [.int 4, .ref e4, .bl true]) m4 w4
      have A4 := row0 (C := C) (k := 4) (by decide) m4 w4
      have T7 := row0s (C := C) (k := 7) (t := .tup [.int 7, .ref e7, .bl true]) m7 w7
      have A7 := row0 (C := C) (k := 7) (by decide) m7 w7
      have T10 := row0s (C := C) (k := 10) (t := .tup [.int 10, .ref e10, .bl true]) m10 w10
      have A10 := row0 (C := C) (k := 10) (by decide) m10 w10
      have T12 := row0s (C := C) (k := 12) (t := .tup [.int 12, .ref e12, .bl true]) m12 w12
      have A12 := row0 (C := C) (k := 12) (by decide) m12 w12
      have Z10 := Same.new (o := HO.lst [.ref r4, .ref r7, .ref r10, .ref r12]) z10
      have U10 := (Same.trans T4 (Same.trans T7 (Same.trans T10 (Same.trans T12 Z10))))
      refine ⟨p3, q10, _, _, rfl, rfl, SqL.of (U10 _ _ h9), SqL.of upd_same, ?_, fun p10 n10 => ?_⟩
      · rw [List.length_map, Paired.length R9]
        show 17 ≤ sizeLine
        decide
      have V10 := Same.new (o := HO.lst ((rs1 ++ rs2).map V.ref ++ [.ref r4, .ref r7, .ref r10, .ref r12])) n10
      have R10 := Rows.app (R9.same (Same.trans U10 V10)) ((.cons (A4.same (Same.trans (Same.trans T7 (Same.trans T10 (Same.trans T12 Z10))) V10)) (.cons (A7.same (Same.trans (Same.trans T10 (Same.trans T12 Z10)) V10)) (.cons (A10.same (Same.trans (Same.trans T12 Z10) V10)) (.cons (A12.same (Same.trans Z10 V10)) .nil)))))
      have t10 := Same.trans U10 V10 _ _ t9
      refine ⟨_, rfl, fun e14 m14 => ⟨(by show 3 ≤ sizeLine; decide), fun r14 w14 => fun e17 m17 => ⟨(by show 3 ≤ sizeLine; decide), fun r17 w17 => fun e19 m19 => ⟨(by show 3 ≤ sizeLine; decide), fun r19 w19 => ⟨(by show 3 ≤ sizeLine; decide), fun q11 z11 => ?_⟩⟩⟩⟩⟩
      have T14 := row0s (C := C) (k := 14) (t := .tup [.int 14, .ref e14, .bl true]) m14 w14
      have A14 := row0 (C := C) (k := 14) (by decide) m14 w14
      have T17 := row0s (C := C) (k := 17) (t := .tup [.int 17, .ref e17, .bl true]) m17 w17
      have A17 := row0 (C := C) (k := 17) (by decide) m17 w17
      have T19 := row0s (C := C) (k := 19) (t := .tup [.int 19, .ref e19, .bl true]) m19 w19
      have A19 := row0 (C := C) (k := 19) (by decide) m19 w19
      have Z11 := Same.new (o := HO.lst [.ref r14, .ref r17, .ref r19]) z11
      have U11 := (Same.trans T14 (Same.trans T17 (Same.trans T19 Z11)))
      refine ⟨p10, q11, _, _, rfl, rfl, SqL.of (U11 _ _ (lst_app (xs := rs1 ++ rs2) (ys := [r4, r7, r10, r12]))), SqL.of upd_same, ?_, fun p11 n11 => ?_⟩
      · rw [List.length_map, Paired.length R10]
        show 20 ≤ sizeLine
        decide
      have V11 := Same.new (o := HO.lst ((rs1 ++ rs2 ++ [r4, r7, r10, r12]).map V.ref ++ [.ref r14, .ref r17, .ref r19])) n11
      have R11 := Rows.app (R10.same (Same.trans U11 V11)) ((.cons (A14.same (Same.trans (Same.trans T17 (Same.trans T19 Z11)) V11)) (.cons (A17.same (Same.trans (Same.trans T19 Z11) V11)) (.cons (A19.same (Same.trans Z11 V11)) .nil))))
      have t11 := Same.trans U11 V11 _ _ t10
      refine ⟨_, rfl, p11, rfl, ⟨_, SqL.of (lst_app (xs := rs1 ++ rs2 ++ [r4, r7, r10, r12]) (ys := [r14, r17, r19]))⟩, ?_⟩
      refine for_list (xs := (rs1 ++ rs2 ++ [r4, r7, r10, r12] ++ [r14, r17, r19]).map V.ref) (fun j σ H' => ∃ (v9 v10 v11 v12 : Option V), σ = [some (.ref a), some (.int cc), some (.ref l), some (.int r), some (.ref x), some (.ref sm), some va, some vb, some (.ref p11), v9, v10, v11, v12] ∧
        Rows C H' (rs1 ++ rs2 ++ [r4, r7, r10, r12] ++ [r14, r17, r19]) ([0, 1, 2, 3, 5, 6, 8] ++ [9, 11, 13, 15, 16, 18] ++ [4, 7, 10, 12] ++ [14, 17, 19]) ∧ H' t = some (.lst cs) ∧ H' p11 = some (.lst ((rs1 ++ rs2 ++ [r4, r7, r10, r12] ++ [r14, r17, r19]).map V.ref)))
        ⟨v9, v10, v11, v12, rfl, R11, t11, lst_app (xs := rs1 ++ rs2 ++ [r4, r7, r10, r12]) (ys := [r14, r17, r19])⟩ (fun j σ H' _ h => ?_) ?_ ?_
      · obtain ⟨_, _, _, _, _, _, _, h⟩ := h
        exact SqL.of h
      · rintro j xx σ H' hxx ⟨v9, v10, v11, v12, rfl, R', t', hp'⟩
        rw [List.getElem?_map] at hxx
        obtain ⟨rr, hrr, rfl⟩ := Option.map_eq_some_iff.mp hxx
        obtain ⟨kk, hkk, e, hrow, hE⟩ := Rows.get R' hrr
        obtain ⟨d, e1, e2⟩ := id hE
        refine ⟨rr, _, rfl, SqT.of hrow, rfl, _, _, rfl, _, _, rfl, _, _, rfl, rfl, ?_⟩
        refine ⟨_, rfl, true, rfl, iteF ?_⟩
        refine ⟨_, rfl, e, C kk, d, _, _, _, rfl, T.exc kk hkk, fun u r => r, e1, e2, T.kitB kk hkk, _, rfl, iteF ?_⟩
        refine ⟨_, rfl, e, C kk, d, _, _, _, rfl, T.exc kk hkk, fun u r => r, e1, e2, T.kitV kk hkk, _, rfl, iteF ?_⟩
        refine ⟨_, rfl, e, kk, rfl, hkk, hE, fun pk Hk Sk hpk => ⟨_, rfl, by omega, by omega, fun D nD => ?_⟩⟩
        refine lc_range (lo := 0) (n := Int.toNat 20) (fun j H' => Same Hk H' ∧ H' D = some (.lst (((List.range j).map fun i => decide (i = kk)).map V.bl))) ⟨Same.new nD, upd_same⟩ ?_ ?_
        · rintro j H1 hj ⟨S1, h1⟩
          have hj2 : j < 20 := hj
          refine ⟨rfl, _, rfl, _, rfl, rfl, _, h1, Nat.lt_of_le_of_lt (show _ ≤ 1000 by simp; omega) (by decide), Same.mut S1 nD, ?_⟩
          rw [upd_same, List.range_succ, List.map_append, List.map_append, dec_at]
          rfl
        · rintro H1 ⟨S1, h1⟩
          have dl : Dp K H1 (.ref pk) (.list ((ans kk).map PyData.bool)) := dp_bools (by rw [S1 _ _ hpk]; simp only [ans, List.map_map]; rfl)
          have dr : Dp K H1 (.ref D) (.list ((ans kk).map PyData.bool)) := dp_bools h1
          refine ⟨_, _, dl, dr, ans_shaped kk hkk, ans_shaped kk hkk, _, rfl, if_false_of (by rw [ans_eqv kk hkk]; rfl) ?_⟩
          have Sf := Same.trans Sk S1
          exact ⟨_, _, _, _, rfl, R'.same Sf, Sf _ _ t', Sf _ _ hp'⟩
      · rintro σ H' ⟨v9, v10, v11, v12, rfl, R', t', hp'⟩
        exact ⟨_, _, _, _, _, _, _, _, _, _, _, _, rfl, t'⟩
    · rintro σ H0 _
      exact k H0
end
end K19

namespace K19
open PySem L2 Bx Ev
/-- what the written part says of one class of errors -/
def excB (K : PySem.W.Frag) (CB c : Addr) : Bool :=
  decide (PySem.W.findIn K (.ref c) "__getattribute__" = some (some (.builtin "BaseException.__getattribute__"))) && (decide (PySem.W.findIn K (.ref c) "__getattr__" = some none) && (decide (PySem.W.subIn K (.ref c) (.type "BaseException") = some true) && (PySem.W.hasDictIn K c &&
  (decide (PySem.W.findIn K (.ref c) "__class__" = some (some (.builtin "object.__class__"))) && (decide (PySem.W.mroIn K c (.type "object") = some true) && (decide (PySem.W.kitOne K (.ref c) (.ref CB) = some true) && (decide (PySem.W.kitOne K (.ref c) (.type "ValueError") = some true) && (PySem.W.keepIn K (.ref c) &&
  (decide (PySem.W.findIn K (.ref c) "__setattr__" = some (some (.builtin "object.__setattr__"))) && decide (PySem.W.typeIn K (.ref c) = some (.type "type")))))))))))
def kitB (K : PySem.W.Frag) (Cs : List Addr) : Bool := (List.range 20).all fun i => (List.range 20).all fun j => decide (PySem.W.kitOne K (.ref (Cs.getD i 0)) (.ref (Cs.getD j 0)) = some (decide (j = i)))
theorem kitB_ok {K : PySem.W.Frag} {Cs : List Addr} (h : kitB K Cs = true) : ∀ i j, i < 20 → j < 20 → PySem.W.kitOne K (.ref (Cs.getD i 0)) (.ref (Cs.getD j 0)) = some (decide (j = i)) := fun i j hi hj =>
  of_decide_eq_true (List.all_eq_true.mp (List.all_eq_true.mp h i (List.mem_range.mpr hi)) j (List.mem_range.mpr hj))
theorem excB_ok {K : PySem.W.Frag} {CB c : Addr} (xn : PySem.W.specialIn K (.builtin "object.__class__") "__get__" = some (some (.builtin "getset_descriptor.__get__"))) (xt : PySem.W.takesIn K (.builtin "object.__class__") = some true) (h : excB K CB c = true) :
    ExcC K c ∧ PySem.W.kitOne K (.ref c) (.ref CB) = some true ∧ PySem.W.kitOne K (.ref c) (.type "ValueError") = some true ∧ PySem.W.keepIn K (.ref c) = true ∧ PySem.W.findIn K (.ref c) "__setattr__" = some (some (.builtin "object.__setattr__")) ∧ PySem.W.typeIn K (.ref c) = some (.type "type") := by
  unfold excB at h
  simp only [Bool.and_eq_true, decide_eq_true_eq] at h
  obtain ⟨h1, h2, h3, h4, h5, h6, h7, h8, h9, h10, h11⟩ := h
  exact ⟨⟨h1, h2, h3, h4, h5, xn, xt, h6⟩, h7, h8, h9, h10, h11⟩
theorem seqK_ok {K : PySem.W.Frag} {a : Addr} {od : Option Addr} {its : Array Value} {n : Nat} {sl : Array (Option Value)} {vs : List V} (l : K.lookup a = some ⟨.type "tuple", od, .seq its n, sl⟩) (h : (decide (its.size ≤ sizeLine) && He.relAll vs its.toList) = true) (H : Hp) : SqT K H a vs := by
  obtain ⟨h1, h2⟩ := Bool.and_eq_true_iff.mp h
  exact .inr ⟨_, its, n, l, rfl, rfl, of_decide_eq_true h1, He.relAll_ok h2⟩
theorem typ_of_fn {K : PySem.W.Frag} {f : Addr} (h : PySem.W.isFn K (.ref f) = true) : PySem.W.typeIn K (.ref f) = some (.type "function") := beq_iff_eq.mp h
theorem cls_of {K : PySem.W.Frag} {c : Addr} (h : (PySem.W.plainGet K c Str.empty && (PySem.W.hasDictIn K c && (PySem.W.plainOver K c && decide (PySem.W.findIn K (.ref c) "__setattr__" = some (some (.builtin "object.__setattr__")))))) = true) : Cls K c := by
  simp only [Bool.and_eq_true, decide_eq_true_eq] at h
  obtain ⟨h1, h2, h3, h4⟩ := h
  exact ⟨h1, h2, h3, h4⟩
theorem all_mk {l : PySem.W.OpenLaw} {w : World} {K : PySem.W.Frag} {h : Heap} {mg : Str → Option Value}
    {Ca0 Ca1 Ca2 Ca3 Ca4 Ca5 Ca6 Ca7 Ca8 Ca9 Ca10 Ca11 Ca12 Ca13 Ca14 Ca15 Ca16 Ca17 Ca18 Ca19 CB CP CK aE aB fa f0 f1 f2 f3 f4 f5 f6 f7 f8 f9 f10 g_x0 g_x1 g_x2 g_x3 g_x5 g_x6 g_x8 g_x9 g_x11 g_x13 g_x15 g_x16 g_x18 g_ci g_cb g_pi g_pq : Addr}
    {od0 an0 od1 an1 od2 an2 od3 an3 od4 an4 od5 an5 od6 an6 od7 an7 od8 an8 od9 an9 od10 an10 od_x0 an_x0 od_x1 an_x1 od_x2 an_x2 od_x3 an_x3 od_x5 an_x5 od_x6 an_x6 od_x8 an_x8 od_x9 an_x9 od_x11 an_x11 od_x13 an_x13 od_x15 an_x15 od_x16 an_x16 od_x18 an_x18 od_ci an_ci od_cb an_cb od_pi an_pi od_pq an_pq : Option Addr}
    {sl0 sl1 sl2 sl3 sl4 sl5 sl6 sl7 sl8 sl9 sl10 sl_x0 sl_x1 sl_x2 sl_x3 sl_x5 sl_x6 sl_x8 sl_x9 sl_x11 sl_x13 sl_x15 sl_x16 sl_x18 sl_ci sl_cb sl_pi sl_pq : Array (Option Value)}
    {oc0 kV0 dc0 pm0 cd0 ct0 oc1 kV1 dc1 pm1 cd1 ct1 oc2 kV2 dc2 pm2 cd2 ct2 oc3 kV3 dc3 pm3 cd3 ct3 oc4 kV4 dc4 pm4 cd4 ct4 oc5 kV5 dc5 pm5 cd5 ct5 oc6 kV6 dc6 pm6 cd6 ct6 oc7 kV7 dc7 pm7 cd7 ct7 oc8 kV8 dc8 pm8 cd8 ct8 oc9 kV9 dc9 pm9 cd9 ct9 oc10 kV10 dc10 pm10 cd10 ct10 oc_x0 kV_x0 dc_x0 pm_x0 cd_x0 ct_x0 oc_x1 kV_x1 dc_x1 pm_x1 cd_x1 ct_x1 oc_x2 kV_x2 dc_x2 pm_x2 cd_x2 ct_x2 oc_x3 kV_x3 dc_x3 pm_x3 cd_x3 ct_x3 oc_x5 kV_x5 dc_x5 pm_x5 cd_x5 ct_x5 oc_x6 kV_x6 dc_x6 pm_x6 cd_x6 ct_x6 oc_x8 kV_x8 dc_x8 pm_x8 cd_x8 ct_x8 oc_x9 kV_x9 dc_x9 pm_x9 cd_x9 ct_x9 oc_x11 kV_x11 dc_x11 pm_x11 cd_x11 ct_x11 oc_x13 kV_x13 dc_x13 pm_x13 cd_x13 ct_x13 oc_x15 kV_x15 dc_x15 pm_x15 cd_x15 ct_x15 oc_x16 kV_x16 dc_x16 pm_x16 cd_x16 ct_x16 oc_x18 kV_x18 dc_x18 pm_x18 cd_x18 ct_x18 oc_ci kV_ci dc_ci pm_ci cd_ci ct_ci oc_cb kV_cb dc_cb pm_cb cd_cb ct_cb oc_pi kV_pi dc_pi pm_pi cd_pi ct_pi oc_pq kV_pq dc_pq pm_pq cd_pq ct_pq : Value}
    {nm0 q0 nm1 q1 nm2 q2 nm3 q3 nm5 q5 nm6 q6 nm8 q8 nm9 q9 nm11 q11 nm13 q13 nm15 q15 nm16 q16 nm18 q18 : Str}
    {N0 N1 N2 N3 N5 N6 N8 N9 N11 N13 N15 N16 N18 : Addr}
    {bs0 sub0 bs1 sub1 bs2 sub2 bs3 sub3 bs5 sub5 bs6 sub6 bs8 sub8 bs9 sub9 bs11 sub11 bs13 sub13 bs15 sub15 bs16 sub16 bs18 sub18 : List Value}
    {sn0 sn1 sn2 sn3 sn5 sn6 sn8 sn9 sn11 sn13 sn15 sn16 sn18 : List Str}
    {ab0 ab1 ab2 ab3 ab5 ab6 ab8 ab9 ab11 ab13 ab15 ab16 ab18 : Bool}
    {col0 col1 col2 col3 col5 col6 col8 col9 col11 col13 col15 col16 col18 : Option Bool}
    {dd0 dd1 dd2 dd3 dd5 dd6 dd8 dd9 dd11 dd13 dd15 dd16 dd18 : Option Addr}
    {m0_0 m1_0 m2_0 m3_0 m5_0 m0_1 m1_1 m2_1 m3_1 m5_1 m0_2 m1_2 m2_2 m3_2 m5_2 m0_3 m1_3 m2_3 m3_3 m5_3 m0_5 m1_5 m2_5 m3_5 m5_5 m0_6 m1_6 m2_6 m3_6 m5_6 m0_8 m1_8 m2_8 m3_8 m5_8 m0_9 m1_9 m2_9 m3_9 m5_9 m0_11 m1_11 m2_11 m3_11 m5_11 m0_13 m1_13 m2_13 m3_13 m5_13 m0_15 m1_15 m2_15 m3_15 m5_15 m0_16 m1_16 m2_16 m3_16 m5_16 m0_18 m1_18 m2_18 m3_18 m5_18 : Option Value}
    {odE : Option Addr} {itsE : Array Value} {esB : Array DictEntry} {nE nB : Nat} {slE : Array (Option Value)} {tkO : Tok}
    (X : K.In h) (G : h.Ns mainGlobals mg) (hfa : mg "law" = some (.ref fa))
    (aE0 : PySem.W.nsIn K mainGlobals "BadChoices" = some (some (.ref Ca0)))
    (aE1 : PySem.W.nsIn K mainGlobals "BadProgram" = some (some (.ref Ca1)))
    (aE2 : PySem.W.nsIn K mainGlobals "BadStates" = some (some (.ref Ca2)))
    (aE3 : PySem.W.nsIn K mainGlobals "BadText" = some (some (.ref Ca3)))
    (aE4 : PySem.W.nsIn K mainGlobals "Ended" = some (some (.ref Ca4)))
    (aE5 : PySem.W.nsIn K mainGlobals "Never" = some (some (.ref Ca5)))
    (aE6 : PySem.W.nsIn K mainGlobals "NoAnswers" = some (some (.ref Ca6)))
    (aE7 : PySem.W.nsIn K mainGlobals "NoInputs" = some (some (.ref Ca7)))
    (aE8 : PySem.W.nsIn K mainGlobals "NoLiterals" = some (some (.ref Ca8)))
    (aE9 : PySem.W.nsIn K mainGlobals "NoName" = some (some (.ref Ca9)))
    (aE10 : PySem.W.nsIn K mainGlobals "NoPath" = some (some (.ref Ca10)))
    (aE11 : PySem.W.nsIn K mainGlobals "NoPlace" = some (some (.ref Ca11)))
    (aE12 : PySem.W.nsIn K mainGlobals "NoStates" = some (some (.ref Ca12)))
    (aE13 : PySem.W.nsIn K mainGlobals "NoSteps" = some (some (.ref Ca13)))
    (aE14 : PySem.W.nsIn K mainGlobals "NoValues" = some (some (.ref Ca14)))
    (aE15 : PySem.W.nsIn K mainGlobals "NoWay" = some (some (.ref Ca15)))
    (aE16 : PySem.W.nsIn K mainGlobals "TooFew" = some (some (.ref Ca16)))
    (aE17 : PySem.W.nsIn K mainGlobals "TooLong" = some (some (.ref Ca17)))
    (aE18 : PySem.W.nsIn K mainGlobals "TooMany" = some (some (.ref Ca18)))
    (aE19 : PySem.W.nsIn K mainGlobals "Unlike" = some (some (.ref Ca19)))
    (gB : PySem.W.nsIn K mainGlobals "BehindError" = some (some (.ref CB)))
    (gP : PySem.W.nsIn K mainGlobals "Program" = some (some (.ref CP)))
    (gK : PySem.W.nsIn K mainGlobals "Check" = some (some (.ref CK)))
    (gE : PySem.W.nsIn K mainGlobals "END" = some (some (.ref aE)))
    (gBA : PySem.W.nsIn K mainGlobals "BARRED" = some (some (.ref aB)))
    (gO : PySem.W.nsIn K mainGlobals "LONGEST" = some (some (.int 8 tkO)))
    (lkE : K.lookup aE = some ⟨.type "tuple", odE, .seq itsE nE, slE⟩)
    (lkB : K.lookup aB = some ⟨.type "dict", none, .dict esB nB, #[]⟩)
    (rE : (decide (itsE.size ≤ sizeLine) && He.relAll [V.str "end"] itsE.toList) = true)
    (litB : PySem.W.KeysLit w.params esB.toList)
    (lowB : (aB == sysModules) = false)
    (strB : esB.toList.map (fun e => Kd.strOf e.key) = barred.map some)
    (xL0 : K.lookup Ca0 = some (PySem.excClassObj nm0 q0 Ca0 N0 bs0 [.ref CB, .type "ValueError", .type "Exception", .type "BaseException", .type "object"] true sn0 sub0 ab0 col0 dd0 m0_0 m1_0 m2_0 m3_0 m5_0 "ValueError.__new__"))
    (xL1 : K.lookup Ca1 = some (PySem.excClassObj nm1 q1 Ca1 N1 bs1 [.ref CB, .type "ValueError", .type "Exception", .type "BaseException", .type "object"] true sn1 sub1 ab1 col1 dd1 m0_1 m1_1 m2_1 m3_1 m5_1 "ValueError.__new__"))
    (xL2 : K.lookup Ca2 = some (PySem.excClassObj nm2 q2 Ca2 N2 bs2 [.ref CB, .type "ValueError", .type "Exception", .type "BaseException", .type "object"] true sn2 sub2 ab2 col2 dd2 m0_2 m1_2 m2_2 m3_2 m5_2 "ValueError.__new__"))
    (xL3 : K.lookup Ca3 = some (PySem.excClassObj nm3 q3 Ca3 N3 bs3 [.ref CB, .type "ValueError", .type "Exception", .type "BaseException", .type "object"] true sn3 sub3 ab3 col3 dd3 m0_3 m1_3 m2_3 m3_3 m5_3 "ValueError.__new__"))
    (xL5 : K.lookup Ca5 = some (PySem.excClassObj nm5 q5 Ca5 N5 bs5 [.ref CB, .type "ValueError", .type "Exception", .type "BaseException", .type "object"] true sn5 sub5 ab5 col5 dd5 m0_5 m1_5 m2_5 m3_5 m5_5 "ValueError.__new__"))
    (xL6 : K.lookup Ca6 = some (PySem.excClassObj nm6 q6 Ca6 N6 bs6 [.ref CB, .type "ValueError", .type "Exception", .type "BaseException", .type "object"] true sn6 sub6 ab6 col6 dd6 m0_6 m1_6 m2_6 m3_6 m5_6 "ValueError.__new__"))
    (xL8 : K.lookup Ca8 = some (PySem.excClassObj nm8 q8 Ca8 N8 bs8 [.ref CB, .type "ValueError", .type "Exception", .type "BaseException", .type "object"] true sn8 sub8 ab8 col8 dd8 m0_8 m1_8 m2_8 m3_8 m5_8 "ValueError.__new__"))
    (xL9 : K.lookup Ca9 = some (PySem.excClassObj nm9 q9 Ca9 N9 bs9 [.ref CB, .type "ValueError", .type "Exception", .type "BaseException", .type "object"] true sn9 sub9 ab9 col9 dd9 m0_9 m1_9 m2_9 m3_9 m5_9 "ValueError.__new__"))
    (xL11 : K.lookup Ca11 = some (PySem.excClassObj nm11 q11 Ca11 N11 bs11 [.ref CB, .type "ValueError", .type "Exception", .type "BaseException", .type "object"] true sn11 sub11 ab11 col11 dd11 m0_11 m1_11 m2_11 m3_11 m5_11 "ValueError.__new__"))
    (xL13 : K.lookup Ca13 = some (PySem.excClassObj nm13 q13 Ca13 N13 bs13 [.ref CB, .type "ValueError", .type "Exception", .type "BaseException", .type "object"] true sn13 sub13 ab13 col13 dd13 m0_13 m1_13 m2_13 m3_13 m5_13 "ValueError.__new__"))
    (xL15 : K.lookup Ca15 = some (PySem.excClassObj nm15 q15 Ca15 N15 bs15 [.ref CB, .type "ValueError", .type "Exception", .type "BaseException", .type "object"] true sn15 sub15 ab15 col15 dd15 m0_15 m1_15 m2_15 m3_15 m5_15 "ValueError.__new__"))
    (xL16 : K.lookup Ca16 = some (PySem.excClassObj nm16 q16 Ca16 N16 bs16 [.ref CB, .type "ValueError", .type "Exception", .type "BaseException", .type "object"] true sn16 sub16 ab16 col16 dd16 m0_16 m1_16 m2_16 m3_16 m5_16 "ValueError.__new__"))
    (xL18 : K.lookup Ca18 = some (PySem.excClassObj nm18 q18 Ca18 N18 bs18 [.ref CB, .type "ValueError", .type "Exception", .type "BaseException", .type "object"] true sn18 sub18 ab18 col18 dd18 m0_18 m1_18 m2_18 m3_18 m5_18 "ValueError.__new__"))
    (fi_x0 : PySem.W.findIn K (.ref Ca0) "__init__" = some (some (.ref g_x0)))
    (lk_x0 : K.lookup g_x0 = some ⟨oc_x0, od_x0, .func (PySem.W.fnOf "__init__" "BadChoices.__init__" (C8.fnArgs s_BadChoices_init) (C8.fnBody s_BadChoices_init) (C8.fnScope s_BadChoices_init) .none kV_x0 dc_x0 pm_x0 an_x0 cd_x0 ct_x0), sl_x0⟩)
    (co_x0 : PySem.W.codeIn K cd_x0 "BadChoices.__init__" = true)
    (ty_x0 : PySem.W.isFn K (.ref g_x0) = true)
    (fi_x1 : PySem.W.findIn K (.ref Ca1) "__init__" = some (some (.ref g_x1)))
    (lk_x1 : K.lookup g_x1 = some ⟨oc_x1, od_x1, .func (PySem.W.fnOf "__init__" "BadProgram.__init__" (C8.fnArgs s_BadProgram_init) (C8.fnBody s_BadProgram_init) (C8.fnScope s_BadProgram_init) .none kV_x1 dc_x1 pm_x1 an_x1 cd_x1 ct_x1), sl_x1⟩)
    (co_x1 : PySem.W.codeIn K cd_x1 "BadProgram.__init__" = true)
    (ty_x1 : PySem.W.isFn K (.ref g_x1) = true)
    (fi_x2 : PySem.W.findIn K (.ref Ca2) "__init__" = some (some (.ref g_x2)))
    (lk_x2 : K.lookup g_x2 = some ⟨oc_x2, od_x2, .func (PySem.W.fnOf "__init__" "BadStates.__init__" (C8.fnArgs s_BadStates_init) (C8.fnBody s_BadStates_init) (C8.fnScope s_BadStates_init) .none kV_x2 dc_x2 pm_x2 an_x2 cd_x2 ct_x2), sl_x2⟩)
    (co_x2 : PySem.W.codeIn K cd_x2 "BadStates.__init__" = true)
    (ty_x2 : PySem.W.isFn K (.ref g_x2) = true)
    (fi_x3 : PySem.W.findIn K (.ref Ca3) "__init__" = some (some (.ref g_x3)))
    (lk_x3 : K.lookup g_x3 = some ⟨oc_x3, od_x3, .func (PySem.W.fnOf "__init__" "BadText.__init__" (C8.fnArgs s_BadText_init) (C8.fnBody s_BadText_init) (C8.fnScope s_BadText_init) .none kV_x3 dc_x3 pm_x3 an_x3 cd_x3 ct_x3), sl_x3⟩)
    (co_x3 : PySem.W.codeIn K cd_x3 "BadText.__init__" = true)
    (ty_x3 : PySem.W.isFn K (.ref g_x3) = true)
    (fi_x5 : PySem.W.findIn K (.ref Ca5) "__init__" = some (some (.ref g_x5)))
    (lk_x5 : K.lookup g_x5 = some ⟨oc_x5, od_x5, .func (PySem.W.fnOf "__init__" "Never.__init__" (C8.fnArgs s_Never_init) (C8.fnBody s_Never_init) (C8.fnScope s_Never_init) .none kV_x5 dc_x5 pm_x5 an_x5 cd_x5 ct_x5), sl_x5⟩)
    (co_x5 : PySem.W.codeIn K cd_x5 "Never.__init__" = true)
    (ty_x5 : PySem.W.isFn K (.ref g_x5) = true)
    (fi_x6 : PySem.W.findIn K (.ref Ca6) "__init__" = some (some (.ref g_x6)))
    (lk_x6 : K.lookup g_x6 = some ⟨oc_x6, od_x6, .func (PySem.W.fnOf "__init__" "NoAnswers.__init__" (C8.fnArgs s_NoAnswers_init) (C8.fnBody s_NoAnswers_init) (C8.fnScope s_NoAnswers_init) .none kV_x6 dc_x6 pm_x6 an_x6 cd_x6 ct_x6), sl_x6⟩)
    (co_x6 : PySem.W.codeIn K cd_x6 "NoAnswers.__init__" = true)
    (ty_x6 : PySem.W.isFn K (.ref g_x6) = true)
    (fi_x8 : PySem.W.findIn K (.ref Ca8) "__init__" = some (some (.ref g_x8)))
    (lk_x8 : K.lookup g_x8 = some ⟨oc_x8, od_x8, .func (PySem.W.fnOf "__init__" "NoLiterals.__init__" (C8.fnArgs s_NoLiterals_init) (C8.fnBody s_NoLiterals_init) (C8.fnScope s_NoLiterals_init) .none kV_x8 dc_x8 pm_x8 an_x8 cd_x8 ct_x8), sl_x8⟩)
    (co_x8 : PySem.W.codeIn K cd_x8 "NoLiterals.__init__" = true)
    (ty_x8 : PySem.W.isFn K (.ref g_x8) = true)
    (fi_x9 : PySem.W.findIn K (.ref Ca9) "__init__" = some (some (.ref g_x9)))
    (lk_x9 : K.lookup g_x9 = some ⟨oc_x9, od_x9, .func (PySem.W.fnOf "__init__" "NoName.__init__" (C8.fnArgs s_NoName_init) (C8.fnBody s_NoName_init) (C8.fnScope s_NoName_init) .none kV_x9 dc_x9 pm_x9 an_x9 cd_x9 ct_x9), sl_x9⟩)
    (co_x9 : PySem.W.codeIn K cd_x9 "NoName.__init__" = true)
    (ty_x9 : PySem.W.isFn K (.ref g_x9) = true)
    (fi_x11 : PySem.W.findIn K (.ref Ca11) "__init__" = some (some (.ref g_x11)))
    (lk_x11 : K.lookup g_x11 = some ⟨oc_x11, od_x11, .func (PySem.W.fnOf "__init__" "NoPlace.__init__" (C8.fnArgs s_NoPlace_init) (C8.fnBody s_NoPlace_init) (C8.fnScope s_NoPlace_init) .none kV_x11 dc_x11 pm_x11 an_x11 cd_x11 ct_x11), sl_x11⟩)
    (co_x11 : PySem.W.codeIn K cd_x11 "NoPlace.__init__" = true)
    (ty_x11 : PySem.W.isFn K (.ref g_x11) = true)
    (fi_x13 : PySem.W.findIn K (.ref Ca13) "__init__" = some (some (.ref g_x13)))
    (lk_x13 : K.lookup g_x13 = some ⟨oc_x13, od_x13, .func (PySem.W.fnOf "__init__" "NoSteps.__init__" (C8.fnArgs s_NoSteps_init) (C8.fnBody s_NoSteps_init) (C8.fnScope s_NoSteps_init) .none kV_x13 dc_x13 pm_x13 an_x13 cd_x13 ct_x13), sl_x13⟩)
    (co_x13 : PySem.W.codeIn K cd_x13 "NoSteps.__init__" = true)
    (ty_x13 : PySem.W.isFn K (.ref g_x13) = true)
    (fi_x15 : PySem.W.findIn K (.ref Ca15) "__init__" = some (some (.ref g_x15)))
    (lk_x15 : K.lookup g_x15 = some ⟨oc_x15, od_x15, .func (PySem.W.fnOf "__init__" "NoWay.__init__" (C8.fnArgs s_NoWay_init) (C8.fnBody s_NoWay_init) (C8.fnScope s_NoWay_init) .none kV_x15 dc_x15 pm_x15 an_x15 cd_x15 ct_x15), sl_x15⟩)
    (co_x15 : PySem.W.codeIn K cd_x15 "NoWay.__init__" = true)
    (ty_x15 : PySem.W.isFn K (.ref g_x15) = true)
    (fi_x16 : PySem.W.findIn K (.ref Ca16) "__init__" = some (some (.ref g_x16)))
    (lk_x16 : K.lookup g_x16 = some ⟨oc_x16, od_x16, .func (PySem.W.fnOf "__init__" "TooFew.__init__" (C8.fnArgs s_TooFew_init) (C8.fnBody s_TooFew_init) (C8.fnScope s_TooFew_init) .none kV_x16 dc_x16 pm_x16 an_x16 cd_x16 ct_x16), sl_x16⟩)
    (co_x16 : PySem.W.codeIn K cd_x16 "TooFew.__init__" = true)
    (ty_x16 : PySem.W.isFn K (.ref g_x16) = true)
    (fi_x18 : PySem.W.findIn K (.ref Ca18) "__init__" = some (some (.ref g_x18)))
    (lk_x18 : K.lookup g_x18 = some ⟨oc_x18, od_x18, .func (PySem.W.fnOf "__init__" "TooMany.__init__" (C8.fnArgs s_TooMany_init) (C8.fnBody s_TooMany_init) (C8.fnScope s_TooMany_init) .none kV_x18 dc_x18 pm_x18 an_x18 cd_x18 ct_x18), sl_x18⟩)
    (co_x18 : PySem.W.codeIn K cd_x18 "TooMany.__init__" = true)
    (ty_x18 : PySem.W.isFn K (.ref g_x18) = true)
    (fi_ci : PySem.W.findIn K (.ref CK) "__init__" = some (some (.ref g_ci)))
    (lk_ci : K.lookup g_ci = some ⟨oc_ci, od_ci, .func (PySem.W.fnOf "__init__" "Check.__init__" (C8.fnArgs s_Check_init) (C8.fnBody s_Check_init) (C8.fnScope s_Check_init) .none kV_ci dc_ci pm_ci an_ci cd_ci ct_ci), sl_ci⟩)
    (co_ci : PySem.W.codeIn K cd_ci "Check.__init__" = true)
    (ty_ci : PySem.W.isFn K (.ref g_ci) = true)
    (fi_cb : PySem.W.findIn K (.ref CK) "block_flow" = some (some (.ref g_cb)))
    (lk_cb : K.lookup g_cb = some ⟨oc_cb, od_cb, .func (PySem.W.fnOf "block_flow" "Check.block_flow" (C8.fnArgs s_Check_block_flow) (C8.fnBody s_Check_block_flow) (C8.fnScope s_Check_block_flow) .none kV_cb dc_cb pm_cb an_cb cd_cb ct_cb), sl_cb⟩)
    (co_cb : PySem.W.codeIn K cd_cb "Check.block_flow" = true)
    (ty_cb : PySem.W.isFn K (.ref g_cb) = true)
    (fi_pi : PySem.W.findIn K (.ref CP) "__init__" = some (some (.ref g_pi)))
    (lk_pi : K.lookup g_pi = some ⟨oc_pi, od_pi, .func (PySem.W.fnOf "__init__" "Program.__init__" (C8.fnArgs s_Program_init) (C8.fnBody s_Program_init) (C8.fnScope s_Program_init) .none kV_pi dc_pi pm_pi an_pi cd_pi ct_pi), sl_pi⟩)
    (co_pi : PySem.W.codeIn K cd_pi "Program.__init__" = true)
    (ty_pi : PySem.W.isFn K (.ref g_pi) = true)
    (fi_pq : PySem.W.findIn K (.ref CP) "__eq__" = some (some (.ref g_pq)))
    (lk_pq : K.lookup g_pq = some ⟨oc_pq, od_pq, .func (PySem.W.fnOf "__eq__" "Program.__eq__" (C8.fnArgs s_Program_eq) (C8.fnBody s_Program_eq) (C8.fnScope s_Program_eq) .none kV_pq dc_pq pm_pq an_pq cd_pq ct_pq), sl_pq⟩)
    (co_pq : PySem.W.codeIn K cd_pq "Program.__eq__" = true)
    (ty_pq : PySem.W.isFn K (.ref g_pq) = true)
    (kp_cb : PySem.W.keepIn K (.ref g_cb) = true)
    (cl_CP : (PySem.W.plainGet K CP Str.empty && (PySem.W.hasDictIn K CP && (PySem.W.plainOver K CP && decide (PySem.W.findIn K (.ref CP) "__setattr__" = some (some (.builtin "object.__setattr__")))))) = true)
    (mk_CP : PySem.W.makesIn K CP = true)
    (kp_CP : PySem.W.keepIn K (.ref CP) = true)
    (cl_CK : (PySem.W.plainGet K CK Str.empty && (PySem.W.hasDictIn K CK && (PySem.W.plainOver K CK && decide (PySem.W.findIn K (.ref CK) "__setattr__" = some (some (.builtin "object.__setattr__")))))) = true)
    (mk_CK : PySem.W.makesIn K CK = true)
    (kp_CK : PySem.W.keepIn K (.ref CK) = true)
    (nP : (decide (PySem.W.findIn K (.ref CP) "inputs" = some none) && (decide (PySem.W.findIn K (.ref CP) "block" = some none) && (decide (PySem.W.findIn K (.ref CP) "flow" = some none) && (decide (PySem.W.findIn K (.ref CP) "known_before" = some none) && (decide (PySem.W.findIn K (.ref CP) "settings" = some none) && (decide (PySem.W.findIn K (.ref CP) "kept" = some none))))))) = true)
    (nK : (decide (PySem.W.findIn K (.ref CK) "inputs" = some none) && (decide (PySem.W.findIn K (.ref CK) "block" = some none) && (decide (PySem.W.findIn K (.ref CK) "settings" = some none) && (decide (PySem.W.findIn K (.ref CK) "known" = some none) && decide (PySem.W.findIn K (.ref CK) "flow" = some none))))) = true)
    (iP : (decide (PySem.W.findIn K (.ref CP) "__class__" = some (some (.builtin "object.__class__"))) && (decide (PySem.W.mroIn K CP (.type "object") = some true) && decide (PySem.W.kitOne K (.ref CP) (.ref CP) = some true))) = true)
    (xn : PySem.W.specialIn K (.builtin "object.__class__") "__get__" = some (some (.builtin "getset_descriptor.__get__")))
    (xt : PySem.W.takesIn K (.builtin "object.__class__") = some true)
    (eb : ([Ca0, Ca1, Ca2, Ca3, Ca4, Ca5, Ca6, Ca7, Ca8, Ca9, Ca10, Ca11, Ca12, Ca13, Ca14, Ca15, Ca16, Ca17, Ca18, Ca19] : List Addr).all (excB K CB) = true)
    (kt : kitB K [Ca0, Ca1, Ca2, Ca3, Ca4, Ca5, Ca6, Ca7, Ca8, Ca9, Ca10, Ca11, Ca12, Ca13, Ca14, Ca15, Ca16, Ca17, Ca18, Ca19] = true)
    (x0 : ([Ca4, Ca7, Ca10, Ca12, Ca14, Ca17, Ca19] : List Addr).all (fun c => PySem.W.excIn K c [.type "ValueError", .type "Exception", .type "BaseException", .type "object"] "ValueError.__new__") = true)
    (no : ([(Ca0, "at"), (Ca1, "place"), (Ca1, "why"), (Ca2, "why"), (Ca3, "row"), (Ca5, "way"), (Ca6, "at"), (Ca8, "at"), (Ca9, "term"), (Ca11, "place"), (Ca13, "steps"), (Ca15, "way"), (Ca16, "many"), (Ca18, "most")] : List (Addr × Str)).all (fun p => decide (PySem.W.findIn K (.ref p.1) p.2 = some none)) = true)
    (a0 : PySem.W.nsIn K mainGlobals "is_word" = some (some (.ref f0)))
    (l0 : K.lookup f0 = some ⟨oc0, od0, .func (PySem.W.fnOf "is_word" "is_word" (C8.fnArgs s_is_word) (C8.fnBody s_is_word) (C8.fnScope s_is_word) .none kV0 dc0 pm0 an0 cd0 ct0), sl0⟩)
    (c0 : PySem.W.codeIn K cd0 "is_word" = true)
    (k0 : PySem.W.keepIn K (.ref f0) = true)
    (a1 : PySem.W.nsIn K mainGlobals "is_name" = some (some (.ref f1)))
    (l1 : K.lookup f1 = some ⟨oc1, od1, .func (PySem.W.fnOf "is_name" "is_name" (C8.fnArgs s_is_name) (C8.fnBody s_is_name) (C8.fnScope s_is_name) .none kV1 dc1 pm1 an1 cd1 ct1), sl1⟩)
    (c1 : PySem.W.codeIn K cd1 "is_name" = true)
    (k1 : PySem.W.keepIn K (.ref f1) = true)
    (a2 : PySem.W.nsIn K mainGlobals "are_different" = some (some (.ref f2)))
    (l2 : K.lookup f2 = some ⟨oc2, od2, .func (PySem.W.fnOf "are_different" "are_different" (C8.fnArgs s_are_different) (C8.fnBody s_are_different) (C8.fnScope s_are_different) .none kV2 dc2 pm2 an2 cd2 ct2), sl2⟩)
    (c2 : PySem.W.codeIn K cd2 "are_different" = true)
    (k2 : PySem.W.keepIn K (.ref f2) = true)
    (a3 : PySem.W.nsIn K mainGlobals "are_names" = some (some (.ref f3)))
    (l3 : K.lookup f3 = some ⟨oc3, od3, .func (PySem.W.fnOf "are_names" "are_names" (C8.fnArgs s_are_names) (C8.fnBody s_are_names) (C8.fnScope s_are_names) .none kV3 dc3 pm3 an3 cd3 ct3), sl3⟩)
    (c3 : PySem.W.codeIn K cd3 "are_names" = true)
    (k3 : PySem.W.keepIn K (.ref f3) = true)
    (a4 : PySem.W.nsIn K mainGlobals "_law_well" = some (some (.ref f4)))
    (l4 : K.lookup f4 = some ⟨oc4, od4, .func (PySem.W.fnOf "_law_well" "_law_well" (C8.fnArgs s_l_well) (C8.fnBody s_l_well) (C8.fnScope s_l_well) .none kV4 dc4 pm4 an4 cd4 ct4), sl4⟩)
    (c4 : PySem.W.codeIn K cd4 "_law_well" = true)
    (k4 : PySem.W.keepIn K (.ref f4) = true)
    (a5 : PySem.W.nsIn K mainGlobals "_law_draw" = some (some (.ref f5)))
    (l5 : K.lookup f5 = some ⟨oc5, od5, .func (PySem.W.fnOf "_law_draw" "_law_draw" (C8.fnArgs s_l_draw) (C8.fnBody s_l_draw) (C8.fnScope s_l_draw) .none kV5 dc5 pm5 an5 cd5 ct5), sl5⟩)
    (c5 : PySem.W.codeIn K cd5 "_law_draw" = true)
    (k5 : PySem.W.keepIn K (.ref f5) = true)
    (a6 : PySem.W.nsIn K mainGlobals "_law_one" = some (some (.ref f6)))
    (l6 : K.lookup f6 = some ⟨oc6, od6, .func (PySem.W.fnOf "_law_one" "_law_one" (C8.fnArgs s_l_one) (C8.fnBody s_l_one) (C8.fnScope s_l_one) .none kV6 dc6 pm6 an6 cd6 ct6), sl6⟩)
    (c6 : PySem.W.codeIn K cd6 "_law_one" = true)
    (k6 : PySem.W.keepIn K (.ref f6) = true)
    (a7 : PySem.W.nsIn K mainGlobals "_law_kinds" = some (some (.ref f7)))
    (l7 : K.lookup f7 = some ⟨oc7, od7, .func (PySem.W.fnOf "_law_kinds" "_law_kinds" (C8.fnArgs s_l_kinds) (C8.fnBody s_l_kinds) (C8.fnScope s_l_kinds) .none kV7 dc7 pm7 an7 cd7 ct7), sl7⟩)
    (c7 : PySem.W.codeIn K cd7 "_law_kinds" = true)
    (k7 : PySem.W.keepIn K (.ref f7) = true)
    (a8 : PySem.W.nsIn K mainGlobals "_law_first" = some (some (.ref f8)))
    (l8 : K.lookup f8 = some ⟨oc8, od8, .func (PySem.W.fnOf "_law_first" "_law_first" (C8.fnArgs s_l_first) (C8.fnBody s_l_first) (C8.fnScope s_l_first) .none kV8 dc8 pm8 an8 cd8 ct8), sl8⟩)
    (c8 : PySem.W.codeIn K cd8 "_law_first" = true)
    (k8 : PySem.W.keepIn K (.ref f8) = true)
    (a9 : PySem.W.nsIn K mainGlobals "_law_second" = some (some (.ref f9)))
    (l9 : K.lookup f9 = some ⟨oc9, od9, .func (PySem.W.fnOf "_law_second" "_law_second" (C8.fnArgs s_l_second) (C8.fnBody s_l_second) (C8.fnScope s_l_second) .none kV9 dc9 pm9 an9 cd9 ct9), sl9⟩)
    (c9 : PySem.W.codeIn K cd9 "_law_second" = true)
    (k9 : PySem.W.keepIn K (.ref f9) = true)
    (a10 : PySem.W.nsIn K mainGlobals "law" = some (some (.ref f10)))
    (l10 : K.lookup f10 = some ⟨oc10, od10, .func (PySem.W.fnOf "law" "law" (C8.fnArgs s_law) (C8.fnBody s_law) (C8.fnScope s_law) .none kV10 dc10 pm10 an10 cd10 ct10), sl10⟩)
    (c10 : PySem.W.codeIn K cd10 "law" = true)
    (k10 : PySem.W.keepIn K (.ref f10) = true)
    (y_isinstance : PySem.W.nsIn K mainGlobals "isinstance" = some none)
    (y_len : PySem.W.nsIn K mainGlobals "len" = some none)
    (y_int : PySem.W.nsIn K mainGlobals "int" = some none)
    (y_str : PySem.W.nsIn K mainGlobals "str" = some none)
    (y_tuple : PySem.W.nsIn K mainGlobals "tuple" = some none)
    (y_set : PySem.W.nsIn K mainGlobals "set" = some none)
    (y_all : PySem.W.nsIn K mainGlobals "all" = some none)
    (y_range : PySem.W.nsIn K mainGlobals "range" = some none)
    (y_enumerate : PySem.W.nsIn K mainGlobals "enumerate" = some none)
    (y_ValueError : PySem.W.nsIn K mainGlobals "ValueError" = some none)
    : ∃ fd : FuncData, (∀ (s : Shared) (v : Value), BindsTo s fd ⟨[v], []⟩ [("_law_script", v)]) ∧ ∀ base : Heap, K.In base → base.Ns mainGlobals mg → FnOk l.prog w K mg base C8.CX0 8 fa fd ["_law_script"] (spLaw K) := by
  have e := hfa.symm.trans (PySem.W.mg_of X G a10)
  cases e
  have EB := fun c hc => excB_ok xn xt (List.all_eq_true.mp eb c hc)
  have EX : ∀ k, k < 20 → ExcC K ([Ca0, Ca1, Ca2, Ca3, Ca4, Ca5, Ca6, Ca7, Ca8, Ca9, Ca10, Ca11, Ca12, Ca13, Ca14, Ca15, Ca16, Ca17, Ca18, Ca19].getD k 0) ∧ PySem.W.kitOne K (.ref ([Ca0, Ca1, Ca2, Ca3, Ca4, Ca5, Ca6, Ca7, Ca8, Ca9, Ca10, Ca11, Ca12, Ca13, Ca14, Ca15, Ca16, Ca17, Ca18, Ca19].getD k 0)) (.ref CB) = some true ∧ PySem.W.kitOne K (.ref ([Ca0, Ca1, Ca2, Ca3, Ca4, Ca5, Ca6, Ca7, Ca8, Ca9, Ca10, Ca11, Ca12, Ca13, Ca14, Ca15, Ca16, Ca17, Ca18, Ca19].getD k 0)) (.type "ValueError") = some true := fun k hk => by
    have z := EB ([Ca0, Ca1, Ca2, Ca3, Ca4, Ca5, Ca6, Ca7, Ca8, Ca9, Ca10, Ca11, Ca12, Ca13, Ca14, Ca15, Ca16, Ca17, Ca18, Ca19].getD k 0) (by rw [List.getD_eq_getElem?_getD, List.getElem?_eq_getElem (show k < [Ca0, Ca1, Ca2, Ca3, Ca4, Ca5, Ca6, Ca7, Ca8, Ca9, Ca10, Ca11, Ca12, Ca13, Ca14, Ca15, Ca16, Ca17, Ca18, Ca19].length from hk)]; exact List.getElem_mem _)
    exact ⟨z.1, z.2.1, z.2.2.1⟩
  have T : Txt K mg (fun k => [Ca0, Ca1, Ca2, Ca3, Ca4, Ca5, Ca6, Ca7, Ca8, Ca9, Ca10, Ca11, Ca12, Ca13, Ca14, Ca15, Ca16, Ca17, Ca18, Ca19].getD k 0) CB CP aE aB :=
  { g := fun k hk => by match k, hk with | 0, _ => exact PySem.W.mg_of X G aE0 | 1, _ => exact PySem.W.mg_of X G aE1 | 2, _ => exact PySem.W.mg_of X G aE2 | 3, _ => exact PySem.W.mg_of X G aE3 | 4, _ => exact PySem.W.mg_of X G aE4 | 5, _ => exact PySem.W.mg_of X G aE5 | 6, _ => exact PySem.W.mg_of X G aE6 | 7, _ => exact PySem.W.mg_of X G aE7 | 8, _ => exact PySem.W.mg_of X G aE8 | 9, _ => exact PySem.W.mg_of X G aE9 | 10, _ => exact PySem.W.mg_of X G aE10 | 11, _ => exact PySem.W.mg_of X G aE11 | 12, _ => exact PySem.W.mg_of X G aE12 | 13, _ => exact PySem.W.mg_of X G aE13 | 14, _ => exact PySem.W.mg_of X G aE14 | 15, _ => exact PySem.W.mg_of X G aE15 | 16, _ => exact PySem.W.mg_of X G aE16 | 17, _ => exact PySem.W.mg_of X G aE17 | 18, _ => exact PySem.W.mg_of X G aE18 | 19, _ => exact PySem.W.mg_of X G aE19 | k + 20, z => exact absurd z (by omega)
    g_BehindError := PySem.W.mg_of X G gB
    g_Program := PySem.W.mg_of X G gP
    exc := fun k hk => (EX k hk).1
    kit := kitB_ok kt
    kitB := fun k hk => (EX k hk).2.1
    kitV := fun k hk => (EX k hk).2.2
    x0 := fun k hk => by
      simp only [List.mem_cons, List.not_mem_nil, or_false] at hk
      rcases hk with rfl | rfl | rfl | rfl | rfl | rfl | rfl
      · exact List.all_eq_true.mp x0 Ca4 (by simp)
      · exact List.all_eq_true.mp x0 Ca7 (by simp)
      · exact List.all_eq_true.mp x0 Ca10 (by simp)
      · exact List.all_eq_true.mp x0 Ca12 (by simp)
      · exact List.all_eq_true.mp x0 Ca14 (by simp)
      · exact List.all_eq_true.mp x0 Ca17 (by simp)
      · exact List.all_eq_true.mp x0 Ca19 (by simp)
    k0 := fun k hk => by
      simp only [List.mem_cons, List.not_mem_nil, or_false] at hk
      rcases hk with rfl | rfl | rfl | rfl | rfl | rfl | rfl
      · exact (EB Ca4 (by simp)).2.2.2.1
      · exact (EB Ca7 (by simp)).2.2.2.1
      · exact (EB Ca10 (by simp)).2.2.2.1
      · exact (EB Ca12 (by simp)).2.2.2.1
      · exact (EB Ca14 (by simp)).2.2.2.1
      · exact (EB Ca17 (by simp)).2.2.2.1
      · exact (EB Ca19 (by simp)).2.2.2.1
    no := fun p hp => by
      simp only [List.mem_cons, List.not_mem_nil, or_false] at hp
      rcases hp with rfl | rfl | rfl | rfl | rfl | rfl | rfl | rfl | rfl | rfl | rfl | rfl | rfl | rfl
      · exact of_decide_eq_true (List.all_eq_true.mp no (Ca0, "at") (by simp))
      · exact of_decide_eq_true (List.all_eq_true.mp no (Ca1, "place") (by simp))
      · exact of_decide_eq_true (List.all_eq_true.mp no (Ca1, "why") (by simp))
      · exact of_decide_eq_true (List.all_eq_true.mp no (Ca2, "why") (by simp))
      · exact of_decide_eq_true (List.all_eq_true.mp no (Ca3, "row") (by simp))
      · exact of_decide_eq_true (List.all_eq_true.mp no (Ca5, "way") (by simp))
      · exact of_decide_eq_true (List.all_eq_true.mp no (Ca6, "at") (by simp))
      · exact of_decide_eq_true (List.all_eq_true.mp no (Ca8, "at") (by simp))
      · exact of_decide_eq_true (List.all_eq_true.mp no (Ca9, "term") (by simp))
      · exact of_decide_eq_true (List.all_eq_true.mp no (Ca11, "place") (by simp))
      · exact of_decide_eq_true (List.all_eq_true.mp no (Ca13, "steps") (by simp))
      · exact of_decide_eq_true (List.all_eq_true.mp no (Ca15, "way") (by simp))
      · exact of_decide_eq_true (List.all_eq_true.mp no (Ca16, "many") (by simp))
      · exact of_decide_eq_true (List.all_eq_true.mp no (Ca18, "most") (by simp))
    oex := fun k hk => by
      simp only [List.mem_cons, List.not_mem_nil, or_false] at hk
      rcases hk with rfl | rfl | rfl | rfl | rfl | rfl | rfl | rfl | rfl | rfl | rfl | rfl | rfl
      · exact ⟨⟨nm0, q0, N0, bs0, _, sn0, sub0, ab0, col0, dd0, m0_0, m1_0, m2_0, m3_0, m5_0, xL0, by unfold PySem.HandSPX.refsVE; rfl⟩, (EB Ca0 (by simp)).2.2.2.2.1, (EB Ca0 (by simp)).1.hs, (EB Ca0 (by simp)).2.2.2.2.2, (EB Ca0 (by simp)).2.2.2.1⟩
      · exact ⟨⟨nm1, q1, N1, bs1, _, sn1, sub1, ab1, col1, dd1, m0_1, m1_1, m2_1, m3_1, m5_1, xL1, by unfold PySem.HandSPX.refsVE; rfl⟩, (EB Ca1 (by simp)).2.2.2.2.1, (EB Ca1 (by simp)).1.hs, (EB Ca1 (by simp)).2.2.2.2.2, (EB Ca1 (by simp)).2.2.2.1⟩
      · exact ⟨⟨nm2, q2, N2, bs2, _, sn2, sub2, ab2, col2, dd2, m0_2, m1_2, m2_2, m3_2, m5_2, xL2, by unfold PySem.HandSPX.refsVE; rfl⟩, (EB Ca2 (by simp)).2.2.2.2.1, (EB Ca2 (by simp)).1.hs, (EB Ca2 (by simp)).2.2.2.2.2, (EB Ca2 (by simp)).2.2.2.1⟩
      · exact ⟨⟨nm3, q3, N3, bs3, _, sn3, sub3, ab3, col3, dd3, m0_3, m1_3, m2_3, m3_3, m5_3, xL3, by unfold PySem.HandSPX.refsVE; rfl⟩, (EB Ca3 (by simp)).2.2.2.2.1, (EB Ca3 (by simp)).1.hs, (EB Ca3 (by simp)).2.2.2.2.2, (EB Ca3 (by simp)).2.2.2.1⟩
      · exact ⟨⟨nm5, q5, N5, bs5, _, sn5, sub5, ab5, col5, dd5, m0_5, m1_5, m2_5, m3_5, m5_5, xL5, by unfold PySem.HandSPX.refsVE; rfl⟩, (EB Ca5 (by simp)).2.2.2.2.1, (EB Ca5 (by simp)).1.hs, (EB Ca5 (by simp)).2.2.2.2.2, (EB Ca5 (by simp)).2.2.2.1⟩
      · exact ⟨⟨nm6, q6, N6, bs6, _, sn6, sub6, ab6, col6, dd6, m0_6, m1_6, m2_6, m3_6, m5_6, xL6, by unfold PySem.HandSPX.refsVE; rfl⟩, (EB Ca6 (by simp)).2.2.2.2.1, (EB Ca6 (by simp)).1.hs, (EB Ca6 (by simp)).2.2.2.2.2, (EB Ca6 (by simp)).2.2.2.1⟩
      · exact ⟨⟨nm8, q8, N8, bs8, _, sn8, sub8, ab8, col8, dd8, m0_8, m1_8, m2_8, m3_8, m5_8, xL8, by unfold PySem.HandSPX.refsVE; rfl⟩, (EB Ca8 (by simp)).2.2.2.2.1, (EB Ca8 (by simp)).1.hs, (EB Ca8 (by simp)).2.2.2.2.2, (EB Ca8 (by simp)).2.2.2.1⟩
      · exact ⟨⟨nm9, q9, N9, bs9, _, sn9, sub9, ab9, col9, dd9, m0_9, m1_9, m2_9, m3_9, m5_9, xL9, by unfold PySem.HandSPX.refsVE; rfl⟩, (EB Ca9 (by simp)).2.2.2.2.1, (EB Ca9 (by simp)).1.hs, (EB Ca9 (by simp)).2.2.2.2.2, (EB Ca9 (by simp)).2.2.2.1⟩
      · exact ⟨⟨nm11, q11, N11, bs11, _, sn11, sub11, ab11, col11, dd11, m0_11, m1_11, m2_11, m3_11, m5_11, xL11, by unfold PySem.HandSPX.refsVE; rfl⟩, (EB Ca11 (by simp)).2.2.2.2.1, (EB Ca11 (by simp)).1.hs, (EB Ca11 (by simp)).2.2.2.2.2, (EB Ca11 (by simp)).2.2.2.1⟩
      · exact ⟨⟨nm13, q13, N13, bs13, _, sn13, sub13, ab13, col13, dd13, m0_13, m1_13, m2_13, m3_13, m5_13, xL13, by unfold PySem.HandSPX.refsVE; rfl⟩, (EB Ca13 (by simp)).2.2.2.2.1, (EB Ca13 (by simp)).1.hs, (EB Ca13 (by simp)).2.2.2.2.2, (EB Ca13 (by simp)).2.2.2.1⟩
      · exact ⟨⟨nm15, q15, N15, bs15, _, sn15, sub15, ab15, col15, dd15, m0_15, m1_15, m2_15, m3_15, m5_15, xL15, by unfold PySem.HandSPX.refsVE; rfl⟩, (EB Ca15 (by simp)).2.2.2.2.1, (EB Ca15 (by simp)).1.hs, (EB Ca15 (by simp)).2.2.2.2.2, (EB Ca15 (by simp)).2.2.2.1⟩
      · exact ⟨⟨nm16, q16, N16, bs16, _, sn16, sub16, ab16, col16, dd16, m0_16, m1_16, m2_16, m3_16, m5_16, xL16, by unfold PySem.HandSPX.refsVE; rfl⟩, (EB Ca16 (by simp)).2.2.2.2.1, (EB Ca16 (by simp)).1.hs, (EB Ca16 (by simp)).2.2.2.2.2, (EB Ca16 (by simp)).2.2.2.1⟩
      · exact ⟨⟨nm18, q18, N18, bs18, _, sn18, sub18, ab18, col18, dd18, m0_18, m1_18, m2_18, m3_18, m5_18, xL18, by unfold PySem.HandSPX.refsVE; rfl⟩, (EB Ca18 (by simp)).2.2.2.2.1, (EB Ca18 (by simp)).1.hs, (EB Ca18 (by simp)).2.2.2.2.2, (EB Ca18 (by simp)).2.2.2.1⟩
    c_LONGEST := ⟨_, PySem.W.mg_of X G gO, _, rfl⟩
    c_BARRED := ⟨_, PySem.W.mg_of X G gBA, rfl⟩
    c_END := ⟨_, PySem.W.mg_of X G gE, rfl⟩
    sE := seqK_ok lkE rE
    cP := cls_of cl_CP
    nP := by
      have z := nP
      simp only [Bool.and_eq_true, decide_eq_true_eq] at z
      exact z
    z_isinstance := PySem.W.mg_none_of X G y_isinstance
    z_len := PySem.W.mg_none_of X G y_len
    z_int := PySem.W.mg_none_of X G y_int
    z_str := PySem.W.mg_none_of X G y_str
    z_tuple := PySem.W.mg_none_of X G y_tuple
    z_set := PySem.W.mg_none_of X G y_set
    z_all := PySem.W.mg_none_of X G y_all
    z_range := PySem.W.mg_none_of X G y_range
    z_enumerate := PySem.W.mg_none_of X G y_enumerate
    z_ValueError := PySem.W.mg_none_of X G y_ValueError }
  have F0 : C8.Fun K "is_word" "is_word" s_is_word f0 _ := ⟨⟨_, _, _, _, _, _, _, _, _, _, rfl, l0, c0⟩⟩
  have D0 : C8.Def K mg "is_word" s_is_word f0 _ := ⟨F0, PySem.W.mg_of X G a0, k0⟩
  have b0 : Binds K _ ["thing"] [] := C8.Fun.binds F0 rfl fun _ _ _ _ _ _ us hl => match us, hl with | [_], _ => rfl
  have F1 : C8.Fun K "is_name" "is_name" s_is_name f1 _ := ⟨⟨_, _, _, _, _, _, _, _, _, _, rfl, l1, c1⟩⟩
  have D1 : C8.Def K mg "is_name" s_is_name f1 _ := ⟨F1, PySem.W.mg_of X G a1, k1⟩
  have b1 : Binds K _ ["thing"] [] := C8.Fun.binds F1 rfl fun _ _ _ _ _ _ us hl => match us, hl with | [_], _ => rfl
  have F2 : C8.Fun K "are_different" "are_different" s_are_different f2 _ := ⟨⟨_, _, _, _, _, _, _, _, _, _, rfl, l2, c2⟩⟩
  have D2 : C8.Def K mg "are_different" s_are_different f2 _ := ⟨F2, PySem.W.mg_of X G a2, k2⟩
  have b2 : Binds K _ ["things"] [] := C8.Fun.binds F2 rfl fun _ _ _ _ _ _ us hl => match us, hl with | [_], _ => rfl
  have F3 : C8.Fun K "are_names" "are_names" s_are_names f3 _ := ⟨⟨_, _, _, _, _, _, _, _, _, _, rfl, l3, c3⟩⟩
  have D3 : C8.Def K mg "are_names" s_are_names f3 _ := ⟨F3, PySem.W.mg_of X G a3, k3⟩
  have b3 : Binds K _ ["thing"] [] := C8.Fun.binds F3 rfl fun _ _ _ _ _ _ us hl => match us, hl with | [_], _ => rfl
  have F4 : C8.Fun K "_law_well" "_law_well" s_l_well f4 _ := ⟨⟨_, _, _, _, _, _, _, _, _, _, rfl, l4, c4⟩⟩
  have D4 : C8.Def K mg "_law_well" s_l_well f4 _ := ⟨F4, PySem.W.mg_of X G a4, k4⟩
  have b4 : Binds K _ ["_law_cell"] [] := C8.Fun.binds F4 rfl fun _ _ _ _ _ _ us hl => match us, hl with | [_], _ => rfl
  have F5 : C8.Fun K "_law_draw" "_law_draw" s_l_draw f5 _ := ⟨⟨_, _, _, _, _, _, _, _, _, _, rfl, l5, c5⟩⟩
  have D5 : C8.Def K mg "_law_draw" s_l_draw f5 _ := ⟨F5, PySem.W.mg_of X G a5, k5⟩
  have b5 : Binds K _ ["_law_well_here", "_law_base"] [] := C8.Fun.binds F5 rfl fun _ _ _ _ _ _ us hl => match us, hl with | [_, _], _ => rfl
  have F6 : C8.Fun K "_law_one" "_law_one" s_l_one f6 _ := ⟨⟨_, _, _, _, _, _, _, _, _, _, rfl, l6, c6⟩⟩
  have D6 : C8.Def K mg "_law_one" s_l_one f6 _ := ⟨F6, PySem.W.mg_of X G a6, k6⟩
  have b6 : Binds K _ ["_law_well_here", "_law_some"] [] := C8.Fun.binds F6 rfl fun _ _ _ _ _ _ us hl => match us, hl with | [_, _], _ => rfl
  have F7 : C8.Fun K "_law_kinds" "_law_kinds" s_l_kinds f7 _ := ⟨⟨_, _, _, _, _, _, _, _, _, _, rfl, l7, c7⟩⟩
  have D7 : C8.Def K mg "_law_kinds" s_l_kinds f7 _ := ⟨F7, PySem.W.mg_of X G a7, k7⟩
  have b7 : Binds K _ ["_law_e"] [] := C8.Fun.binds F7 rfl fun _ _ _ _ _ _ us hl => match us, hl with | [_], _ => rfl
  have F8 : C8.Fun K "_law_first" "_law_first" s_l_first f8 _ := ⟨⟨_, _, _, _, _, _, _, _, _, _, rfl, l8, c8⟩⟩
  have D8 : C8.Def K mg "_law_first" s_l_first f8 _ := ⟨F8, PySem.W.mg_of X G a8, k8⟩
  have b8 : Binds K _ ["_law_a", "_law_b"] [] := C8.Fun.binds F8 rfl fun _ _ _ _ _ _ us hl => match us, hl with | [_, _], _ => rfl
  have F9 : C8.Fun K "_law_second" "_law_second" s_l_second f9 _ := ⟨⟨_, _, _, _, _, _, _, _, _, _, rfl, l9, c9⟩⟩
  have D9 : C8.Def K mg "_law_second" s_l_second f9 _ := ⟨F9, PySem.W.mg_of X G a9, k9⟩
  have b9 : Binds K _ ["_law_a", "_law_b"] [] := C8.Fun.binds F9 rfl fun _ _ _ _ _ _ us hl => match us, hl with | [_, _], _ => rfl
  have F10 : C8.Fun K "law" "law" s_law fa _ := ⟨⟨_, _, _, _, _, _, _, _, _, _, rfl, l10, c10⟩⟩
  have F_x0 : C8.Fun K "__init__" "BadChoices.__init__" s_BadChoices_init g_x0 _ := ⟨⟨_, _, _, _, _, _, _, _, _, _, rfl, lk_x0, co_x0⟩⟩
  have b_x0 : Binds K _ ["self", "at"] [] := C8.Fun.binds F_x0 rfl fun _ _ _ _ _ _ us hl => match us, hl with | [_, _], _ => rfl
  have F_x1 : C8.Fun K "__init__" "BadProgram.__init__" s_BadProgram_init g_x1 _ := ⟨⟨_, _, _, _, _, _, _, _, _, _, rfl, lk_x1, co_x1⟩⟩
  have b_x1 : Binds K _ ["self", "place", "why"] [] := C8.Fun.binds F_x1 rfl fun _ _ _ _ _ _ us hl => match us, hl with | [_, _, _], _ => rfl
  have F_x2 : C8.Fun K "__init__" "BadStates.__init__" s_BadStates_init g_x2 _ := ⟨⟨_, _, _, _, _, _, _, _, _, _, rfl, lk_x2, co_x2⟩⟩
  have b_x2 : Binds K _ ["self", "why"] [] := C8.Fun.binds F_x2 rfl fun _ _ _ _ _ _ us hl => match us, hl with | [_, _], _ => rfl
  have F_x3 : C8.Fun K "__init__" "BadText.__init__" s_BadText_init g_x3 _ := ⟨⟨_, _, _, _, _, _, _, _, _, _, rfl, lk_x3, co_x3⟩⟩
  have b_x3 : Binds K _ ["self", "row"] [] := C8.Fun.binds F_x3 rfl fun _ _ _ _ _ _ us hl => match us, hl with | [_, _], _ => rfl
  have F_x5 : C8.Fun K "__init__" "Never.__init__" s_Never_init g_x5 _ := ⟨⟨_, _, _, _, _, _, _, _, _, _, rfl, lk_x5, co_x5⟩⟩
  have b_x5 : Binds K _ ["self", "way"] [] := C8.Fun.binds F_x5 rfl fun _ _ _ _ _ _ us hl => match us, hl with | [_, _], _ => rfl
  have F_x6 : C8.Fun K "__init__" "NoAnswers.__init__" s_NoAnswers_init g_x6 _ := ⟨⟨_, _, _, _, _, _, _, _, _, _, rfl, lk_x6, co_x6⟩⟩
  have b_x6 : Binds K _ ["self", "at"] [] := C8.Fun.binds F_x6 rfl fun _ _ _ _ _ _ us hl => match us, hl with | [_, _], _ => rfl
  have F_x8 : C8.Fun K "__init__" "NoLiterals.__init__" s_NoLiterals_init g_x8 _ := ⟨⟨_, _, _, _, _, _, _, _, _, _, rfl, lk_x8, co_x8⟩⟩
  have b_x8 : Binds K _ ["self", "at"] [] := C8.Fun.binds F_x8 rfl fun _ _ _ _ _ _ us hl => match us, hl with | [_, _], _ => rfl
  have F_x9 : C8.Fun K "__init__" "NoName.__init__" s_NoName_init g_x9 _ := ⟨⟨_, _, _, _, _, _, _, _, _, _, rfl, lk_x9, co_x9⟩⟩
  have b_x9 : Binds K _ ["self", "term"] [] := C8.Fun.binds F_x9 rfl fun _ _ _ _ _ _ us hl => match us, hl with | [_, _], _ => rfl
  have F_x11 : C8.Fun K "__init__" "NoPlace.__init__" s_NoPlace_init g_x11 _ := ⟨⟨_, _, _, _, _, _, _, _, _, _, rfl, lk_x11, co_x11⟩⟩
  have b_x11 : Binds K _ ["self", "place"] [] := C8.Fun.binds F_x11 rfl fun _ _ _ _ _ _ us hl => match us, hl with | [_, _], _ => rfl
  have F_x13 : C8.Fun K "__init__" "NoSteps.__init__" s_NoSteps_init g_x13 _ := ⟨⟨_, _, _, _, _, _, _, _, _, _, rfl, lk_x13, co_x13⟩⟩
  have b_x13 : Binds K _ ["self", "steps"] [] := C8.Fun.binds F_x13 rfl fun _ _ _ _ _ _ us hl => match us, hl with | [_, _], _ => rfl
  have F_x15 : C8.Fun K "__init__" "NoWay.__init__" s_NoWay_init g_x15 _ := ⟨⟨_, _, _, _, _, _, _, _, _, _, rfl, lk_x15, co_x15⟩⟩
  have b_x15 : Binds K _ ["self", "way"] [] := C8.Fun.binds F_x15 rfl fun _ _ _ _ _ _ us hl => match us, hl with | [_, _], _ => rfl
  have F_x16 : C8.Fun K "__init__" "TooFew.__init__" s_TooFew_init g_x16 _ := ⟨⟨_, _, _, _, _, _, _, _, _, _, rfl, lk_x16, co_x16⟩⟩
  have b_x16 : Binds K _ ["self", "many"] [] := C8.Fun.binds F_x16 rfl fun _ _ _ _ _ _ us hl => match us, hl with | [_, _], _ => rfl
  have F_x18 : C8.Fun K "__init__" "TooMany.__init__" s_TooMany_init g_x18 _ := ⟨⟨_, _, _, _, _, _, _, _, _, _, rfl, lk_x18, co_x18⟩⟩
  have b_x18 : Binds K _ ["self", "most"] [] := C8.Fun.binds F_x18 rfl fun _ _ _ _ _ _ us hl => match us, hl with | [_, _], _ => rfl
  have F_ci : C8.Fun K "__init__" "Check.__init__" s_Check_init g_ci _ := ⟨⟨_, _, _, _, _, _, _, _, _, _, rfl, lk_ci, co_ci⟩⟩
  have b_ci : Binds K _ ["self", "inputs", "block"] [] := C8.Fun.binds F_ci rfl fun _ _ _ _ _ _ us hl => match us, hl with | [_, _, _], _ => rfl
  have F_cb : C8.Fun K "block_flow" "Check.block_flow" s_Check_block_flow g_cb _ := ⟨⟨_, _, _, _, _, _, _, _, _, _, rfl, lk_cb, co_cb⟩⟩
  have b_cb : Binds K _ ["self", "block", "before", "known", "looped"] [] := C8.Fun.binds F_cb rfl fun _ _ _ _ _ _ us hl => match us, hl with | [_, _, _, _, _], _ => rfl
  have F_pi : C8.Fun K "__init__" "Program.__init__" s_Program_init g_pi _ := ⟨⟨_, _, _, _, _, _, _, _, _, _, rfl, lk_pi, co_pi⟩⟩
  have b_pi : Binds K _ ["self", "inputs", "block"] [] := C8.Fun.binds F_pi rfl fun _ _ _ _ _ _ us hl => match us, hl with | [_, _, _], _ => rfl
  have F_pq : C8.Fun K "__eq__" "Program.__eq__" s_Program_eq g_pq _ := ⟨⟨_, _, _, _, _, _, _, _, _, _, rfl, lk_pq, co_pq⟩⟩
  have b_pq : Binds K _ ["self", "other"] [] := C8.Fun.binds F_pq rfl fun _ _ _ _ _ _ us hl => match us, hl with | [_, _], _ => rfl
  have TC : ChkC K CK := by
    have z := nK
    simp only [Bool.and_eq_true, decide_eq_true_eq] at z
    exact ⟨cls_of cl_CK, z.1, z.2.1, z.2.2.1, z.2.2.2.1, z.2.2.2.2⟩
  have BB : Kd.SD K w aB barred := ⟨esB, nB, ⟨lkB, litB, lowB⟩, strB⟩
  have IP : C8.InsC K CP := by
    have z := iP
    simp only [Bool.and_eq_true, decide_eq_true_eq] at z
    exact ⟨cls_of cl_CP, z.1, xn, xt, z.2.1, z.2.2⟩
  refine ⟨PySem.W.fnOf "law" "law" (C8.fnArgs s_law) (C8.fnBody s_law) (C8.fnScope s_law) .none kV10 dc10 pm10 an10 cd10 ct10, fun s v => .of_eq rfl, fun base _ _ => ?_⟩
  have Q_is_word : C8.Cal l.prog w K mg base 1 "is_word" spWord [] := ok_is_word D0 b0 T
  have Q_is_name : C8.Cal l.prog w K mg base 2 "is_name" spWord [] := ok_is_name D1 b1 T BB Q_is_word
  have Q_are_different : C8.Cal l.prog w K mg base 1 "are_different" (spOneName K) [] := ok_are_different D2 b2 T
  have Q_are_names : C8.Cal l.prog w K mg base 3 "are_names" (spOneName K) [] := ok_are_names D3 b3 T Q_is_name Q_are_different
  have Q_block_flow : C8.Met l.prog w K mg base 1 CK "block_flow" (spBF K) [] := ok_block_flow ⟨fi_cb, ty_cb, kp_cb⟩ F_cb b_cb TC T
  have Q_Check : C8.Mak l.prog w K mg base 4 "Check" CK (spChkI K CK) [] := ok_Check ⟨mk_CK, fi_ci, ty_ci, kp_CK⟩ (PySem.W.mg_of X G gK) F_ci b_ci T TC Q_are_names Q_block_flow
  have Q_Program : C8.Mak l.prog w K mg base 6 "Program" CP (spPI K CP) [] := ok_Program ⟨mk_CP, fi_pi, ty_pi, kp_CP⟩ F_pi b_pi T TC Q_Check
  have KQ : EqQ l.prog w K mg base CP := ⟨_, _, ok_Program_eq F_pq T IP, fi_pq, ty_pq, b_pq⟩
  have KE : Makes l.prog w K mg base (fun k => [Ca0, Ca1, Ca2, Ca3, Ca4, Ca5, Ca6, Ca7, Ca8, Ca9, Ca10, Ca11, Ca12, Ca13, Ca14, Ca15, Ca16, Ca17, Ca18, Ca19].getD k 0) := { m0 := mk_BadChoices (C := (fun k => [Ca0, Ca1, Ca2, Ca3, Ca4, Ca5, Ca6, Ca7, Ca8, Ca9, Ca10, Ca11, Ca12, Ca13, Ca14, Ca15, Ca16, Ca17, Ca18, Ca19].getD k 0)) F_x0 b_x0 T fi_x0 (typ_of_fn ty_x0), m1 := mk_BadProgram (C := (fun k => [Ca0, Ca1, Ca2, Ca3, Ca4, Ca5, Ca6, Ca7, Ca8, Ca9, Ca10, Ca11, Ca12, Ca13, Ca14, Ca15, Ca16, Ca17, Ca18, Ca19].getD k 0)) F_x1 b_x1 T fi_x1 (typ_of_fn ty_x1), m2 := mk_BadStates (C := (fun k => [Ca0, Ca1, Ca2, Ca3, Ca4, Ca5, Ca6, Ca7, Ca8, Ca9, Ca10, Ca11, Ca12, Ca13, Ca14, Ca15, Ca16, Ca17, Ca18, Ca19].getD k 0)) F_x2 b_x2 T fi_x2 (typ_of_fn ty_x2), m3 := mk_BadText (C := (fun k => [Ca0, Ca1, Ca2, Ca3, Ca4, Ca5, Ca6, Ca7, Ca8, Ca9, Ca10, Ca11, Ca12, Ca13, Ca14, Ca15, Ca16, Ca17, Ca18, Ca19].getD k 0)) F_x3 b_x3 T fi_x3 (typ_of_fn ty_x3), m5 := mk_Never (C := (fun k => [Ca0, Ca1, Ca2, Ca3, Ca4, Ca5, Ca6, Ca7, Ca8, Ca9, Ca10, Ca11, Ca12, Ca13, Ca14, Ca15, Ca16, Ca17, Ca18, Ca19].getD k 0)) F_x5 b_x5 T fi_x5 (typ_of_fn ty_x5), m6 := mk_NoAnswers (C := (fun k => [Ca0, Ca1, Ca2, Ca3, Ca4, Ca5, Ca6, Ca7, Ca8, Ca9, Ca10, Ca11, Ca12, Ca13, Ca14, Ca15, Ca16, Ca17, Ca18, Ca19].getD k 0)) F_x6 b_x6 T fi_x6 (typ_of_fn ty_x6), m8 := mk_NoLiterals (C := (fun k => [Ca0, Ca1, Ca2, Ca3, Ca4, Ca5, Ca6, Ca7, Ca8, Ca9, Ca10, Ca11, Ca12, Ca13, Ca14, Ca15, Ca16, Ca17, Ca18, Ca19].getD k 0)) F_x8 b_x8 T fi_x8 (typ_of_fn ty_x8), m9 := mk_NoName (C := (fun k => [Ca0, Ca1, Ca2, Ca3, Ca4, Ca5, Ca6, Ca7, Ca8, Ca9, Ca10, Ca11, Ca12, Ca13, Ca14, Ca15, Ca16, Ca17, Ca18, Ca19].getD k 0)) F_x9 b_x9 T fi_x9 (typ_of_fn ty_x9), m11 := mk_NoPlace (C := (fun k => [Ca0, Ca1, Ca2, Ca3, Ca4, Ca5, Ca6, Ca7, Ca8, Ca9, Ca10, Ca11, Ca12, Ca13, Ca14, Ca15, Ca16, Ca17, Ca18, Ca19].getD k 0)) F_x11 b_x11 T fi_x11 (typ_of_fn ty_x11), m13 := mk_NoSteps (C := (fun k => [Ca0, Ca1, Ca2, Ca3, Ca4, Ca5, Ca6, Ca7, Ca8, Ca9, Ca10, Ca11, Ca12, Ca13, Ca14, Ca15, Ca16, Ca17, Ca18, Ca19].getD k 0)) F_x13 b_x13 T fi_x13 (typ_of_fn ty_x13), m15 := mk_NoWay (C := (fun k => [Ca0, Ca1, Ca2, Ca3, Ca4, Ca5, Ca6, Ca7, Ca8, Ca9, Ca10, Ca11, Ca12, Ca13, Ca14, Ca15, Ca16, Ca17, Ca18, Ca19].getD k 0)) F_x15 b_x15 T fi_x15 (typ_of_fn ty_x15), m16 := mk_TooFew (C := (fun k => [Ca0, Ca1, Ca2, Ca3, Ca4, Ca5, Ca6, Ca7, Ca8, Ca9, Ca10, Ca11, Ca12, Ca13, Ca14, Ca15, Ca16, Ca17, Ca18, Ca19].getD k 0)) F_x16 b_x16 T fi_x16 (typ_of_fn ty_x16), m18 := mk_TooMany (C := (fun k => [Ca0, Ca1, Ca2, Ca3, Ca4, Ca5, Ca6, Ca7, Ca8, Ca9, Ca10, Ca11, Ca12, Ca13, Ca14, Ca15, Ca16, Ca17, Ca18, Ca19].getD k 0)) F_x18 b_x18 T fi_x18 (typ_of_fn ty_x18) }
  have Q_l_well : C8.Cal l.prog w K mg base 1 "_law_well" spWell [] := ok_l_well D4 b4 T
  have Q_l_draw : C8.Cal l.prog w K mg base 1 "_law_draw" spDraw [] := ok_l_draw D5 b5 T
  have Q_l_one : C8.Cal l.prog w K mg base 2 "_law_one" (spOne K) [] := ok_l_one D6 b6 T Q_l_draw
  exact ok_law F10 T Q_l_well Q_l_draw Q_l_one Q_Program (ok_l_kinds D7 b7 T) (ok_l_first D8 b8 T KE KQ) (ok_l_second D9 b9 T KE KQ)
theorem walk {l : PySem.W.OpenLaw} {q : Program} {loose : List Str} {XP : (Str → Option Value) → Heap → Prop} {YP : World → Heap → Prop} {d : DefRec} {K : Params → PySem.W.Frag} (hn : l.most = some 63) (hdf : d.params.defaults = [])
    (hY : ∀ (w : World) (h : Heap), YP w h → (K w.params).In h)
    (F : ∀ (w : World) (mg : Str → Option Value) (fa : Addr) (h : Heap), (K w.params).In h → h.Ns mainGlobals mg → mg d.name = some (.ref fa) →
      ∃ fd : FuncData, (∀ (s : Shared) (u : Value), BindsTo s fd ⟨[u], []⟩ [("_law_script", u)]) ∧ ∀ base : Heap, (K w.params).In base → base.Ns mainGlobals mg → FnOk l.prog w (K w.params) mg base C8.CX0 8 fa fd ["_law_script"] (spLaw (K w.params))) :
    PySem.W.WalkO q loose XP YP l.row.toRowW d [] (fun f vs => PySem.call f vs) :=
  L2.walk_of (n := 63) (k := 8) (x := "_law_script") (CX := fun _ => C8.CX0) (sp := fun w => spLaw (K w.params)) hn (by decide) hdf ⟨rfl, by decide, by decide⟩ hY F (fun _ _ a ns hl _ hS => ⟨a, ns, rfl, hS, hl, fun _ => rfl⟩) fun _ _ _ _ _ z => z
end K19

open PySem PySem.W PyProof.Rows
set_option maxRecDepth 100000 in
set_option maxHeartbeats 0 in
theorem PySem.Challenge.cw_behindexits_k19_errors_made_holds : PySem.Challenge.rw_behindexits_k19_errors_made.Holds := by
  w_on; o_law; k_head; (case hw => w_witness2)
  k_fill
  refine K19.walk (l := PySem.Challenge.rw_behindexits_k19_errors_made) rfl rfl (fun w h Y => PySem.W.kIn_of Y) ?F
  case F =>
    intro w mg fa h KX G hmg
    refine' K19.all_mk KX G hmg ?aE0 ?aE1 ?aE2 ?aE3 ?aE4 ?aE5 ?aE6 ?aE7 ?aE8 ?aE9 ?aE10 ?aE11 ?aE12 ?aE13 ?aE14 ?aE15 ?aE16 ?aE17 ?aE18 ?aE19 ?gB ?gP ?gK ?gE ?gBA ?gO ?lkE ?lkB ?rE ?litB ?lowB ?strB ?xL0 ?xL1 ?xL2 ?xL3 ?xL5 ?xL6 ?xL8 ?xL9 ?xL11 ?xL13 ?xL15 ?xL16 ?xL18 ?fi_x0 ?lk_x0 ?co_x0 ?ty_x0 ?fi_x1 ?lk_x1 ?co_x1 ?ty_x1 ?fi_x2 ?lk_x2 ?co_x2 ?ty_x2 ?fi_x3 ?lk_x3 ?co_x3 ?ty_x3 ?fi_x5 ?lk_x5 ?co_x5 ?ty_x5 ?fi_x6 ?lk_x6 ?co_x6 ?ty_x6 ?fi_x8 ?lk_x8 ?co_x8 ?ty_x8 ?fi_x9 ?lk_x9 ?co_x9 ?ty_x9 ?fi_x11 ?lk_x11 ?co_x11 ?ty_x11 ?fi_x13 ?lk_x13 ?co_x13 ?ty_x13 ?fi_x15 ?lk_x15 ?co_x15 ?ty_x15 ?fi_x16 ?lk_x16 ?co_x16 ?ty_x16 ?fi_x18 ?lk_x18 ?co_x18 ?ty_x18 ?fi_ci ?lk_ci ?co_ci ?ty_ci ?fi_cb ?lk_cb ?co_cb ?ty_cb ?fi_pi ?lk_pi ?co_pi ?ty_pi ?fi_pq ?lk_pq ?co_pq ?ty_pq ?kp_cb ?cl_CP ?mk_CP ?kp_CP ?cl_CK ?mk_CK ?kp_CK ?nP ?nK ?iP ?xn ?xt ?eb ?kt ?x0 ?no ?a0 ?l0 ?c0 ?k0 ?a1 ?l1 ?c1 ?k1 ?a2 ?l2 ?c2 ?k2 ?a3 ?l3 ?c3 ?k3 ?a4 ?l4 ?c4 ?k4 ?a5 ?l5 ?c5 ?k5 ?a6 ?l6 ?c6 ?k6 ?a7 ?l7 ?c7 ?k7 ?a8 ?l8 ?c8 ?k8 ?a9 ?l9 ?c9 ?k9 ?a10 ?l10 ?c10 ?k10 ?y_isinstance ?y_len ?y_int ?y_str ?y_tuple ?y_set ?y_all ?y_range ?y_enumerate ?y_ValueError
    (case aE0 => k_is)
    (case aE1 => k_is)
    (case aE2 => k_is)
    (case aE3 => k_is)
    (case aE4 => k_is)
    (case aE5 => k_is)
    (case aE6 => k_is)
    (case aE7 => k_is)
    (case aE8 => k_is)
    (case aE9 => k_is)
    (case aE10 => k_is)
    (case aE11 => k_is)
    (case aE12 => k_is)
    (case aE13 => k_is)
    (case aE14 => k_is)
    (case aE15 => k_is)
    (case aE16 => k_is)
    (case aE17 => k_is)
    (case aE18 => k_is)
    (case aE19 => k_is)
    (case gB => k_is)
    (case gP => k_is)
    (case gK => k_is)
    (case gE => k_is)
    (case gBA => k_is)
    (case gO => k_is)
    (case lkE => k_is)
    (case lkB => k_is)
    (case rE => kernel_rfl)
    (case litB => repeat (first | exact True.intro | refine ⟨⟨_, _, rfl, rfl⟩, ?_⟩))
    (case lowB => rfl)
    (case strB => kernel_rfl)
    (case xL0 => k_is)
    (case xL1 => k_is)
    (case xL2 => k_is)
    (case xL3 => k_is)
    (case xL5 => k_is)
    (case xL6 => k_is)
    (case xL8 => k_is)
    (case xL9 => k_is)
    (case xL11 => k_is)
    (case xL13 => k_is)
    (case xL15 => k_is)
    (case xL16 => k_is)
    (case xL18 => k_is)
    (case fi_x0 => k_is)
    (case lk_x0 => k_is)
    (case co_x0 => k_is)
    (case ty_x0 => k_is)
    (case fi_x1 => k_is)
    (case lk_x1 => k_is)
    (case co_x1 => k_is)
    (case ty_x1 => k_is)
    (case fi_x2 => k_is)
    (case lk_x2 => k_is)
    (case co_x2 => k_is)
    (case ty_x2 => k_is)
    (case fi_x3 => k_is)
    (case lk_x3 => k_is)
    (case co_x3 => k_is)
    (case ty_x3 => k_is)
    (case fi_x5 => k_is)
    (case lk_x5 => k_is)
    (case co_x5 => k_is)
    (case ty_x5 => k_is)
    (case fi_x6 => k_is)
    (case lk_x6 => k_is)
    (case co_x6 => k_is)
    (case ty_x6 => k_is)
    (case fi_x8 => k_is)
    (case lk_x8 => k_is)
    (case co_x8 => k_is)
    (case ty_x8 => k_is)
    (case fi_x9 => k_is)
    (case lk_x9 => k_is)
    (case co_x9 => k_is)
    (case ty_x9 => k_is)
    (case fi_x11 => k_is)
    (case lk_x11 => k_is)
    (case co_x11 => k_is)
    (case ty_x11 => k_is)
    (case fi_x13 => k_is)
    (case lk_x13 => k_is)
    (case co_x13 => k_is)
    (case ty_x13 => k_is)
    (case fi_x15 => k_is)
    (case lk_x15 => k_is)
    (case co_x15 => k_is)
    (case ty_x15 => k_is)
    (case fi_x16 => k_is)
    (case lk_x16 => k_is)
    (case co_x16 => k_is)
    (case ty_x16 => k_is)
    (case fi_x18 => k_is)
    (case lk_x18 => k_is)
    (case co_x18 => k_is)
    (case ty_x18 => k_is)
    (case fi_ci => k_is)
    (case lk_ci => k_is)
    (case co_ci => k_is)
    (case ty_ci => k_is)
    (case fi_cb => k_is)
    (case lk_cb => k_is)
    (case co_cb => k_is)
    (case ty_cb => k_is)
    (case fi_pi => k_is)
    (case lk_pi => k_is)
    (case co_pi => k_is)
    (case ty_pi => k_is)
    (case fi_pq => k_is)
    (case lk_pq => k_is)
    (case co_pq => k_is)
    (case ty_pq => k_is)
    (case kp_cb => k_is)
    (case cl_CP => kernel_rfl)
    (case mk_CP => k_is)
    (case kp_CP => k_is)
    (case cl_CK => kernel_rfl)
    (case mk_CK => k_is)
    (case kp_CK => k_is)
    (case nP => kernel_rfl)
    (case nK => kernel_rfl)
    (case iP => kernel_rfl)
    (case xn => k_is)
    (case xt => k_is)
    (case eb => kernel_rfl)
    (case kt => kernel_rfl)
    (case x0 => kernel_rfl)
    (case no => kernel_rfl)
    (case a0 => k_is)
    (case l0 => k_is)
    (case c0 => k_is)
    (case k0 => k_is)
    (case a1 => k_is)
    (case l1 => k_is)
    (case c1 => k_is)
    (case k1 => k_is)
    (case a2 => k_is)
    (case l2 => k_is)
    (case c2 => k_is)
    (case k2 => k_is)
    (case a3 => k_is)
    (case l3 => k_is)
    (case c3 => k_is)
    (case k3 => k_is)
    (case a4 => k_is)
    (case l4 => k_is)
    (case c4 => k_is)
    (case k4 => k_is)
    (case a5 => k_is)
    (case l5 => k_is)
    (case c5 => k_is)
    (case k5 => k_is)
    (case a6 => k_is)
    (case l6 => k_is)
    (case c6 => k_is)
    (case k6 => k_is)
    (case a7 => k_is)
    (case l7 => k_is)
    (case c7 => k_is)
    (case k7 => k_is)
    (case a8 => k_is)
    (case l8 => k_is)
    (case c8 => k_is)
    (case k8 => k_is)
    (case a9 => k_is)
    (case l9 => k_is)
    (case c9 => k_is)
    (case k9 => k_is)
    (case a10 => k_is)
    (case l10 => k_is)
    (case c10 => k_is)
    (case k10 => k_is)
    (case y_isinstance => k_is)
    (case y_len => k_is)
    (case y_int => k_is)
    (case y_str => k_is)
    (case y_tuple => k_is)
    (case y_set => k_is)
    (case y_all => k_is)
    (case y_range => k_is)
    (case y_enumerate => k_is)
    (case y_ValueError => k_is)

