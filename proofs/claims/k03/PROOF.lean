import PyProof.Rows.All
import Wide.All
import OpenK.AllK
import Wide.FinOn
import HandS.Codes
import HandS.Conv
import HandS.Deep
import HandS.Dict
import HandS.DictComp
import HandS.EndTab
import HandS.Evl
import HandS.Exc
import HandS.ExcField
import HandS.ExcIs
import HandS.ExcOwn
import HandS.ForExc
import HandS.ForMost
import HandS.IsInst
import HandS.Lambda
import HandS.SetFor
import HandS.TryOnly
import HandS.TupAny
import HandS.Wide
import HandS.WordsExc
import KE.GoesMore
import KE.KNestM
import PyProof.Draws
import PyProof.EnumMake
import PyProof.FactsAll.dict_1
import PyProof.P3In
import PySem.Challenge.RW_behindexits_k03_no_literals
set_option Elab.async false
set_option linter.all false
set_option maxRecDepth 100000
set_option maxHeartbeats 4000000
namespace Bx
open PySem PySem.Spec PyProof.Rows L2
example (K : PySem.W.Frag) : PySem.W.kitOne K (.type "bool") (.type "int") = some true := by rfl
example (K : PySem.W.Frag) : PySem.W.kitOne K (.type "NoneType") (.type "int") = some false := by rfl
example (K : PySem.W.Frag) : PySem.W.kitOne K (.type "list") (.type "tuple") = some false := by rfl
example (K : PySem.W.Frag) : PySem.W.kitAny K (.type "dict") [.type "list", .type "tuple"] = some false := by rfl
section
variable {X : Cx}
def rCatS (K : PySem.W.Frag) : R2 := fun x y H Q => ∃ l b xs zs, x = .ref l ∧ y = .ref b ∧ SqL K H l xs ∧ SqL K H b zs ∧ xs.length + zs.length ≤ sizeLine ∧ ∀ p, H p = none → Q (.ref p) (upd H p (.lst (xs ++ zs)))
theorem op_catS : OpR X (binaryOp .Add) (rCatS X.K) := by
  intro pins s σ H x y v u Q I rx ry h
  obtain ⟨l, b, xs, zs, rfl, rfl, hH, hB, hz, q⟩ := h
  cases rx
  cases ry
  obtain ⟨its, r, ⟨⟨cls, dd, data, sl⟩, n, ho, hc, hdd, hd⟩, _⟩ := I.list hH
  obtain ⟨its2, r2, ⟨⟨cls2, dd2, data2, sl2⟩, n2, ho2, hc2, hdd2, hd2⟩, _⟩ := I.list hB
  simp only at hc hd hdd hc2 hd2 hdd2
  subst hc hd hdd hc2 hd2 hdd2
  have e1 := r.length
  have e2 := r2.length
  have e : its.toArray ++ its2.toArray = (its ++ its2).toArray := by simp
  refine concat_meets ⟨_, ho, rfl⟩ ⟨_, ho2, rfl⟩ noFill_list_add seq_list_add PySem.F.slot_list_add PySem.F.entry_list_add (PySem.F.args_list_add_2 _ _) (list_addW l b its.toArray its2.toArray n n2 none none sl sl2 (by simp; omega)) ⟨ho, ho2, ?_⟩
  rw [e]
  exact ⟨.ref _, _, I.lnew (t' := s.toks) (r.append r2) (by rw [List.length_append]; omega), rfl, q _ I.fresh⟩

/-! len(set(t)), t a tuple of ints -/
def tLenSetT (K : PySem.W.Frag) (ta : TE) : TE := fun σ H Q => ta σ H fun x H1 => ∃ (l : Addr) (ns : List Int), x = .ref l ∧ SqT K H1 l (ns.map V.int) ∧ ns.length ≤ 1000 ∧
  ∀ out : List Int, out.Nodup → (∀ k, k ∈ out ↔ k ∈ ns) → Q (.int (out.length : Nat)) H1
theorem pe_lenSetT {a : Expr} {ta : TE} {p p2 q pos : Pos} (hm : X.mg "len" = none) (hm2 : X.mg "set" = none) (ha : PE X a ta) (hg : Gl X "len" := by rfl) (hg2 : Gl X "set" := by rfl) (hc : X.calm = true := by rfl)
    (na : starEach [a] X.env = (false, eval a X.env) :: starEach [] X.env := by rfl) : PE X (.Call (.Name "len" p) [.Call (.Name "set" p2) [a] [] q] [] pos) (tLenSetT X.K ta) := by
  refine ⟨fun pins s σ H Q I h => ?_⟩
  refine Call_ (ld_blt I hg hm boot_len ?_)
  refine PyProof.Rows.callWith_builtin1 (PyProof.Rows.args_cons ?_ rfl) rfl rfl
  refine Call_ (ld_blt I hg2 hm2 boot_set ?_)
  refine PyProof.Rows.callWith_type1 (PyProof.Rows.args_cons (thn (ha.run pins s σ H _ I h) fun v s1 ⟨x, H1, I1, r1, q1⟩ => PyProof.Rows.args_nil ?_) na) na rfl
  obtain ⟨l, ns, rfl, hq, hl, q1⟩ := q1
  cases r1
  obtain ⟨its, rv, pt, hz⟩ := I1.tuple hq
  have hi : IntsAre its.toArray.toList ns := ints_of_vals rv
  have hd := I1.ok.hd hc
  refine call_set_tupI ns hd (show s1.heap.IsTuple l its.toArray from pt) hi (by unfold scanBound; omega) fun h' tk c R1 hcn k => ?_
  refine PyProof.Rows.args_nil ?_
  obtain ⟨o, es, ep, t, ho, hex, hdt, g, nd, hm2, hb, hf, hn, hr, hl2⟩ := R1
  have I2 : Inv X pins σ H1 { s1 with heap := h', toks := tk } := I1.kept fun b o e => k b o e
  have hlen : es.size = (es.toList.map keyOf).length := by rw [List.length_map, Array.length_toList]
  refine call_len_set ho hex hdt hf (by rw [hn]; omega) ⟨.int ((es.toList.map keyOf).length : Nat), H1, I2.tok _, ⟨_, by rw [← hlen]⟩, q1 _ nd fun j => ?_⟩
  rw [← hm2 j, decide_eq_true_eq]
end
section
variable {prog : Program} {w : World} {A : Around} {E : Value → Shared → Prop} {s : Shared}
theorem fm_congr {α β : Type} {f g : α → Option β} : ∀ {l : List α}, (∀ m ∈ l, f m = g m) → l.filterMap f = l.filterMap g
  | [], _ => rfl
  | a :: l, h => by
    rw [List.filterMap_cons, List.filterMap_cons, h a List.mem_cons_self, fm_congr fun m hm => h m (List.mem_cons_of_mem _ hm)]
theorem rev_applied {A : Around} {E : Value → Shared → Prop} {s : Shared} {sl : Addr} {vs : Value} {n : Nat} {Q : Int × Int × Nat → Shared → Prop} (hs : s.heap.IsSliceOf sl .none .none vs) (ps : IsPart vs (some (-1))) (h : Q (((n : Nat) : Int) - 1, -1, n) s) :
    wpAny (model prog w) A (Builtin.Slice.sliceApplied (.ref sl) (pure ((n : Nat) : Int))) Q E s := by
  obtain ⟨os, hos, hcs, hds⟩ := id hs
  unfold Builtin.Slice.sliceApplied Builtin.Slice.sliceFields
  refine wpAny_bind (wpAny_bind (wpAny_field hos hds (x := .none) rfl (wpAny_bind (wpAny_field hos hds (x := .none) rfl (wpAny_bind (wpAny_field hos hds (x := vs) rfl (wpAny_pure ?_)))))))
  refine wpAny_bind (HT.slicePart_ ps ?_)
  show wpAny _ _ (if ((-1 : Int) == 0) = true then _ else _) _ _ s
  rw [if_neg (by decide)]
  refine wpAny_bind (slicePart_none (wpAny_bind (slicePart_none (wpAny_bind (wpAny_pure ?_)))))
  have ea : Builtin.Slice.sliceAdjust none none (-1) ((n : Nat) : Int) = (((n : Nat) : Int) - 1, -1) := by
    unfold Builtin.Slice.sliceAdjust
    simp
  have ep : Builtin.Slice.slicePlaces (((n : Nat) : Int) - 1) (-1) (-1) = n := by
    unfold Builtin.Slice.slicePlaces
    have h1 : ¬ ((-1 : Int) > 0) := by decide
    have h2 : (- -1 : Int) = 1 := by decide
    simp only [h1, if_false, h2, Int.ediv_one]
    split <;> omega
  show wpAny _ _ (match Builtin.Slice.sliceAdjust none none (-1) ((n : Nat) : Int) with | (lo, hi) => pure (lo, (-1 : Int), Builtin.Slice.slicePlaces lo hi (-1))) _ _ s
  rw [ea]
  show wpAny _ _ (pure (((n : Nat) : Int) - 1, (-1 : Int), Builtin.Slice.slicePlaces (((n : Nat) : Int) - 1) (-1) (-1))) _ _ s
  rw [ep]
  exact wpAny_pure h
theorem rev_pick (items : Array Value) : ((List.range items.size).filterMap fun (m : Nat) => items[(((items.size : Nat) : Int) - 1 + (m : Int) * (-1)).toNat]?).toArray = items.toList.reverse.toArray := by
  have e : ((List.range items.size).filterMap fun (m : Nat) => items[(((items.size : Nat) : Int) - 1 + (m : Int) * (-1)).toNat]?) = ((List.range items.size).map fun k => items.size - 1 - k).filterMap (items[·]?) := by
    rw [List.filterMap_map]
    refine fm_congr fun m hm => ?_
    have := List.mem_range.mp hm
    show items[(((items.size : Nat) : Int) - 1 + (m : Int) * (-1)).toNat]? = items[items.size - 1 - m]?
    rw [show (((items.size : Nat) : Int) - 1 + (m : Int) * (-1)).toNat = items.size - 1 - m by omega]
  rw [e, PySem.W.krv_range, List.filterMap_reverse, PySem.W.krv_all]
theorem getItem_tuple_rev {t sl : Addr} {items : Array Value} {vs : Value} {Q : Value → Shared → Prop} (ht : IsTup s.heap t items) (hs : s.heap.IsSliceOf sl .none .none vs) (ps : IsPart vs (some (-1)))
    (h : Q (.ref s.heap.objs.size) { s with heap := s.heap.push { cls := .type "tuple", data := .seq items.toList.reverse.toArray } })
    (hsz : items.size ≤ sizeLine) : wpAny (model prog w) A (getItem (.ref t) (.ref sl)) Q E s := by
  have htake : sizeOk (.seq items.toList.reverse.toArray) := by
    show items.toList.reverse.toArray.size ≤ sizeLine
    rw [List.size_toArray, List.length_reverse, Array.length_toList]
    exact hsz
  obtain ⟨os, hos, hcs, hds⟩ := id hs
  have hTs : s.TypeIs (.ref sl) "slice" := ⟨os, hos, hcs⟩
  unfold getItem
  try with_reducible refine wpAny_holding ?_
  first | refine wpAny_bind (wpAny_pure ?_) | skip
  refine wpAny_bind (wpAny_sequenceKey ht.typeIs (by decide) ?_)
  refine wpAny_bind (wpAny_callSpecial?_slot (name := Str.ofString "__getitem__") ht.typeIs PyProof.Rows.slot_tuple_getitem
    (wpAny_call_entry PyProof.Rows.slot_tuple_getitem ht.typeIs entry_tuple_getitem ?_ (args_tuple_getitem _ _)))
  show wpAny _ _ (Builtin.Tuple.tupleItemsOf (.ref t) >>= _) _ _ s
  refine wpAny_bind (tupleItemsOf_ ht ?_)
  refine wpAny_bind (wpAny_typeOf hTs ?_)
  rw [if_pos (by decide)]
  refine wpAny_bind (rev_applied hs ps ?_)
  have hno : ¬ (((((items.size : Nat) : Int) - 1) == 0 && (-1 : Int) == 1 && items.size == items.size) = true) := by
    intro q
    rw [Bool.and_eq_true, Bool.and_eq_true] at q
    exact absurd q.1.2 (by decide)
  show wpAny _ _ (if ((((items.size : Nat) : Int) - 1) == 0 && (-1 : Int) == 1 && items.size == items.size) = true then _ else _) _ _ s
  rw [if_neg hno, rev_pick]
  first
    | exact wpAny_bind (m := Builtin.Tuple.tupleExact _) (wpAny_newObj_type (wpAny_pure ⟨_, rfl, wpAny_pure h⟩) htake)
    | exact wpAny_bind (m := Builtin.Tuple.tupleExact _) (wpAny_newObj_type (wpAny_bind (wpAny_pure (wpAny_pure ⟨_, rfl, wpAny_pure h⟩))) htake)
    | exact wpAny_bind (wpAny_bind (m := Builtin.Tuple.tupleExact _) (wpAny_newObj_type (wpAny_pure (wpAny_pure ⟨_, rfl, wpAny_pure h⟩)) htake))
    | exact wpAny_bind (wpAny_bind (m := Builtin.Tuple.tupleExact _) (wpAny_newObj_type (wpAny_pure ⟨_, rfl, wpAny_pure h⟩) htake))
end
section
variable {X : Cx}
def tRevT (K : PySem.W.Frag) (te : TE) : TE := fun σ H Q => te σ H fun x H1 => ∃ a xs, x = .ref a ∧ SqT K H1 a xs ∧ ∀ p, H1 p = none → Q (.ref p) (upd H1 p (.tup xs.reverse))
theorem pe_revT {e : Expr} {te : TE} {k : Nat} {p1 p2 p3 pos : Pos} (he : PE X e te) : PE X (.Subscript e (.Slice none none (some (.UnaryOp .USub (.Constant (.int 1) k p1) p2)) p3) pos) (tRevT X.K te) := by
  refine ⟨fun pins s σ H Q I h => ?_⟩
  refine Subscript_ (thn (he.run pins s σ H _ I h) fun v s1 ⟨x, H1, I1, r1, q1⟩ => ?_)
  obtain ⟨a, xs, ex, hx, q⟩ := q1
  subst ex
  cases r1
  have hst : PO X (some (.UnaryOp .USub (.Constant (.int 1) k p1) p2)) (tPart (tUn (rU fun i => .int (-i)) (tC (.int 1)))) := po_some (pe_un un_neg pe_int)
  refine wpAny_Slice (thn (po_none.run pins s1 σ H1 (fun o H2 => o = none ∧ H2 = H1) I1 ⟨rfl, rfl⟩) fun vl s2 ⟨l, H2, I2, pl, el, e2⟩ => ?_)
  subst el e2
  refine thn (po_none.run pins s2 σ H2 (fun o H3 => o = none ∧ H3 = H2) I2 ⟨rfl, rfl⟩) fun vu s3 ⟨u, H3, I3, pu, eu, e3⟩ => ?_
  subst eu e3
  refine thn (hst.run pins s3 σ H3 (fun o H4 => o = some (-1) ∧ H4 = H3) I3 ⟨1, rfl, -1, rfl, rfl, rfl⟩) fun vs s4 ⟨o, H4, I4, ps, eo, e4⟩ => ?_
  subst eo e4
  cases pl
  cases pu
  have I5 : Inv X pins σ H4 { s4 with heap := s4.heap.push { cls := .type "slice", data := .fields #[Value.none, Value.none, vs] } } := I4.kept (t' := s4.toks) fun b ob q => Heap.get?_push_of_some _ q
  obtain ⟨its, r, ht, hz⟩ := I5.tuple hx
  have hlen := r.length
  show wpAny (model X.prog X.w) X.A (subscriptTail e (.Slice none none (some (.UnaryOp .USub (.Constant (.int 1) k p1) p2)) p3) (.ref a) (.ref s4.heap.objs.size)) (EP X pins σ Q) X.xe { s4 with heap := s4.heap.push { cls := .type "slice", data := .fields #[Value.none, Value.none, vs] } }
  refine tail_any (ops := [.ref a, .ref s4.heap.objs.size]) ht.typeIs (PyProof.Rows.slot_tuple_getitem.lookup) ?_ (by with_unfolding_all rfl)
  refine getItem_tuple_rev ht (Heap.IsSliceOf.new _ Value.none Value.none vs) ps ?_ (by rw [List.size_toArray]; omega)
  refine ⟨.ref _, _, I5.laid (t' := s4.toks) (o := .tup xs.reverse) (fun b ob q => Heap.get?_push_of_some _ q) (Nat.le_refl _) ?_, rfl, q _ (I5.hok.fresh (Nat.le_refl _))⟩
  exact ⟨by rw [List.length_reverse]; exact hz, _, r.reverse, ⟨_, Heap.get?_push_size _ rfl, rfl, 0, rfl⟩⟩
end
end Bx

namespace Bx
open PySem PySem.Spec PyProof.Rows L2
/-! ### what stays -/
theorem Same.new {H : Hp} {p : Addr} {o : HO} (h : H p = none) : Same H (upd H p o) := fun a u e => by
  rw [upd_ne (ne_of_none e h)]
  exact e
theorem Same.mut {H H' : Hp} {p : Addr} {o : HO} (e : Same H H') (h : H p = none) : Same H (upd H' p o) := fun a u ha => by
  rw [upd_ne (ne_of_none ha h)]
  exact e a u ha
theorem Same.seqT {K : PySem.W.Frag} {H H' : Hp} {a : Addr} {xs : List V} (e : Same H H') (h : SqT K H a xs) : SqT K H' a xs := by
  rcases h with (h | ⟨o, h⟩) | h
  · exact .inl (.inl (e _ _ h))
  · exact .inl (.inr ⟨o, e _ _ h⟩)
  · exact .inr h
theorem Same.ty {K : PySem.W.Frag} {H H' : Hp} {v : V} {t : Value} (e : Same H H') (h : TyX K H v t) : TyX K H' v t := by
  cases h with
  | base b =>
    cases b with
    | non => exact .base .non
    | bl x => exact .base (.bl x)
    | int i => exact .base (.int i)
    | str x => exact .base (.str x)
    | flt x => exact .base (.flt x)
    | lst q => exact .base (.lst (e _ _ q))
    | frz q => exact .base (.frz (e _ _ q))
    | tup q => exact .base (.tup (e _ _ q))
    | dK q => exact .base (.dK (e _ _ q))
    | dT q => exact .base (.dT (e _ _ q))
    | ins q cl ha hn htk hm => exact .base (.ins (e _ _ q) cl ha hn htk hm)
  | byt b => exact .byt b
  | set q => exact .set (e _ _ q)
  | kList a b => exact .kList a b
  | kTuple a b => exact .kTuple a b
  | kDict a b => exact .kDict a b
  | fTuple q => exact .fTuple (e _ _ q)
  | fDict q => exact .fDict (e _ _ q)
theorem tyT {K : PySem.W.Frag} {H : Hp} {a : Addr} {xs : List V} (h : SqT K H a xs) : TyX K H (.ref a) (.type "tuple") := by
  rcases h with (h | ⟨o, h⟩) | ⟨o, its, n, hk, hc, _⟩
  · exact .base (.tup h)
  · exact .fTuple h
  · exact .kTuple hk hc
theorem tyL {K : PySem.W.Frag} {H : Hp} {a : Addr} {xs : List V} (h : SqL K H a xs) : TyX K H (.ref a) (.type "list") := by
  rcases h with (h | ⟨o, h⟩) | ⟨o, its, n, hk, hc, _⟩
  · exact .base (.lst h)
  · exact .base (.frz h)
  · exact .kList hk hc
/-- .. all but the one at l -/
def But (l : Addr) (H H' : Hp) : Prop := ∀ b o, H b = some o → b ≠ l → H' b = some o
theorem But.refl (l : Addr) (H : Hp) : But l H H := fun _ _ h _ => h
theorem But.trans {l : Addr} {H H1 H2 : Hp} (a : But l H H1) (b : But l H1 H2) : But l H H2 := fun c o h n => b c o (a c o h n) n
theorem But.of {l : Addr} {H H' : Hp} (a : Same H H') : But l H H' := fun c o h _ => a c o h
theorem But.upd {l : Addr} {H : Hp} {o : HO} : But l H (upd H l o) := fun c u h n => by
  rw [upd_ne n]
  exact h
theorem But.seq {K : PySem.W.Frag} {l : Addr} {H H' : Hp} {a : Addr} {xs : List V} (e : But l H H') (n : a ≠ l) (h : SqL K H a xs) : SqL K H' a xs := by
  rcases h with (h | ⟨o, h⟩) | h
  · exact .inl (.inl (e _ _ h n))
  · exact .inl (.inr ⟨o, e _ _ h n⟩)
  · exact .inr h
theorem But.seqT {K : PySem.W.Frag} {l : Addr} {H H' : Hp} {a : Addr} {xs : List V} (e : But l H H') (n : a ≠ l) (h : SqT K H a xs) : SqT K H' a xs := by
  rcases h with (h | ⟨o, h⟩) | h
  · exact .inl (.inl (e _ _ h n))
  · exact .inl (.inr ⟨o, e _ _ h n⟩)
  · exact .inr h
theorem But.free {l : Addr} {H H' : Hp} (e : But l H H') {p : Addr} (n : p ≠ l) (h : H' p = Option.none) : H p = Option.none := by
  cases q : H p with
  | none => rfl
  | some o =>
    rw [e p o q n] at h
    cases h
/-! ### tuples of any kind: what a sum, a slice is -/
section
variable {X : Cx}
def rCatU (K : PySem.W.Frag) : R2 := fun x y H Q => ∃ a b xs ys, x = .ref a ∧ y = .ref b ∧ SqT K H a xs ∧ SqT K H b ys ∧ xs.length + ys.length ≤ sizeLine ∧ ∀ c H', Same H H' → SqT K H' c (xs ++ ys) → Q (.ref c) H'
theorem op_catU : OpR X (binaryOp .Add) (rCatU X.K) := by
  intro pins s σ H x y v u Q I rx ry h
  obtain ⟨a, b, xs, ys, ex, ey, ha, hb, hz, q⟩ := h
  refine op_catA pins s σ H x y v u Q I rx ry ⟨a, b, xs, ys, ex, ey, ha, hb, hz, fun e => ?_, fun _ e => ?_, fun _ _ p hp => ?_⟩
  · subst e
    exact q b H (Same.refl H) hb
  · subst e
    exact q a H (Same.refl H) (by rw [List.append_nil]; exact ha)
  · exact q p _ (Same.new hp) (.inl (.inl upd_same))
def rSlU (K : PySem.W.Frag) : V → Option Int → Option Int → Hp → VK → Prop := fun x lo hi H Q => ∃ a xs, x = .ref a ∧ SqT K H a xs ∧ ∀ c H', Same H H' → SqT K H' c (cutV xs lo hi) → Q (.ref c) H'
theorem sl_tupU : SlR X (rSlU X.K) := by
  intro pins s σ H x v vl vu lo hi sl Q I rx hs pl pu h
  obtain ⟨a, xs, ex, hx, q⟩ := h
  refine sl_tupA pins s σ H x v vl vu lo hi sl Q I rx hs pl pu ⟨a, xs, ex, hx, fun hw => ?_, fun _ p hp => ?_⟩
  · refine q a H (Same.refl H) ?_
    unfold cutV
    rw [hw.1, hw.2, List.drop_zero, Nat.sub_zero, List.take_length]
    exact hx
  · exact q p _ (Same.new hp) (.inl (.inl upd_same))
end
/-! ### a loop over enumerate of a list -/
theorem for_enumL {K : PySem.W.Frag} {a : Addr} {xs : List V} {g : TG} {tb : TS} {D : Ends} {σ : L2.St} {H : Hp} (Pv : Nat → L2.St → Hp → Prop) (h0 : Pv 0 σ H) (hq : ∀ i σ H, Pv i σ H → SqL K H a xs)
    (hs : ∀ (i : Nat) (x : V) (T : Addr) (σ : L2.St) (H : Hp), xs[i]? = some x → Pv i σ H → H T = none → g (.ref T) σ (upd H T (.tup [.int (i : Nat), x])) fun σ2 H2 => tb { D with nx := Pv (i + 1), ct := Pv (i + 1), bk := D.nx } σ2 H2) (hd : ∀ σ H, Pv xs.length σ H → D.nx σ H) :
    ∃ W : Nat → Nat → L2.St → Hp → Prop, (∃ m, W 0 m σ H) ∧ ∀ i m σ H, W i m σ H →
      ((Ite K a).stop i H ∧ D.nx σ H) ∨ ((Ite K a).go i H ∧ ∃ N : L2.St → Hp → Prop, (∀ σ' H', N σ' H' → ∃ m', m' < m ∧ W (i + 1) m' σ' H') ∧ ∀ v H', (Ite K a).yld i H v H' → g v σ H' fun σ2 H2 => tb { D with nx := N, ct := N, bk := D.nx } σ2 H2) := by
  refine ⟨fun i m σ H => m = xs.length - i ∧ i ≤ xs.length ∧ Pv i σ H, ⟨xs.length, rfl, Nat.zero_le _, h0⟩, ?_⟩
  rintro i m σ H ⟨rfl, hi, p⟩
  have qx := hq i σ H p
  by_cases hlt : i < xs.length
  · have hx : xs[i]? = some xs[i] := List.getElem?_eq_getElem hlt
    refine .inr ⟨⟨xs, _, qx, hx⟩, Pv (i + 1), fun σ' H' p' => ⟨xs.length - (i + 1), by omega, rfl, hlt, p'⟩, fun v H' y => ?_⟩
    obtain ⟨T, x', rfl, hT, rfl, f1⟩ := y
    exact hs i x' T σ H (f1 xs qx) p hT
  · have e : i = xs.length := by omega
    subst e
    exact .inl ⟨⟨xs, qx, Nat.le_refl _⟩, hd σ H p⟩
end Bx

namespace Bx
open PySem PySem.Spec PyProof.Rows L2
theorem lay_ints : ∀ is : List Int, PyData.canLayAll0 (is.map PyData.int) = true
  | [] => by simp [PyData.canLayAll0]
  | i :: is => by simp [PyData.canLayAll0, PyData.canLay0, lay_ints is]
theorem dep_ints : ∀ is : List Int, PyData.depthAll (is.map PyData.int) ≤ 1
  | [] => by simp [PyData.depthAll]
  | i :: is => by
    have := dep_ints is
    simp [PyData.depthAll, PyData.depth]
    omega
theorem shaped_ints (is : List Int) : SeqAt.shaped (.list (is.map PyData.int)) = true := by
  unfold SeqAt.shaped
  rw [Bool.and_eq_true, decide_eq_true_eq]
  refine ⟨by simp [PyData.canLay0, lay_ints], ?_⟩
  have := dep_ints is
  simp [PyData.depth]
  omega
theorem lay_strs : ∀ {is : List Str}, (∀ x ∈ is, PyData.strOk x = true) → PyData.canLayAll0 (is.map PyData.str) = true
  | [], _ => by simp [PyData.canLayAll0]
  | i :: is, h => by simp [PyData.canLayAll0, PyData.canLay0, lay_strs fun x hx => h x (List.mem_cons_of_mem _ hx), h i List.mem_cons_self]
theorem dep_strs : ∀ is : List Str, PyData.depthAll (is.map PyData.str) ≤ 1
  | [] => by simp [PyData.depthAll]
  | i :: is => by
    have := dep_strs is
    simp [PyData.depthAll, PyData.depth]
    omega
theorem shaped_strs {is : List Str} (h : ∀ x ∈ is, PyData.strOk x = true) : SeqAt.shaped (.list (is.map PyData.str)) = true := by
  unfold SeqAt.shaped
  rw [Bool.and_eq_true, decide_eq_true_eq]
  refine ⟨by simp [PyData.canLay0, lay_strs h], ?_⟩
  have := dep_strs is
  simp [PyData.depth]
  omega
theorem dp_ints {K : PySem.W.Frag} {H : Hp} : ∀ is : List Int, DpAll K H (is.map V.int) (is.map PyData.int)
  | [] => .nil
  | i :: is => .cons (.int i) (dp_ints is)
theorem dp_strs {K : PySem.W.Frag} {H : Hp} : ∀ is : List Str, DpAll K H (is.map V.str) (is.map PyData.str)
  | [] => .nil
  | i :: is => .cons (.str i) (dp_strs is)
theorem eqv_strs : ∀ {xs ys : List Str}, PyData.eqvAll (xs.map PyData.str) (ys.map PyData.str) = true ↔ xs = ys
  | [], [] => by simp [PyData.eqvAll]
  | [], _ :: _ => by simp [PyData.eqvAll]
  | _ :: _, [] => by simp [PyData.eqvAll]
  | x :: xs, y :: ys => by
    have e := @eqv_strs xs ys
    simp [PyData.eqvAll, PyData.eqv, e]
theorem eqv_ints : ∀ {xs ys : List Int}, PyData.eqvAll (xs.map PyData.int) (ys.map PyData.int) = true ↔ xs = ys
  | [], [] => by simp [PyData.eqvAll]
  | [], _ :: _ => by simp [PyData.eqvAll]
  | _ :: _, [] => by simp [PyData.eqvAll]
  | x :: xs, y :: ys => by
    have e := @eqv_ints xs ys
    simp [PyData.eqvAll, PyData.eqv, e]
theorem But.tupW {K : PySem.W.Frag} {l : Addr} {ws : List V} {H H' : Hp} {a : Addr} {xs : List V} (hw : H l = some (.lst ws)) (e : But l H H') (h : SqT K H a xs) : SqT K H' a xs := by
  rcases h with (h | ⟨o, h⟩) | h
  · exact .inl (.inl (e _ _ h (ne_of h hw (by intro q; cases q))))
  · exact .inl (.inr ⟨o, e _ _ h (ne_of h hw (by intro q; cases q))⟩)
  · exact .inr h
theorem at_lastI {is : List Int} (h : is ≠ []) : ∃ a, a ∈ is ∧ atI (is.map V.int) (-1) = some (.int a) ∧ is[is.length - 1]? = some a := by
  obtain ⟨init, a, rfl⟩ : ∃ init a, is = init ++ [a] := ⟨is.dropLast, is.getLast h, (List.dropLast_concat_getLast h).symm⟩
  refine ⟨a, by simp, ?_, by simp⟩
  rw [List.map_append]
  exact atI_last _ _
theorem flat_ints (is : List Int) : (is.map V.int).all flatV = true := by
  rw [List.all_eq_true]
  intro x hx
  obtain ⟨i, _, rfl⟩ := List.mem_map.mp hx
  rfl
theorem inV_ints {i : Int} {is : List Int} : inV (.int i) (is.map V.int) = decide (i ∈ is) := by
  unfold inV
  rw [Bool.eq_iff_iff, List.any_eq_true, decide_eq_true_eq]
  constructor
  · rintro ⟨x, hx, e⟩
    obtain ⟨j, hj, rfl⟩ := List.mem_map.mp hx
    have : j = i := by simpa [eqV] using e
    exact this ▸ hj
  · intro h
    exact ⟨.int i, List.mem_map_of_mem h, by simp [eqV]⟩
theorem But.mut {l : Addr} {H H' : Hp} {p : Addr} {o : HO} (e : But l H H') (h : H p = Option.none) : But l H (L2.upd H' p o) := fun a u ha n => by
  rw [upd_ne (ne_of_none ha h)]
  exact e a u ha n
theorem But.lst {l : Addr} {H H' : Hp} {a : Addr} {o : HO} (e : But l H H') (h : H a = some o) (n : a ≠ l) : H' a = some o := e a o h n
/-! the same rules by the frame's own K (within a comprehension) -/
section
variable {X : Cx} (K : PySem.W.Frag)
theorem ixLK (h : X.K = K := by rfl) : IxR X (rIxL K) := by subst h; exact ix_list
theorem ixTK (h : X.K = K := by rfl) : IxR X (rIxT K) := by subst h; exact ix_tup
theorem inK (h : X.K = K := by rfl) : OpR X (compareOp .In) (rIn K false) := by subst h; exact op_in_seq
theorem notInK (h : X.K = K := by rfl) : OpR X (compareOp .NotIn) (rIn K true) := by subst h; exact op_notIn_seq
theorem isiK (h : X.K = K := by rfl) : CallR X (.builtin "isinstance") (rIsi K) := by subst h; exact call_isi
theorem lenK (h : X.K = K := by rfl) : CallR X (.builtin "len") (Evl.rLenS K) := by subst h; exact call_len_seq
end
end Bx

namespace Bx
open PySem PySem.Spec PyProof.Rows L2
/-! {k: v for a in A for b in B}: two clauses -/
theorem dcompTurn2_out (kx vx t0 i0 t1 i1 : Expr) (ifs0 ifs1 : List Expr) (scope : Scope) (pos : Pos) (it : Value) (acc : Addr) (env : Env) :
    compTurn (.DictComp kx vx [⟨t0, i0, ifs0, 0⟩, ⟨t1, i1, ifs1, 0⟩] scope pos) 0 it (.ref acc) env = (do
      standAt i0.pos
      match ← pyNext it with
      | none => pure (.done .next)
      | some v =>
        letOwnedTupleGo t0 it v
        assign t0 env v
        let mut ok := true
        for c in ifs0 do
          if ok then ok ← isTrue c env (eval c env)
        if ok then
          let x ← eval i1 env
          standAt i1.pos
          let x ← foldedSetIterable i1 env x
          let _ ← runOwn (.compStart (.DictComp kx vx [⟨t0, i0, ifs0, 0⟩, ⟨t1, i1, ifs1, 0⟩] scope pos) 1 (← holding [x] (pyIter x)) (.ref acc) env) env
        again (.compLoop (.DictComp kx vx [⟨t0, i0, ifs0, 0⟩, ⟨t1, i1, ifs1, 0⟩] scope pos) 0 it (.ref acc) env)) := by rfl
theorem dcompTurn2_in (kx vx t0 i0 t1 i1 : Expr) (ifs0 ifs1 : List Expr) (scope : Scope) (pos : Pos) (it : Value) (acc : Addr) (env : Env) :
    compTurn (.DictComp kx vx [⟨t0, i0, ifs0, 0⟩, ⟨t1, i1, ifs1, 0⟩] scope pos) 1 it (.ref acc) env = (do
      standAt i1.pos
      match ← pyNext it with
      | none => pure (.done .next)
      | some v =>
        letOwnedTupleGo t1 it v
        assign t1 env v
        let mut ok := true
        for c in ifs1 do
          if ok then ok ← isTrue c env (eval c env)
        if ok then
          (do
            let kv ← eval kx env
            let vv ← holding [kv] (eval vx env)
            standAt { kx.pos with endLine := vx.pos.endLine, endCol := vx.pos.endCol }
            holding [kv, vv] (dictSet acc kv vv))
        again (.compLoop (.DictComp kx vx [⟨t0, i0, ifs0, 0⟩, ⟨t1, i1, ifs1, 0⟩] scope pos) 1 it (.ref acc) env)) := by rfl

section
variable {prog : Program} {w : World} {A : Around} {R : Result → Shared → Prop} {s : Shared} {kx vx t0 i0 t1 i1 : Expr} {ifs0 ifs1 : List Expr} {scope : Scope} {pos : Pos} {it : Value} {acc : Addr} {env : Env}
theorem dcompLoop2_out (hs : ∀ x, foldedSetIterable i1 env x = pure x) (I : Nat → Shared → Prop)
    (turn : ∀ n s, I n s → wpAny (model prog w) A (pyNext it) (fun r s₁ => match r with
      | none => R (.ok .next) s₁
      | some v => wpAny (model prog w) A (letOwnedTupleGo t0 it v) (fun _ s₁' => wpAny (model prog w) A (assign t0 env v) (fun _ s₂ =>
          wpAny (model prog w) A (forIn ifs0 true fun c r => if r = true then do let ok ← isTrue c env (eval c env); pure (ForInStep.yield ok) else pure (ForInStep.yield r)) (fun ok s₃ =>
            if ok = true then wpAny (model prog w) A (eval i1 env) (fun x s₄ => wpAny (model prog w) A (pyIter x) (fun it1 s₅ =>
              codeAny (model prog w) A (.compStart (.DictComp kx vx [⟨t0, i0, ifs0, 0⟩, ⟨t1, i1, ifs1, 0⟩] scope pos) 1 it1 (.ref acc) env) (fun r s' => match r with
                | .ok _ => ∃ m, m < n ∧ I m s'
                | .error _ => False) s₅) (notedBy (model prog w) A env fun e s' => R (.error e) s') s₄) (notedBy (model prog w) A env fun e s' => R (.error e) s') s₃
            else ∃ m, m < n ∧ I m s₃) (notedBy (model prog w) A env fun e s' => R (.error e) s') s₂) (notedBy (model prog w) A env fun e s' => R (.error e) s') s₁') (notedBy (model prog w) A env fun e s' => R (.error e) s') s₁) (notedBy (model prog w) A env fun e s' => R (.error e) s') s)
    (n : Nat) (h : I n s) :
    codeAny (model prog w) A (.compLoop (.DictComp kx vx [⟨t0, i0, ifs0, 0⟩, ⟨t1, i1, ifs1, 0⟩] scope pos) 0 it (.ref acc) env) R s := by
  refine codeAny_loop rfl I (fun n s hI => ?_) n h
  show wpAny _ A ((compTurn (.DictComp kx vx [⟨t0, i0, ifs0, 0⟩, ⟨t1, i1, ifs1, 0⟩] scope pos) 0 it (.ref acc) env).onRaise (fun x => do noteFrame x env; theTreesLotGoes x)) _ _ s
  refine wpAny_noted ?_
  rw [dcompTurn2_out]
  refine wpAny_bind (wpAny_standAt (wpAny_bind (wpAny_mono (turn n s hI) (fun r s₁ h₁ => ?_) fun _ _ h' => h')))
  cases r with
  | none => exact wpAny_pure h₁
  | some v =>
    refine wpAny_bind (wpAny_mono h₁ (fun _ s₁' h₁' => ?_) fun _ _ h' => h')
    refine wpAny_bind (wpAny_mono h₁' (fun _ s₂ h₂ => wpAny_bind (wpAny_mono h₂ (fun ok s₃ h₃ => ?_) fun _ _ h' => h')) fun _ _ h' => h')
    cases ok with
    | false => exact wpAny_pure ⟨rfl, h₃⟩
    | true =>
      refine wpAny_bind (wpAny_mono h₃ (fun x s₄ h₄ => ?_) fun _ _ h' => h')
      refine wpAny_bind (wpAny_standAt (wpAny_bind (wpAny_of_eq (hs x) (wpAny_bind (wpAny_holding (wpAny_mono h₄ (fun it1 s₅ h₅ => ?_) fun _ _ h' => h'))))))
      refine wpAny_bind (wpAny_runOwn ?_)
      rw [Around.mark_none]
      refine codeAny_mono h₅ fun r s' hr => ?_
      cases r with
      | ok f =>
        first
          | exact wpAny_pure ⟨rfl, hr⟩
          | exact wpAny_bind (wpAny_pure (wpAny_pure ⟨rfl, hr⟩))
      | error e => exact hr.elim
theorem dcompLoop2_in (I : Nat → Shared → Prop)
    (turn : ∀ n s, I n s → wpAny (model prog w) A (pyNext it) (fun r s₁ => match r with
      | none => R (.ok .next) s₁
      | some v => wpAny (model prog w) A (letOwnedTupleGo t1 it v) (fun _ s₁' => wpAny (model prog w) A (assign t1 env v) (fun _ s₂ =>
          wpAny (model prog w) A (forIn ifs1 true fun c r => if r = true then do let ok ← isTrue c env (eval c env); pure (ForInStep.yield ok) else pure (ForInStep.yield r)) (fun ok s₃ =>
            if ok = true then wpAny (model prog w) A (eval kx env) (fun kv s₄ => wpAny (model prog w) A (eval vx env) (fun vv s₅ =>
              wpAny (model prog w) A (dictSet acc kv vv) (fun _ s₆ => ∃ m, m < n ∧ I m s₆) (notedBy (model prog w) A env fun e s' => R (.error e) s') s₅) (notedBy (model prog w) A env fun e s' => R (.error e) s') s₄) (notedBy (model prog w) A env fun e s' => R (.error e) s') s₃
            else ∃ m, m < n ∧ I m s₃) (notedBy (model prog w) A env fun e s' => R (.error e) s') s₂) (notedBy (model prog w) A env fun e s' => R (.error e) s') s₁') (notedBy (model prog w) A env fun e s' => R (.error e) s') s₁) (notedBy (model prog w) A env fun e s' => R (.error e) s') s)
    (n : Nat) (h : I n s) :
    codeAny (model prog w) A (.compLoop (.DictComp kx vx [⟨t0, i0, ifs0, 0⟩, ⟨t1, i1, ifs1, 0⟩] scope pos) 1 it (.ref acc) env) R s := by
  refine codeAny_loop rfl I (fun n s hI => ?_) n h
  show wpAny _ A ((compTurn (.DictComp kx vx [⟨t0, i0, ifs0, 0⟩, ⟨t1, i1, ifs1, 0⟩] scope pos) 1 it (.ref acc) env).onRaise (fun x => do noteFrame x env; theTreesLotGoes x)) _ _ s
  refine wpAny_noted ?_
  rw [dcompTurn2_in]
  refine wpAny_bind (wpAny_standAt (wpAny_bind (wpAny_mono (turn n s hI) (fun r s₁ h₁ => ?_) fun _ _ h' => h')))
  cases r with
  | none => exact wpAny_pure h₁
  | some v =>
    refine wpAny_bind (wpAny_mono h₁ (fun _ s₁' h₁' => ?_) fun _ _ h' => h')
    refine wpAny_bind (wpAny_mono h₁' (fun _ s₂ h₂ => wpAny_bind (wpAny_mono h₂ (fun ok s₃ h₃ => ?_) fun _ _ h' => h')) fun _ _ h' => h')
    cases ok with
    | false => exact wpAny_pure ⟨rfl, h₃⟩
    | true =>
      exact wpAny_bind (wpAny_bind (wpAny_mono h₃ (fun kv s₄ h₄ => wpAny_bind (wpAny_holding (wpAny_mono h₄ (fun vv s₅ h₅ => wpAny_bind (wpAny_standAt (wpAny_holding (wpAny_mono h₅ (fun _ s₆ h₆ => wpAny_pure ⟨rfl, h₆⟩) fun _ _ h' => h')))) fun _ _ h' => h'))) fun _ _ h' => h'))
theorem dcompStart1_ok (h0 : codeAny (model prog w) A (.compLoop (.DictComp kx vx [⟨t0, i0, ifs0, 0⟩, ⟨t1, i1, ifs1, 0⟩] scope pos) 1 it (.ref acc) env) R s)
    (h : wpAny (model prog w) A (pyIter it) (fun it' s' => codeAny (model prog w) A (.compLoop (.DictComp kx vx [⟨t0, i0, ifs0, 0⟩, ⟨t1, i1, ifs1, 0⟩] scope pos) 1 it' (.ref acc) env) R s')
      (notedBy (model prog w) A env fun x s' => R (.error x) s') s) :
    codeAny (model prog w) A (.compStart (.DictComp kx vx [⟨t0, i0, ifs0, 0⟩, ⟨t1, i1, ifs1, 0⟩] scope pos) 1 it (.ref acc) env) R s := by
  refine codeAny_of_tree ?_
  show wpAny _ _ ((compStart (.DictComp kx vx [⟨t0, i0, ifs0, 0⟩, ⟨t1, i1, ifs1, 0⟩] scope pos) 1 it (.ref acc) env).onRaise (fun x => do noteFrame x env; standAt theWindowsPlace)) _ _ s
  refine wpAny_notedAt ?_
  unfold compStart
  show wpAny _ _ (ask >>= _) _ _ s
  refine wpAny_bind (wpAny_askSetting (wpAny_ite ?_))
  split
  · first
      | exact wpAny_bind (wpAny_pure (wpAny_pure (And.intro rfl h0)))
      | exact wpAny_pure (And.intro rfl h0)
  · first
      | exact wpAny_bind (wpAny_rule (wpAny_bind (wpAny_standAt (wpAny_bind (wpAny_mono h (fun it' s' h' => wpAny_pure (And.intro rfl h')) fun _ _ x => x)))))
      | (refine wpAny_bind (wpAny_rule ?_); show wpAny _ _ (standAt i1.pos >>= _) _ _ s; exact wpAny_bind (wpAny_standAt (wpAny_bind (wpAny_mono h (fun it' s' h' => wpAny_pure (And.intro rfl h')) fun _ _ x => x))))
end

section
variable {X : Cx}
def tDc2 (wi : TI) (g : TG) (tt : TT) (wi1 : TI) (g1 : TG) (tt1 : TT) (tk tv : TE) (vs vs1 : List Nat) : TE := fun σ H Q => wi σ H fun J H1 => ∀ D, H1 D = none → ∃ W : Nat → Nat → Hp → Prop, (∃ m, W 0 m (upd H1 D (.dK []))) ∧ ∀ i m H, W i m H →
  (J.stop i H ∧ Q (.ref D) H) ∨ (J.go i H ∧ ∃ Nx : Hp → Prop, (∀ H', Nx H' → ∃ m', m' < m ∧ W (i + 1) m' H') ∧ ∀ x H', J.yld i H x H' → g x (wipe σ vs) H' fun σ2 H2 => wipe σ2 vs = wipe σ vs ∧ tt σ2 H2 fun b H3 =>
    if b = true then wi1 σ2 H3 fun J1 H4 => ∃ W1 : Nat → Nat → Hp → Prop, (∃ m, W1 0 m H4) ∧ ∀ j k H, W1 j k H →
      (J1.stop j H ∧ Nx H) ∨ (J1.go j H ∧ ∃ Nx1 : Hp → Prop, (∀ H', Nx1 H' → ∃ k', k' < k ∧ W1 (j + 1) k' H') ∧ ∀ x H', J1.yld j H x H' → g1 x (wipe σ2 vs1) H' fun σ3 H5 => wipe σ3 vs1 = wipe σ2 vs1 ∧ tt1 σ3 H5 fun b H6 =>
        if b = true then tk σ3 H6 fun y H7 => tv σ3 H7 fun z H8 => ∃ kvs k, y = kV k ∧ H8 D = some (.dK kvs) ∧ kvs.length < sizeLine ∧ Nx1 (upd H8 D (.dK (putK kvs k z))) else Nx1 H6)
    else Nx H3)
theorem dc2_core {pins : List (Addr × Obj)} {s : Shared} {σ : L2.St} {H : Hp} {Q : VK} {kx vx tg iter tg1 iter1 : Expr} {ifs ifs1 : List Expr} {scope : Scope} {own : List (Str × Nat)} {vs1 : List Nat} {pos pos' : Pos} {wi wi1 : TI} {g g1 : TG} {tt tt1 : TT} {tk tv : TE} {use : Option (Value → Sem Unit)} {Qf : Value → Shared → Prop}
    (hc : X.calm = true) (hN : X.N.Nodup) (I : Inv X pins σ H s) (hi : PI X tg iter wi) (ok : BlkOk X.N X.env.scope scope own) (hv : ∀ i ∈ vs1, i ∈ own.map (·.2))
    (hg : ∀ (s : Shared) (H : Hp) (C : Addr) (cl : List (Str × Addr)) (fp : List Addr), PG (X.blk s H scope (compEnvC scope cl C X.env) fp) tg g) (ht : ∀ (s : Shared) (H : Hp) (C : Addr) (cl : List (Str × Addr)) (fp : List Addr), PTs (X.blk s H scope (compEnvC scope cl C X.env) fp) ifs tt)
    (hk : ∀ (s : Shared) (H : Hp) (C : Addr) (cl : List (Str × Addr)) (fp : List Addr), PE (X.blk s H scope (compEnvC scope cl C X.env) fp) kx tk) (he : ∀ (s : Shared) (H : Hp) (C : Addr) (cl : List (Str × Addr)) (fp : List Addr), PE (X.blk s H scope (compEnvC scope cl C X.env) fp) vx tv) (hs : ∀ x, foldedSetIterable iter X.env x = pure x)
    (hi1 : ∀ (s : Shared) (H : Hp) (C : Addr) (cl : List (Str × Addr)) (fp : List Addr), PI (X.blk s H scope (compEnvC scope cl C X.env) fp) tg1 iter1 wi1)
    (hg1 : ∀ (s : Shared) (H : Hp) (C : Addr) (cl : List (Str × Addr)) (fp : List Addr), PG (X.blk s H scope (compEnvC scope cl C X.env) fp) tg1 g1)
    (ht1 : ∀ (s : Shared) (H : Hp) (C : Addr) (cl : List (Str × Addr)) (fp : List Addr), PTs (X.blk s H scope (compEnvC scope cl C X.env) fp) ifs1 tt1)
    (hs1 : ∀ env x, foldedSetIterable iter1 env x = pure x)
    (h : tDc2 wi g tt wi1 g1 tt1 tk tv (own.map (·.2)) vs1 σ H Q)
    (hback : ∀ D C s' m H', Inv X pins σ H' s' → Q (.ref D) H' → s'.heap.Ns C m → FpOk X pins H' C → compPost (model X.prog X.w) X.A X.xe use Qf (.ref D) C (.ok .next) s') :
    wpAny (model X.prog X.w) X.A (comprehension (.DictComp kx vx [⟨tg, iter, ifs, 0⟩, ⟨tg1, iter1, ifs1, 0⟩] scope pos) scope X.env pos' newDict false (eval iter X.env) use) Qf X.xe s := by
  have hcells : ∀ y ∈ scope.names, y.2 = .free → ∃ c, X.env.cells.lookup y.1 = some c := fun y hy e => by
    rcases ok.free y hy e with k | k
    · exact I.ok.has _ (.inl k)
    · exact I.ok.has _ (.inr k)
  refine wpAny_comprehension_free (use := use) rfl hs (closure_ok hcells) ok.kind (fun y hy e => by rw [ok.uniq y hy, e])
    (thn (hi.run pins s σ H _ I h) fun srcv s1 hx => thn hx fun itval s2 h2 => ?_)
  obtain ⟨it, fp, tn, J, H2, e, I2, T, st2, f2, q⟩ := h2
  subst e
  refine wpAny_newObj_type (newEnv_comp ?_)
  generalize hD : s2.heap.objs.size = D
  have hDn : H2 D = none := I2.hok.fresh (Nat.le_of_eq hD)
  obtain ⟨W, ⟨m0, w0⟩, turn⟩ := q D hDn
  -- the new list
  generalize hs3 : ({ s2 with heap := s2.heap.push { cls := .type "dict", data := .dict #[] } } : Shared) = s3
  have I3 : Inv X pins σ (upd H2 D (.dK [])) s3 := by
    rw [← hs3]
    refine I2.laid (t' := s2.toks) (fun b o e => Heap.get?_push_of_some _ e) (Nat.le_of_eq hD) ?_
    rw [← hD]
    exact dk_empty s2.heap I2.big
  have h3 : s3.heap = s2.heap.push { cls := .type "dict", data := .dict #[] } := by rw [← hs3]
  have sz : ∀ b ∈ fp, b < s2.heap.objs.size := fun b hb => by
    obtain ⟨o, e, _⟩ := T.obj _ _ st2 b hb
    exact Heap.lt_size e
  have f3 : ∀ b ∈ fp, FpOk X pins (upd H2 D (.dK [])) b ∧ b < s3.heap.objs.size := fun b hb => by
    have hlt := sz b hb
    refine ⟨⟨?_, (f2 b hb).2⟩, by rw [h3, Heap.size_push]; exact Nat.lt_succ_of_lt hlt⟩
    rw [upd_ne (by rw [← hD]; exact Nat.ne_of_lt hlt)]
    exact (f2 b hb).1
  have st3 : tn 0 s3.heap := T.keep _ _ _ st2 fun b _ o e => by rw [h3]; exact Heap.get?_push_of_some _ e
  have I4 := block_start I3 ok hN f3
  have pg := hg s3 (upd H2 D (.dK [])) s3.heap.objs.size (cellsFrom (s3.heap.objs.size + 1) scope.names (cloFrom X.env.cells scope.names [])) fp
  have pt := ht s3 (upd H2 D (.dK [])) s3.heap.objs.size (cellsFrom (s3.heap.objs.size + 1) scope.names (cloFrom X.env.cells scope.names [])) fp
  have pk := hk s3 (upd H2 D (.dK [])) s3.heap.objs.size (cellsFrom (s3.heap.objs.size + 1) scope.names (cloFrom X.env.cells scope.names [])) fp
  have pe := he s3 (upd H2 D (.dK [])) s3.heap.objs.size (cellsFrom (s3.heap.objs.size + 1) scope.names (cloFrom X.env.cells scope.names [])) fp
  have pi1 := hi1 s3 (upd H2 D (.dK [])) s3.heap.objs.size (cellsFrom (s3.heap.objs.size + 1) scope.names (cloFrom X.env.cells scope.names [])) fp
  have pg1 := hg1 s3 (upd H2 D (.dK [])) s3.heap.objs.size (cellsFrom (s3.heap.objs.size + 1) scope.names (cloFrom X.env.cells scope.names [])) fp
  have pt1 := ht1 s3 (upd H2 D (.dK [])) s3.heap.objs.size (cellsFrom (s3.heap.objs.size + 1) scope.names (cloFrom X.env.cells scope.names [])) fp
  show codeAny _ _ (.compStart (.DictComp kx vx [⟨tg, iter, ifs, 0⟩, ⟨tg1, iter1, ifs1, 0⟩] scope pos) 0 (.ref it) (.ref D) (compEnvC scope (cellsFrom (s3.heap.objs.size + 1) scope.names (cloFrom X.env.cells scope.names [])) s3.heap.objs.size X.env)) (compPost (model X.prog X.w) X.A X.xe use Qf (.ref D) s3.heap.objs.size) { s3 with heap := pushCells (s3.heap.push { cls := .type "dict", data := .dict #[] }) scope.names }
  have offp : ∀ b ∈ fp, (upd H2 D (.dK [])) b = none := fun b hb => (f3 b hb).1.1
  generalize hce : compEnvC scope (cellsFrom (s3.heap.objs.size + 1) scope.names (cloFrom X.env.cells scope.names [])) s3.heap.objs.size X.env = ce at I4 pg pt pk pe pi1 pg1 pt1 ⊢
  have cL : ce.locals = s3.heap.objs.size := by subst hce; rfl
  generalize hH3 : upd H2 D (.dK []) = H3 at I3 I4 pg pt pk pe pi1 pg1 pt1 w0 offp f3
  generalize hs4 : ({ s3 with heap := pushCells (s3.heap.push { cls := .type "dict", data := .dict #[] }) scope.names } : Shared) = s4 at I4 ⊢
  have st4 : tn 0 s4.heap := T.keep _ _ _ st3 fun b _ o e => by rw [← hs4]; exact pushCells_keeps _ _ _ _ (Heap.get?_push_of_some _ e)
  have quiet : ∀ {σ' : L2.St} {H' : Hp} {s' : Shared}, Inv (X.blk s3 H3 scope ce fp) [] σ' H' s' → (∀ b ∈ fp, H' b = none) → ∀ b ∈ fp, FpOk (X.blk s3 H3 scope ce fp) [] H' b := fun {σ' H' s'} I' hn b hb =>
    ⟨hn b hb, (I'.ok.exf b hb).1, I'.ok.exfs b hb, .inl hb, fun x c e => (I'.ok.exf b hb).2 x c e, fun p hp => absurd (show p ∈ ([] : List (Addr × Obj)) ++ [] from hp) (by simp)⟩
  have loop : codeAny (model X.prog X.w) X.A (.compLoop (.DictComp kx vx [⟨tg, iter, ifs, 0⟩, ⟨tg1, iter1, ifs1, 0⟩] scope pos) 0 (.ref it) (.ref D) ce) (compPost (model X.prog X.w) X.A X.xe use Qf (.ref D) s3.heap.objs.size) s4 := by
    refine dcompLoop2_out (hs1 ce) (fun n s' => ∃ i H', Inv (X.blk s3 H3 scope ce fp) [] (wipe σ (own.map (·.2))) H' s' ∧ tn i s'.heap ∧ (∀ b ∈ fp, H' b = none) ∧ W i n H') ?_ m0 ⟨0, H3, I4, st4, offp, w0⟩
    rintro n s5 ⟨i, H5, I5, st5, n5, w5⟩
    rcases turn i n H5 w5 with ⟨stop, qq⟩ | ⟨go, Nx, hNx, step⟩
    · have td := T.done (X.blk s3 H3 scope ce fp) rfl rfl rfl hc i [] s5 _ H5 (fun _ _ => False) I5 (quiet I5 n5) st5 stop
      refine thnF td fun r s6 ⟨hr, I6⟩ => ?_
      subst hr
      -- back in the def's context
      have I7 : Inv X pins σ H5 s6 := I3.call' (ch := fp) I6.os I6.base I6.hok I6.bare fun b hb => ⟨(f3 b hb).1.2.2.2.1, (f3 b hb).1.2.1, (f3 b hb).1.2.2.2.2.1, (f3 b hb).1.2.2.2.2.2⟩
      have nC : H5 s3.heap.objs.size = none := by
        have z : H5 ce.locals = none := I6.free
        rw [cL] at z
        exact z
      obtain ⟨m, hn, _⟩ := I6.loc
      have hn : s6.heap.Ns ce.locals m := hn
      rw [cL] at hn
      exact hback D s3.heap.objs.size s6 m H5 I7 qq hn (I3.fpOk (Nat.le_refl _) nC)
    · have ti := T.item (X.blk s3 H3 scope ce fp) rfl rfl rfl hc i [] s5 _ H5 (fun _ _ => False) I5 (quiet I5 n5) st5 go
      refine thnF ti fun r s6 ⟨u, hr, h6⟩ => ?_
      subst hr
      refine thnF h6 fun _ s7 ⟨x, H7, I7, r7, y7, st7, n7⟩ => ?_
      have I7' := I7.pinned (quiet I7 n7) (T.obj _ _ st7)
      refine thnF (pg.run _ s7 _ H7 x u _ I7' r7 (step x H7 y7)) fun _ s8 ⟨σ8, H8, I8, hw8, q8⟩ => ?_
      refine thnF (pt.run _ s8 σ8 H8 _ I8 q8) fun b s9 ⟨H9, I9, q9⟩ => ?_
      -- the turn's end, from any slots that know what the block knew at its start
      have shut : ∀ {σ9 : L2.St} {s' : Shared} {H' : Hp}, Inv (X.blk s3 H3 scope ce fp) ([] ++ pinsAt fp s7.heap) σ9 H' s' → (wipe σ (own.map (·.2))).length = σ9.length → (∀ (j : Nat) v, (wipe σ (own.map (·.2)))[j]? = some (some v) → σ9[j]? = some (some v)) → Nx H' →
          ∃ m, m < n ∧ ∃ i H', Inv (X.blk s3 H3 scope ce fp) [] (wipe σ (own.map (·.2))) H' s' ∧ tn i s'.heap ∧ (∀ b ∈ fp, H' b = none) ∧ W i m H' := fun {σ9 s' H'} I' hl hk nx => by
        obtain ⟨m', hm, w'⟩ := hNx H' nx
        have kept : ∀ b ∈ fp, ∀ o, s7.heap.get? b = some o → s'.heap.get? b = some o ∧ H' b = none := fun b hb o e =>
          let z := I'.pin (b, o) (List.mem_append_right _ (List.mem_append_right _ (mem_pinsAt hb e)))
          ⟨z.1, z.2.1⟩
        refine ⟨m', hm, i + 1, H', (I'.unpinned (pins := [])).weak hl hk, T.keep _ _ _ st7 fun b hb o e => (kept b hb o e).1, fun b hb => ?_, w'⟩
        obtain ⟨o, e, _⟩ := T.obj _ _ st7 b hb
        exact (kept b hb o e).2
      have len8 : (wipe σ (own.map (·.2))).length = σ8.length := by rw [← hw8, wipe_length]
      have know8 : ∀ (j : Nat) v, (wipe σ (own.map (·.2)))[j]? = some (some v) → σ8[j]? = some (some v) := fun j v e => by
        rw [← hw8] at e
        exact (wipe_some e).1
      have know9 : ∀ (j : Nat) v, (wipe σ (own.map (·.2)))[j]? = some (some v) → (wipe σ8 vs1)[j]? = some (some v) := fun j v e => by
        rw [← hw8] at e
        obtain ⟨e1, e2⟩ := wipe_some e
        rw [wipe_out fun z => e2 (hv j z)]
        exact e1
      cases b with
      | false =>
        simp only [Bool.false_eq_true, if_false] at q9 ⊢
        exact shut I9 len8 know8 q9
      | true =>
        simp only [if_true] at q9 ⊢
        refine thnF (pi1.run _ s9 σ8 H9 _ I9 q9) fun srcv s10 hx => thnF hx fun itval s11 h11 => ?_
        obtain ⟨it1, fp1, tn1, J1, H11, e1, I11, T1, st11, f11, W1, ⟨m1, w1⟩, turn1⟩ := h11
        subst e1
        -- the inner loop
        have quiet1 : ∀ {H' : Hp}, (∀ b ∈ fp1, H' b = none) → ∀ b ∈ fp1, FpOk (X.blk s3 H3 scope ce fp) ([] ++ pinsAt fp s7.heap) H' b := fun hn b hb => ⟨hn b hb, (f11 b hb).2⟩
        have inner : codeAny (model X.prog X.w) X.A (.compLoop (.DictComp kx vx [⟨tg, iter, ifs, 0⟩, ⟨tg1, iter1, ifs1, 0⟩] scope pos) 1 (.ref it1) (.ref D) ce)
            (fun r s' => match r with
              | .ok _ => ∃ m, m < n ∧ ∃ i H', Inv (X.blk s3 H3 scope ce fp) [] (wipe σ (own.map (·.2))) H' s' ∧ tn i s'.heap ∧ (∀ b ∈ fp, H' b = none) ∧ W i m H'
              | .error _ => False) s11 := by
          refine dcompLoop2_in (fun k s' => ∃ j H', Inv (X.blk s3 H3 scope ce fp) ([] ++ pinsAt fp s7.heap) (wipe σ8 vs1) H' s' ∧ tn1 j s'.heap ∧ (∀ b ∈ fp1, H' b = none) ∧ W1 j k H') ?_ m1 ⟨0, H11, I11.weak (wipe_length _ _) (fun j v e => (wipe_some e).1), st11, fun b hb => (f11 b hb).1, w1⟩
          rintro k s12 ⟨j, H12, I12, st12, n12, w12⟩
          rcases turn1 j k H12 w12 with ⟨stop1, nx1⟩ | ⟨go1, Nx1, hNx1, step1⟩
          · refine thnF (T1.done (X.blk s3 H3 scope ce fp) rfl rfl rfl hc j _ s12 (wipe σ8 vs1) H12 (fun _ _ => False) I12 (quiet1 n12) st12 stop1) fun r s13 ⟨hr, I13⟩ => ?_
            subst hr
            exact shut I13 (len8.trans (wipe_length σ8 vs1).symm) know9 nx1
          · refine thnF (T1.item (X.blk s3 H3 scope ce fp) rfl rfl rfl hc j _ s12 (wipe σ8 vs1) H12 (fun _ _ => False) I12 (quiet1 n12) st12 go1) fun r s13 ⟨u1, hr, h13⟩ => ?_
            subst hr
            refine thnF h13 fun _ s14 ⟨x1, H14, I14, r14, y14, st14, n14⟩ => ?_
            have I14' := I14.pinned (quiet1 n14) (T1.obj _ _ st14)
            refine thnF (pg1.run _ s14 (wipe σ8 vs1) H14 x1 u1 _ I14' r14 (step1 x1 H14 y14)) fun _ s15 ⟨σ15, H15, I15, hw15, q15⟩ => ?_
            refine thnF (pt1.run _ s15 σ15 H15 _ I15 q15) fun b1 s16 ⟨H16, I16, q16⟩ => ?_
            have shut1 : ∀ {s' : Shared} {H' : Hp}, Inv (X.blk s3 H3 scope ce fp) (([] ++ pinsAt fp s7.heap) ++ pinsAt fp1 s14.heap) σ15 H' s' → Nx1 H' → ∃ m, m < k ∧ ∃ j H', Inv (X.blk s3 H3 scope ce fp) ([] ++ pinsAt fp s7.heap) (wipe σ8 vs1) H' s' ∧ tn1 j s'.heap ∧ (∀ b ∈ fp1, H' b = none) ∧ W1 j m H' := fun {s' H'} I' nx => by
              obtain ⟨m', hm, w'⟩ := hNx1 H' nx
              have kept : ∀ b ∈ fp1, ∀ o, s14.heap.get? b = some o → s'.heap.get? b = some o ∧ H' b = none := fun b hb o e =>
                let z := I'.pin (b, o) (List.mem_append_right _ (List.mem_append_right _ (mem_pinsAt hb e)))
                ⟨z.1, z.2.1⟩
              refine ⟨m', hm, j + 1, H', I'.unpinned.weak (by rw [← hw15, wipe_length]) (fun j v e => by rw [← hw15] at e; exact (wipe_some e).1), T1.keep _ _ _ st14 fun b hb o e => (kept b hb o e).1, fun b hb => ?_, w'⟩
              obtain ⟨o, e, _⟩ := T1.obj _ _ st14 b hb
              exact (kept b hb o e).2
            cases b1 with
            | false =>
              simp only [Bool.false_eq_true, if_false] at q16 ⊢
              exact shut1 I16 q16
            | true =>
              simp only [if_true] at q16 ⊢
              refine thnF (pk.run _ s16 σ15 H16 _ I16 q16) fun z s17 ⟨yk, H17, I17, r17, q17⟩ => ?_
              refine thnF (pe.run _ s17 σ15 H17 _ I17 q17) fun z2 s18 ⟨yv, H18, I18, r18, kvs, k1, ek, hD18, hz18, nx⟩ => ?_
              subst ek
              exact d_dictSet (X := X.blk s3 H3 scope ce fp) I18 hD18 hz18 r17 r18 fun s19 I19 => shut1 I19 nx
        exact dcompStart1_ok inner (T1.self X.A 0 _ _ _ st11 inner)
  exact codeAny_compStart_dict loop (T.self X.A 0 _ _ _ st4 loop)
theorem pe_dc2 {kx vx tg iter tg1 iter1 : Expr} {ifs ifs1 : List Expr} {scope : Scope} {own : List (Str × Nat)} {vs1 : List Nat} {pos : Pos} {wi wi1 : TI} {g g1 : TG} {tt tt1 : TT} {tk tv : TE} (hc : X.calm = true) (hN : X.N.Nodup) (hi : PI X tg iter wi) (ok : BlkOk X.N X.env.scope scope own) (hv : ∀ i ∈ vs1, i ∈ own.map (·.2))
    (hg : ∀ (s : Shared) (H : Hp) (C : Addr) (cl : List (Str × Addr)) (fp : List Addr), PG (X.blk s H scope (compEnvC scope cl C X.env) fp) tg g) (ht : ∀ (s : Shared) (H : Hp) (C : Addr) (cl : List (Str × Addr)) (fp : List Addr), PTs (X.blk s H scope (compEnvC scope cl C X.env) fp) ifs tt)
    (hi1 : ∀ (s : Shared) (H : Hp) (C : Addr) (cl : List (Str × Addr)) (fp : List Addr), PI (X.blk s H scope (compEnvC scope cl C X.env) fp) tg1 iter1 wi1)
    (hg1 : ∀ (s : Shared) (H : Hp) (C : Addr) (cl : List (Str × Addr)) (fp : List Addr), PG (X.blk s H scope (compEnvC scope cl C X.env) fp) tg1 g1) (ht1 : ∀ (s : Shared) (H : Hp) (C : Addr) (cl : List (Str × Addr)) (fp : List Addr), PTs (X.blk s H scope (compEnvC scope cl C X.env) fp) ifs1 tt1)
    (hk : ∀ (s : Shared) (H : Hp) (C : Addr) (cl : List (Str × Addr)) (fp : List Addr), PE (X.blk s H scope (compEnvC scope cl C X.env) fp) kx tk) (he : ∀ (s : Shared) (H : Hp) (C : Addr) (cl : List (Str × Addr)) (fp : List Addr), PE (X.blk s H scope (compEnvC scope cl C X.env) fp) vx tv) (hs : ∀ x, foldedSetIterable iter X.env x = pure x := by intro _; rfl) (hs1 : ∀ env x, foldedSetIterable iter1 env x = pure x := by intro _ _; rfl) :
    PE X (.DictComp kx vx [⟨tg, iter, ifs, 0⟩, ⟨tg1, iter1, ifs1, 0⟩] scope pos) (tDc2 wi g tt wi1 g1 tt1 tk tv (own.map (·.2)) vs1) := by
  refine ⟨fun pins s σ H Q I h => ?_⟩
  rw [arm_eval_DictComp]
  refine dc2_core hc hN I hi ok hv hg ht hk he hs hi1 hg1 ht1 hs1 h fun D C s' m H' I' q hn f => ⟨m, hn, fun h'' sb => ?_⟩
  obtain ⟨f0, f1, f2, f3, f4, f5⟩ := f
  exact ⟨.ref D, H', I'.turned (t' := s'.toks) (fun b o hb e => (sb.2 b hb).trans e) f0 f1 f3 f4 f5, rfl, q⟩

end
section
variable {X : Cx} (K : PySem.W.Frag)
theorem pgTK {es : List Expr} {k : Nat} {pos : Pos} {t : TGs} (n : Nat) (h : PGs X es t) (hc : X.calm = true := by rfl) (hK : X.K = K := by rfl) (hn : (assignEach es X.env).length = n := by rfl) (hst : (assignEach es X.env).findIdx? (·.1) = none := by rfl) : PG X (.Tuple es k pos) (gTup K n t) := by
  subst hK
  exact pg_tup hc h hn hst
theorem piTK {tg l : Expr} {tl : TE} (hl : PE X l tl) (hK : X.K = K := by rfl) : PI X tg l (iTup K tl) := by
  subst hK
  exact pi_tup hl
theorem piLK {tg l : Expr} {tl : TE} (hl : PE X l tl) (hK : X.K = K := by rfl) : PI X tg l (iList K tl) := by
  subst hK
  exact pi_list hl
end
end Bx

/-! Lowering along literals again and again: values, or a ring. Plain mathematics. -/
namespace Bf
universe u
variable {T : Type u} [DecidableEq T]
abbrev Lit (T : Type u) := T × T × Int
/-- heights, what each was lowered by -/
structure Sta (T : Type u) where
  h : T → Int
  by_ : T → Option Nat
  low : Option T
def put {α : Type} (f : T → α) (t : T) (v : α) : T → α := fun x => if x = t then v else f x
theorem put_self {α : Type} (f : T → α) (t : T) (v : α) : put f t v t = v := if_pos rfl
theorem put_ne {α : Type} {f : T → α} {t x : T} {v : α} (h : x ≠ t) : put f t v x = f x := if_neg h
/-- one literal looked at -/
def one (s : Sta T) (at_ : Nat) (q : Lit T) : Sta T :=
  if s.h q.2.1 + q.2.2 < s.h q.1 then ⟨put s.h q.1 (s.h q.2.1 + q.2.2), put s.by_ q.1 (some at_), some q.1⟩ else s
/-- the first k literals of a pass -/
def some_ (L : List (Lit T)) (s : Sta T) : Nat → Sta T
  | 0 => s
  | k + 1 => match L[k]? with
    | some q => one (some_ L s k) k q
    | none => some_ L s k
def pass (L : List (Lit T)) (s : Sta T) : Sta T := some_ L { s with low := none } L.length
def passes (L : List (Lit T)) : Nat → Sta T
  | 0 => ⟨fun _ => 0, fun _ => none, none⟩
  | k + 1 => pass L (passes L k)
def num (L : List (Lit T)) (i : Nat) : Int := match L[i]? with
  | some q => q.2.2
  | none => 0
def tot (L : List (Lit T)) : List Nat → Int
  | [] => 0
  | i :: is => num L i + tot L is
/-- a way back along what terms were lowered by -/
inductive Pth (L : List (Lit T)) (b : T → Option Nat) : T → List Nat → T → Prop
  | nil (t : T) : Pth L b t [] t
  | cons {t r : T} {n : Int} {i : Nat} {is : List Nat} {e : T} (hb : b t = some i) (hL : L[i]? = some (t, r, n)) (p : Pth L b r is e) : Pth L b t (i :: is) e
structure Good (L : List (Lit T)) (s : Sta T) : Prop where
  own : ∀ t i, s.by_ t = some i → ∃ r n, L[i]? = some (t, r, n) ∧ s.h r + n ≤ s.h t
  root : ∀ t, s.by_ t = none → s.h t = 0
  le0 : ∀ t, s.h t ≤ 0
  ring : ∀ t is, is ≠ [] → Pth L s.by_ t is t → tot L is < 0
theorem num_at {L : List (Lit T)} {i : Nat} {q : Lit T} (h : L[i]? = some q) : num L i = q.2.2 := by
  unfold num
  rw [h]
theorem pth_le {L : List (Lit T)} {b : T → Option Nat} {h : T → Int} (own : ∀ t i, b t = some i → ∃ r n, L[i]? = some (t, r, n) ∧ h r + n ≤ h t) {t : T} {is : List Nat} {e : T} (p : Pth L b t is e) : tot L is + h e ≤ h t := by
  induction p with
  | nil t => simp [tot]
  | @cons t r n i is e hb hL p ih =>
    obtain ⟨r', n', h1, h2⟩ := own t i hb
    have e1 : (t, r, n) = (t, r', n') := Option.some.inj (hL.symm.trans h1)
    have e2 : r = r' := congrArg (fun x => x.2.1) e1
    have e3 : n = n' := congrArg (fun x => x.2.2) e1
    subst e2 e3
    have e4 : num L i = n := num_at hL
    simp only [tot]
    rw [e4]
    omega
/-- a way by the new table: an old one, or strictly lower -/
theorem pth_new {L : List (Lit T)} {s : Sta T} (G : Good L s) {l r : T} {n : Int} {i0 : Nat} (h0 : L[i0]? = some (l, r, n)) (hlt : s.h r + n < s.h l) {t : T} {is : List Nat} {e : T} (p : Pth L (put s.by_ l (some i0)) t is e) :
    (Pth L s.by_ t is e ∧ tot L is + s.h e ≤ s.h t) ∨ tot L is + s.h e < s.h t := by
  induction p with
  | nil t => exact .inl ⟨.nil t, by simp [tot]⟩
  | @cons t r' n' i is e hb hL p ih =>
    have e4 : num L i = n' := num_at hL
    simp only [tot]
    rw [e4]
    by_cases q : t = l
    · subst q
      rw [put_self] at hb
      cases hb
      have e1 : (t, r', n') = (t, r, n) := Option.some.inj (hL.symm.trans h0)
      have e2 : r' = r := congrArg (fun x => x.2.1) e1
      have e3 : n' = n := congrArg (fun x => x.2.2) e1
      subst e2 e3
      right
      rcases ih with ⟨_, h⟩ | h <;> omega
    · rw [put_ne q] at hb
      obtain ⟨r2, n2, h1, h2⟩ := G.own t i hb
      have e1 : (t, r', n') = (t, r2, n2) := Option.some.inj (hL.symm.trans h1)
      have e2 : r' = r2 := congrArg (fun x => x.2.1) e1
      have e3 : n' = n2 := congrArg (fun x => x.2.2) e1
      subst e2 e3
      rcases ih with ⟨p', h⟩ | h
      · exact .inl ⟨.cons hb hL p', by omega⟩
      · right
        omega
theorem one_good {L : List (Lit T)} {s : Sta T} (G : Good L s) {i : Nat} {q : Lit T} (hq : L[i]? = some q) : Good L (one s i q) := by
  unfold one
  split
  · rename_i hlt
    obtain ⟨l, r, n⟩ := q
    simp only at hlt hq ⊢
    refine ⟨fun t j hb => ?_, fun t hb => ?_, fun t => ?_, fun t is hne p => ?_⟩
    · by_cases e : t = l
      · subst e
        simp only [put_self] at hb ⊢
        cases hb
        refine ⟨r, n, hq, ?_⟩
        by_cases e2 : r = t
        · subst e2
          rw [put_self]
          omega
        · rw [put_ne e2]
          exact Int.le_refl _
      · simp only [put_ne e] at hb ⊢
        obtain ⟨r2, n2, h1, h2⟩ := G.own t j hb
        refine ⟨r2, n2, h1, ?_⟩
        by_cases e2 : r2 = l
        · subst e2
          rw [put_self]
          omega
        · rw [put_ne e2]
          exact h2
    · by_cases e : t = l
      · subst e
        simp only [put_self] at hb
        cases hb
      · simp only [put_ne e] at hb ⊢
        exact G.root t hb
    · by_cases e : t = l
      · subst e
        simp only [put_self]
        have := G.le0 t
        omega
      · simp only [put_ne e]
        exact G.le0 t
    · rcases pth_new G hq hlt p with ⟨p', _⟩ | h
      · exact G.ring t is hne p'
      · omega
  · exact G
theorem some_succ {L : List (Lit T)} {s : Sta T} {k : Nat} {q : Lit T} (h : L[k]? = some q) : some_ L s (k + 1) = one (some_ L s k) k q := by
  rw [some_, h]
theorem some_good {L : List (Lit T)} {s : Sta T} (G : Good L s) : ∀ k, Good L (some_ L s k)
  | 0 => G
  | k + 1 => by
    have ih := some_good G k
    unfold some_
    cases h : L[k]? with
    | none => exact ih
    | some q => exact one_good ih h
theorem good_low {L : List (Lit T)} {s : Sta T} (G : Good L s) (o : Option T) : Good L { s with low := o } := ⟨G.own, G.root, G.le0, G.ring⟩
theorem passes_good (L : List (Lit T)) : ∀ k, Good L (passes L k)
  | 0 => ⟨fun t i h => (by cases h), fun _ _ => rfl, fun _ => Int.le_refl _, fun t is hne p => by
      cases p with
      | nil => exact absurd rfl hne
      | cons hb => cases hb⟩
  | k + 1 => some_good (good_low (passes_good L k) none) _
/-! ### a pass -/
theorem one_le (s : Sta T) (i : Nat) (q : Lit T) (t : T) : (one s i q).h t ≤ s.h t := by
  unfold one
  split
  · by_cases e : t = q.1
    · subst e
      simp only [put_self]
      omega
    · simp only [put_ne e]
      exact Int.le_refl _
  · exact Int.le_refl _
theorem one_done (s : Sta T) (i : Nat) (q : Lit T) : (one s i q).h q.1 ≤ s.h q.2.1 + q.2.2 := by
  unfold one
  split
  · simp only [put_self]
    exact Int.le_refl _
  · omega
theorem some_le {L : List (Lit T)} {s : Sta T} (t : T) : ∀ k, (some_ L s k).h t ≤ s.h t
  | 0 => Int.le_refl _
  | k + 1 => by
    have ih := some_le (L := L) (s := s) t k
    unfold some_
    cases h : L[k]? with
    | none => exact ih
    | some q => exact Int.le_trans (one_le _ _ _ _) ih
theorem some_done {L : List (Lit T)} {s : Sta T} {i : Nat} {q : Lit T} (hq : L[i]? = some q) : ∀ k, i < k → (some_ L s k).h q.1 ≤ s.h q.2.1 + q.2.2
  | 0, h => absurd h (Nat.not_lt_zero i)
  | k + 1, h => by
    unfold some_
    by_cases e : i = k
    · subst e
      rw [hq]
      show (one (some_ L s i) i q).h q.1 ≤ _
      have h1 := one_done (some_ L s i) i q
      have h2 := some_le (L := L) (s := s) q.2.1 i
      omega
    · have ih := some_done (s := s) hq k (by omega)
      cases h' : L[k]? with
      | none => exact ih
      | some q' => exact Int.le_trans (one_le _ _ _ _) ih
/-- nothing lowered: all is as it was and all looked at hold -/
theorem some_none {L : List (Lit T)} {s : Sta T} (h0 : s.low = none) : ∀ k, (some_ L s k).low = none → (some_ L s k) = s ∧ ∀ i q, i < k → L[i]? = some q → s.h q.1 ≤ s.h q.2.1 + q.2.2
  | 0, _ => ⟨rfl, fun i q h => absurd h (Nat.not_lt_zero i)⟩
  | k + 1, h => by
    unfold some_ at h ⊢
    cases h' : L[k]? with
    | none =>
      rw [h'] at h
      obtain ⟨e, ih⟩ := some_none h0 k h
      refine ⟨e, fun i q hi hq => ?_⟩
      by_cases e2 : i = k
      · subst e2
        rw [h'] at hq
        cases hq
      · exact ih i q (by omega) hq
    | some q0 =>
      rw [h'] at h
      simp only at h ⊢
      have hn : (some_ L s k).low = none ∧ ¬ ((some_ L s k).h q0.2.1 + q0.2.2 < (some_ L s k).h q0.1) := by
        unfold one at h
        split at h
        · cases h
        · exact ⟨h, by assumption⟩
      obtain ⟨e, ih⟩ := some_none h0 k hn.1
      rw [e] at hn ⊢
      refine ⟨by unfold one; rw [if_neg hn.2], fun i q hi hq => ?_⟩
      by_cases e2 : i = k
      · subst e2
        rw [h'] at hq
        cases hq
        omega
      · exact ih i q (by omega) hq
/-- what was lowered last is lower, and told with what it was lowered by -/
theorem some_low {L : List (Lit T)} {s : Sta T} (h0 : s.low = none) {t : T} : ∀ k, (some_ L s k).low = some t → (some_ L s k).h t < s.h t ∧ (some_ L s k).by_ t ≠ none
  | 0, h => by
    rw [show some_ L s 0 = s from rfl, h0] at h
    cases h
  | k + 1, h => by
    unfold some_ at h ⊢
    cases h' : L[k]? with
    | none =>
      rw [h'] at h
      exact some_low h0 k h
    | some q0 =>
      rw [h'] at h
      simp only at h ⊢
      unfold one at h ⊢
      split at h
      · rename_i hlt
        rw [if_pos hlt]
        simp only at h
        cases h
        simp only [put_self]
        have := some_le (L := L) (s := s) q0.1 k
        exact ⟨by omega, by simp⟩
      · rename_i hlt
        rw [if_neg hlt]
        exact some_low h0 k h
theorem pass_le (L : List (Lit T)) (s : Sta T) (t : T) : (pass L s).h t ≤ s.h t := some_le (L := L) (s := { s with low := none }) t _
theorem pass_done {L : List (Lit T)} {s : Sta T} {i : Nat} {q : Lit T} (hq : L[i]? = some q) : (pass L s).h q.1 ≤ s.h q.2.1 + q.2.2 := some_done (s := { s with low := none }) hq _ (List.getElem?_eq_some_iff.mp hq).1
theorem passes_mono (L : List (Lit T)) (t : T) {j : Nat} : ∀ {k : Nat}, j ≤ k → (passes L k).h t ≤ (passes L j).h t
  | 0, h => by
    have e : j = 0 := by omega
    subst e
    exact Int.le_refl _
  | k + 1, h => by
    by_cases e : j = k + 1
    · subst e
      exact Int.le_refl _
    · exact Int.le_trans (pass_le _ _ _) (passes_mono L t (by omega))
/-- after as many passes as a way has steps, its end is no more above its begin than it says -/
theorem passes_way {L : List (Lit T)} {b : T → Option Nat} {t : T} {is : List Nat} {e : T} (p : Pth L b t is e) : (passes L is.length).h t ≤ tot L is := by
  induction p with
  | nil t => exact Int.le_refl _
  | @cons t r n i is e hb hL p ih =>
    have h1 := pass_done (s := passes L is.length) hL
    have e4 : num L i = n := num_at hL
    simp only [tot]
    rw [e4]
    show (pass L (passes L is.length)).h t ≤ _
    simp only at h1
    omega
/-! ### the ring -/
def nxt (L : List (Lit T)) (b : T → Option Nat) (t : T) : T := match b t with
  | some i => (match L[i]? with
    | some q => q.2.1
    | none => t)
  | none => t
def itr (L : List (Lit T)) (b : T → Option Nat) (t : T) : Nat → T
  | 0 => t
  | k + 1 => nxt L b (itr L b t k)
theorem itr_add (L : List (Lit T)) (b : T → Option Nat) (t : T) (i : Nat) : ∀ k, itr L b t (i + k) = itr L b (itr L b t i) k
  | 0 => rfl
  | k + 1 => congrArg (nxt L b) (itr_add L b t i k)
theorem nxt_at {L : List (Lit T)} {b : T → Option Nat} {t r : T} {n : Int} {i : Nat} (hb : b t = some i) (hL : L[i]? = some (t, r, n)) : nxt L b t = r := by
  unfold nxt
  rw [hb]
  show (match L[i]? with
    | some q => q.2.1
    | none => t) = r
  rw [hL]
theorem pth_itr {L : List (Lit T)} {s : Sta T} (G : Good L s) : ∀ (k : Nat) (t : T), (∀ j, j < k → s.by_ (itr L s.by_ t j) ≠ none) → ∃ is, is.length = k ∧ Pth L s.by_ t is (itr L s.by_ t k) ∧ ∀ j, j < k → is[j]? = s.by_ (itr L s.by_ t j)
  | 0, t, _ => ⟨[], rfl, .nil t, fun j h => absurd h (Nat.not_lt_zero j)⟩
  | k + 1, t, h => by
    obtain ⟨i, hi⟩ := Option.ne_none_iff_exists'.mp (h 0 (Nat.succ_pos k))
    obtain ⟨r, n, hL, _⟩ := G.own t i hi
    have en : nxt L s.by_ t = r := nxt_at hi hL
    have e : ∀ j, itr L s.by_ t (j + 1) = itr L s.by_ r j := fun j => by
      rw [Nat.add_comm, itr_add]
      show itr L s.by_ (nxt L s.by_ t) j = _
      rw [en]
    obtain ⟨is, hl, hp, ha⟩ := pth_itr G k r fun j hj => by
      rw [← e]
      exact h (j + 1) (Nat.succ_lt_succ hj)
    refine ⟨i :: is, by rw [List.length_cons, hl], ?_, fun j hj => ?_⟩
    · rw [e]
      exact .cons hi hL hp
    · cases j with
      | zero => exact hi.symm
      | succ j =>
        rw [e]
        exact ha j (by omega)
theorem nodup_map_range {f : Nat → T} {k : Nat} (h : ∀ i j, i < k → j < k → f i = f j → i = j) : ((List.range k).map f).Nodup := by
  rw [List.nodup_iff_pairwise_ne, List.pairwise_map]
  refine List.Pairwise.imp_of_mem ?_ List.nodup_range
  intro a b ha hb hne e
  exact hne (h a b (List.mem_range.mp ha) (List.mem_range.mp hb) e)
theorem len_le : ∀ {xs ys : List T}, xs.Nodup → (∀ k ∈ xs, k ∈ ys) → xs.length ≤ ys.length
  | [], _, _, _ => Nat.zero_le _
  | a :: o, ys, nd, h => by
    have ha : a ∈ ys := h a List.mem_cons_self
    have hn := List.nodup_cons.mp nd
    have e : o.length ≤ (ys.erase a).length := len_le hn.2 fun k hk => (List.mem_erase_of_ne (fun q => hn.1 (by rw [← q]; exact hk))).mpr (h k (List.mem_cons_of_mem _ hk))
    have e2 : (ys.erase a).length = ys.length - 1 := List.length_erase_of_mem ha
    have hp : 0 < ys.length := List.length_pos_of_mem ha
    rw [List.length_cons]
    omega
/-- where a pass more than there are terms still lowers, the way back from what was lowered has no end -/
theorem no_root {L : List (Lit T)} {ks : List T} (hks : ∀ q ∈ L, q.1 ∈ ks ∧ q.2.1 ∈ ks) {t : T} (hl : (passes L (ks.length + 1)).low = some t) : ∀ k, (passes L (ks.length + 1)).by_ (itr L (passes L (ks.length + 1)).by_ t k) ≠ none := by
  have G := passes_good L (ks.length + 1)
  generalize hs : passes L (ks.length + 1) = s at *
  have low : s.h t < (passes L ks.length).h t := by
    rw [← hs] at hl ⊢
    exact (some_low (s := { passes L ks.length with low := none }) rfl _ hl).1
  intro k
  induction k using Nat.strongRecOn with
  | _ k ih =>
    intro hn
    obtain ⟨is, hlen, hp, _⟩ := pth_itr G k t fun j hj => ih j hj
    -- the terms on the way are different
    have nd : ((List.range (k + 1)).map (itr L s.by_ t)).Nodup := by
      have key : ∀ i j, i < j → j < k + 1 → itr L s.by_ t i ≠ itr L s.by_ t j := fun i j hij hj e => by
        have e2 : itr L s.by_ t (i + (k - j)) = itr L s.by_ t k := by
          rw [itr_add, e, ← itr_add]
          congr 1
          omega
        exact ih (i + (k - j)) (by omega) (by rw [e2]; exact hn)
      refine nodup_map_range fun i j hi hj e => ?_
      rcases Nat.lt_trichotomy i j with h | h | h
      · exact absurd e (key i j h hj)
      · exact h
      · exact absurd e.symm (key j i h hi)
    have mem : ∀ x ∈ (List.range (k + 1)).map (itr L s.by_ t), x ∈ ks := fun x hx => by
      obtain ⟨j, hj, rfl⟩ := List.mem_map.mp hx
      have hj2 := List.mem_range.mp hj
      have src : ∀ j, j < k → itr L s.by_ t j ∈ ks ∧ itr L s.by_ t (j + 1) ∈ ks := fun j hj => by
        obtain ⟨i, hi⟩ := Option.ne_none_iff_exists'.mp (ih j hj)
        obtain ⟨r, n, hL, _⟩ := G.own _ i hi
        have hm := hks _ (List.mem_of_getElem? hL)
        refine ⟨hm.1, ?_⟩
        show nxt L s.by_ (itr L s.by_ t j) ∈ ks
        rw [nxt_at hi hL]
        exact hm.2
      cases k with
      | zero =>
        -- t itself has no root: it was lowered
        have hb : s.by_ t ≠ none := by
          rw [← hs] at hl ⊢
          exact (some_low (s := { passes L ks.length with low := none }) rfl _ hl).2
        exact absurd hn hb
      | succ k =>
        by_cases e : j = k + 1
        · subst e
          exact (src k (Nat.lt_succ_self k)).2
        · exact (src j (by omega)).1
    have hk : k + 1 ≤ ks.length := by
      have := len_le nd mem
      simpa using this
    have h1 := pth_le G.own hp
    have h2 := passes_way hp
    have h3 := passes_mono L t (show is.length ≤ ks.length by omega)
    have h4 := G.root _ hn
    omega
structure IsRing (L : List (Lit T)) (is : List Nat) (f : Nat → T) : Prop where
  ne : is ≠ []
  at_ : ∀ j, j < is.length → ∃ i n, is[j]? = some i ∧ L[i]? = some (f j, f (j + 1), n)
  back : f is.length = f 0
  inj : ∀ i j, i < is.length → j < is.length → f i = f j → i = j
  neg : tot L is < 0
theorem IsRing.nodup {L : List (Lit T)} {is : List Nat} {f : Nat → T} (R : IsRing L is f) : is.Nodup := by
  rw [List.nodup_iff_pairwise_ne, List.pairwise_iff_getElem]
  intro i j hi hj hij e
  obtain ⟨a, n, h1, h2⟩ := R.at_ i hi
  obtain ⟨b, m, h3, h4⟩ := R.at_ j hj
  rw [List.getElem?_eq_getElem hi] at h1
  rw [List.getElem?_eq_getElem hj] at h3
  have e1 : a = b := by
    have e1 := Option.some.inj h1
    have e2 := Option.some.inj h3
    rw [← e1, ← e2, e]
  subst e1
  have e2 := Option.some.inj (h2.symm.trans h4)
  have e3 : f i = f j := congrArg (fun x => x.1) e2
  have := R.inj i j hi hj e3
  omega
/-- after as many steps back as terms were lowered one stands on a ring -/
theorem on_ring {L : List (Lit T)} {s : Sta T} {bs : List T} (hbs : ∀ x, s.by_ x ≠ none → x ∈ bs) {t : T} (hn : ∀ k, s.by_ (itr L s.by_ t k) ≠ none) : ∃ d, 0 < d ∧ d ≤ bs.length ∧ itr L s.by_ t (bs.length + d) = itr L s.by_ t bs.length := by
  have h : ¬ ((List.range (bs.length + 1)).map (itr L s.by_ t)).Nodup := fun nd => by
    have := len_le nd (ys := bs) fun x hx => by
      obtain ⟨j, _, rfl⟩ := List.mem_map.mp hx
      exact hbs _ (hn j)
    simp at this
    omega
  have h2 : ∃ i j, i < j ∧ j < bs.length + 1 ∧ itr L s.by_ t i = itr L s.by_ t j := by
    refine Classical.byContradiction fun hc => h (nodup_map_range fun i j hi hj e => ?_)
    rcases Nat.lt_trichotomy i j with q | q | q
    · exact absurd ⟨i, j, q, hj, e⟩ hc
    · exact q
    · exact absurd ⟨j, i, q, hi, e.symm⟩ hc
  obtain ⟨i, j, hij, hj, e⟩ := h2
  refine ⟨j - i, by omega, by omega, ?_⟩
  have e1 : bs.length + (j - i) = j + (bs.length - i) := by omega
  have e2 : bs.length = i + (bs.length - i) := by omega
  rw [e1, itr_add, ← e, ← itr_add, ← e2]
theorem least {p : Nat → Prop} : ∀ n, p n → ∃ k, k ≤ n ∧ p k ∧ ∀ j, j < k → ¬ p j := by
  intro n
  induction n using Nat.strongRecOn with
  | _ n ih =>
    intro h
    by_cases q : ∃ j, j < n ∧ p j
    · obtain ⟨j, hj, hp⟩ := q
      obtain ⟨k, h1, h2, h3⟩ := ih j hj hp
      exact ⟨k, by omega, h2, h3⟩
    · exact ⟨n, Nat.le_refl n, h, fun j hj hp => q ⟨j, hj, hp⟩⟩
/-- the ring from where one stands: its least round -/
theorem ring_of {L : List (Lit T)} {s : Sta T} (G : Good L s) {x : T} (hn : ∀ k, s.by_ (itr L s.by_ x k) ≠ none) {c : Nat} (h0 : itr L s.by_ x (c + 1) = x) (hl : ∀ j, 0 < j → j ≤ c → itr L s.by_ x j ≠ x) {is : List Nat} (hlen : is.length = c + 1) (his : ∀ j, j ≤ c → is[j]? = s.by_ (itr L s.by_ x j)) :
    IsRing L is (itr L s.by_ x) where
  ne := fun e => by rw [e] at hlen; cases hlen
  at_ := fun j hj => by
    obtain ⟨i, hi⟩ := Option.ne_none_iff_exists'.mp (hn j)
    obtain ⟨r, n, hL, _⟩ := G.own _ i hi
    refine ⟨i, n, by rw [his j (by omega), hi], ?_⟩
    show L[i]? = some (itr L s.by_ x j, nxt L s.by_ (itr L s.by_ x j), n)
    rw [nxt_at hi hL]
    exact hL
  back := by rw [hlen]; exact h0
  inj := by
    have key : ∀ i j, i < j → j < c + 1 → itr L s.by_ x i ≠ itr L s.by_ x j := fun i j hij hj e => by
      have e2 : itr L s.by_ x (i + (c + 1 - j)) = x := by
        rw [itr_add, e, ← itr_add, show j + (c + 1 - j) = c + 1 by omega]
        exact h0
      exact hl (i + (c + 1 - j)) (by omega) (by omega) e2
    intro i j hi hj e
    rw [hlen] at hi hj
    rcases Nat.lt_trichotomy i j with q | q | q
    · exact absurd e (key i j q hj)
    · exact q
    · exact absurd e.symm (key j i q hi)
  neg := by
    obtain ⟨js, hl2, hp, ha⟩ := pth_itr G (c + 1) x fun j _ => hn j
    have e : js = is := by
      refine List.ext_getElem? fun j => ?_
      by_cases hj : j < c + 1
      · rw [ha j hj, his j (by omega)]
      · rw [List.getElem?_eq_none (by omega), List.getElem?_eq_none (by omega)]
    subst e
    rw [h0] at hp
    exact G.ring x js (fun e => by rw [e] at hl2; cases hl2) hp
end Bf

namespace Bx
open PySem PySem.Spec PyProof.Rows L2
/-! ### dicts over texts, as functions -/
def hk (ks : List Str) (h : Str → Int) : List (Key × V) := ks.map fun t => (Sum.inr t, V.int (h t))
def bk (bs : List Str) (b : Str → Option Nat) : List (Key × V) := bs.map fun t => (Sum.inr t, V.int (((b t).getD 0 : Nat) : Int))
def fk (ks : List Str) (v : Str → V) : List (Key × V) := ks.map fun t => (Sum.inr t, v t)
theorem fk_get {v : Str → V} {t : Str} : ∀ {ks : List Str}, t ∈ ks → valV (fk ks v) (Sum.inr t) = some (v t)
  | k :: ks, h => by
    by_cases e : k = t
    · subst e
      exact valV_pos rfl
    · show valV ((Sum.inr k, v k) :: fk ks v) _ = _
      rw [valV_neg (fun q => e (Sum.inr.inj q))]
      rcases List.mem_cons.mp h with q | q
      · exact absurd q.symm e
      · exact fk_get q
theorem fk_no {v : Str → V} {t : Str} : ∀ {ks : List Str}, t ∉ ks → valV (fk ks v) (Sum.inr t) = none
  | [], _ => rfl
  | k :: ks, h => by
    have e : ¬ k = t := fun q => h (q ▸ List.mem_cons_self)
    show valV ((Sum.inr k, v k) :: fk ks v) _ = _
    rw [valV_neg (fun q => e (Sum.inr.inj q))]
    exact fk_no fun q => h (List.mem_cons_of_mem _ q)
theorem fk_any {v : Str → V} {t : Str} {ks : List Str} : ((fk ks v).any fun kv => decide (kv.1 = Sum.inr t)) = decide (t ∈ ks) := by
  rw [Bool.eq_iff_iff, List.any_eq_true, decide_eq_true_eq]
  constructor
  · rintro ⟨p, hp, e⟩
    obtain ⟨k, hk, rfl⟩ := List.mem_map.mp hp
    have e := of_decide_eq_true e
    rw [← Sum.inr.inj e]
    exact hk
  · intro h
    exact ⟨(Sum.inr t, v t), List.mem_map_of_mem h, decide_eq_true rfl⟩
theorem fk_put {v : Str → V} {t : Str} {x : V} {ks : List Str} (h : t ∈ ks) : putK (fk ks v) (Sum.inr t) x = fk ks (fun k => if k = t then x else v k) := by
  unfold putK
  rw [fk_any, decide_eq_true h, if_pos rfl]
  unfold fk
  rw [List.map_map]
  refine List.map_congr_left fun k _ => ?_
  show (if (Sum.inr k : Key) = Sum.inr t then (Sum.inr k, x) else (Sum.inr k, v k)) = (Sum.inr k, if k = t then x else v k)
  by_cases e : k = t
  · rw [if_pos (congrArg Sum.inr e), if_pos e]
  · rw [if_neg (fun q => e (Sum.inr.inj q)), if_neg e]
theorem fk_new {v : Str → V} {t : Str} {x : V} {ks : List Str} (h : t ∉ ks) : putK (fk ks v) (Sum.inr t) x = fk (ks ++ [t]) (fun k => if k = t then x else v k) := by
  unfold putK
  rw [fk_any, decide_eq_false h, if_neg Bool.false_ne_true]
  unfold fk
  rw [List.map_append]
  congr 1
  · refine List.map_congr_left fun k hk => ?_
    have e : k ≠ t := fun q => h (q ▸ hk)
    simp only [if_neg e]
  · simp
theorem hk_get {h : Str → Int} {t : Str} {ks : List Str} (m : t ∈ ks) : valV (hk ks h) (Sum.inr t) = some (.int (h t)) := fk_get (v := fun t => V.int (h t)) m
theorem hk_put {h : Str → Int} {t : Str} {n : Int} {ks : List Str} (m : t ∈ ks) : putK (hk ks h) (Sum.inr t) (.int n) = hk ks (Bf.put h t n) := by
  refine (fk_put (v := fun t => V.int (h t)) m).trans ?_
  unfold fk hk
  refine List.map_congr_left fun k _ => ?_
  unfold Bf.put
  by_cases e : k = t <;> simp [e]
theorem bk_get {b : Str → Option Nat} {t : Str} {bs : List Str} {i : Nat} (m : t ∈ bs) (hb : b t = some i) : valV (bk bs b) (Sum.inr t) = some (.int (i : Nat)) := by
  refine (fk_get (v := fun t => V.int (((b t).getD 0 : Nat) : Int)) m).trans ?_
  rw [hb]
  rfl
/-- which terms have been lowered -/
def ByOk (bs : List Str) (b : Str → Option Nat) : Prop := bs.Nodup ∧ ∀ t, t ∈ bs ↔ b t ≠ none
theorem bk_put {b : Str → Option Nat} {t : Str} {i : Nat} {bs : List Str} (ok : ByOk bs b) : ∃ bs', putK (bk bs b) (Sum.inr t) (.int (i : Nat)) = bk bs' (Bf.put b t (some i)) ∧ ByOk bs' (Bf.put b t (some i)) ∧ bs'.length ≤ bs.length + 1 := by
  have ext : ∀ x, Bf.put b t (some i) x ≠ none ↔ (x = t ∨ b x ≠ none) := fun x => by
    unfold Bf.put
    by_cases e : x = t <;> simp [e]
  have eqv : ∀ (l : List Str), fk l (fun k => if k = t then V.int (i : Nat) else V.int (((b k).getD 0 : Nat) : Int)) = bk l (Bf.put b t (some i)) := fun l => by
    unfold fk bk
    refine List.map_congr_left fun k _ => ?_
    unfold Bf.put
    by_cases e : k = t <;> simp [e]
  by_cases m : t ∈ bs
  · refine ⟨bs, (fk_put (v := fun t => V.int (((b t).getD 0 : Nat) : Int)) m).trans (eqv bs), ⟨ok.1, fun x => ?_⟩, Nat.le_succ _⟩
    rw [ext, ok.2]
    constructor
    · exact .inr
    · rintro (e | h)
      · rw [e]
        exact (ok.2 t).mp m
      · exact h
  · refine ⟨bs ++ [t], (fk_new (v := fun t => V.int (((b t).getD 0 : Nat) : Int)) m).trans (eqv _), ⟨?_, fun x => ?_⟩, by simp⟩
    · refine List.nodup_append.mpr ⟨ok.1, by simp, fun x hx y hy e => ?_⟩
      have : y = t := by simpa using hy
      rw [← this, ← e] at m
      exact m hx
    · rw [ext, List.mem_append, ok.2]
      simp [or_comm]
/-! ### loops of comprehensions of two clauses, by a word of the turn and the heap -/
theorem itt_run {K : PySem.W.Frag} {a : Addr} {xs : List V} {F : V → Hp → (Hp → Prop) → Prop} {H4 : Hp} {Nx : Hp → Prop} (Pv : Nat → Hp → Prop) (h0 : Pv 0 H4) (hl : ∀ j H, j ≤ xs.length → Pv j H → SqT K H a xs)
    (hs : ∀ j x H, xs[j]? = some x → Pv j H → F x H (Pv (j + 1))) (hd : ∀ H, Pv xs.length H → Nx H) :
    ∃ W1 : Nat → Nat → Hp → Prop, (∃ m, W1 0 m H4) ∧ ∀ j k H, W1 j k H → ((Itt K a).stop j H ∧ Nx H) ∨ ((Itt K a).go j H ∧ ∃ Nx1 : Hp → Prop, (∀ H', Nx1 H' → ∃ k', k' < k ∧ W1 (j + 1) k' H') ∧ ∀ x H', (Itt K a).yld j H x H' → F x H' Nx1) := by
  refine ⟨fun j k H => k = xs.length - j ∧ j ≤ xs.length ∧ Pv j H, ⟨xs.length, rfl, Nat.zero_le _, h0⟩, ?_⟩
  rintro j k H ⟨rfl, hj, p⟩
  have q := hl j H hj p
  by_cases hlt : j < xs.length
  · refine .inr ⟨⟨xs, xs[j], q, List.getElem?_eq_getElem hlt⟩, Pv (j + 1), fun H' p' => ⟨xs.length - (j + 1), by omega, rfl, hlt, p'⟩, fun x H' y => ?_⟩
    obtain ⟨e, y⟩ := y
    subst e
    exact hs j x _ (y xs q) p
  · have e : j = xs.length := by omega
    subst e
    exact .inl ⟨⟨xs, q, Nat.le_refl _⟩, hd H p⟩
theorem itl_run {K : PySem.W.Frag} {a : Addr} {xs : List V} {F : V → Hp → (Hp → Prop) → Prop} {H4 : Hp} {Nx : Hp → Prop} (Pv : Nat → Hp → Prop) (h0 : Pv 0 H4) (hl : ∀ j H, j ≤ xs.length → Pv j H → SqL K H a xs)
    (hs : ∀ j x H, xs[j]? = some x → Pv j H → F x H (Pv (j + 1))) (hd : ∀ H, Pv xs.length H → Nx H) :
    ∃ W1 : Nat → Nat → Hp → Prop, (∃ m, W1 0 m H4) ∧ ∀ j k H, W1 j k H → ((Itl K a).stop j H ∧ Nx H) ∨ ((Itl K a).go j H ∧ ∃ Nx1 : Hp → Prop, (∀ H', Nx1 H' → ∃ k', k' < k ∧ W1 (j + 1) k' H') ∧ ∀ x H', (Itl K a).yld j H x H' → F x H' Nx1) := by
  refine ⟨fun j k H => k = xs.length - j ∧ j ≤ xs.length ∧ Pv j H, ⟨xs.length, rfl, Nat.zero_le _, h0⟩, ?_⟩
  rintro j k H ⟨rfl, hj, p⟩
  have q := hl j H hj p
  by_cases hlt : j < xs.length
  · refine .inr ⟨⟨xs, xs[j], q, List.getElem?_eq_getElem hlt⟩, Pv (j + 1), fun H' p' => ⟨xs.length - (j + 1), by omega, rfl, hlt, p'⟩, fun x H' y => ?_⟩
    obtain ⟨e, y⟩ := y
    subst e
    exact hs j x _ (y xs q) p
  · have e : j = xs.length := by omega
    subst e
    exact .inl ⟨⟨xs, q, Nat.le_refl _⟩, hd H p⟩
end Bx

/-! enumerate(tuple) -/
namespace En
open PySem PySem.Spec PyProof.Rows L2
open AutoSeq1 (wpAny_loadPart')
theorem new_tuple (l : Addr) (items : Array Value) (n : Nat) (dct : Option Addr) (sl : Array (Option Value)) :
    Meets (Builtin.«enumerate.__new__» ⟨[.type "enumerate", .ref l], []⟩) (fun _ R s => s.heap.get? l = some { cls := .type "tuple", dict := dct, data := .seq items n, slots := sl } ∧
      R (.ok (.ret (.ref (s.heap.push { cls := .type "tuple_iterator", data := .fields #[.ref l, .int 0 0] }).objs.size)))
        { s with heap := (s.heap.push { cls := .type "tuple_iterator", data := .fields #[.ref l, .int 0 0] }).push { cls := .type "enumerate", data := .fields #[.none, .bool false, .ref s.heap.objs.size, rawInt 0, .none, .none] } }) :=
  .of_wp fun prog w A R s h => by
    obtain ⟨hp, g, d, tk, os⟩ := s; obtain ⟨hl, h⟩ := h
    have hsub := sub_enumerate
    have hL : Heap.IsTuple (Shared.heap ⟨hp, g, d, tk, os⟩) l items := ⟨_, hl, rfl, n, rfl⟩
    wp_walk using wpAny_loadPart' hl
    refine wpAny_stack_any fun st => wpAny_pure ?_
    split
    · rename_i c _ _ _ _ _
      cases (c == Value.type "enumerate")
      · wp_walk using wpAny_loadPart' hl, wpAny_pyIter_tuple hL
        exact ⟨_, rfl, h⟩
      · wp_walk using wpAny_loadPart' hl, wpAny_pyIter_tuple hL
        exact ⟨_, rfl, h⟩
    · wp_walk using wpAny_loadPart' hl, wpAny_pyIter_tuple hL
      exact ⟨_, rfl, h⟩
section
variable {prog : Program} {w : World} {A : Around} {E : Value → Shared → Prop} {s : Shared}
theorem call_tuple {l : Addr} {items : Array Value} {Q : Value → Shared → Prop} (hL : s.heap.IsTuple l items)
    (h : ∀ h', IsEnum h' (s.heap.objs.size + 1) s.heap.objs.size 0 .none → h'.IsTupleIter s.heap.objs.size l 0 → h'.objs.size = s.heap.objs.size + 2 →
      (∀ b o, s.heap.get? b = some o → h'.get? b = some o) → Q (.ref (s.heap.objs.size + 1)) { s with heap := h' }) :
    wpAny (model prog w) A (call (.type "enumerate") [.ref l]) Q E s := by
  obtain ⟨⟨c, dct, dt, sl⟩, hl, hc, n, hd⟩ := hL
  replace hc : c = .type "tuple" := hc
  replace hd : dt = .seq items n := hd
  subst hc hd
  refine callType_new F.called_enumerate (by decide) (F.typeCall_enumerate_1 _) (F.newCall_enumerate_1 _) (fun obj => F.args_object_init_2 obj _) F.entry_enumerate_new
    (new_tuple l items n dct sl) ⟨hl, ?_⟩
  have hz : (s.heap.push { cls := .type "tuple_iterator", data := .fields #[.ref l, .int 0 0] }).objs.size = s.heap.objs.size + 1 := Heap.size_push ..
  show _ ∧ _
  rw [hz]
  have he : IsEnum ((s.heap.push { cls := .type "tuple_iterator", data := .fields #[.ref l, .int 0 0] }).push
      { cls := .type "enumerate", data := .fields #[.none, .bool false, .ref s.heap.objs.size, rawInt 0, .none, .none] }) (s.heap.objs.size + 1) s.heap.objs.size 0 .none := by
    have := Heap.get?_push_size (s.heap.push { cls := .type "tuple_iterator", data := .fields #[.ref l, .int 0 0] })
      (o := { cls := .type "enumerate", data := .fields #[.none, .bool false, .ref s.heap.objs.size, rawInt 0, .none, .none] }) rfl
    rw [hz] at this; exact this
  refine ⟨⟨_, he, rfl⟩, h _ he ⟨_, Heap.get?_push_of_some _ (Heap.get?_push_size _ rfl), rfl, rfl⟩ (by rw [Heap.size_push, hz]) fun b o x => Heap.get?_push_of_some _ (Heap.get?_push_of_some _ x)⟩
end
theorem draws {prog : Program} {w : World} {A : Around} (hh : A.handled = none) (it l : Addr) (hne : l ≠ it) (items : Array Value) :
    Draws prog w A it [it, l] items.size (fun i v => items[i]? = some v) (fun i h => h.IsTupleIter it l i ∧ h.IsTuple l items) where
  live := fun _ _ st => let ⟨o, ho, _⟩ := st.1; ⟨o, ho⟩
  frame := fun _ _ _ st hk => ⟨st.1.at fun o e => hk it (by simp) o e, st.2.at fun o e => hk l (by simp) o e⟩
  item := fun i s Q E hi st hQ => wpAny_nextOf_tuple_item st.1 st.2 (x := items[i]) (by simp [hi]) fun h' hit' hs' => hQ _ h' s.toks (by simp [hi]) ⟨hit', st.2.extBut hs'.extBut hne⟩ hs'
  done := fun s Q E st hE => wpAny_nextOf_tuple_end hh st.1 st.2 (by simp) hE
/-- the tuple at a, each item in a new pair -/
def Itu (K : PySem.W.Frag) (a : Addr) : It :=
  ⟨fun i H => ∃ (xs : List V) (x : V), SqT K H a xs ∧ xs[i]? = some x, fun i H v H' => ∃ T x, v = .ref T ∧ H T = none ∧ H' = upd H T (.tup [.int (i : Nat), x]) ∧ ∀ xs, SqT K H a xs → xs[i]? = some x, fun i H => ∃ xs : List V, SqT K H a xs ∧ xs.length ≤ i⟩
theorem turn {P : Program} {w : World} {K : PySem.W.Frag} {elts : List Expr} {kk : Nat} {tpos : Pos} (a e it : Addr) :
    Turn P w K (.Tuple elts kk tpos) (Itu K a) [e, it] e (fun i h => (∃ old, IsEnum h e it ((i : Nat) : Int) old) ∧ h.IsTupleIter it a i ∧ e ≠ it) where
  mem := by simp
  obj := fun i h st b hb => by
    obtain ⟨⟨old, he⟩, ⟨o, ho, hc, hd⟩, _⟩ := st
    have e' : b = e ∨ b = it := by simpa using hb
    rcases e' with z | z
    · rw [z]; exact ⟨_, he, fun v q => nomatch q⟩
    · rw [z]; exact ⟨o, ho, fun v q => by rw [hd] at q; cases q⟩
  keep := fun i h h' st k => let ⟨⟨old, he⟩, hi, hne⟩ := st; ⟨⟨old, k e (by simp) _ he⟩, hi.at fun o q => k it (by simp) o q, hne⟩
  item := by
    intro X hP hw hK hc i pins s σ H E I hf st hg
    subst hP hw hK
    obtain ⟨⟨old, he⟩, hit, hne⟩ := st
    obtain ⟨xs, x, hq, hx⟩ := hg
    obtain ⟨its, rv, p, hz⟩ := I.tuple hq
    obtain ⟨u, hu, ru⟩ := rv.get hx
    have hel : e < s.heap.objs.size := Heap.lt_size he
    have hil : it < s.heap.objs.size := by obtain ⟨_, q, _⟩ := hit; exact Heap.lt_size q
    have pt : s.heap.IsTuple a its.toArray := p
    have nai : a ≠ it := fun z => by
      obtain ⟨o1, q1, c1, _⟩ := pt
      obtain ⟨o2, q2, c2, _⟩ := hit
      rw [z, q2] at q1
      cases q1
      rw [c2] at c1
      injection c1 with c1
      exact absurd c1 (by decide)
    have nea : e ≠ a := fun z => by
      obtain ⟨o1, q1, c1, _⟩ := pt
      rw [← z, he] at q1
      cases q1
      injection c1 with c1
      exact absurd c1 (by decide)
    have hi2 : i < its.toArray.size := by
      have := (List.getElem?_eq_some_iff.mp hu).1
      simpa using this
    refine wpAny_pyNext_enum_itemD (draws (A := X.A.in1) (I.ok.hd hc) it a nai its.toArray) he ⟨hit, pt⟩ hi2 hne (by simp [hne, nea]) fun u' h' tk hu' ho hst' hT hsz hk => ?_
    have eu : u' = u := by
      have : its.toArray[i]? = some u := by simpa using hu
      rw [this] at hu'
      exact (Option.some.inj hu').symm
    subst eu
    refine ⟨_, rfl, wpAny_letOwnedTupleGo_enum (s := { s with heap := h', toks := tk + 1 }) ho fun h'' he' sb => ?_⟩
    have hT2 : h''.get? s.heap.objs.size = some { cls := .type "tuple", data := .seq #[.int i tk, u'] } := (sb.2 _ (Nat.ne_of_gt hel)).trans hT
    have new : ObjOk X.prog X.w (upd H s.heap.objs.size (.tup [.int (i : Nat), x])) h'' s.heap.objs.size (.tup [.int (i : Nat), x]) :=
      ⟨by show 2 ≤ sizeLine; decide, [.int i tk, u'], .cons ⟨_, rfl⟩ (.cons ru .nil), ⟨_, hT2, rfl, _, rfl⟩⟩
    have I1 : Inv X pins σ (upd H s.heap.objs.size (.tup [.int (i : Nat), x])) { s with heap := h'', toks := tk + 1 } :=
      I.turnedNew (ch := [e, it]) (fun b ob hb q => (sb.2 b (fun z => hb (by simp [z]))).trans (hk b ob (fun z => hb (by simp [z])) (fun z => hb (by simp [z])) q)) hf (Nat.le_refl _) new
    refine ⟨.ref s.heap.objs.size, _, I1, rfl, ⟨_, x, rfl, I.hok.fresh (Nat.le_refl _), rfl, fun ys hy => by rw [I.tuple_inj hy hq]; exact hx⟩, ⟨⟨u', ?_⟩, hst'.1.at fun o q => (sb.2 it (Ne.symm hne)).trans q, hne⟩, fun b hb => ?_⟩
    · have e1 : ((i + 1 : Nat) : Int) = (i : Int) + 1 := by omega
      rw [e1]; exact he'
    · have hb' : b < s.heap.objs.size := by
        have e' : b = e ∨ b = it := by simpa using hb
        rcases e' with z | z
        · rw [z]; exact hel
        · rw [z]; exact hil
      rw [upd_ne (Nat.ne_of_lt hb')]
      exact (hf b hb).1
  done := by
    intro X hP hw hK hc i pins s σ H E I hf st hg
    subst hP hw hK
    obtain ⟨⟨old, he⟩, hit, hne⟩ := st
    obtain ⟨xs, hq, hx⟩ := hg
    obtain ⟨its, rv, p, hz⟩ := I.tuple hq
    obtain ⟨f0, f1, f2, f3, f4, f5⟩ := hf it (by simp)
    have hl := rv.length
    have pt : s.heap.IsTuple a its.toArray := p
    have hT : s.TypeIs (.ref e) "enumerate" := ⟨_, he, rfl⟩
    unfold pyNext
    refine wpAny_bind (wpAny_attempt (wpAny_callSpecial?_slot (name := Str.ofString "__next__") hT F.slot_enumerate_next
      (wpAny_call_entry F.slot_enumerate_next hT F.entry_enumerate_next ?_ (F.args_enumerate_next_1 _))))
    show wpAny _ _ (field (.ref e) 2 >>= _) _ _ _
    refine wpAny_bind (wpAny_field he rfl (x := .ref it) rfl (wpAny_bind (wpAny_nextOf_tuple_end (I.ok.hd hc) hit pt (by simp; omega) fun h' x he' hx' => ?_)))
    obtain ⟨o, ho, hco⟩ := hx'
    refine wpAny_bind (wpAny_isInstance (T := "StopIteration") (b := true) ⟨o, ho, hco⟩ isSubtype_stop ?_)
    exact wpAny_pure ⟨rfl, I.turned (t' := s.toks) (fun b o hb q => he' b o hb q) f0 f1 f3 f4 f5⟩
  self := fun A i s Q E st h => let ⟨⟨_, he⟩, _⟩ := st; wpAny_pyIter_enum he h
def iEnumT (K : PySem.W.Frag) (ta : TA) : TI := fun σ H R => ta σ H fun vs H1 => ∃ a xs, vs = [.ref a] ∧ SqT K H1 a xs ∧ R (Itu K a) H1
theorem pi_enumT {X : Cx} {e : Expr} {ta : TA} {p pos tpos : Pos} {elts : List Expr} {kk : Nat} (hg : Gl X "enumerate") (hm : X.mg "enumerate" = none) (ha : PA X [e] ta) (hs : starEach [e] X.env = [(false, eval e X.env)] := by rfl) :
    PI X (.Tuple elts kk tpos) (.Call (.Name "enumerate" p) [e] [] pos) (iEnumT X.K ta) := by
  refine ⟨fun pins s σ H R I h => ?_⟩
  refine Call_ (ld_blt I hg hm boot_enumerate (PyProof.Rows.callWith_type1 (thn (ha.run pos pins s σ H _ I h) fun us s1 ⟨vs, H1, I1, r1, q1⟩ => ?_) hs rfl))
  obtain ⟨a, xs, ex, hq, q⟩ := q1
  subst ex
  cases r1 with
  | cons r rr =>
    cases rr
    cases r
    obtain ⟨its, rv, p', hz⟩ := I1.tuple hq
    refine call_tuple (show s1.heap.IsTuple a its.toArray from p') fun h' he hit hsz hk => wpAny_pyIter_enum he ?_
    have I2 : Inv X pins σ H1 { s1 with heap := h' } := I1.kept (t' := s1.toks) hk
    refine ⟨s1.heap.objs.size + 1, [s1.heap.objs.size + 1, s1.heap.objs.size], _, _, H1, rfl, I2, turn a (s1.heap.objs.size + 1) s1.heap.objs.size, ⟨⟨.none, he⟩, hit, Nat.succ_ne_self _⟩, fun b hb => ?_, q⟩
    have e' : b = s1.heap.objs.size + 1 ∨ b = s1.heap.objs.size := by simpa using hb
    have hle : s1.heap.objs.size ≤ b := by
      rcases e' with z | z
      · rw [z]; exact Nat.le_add_right _ _
      · rw [z]; exact Nat.le_refl _
    exact I1.fpOk hle (I1.hok.fresh hle)
theorem for_enumT {K : PySem.W.Frag} {a : Addr} {xs : List V} {g : TG} {tb : TS} {D : Ends} {σ : L2.St} {H : Hp} (Pv : Nat → L2.St → Hp → Prop) (h0 : Pv 0 σ H) (hq : ∀ i σ H, Pv i σ H → SqT K H a xs)
    (hs : ∀ (i : Nat) (x : V) (T : Addr) (σ : L2.St) (H : Hp), xs[i]? = some x → Pv i σ H → H T = none → g (.ref T) σ (upd H T (.tup [.int (i : Nat), x])) fun σ2 H2 => tb { D with nx := Pv (i + 1), ct := Pv (i + 1), bk := D.nx } σ2 H2) (hd : ∀ σ H, Pv xs.length σ H → D.nx σ H) :
    ∃ W : Nat → Nat → L2.St → Hp → Prop, (∃ m, W 0 m σ H) ∧ ∀ i m σ H, W i m σ H →
      ((Itu K a).stop i H ∧ D.nx σ H) ∨ ((Itu K a).go i H ∧ ∃ N : L2.St → Hp → Prop, (∀ σ' H', N σ' H' → ∃ m', m' < m ∧ W (i + 1) m' σ' H') ∧ ∀ v H', (Itu K a).yld i H v H' → g v σ H' fun σ2 H2 => tb { D with nx := N, ct := N, bk := D.nx } σ2 H2) := by
  refine ⟨fun i m σ H => m = xs.length - i ∧ i ≤ xs.length ∧ Pv i σ H, ⟨xs.length, rfl, Nat.zero_le _, h0⟩, ?_⟩
  rintro i m σ H ⟨rfl, hi, p⟩
  have qx := hq i σ H p
  by_cases hlt : i < xs.length
  · have hx : xs[i]? = some xs[i] := List.getElem?_eq_getElem hlt
    refine .inr ⟨⟨xs, _, qx, hx⟩, Pv (i + 1), fun σ' H' p' => ⟨xs.length - (i + 1), by omega, rfl, hlt, p'⟩, fun v H' y => ?_⟩
    obtain ⟨T, x', rfl, hT, rfl, f1⟩ := y
    exact hs i x' T σ H (f1 xs qx) p hT
  · have e : i = xs.length := by omega
    subst e
    exact .inl ⟨⟨xs, qx, Nat.le_refl _⟩, hd σ H p⟩
end En

set_option maxHeartbeats 2000000
/-! NoLiterals(at): made, raised, its at -/
namespace PySem
namespace NoLX
open PySem.W PySem.Calls PyProof.Rows PySem.HandSPX
/-! ### the text of __init__ -/
def iA (p1 p2 : Pos) : Arguments := { posonlyargs := [], args := [{ arg := "self", annotation := none, pos := p1 }, { arg := "at", annotation := none, pos := p2 }], vararg := none, kwonlyargs := [], kw_defaults := [], kwarg := none, defaults := [] }
def iB (q1 q2 q3 q4 : Pos) : List Stmt := [.Assign [.Attribute (.Name "self" q1) "at" q2] (.Name "at" q3) q4]
def iS : Scope := { kind := .function, names := [(PySem.Str.ofString "self", .local), (PySem.Str.ofString "at", .local)], isGenerator := false, isCoroutine := false, more := [] }
/-- what the written part says of Low, at C, and of its __init__, at fI -/
structure NoLTxt (K : Frag) (mg : Str → Option Value) (C fI : Addr) : Prop where
  gC : mg "NoLiterals" = some (.ref C)
  cls : ∃ nm q N bs bm sn sub ab col dd k0 k1 k2 k3 k5, K.lookup C = some (excClassObj nm q C N bs bm true sn sub ab col dd k0 k1 k2 k3 k5 "ValueError.__new__") ∧ refsVE bm = true
  sa : findIn K (.ref C) "__setattr__" = some (some (.builtin "object.__setattr__"))
  ga : findIn K (.ref C) "__getattribute__" = some (some (.builtin "BaseException.__getattribute__"))
  gg : findIn K (.ref C) "__getattr__" = some none
  noN : findIn K (.ref C) "at" = some none
  iC : findIn K (.ref C) "__init__" = some (some (.ref fI))
  tC : typeIn K (.ref fI) = some (.type "function")
  kC : keepIn K (.ref C) = true
  exC : subIn K (.ref C) (.type "BaseException") = some true
  tyC : typeIn K (.ref C) = some (.type "type")
  hdC : hasDictIn K C = true
  te : exmOne K (.ref C) (.ref C) = some true
  fn : ∃ (oc : Value) (od : Option Addr) (doc pm : Value) (an : Option Addr) (cdv ct : Value) (osl : Array (Option Value)) (p1 p2 q1 q2 q3 q4 : Pos),
    K.lookup fI = some ⟨oc, od, .func (fnOf "__init__" "NoLiterals.__init__" (iA p1 p2) (iB q1 q2 q3 q4) iS .none .none doc pm an cdv ct), osl⟩ ∧ codeIn K cdv "NoLiterals.__init__" = true
theorem one_size (v : Value) : [v].length ≤ sizeLine := by
  rw [sizeLine_eq]
  exact (by decide : 1 ≤ 16777216)
theorem kept_but {K : Frag} {h h' : Heap} {x : Addr} (X : K.In h) (hx : K.lookup x = none) (k : ∀ b o, b ≠ x → h.get? b = some o → h'.get? b = some o) : K.In h' := fun a o e =>
  k a o (fun z => by rw [z, hx] at e; cases e) (X a o e)
theorem ldC {M : Model} {s : Shared} {name : Str} {scope : Scope} {L a : Addr} {cd : Value} {m : Str → Option Value} {x : Str} {pos : Pos} {v : Value} {Q : Value → Shared → Prop} {A : Around} {E : Value → Shared → Prop} (hn : s.heap.Ns L m) (hv : m x = some v) (h : Q v s)
    (hk : scope.kind = .function := by rfl) (hl : (envOfC name scope L a cd).kindOf x = some .local := by rfl) (hd : (x == ("__debug__" : Str)) = false := by decide) :
    wpAny M A (eval (.Name x pos) (envOfC name scope L a cd)) Q E s := wpAny_Name (wpAny_loadName_local hk hl hn hv h) hd
/-- what __init__ leaves of a fresh exception at x -/
structure InitEnd (h h' : Heap) (x C dx t1 : Addr) (v : Value) : Prop where
  keep : ∀ b o, b ≠ x → h.get? b = some o → h'.get? b = some o
  obj : h'.get? x = some { cls := .ref C, dict := some dx, data := .fields #[.ref t1, .none, .none, .none, .bool false, .none] }
  dbig : h.objs.size ≤ dx
  dne : dx ≠ x
  ns : h'.Ns1 dx (fun y => if y = "at" then some v else none)
/-- a made Low -/
structure OwnMade (h h' : Heap) (e C d : Addr) (v : Value) : Prop where
  keep : ∀ b o, h.get? b = some o → h'.get? b = some o
  new : h.objs.size ≤ e
  obj : ∃ oe vs, h'.get? e = some oe ∧ oe.cls = .ref C ∧ oe.dict = some d ∧ oe.data = .fields vs ∧ vs[1]? = some .none
  dbig : h.objs.size ≤ d
  dne : d ≠ e
  ns : h'.Ns1 d (fun y => if y = "at" then some v else none)
section
variable {prog : Program} {w : World} {A : Around} {E : Value → Shared → Prop} {R : Result → Shared → Prop} {s : Shared} {K : Frag} {mg : Str → Option Value} {C fI : Addr}
theorem nol_init (T : NoLTxt K mg C fI) {x t0 : Addr} {v : Value} (X : K.In s.heap) (hlim : s.heap.NoLimit) (hx : s.heap.get? x = some (excO C t0)) (hnx : K.lookup x = none) (hroom : A.depth < recursionLimit)
    (hq : ∀ h' tk dx, InitEnd s.heap h' x C dx t0 v → R (.ok (.ret .none)) { s with heap := h', toks := tk }) :
    codeAny (model prog w) A (.call (.ref fI) ⟨[.ref x, v], []⟩) R s := by
  obtain ⟨oc, od, doc, pm, an, cdv, ct, osl, p1, p2, q1, q2, q3, q4, ho, hcd⟩ := T.fn
  obtain ⟨nm, q, N, bs, bm, sn, sub, ab, col, dd, k0, k1, k2, k3, k5, hC, hbm⟩ := T.cls
  have hcl : clsIn K C = some { name := nm, bases := bs, mro := .ref C :: bm, ns := N, qualname := q, hasDict := true, slotNames := sn, subclasses := sub, abstract := ab, collection := col, hasDel := false } := by unfold clsIn; rw [hC] <;> rfl
  refine Att.call_fn (binds := [("self", .ref x), ("at", v)]) X hlim ho hcd hroom (BindsTo.of_eq (by first | rfl | with_unfolding_all rfl)) (by first | rfl | decide | with_unfolding_all rfl) (fun s₁ IC => ?_) rfl rfl rfl
  obtain ⟨h₁, tk₁, rfl⟩ := IC.toInCall.same
  have k : ∀ b o, s.heap.get? b = some o → h₁.get? b = some o := IC.toInCall.keep
  have hn := IC.toInCall.ns
  have hxL : s.heap.objs.size ≠ x := Nat.ne_of_gt (Heap.lt_size hx)
  have X₁ : K.In h₁ := X.keeps k
  have hx₁ := k _ _ hx
  -- self.by = by
  show wpAny _ _ (execs _ _) _ _ _
  refine wpAny_execs_cons (plainObj_wpAny_Assign_Attribute ?_)
  refine ldC (v := v) hn (by first | rfl | with_unfolding_all rfl | kernel_rfl) (ldC (v := .ref x) hn (by first | rfl | with_unfolding_all rfl | kernel_rfl) ?_)
  refine set_plain X₁ (ox := excO C t0) (od := none) ⟨hx₁, rfl, rfl, trivial⟩ T.sa ?_
  refine exc_osa X₁ hx₁ hcl (show refsVE (.ref C :: bm) = true from hbm) rfl T.noN (fun h₃ tk₃ dx k₃ dn dne hx₃ hn₃ => ?_)
  show wpAny _ _ (execs _ _) _ _ _
  have z : s.heap.objs.size < h₁.objs.size := hn.lt
  exact wpAny_execs_nil (hq h₃ tk₃ dx ⟨fun b o hb e => k₃ b o hb (k b o e), hx₃, Nat.le_of_lt (Nat.lt_of_lt_of_le z dn), dne, hn₃⟩)
theorem nol_made (T : NoLTxt K mg C fI) {v : Value} (X : K.In s.heap) (hlim : s.heap.NoLimit) (hroom : A.depth + 1 < recursionLimit)
    (hq : ∀ h' tk e d, OwnMade s.heap h' e C d v → R (.ok (.ret (.ref e))) { s with heap := h', toks := tk }) :
    codeAny (model prog w) A (.call (.ref C) ⟨[v], []⟩) R s := by
  obtain ⟨nm, q, N, bs, bm, sn, sub, ab, col, dd, k0, k1, k2, k3, k5, hC, hbm⟩ := T.cls
  obtain ⟨hp, g, dr, tk, os⟩ := s
  have k : ∀ b o, hp.get? b = some o → ((hp.push (kdv_tup [v])).push (excO C hp.objs.size)).get? b = some o := fun b o e => Heap.get?_push_of_some _ (Heap.get?_push_of_some _ e)
  have hget : ((hp.push (kdv_tup [v])).push (excO C hp.objs.size)).get? (hp.objs.size + 1) = some (excO C hp.objs.size) := by heap_get
  have hnx : K.lookup (hp.objs.size + 1) = none := by
    cases e : K.lookup (hp.objs.size + 1) with
    | none => rfl
    | some o =>
      have z : hp.get? (hp.objs.size + 1) = some o := X _ _ e
      exact absurd (Nat.lt_of_succ_lt (Heap.lt_size z)) (Nat.lt_irrefl _)
  refine call_own F.excBase_ValueError (fun X => refsVE_contains X bm hbm) (X _ _ hC) (looks_findIn X T.iC) (fun self => bind_fn X self T.tC) (one_size v) ?_
  refine nol_init (s := ⟨(hp.push (kdv_tup [v])).push (excO C hp.objs.size), g, dr, tk, os⟩) T (X.keeps k) (hlim.keeps k) hget hnx ?_ fun h' tk' dx ⟨k', hx, dn, dne, hns⟩ => ?_
  · show A.depth + 1 < recursionLimit
    exact hroom
  · have old : ∀ b o, hp.get? b = some o → h'.get? b = some o := fun b o e => k' b o (Nat.ne_of_lt (Nat.lt_succ_of_lt (Heap.lt_size e))) (k b o e)
    have z : hp.objs.size + 1 + 1 ≤ dx := by
      first
        | (simpa only [Heap.size_push] using dn)
        | exact dn
        | (have q := dn; rw [Heap.size_push, Heap.size_push] at q; exact q)
    exact ⟨rfl, hq h' tk' (hp.objs.size + 1) dx ⟨old, Nat.le_succ _, ⟨_, _, hx, rfl, rfl, rfl, rfl⟩, Nat.le_trans (Nat.le_trans (Nat.le_succ _) (Nat.le_succ _)) z, dne, hns⟩⟩
end
end NoLX
end PySem
namespace L2
open PySem PySem.Spec PyProof.Rows
theorem relO_nol {v : V} {v' : Value} (r : RelV v v') (f : Str) : RelO (List.lookup f [(("at" : Str), v)]) (if f = "at" then some v' else none) := by
  by_cases hw : f = "at"
  · subst hw
    rw [if_pos rfl]
    have q : List.lookup ("at" : Str) [(("at" : Str), v)] = some v := by simp [List.lookup]
    rw [q]
    exact r
  · rw [if_neg hw]
    have qw : (f == ("at" : Str)) = false := by simpa using hw
    have q2 : List.lookup f [(("at" : Str), v)] = none := by simp [List.lookup, qw]
    rw [q2]
    trivial
section
variable {X : Cx} {C fI : Addr}
/-- Low(e) -/
def tMkNol (C : Addr) (ta : TA) : St → Hp → XK → Prop := fun σ H Q => ta σ H fun vs H1 => ∃ v, vs = [v] ∧ ∀ d, H1 d = none → Q (.ref C) (some d) (upd H1 d (.xd [(("at" : Str), v)]))
theorem pmk_nol {a : Expr} {ta : TA} {p pos : Pos} {k : Nat} (T : PySem.NoLX.NoLTxt X.K X.mg C fI) (hr : Room k X.A) (ha : PA X [a] ta) (hg : Gl X "NoLiterals" := by rfl)
    (he : starEach (a :: []) X.env = (false, eval a X.env) :: starEach [] X.env := by rfl) (hpl : (backTo pos (starEach [] X.env)).any (·.1) = false := by rfl) :
    PMk X (.Call (.Name "NoLiterals" p) [a] [] pos) (tMkNol C ta) := by
  intro pins s σ H Q I h
  refine wpAny_Call_Name_kw (ld_glob I hg T.gC ?_)
  refine PySem.W.callWith_K (h₀ := X.base) I.ok.mod.kin T.kC (thn (ha.run pos pins s σ H _ I h) fun us s1 hh => ?_) he hpl
  obtain ⟨vs, H1, I1, r1, v, ev, q1⟩ := hh
  subst ev
  refine ⟨I1.kIn, ?_⟩
  cases r1 with
  | cons rv rn =>
    rename_i v' us'
    cases rn
    show wpAny _ _ (call (.ref C) [v']) _ _ _
    have hlim := I1.nolimit
    obtain ⟨hp, g, dr, tk, os⟩ := s1
    refine wpAny_call (PySem.NoLX.nol_made T I1.kIn hlim (by have := hr.dp; omega) fun h' tk' e d M => ?_)
    show MkP X pins σ Q (.ref e) ⟨h', g, dr, tk', os⟩
    obtain ⟨oe, fv, hoe, hc, hd, hdat, h1⟩ := M.obj
    have hns := M.ns
    obtain ⟨G', g1, g2⟩ := restrict h' fun b => decide (b ≠ e)
    have gk : ∀ b, b ≠ e → G'.get? b = h'.get? b := fun b hb => g1 b (decide_eq_true hb)
    have ge : G'.get? e = none := g2 e (by simp)
    have old : ∀ b o, hp.get? b = some o → G'.get? b = some o := fun b o q => (gk b (Nat.ne_of_lt (Nat.lt_of_lt_of_le (Heap.lt_size q) M.new))).trans (M.keep b o q)
    have ob : ObjOk X.prog X.w (upd H1 d (.xd [(("at" : Str), v)])) G' d (.xd [(("at" : Str), v)]) :=
      ⟨_, hns.at (fun o q => (gk d M.dne).trans q), fun f => relO_nol rv f⟩
    have J : Inv X pins σ (upd H1 d (.xd [(("at" : Str), v)])) ⟨G', g, dr, tk', os⟩ := I1.laid (t' := tk') old M.dbig ob
    refine ⟨e, oe, fv, ⟨G', g, dr, tk', os⟩, _, .ref C, some d, rfl, J, fun b o q => ?_, ge, hoe, ⟨hc, hd⟩, hdat, h1, ?_, rfl, I1.bare, raises_own T.exC T.tyC, q1 d (I1.hok.fresh M.dbig)⟩
    · by_cases hb : b = e
      · have q' : G'.get? b = some o := q
        rw [hb, ge] at q'; cases q'
      · exact (gk b hb).symm.trans q
    · rw [upd_ne (Ne.symm M.dne)]
      exact I1.hok.fresh M.new
/-- raise Low(e) -/
def tRaiseNol (C : Addr) (W : WX) (ta : TA) : TS := fun _ σ H => tMkNol C ta σ H fun cls d H' => W cls d σ H'
theorem ps_raiseNol {a : Expr} {ta : TA} {W : WX} {p pos pos2 : Pos} {k : Nat} (hc : X.calm = true) (T : PySem.NoLX.NoLTxt X.K X.mg C fI) (hr : Room k X.A) (tk : Takes X W) (ha : PA X [a] ta) (hg : Gl X "NoLiterals" := by rfl)
    (he : starEach (a :: []) X.env = (false, eval a X.env) :: starEach [] X.env := by rfl) (hpl : (backTo pos (starEach [] X.env)).any (·.1) = false := by rfl) :
    PS X (.Raise (some (.Call (.Name "NoLiterals" p) [a] [] pos)) none pos2) (tRaiseNol C W ta) := ps_raise hc tk (pmk_nol T hr ha hg he hpl)
/-- low.by, low the exception that the suite holds (at a; its class cls, its dict d) -/
def tAtNol (C : Addr) (a : Addr) (cls : Value) (d : Option Addr) (te : TE) : TE := fun σ H Q => te σ H fun x H1 => x = .ref a ∧ cls = .ref C ∧ ∃ (dd : Addr) (v : V), d = some dd ∧ H1 dd = some (.xd [(("at" : Str), v)]) ∧ Q v H1
theorem pe_atNol {a : Addr} {oe : Obj} {cls : Value} {d : Option Addr} {pn : List (Addr × Obj)} {e : Expr} {te : TE} {pos : Pos} (T : PySem.NoLX.NoLTxt X.K X.mg C fI) (hz : Zc cls d oe) (hf : ∃ vs, oe.data = .fields vs) (he : PE (X.suite a ((a, oe) :: pn)) e te)
    (hb : attributeBase e "at" X.env (eval e X.env) = eval e X.env := by rfl) :
    PE (X.suite a ((a, oe) :: pn)) (.Attribute e "at" pos) (tAtNol C a cls d te) := by
  refine ⟨fun pins s σ H Q I h => ?_⟩
  refine attr_of hb (thn (he.run pins s σ H _ I h) fun u s1 hh => ?_)
  obtain ⟨x, H1, I1, rx, ex, ec, dd, v, ed, ea, q⟩ := hh
  subst ex
  obtain rfl : u = Value.ref a := rx
  subst ec
  subst ed
  obtain ⟨ha, _⟩ := I1.pin (a, oe) (List.mem_append_left _ List.mem_cons_self)
  obtain ⟨vs, hd⟩ := hf
  have hx : ObjOk X.prog X.w H1 s1.heap dd (.xd [(("at" : Str), v)]) := I1.hok dd _ ea
  obtain ⟨mA, hns, hr⟩ := hx
  obtain ⟨od, ho, hl⟩ := lookIn_ns hns
  have l : List.lookup ("at" : Str) [(("at" : Str), v)] = some v := by simp [List.lookup]
  obtain ⟨u, hu, ru⟩ := RelO.some_of (v := v) (o := mA "at") (by rw [← l]; exact hr "at")
  have J : PySem.W.InstAt s1.heap a oe C (some od) := ⟨ha, hz.1, by unfold PySem.W.notCls; rw [hd] <;> rfl, by rw [hz.2]; exact ho⟩
  exact HandSPX.exc_get I1.kIn J T.ga T.gg T.exC (PySem.W.findObj_own T.hdC T.noN rfl (by rw [hl, hu])) (handed_of ru) ⟨v, H1, I1.tok _, ru, q⟩
end
end L2

namespace L2
open PySem PySem.Spec PyProof.Rows
/-- an if whose test is known -/
theorem if_true_of {c : Bool} {A B : Prop} (hc : c = true) (h : A) : if c = true then A else B := by
  rw [if_pos hc]
  exact h
theorem if_false_of {c : Bool} {A B : Prop} (hc : c = false) (h : B) : if c = true then A else B := by
  rw [hc, if_neg Bool.false_ne_true]
  exact h
end L2

namespace K3
open PySem L2 Bx
def top (i : Nat) : Stmt := PySem.Challenge.pw_behindexits_k03_no_literals.main.body.getD i (.Pass ⟨0, 0, 0, 0⟩)
abbrev s_NoLiterals_init : Stmt := inClass (top 2) 0
abbrev N_NoLiterals_init : List Str := ["self", "at"]
theorem sc_NoLiterals_init : FnScope N_NoLiterals_init ["self", "at"] (C8.fnScope s_NoLiterals_init) := ⟨rfl, rfl, rfl, by decide +kernel, rfl, by decide +kernel, by decide +kernel⟩
abbrev s_BadStates_init : Stmt := inClass (top 3) 0
abbrev N_BadStates_init : List Str := ["self", "why"]
theorem sc_BadStates_init : FnScope N_BadStates_init ["self", "why"] (C8.fnScope s_BadStates_init) := ⟨rfl, rfl, rfl, by decide +kernel, rfl, by decide +kernel, by decide +kernel⟩
abbrev s_NoName_init : Stmt := inClass (top 4) 0
abbrev N_NoName_init : List Str := ["self", "term"]
theorem sc_NoName_init : FnScope N_NoName_init ["self", "term"] (C8.fnScope s_NoName_init) := ⟨rfl, rfl, rfl, by decide +kernel, rfl, by decide +kernel, by decide +kernel⟩
abbrev s_NoWay_init : Stmt := inClass (top 5) 0
abbrev N_NoWay_init : List Str := ["self", "way"]
theorem sc_NoWay_init : FnScope N_NoWay_init ["self", "way"] (C8.fnScope s_NoWay_init) := ⟨rfl, rfl, rfl, by decide +kernel, rfl, by decide +kernel, by decide +kernel⟩
abbrev s_is_number : Stmt := top 7
abbrev N_is_number : List Str := ["thing"]
theorem sc_is_number : FnScope N_is_number ["thing"] (C8.fnScope s_is_number) := ⟨rfl, rfl, rfl, by decide +kernel, rfl, by decide +kernel, by decide +kernel⟩
abbrev s_is_literal : Stmt := top 8
abbrev N_is_literal : List Str := ["thing", "left", "right", "number"]
theorem sc_is_literal : FnScope N_is_literal ["thing"] (C8.fnScope s_is_literal) := ⟨rfl, rfl, rfl, by decide +kernel, rfl, by decide +kernel, by decide +kernel⟩
abbrev s_check_literals : Stmt := top 11
abbrev N_check_literals : List Str := ["literals", "at", "literal"]
theorem sc_check_literals : FnScope N_check_literals ["literals"] (C8.fnScope s_check_literals) := ⟨rfl, rfl, rfl, by decide +kernel, rfl, by decide +kernel, by decide +kernel⟩
abbrev s_solved : Stmt := top 12
abbrev N_solved : List Str := ["literals", "heights", "lowered_by", "_", "lowered", "zero", "left", "right", "number", "term"]
theorem sc_solved : FnScope N_solved ["literals"] (C8.fnScope s_solved) := ⟨rfl, rfl, rfl, by decide +kernel, rfl, by decide +kernel, by decide +kernel⟩
abbrev s_lower_once : Stmt := top 13
abbrev N_lower_once : List Str := ["literals", "heights", "lowered_by", "lowered", "at", "left", "right", "number"]
theorem sc_lower_once : FnScope N_lower_once ["literals", "heights", "lowered_by"] (C8.fnScope s_lower_once) := ⟨rfl, rfl, rfl, by decide +kernel, rfl, by decide +kernel, by decide +kernel⟩
abbrev s_ring_behind : Stmt := top 14
abbrev N_ring_behind : List Str := ["literals", "lowered_by", "term", "_", "ring", "following"]
theorem sc_ring_behind : FnScope N_ring_behind ["literals", "lowered_by", "term"] (C8.fnScope s_ring_behind) := ⟨rfl, rfl, rfl, by decide +kernel, rfl, by decide +kernel, by decide +kernel⟩
abbrev s_is_ring : Stmt := top 15
abbrev N_is_ring : List Str := ["literals", "indices", "index"]
theorem sc_is_ring : FnScope N_is_ring ["literals", "indices"] (C8.fnScope s_is_ring) := ⟨rfl, rfl, rfl, by decide +kernel, rfl, by decide +kernel, by decide +kernel⟩
abbrev s_are_indices : Stmt := top 16
abbrev N_are_indices : List Str := ["indices", "many", "index"]
theorem sc_are_indices : FnScope N_are_indices ["indices", "many"] (C8.fnScope s_are_indices) := ⟨rfl, rfl, rfl, by decide +kernel, rfl, by decide +kernel, by decide +kernel⟩
abbrev s_goes_round : Stmt := top 17
abbrev N_goes_round : List Str := ["literals", "total", "last", "left", "right", "number"]
theorem sc_goes_round : FnScope N_goes_round ["literals"] (C8.fnScope s_goes_round) := ⟨rfl, rfl, rfl, by decide +kernel, rfl, by decide +kernel, by decide +kernel⟩
abbrev s_l_well : Stmt := top 19
abbrev N_l_well : List Str := ["_law_cell"]
theorem sc_l_well : FnScope N_l_well ["_law_cell"] (C8.fnScope s_l_well) := ⟨rfl, rfl, rfl, by decide +kernel, rfl, by decide +kernel, by decide +kernel⟩
abbrev s_l_draw : Stmt := top 20
abbrev N_l_draw : List Str := ["_law_well_here", "_law_base", "_law_digit", "_law_number"]
theorem sc_l_draw : FnScope N_l_draw ["_law_well_here", "_law_base"] (C8.fnScope s_l_draw) := ⟨rfl, rfl, rfl, by decide +kernel, rfl, by decide +kernel, by decide +kernel⟩
abbrev s_l_one : Stmt := top 21
abbrev N_l_one : List Str := ["_law_well_here", "_law_some"]
theorem sc_l_one : FnScope N_l_one ["_law_well_here", "_law_some"] (C8.fnScope s_l_one) := ⟨rfl, rfl, rfl, by decide +kernel, rfl, by decide +kernel, by decide +kernel⟩
abbrev s_l_refusal : Stmt := top 22
abbrev N_l_refusal : List Str := ["_law_ask", "e"]
theorem sc_l_refusal : FnScope N_l_refusal ["_law_ask"] (C8.fnScope s_l_refusal) := ⟨rfl, rfl, rfl, by decide +kernel, rfl, by decide +kernel, by decide +kernel⟩
abbrev s_law : Stmt := top 23
abbrev N_law : List Str := ["_law_script", "_law_cell", "_law_well_here", "_law_bad", "_law_many", "_law_items", "_law_due", "_law_k", "_law_wrong", "_law_passed"]
theorem sc_law : FnScope N_law ["_law_script"] (C8.fnScope s_law) := ⟨rfl, rfl, rfl, by decide +kernel, rfl, by decide +kernel, by decide +kernel⟩
structure Txt (K : PySem.W.Frag) (mg : Str → Option Value) (C fI : Addr) : Prop where
  c_MOST_LITERALS : ∃ u, mg "MOST_LITERALS" = some u ∧ RelV (.int 300) u
  nol : PySem.NoLX.NoLTxt K mg C fI
  z_isinstance : mg "isinstance" = none
  z_len : mg "len" = none
  z_int : mg "int" = none
  z_bool : mg "bool" = none
  z_tuple : mg "tuple" = none
  z_list : mg "list" = none
  z_str : mg "str" = none
  z_set : mg "set" = none
  z_range : mg "range" = none
  z_enumerate : mg "enumerate" = none
end K3

namespace K3
open PySem L2 Bx
section
variable {P : Program} {w : World} {K : PySem.W.Frag} {mg : Str → Option Value} {base : Heap} {C fI : Addr}
/-- is it a whole number: any value whose class is known -/
def spNum (K : PySem.W.Frag) : Sp := fun vs H Q _ => ∃ (v : V) (t : Value) (a c : Bool), vs = [v] ∧ TyX K H v t ∧ PySem.W.kitOne K t (.type "int") = some a ∧ PySem.W.kitOne K t (.type "bool") = some c ∧ Q (.bl (a && !c)) H
theorem ok_is_number {f : Addr} {fd : FuncData} (F : C8.Def K mg "is_number" s_is_number f fd) (b : Binds K fd ["thing"] []) (T : Txt K mg C fI) : C8.Cal P w K mg base 1 "is_number" (spNum K) [] := by
  refine C8.cal0 F b .nil sc_is_number (fun vs H Q E h => ?_) (fun cdv A outer s H vs Q E hr h => ?_)
  · obtain ⟨v, t, a, c, rfl, _⟩ := h
    rfl
  · obtain ⟨v, t, a, c, rfl, ty, ka, kc, k⟩ := h
    refine ⟨_, (pss_one (ps_ret (pe_and (pe_callB call_isi (by rfl) T.z_isinstance (by decide +kernel) (pa_cons (pv 0) (pa_cons (pe_bltn (v := .ty "int") (by rfl) T.z_int (by decide +kernel) rfl) pa_nil))) (pe_one (pe_not (pe_callB call_isi (by rfl) T.z_isinstance (by decide +kernel) (pa_cons (pv 0) (pa_cons (pe_bltn (v := .ty "bool") (by rfl) T.z_bool (by decide +kernel) rfl) pa_nil)))))))), ?_⟩
    refine ⟨_, rfl, _, _, _, _, _, rfl, .ty _, ty, ka, _, rfl, ?_⟩
    cases a with
    | false => exact iteF k
    | true => exact iteT ⟨_, rfl, _, _, _, _, _, rfl, .ty _, ty, kc, _, rfl, k⟩
/-- what is known of a thing: whether it is a text, whether it is an integer -/
def Kn (K : PySem.W.Frag) (H : Hp) (y : V) (a n : Bool) : Prop := ∃ (t : Value) (b c : Bool), TyX K H y t ∧ PySem.W.kitOne K t (.type "str") = some a ∧ PySem.W.kitOne K t (.type "int") = some b ∧ PySem.W.kitOne K t (.type "bool") = some c ∧ n = (b && !c) ∧ (a = true → ∃ s, y = .str s) ∧ (n = true → ∃ i, y = .int i)
theorem Kn.str (K : PySem.W.Frag) (H : Hp) (s : Str) : Kn K H (.str s) true false := ⟨_, false, false, .base (.str s), rfl, rfl, rfl, rfl, fun _ => ⟨s, rfl⟩, fun h => (by cases h)⟩
theorem Kn.int (K : PySem.W.Frag) (H : Hp) (n : Int) : Kn K H (.int n) false true := ⟨_, true, false, .base (.int n), rfl, rfl, rfl, rfl, fun h => (by cases h), fun _ => ⟨n, rfl⟩⟩
theorem Kn.bl (K : PySem.W.Frag) (H : Hp) (n : Bool) : Kn K H (.bl n) false false := ⟨_, true, true, .base (.bl n), rfl, rfl, rfl, rfl, fun h => (by cases h), fun h => (by cases h)⟩
theorem Kn.non (K : PySem.W.Frag) (H : Hp) : Kn K H .non false false := ⟨_, false, false, .base .non, rfl, rfl, rfl, rfl, fun h => (by cases h), fun h => (by cases h)⟩
theorem Kn.tup {K : PySem.W.Frag} {H : Hp} {p : Addr} {ys : List V} (h : SqT K H p ys) : Kn K H (.ref p) false false := ⟨_, false, false, tyT h, rfl, rfl, rfl, rfl, fun h => (by cases h), fun h => (by cases h)⟩
theorem Kn.same {K : PySem.W.Frag} {H H' : Hp} {y : V} {a n : Bool} (S : Same H H') (h : Kn K H y a n) : Kn K H' y a n := by
  obtain ⟨t, b, c, ty, r⟩ := h
  exact ⟨t, b, c, Same.ty S ty, r⟩
/-- whether a thing is a literal -/
def ItK (K : PySem.W.Frag) (H : Hp) (v : V) (g : Bool) : Prop :=
  (∃ t, TyX K H v t ∧ PySem.W.kitOne K t (.type "tuple") = some false ∧ g = false) ∨ (∃ p ys, v = .ref p ∧ SqT K H p ys ∧ ys.length ≠ 3 ∧ g = false) ∨
  ∃ p x y z a1 n1 a2 n2 a3 n3, v = .ref p ∧ SqT K H p [x, y, z] ∧ Kn K H x a1 n1 ∧ Kn K H y a2 n2 ∧ Kn K H z a3 n3 ∧ g = (a1 && (a2 && n3))
theorem ItK.same {K : PySem.W.Frag} {H H' : Hp} {v : V} {g : Bool} (S : Same H H') (h : ItK K H v g) : ItK K H' v g := by
  rcases h with ⟨t, ty, r⟩ | ⟨p, ys, e, hp, r⟩ | ⟨p, x, y, z, a1, n1, a2, n2, a3, n3, e, hp, k1, k2, k3, r⟩
  · exact .inl ⟨t, Same.ty S ty, r⟩
  · exact .inr (.inl ⟨p, ys, e, Same.seqT S hp, r⟩)
  · exact .inr (.inr ⟨p, x, y, z, a1, n1, a2, n2, a3, n3, e, Same.seqT S hp, k1.same S, k2.same S, k3.same S, r⟩)
def spLit (K : PySem.W.Frag) : Sp := fun vs H Q _ => ∃ (v : V) (g : Bool), vs = [v] ∧ ItK K H v g ∧ Q (.bl g) H
theorem ok_is_literal {f : Addr} {fd : FuncData} (F : C8.Def K mg "is_literal" s_is_literal f fd) (b : Binds K fd ["thing"] []) (T : Txt K mg C fI) (K_is_number : C8.Cal P w K mg base 1 "is_number" (spNum K) []) : C8.Cal P w K mg base 2 "is_literal" (spLit K) [] := by
  refine C8.cal0 F b .nil sc_is_literal (fun vs H Q E h => ?_) (fun cdv A outer s H vs Q E hr h => ?_)
  · obtain ⟨v, g, rfl, _⟩ := h
    rfl
  · obtain ⟨v, g, rfl, hi, k⟩ := h
    refine ⟨_, (pss_cons (ps_if (PW.pt (pw_or (pt_not (pt_val (pe_callB call_isi (by rfl) T.z_isinstance (by decide +kernel) (pa_cons (pv 0) (pa_cons (pe_bltn (v := .ty "tuple") (by rfl) T.z_tuple (by decide +kernel) rfl) pa_nil))))) (pw_or1 (pt_cmpR op_ne (pe_callB call_len_seq (by rfl) T.z_len (by decide +kernel) (pa_cons (pv 0) pa_nil)) pe_int (nomark _))))) (pss_one (ps_ret pe_bl)) pss_nil)
    (pss_cons (ps_asg (pv 0) (pg_tup (by rfl) (pgs_cons (pg_name (i := 1) sc_is_literal.nd rfl (Or.inl rfl)) (pgs_cons (pg_name (i := 2) sc_is_literal.nd rfl (Or.inl rfl)) (pgs_cons (pg_name (i := 3) sc_is_literal.nd rfl (Or.inl rfl)) pgs_nil)))))
    (pss_one (ps_ret (pe_and (pe_callB call_isi (by rfl) T.z_isinstance (by decide +kernel) (pa_cons (pv 1) (pa_cons (pe_bltn (v := .ty "str") (by rfl) T.z_str (by decide +kernel) rfl) pa_nil))) (pe_and (pe_callB call_isi (by rfl) T.z_isinstance (by decide +kernel) (pa_cons (pv 2) (pa_cons (pe_bltn (v := .ty "str") (by rfl) T.z_str (by decide +kernel) rfl) pa_nil))) (pe_one (C8.pe_c K_is_number hr (by decide) (by rfl) (pa_cons (pv 3) pa_nil))))))))), ?_⟩
    rcases hi with ⟨t, ty, kt, rfl⟩ | ⟨p, ys, rfl, hp, hl, rfl⟩ | ⟨p, x, y, z, a1, n1, a2, n2, a3, n3, rfl, hp, ⟨t1, b1, c1, ty1, k1, _⟩, ⟨t2, b2, c2, ty2, k2, _⟩, ⟨t3, b3, c3, ty3, _, k3, k4, rfl, _, _⟩, rfl⟩
    · refine ⟨_, rfl, _, _, t, _, false, rfl, .ty _, ty, kt, _, rfl, ?_⟩
      exact iteT (iteT k)
    · refine ⟨_, rfl, _, _, _, _, true, rfl, .ty _, tyT hp, rfl, _, rfl, ?_⟩
      refine iteF ?_
      refine ⟨_, rfl, p, _, rfl, .inr hp, rfl, _, rfl, ?_⟩
      have e : (!decide (V.int (ys.length : Nat) = V.int 3)) = true := by
        rw [decide_eq_false fun h => hl (by injection h with h; omega)]
        rfl
      rw [e]
      exact iteT k
    · refine ⟨_, rfl, _, _, _, _, true, rfl, .ty _, tyT hp, rfl, _, rfl, ?_⟩
      refine iteF ?_
      refine ⟨_, rfl, p, _, rfl, .inr hp, rfl, _, rfl, ?_⟩
      refine iteF ?_
      refine ⟨_, rfl, p, _, rfl, hp, rfl, _, _, rfl, _, _, rfl, _, _, rfl, rfl, ?_⟩
      refine ⟨_, rfl, _, _, _, _, a1, rfl, .ty _, ty1, k1, _, rfl, ?_⟩
      cases a1 with
      | false => exact iteF k
      | true =>
        refine iteT ⟨_, rfl, _, _, _, _, a2, rfl, .ty _, ty2, k2, _, rfl, ?_⟩
        cases a2 with
        | false => exact iteF k
        | true => exact iteT ⟨_, rfl, _, _, b3, c3, rfl, ty3, k3, k4, k⟩
end
end K3

namespace K3
open PySem L2 Bx
section
variable {P : Program} {w : World} {K : PySem.W.Frag} {mg : Str → Option Value} {base : Heap} {C fI : Addr}
/-- a def that may raise -/
theorem fnX {x qual : Str} {st : Stmt} {f : Addr} {fd : FuncData} {N ps : List Str} {k : Nat} {sp : Sp} (F : C8.Fun K x qual st f fd) (S : FnScope N ps (C8.fnScope st)) (len : ∀ vs H Q E, sp vs H Q E → vs.length = ps.length)
    (hbody : ∀ (cdv : Value) (A : Around) (outer : List Env) (s : Shared) (H : Hp) (vs : List V) (Q : VK) (E : XK), Room k (A.deeper (PyProof.Rows.envOfC qual (C8.fnScope st) s.heap.objs.size f cdv)) → sp vs H Q E →
      ∃ t, PSs (cxOf (L2.CX P w) P w K mg base N qual (C8.fnScope st) f cdv A outer s H E) (C8.fnBody st) t ∧ t { nx := fun _ H' => Q .non H', rt := Q } (L2.start N vs) H) : FnOk P w K mg base (L2.CX P w) (k + 1) f fd ps sp := by
  obtain ⟨oc, od, dV, kV, doc, pm, an, cdv, ct, osl, rfl, lk, hcd⟩ := F.ex
  exact fn_of lk hcd S len fun A outer s H vs Q E hr hsp => hbody cdv A outer s H vs Q E hr hsp
/-- a def that may raise, called by its name -/
structure CalX (P : Program) (w : World) (K : PySem.W.Frag) (mg : Str → Option Value) (base : Heap) (k : Nat) (x : Str) (f : Addr) (fd : FuncData) (ps : List Str) (sp : Sp) : Prop where
  ok : FnOk P w K mg base (L2.CX P w) k f fd ps sp
  mgf : mg x = some (.ref f)
  kp : PySem.W.keepIn K (.ref f) = true
  b : Binds K fd ps []
/-- NoLiterals(n) goes out -/
def Out (C : Addr) (E : XK) (H : Hp) (n : Int) : Prop := ∀ (d : Addr) (H' : Hp), Same H H' → H d = none → H' d = some (.xd [(("at" : Str), V.int n)]) → E (.ref C) (some d) H'
theorem Out.go {C : Addr} {E : XK} {H H' : Hp} {n : Int} (o : Out C E H n) (S : Same H H') {d : Addr} (hd : H' d = none) : E (.ref C) (some d) (upd H' d (.xd [(("at" : Str), V.int n)])) := by
  refine o d _ (Same.mut S ?_) ?_ upd_same
  · cases q : H d with
    | none => rfl
    | some u =>
      rw [S d u q] at hd
      cases hd
  · cases q : H d with
    | none => rfl
    | some u =>
      rw [S d u q] at hd
      cases hd
/-- what check_literals, solved, is_ring do with a thing that may be no list of literals: gs tells which items are literals -/
def Chk (K : PySem.W.Frag) (C : Addr) (v : V) (H : Hp) (E : XK) (Good : Prop) : Prop :=
  (∃ t, TyX K H v t ∧ PySem.W.kitAny K t [.type "list", .type "tuple"] = some false ∧ Out C E H (-1)) ∨
  (∃ p xs, v = .ref p ∧ SqL K H p xs ∧ ((300 < xs.length ∧ Out C E H (-1)) ∨ (xs.length ≤ 300 ∧ ∃ gs : List Bool, gs.length = xs.length ∧ (∀ (i : Nat) x g, xs[i]? = some x → gs[i]? = some g → ItK K H x g) ∧ ((∀ g ∈ gs, g = true) → Good) ∧ ∀ i : Nat, gs[i]? = some false → (∀ j, j < i → gs[j]? = some true) → Out C E H (i : Int)))) ∨
  (∃ p xs, v = .ref p ∧ SqT K H p xs ∧ ((300 < xs.length ∧ Out C E H (-1)) ∨ (xs.length ≤ 300 ∧ ∃ gs : List Bool, gs.length = xs.length ∧ (∀ (i : Nat) x g, xs[i]? = some x → gs[i]? = some g → ItK K H x g) ∧ ((∀ g ∈ gs, g = true) → Good) ∧ ∀ i : Nat, gs[i]? = some false → (∀ j, j < i → gs[j]? = some true) → Out C E H (i : Int))))
def spChk (K : PySem.W.Frag) (C : Addr) : Sp := fun vs H Q E => ∃ v, vs = [v] ∧ Chk K C v H E (∀ H', Same H H' → Q .non H')
theorem ok_check_literals {f : Addr} {fd : FuncData} (F : C8.Fun K "check_literals" "check_literals" s_check_literals f fd) (T : Txt K mg C fI) (K_is_literal : C8.Cal P w K mg base 2 "is_literal" (spLit K) []) : FnOk P w K mg base (L2.CX P w) 3 f fd ["literals"] (spChk K C) := by
  refine fnX F sc_check_literals (fun vs H Q E h => ?_) (fun cdv A outer s H vs Q E hr h => ?_)
  · obtain ⟨v, rfl, _⟩ := h
    rfl
  · obtain ⟨v, rfl, ⟨t, ty, kt, o⟩ | ⟨p, xs, rfl, hp, h⟩ | ⟨p, xs, rfl, hp, h⟩⟩ := h
    · refine ⟨_, (pss_cons (ps_if (PW.pt (pw_or (pt_not (pt_val (pe_callB call_isiT (by rfl) T.z_isinstance (by decide +kernel) (pa_cons (pv 0) (pa_cons (pe_tup (pa_cons (pe_bltn (v := .ty "list") (by rfl) T.z_list (by decide +kernel) rfl) (pa_cons (pe_bltn (v := .ty "tuple") (by rfl) T.z_tuple (by decide +kernel) rfl) pa_nil))) pa_nil))))) (pw_or1 (pt_cmpR op_gt (pe_callB call_len_seq (by rfl) T.z_len (by decide +kernel) (pa_cons (pv 0) pa_nil)) (C8.pe_gc (by rfl) T.c_MOST_LITERALS) (nomark _))))) (pss_one (ps_raiseNol rfl T.nol hr (takes_of rfl rfl rfl rfl) (pa_cons (pe_un un_neg pe_int) pa_nil))) pss_nil)
    (pss_one (ps_for (passes_of rfl) rfl (pi_enum (by rfl) T.z_enumerate (pa_cons (pv 0) pa_nil)) (pg_tup (by rfl) (pgs_cons (pg_name (i := 1) sc_check_literals.nd rfl (Or.inl rfl)) (pgs_cons (pg_name (i := 2) sc_check_literals.nd rfl (Or.inl rfl)) pgs_nil)))
    (pss_one (ps_if (pt_not (pt_val (C8.pe_c K_is_literal hr (by decide) (by rfl) (pa_cons (pv 2) pa_nil)))) (pss_one (ps_raiseNol rfl T.nol hr (takes_of rfl rfl rfl rfl) (pa_cons (pv 1) pa_nil))) pss_nil))))), ?_⟩
      refine ⟨_, rfl, (by show 2 ≤ sizeLine; decide), fun p1 n1 => ?_⟩
      have s1 : Same H (upd H p1 (.tup [.ty "list", .ty "tuple"])) := Same.new n1
      refine ⟨_, p1, _, t, _, false, rfl, upd_same, .cons (.ty _) (.cons (.ty _) .nil), Same.ty s1 ty, kt, _, rfl, ?_⟩
      refine iteT (iteT ?_)
      exact ⟨_, rfl, _, rfl, fun d hd => o.go s1 hd⟩
    · refine ⟨_, (pss_cons (ps_if (PW.pt (pw_or (pt_not (pt_val (pe_callB call_isiT (by rfl) T.z_isinstance (by decide +kernel) (pa_cons (pv 0) (pa_cons (pe_tup (pa_cons (pe_bltn (v := .ty "list") (by rfl) T.z_list (by decide +kernel) rfl) (pa_cons (pe_bltn (v := .ty "tuple") (by rfl) T.z_tuple (by decide +kernel) rfl) pa_nil))) pa_nil))))) (pw_or1 (pt_cmpR op_gt (pe_callB call_len_seq (by rfl) T.z_len (by decide +kernel) (pa_cons (pv 0) pa_nil)) (C8.pe_gc (by rfl) T.c_MOST_LITERALS) (nomark _))))) (pss_one (ps_raiseNol rfl T.nol hr (takes_of rfl rfl rfl rfl) (pa_cons (pe_un un_neg pe_int) pa_nil))) pss_nil)
    (pss_one (ps_for (passes_of rfl) rfl (pi_enum (by rfl) T.z_enumerate (pa_cons (pv 0) pa_nil)) (pg_tup (by rfl) (pgs_cons (pg_name (i := 1) sc_check_literals.nd rfl (Or.inl rfl)) (pgs_cons (pg_name (i := 2) sc_check_literals.nd rfl (Or.inl rfl)) pgs_nil)))
    (pss_one (ps_if (pt_not (pt_val (C8.pe_c K_is_literal hr (by decide) (by rfl) (pa_cons (pv 2) pa_nil)))) (pss_one (ps_raiseNol rfl T.nol hr (takes_of rfl rfl rfl rfl) (pa_cons (pv 1) pa_nil))) pss_nil))))), ?_⟩
      refine ⟨_, rfl, (by show 2 ≤ sizeLine; decide), fun p1 n1 => ?_⟩
      have s1 : Same H (upd H p1 (.tup [.ty "list", .ty "tuple"])) := Same.new n1
      have hp1 := Same.seq s1 hp
      refine ⟨_, p1, _, _, _, true, rfl, upd_same, .cons (.ty _) (.cons (.ty _) .nil), tyL hp1, rfl, _, rfl, ?_⟩
      refine iteF ?_
      refine ⟨_, rfl, p, _, rfl, .inl hp1, _, _, rfl, rfl, _, rfl, ?_⟩
      rcases h with ⟨hl, o⟩ | ⟨hl, gs, hgl, hit, hgood, hbad⟩
      · have e300 : decide ((300 : Int) < (xs.length : Nat)) = true := decide_eq_true (by omega)
        rw [e300]
        refine iteT ?_
        exact ⟨_, rfl, _, rfl, fun d hd => o.go s1 hd⟩
      · have e300 : decide ((300 : Int) < (xs.length : Nat)) = false := decide_eq_false (by omega)
        rw [e300]
        refine iteF ?_
        refine ⟨_, rfl, p, _, rfl, hp1, for_enumL (xs := xs) (fun i σ H' => (∃ v1 v2, σ = [some (.ref p), v1, v2]) ∧ Same H H' ∧ ∀ j, j < i → gs[j]? = some true) ⟨⟨none, none, rfl⟩, s1, fun j hj => absurd hj (Nat.not_lt_zero j)⟩ (fun i σ H' h => Same.seq h.2.1 hp) ?_ ?_⟩
        · rintro i x q σ H' hx ⟨⟨v1, v2, rfl⟩, e, hall⟩ hq
          have hi : i < gs.length := by
            rw [hgl]
            exact (List.getElem?_eq_some_iff.mp hx).1
          have hg := List.getElem?_eq_getElem hi
          have e2 : Same H (upd H' q (.tup [.int (i : Nat), x])) := e.trans (Same.new hq)
          refine ⟨q, _, rfl, .inl (.inl upd_same), rfl, _, _, rfl, _, _, rfl, rfl, ?_⟩
          refine ⟨_, rfl, _, _, rfl, (hit i x _ hx hg).same e2, _, rfl, ?_⟩
          generalize gs[i] = g at *
          cases g with
          | true =>
            refine iteF ⟨⟨_, _, rfl⟩, e2, fun j hj => ?_⟩
            by_cases ej : j = i
            · rw [ej]
              exact hg
            · exact hall j (by omega)
          | false =>
            refine iteT ?_
            exact ⟨_, rfl, _, rfl, fun d hd => (hbad i hg hall).go e2 hd⟩
        · rintro σ H' ⟨⟨v1, v2, rfl⟩, e, hall⟩
          refine hgood (fun g hg => ?_) H' e
          obtain ⟨j, hj, ej⟩ := List.mem_iff_getElem.mp hg
          have := hall j (by rw [← hgl]; exact hj)
          rw [List.getElem?_eq_getElem hj, ej] at this
          exact Option.some.inj this
    · refine ⟨_, (pss_cons (ps_if (PW.pt (pw_or (pt_not (pt_val (pe_callB call_isiT (by rfl) T.z_isinstance (by decide +kernel) (pa_cons (pv 0) (pa_cons (pe_tup (pa_cons (pe_bltn (v := .ty "list") (by rfl) T.z_list (by decide +kernel) rfl) (pa_cons (pe_bltn (v := .ty "tuple") (by rfl) T.z_tuple (by decide +kernel) rfl) pa_nil))) pa_nil))))) (pw_or1 (pt_cmpR op_gt (pe_callB call_len_seq (by rfl) T.z_len (by decide +kernel) (pa_cons (pv 0) pa_nil)) (C8.pe_gc (by rfl) T.c_MOST_LITERALS) (nomark _))))) (pss_one (ps_raiseNol rfl T.nol hr (takes_of rfl rfl rfl rfl) (pa_cons (pe_un un_neg pe_int) pa_nil))) pss_nil)
    (pss_one (ps_for (passes_of rfl) rfl (En.pi_enumT (by rfl) T.z_enumerate (pa_cons (pv 0) pa_nil)) (pg_tup (by rfl) (pgs_cons (pg_name (i := 1) sc_check_literals.nd rfl (Or.inl rfl)) (pgs_cons (pg_name (i := 2) sc_check_literals.nd rfl (Or.inl rfl)) pgs_nil)))
    (pss_one (ps_if (pt_not (pt_val (C8.pe_c K_is_literal hr (by decide) (by rfl) (pa_cons (pv 2) pa_nil)))) (pss_one (ps_raiseNol rfl T.nol hr (takes_of rfl rfl rfl rfl) (pa_cons (pv 1) pa_nil))) pss_nil))))), ?_⟩
      refine ⟨_, rfl, (by show 2 ≤ sizeLine; decide), fun p1 n1 => ?_⟩
      have s1 : Same H (upd H p1 (.tup [.ty "list", .ty "tuple"])) := Same.new n1
      have hp1 := Same.seqT s1 hp
      refine ⟨_, p1, _, _, _, true, rfl, upd_same, .cons (.ty _) (.cons (.ty _) .nil), tyT hp1, rfl, _, rfl, ?_⟩
      refine iteF ?_
      refine ⟨_, rfl, p, _, rfl, .inr hp1, _, _, rfl, rfl, _, rfl, ?_⟩
      rcases h with ⟨hl, o⟩ | ⟨hl, gs, hgl, hit, hgood, hbad⟩
      · have e300 : decide ((300 : Int) < (xs.length : Nat)) = true := decide_eq_true (by omega)
        rw [e300]
        refine iteT ?_
        exact ⟨_, rfl, _, rfl, fun d hd => o.go s1 hd⟩
      · have e300 : decide ((300 : Int) < (xs.length : Nat)) = false := decide_eq_false (by omega)
        rw [e300]
        refine iteF ?_
        refine ⟨_, rfl, p, _, rfl, hp1, En.for_enumT (xs := xs) (fun i σ H' => (∃ v1 v2, σ = [some (.ref p), v1, v2]) ∧ Same H H' ∧ ∀ j, j < i → gs[j]? = some true) ⟨⟨none, none, rfl⟩, s1, fun j hj => absurd hj (Nat.not_lt_zero j)⟩ (fun i σ H' h => Same.seqT h.2.1 hp) ?_ ?_⟩
        · rintro i x q σ H' hx ⟨⟨v1, v2, rfl⟩, e, hall⟩ hq
          have hi : i < gs.length := by
            rw [hgl]
            exact (List.getElem?_eq_some_iff.mp hx).1
          have hg := List.getElem?_eq_getElem hi
          have e2 : Same H (upd H' q (.tup [.int (i : Nat), x])) := e.trans (Same.new hq)
          refine ⟨q, _, rfl, .inl (.inl upd_same), rfl, _, _, rfl, _, _, rfl, rfl, ?_⟩
          refine ⟨_, rfl, _, _, rfl, (hit i x _ hx hg).same e2, _, rfl, ?_⟩
          generalize gs[i] = g at *
          cases g with
          | true =>
            refine iteF ⟨⟨_, _, rfl⟩, e2, fun j hj => ?_⟩
            by_cases ej : j = i
            · rw [ej]
              exact hg
            · exact hall j (by omega)
          | false =>
            refine iteT ?_
            exact ⟨_, rfl, _, rfl, fun d hd => (hbad i hg hall).go e2 hd⟩
        · rintro σ H' ⟨⟨v1, v2, rfl⟩, e, hall⟩
          refine hgood (fun g hg => ?_) H' e
          obtain ⟨j, hj, ej⟩ := List.mem_iff_getElem.mp hg
          have := hall j (by rw [← hgl]; exact hj)
          rw [List.getElem?_eq_getElem hj, ej] at this
          exact Option.some.inj this
end
end K3

namespace K3
open PySem L2 Bx
theorem lg {n : Nat} (h : n < 2 ^ 64) : n.log2 < 9000 := Nat.lt_trans (PySem.Flt.log2_lt_of (by decide) h) (by decide)
def WellAt (H : Hp) (l : Addr) : Prop := ∃ x y z : Int, H l = some (.lst [.int x, .int y, .int z])
section
variable {P : Program} {w : World} {K : PySem.W.Frag} {mg : Str → Option Value} {base : Heap} {C fI : Addr}
def spWell : Sp := fun vs H Q _ => ∃ (c : Int), vs = [.int c] ∧ ∀ p H', H p = none → Same H H' → WellAt H' p → Q (.ref p) H'
theorem ok_l_well {f : Addr} {fd : FuncData} (F : C8.Def K mg "_law_well" s_l_well f fd) (b : Binds K fd ["_law_cell"] []) (T : Txt K mg C fI) : C8.Cal P w K mg base 1 "_law_well" spWell [] := by
  refine C8.cal0 F b .nil sc_l_well (fun vs H Q E h => ?_) (fun cdv A outer s H vs Q E hr h => ?_)
  · obtain ⟨c, rfl, _⟩ := h
    rfl
  · obtain ⟨c, rfl, k⟩ := h
    refine ⟨_, (pss_one (ps_ret (pe_lst (pa_cons (pe_op op_mul (pv 0) (pe_callTy call_int1 (by rfl) T.z_int (by decide +kernel) (pa_cons (pe_cmpR op_ge (pv 0) (pe_op op_pow pe_int pe_int) (nomark _)) pa_nil))) (pa_cons (pe_op op_mod (pe_callTy call_int1 (by rfl) T.z_int (by decide +kernel) (pa_cons (pv 0) pa_nil)) pe_int) (pa_cons pe_int pa_nil)))))), ?_⟩
    refine ⟨_, rfl, _, rfl, _, _, rfl, rfl, ⟨by decide, by decide, by decide⟩, _, _, rfl, rfl, .inr ⟨_, rfl, _, _, rfl, rfl, .inr ⟨by split <;> decide, by split <;> decide⟩, _, rfl, .inl ⟨_, rfl, _, _, rfl, rfl, (by show (0 : Int) < 2147483587; decide), (by show 3 ≤ sizeLine; decide), fun p hp => ?_⟩⟩⟩
    exact k p _ hp (Same.new hp) ⟨_, _, _, upd_same⟩
def spDraw : Sp := fun vs H Q _ => ∃ (l : Addr) (b : Int), vs = [.ref l, .int b] ∧ WellAt H l ∧ 0 < b ∧ b.natAbs.log2 < 9000 ∧ ∀ (r : Int) (H' : Hp), 0 ≤ r → r < b → WellAt H' l → But l H H' → Q (.int r) H'
theorem ok_l_draw {f : Addr} {fd : FuncData} (F : C8.Def K mg "_law_draw" s_l_draw f fd) (b : Binds K fd ["_law_well_here", "_law_base"] []) (T : Txt K mg C fI) : C8.Cal P w K mg base 1 "_law_draw" spDraw [] := by
  refine C8.cal0 F b .nil sc_l_draw (fun vs H Q E h => ?_) (fun cdv A outer s H vs Q E hr h => ?_)
  · obtain ⟨l, b, rfl, _⟩ := h
    rfl
  · obtain ⟨l, b, rfl, ⟨x, y, z, hW⟩, hb, hlg, k⟩ := h
    refine ⟨_, (pss_cons (ps_if (pt_cmpR op_gt (pe_ix ix_list (pv 0) pe_int (fun _ _ => rfl)) pe_int (nomark _)) (pss_cons (ps_set (i := 2) sc_l_draw.nd rfl (Or.inl rfl) (pe_op op_mod (pe_callTy call_int1 (by rfl) T.z_int (by decide +kernel) (pa_cons (pe_ix ix_list (pv 0) pe_int (fun _ _ => rfl)) pa_nil)) (pv 1)))
    (pss_cons (ps_asg (pe_op op_fdivW (pe_ix ix_list (pv 0) pe_int (fun _ _ => rfl)) (pv 1)) (pg_sub (pv 0) pe_int set_list))
    (pss_one (ps_ret (pv 2))))) pss_nil)
    (pss_cons (ps_asg (pe_op op_add (pe_ix ix_list (pv 0) pe_int (fun _ _ => rfl)) pe_int) (pg_sub (pv 0) pe_int set_list))
    (pss_cons (ps_set (i := 3) sc_l_draw.nd rfl (Or.inl rfl) (pe_op op_mod (pe_callTy call_int1 (by rfl) T.z_int (by decide +kernel) (pa_cons (pe_op op_mul (pe_callTy call_int1 (by rfl) T.z_int (by decide +kernel) (pa_cons (pe_op op_add (pe_op op_add (pe_ix ix_list (pv 0) pe_int (fun _ _ => rfl)) (pe_op op_mul pe_int (pe_ix ix_list (pv 0) pe_int (fun _ _ => rfl)))) pe_int) pa_nil)) pe_int) pa_nil)) pe_int))
    (pss_cons (ps_set (i := 3) sc_l_draw.nd rfl (Or.inl rfl) (pe_op op_mod (pe_callTy call_int1 (by rfl) T.z_int (by decide +kernel) (pa_cons (pe_op op_mul (pv 3) (pe_op op_add (pe_op op_fdiv (pv 3) pe_int) pe_int)) pa_nil)) pe_int))
    (pss_one (ps_ret (pe_op op_mod (pe_op op_fdiv (pe_op op_mod (pe_callTy call_int1 (by rfl) T.z_int (by decide +kernel) (pa_cons (pe_op op_mul (pv 3) (pe_op op_add (pe_op op_fdiv (pv 3) pe_int) pe_int)) pa_nil)) pe_int) pe_int) (pv 1)))))))), ?_⟩
    refine ⟨_, rfl, l, _, _, _, rfl, rfl, SqL.of hW, rfl, _, _, rfl, rfl, _, rfl, ?_⟩
    refine ite2 (fun hx => ?_) (fun hx => ?_)
    · refine ⟨_, rfl, l, _, _, _, rfl, rfl, SqL.of hW, rfl, .inl ⟨_, rfl, _, rfl, _, _, rfl, rfl, hb, ?_⟩⟩
      refine ⟨_, rfl, l, _, _, _, rfl, rfl, SqL.of hW, rfl, _, rfl, _, _, rfl, rfl, ⟨hb, hlg⟩, _, rfl, l, _, _, _, rfl, rfl, hW, rfl, ?_⟩
      refine ⟨_, rfl, ?_⟩
      exact k _ _ (Int.emod_nonneg _ (by omega)) (Int.emod_lt_of_pos _ hb) ⟨_, _, _, upd_same⟩ But.upd
    · refine ⟨_, rfl, l, _, _, _, rfl, rfl, SqL.of hW, rfl, _, _, rfl, rfl, _, rfl, l, _, _, _, rfl, rfl, hW, rfl, ?_⟩
      refine ⟨_, rfl, l, _, _, _, rfl, rfl, SqL.of upd_same, rfl, _, rfl, l, _, _, _, rfl, rfl, SqL.of upd_same, rfl, _, _, rfl, rfl, .inl ⟨by decide, by decide⟩, _, _, rfl, rfl, _, _, rfl, rfl, .inl ⟨_, rfl, _, _, rfl, rfl, .inr ⟨by decide, by decide⟩, .inl ⟨_, rfl, _, _, rfl, rfl, (by show (0 : Int) < 2147483647; decide), ?_⟩⟩⟩
      generalize hn : ((y + 6131 * (z + 1) + 17) * 48271) % 2147483647 = n
      have n0 : 0 ≤ n := by omega
      have n1 : n < 2147483647 := by omega
      refine ⟨_, rfl, _, rfl, _, _, rfl, rfl, ⟨by decide, by decide⟩, _, _, rfl, rfl, _, _, rfl, rfl, .inl ⟨by omega, by omega⟩, .inl ⟨_, rfl, _, _, rfl, rfl, (by show (0 : Int) < 2147483647; decide), ?_⟩⟩
      generalize hm : (n * (n / 1013 + 69621)) % 2147483647 = m
      have m0 : 0 ≤ m := by rw [← hm]; exact Int.emod_nonneg _ (by decide)
      have m1 : m < 2147483647 := by rw [← hm]; exact Int.emod_lt_of_pos _ (by decide)
      refine ⟨_, rfl, _, rfl, _, _, rfl, rfl, ⟨by decide, by decide⟩, _, _, rfl, rfl, _, _, rfl, rfl, .inl ⟨by omega, by omega⟩, .inl ⟨_, rfl, _, _, rfl, rfl, (by show (0 : Int) < 2147483399; decide), _, _, rfl, rfl, ⟨by decide, by decide⟩, _, rfl, _, _, rfl, rfl, hb, ?_⟩⟩
      exact k _ _ (Int.emod_nonneg _ (by omega)) (Int.emod_lt_of_pos _ hb) ⟨_, _, _, upd_same⟩ But.upd
def spOne (K : PySem.W.Frag) : Sp := fun vs H Q _ => ∃ (l p : Addr) (xs : List V), vs = [.ref l, .ref p] ∧ WellAt H l ∧ p ≠ l ∧ SqL K H p xs ∧ 0 < xs.length ∧ xs.length < 100000 ∧ ∀ (v : V) (H' : Hp), v ∈ xs → WellAt H' l → But l H H' → Q v H'
theorem ok_l_one {f : Addr} {fd : FuncData} (F : C8.Def K mg "_law_one" s_l_one f fd) (b : Binds K fd ["_law_well_here", "_law_some"] []) (T : Txt K mg C fI) (K_l_draw : C8.Cal P w K mg base 1 "_law_draw" spDraw []) : C8.Cal P w K mg base 2 "_law_one" (spOne K) [] := by
  refine C8.cal0 F b .nil sc_l_one (fun vs H Q E h => ?_) (fun cdv A outer s H vs Q E hr h => ?_)
  · obtain ⟨l, p, xs, rfl, _⟩ := h
    rfl
  · obtain ⟨l, p, xs, rfl, hW, hpl, hp, h0, h1, k⟩ := h
    refine ⟨_, (pss_one (ps_ret (pe_ix ix_list (pv 1) (C8.pe_c K_l_draw hr (by decide) (by rfl) (pa_cons (pv 0) (pa_cons (pe_callB call_len_seq (by rfl) T.z_len (by decide +kernel) (pa_cons (pv 1) pa_nil)) pa_nil))) (fun _ _ => rfl)))), ?_⟩
    refine ⟨_, rfl, _, rfl, _, rfl, p, _, rfl, .inl hp, l, _, rfl, hW, by omega, lg (by omega), fun r H' r0 r1 W' B' => ?_⟩
    obtain ⟨j, rfl⟩ : ∃ j : Nat, r = (j : Int) := ⟨r.toNat, by omega⟩
    have hj : j < xs.length := by omega
    refine ⟨p, _, _, _, rfl, rfl, B'.seq hpl hp, atI_nat (List.getElem?_eq_getElem hj), ?_⟩
    exact k _ _ (List.getElem_mem hj) W' B'
end
end K3

namespace K3
open PySem L2 Bx
section
variable {P : Program} {w : World} {K : PySem.W.Frag} {mg : Str → Option Value} {base : Heap} {C fI : Addr}
/-- literals at ts -/
def LitsAt (K : PySem.W.Frag) (H : Hp) (ts : List Addr) (lits : List (Str × Str × Int)) : Prop :=
  ts.length = lits.length ∧ ∀ (j : Nat) (q : Str × Str × Int), lits[j]? = some q → ∃ t, ts[j]? = some t ∧ SqT K H t [.str q.1, .str q.2.1, .int q.2.2]
theorem LitsAt.mono {H H' : Hp} {ts : List Addr} {lits : List (Str × Str × Int)} (e : Same H H') (h : LitsAt K H ts lits) : LitsAt K H' ts lits :=
  ⟨h.1, fun j q hj => (h.2 j q hj).imp fun t z => ⟨z.1, Same.seqT e z.2⟩⟩
/-- all but two dicts -/
def But2 (x y : Addr) (H H' : Hp) : Prop := ∀ b o, H b = some o → b ≠ x → b ≠ y → H' b = some o
theorem But2.refl (x y : Addr) (H : Hp) : But2 x y H H := fun _ _ h _ _ => h
theorem But2.trans {x y : Addr} {H H1 H2 : Hp} (a : But2 x y H H1) (b : But2 x y H1 H2) : But2 x y H H2 := fun c o h n m => b c o (a c o h n m) n m
theorem But2.of {x y : Addr} {H H' : Hp} (a : Same H H') : But2 x y H H' := fun c o h _ _ => a c o h
theorem But2.seq {x y : Addr} {H H' : Hp} {k1 k2 : List (Key × V)} {a : Addr} {xs : List V} (hx : H x = some (.dK k1)) (hy : H y = some (.dK k2)) (e : But2 x y H H') (h : SqL K H a xs) : SqL K H' a xs := by
  rcases h with (h | ⟨o, h⟩) | h
  · exact .inl (.inl (e _ _ h (ne_of h hx (by intro q; cases q)) (ne_of h hy (by intro q; cases q))))
  · exact .inl (.inr ⟨o, e _ _ h (ne_of h hx (by intro q; cases q)) (ne_of h hy (by intro q; cases q))⟩)
  · exact .inr h
theorem But2.seqT {x y : Addr} {H H' : Hp} {k1 k2 : List (Key × V)} {a : Addr} {xs : List V} (hx : H x = some (.dK k1)) (hy : H y = some (.dK k2)) (e : But2 x y H H') (h : SqT K H a xs) : SqT K H' a xs := by
  rcases h with (h | ⟨o, h⟩) | h
  · exact .inl (.inl (e _ _ h (ne_of h hx (by intro q; cases q)) (ne_of h hy (by intro q; cases q))))
  · exact .inl (.inr ⟨o, e _ _ h (ne_of h hx (by intro q; cases q)) (ne_of h hy (by intro q; cases q))⟩)
  · exact .inr h
theorem LitsAt.but2 {x y : Addr} {H H' : Hp} {k1 k2 : List (Key × V)} {ts : List Addr} {lits : List (Str × Str × Int)} (hx : H x = some (.dK k1)) (hy : H y = some (.dK k2)) (e : But2 x y H H') (h : LitsAt K H ts lits) : LitsAt K H' ts lits :=
  ⟨h.1, fun j q hj => (h.2 j q hj).imp fun t z => ⟨z.1, But2.seqT hx hy e z.2⟩⟩
theorem dget_hk {H : Hp} {a : Addr} {ks : List Str} {h : Str → Int} {t : Str} (e : H a = some (.dK (hk ks h))) (m : t ∈ ks) : DGet H a (.str t) (some (.int (h t))) := by
  have := DGet.k (k := (Sum.inr t : Key)) e
  rw [hk_get m] at this
  exact this
theorem dget_bk {H : Hp} {a : Addr} {bs : List Str} {b : Str → Option Nat} {t : Str} {i : Nat} (e : H a = some (.dK (bk bs b))) (ok : ByOk bs b) (hb : b t = some i) : DGet H a (.str t) (some (.int (i : Nat))) := by
  have := DGet.k (k := (Sum.inr t : Key)) e
  rw [bk_get ((ok.2 t).mpr (by rw [hb]; exact fun q => by cases q)) hb] at this
  exact this
def lowV : Option Str → V
  | none => .non
  | some t => .str t
/-- what lower_once, ring_behind are handed -/
structure At (K : PySem.W.Frag) (H : Hp) (p hd bd : Addr) (ts : List Addr) (lits : List (Str × Str × Int)) (ks bs : List Str) (s : Bf.Sta Str) : Prop where
  hp : SqL K H p (ts.map V.ref)
  hL : LitsAt K H ts lits
  l300 : lits.length ≤ 300
  hh : H hd = some (.dK (hk ks s.h))
  hb : H bd = some (.dK (bk bs s.by_))
  ne : hd ≠ bd
  ends : ∀ q ∈ lits, q.1 ∈ ks ∧ q.2.1 ∈ ks
  ok : ByOk bs s.by_
  k1000 : ks.length ≤ 1000
  good : Bf.Good lits s
theorem At.b1000 {H : Hp} {p hd bd : Addr} {ts : List Addr} {lits : List (Str × Str × Int)} {ks bs : List Str} {s : Bf.Sta Str} (A : At K H p hd bd ts lits ks bs s) : bs.length ≤ 1000 := by
  refine Nat.le_trans (Bf.len_le A.ok.1 fun t ht => ?_) A.k1000
  obtain ⟨i, hi⟩ := Option.ne_none_iff_exists'.mp ((A.ok.2 t).mp ht)
  obtain ⟨r, n, hL, _⟩ := A.good.own t i hi
  exact (A.ends _ (List.mem_of_getElem? hL)).1
/-- what lower_once, ring_behind are handed -/
structure AtT (K : PySem.W.Frag) (H : Hp) (p hd bd : Addr) (ts : List Addr) (lits : List (Str × Str × Int)) (ks bs : List Str) (s : Bf.Sta Str) : Prop where
  hp : SqT K H p (ts.map V.ref)
  hL : LitsAt K H ts lits
  l300 : lits.length ≤ 300
  hh : H hd = some (.dK (hk ks s.h))
  hb : H bd = some (.dK (bk bs s.by_))
  ne : hd ≠ bd
  ends : ∀ q ∈ lits, q.1 ∈ ks ∧ q.2.1 ∈ ks
  ok : ByOk bs s.by_
  k1000 : ks.length ≤ 1000
  good : Bf.Good lits s
theorem AtT.b1000 {H : Hp} {p hd bd : Addr} {ts : List Addr} {lits : List (Str × Str × Int)} {ks bs : List Str} {s : Bf.Sta Str} (A : AtT K H p hd bd ts lits ks bs s) : bs.length ≤ 1000 := by
  refine Nat.le_trans (Bf.len_le A.ok.1 fun t ht => ?_) A.k1000
  obtain ⟨i, hi⟩ := Option.ne_none_iff_exists'.mp ((A.ok.2 t).mp ht)
  obtain ⟨r, n, hL, _⟩ := A.good.own t i hi
  exact (A.ends _ (List.mem_of_getElem? hL)).1
theorem szs {n : Nat} (h : n ≤ 1000) : n < sizeLine := Nat.lt_of_le_of_lt h (by decide)
theorem hk_len {ks : List Str} {h : Str → Int} : (hk ks h).length = ks.length := List.length_map ..
theorem bk_len {ks : List Str} {h : Str → Option Nat} : (bk ks h).length = ks.length := List.length_map ..
def spLower (K : PySem.W.Frag) : Sp := fun vs H Q _ => ∃ (p hd bd : Addr) (ts : List Addr) (lits : List (Str × Str × Int)) (ks bs : List Str) (s : Bf.Sta Str), vs = [.ref p, .ref hd, .ref bd] ∧ At K H p hd bd ts lits ks bs s ∧
  ∀ (bs' : List Str) (H' : Hp), But2 hd bd H H' → At K H' p hd bd ts lits ks bs' (Bf.pass lits s) → Q (lowV (Bf.pass lits s).low) H'
theorem ok_lower_once {f : Addr} {fd : FuncData} (F : C8.Def K mg "lower_once" s_lower_once f fd) (b : Binds K fd ["literals", "heights", "lowered_by"] []) (T : Txt K mg C fI) : C8.Cal P w K mg base 1 "lower_once" (spLower K) [] := by
  refine C8.cal0 F b .nil sc_lower_once (fun vs H Q E h => ?_) (fun cdv A outer s H vs Q E hr h => ?_)
  · obtain ⟨p, hd, bd, ts, lits, ks, bs, s, rfl, _⟩ := h
    rfl
  · obtain ⟨p, hd, bd, ts, lits, ks, bs, s0, rfl, W, k⟩ := h
    have hu := hu_of hr
    refine ⟨_, (pss_cons (ps_set (i := 3) sc_lower_once.nd rfl (Or.inl rfl) pe_non)
    (pss_cons (ps_for PassesOwn.never rfl (pi_enum (by rfl) T.z_enumerate (pa_cons (pv 0) pa_nil)) (pg_tup (by rfl) (pgs_cons (pg_name (i := 4) sc_lower_once.nd rfl (Or.inl rfl)) (pgs_cons (pg_tup (by rfl) (pgs_cons (pg_name (i := 5) sc_lower_once.nd rfl (Or.inl rfl)) (pgs_cons (pg_name (i := 6) sc_lower_once.nd rfl (Or.inl rfl)) (pgs_cons (pg_name (i := 7) sc_lower_once.nd rfl (Or.inl rfl)) pgs_nil)))) pgs_nil)))
    (pss_one (ps_if (pt_cmpR op_gt (pe_dget hu (pv 1) (pv 5) (fun _ _ => rfl)) (pe_op op_add (pe_dget hu (pv 1) (pv 6) (fun _ _ => rfl)) (pv 7)) (nomark _)) (pss_cons (ps_dput hu (pv 1) (pv 5) (pe_op op_add (pe_dget hu (pv 1) (pv 6) (fun _ _ => rfl)) (pv 7)) rfl)
    (pss_cons (ps_dput hu (pv 2) (pv 5) (pv 4) rfl)
    (pss_one (ps_set (i := 3) sc_lower_once.nd rfl (Or.inl rfl) (pv 5))))) pss_nil)))
    (pss_one (ps_ret (pv 3))))), ?_⟩
    refine ⟨_, rfl, p, _, rfl, W.hp, for_enumL (xs := ts.map V.ref) (fun i σ H' => ∃ (v4 v5 v6 v7 : Option V) (bs' : List Str), σ = [some (.ref p), some (.ref hd), some (.ref bd), some (lowV (Bf.some_ lits { s0 with low := none } i).low), v4, v5, v6, v7] ∧
        But2 hd bd H H' ∧ At K H' p hd bd ts lits ks bs' (Bf.some_ lits { s0 with low := none } i)) ⟨none, none, none, none, bs, rfl, But2.refl _ _ _, ⟨W.hp, W.hL, W.l300, W.hh, W.hb, W.ne, W.ends, W.ok, W.k1000, Bf.good_low W.good none⟩⟩ (fun i σ H' h => ?_) ?_ ?_⟩
    · obtain ⟨_, _, _, _, _, _, _, A'⟩ := h
      exact A'.hp
    · rintro i x q σ H1 hx ⟨v4, v5, v6, v7, bs1, rfl, B1, A1⟩ hq
      rw [List.getElem?_map] at hx
      obtain ⟨t, ht, rfl⟩ := Option.map_eq_some_iff.mp hx
      have hil : i < lits.length := by
        rw [← A1.hL.1]
        exact (List.getElem?_eq_some_iff.mp ht).1
      have hlq := List.getElem?_eq_getElem hil
      obtain ⟨t', ht', hs⟩ := A1.hL.2 i _ hlq
      have et : t' = t := Option.some.inj (ht'.symm.trans ht)
      subst et
      have em := A1.ends _ (List.mem_of_getElem? hlq)
      have estep : Bf.some_ lits { s0 with low := none } (i + 1) = Bf.one (Bf.some_ lits { s0 with low := none } i) i lits[i] := Bf.some_succ hlq
      have egood : Bf.Good lits (Bf.some_ lits { s0 with low := none } (i + 1)) := Bf.some_good (Bf.good_low W.good none) _
      rw [estep] at egood
      rw [estep]
      generalize lits[i] = ql at *
      obtain ⟨lf, rg, n⟩ := ql
      generalize Bf.some_ lits { s0 with low := none } i = s1 at *
      have S2 : Same H1 (upd H1 q (.tup [.int (i : Nat), .ref t'])) := Same.new hq
      have hh2 := S2 _ _ A1.hh
      have hb2 := S2 _ _ A1.hb
      have hs2 := Same.seqT S2 hs
      have hp2 := Same.seq S2 A1.hp
      have hL2 := A1.hL.mono S2
      have hqt : (upd H1 q (.tup [.int (i : Nat), .ref t'])) q = some (.tup [.int (i : Nat), .ref t']) := upd_same
      have B2 : But2 hd bd H (upd H1 q (.tup [.int (i : Nat), .ref t'])) := B1.trans (But2.of S2)
      generalize upd H1 q (.tup [.int (i : Nat), .ref t']) = H2 at *
      refine ⟨q, _, rfl, SqT.of hqt, rfl, _, _, rfl, _, _, rfl, t', _, rfl, hs2, rfl, _, _, rfl, _, _, rfl, _, _, rfl, rfl, rfl, ?_⟩
      refine ⟨_, rfl, _, rfl, hd, _, rfl, dget_hk hh2 em.1, _, rfl, _, rfl, hd, _, rfl, dget_hk hh2 em.2, _, rfl, _, _, rfl, rfl, _, _, rfl, rfl, _, rfl, ?_⟩
      by_cases hlt : s1.h rg + n < s1.h lf
      · rw [decide_eq_true hlt]
        refine iteT ?_
        have eone : Bf.one s1 i (lf, rg, n) = ⟨Bf.put s1.h lf (s1.h rg + n), Bf.put s1.by_ lf (some i), some lf⟩ := if_pos hlt
        rw [eone] at egood ⊢
        obtain ⟨bs2, e2, ok2, l2⟩ := bk_put (t := lf) (i := i) A1.ok
        refine ⟨_, rfl, _, rfl, hd, _, rfl, dget_hk hh2 em.2, _, rfl, _, _, rfl, rfl, _, rfl, _, rfl, hd, _, rfl, DPut.k (k := Sum.inr lf) hh2 (szs (by rw [hk_len]; exact A1.k1000)), ?_⟩
        have e1 := hk_put (h := s1.h) (n := s1.h rg + n) em.1
        rw [e1]
        have hb3 : (upd H2 hd (.dK (hk ks (Bf.put s1.h lf (s1.h rg + n))))) bd = some (.dK (bk bs1 s1.by_)) := by
          rw [upd_ne A1.ne.symm]
          exact hb2
        refine ⟨_, rfl, _, rfl, _, rfl, bd, _, rfl, DPut.k (k := Sum.inr lf) hb3 (szs (by rw [bk_len]; exact A1.b1000)), ?_⟩
        rw [e2]
        have B3 : But2 hd bd H2 (upd (upd H2 hd (.dK (hk ks (Bf.put s1.h lf (s1.h rg + n))))) bd (.dK (bk bs2 (Bf.put s1.by_ lf (some i))))) := fun c o h n1 n2 => by
          rw [upd_ne n2, upd_ne n1]
          exact h
        refine ⟨_, rfl, some (.int (i : Nat)), some (.str lf), some (.str rg), some (.int n), bs2, rfl, B2.trans B3, ?_⟩
        exact ⟨But2.seq hh2 hb2 B3 hp2, hL2.but2 hh2 hb2 B3, A1.l300, by rw [upd_ne A1.ne, upd_same], upd_same, A1.ne, A1.ends, ok2, A1.k1000, egood⟩
      · rw [decide_eq_false hlt]
        refine iteF ?_
        have eone : Bf.one s1 i (lf, rg, n) = s1 := if_neg hlt
        rw [eone] at egood ⊢
        exact ⟨some (.int (i : Nat)), some (.str lf), some (.str rg), some (.int n), bs1, rfl, B2, hp2, hL2, A1.l300, hh2, hb2, A1.ne, A1.ends, A1.ok, A1.k1000, egood⟩
    · rintro σ H1 ⟨v4, v5, v6, v7, bs1, rfl, B1, A1⟩
      have e : (ts.map V.ref).length = lits.length := by rw [List.length_map, W.hL.1]
      refine ⟨_, rfl, ?_⟩
      rw [e] at A1 ⊢
      exact k bs1 H1 B1 A1
def spLowerT (K : PySem.W.Frag) : Sp := fun vs H Q _ => ∃ (p hd bd : Addr) (ts : List Addr) (lits : List (Str × Str × Int)) (ks bs : List Str) (s : Bf.Sta Str), vs = [.ref p, .ref hd, .ref bd] ∧ AtT K H p hd bd ts lits ks bs s ∧
  ∀ (bs' : List Str) (H' : Hp), But2 hd bd H H' → AtT K H' p hd bd ts lits ks bs' (Bf.pass lits s) → Q (lowV (Bf.pass lits s).low) H'
theorem ok_lower_onceT {f : Addr} {fd : FuncData} (F : C8.Def K mg "lower_once" s_lower_once f fd) (b : Binds K fd ["literals", "heights", "lowered_by"] []) (T : Txt K mg C fI) : C8.Cal P w K mg base 1 "lower_once" (spLowerT K) [] := by
  refine C8.cal0 F b .nil sc_lower_once (fun vs H Q E h => ?_) (fun cdv A outer s H vs Q E hr h => ?_)
  · obtain ⟨p, hd, bd, ts, lits, ks, bs, s, rfl, _⟩ := h
    rfl
  · obtain ⟨p, hd, bd, ts, lits, ks, bs, s0, rfl, W, k⟩ := h
    have hu := hu_of hr
    refine ⟨_, (pss_cons (ps_set (i := 3) sc_lower_once.nd rfl (Or.inl rfl) pe_non)
    (pss_cons (ps_for PassesOwn.never rfl (En.pi_enumT (by rfl) T.z_enumerate (pa_cons (pv 0) pa_nil)) (pg_tup (by rfl) (pgs_cons (pg_name (i := 4) sc_lower_once.nd rfl (Or.inl rfl)) (pgs_cons (pg_tup (by rfl) (pgs_cons (pg_name (i := 5) sc_lower_once.nd rfl (Or.inl rfl)) (pgs_cons (pg_name (i := 6) sc_lower_once.nd rfl (Or.inl rfl)) (pgs_cons (pg_name (i := 7) sc_lower_once.nd rfl (Or.inl rfl)) pgs_nil)))) pgs_nil)))
    (pss_one (ps_if (pt_cmpR op_gt (pe_dget hu (pv 1) (pv 5) (fun _ _ => rfl)) (pe_op op_add (pe_dget hu (pv 1) (pv 6) (fun _ _ => rfl)) (pv 7)) (nomark _)) (pss_cons (ps_dput hu (pv 1) (pv 5) (pe_op op_add (pe_dget hu (pv 1) (pv 6) (fun _ _ => rfl)) (pv 7)) rfl)
    (pss_cons (ps_dput hu (pv 2) (pv 5) (pv 4) rfl)
    (pss_one (ps_set (i := 3) sc_lower_once.nd rfl (Or.inl rfl) (pv 5))))) pss_nil)))
    (pss_one (ps_ret (pv 3))))), ?_⟩
    refine ⟨_, rfl, p, _, rfl, W.hp, En.for_enumT (xs := ts.map V.ref) (fun i σ H' => ∃ (v4 v5 v6 v7 : Option V) (bs' : List Str), σ = [some (.ref p), some (.ref hd), some (.ref bd), some (lowV (Bf.some_ lits { s0 with low := none } i).low), v4, v5, v6, v7] ∧
        But2 hd bd H H' ∧ AtT K H' p hd bd ts lits ks bs' (Bf.some_ lits { s0 with low := none } i)) ⟨none, none, none, none, bs, rfl, But2.refl _ _ _, ⟨W.hp, W.hL, W.l300, W.hh, W.hb, W.ne, W.ends, W.ok, W.k1000, Bf.good_low W.good none⟩⟩ (fun i σ H' h => ?_) ?_ ?_⟩
    · obtain ⟨_, _, _, _, _, _, _, A'⟩ := h
      exact A'.hp
    · rintro i x q σ H1 hx ⟨v4, v5, v6, v7, bs1, rfl, B1, A1⟩ hq
      rw [List.getElem?_map] at hx
      obtain ⟨t, ht, rfl⟩ := Option.map_eq_some_iff.mp hx
      have hil : i < lits.length := by
        rw [← A1.hL.1]
        exact (List.getElem?_eq_some_iff.mp ht).1
      have hlq := List.getElem?_eq_getElem hil
      obtain ⟨t', ht', hs⟩ := A1.hL.2 i _ hlq
      have et : t' = t := Option.some.inj (ht'.symm.trans ht)
      subst et
      have em := A1.ends _ (List.mem_of_getElem? hlq)
      have estep : Bf.some_ lits { s0 with low := none } (i + 1) = Bf.one (Bf.some_ lits { s0 with low := none } i) i lits[i] := Bf.some_succ hlq
      have egood : Bf.Good lits (Bf.some_ lits { s0 with low := none } (i + 1)) := Bf.some_good (Bf.good_low W.good none) _
      rw [estep] at egood
      rw [estep]
      generalize lits[i] = ql at *
      obtain ⟨lf, rg, n⟩ := ql
      generalize Bf.some_ lits { s0 with low := none } i = s1 at *
      have S2 : Same H1 (upd H1 q (.tup [.int (i : Nat), .ref t'])) := Same.new hq
      have hh2 := S2 _ _ A1.hh
      have hb2 := S2 _ _ A1.hb
      have hs2 := Same.seqT S2 hs
      have hp2 := Same.seqT S2 A1.hp
      have hL2 := A1.hL.mono S2
      have hqt : (upd H1 q (.tup [.int (i : Nat), .ref t'])) q = some (.tup [.int (i : Nat), .ref t']) := upd_same
      have B2 : But2 hd bd H (upd H1 q (.tup [.int (i : Nat), .ref t'])) := B1.trans (But2.of S2)
      generalize upd H1 q (.tup [.int (i : Nat), .ref t']) = H2 at *
      refine ⟨q, _, rfl, SqT.of hqt, rfl, _, _, rfl, _, _, rfl, t', _, rfl, hs2, rfl, _, _, rfl, _, _, rfl, _, _, rfl, rfl, rfl, ?_⟩
      refine ⟨_, rfl, _, rfl, hd, _, rfl, dget_hk hh2 em.1, _, rfl, _, rfl, hd, _, rfl, dget_hk hh2 em.2, _, rfl, _, _, rfl, rfl, _, _, rfl, rfl, _, rfl, ?_⟩
      by_cases hlt : s1.h rg + n < s1.h lf
      · rw [decide_eq_true hlt]
        refine iteT ?_
        have eone : Bf.one s1 i (lf, rg, n) = ⟨Bf.put s1.h lf (s1.h rg + n), Bf.put s1.by_ lf (some i), some lf⟩ := if_pos hlt
        rw [eone] at egood ⊢
        obtain ⟨bs2, e2, ok2, l2⟩ := bk_put (t := lf) (i := i) A1.ok
        refine ⟨_, rfl, _, rfl, hd, _, rfl, dget_hk hh2 em.2, _, rfl, _, _, rfl, rfl, _, rfl, _, rfl, hd, _, rfl, DPut.k (k := Sum.inr lf) hh2 (szs (by rw [hk_len]; exact A1.k1000)), ?_⟩
        have e1 := hk_put (h := s1.h) (n := s1.h rg + n) em.1
        rw [e1]
        have hb3 : (upd H2 hd (.dK (hk ks (Bf.put s1.h lf (s1.h rg + n))))) bd = some (.dK (bk bs1 s1.by_)) := by
          rw [upd_ne A1.ne.symm]
          exact hb2
        refine ⟨_, rfl, _, rfl, _, rfl, bd, _, rfl, DPut.k (k := Sum.inr lf) hb3 (szs (by rw [bk_len]; exact A1.b1000)), ?_⟩
        rw [e2]
        have B3 : But2 hd bd H2 (upd (upd H2 hd (.dK (hk ks (Bf.put s1.h lf (s1.h rg + n))))) bd (.dK (bk bs2 (Bf.put s1.by_ lf (some i))))) := fun c o h n1 n2 => by
          rw [upd_ne n2, upd_ne n1]
          exact h
        refine ⟨_, rfl, some (.int (i : Nat)), some (.str lf), some (.str rg), some (.int n), bs2, rfl, B2.trans B3, ?_⟩
        exact ⟨But2.seqT hh2 hb2 B3 hp2, hL2.but2 hh2 hb2 B3, A1.l300, by rw [upd_ne A1.ne, upd_same], upd_same, A1.ne, A1.ends, ok2, A1.k1000, egood⟩
      · rw [decide_eq_false hlt]
        refine iteF ?_
        have eone : Bf.one s1 i (lf, rg, n) = s1 := if_neg hlt
        rw [eone] at egood ⊢
        exact ⟨some (.int (i : Nat)), some (.str lf), some (.str rg), some (.int n), bs1, rfl, B2, hp2, hL2, A1.l300, hh2, hb2, A1.ne, A1.ends, A1.ok, A1.k1000, egood⟩
    · rintro σ H1 ⟨v4, v5, v6, v7, bs1, rfl, B1, A1⟩
      have e : (ts.map V.ref).length = lits.length := by rw [List.length_map, W.hL.1]
      refine ⟨_, rfl, ?_⟩
      rw [e] at A1 ⊢
      exact k bs1 H1 B1 A1
end
end K3

namespace K3
open PySem L2 Bx
section
variable {P : Program} {w : World} {K : PySem.W.Frag} {mg : Str → Option Value} {base : Heap} {C fI : Addr}
def natV (i : Nat) : V := .int (i : Int)
def spBehind (K : PySem.W.Frag) : Sp := fun vs H Q _ => ∃ (p bd : Addr) (ts : List Addr) (lits : List (Str × Str × Int)) (bs : List Str) (s : Bf.Sta Str) (t : Str), vs = [.ref p, .ref bd, .str t] ∧ SqL K H p (ts.map V.ref) ∧ LitsAt K H ts lits ∧ H bd = some (.dK (bk bs s.by_)) ∧ ByOk bs s.by_ ∧ bs.length ≤ 1000 ∧ Bf.Good lits s ∧
  (∀ k, s.by_ (Bf.itr lits s.by_ t k) ≠ none) ∧ ∀ (c : Addr) (is : List Nat) (f : Nat → Str) (H' : Hp), Same H H' → SqT K H' c (is.map natV) → Bf.IsRing lits is f → is.length ≤ bs.length → Q (.ref c) H'
theorem ok_ring_behind {f : Addr} {fd : FuncData} (F : C8.Def K mg "ring_behind" s_ring_behind f fd) (b : Binds K fd ["literals", "lowered_by", "term"] []) (T : Txt K mg C fI) : C8.Cal P w K mg base 1 "ring_behind" (spBehind K) [] := by
  refine C8.cal0 F b .nil sc_ring_behind (fun vs H Q E h => ?_) (fun cdv A outer s H vs Q E hr h => ?_)
  · obtain ⟨p, bd, ts, lits, bs, s, t, rfl, _⟩ := h
    rfl
  · obtain ⟨p, bd, ts, lits, bs, s0, t, rfl, hp, hL, hb, hok, hb1, G, hn, k⟩ := h
    have hu := hu_of hr
    refine ⟨_, (pss_cons (ps_for PassesOwn.never rfl (pi_range1 (by rfl) T.z_range (pa_cons (pe_callB call_lenD (by rfl) T.z_len (by decide +kernel) (pa_cons (pv 1) pa_nil)) pa_nil)) (pg_name (i := 3) sc_ring_behind.nd rfl (Or.inl rfl))
    (pss_one (ps_set (i := 2) sc_ring_behind.nd rfl (Or.inl rfl) (pe_ix ix_tup (pe_ix ix_list (pv 0) (pe_dget hu (pv 1) (pv 2) (fun _ _ => rfl)) (fun _ _ => rfl)) pe_int (fun _ _ => rfl)))))
    (pss_cons (ps_set (i := 4) sc_ring_behind.nd rfl (Or.inl rfl) (pe_lst (pa_cons (pe_dget hu (pv 1) (pv 2) (fun _ _ => rfl)) pa_nil)))
    (pss_cons (ps_set (i := 5) sc_ring_behind.nd rfl (Or.inl rfl) (pe_ix ix_tup (pe_ix ix_list (pv 0) (pe_ix ix_list (pv 4) pe_int (fun _ _ => rfl)) (fun _ _ => rfl)) pe_int (fun _ _ => rfl)))
    (pss_cons (ps_while PassesOwn.never (pt_cmpR op_ne (pv 5) (pv 2) (nomark _)) (pss_cons (ps_expr (pe_bm PySem.F.plainAttrs_list PySem.F.slot_list_append PySem.F.type_list_append mt_append (pv 4) (pa_cons (pe_dget hu (pv 1) (pv 5) (fun _ _ => rfl)) pa_nil)))
    (pss_one (ps_set (i := 5) sc_ring_behind.nd rfl (Or.inl rfl) (pe_ix ix_tup (pe_ix ix_list (pv 0) (pe_ix ix_list (pv 4) (pe_un un_neg pe_int) (fun _ _ => rfl)) (fun _ _ => rfl)) pe_int (fun _ _ => rfl))))))
    (pss_one (ps_ret (pe_callTy call_tuple_of (by rfl) T.z_tuple (by decide +kernel) (pa_cons (pv 4) pa_nil)))))))), ?_⟩
    -- one step back
    have back : ∀ (x : Str), s0.by_ x ≠ none → ∃ (i : Nat) (a : Addr) (n : Int), s0.by_ x = some i ∧ (∀ H', Same H H' → DGet H' bd (.str x) (some (.int (i : Nat)))) ∧ atI (ts.map V.ref) (i : Int) = some (.ref a) ∧ ∀ H', Same H H' → SqT K H' a [.str x, .str (Bf.nxt lits s0.by_ x), .int n] := fun x hx => by
      obtain ⟨i, hi⟩ := Option.ne_none_iff_exists'.mp hx
      obtain ⟨r, n, hLi, _⟩ := G.own x i hi
      obtain ⟨a, ha, hs⟩ := hL.2 i _ hLi
      refine ⟨i, a, n, hi, fun H' S => dget_bk (S _ _ hb) hok hi, atI_nat (by rw [List.getElem?_map, ha]; rfl), fun H' S => ?_⟩
      rw [Bf.nxt_at hi hLi]
      exact Same.seqT S hs
    refine ⟨_, rfl, bd, _, rfl, hb, _, rfl, by omega, by rw [bk_len]; omega, for_range (lo := 0) (n := (((bk bs s0.by_).length : Nat) : Int).toNat) (fun i σ H' => ∃ (v3 v4 v5 : Option V), σ = [some (.ref p), some (.ref bd), some (.str (Bf.itr lits s0.by_ t i)), v3, v4, v5] ∧ H' = H) ⟨none, none, none, rfl, rfl⟩ ?_ ?_⟩
    · rintro i σ H' hi ⟨v3, v4, v5, rfl, rfl⟩
      obtain ⟨j, a, n, h1, h2, h3, h4⟩ := back _ (hn i)
      refine ⟨_, rfl, _, rfl, _, rfl, bd, _, rfl, h2 _ (Same.refl _), p, _, _, _, rfl, rfl, hp, h3, a, _, _, _, rfl, rfl, h4 _ (Same.refl _), rfl, ?_⟩
      exact ⟨_, _, _, rfl, rfl⟩
    · rintro σ H' ⟨v3, v4, v5, rfl, rfl⟩
      have el : (((bk bs s0.by_).length : Nat) : Int).toNat = bs.length := by rw [bk_len]; omega
      rw [el]
      generalize hx : Bf.itr lits s0.by_ t bs.length = x
      have hnx : ∀ k, s0.by_ (Bf.itr lits s0.by_ x k) ≠ none := fun k => by
        rw [← hx, ← Bf.itr_add]
        exact hn _
      obtain ⟨d0, hd0, hd1, hd2⟩ := Bf.on_ring (fun y hy => (hok.2 y).mpr hy) hn
      rw [Bf.itr_add, hx] at hd2
      obtain ⟨d, hdl, ⟨hdp, hdx⟩, hmin⟩ := Bf.least (p := fun d => 0 < d ∧ Bf.itr lits s0.by_ x d = x) d0 ⟨hd0, hd2⟩
      obtain ⟨j0, a0, n0, g1, g2, g3, g4⟩ := back _ (hnx 0)
      have e0 : Bf.itr lits s0.by_ x 0 = x := rfl
      rw [e0] at g1 g2 g4
      -- ring = [lowered_by[term]]
      refine ⟨_, rfl, _, rfl, bd, _, rfl, g2 _ (Same.refl _), (by show 1 ≤ sizeLine; decide), fun R nR => ?_⟩
      have S1 : Same H' (upd H' R (.lst [.int (j0 : Nat)])) := Same.new nR
      -- following = literals[ring[0]][1]
      refine ⟨_, rfl, _, rfl, R, _, _, _, rfl, rfl, SqL.of upd_same, rfl, p, _, _, _, rfl, rfl, (Same.seq S1 hp), g3, a0, _, _, _, rfl, rfl, g4 _ S1, rfl, ?_⟩
      refine ⟨fun m σ H2 => ∃ (c : Nat) (v3 : Option V), m = d - (c + 1) ∧ c + 1 ≤ d ∧ σ = [some (.ref p), some (.ref bd), some (.str x), v3, some (.ref R), some (.str (Bf.itr lits s0.by_ x (c + 1)))] ∧ Same H' H2 ∧ H2 R = some (.lst (((List.range (c + 1)).map fun j => (s0.by_ (Bf.itr lits s0.by_ x j)).getD 0).map natV)),
        ⟨_, 0, v3, rfl, hdp, rfl, S1, ?_⟩, ?_⟩
      · rw [upd_same]
        show some (HO.lst [.int (j0 : Nat)]) = some (HO.lst [natV ((s0.by_ x).getD 0)])
        rw [g1]
        rfl
      · rintro m σ H2 ⟨c, v3, rfl, hcd, rfl, S2, hR⟩
        refine ⟨_, rfl, _, rfl, rfl, _, rfl, ?_⟩
        by_cases hq : Bf.itr lits s0.by_ x (c + 1) = x
        · have e2 : (!decide (V.str (Bf.itr lits s0.by_ x (c + 1)) = V.str x)) = false := by
            rw [decide_eq_true (congrArg V.str hq)]
            rfl
          rw [e2]
          refine iteF ?_
          -- return tuple(ring)
          refine ⟨_, rfl, R, _, rfl, .inl ⟨SqL.of hR, fun q nq => ?_⟩⟩
          have hlen : ((List.range (c + 1)).map fun j => (s0.by_ (Bf.itr lits s0.by_ x j)).getD 0).length = c + 1 := by simp
          refine k q _ _ _ (S2.trans (Same.new nq)) (SqT.of upd_same) (Bf.ring_of G hnx hq (fun j h1 h2 h3 => ?_) hlen fun j hj => ?_) (by rw [hlen]; omega)
          · exact hmin j (by omega) ⟨h1, h3⟩
          · obtain ⟨i, hi⟩ := Option.ne_none_iff_exists'.mp (hnx j)
            rw [List.getElem?_map, List.getElem?_range (by omega)]
            show some ((s0.by_ (Bf.itr lits s0.by_ x j)).getD 0) = _
            rw [hi]
            rfl
        · have e2 : (!decide (V.str (Bf.itr lits s0.by_ x (c + 1)) = V.str x)) = true := by
            rw [decide_eq_false (fun h => hq (by injection h))]
            rfl
          rw [e2]
          refine iteT ?_
          have hcd2 : c + 1 < d := Nat.lt_of_le_of_ne hcd fun e => hq (by rw [e]; exact hdx)
          obtain ⟨j1, a1, n1, f1, f2, f3, f4⟩ := back _ (hnx (c + 1))
          refine ⟨fun σ H3 => ∃ v3, σ = [some (.ref p), some (.ref bd), some (.str x), v3, some (.ref R), some (.str (Bf.itr lits s0.by_ x (c + 1 + 1)))] ∧ Same H' H3 ∧ H3 R = some (.lst (((List.range (c + 1 + 1)).map fun j => (s0.by_ (Bf.itr lits s0.by_ x j)).getD 0).map natV)),
            fun σ H3 ⟨v3, e3, S3, hR3⟩ => ⟨d - (c + 1 + 1), by omega, c + 1, v3, rfl, hcd2, e3, S3, hR3⟩, ?_⟩
          refine ⟨_, rfl, .inl ⟨rfl, _, .inl (.inl hR)⟩, _, rfl, _, rfl, bd, _, rfl, f2 _ S2, R, _, _, rfl, rfl, hR, szs (by simp; omega), ?_⟩
          have S3 : Same H' (upd H2 R (.lst (((List.range (c + 1)).map fun j => (s0.by_ (Bf.itr lits s0.by_ x j)).getD 0).map natV ++ [.int (j1 : Nat)]))) := Same.mut S2 nR
          refine ⟨_, rfl, _, rfl, _, rfl, R, _, _, _, rfl, rfl, SqL.of upd_same, atI_last _ _, p, _, _, _, rfl, rfl, (Same.seq S3 hp), f3, a1, _, _, _, rfl, rfl, f4 _ S3, rfl, ?_⟩
          refine ⟨_, rfl, S3, ?_⟩
          have e3 : ((List.range (c + 1 + 1)).map fun j => (s0.by_ (Bf.itr lits s0.by_ x j)).getD 0).map natV = ((List.range (c + 1)).map fun j => (s0.by_ (Bf.itr lits s0.by_ x j)).getD 0).map natV ++ [natV j1] := by
            rw [List.range_succ (n := c + 1), List.map_append, List.map_append]
            show _ ++ [natV ((s0.by_ (Bf.itr lits s0.by_ x (c + 1))).getD 0)] = _
            rw [f1]
            rfl
          rw [upd_same, e3]
          rfl
def spBehindT (K : PySem.W.Frag) : Sp := fun vs H Q _ => ∃ (p bd : Addr) (ts : List Addr) (lits : List (Str × Str × Int)) (bs : List Str) (s : Bf.Sta Str) (t : Str), vs = [.ref p, .ref bd, .str t] ∧ SqT K H p (ts.map V.ref) ∧ LitsAt K H ts lits ∧ H bd = some (.dK (bk bs s.by_)) ∧ ByOk bs s.by_ ∧ bs.length ≤ 1000 ∧ Bf.Good lits s ∧
  (∀ k, s.by_ (Bf.itr lits s.by_ t k) ≠ none) ∧ ∀ (c : Addr) (is : List Nat) (f : Nat → Str) (H' : Hp), Same H H' → SqT K H' c (is.map natV) → Bf.IsRing lits is f → is.length ≤ bs.length → Q (.ref c) H'
theorem ok_ring_behindT {f : Addr} {fd : FuncData} (F : C8.Def K mg "ring_behind" s_ring_behind f fd) (b : Binds K fd ["literals", "lowered_by", "term"] []) (T : Txt K mg C fI) : C8.Cal P w K mg base 1 "ring_behind" (spBehindT K) [] := by
  refine C8.cal0 F b .nil sc_ring_behind (fun vs H Q E h => ?_) (fun cdv A outer s H vs Q E hr h => ?_)
  · obtain ⟨p, bd, ts, lits, bs, s, t, rfl, _⟩ := h
    rfl
  · obtain ⟨p, bd, ts, lits, bs, s0, t, rfl, hp, hL, hb, hok, hb1, G, hn, k⟩ := h
    have hu := hu_of hr
    refine ⟨_, (pss_cons (ps_for PassesOwn.never rfl (pi_range1 (by rfl) T.z_range (pa_cons (pe_callB call_lenD (by rfl) T.z_len (by decide +kernel) (pa_cons (pv 1) pa_nil)) pa_nil)) (pg_name (i := 3) sc_ring_behind.nd rfl (Or.inl rfl))
    (pss_one (ps_set (i := 2) sc_ring_behind.nd rfl (Or.inl rfl) (pe_ix ix_tup (pe_ix ix_tup (pv 0) (pe_dget hu (pv 1) (pv 2) (fun _ _ => rfl)) (fun _ _ => rfl)) pe_int (fun _ _ => rfl)))))
    (pss_cons (ps_set (i := 4) sc_ring_behind.nd rfl (Or.inl rfl) (pe_lst (pa_cons (pe_dget hu (pv 1) (pv 2) (fun _ _ => rfl)) pa_nil)))
    (pss_cons (ps_set (i := 5) sc_ring_behind.nd rfl (Or.inl rfl) (pe_ix ix_tup (pe_ix ix_tup (pv 0) (pe_ix ix_list (pv 4) pe_int (fun _ _ => rfl)) (fun _ _ => rfl)) pe_int (fun _ _ => rfl)))
    (pss_cons (ps_while PassesOwn.never (pt_cmpR op_ne (pv 5) (pv 2) (nomark _)) (pss_cons (ps_expr (pe_bm PySem.F.plainAttrs_list PySem.F.slot_list_append PySem.F.type_list_append mt_append (pv 4) (pa_cons (pe_dget hu (pv 1) (pv 5) (fun _ _ => rfl)) pa_nil)))
    (pss_one (ps_set (i := 5) sc_ring_behind.nd rfl (Or.inl rfl) (pe_ix ix_tup (pe_ix ix_tup (pv 0) (pe_ix ix_list (pv 4) (pe_un un_neg pe_int) (fun _ _ => rfl)) (fun _ _ => rfl)) pe_int (fun _ _ => rfl))))))
    (pss_one (ps_ret (pe_callTy call_tuple_of (by rfl) T.z_tuple (by decide +kernel) (pa_cons (pv 4) pa_nil)))))))), ?_⟩
    -- one step back
    have back : ∀ (x : Str), s0.by_ x ≠ none → ∃ (i : Nat) (a : Addr) (n : Int), s0.by_ x = some i ∧ (∀ H', Same H H' → DGet H' bd (.str x) (some (.int (i : Nat)))) ∧ atI (ts.map V.ref) (i : Int) = some (.ref a) ∧ ∀ H', Same H H' → SqT K H' a [.str x, .str (Bf.nxt lits s0.by_ x), .int n] := fun x hx => by
      obtain ⟨i, hi⟩ := Option.ne_none_iff_exists'.mp hx
      obtain ⟨r, n, hLi, _⟩ := G.own x i hi
      obtain ⟨a, ha, hs⟩ := hL.2 i _ hLi
      refine ⟨i, a, n, hi, fun H' S => dget_bk (S _ _ hb) hok hi, atI_nat (by rw [List.getElem?_map, ha]; rfl), fun H' S => ?_⟩
      rw [Bf.nxt_at hi hLi]
      exact Same.seqT S hs
    refine ⟨_, rfl, bd, _, rfl, hb, _, rfl, by omega, by rw [bk_len]; omega, for_range (lo := 0) (n := (((bk bs s0.by_).length : Nat) : Int).toNat) (fun i σ H' => ∃ (v3 v4 v5 : Option V), σ = [some (.ref p), some (.ref bd), some (.str (Bf.itr lits s0.by_ t i)), v3, v4, v5] ∧ H' = H) ⟨none, none, none, rfl, rfl⟩ ?_ ?_⟩
    · rintro i σ H' hi ⟨v3, v4, v5, rfl, rfl⟩
      obtain ⟨j, a, n, h1, h2, h3, h4⟩ := back _ (hn i)
      refine ⟨_, rfl, _, rfl, _, rfl, bd, _, rfl, h2 _ (Same.refl _), p, _, _, _, rfl, rfl, hp, h3, a, _, _, _, rfl, rfl, h4 _ (Same.refl _), rfl, ?_⟩
      exact ⟨_, _, _, rfl, rfl⟩
    · rintro σ H' ⟨v3, v4, v5, rfl, rfl⟩
      have el : (((bk bs s0.by_).length : Nat) : Int).toNat = bs.length := by rw [bk_len]; omega
      rw [el]
      generalize hx : Bf.itr lits s0.by_ t bs.length = x
      have hnx : ∀ k, s0.by_ (Bf.itr lits s0.by_ x k) ≠ none := fun k => by
        rw [← hx, ← Bf.itr_add]
        exact hn _
      obtain ⟨d0, hd0, hd1, hd2⟩ := Bf.on_ring (fun y hy => (hok.2 y).mpr hy) hn
      rw [Bf.itr_add, hx] at hd2
      obtain ⟨d, hdl, ⟨hdp, hdx⟩, hmin⟩ := Bf.least (p := fun d => 0 < d ∧ Bf.itr lits s0.by_ x d = x) d0 ⟨hd0, hd2⟩
      obtain ⟨j0, a0, n0, g1, g2, g3, g4⟩ := back _ (hnx 0)
      have e0 : Bf.itr lits s0.by_ x 0 = x := rfl
      rw [e0] at g1 g2 g4
      -- ring = [lowered_by[term]]
      refine ⟨_, rfl, _, rfl, bd, _, rfl, g2 _ (Same.refl _), (by show 1 ≤ sizeLine; decide), fun R nR => ?_⟩
      have S1 : Same H' (upd H' R (.lst [.int (j0 : Nat)])) := Same.new nR
      -- following = literals[ring[0]][1]
      refine ⟨_, rfl, _, rfl, R, _, _, _, rfl, rfl, SqL.of upd_same, rfl, p, _, _, _, rfl, rfl, (Same.seqT S1 hp), g3, a0, _, _, _, rfl, rfl, g4 _ S1, rfl, ?_⟩
      refine ⟨fun m σ H2 => ∃ (c : Nat) (v3 : Option V), m = d - (c + 1) ∧ c + 1 ≤ d ∧ σ = [some (.ref p), some (.ref bd), some (.str x), v3, some (.ref R), some (.str (Bf.itr lits s0.by_ x (c + 1)))] ∧ Same H' H2 ∧ H2 R = some (.lst (((List.range (c + 1)).map fun j => (s0.by_ (Bf.itr lits s0.by_ x j)).getD 0).map natV)),
        ⟨_, 0, v3, rfl, hdp, rfl, S1, ?_⟩, ?_⟩
      · rw [upd_same]
        show some (HO.lst [.int (j0 : Nat)]) = some (HO.lst [natV ((s0.by_ x).getD 0)])
        rw [g1]
        rfl
      · rintro m σ H2 ⟨c, v3, rfl, hcd, rfl, S2, hR⟩
        refine ⟨_, rfl, _, rfl, rfl, _, rfl, ?_⟩
        by_cases hq : Bf.itr lits s0.by_ x (c + 1) = x
        · have e2 : (!decide (V.str (Bf.itr lits s0.by_ x (c + 1)) = V.str x)) = false := by
            rw [decide_eq_true (congrArg V.str hq)]
            rfl
          rw [e2]
          refine iteF ?_
          -- return tuple(ring)
          refine ⟨_, rfl, R, _, rfl, .inl ⟨SqL.of hR, fun q nq => ?_⟩⟩
          have hlen : ((List.range (c + 1)).map fun j => (s0.by_ (Bf.itr lits s0.by_ x j)).getD 0).length = c + 1 := by simp
          refine k q _ _ _ (S2.trans (Same.new nq)) (SqT.of upd_same) (Bf.ring_of G hnx hq (fun j h1 h2 h3 => ?_) hlen fun j hj => ?_) (by rw [hlen]; omega)
          · exact hmin j (by omega) ⟨h1, h3⟩
          · obtain ⟨i, hi⟩ := Option.ne_none_iff_exists'.mp (hnx j)
            rw [List.getElem?_map, List.getElem?_range (by omega)]
            show some ((s0.by_ (Bf.itr lits s0.by_ x j)).getD 0) = _
            rw [hi]
            rfl
        · have e2 : (!decide (V.str (Bf.itr lits s0.by_ x (c + 1)) = V.str x)) = true := by
            rw [decide_eq_false (fun h => hq (by injection h))]
            rfl
          rw [e2]
          refine iteT ?_
          have hcd2 : c + 1 < d := Nat.lt_of_le_of_ne hcd fun e => hq (by rw [e]; exact hdx)
          obtain ⟨j1, a1, n1, f1, f2, f3, f4⟩ := back _ (hnx (c + 1))
          refine ⟨fun σ H3 => ∃ v3, σ = [some (.ref p), some (.ref bd), some (.str x), v3, some (.ref R), some (.str (Bf.itr lits s0.by_ x (c + 1 + 1)))] ∧ Same H' H3 ∧ H3 R = some (.lst (((List.range (c + 1 + 1)).map fun j => (s0.by_ (Bf.itr lits s0.by_ x j)).getD 0).map natV)),
            fun σ H3 ⟨v3, e3, S3, hR3⟩ => ⟨d - (c + 1 + 1), by omega, c + 1, v3, rfl, hcd2, e3, S3, hR3⟩, ?_⟩
          refine ⟨_, rfl, .inl ⟨rfl, _, .inl (.inl hR)⟩, _, rfl, _, rfl, bd, _, rfl, f2 _ S2, R, _, _, rfl, rfl, hR, szs (by simp; omega), ?_⟩
          have S3 : Same H' (upd H2 R (.lst (((List.range (c + 1)).map fun j => (s0.by_ (Bf.itr lits s0.by_ x j)).getD 0).map natV ++ [.int (j1 : Nat)]))) := Same.mut S2 nR
          refine ⟨_, rfl, _, rfl, _, rfl, R, _, _, _, rfl, rfl, SqL.of upd_same, atI_last _ _, p, _, _, _, rfl, rfl, (Same.seqT S3 hp), f3, a1, _, _, _, rfl, rfl, f4 _ S3, rfl, ?_⟩
          refine ⟨_, rfl, S3, ?_⟩
          have e3 : ((List.range (c + 1 + 1)).map fun j => (s0.by_ (Bf.itr lits s0.by_ x j)).getD 0).map natV = ((List.range (c + 1)).map fun j => (s0.by_ (Bf.itr lits s0.by_ x j)).getD 0).map natV ++ [natV j1] := by
            rw [List.range_succ (n := c + 1), List.map_append, List.map_append]
            show _ ++ [natV ((s0.by_ (Bf.itr lits s0.by_ x (c + 1))).getD 0)] = _
            rw [f1]
            rfl
          rw [upd_same, e3]
          rfl
end
end K3

namespace Bx
open PySem L2
theorem itk_run {d : Addr} {o : Obj} {kvs : List (Key × V)} {F : V → Hp → (Hp → Prop) → Prop} {H4 : Hp} {Nx : Hp → Prop} (Pv : Nat → Hp → Prop) (h0 : Pv 0 H4) (hl : ∀ j H, Pv j H → H d = some (.frz o (.dK kvs)))
    (hs : ∀ j k v H, kvs[j]? = some (k, v) → Pv j H → F (kV k) H (Pv (j + 1))) (hd : ∀ H, Pv kvs.length H → Nx H) :
    ∃ W1 : Nat → Nat → Hp → Prop, (∃ m, W1 0 m H4) ∧ ∀ j k H, W1 j k H → ((Itk d o kvs).stop j H ∧ Nx H) ∨ ((Itk d o kvs).go j H ∧ ∃ Nx1 : Hp → Prop, (∀ H', Nx1 H' → ∃ k', k' < k ∧ W1 (j + 1) k' H') ∧ ∀ x H', (Itk d o kvs).yld j H x H' → F x H' Nx1) := by
  refine ⟨fun j k H => k = kvs.length - j ∧ j ≤ kvs.length ∧ Pv j H, ⟨kvs.length, rfl, Nat.zero_le _, h0⟩, ?_⟩
  rintro j k H ⟨rfl, hj, p⟩
  have q := hl j H p
  by_cases hlt : j < kvs.length
  · refine .inr ⟨⟨q, hlt⟩, Pv (j + 1), fun H' p' => ⟨kvs.length - (j + 1), by omega, rfl, hlt, p'⟩, fun x H' y => ?_⟩
    obtain ⟨e, k, v, y, ex⟩ := y
    subst e ex
    exact hs j k v _ y p
  · have e : j = kvs.length := by omega
    subst e
    exact .inl ⟨⟨q, Nat.le_refl _⟩, hd H p⟩
/-- one key more, its value the function's -/
theorem hk_more {g : Str → Int} {t : Str} (ks : List Str) : ∃ ks', putK (hk ks g) (Sum.inr t) (.int (g t)) = hk ks' g ∧ (∀ x, x ∈ ks' ↔ x ∈ ks ∨ x = t) ∧ (ks.Nodup → ks'.Nodup) ∧ ks'.length ≤ ks.length + 1 := by
  by_cases m : t ∈ ks
  · refine ⟨ks, (hk_put m).trans ?_, fun x => ⟨.inl, fun h => h.elim id fun e => e ▸ m⟩, id, Nat.le_succ _⟩
    congr 1
    funext x
    unfold Bf.put
    by_cases e : x = t <;> simp [e]
  · refine ⟨ks ++ [t], (fk_new (v := fun t => V.int (g t)) m).trans ?_, fun x => by simp, fun nd => List.nodup_append.mpr ⟨nd, by simp, fun x hx y hy e => ?_⟩, by simp⟩
    · unfold fk hk
      refine List.map_congr_left fun k _ => ?_
      by_cases e : k = t <;> simp [e]
    · have : y = t := by simpa using hy
      rw [← this, ← e] at m
      exact m hx
end Bx
namespace K3
open PySem L2 Bx
section
variable {P : Program} {w : World} {K : PySem.W.Frag} {mg : Str → Option Value} {base : Heap} {C fI : Addr}
def val (g : Str → Int) (t : Str) : Int := if t = "" then 0 else g t
def spSolved (K : PySem.W.Frag) (C : Addr) : Sp := fun vs H Q E => ∃ v, vs = [v] ∧ Chk K C v H E (∀ r H', Same H H' → Q (.ref r) H')
theorem lits_of {K : PySem.W.Frag} {H : Hp} : ∀ {xs : List V} {gs : List Bool}, gs.length = xs.length → (∀ (i : Nat) x g, xs[i]? = some x → gs[i]? = some g → ItK K H x g) → (∀ g ∈ gs, g = true) → ∃ ts lits, xs = ts.map V.ref ∧ LitsAt K H ts lits
  | [], _, _, _, _ => ⟨[], [], rfl, rfl, fun j q h => (by cases h)⟩
  | x :: xs, [], h, _, _ => by cases h
  | x :: xs, g :: gs, h, hit, hall => by
    obtain ⟨ts, lits, e, hL⟩ := lits_of (xs := xs) (gs := gs) (Nat.succ.inj h) (fun i y g' h1 h2 => hit (i + 1) y g' h1 h2) fun g' hg => hall g' (List.mem_cons_of_mem _ hg)
    have eg : g = true := hall g List.mem_cons_self
    subst eg
    rcases hit 0 x true rfl rfl with ⟨_, _, _, z⟩ | ⟨_, _, _, _, _, z⟩ | ⟨p, y1, y2, y3, a1, n1, a2, n2, a3, n3, rfl, hp, ⟨_, _, _, _, _, _, _, _, f1, _⟩, ⟨_, _, _, _, _, _, _, _, f2, _⟩, ⟨_, _, _, _, _, _, _, _, _, f3⟩, z⟩
    · cases z
    · cases z
    · have z1 : a1 = true ∧ a2 = true ∧ n3 = true := by
        cases a1 <;> cases a2 <;> cases n3 <;> simp at z ⊢
      obtain ⟨s1, rfl⟩ := f1 z1.1
      obtain ⟨s2, rfl⟩ := f2 z1.2.1
      obtain ⟨n, rfl⟩ := f3 z1.2.2
      refine ⟨p :: ts, (s1, s2, n) :: lits, by rw [e]; rfl, by simp [hL.1], fun j q hj => ?_⟩
      cases j with
      | zero =>
        cases hj
        exact ⟨p, rfl, hp⟩
      | succ j => exact hL.2 j q hj
theorem but2_same {x y : Addr} {H H1 H2 : Hp} (a : Same H H1) (b : But2 x y H1 H2) (hx : H x = none) (hy : H y = none) : Same H H2 := fun c o h => b c o (a c o h) (ne_of_none h hx) (ne_of_none h hy)
theorem same_none {H H' : Hp} (a : Same H H') {p : Addr} (h : H' p = none) : H p = none := by
  cases q : H p with
  | none => rfl
  | some o =>
    rw [a p o q] at h
    cases h
theorem ok_solved {f fC : Addr} {fd fdC : FuncData} (F : C8.Fun K "solved" "solved" s_solved f fd) (T : Txt K mg C fI) (K_check_literals : CalX P w K mg base 3 "check_literals" fC fdC ["literals"] (spChk K C)) (K_lower_once : C8.Cal P w K mg base 1 "lower_once" (spLower K) []) (K_ring_behind : C8.Cal P w K mg base 1 "ring_behind" (spBehind K) []) (K_lower_onceT : C8.Cal P w K mg base 1 "lower_once" (spLowerT K) []) (K_ring_behindT : C8.Cal P w K mg base 1 "ring_behind" (spBehindT K) []) : FnOk P w K mg base (L2.CX P w) 4 f fd ["literals"] (spSolved K C) := by
  refine fnX F sc_solved (fun vs H Q E h => ?_) (fun cdv A outer s H vs Q E hr h => ?_)
  · obtain ⟨v, rfl, _⟩ := h
    rfl
  · have hu := hu_of hr
    obtain ⟨v, rfl, ⟨t, ty, kt, o⟩ | ⟨p, xs, rfl, hp, h⟩ | ⟨p, xs, rfl, hp, h⟩⟩ := h
    · exact ⟨_, (pss_cons (ps_expr (pe_callS K_check_literals.ok (hr.mono (by decide)) rfl K_check_literals.mgf K_check_literals.kp K_check_literals.b (fun σ => passAt (takes_of rfl rfl rfl rfl) σ) (pa_cons (pv 0) pa_nil)))
    (pss_cons (ps_set (i := 1) sc_solved.nd rfl (Or.inr rfl) (pe_dc2 (own := [("left", 6), ("right", 7), ("number", 8), ("term", 9)]) (vs1 := [9]) rfl sc_solved.nd (pi_list (pv 0)) (blkOk_by (own := [("left", 6), ("right", 7), ("number", 8), ("term", 9)]) (N := N_solved) (sc := C8.fnScope s_solved) (by decide +kernel)) (by decide) (fun _ _ _ _ _ => (pgTK K 3 (pgs_cons (pg_name (i := 6) sc_solved.nd rfl (Or.inl rfl)) (pgs_cons (pg_name (i := 7) sc_solved.nd rfl (Or.inl rfl)) (pgs_cons (pg_name (i := 8) sc_solved.nd rfl (Or.inl rfl)) pgs_nil))))) (fun _ _ _ _ _ => pts_nil) (fun _ _ _ _ _ => ((piTK K) (pe_tup (pa_cons (pv 6) (pa_cons (pv 7) pa_nil))))) (fun _ _ _ _ _ => (pg_name (i := 9) sc_solved.nd rfl (Or.inl rfl))) (fun _ _ _ _ _ => pts_nil) (fun _ _ _ _ _ => (pv 9)) (fun _ _ _ _ _ => pe_int)))
    (pss_cons (ps_set (i := 2) sc_solved.nd rfl (Or.inl rfl) pe_dnewK)
    (pss_cons (ps_for (passes_of rfl) rfl (pi_range1 (by rfl) T.z_range (pa_cons (pe_op op_add (pe_callB call_lenD (by rfl) T.z_len (by decide +kernel) (pa_cons (pv 1) pa_nil)) pe_int) pa_nil)) (pg_name (i := 3) sc_solved.nd rfl (Or.inl rfl))
    (pss_cons (ps_set (i := 4) sc_solved.nd rfl (Or.inl rfl) (C8.pe_c K_lower_once hr (by decide) (by rfl) (pa_cons (pv 0) (pa_cons (pv 1) (pa_cons (pv 2) pa_nil)))))
    (pss_one (ps_if (pt_cmpR op_isN (pv 4) pe_non (nomark _)) (pss_cons (ps_set (i := 5) sc_solved.nd rfl (Or.inr rfl) (pe_dget2 hu (pv 1) pe_str pe_int ⟨rfl, rfl, rfl, rfl⟩))
    (pss_one (ps_ret (pe_tup (pa_cons pe_str (pa_cons (pe_lock (pe_dc (own := [("term", 9)]) rfl sc_solved.nd (pi_keys (pv 1)) (blkOk_by (own := [("term", 9)]) (N := N_solved) (sc := C8.fnScope s_solved) (by decide +kernel)) (fun _ _ _ _ _ => (pg_name (i := 9) sc_solved.nd rfl (Or.inl rfl))) (fun _ _ _ _ _ => (pts_one (pt_cmpR op_ne (pv 9) pe_str (nomark _)))) (fun _ _ _ _ _ => (pv 9)) (fun _ _ _ _ _ => (pe_op op_sub (pe_dget hu (pv 1) (pv 9) (fun _ _ => rfl)) (pv 5))))) pa_nil)))))) pss_nil))))
    (pss_one (ps_ret (pe_tup (pa_cons pe_str (pa_cons (C8.pe_c K_ring_behind hr (by decide) (by rfl) (pa_cons (pv 0) (pa_cons (pv 2) (pa_cons (pv 4) pa_nil)))) pa_nil))))))))), ⟨_, rfl, _, rfl, .inl ⟨t, ty, kt, o⟩⟩⟩
    · refine ⟨_, (pss_cons (ps_expr (pe_callS K_check_literals.ok (hr.mono (by decide)) rfl K_check_literals.mgf K_check_literals.kp K_check_literals.b (fun σ => passAt (takes_of rfl rfl rfl rfl) σ) (pa_cons (pv 0) pa_nil)))
    (pss_cons (ps_set (i := 1) sc_solved.nd rfl (Or.inr rfl) (pe_dc2 (own := [("left", 6), ("right", 7), ("number", 8), ("term", 9)]) (vs1 := [9]) rfl sc_solved.nd (pi_list (pv 0)) (blkOk_by (own := [("left", 6), ("right", 7), ("number", 8), ("term", 9)]) (N := N_solved) (sc := C8.fnScope s_solved) (by decide +kernel)) (by decide) (fun _ _ _ _ _ => (pgTK K 3 (pgs_cons (pg_name (i := 6) sc_solved.nd rfl (Or.inl rfl)) (pgs_cons (pg_name (i := 7) sc_solved.nd rfl (Or.inl rfl)) (pgs_cons (pg_name (i := 8) sc_solved.nd rfl (Or.inl rfl)) pgs_nil))))) (fun _ _ _ _ _ => pts_nil) (fun _ _ _ _ _ => ((piTK K) (pe_tup (pa_cons (pv 6) (pa_cons (pv 7) pa_nil))))) (fun _ _ _ _ _ => (pg_name (i := 9) sc_solved.nd rfl (Or.inl rfl))) (fun _ _ _ _ _ => pts_nil) (fun _ _ _ _ _ => (pv 9)) (fun _ _ _ _ _ => pe_int)))
    (pss_cons (ps_set (i := 2) sc_solved.nd rfl (Or.inl rfl) pe_dnewK)
    (pss_cons (ps_for (passes_of rfl) rfl (pi_range1 (by rfl) T.z_range (pa_cons (pe_op op_add (pe_callB call_lenD (by rfl) T.z_len (by decide +kernel) (pa_cons (pv 1) pa_nil)) pe_int) pa_nil)) (pg_name (i := 3) sc_solved.nd rfl (Or.inl rfl))
    (pss_cons (ps_set (i := 4) sc_solved.nd rfl (Or.inl rfl) (C8.pe_c K_lower_once hr (by decide) (by rfl) (pa_cons (pv 0) (pa_cons (pv 1) (pa_cons (pv 2) pa_nil)))))
    (pss_one (ps_if (pt_cmpR op_isN (pv 4) pe_non (nomark _)) (pss_cons (ps_set (i := 5) sc_solved.nd rfl (Or.inr rfl) (pe_dget2 hu (pv 1) pe_str pe_int ⟨rfl, rfl, rfl, rfl⟩))
    (pss_one (ps_ret (pe_tup (pa_cons pe_str (pa_cons (pe_lock (pe_dc (own := [("term", 9)]) rfl sc_solved.nd (pi_keys (pv 1)) (blkOk_by (own := [("term", 9)]) (N := N_solved) (sc := C8.fnScope s_solved) (by decide +kernel)) (fun _ _ _ _ _ => (pg_name (i := 9) sc_solved.nd rfl (Or.inl rfl))) (fun _ _ _ _ _ => (pts_one (pt_cmpR op_ne (pv 9) pe_str (nomark _)))) (fun _ _ _ _ _ => (pv 9)) (fun _ _ _ _ _ => (pe_op op_sub (pe_dget hu (pv 1) (pv 9) (fun _ _ => rfl)) (pv 5))))) pa_nil)))))) pss_nil))))
    (pss_one (ps_ret (pe_tup (pa_cons pe_str (pa_cons (C8.pe_c K_ring_behind hr (by decide) (by rfl) (pa_cons (pv 0) (pa_cons (pv 2) (pa_cons (pv 4) pa_nil)))) pa_nil))))))))), ?_⟩
      rcases h with ⟨hl, o⟩ | ⟨hl, gs, hgl, hit, hgood, hbad⟩
      · exact ⟨_, rfl, _, rfl, .inr (.inl ⟨p, xs, rfl, hp, .inl ⟨hl, o⟩⟩)⟩
      · refine ⟨_, rfl, _, rfl, .inr (.inl ⟨p, xs, rfl, hp, .inr ⟨hl, gs, hgl, hit, fun hall H1 S1 => ?_, hbad⟩⟩)⟩
        obtain ⟨ts, lits, rfl, hL⟩ := lits_of hgl hit hall
        have hl : lits.length ≤ 300 := by rw [List.length_map, hL.1] at hl; exact hl
        have kv : ∀ (r d : Addr) (ks : List Str) (g : Str → Int) (H' : Hp), Same H H' → SqT K H' r [.str "values", .ref d] → H d = none → H' d = some (.dK (hk ks g)) → ks.Nodup → ks.length ≤ 1000 → (∀ x, x ∈ ks ↔ x ≠ "" ∧ ∃ q ∈ lits, x = q.1 ∨ x = q.2.1) → (∀ q ∈ lits, val g q.1 ≤ val g q.2.1 + q.2.2) → Q (.ref r) H' := fun r _ _ _ H' S _ _ _ _ _ _ _ => hgood hall r H' S
        have kr : ∀ (r c : Addr) (is : List Nat) (f : Nat → Str) (H' : Hp), Same H H' → SqT K H' r [.str "ring", .ref c] → SqT K H' c (is.map natV) → Bf.IsRing lits is f → is.length ≤ 1000 → Q (.ref r) H' := fun r _ _ _ H' S _ _ _ _ => hgood hall r H' S
        have hp1 := Same.seq S1 hp
        have hL1 := hL.mono S1
        -- heights
        refine ⟨_, rfl, p, rfl, ⟨_, hp1⟩, fun hd nhd => itl_run (xs := ts.map V.ref) (fun i H' => Same H1 H' ∧ ∃ ks : List Str, H' hd = some (.dK (hk ks fun _ => 0)) ∧ ks.length ≤ 2 * i ∧ ks.Nodup ∧ ∀ x, x ∈ ks ↔ ∃ j q, j < i ∧ lits[j]? = some q ∧ (x = q.1 ∨ x = q.2.1)) ?_ ?_ ?_ ?_⟩
        · exact ⟨Same.new nhd, [], upd_same, Nat.zero_le _, List.nodup_nil, fun x => ⟨fun h => (by cases h), fun ⟨j, q, h, _⟩ => absurd h (Nat.not_lt_zero j)⟩⟩
        · rintro j H' _ ⟨B, _⟩
          exact Same.seq B hp1
        · rintro i x H2 hx ⟨S2, ks, hk2, hl2, nd2, hm2⟩
          rw [List.getElem?_map] at hx
          obtain ⟨t, ht, rfl⟩ := Option.map_eq_some_iff.mp hx
          have hil : i < lits.length := by
            rw [← hL.1]
            exact (List.getElem?_eq_some_iff.mp ht).1
          have hlq := List.getElem?_eq_getElem hil
          obtain ⟨t', ht', hs⟩ := hL1.2 i _ hlq
          have et : t' = t := Option.some.inj (ht'.symm.trans ht)
          subst et
          have hs2 := Same.seqT S2 hs
          generalize hq : lits[i] = q0 at *
          obtain ⟨lf, rg, n⟩ := q0
          refine ⟨t', _, rfl, hs2, rfl, _, _, rfl, _, _, rfl, _, _, rfl, rfl, rfl, ?_⟩
          refine ⟨_, rfl, _, rfl, (by show 2 ≤ sizeLine; decide), fun q nq => ?_⟩
          have n1 : H1 q = none := same_none S2 nq
          have hq2 : q ≠ hd := fun e => by rw [e, hk2] at nq; cases nq
          refine ⟨q, rfl, ⟨_, SqT.of upd_same⟩, itt_run (xs := [.str lf, .str rg]) (fun j H' => Same H1 H' ∧ H' q = some (.tup [.str lf, .str rg]) ∧ ∃ ks : List Str, H' hd = some (.dK (hk ks fun _ => 0)) ∧ ks.length ≤ 2 * i + j ∧ ks.Nodup ∧ ∀ x, x ∈ ks ↔ (∃ j q, j < i ∧ lits[j]? = some q ∧ (x = q.1 ∨ x = q.2.1)) ∨ (0 < j ∧ x = lf) ∨ (1 < j ∧ x = rg)) ?_ ?_ ?_ ?_⟩
          · exact ⟨Same.mut S2 n1, upd_same, ks, by rw [upd_ne hq2.symm]; exact hk2, hl2, nd2, fun x => (hm2 x).trans ⟨.inl, fun h => h.elim id fun h => h.elim (fun h => absurd h.1 (by omega)) fun h => absurd h.1 (by omega)⟩⟩
          · rintro j H' _ ⟨_, h, _⟩
            exact SqT.of h
          · rintro j x H3 hx ⟨S3, h3, ks3, hk3, hl3, nd3, hm3⟩
            have hj3 : j < 2 := (List.getElem?_eq_some_iff.mp hx).1
            have hx2 : ∃ y : Str, x = .str y ∧ ∀ z, (0 < j ∧ z = lf) ∨ (1 < j ∧ z = rg) ∨ z = y ↔ (0 < j + 1 ∧ z = lf) ∨ (1 < j + 1 ∧ z = rg) := by
              match j, hx with
              | 0, hx => exact ⟨lf, (Option.some.inj hx).symm, fun z => by simp⟩
              | 1, hx => exact ⟨rg, (Option.some.inj hx).symm, fun z => by simp⟩
              | j + 2, hx => cases hx
            obtain ⟨y, rfl, hy⟩ := hx2
            obtain ⟨ks4, e4, m4, n4, l4⟩ := hk_more (g := fun _ => 0) (t := y) ks3
            refine ⟨rfl, _, rfl, _, Sum.inr y, rfl, hk3, szs (by rw [hk_len]; omega), ?_⟩
            rw [e4]
            refine ⟨Same.mut S3 nhd, by rw [upd_ne hq2]; exact h3, ks4, upd_same, by omega, n4 nd3, fun z => ?_⟩
            rw [m4, hm3, ← hy]
            constructor
            · rintro ((h | h | h) | h)
              · exact .inl h
              · exact .inr (.inl h)
              · exact .inr (.inr (.inl h))
              · exact .inr (.inr (.inr h))
            · rintro (h | h | h | h)
              · exact .inl (.inl h)
              · exact .inl (.inr (.inl h))
              · exact .inl (.inr (.inr h))
              · exact .inr h
          · rintro H3 ⟨S3, h3, ks3, hk3, hl3, nd3, hm3⟩
            refine ⟨S3, ks3, hk3, by simp at hl3; omega, nd3, fun x => ?_⟩
            rw [hm3]
            constructor
            · rintro (⟨j, q0, hj, hq0, h⟩ | ⟨_, h⟩ | ⟨_, h⟩)
              · exact ⟨j, q0, by omega, hq0, h⟩
              · exact ⟨i, _, Nat.lt_succ_self i, hlq, .inl h⟩
              · exact ⟨i, _, Nat.lt_succ_self i, hlq, .inr h⟩
            · rintro ⟨j, q0, hj, hq0, h⟩
              by_cases e : j = i
              · subst e
                rw [hlq] at hq0
                cases hq0
                rcases h with h | h
                · exact .inr (.inl ⟨by simp, h⟩)
                · exact .inr (.inr ⟨by simp, h⟩)
              · exact .inl ⟨j, q0, by omega, hq0, h⟩
        · rintro H2 ⟨S2, ks, hk2, hl2, nd2, hm2⟩
          have el : (ts.map V.ref).length = lits.length := by rw [List.length_map, hL.1]
          rw [el] at hl2 hm2
          have mem2 : ∀ x, x ∈ ks ↔ ∃ q ∈ lits, x = q.1 ∨ x = q.2.1 := fun x => (hm2 x).trans ⟨fun ⟨j, q, _, e, h⟩ => ⟨q, List.mem_of_getElem? e, h⟩, fun ⟨q, hq, h⟩ => by
            obtain ⟨j, hj, e⟩ := List.mem_iff_getElem.mp hq
            exact ⟨j, q, hj, by rw [List.getElem?_eq_getElem hj, e], h⟩⟩
          have ends : ∀ q ∈ lits, q.1 ∈ ks ∧ q.2.1 ∈ ks := fun q hq => ⟨(mem2 _).mpr ⟨q, hq, .inl rfl⟩, (mem2 _).mpr ⟨q, hq, .inr rfl⟩⟩
          refine fun bd nbd => ?_
          have ne : hd ≠ bd := fun e => by rw [← e, hk2] at nbd; cases nbd
          have S3 : Same H1 (upd H2 bd (.dK [])) := Same.mut S2 (same_none S2 nbd)
          have hh3 : (upd H2 bd (.dK [])) hd = some (.dK (hk ks fun _ => 0)) := by rw [upd_ne ne]; exact hk2
          have hb3 : (upd H2 bd (.dK [])) bd = some (.dK []) := upd_same
          have n1bd : H1 bd = none := same_none S2 nbd
          generalize upd H2 bd (.dK []) = H3 at *
          have A0 : At K H3 p hd bd ts lits ks [] (Bf.passes lits 0) := ⟨Same.seq S3 hp1, hL1.mono S3, hl, hh3, hb3, ne, ends, ⟨List.nodup_nil, fun t => ⟨fun h => (by cases h), fun h => absurd rfl h⟩⟩, by omega, Bf.passes_good lits 0⟩
          refine ⟨_, rfl, hd, _, rfl, hh3, _, _, rfl, rfl, _, rfl, by omega, by rw [hk_len]; omega, for_range (lo := 0) (n := ((((hk ks fun _ => 0).length : Nat) : Int) + 1).toNat) (fun i σ H' => ∃ (v3 v4 v5 : Option V) (bs : List Str), σ = [some (.ref p), some (.ref hd), some (.ref bd), v3, v4, v5, none, none, none, none] ∧ Same H1 H' ∧ At K H' p hd bd ts lits ks bs (Bf.passes lits i) ∧ (0 < i → ∃ t, v4 = some (.str t) ∧ (Bf.passes lits i).low = some t)) ?_ ?_ ?_⟩
          · exact ⟨none, none, none, [], rfl, S3, A0, fun h => absurd h (Nat.not_lt_zero 0)⟩
          · rintro i σ H4 hi ⟨v3, v4, v5, bs, rfl, S4, A4, _⟩
            refine ⟨_, rfl, _, rfl, _, rfl, p, hd, bd, ts, lits, ks, bs, _, rfl, A4, fun bs5 H5 B5 A5 => ?_⟩
            have S5 : Same H1 H5 := but2_same S4 B5 nhd n1bd
            have ep : Bf.pass lits (Bf.passes lits i) = Bf.passes lits (i + 1) := rfl
            have hlow := Bf.some_none (L := lits) (s := { Bf.passes lits i with low := none }) rfl lits.length
            rw [ep] at A5
            rw [ep]
            rw [show Bf.some_ lits { Bf.passes lits i with low := none } lits.length = Bf.passes lits (i + 1) from rfl] at hlow
            generalize Bf.passes lits (i + 1) = s6 at *
            refine ⟨_, rfl, rfl, _, rfl, ?_⟩
            cases hlw : s6.low with
            | some t => exact iteF ⟨_, some (.str t), v5, bs5, rfl, S5, A5, fun _ => ⟨t, rfl, rfl⟩⟩
            | none =>
              obtain ⟨e6, hle⟩ := hlow hlw
              refine iteT ?_
              have hz : ∃ o, DGet H5 hd (.str "") o ∧ o.getD (.int 0) = .int (s6.h "") := by
                by_cases m : ("" : Str) ∈ ks
                · exact ⟨_, dget_hk A5.hh m, rfl⟩
                · refine ⟨_, DGet.k (k := Sum.inr "") A5.hh, ?_⟩
                  rw [show valV (hk ks s6.h) (Sum.inr "") = none from fk_no (v := fun t => V.int (s6.h t)) m, A5.good.root "" ?_]
                  · rfl
                  · cases hb : s6.by_ "" with
                    | none => rfl
                    | some i =>
                      obtain ⟨r, n, h1, _⟩ := A5.good.own "" i hb
                      exact absurd (ends _ (List.mem_of_getElem? h1)).1 m
              obtain ⟨o, ho, eo⟩ := hz
              refine ⟨_, rfl, hd, rfl, .inl ⟨_, .inl A5.hh⟩, o, ho, ?_⟩
              rw [eo]
              refine ⟨hd, _, A5.hh, trivial, fun od => ⟨_, rfl, hd, od, rfl, .inl ⟨_, upd_same, fun D nD => ?_⟩⟩⟩
              have neD : D ≠ hd := fun e => by rw [e, upd_same] at nD; cases nD
              have n5D : H5 D = none := by rw [upd_ne neD] at nD; exact nD
              generalize hH6 : upd H5 hd (.frz od (.dK (hk ks s6.h))) = H6 at *
              have f6 : H6 hd = some (.frz od (.dK (hk ks s6.h))) := by rw [← hH6, upd_same]
              refine itk_run (fun j H' => Same H6 H' ∧ ∃ ks', H' D = some (.dK (hk ks' fun t => s6.h t - s6.h "")) ∧ ks'.length ≤ j ∧ ks'.Nodup ∧ ∀ x, x ∈ ks' ↔ x ≠ "" ∧ ∃ i, i < j ∧ ks[i]? = some x) ?_ ?_ ?_ ?_
              · exact ⟨Same.new nD, [], upd_same, Nat.zero_le _, List.nodup_nil, fun x => ⟨fun h => (by cases h), fun ⟨_, i, h, _⟩ => absurd h (Nat.not_lt_zero i)⟩⟩
              · rintro j H' ⟨S, _⟩
                exact S _ _ f6
              · rintro j k v H7 hj ⟨S7, ks7, h7, l7, n7, m7⟩
                unfold hk at hj
                rw [List.getElem?_map] at hj
                obtain ⟨x, hx, ex⟩ := Option.map_eq_some_iff.mp hj
                have ek : k = Sum.inr x := (congrArg Prod.fst ex).symm
                subst ek
                have hjl : j < ks.length := (List.getElem?_eq_some_iff.mp hx).1
                refine ⟨rfl, _, rfl, rfl, _, rfl, ?_⟩
                by_cases e : x = ""
                · have e2 : (!decide (kV (Sum.inr x) = V.str "")) = false := by rw [e]; rfl
                  rw [e2]
                  refine iteF ⟨S7, ks7, h7, by omega, n7, fun y => (m7 y).trans ⟨fun ⟨hne, i, hi, hy⟩ => ⟨hne, i, by omega, hy⟩, fun ⟨hne, i, hi, hy⟩ => ⟨hne, i, ?_, hy⟩⟩⟩
                  by_cases e3 : i = j
                  · subst e3
                    rw [hx] at hy
                    cases hy
                    exact absurd e hne
                  · omega
                · have e2 : (!decide (kV (Sum.inr x) = V.str "")) = true := by
                    rw [decide_eq_false fun h => e (by injection h)]
                    rfl
                  rw [e2]
                  obtain ⟨ks8, e8, m8, n8, l8⟩ := hk_more (g := fun t => s6.h t - s6.h "") (t := x) ks7
                  refine iteT ⟨_, rfl, _, rfl, _, rfl, hd, _, rfl, .inl ⟨_, Sum.inr x, .inr ⟨od, S7 _ _ f6⟩, rfl, (hk_get (List.mem_of_getElem? hx)).symm⟩, _, rfl, _, _, rfl, rfl, _, Sum.inr x, rfl, h7, szs (by rw [hk_len]; have := A5.k1000; omega), ?_⟩
                  rw [e8]
                  refine ⟨Same.mut S7 nD, ks8, upd_same, by omega, n8 n7, fun y => ?_⟩
                  rw [m8, m7]
                  constructor
                  · rintro (⟨hne, i, hi, hy⟩ | h)
                    · exact ⟨hne, i, by omega, hy⟩
                    · exact ⟨h ▸ e, j, Nat.lt_succ_self j, h ▸ hx⟩
                  · rintro ⟨hne, i, hi, hy⟩
                    by_cases e3 : i = j
                    · subst e3
                      rw [hx] at hy
                      exact .inr (Option.some.inj hy).symm
                    · exact .inl ⟨hne, i, by omega, hy⟩
              · rintro H7 ⟨S7, ks7, h7, l7, n7, m7⟩
                refine ⟨S7 _ _ f6, (by show 2 ≤ sizeLine; decide), fun R nR => ?_⟩
                have Sb : Same H5 (upd H7 hd (.dK (hk ks s6.h))) := fun c o hc => by
                  by_cases e : c = hd
                  · rw [e, upd_same, ← A5.hh, ← e, hc]
                  · rw [upd_ne e]
                    refine S7 _ _ ?_
                    rw [← hH6, upd_ne e]
                    exact hc
                have hD : (upd H7 hd (.dK (hk ks s6.h))) D = some (.dK (hk ks7 fun t => s6.h t - s6.h "")) := by rw [upd_ne neD]; exact h7
                rw [hk_len] at m7 l7
                have hm : ∀ x, x ∈ ks7 ↔ x ≠ "" ∧ ∃ q ∈ lits, x = q.1 ∨ x = q.2.1 := fun x => by
                  rw [m7, ← mem2]
                  constructor
                  · rintro ⟨hne, i, _, h⟩
                    exact ⟨hne, List.mem_of_getElem? h⟩
                  · rintro ⟨hne, h⟩
                    obtain ⟨i, hi, e⟩ := List.mem_iff_getElem.mp h
                    exact ⟨hne, i, hi, by rw [List.getElem?_eq_getElem hi, e]⟩
                have hv : ∀ t, val (fun t => s6.h t - s6.h "") t = s6.h t - s6.h "" := fun t => by
                  unfold val
                  split
                  · rename_i e
                    rw [e]
                    omega
                  · rfl
                have SR := Same.new (o := .tup [.str "values", .ref D]) nR
                refine kv R D ks7 (fun t => s6.h t - s6.h "") _ (S1.trans (S5.trans (Sb.trans SR))) (SqT.of upd_same) (same_none S1 (same_none S5 n5D)) (SR _ _ hD) n7 (by have := A5.k1000; omega) hm fun q hq => ?_
                rw [hv, hv]
                obtain ⟨j, hj, e⟩ := List.mem_iff_getElem.mp hq
                have := hle j q hj (by rw [List.getElem?_eq_getElem hj, e])
                rw [e6]
                show (Bf.passes lits i).h _ - _ ≤ (Bf.passes lits i).h _ - _ + _
                have h2 : (Bf.passes lits i).h q.1 ≤ (Bf.passes lits i).h q.2.1 + q.2.2 := this
                omega
          · rintro σ H4 ⟨v3, v4, v5, bs, rfl, S4, A4, h4⟩
            have en : ((((hk ks fun _ => 0).length : Nat) : Int) + 1).toNat = ks.length + 1 := by rw [hk_len]; omega
            rw [en] at A4 h4
            obtain ⟨t, rfl, ht⟩ := h4 (Nat.succ_pos _)
            refine ⟨_, rfl, _, rfl, _, rfl, p, bd, ts, lits, bs, _, t, rfl, A4.hp, A4.hL, A4.hb, A4.ok, A4.b1000, A4.good, Bf.no_root ends ht, fun c is f H5 S5 hc R hlen => ?_⟩
            refine ⟨(by show 2 ≤ sizeLine; decide), fun q nq => ?_⟩
            have SR := Same.new (o := .tup [.str "ring", .ref c]) nq
            exact kr q c is f _ (S1.trans (S4.trans (S5.trans SR))) (SqT.of upd_same) (Same.seqT SR hc) R (by have := A4.b1000; omega)
    · refine ⟨_, (pss_cons (ps_expr (pe_callS K_check_literals.ok (hr.mono (by decide)) rfl K_check_literals.mgf K_check_literals.kp K_check_literals.b (fun σ => passAt (takes_of rfl rfl rfl rfl) σ) (pa_cons (pv 0) pa_nil)))
    (pss_cons (ps_set (i := 1) sc_solved.nd rfl (Or.inr rfl) (pe_dc2 (own := [("left", 6), ("right", 7), ("number", 8), ("term", 9)]) (vs1 := [9]) rfl sc_solved.nd (pi_tup (pv 0)) (blkOk_by (own := [("left", 6), ("right", 7), ("number", 8), ("term", 9)]) (N := N_solved) (sc := C8.fnScope s_solved) (by decide +kernel)) (by decide) (fun _ _ _ _ _ => (pgTK K 3 (pgs_cons (pg_name (i := 6) sc_solved.nd rfl (Or.inl rfl)) (pgs_cons (pg_name (i := 7) sc_solved.nd rfl (Or.inl rfl)) (pgs_cons (pg_name (i := 8) sc_solved.nd rfl (Or.inl rfl)) pgs_nil))))) (fun _ _ _ _ _ => pts_nil) (fun _ _ _ _ _ => ((piTK K) (pe_tup (pa_cons (pv 6) (pa_cons (pv 7) pa_nil))))) (fun _ _ _ _ _ => (pg_name (i := 9) sc_solved.nd rfl (Or.inl rfl))) (fun _ _ _ _ _ => pts_nil) (fun _ _ _ _ _ => (pv 9)) (fun _ _ _ _ _ => pe_int)))
    (pss_cons (ps_set (i := 2) sc_solved.nd rfl (Or.inl rfl) pe_dnewK)
    (pss_cons (ps_for (passes_of rfl) rfl (pi_range1 (by rfl) T.z_range (pa_cons (pe_op op_add (pe_callB call_lenD (by rfl) T.z_len (by decide +kernel) (pa_cons (pv 1) pa_nil)) pe_int) pa_nil)) (pg_name (i := 3) sc_solved.nd rfl (Or.inl rfl))
    (pss_cons (ps_set (i := 4) sc_solved.nd rfl (Or.inl rfl) (C8.pe_c K_lower_onceT hr (by decide) (by rfl) (pa_cons (pv 0) (pa_cons (pv 1) (pa_cons (pv 2) pa_nil)))))
    (pss_one (ps_if (pt_cmpR op_isN (pv 4) pe_non (nomark _)) (pss_cons (ps_set (i := 5) sc_solved.nd rfl (Or.inr rfl) (pe_dget2 hu (pv 1) pe_str pe_int ⟨rfl, rfl, rfl, rfl⟩))
    (pss_one (ps_ret (pe_tup (pa_cons pe_str (pa_cons (pe_lock (pe_dc (own := [("term", 9)]) rfl sc_solved.nd (pi_keys (pv 1)) (blkOk_by (own := [("term", 9)]) (N := N_solved) (sc := C8.fnScope s_solved) (by decide +kernel)) (fun _ _ _ _ _ => (pg_name (i := 9) sc_solved.nd rfl (Or.inl rfl))) (fun _ _ _ _ _ => (pts_one (pt_cmpR op_ne (pv 9) pe_str (nomark _)))) (fun _ _ _ _ _ => (pv 9)) (fun _ _ _ _ _ => (pe_op op_sub (pe_dget hu (pv 1) (pv 9) (fun _ _ => rfl)) (pv 5))))) pa_nil)))))) pss_nil))))
    (pss_one (ps_ret (pe_tup (pa_cons pe_str (pa_cons (C8.pe_c K_ring_behindT hr (by decide) (by rfl) (pa_cons (pv 0) (pa_cons (pv 2) (pa_cons (pv 4) pa_nil)))) pa_nil))))))))), ?_⟩
      rcases h with ⟨hl, o⟩ | ⟨hl, gs, hgl, hit, hgood, hbad⟩
      · exact ⟨_, rfl, _, rfl, .inr (.inr ⟨p, xs, rfl, hp, .inl ⟨hl, o⟩⟩)⟩
      · refine ⟨_, rfl, _, rfl, .inr (.inr ⟨p, xs, rfl, hp, .inr ⟨hl, gs, hgl, hit, fun hall H1 S1 => ?_, hbad⟩⟩)⟩
        obtain ⟨ts, lits, rfl, hL⟩ := lits_of hgl hit hall
        have hl : lits.length ≤ 300 := by rw [List.length_map, hL.1] at hl; exact hl
        have kv : ∀ (r d : Addr) (ks : List Str) (g : Str → Int) (H' : Hp), Same H H' → SqT K H' r [.str "values", .ref d] → H d = none → H' d = some (.dK (hk ks g)) → ks.Nodup → ks.length ≤ 1000 → (∀ x, x ∈ ks ↔ x ≠ "" ∧ ∃ q ∈ lits, x = q.1 ∨ x = q.2.1) → (∀ q ∈ lits, val g q.1 ≤ val g q.2.1 + q.2.2) → Q (.ref r) H' := fun r _ _ _ H' S _ _ _ _ _ _ _ => hgood hall r H' S
        have kr : ∀ (r c : Addr) (is : List Nat) (f : Nat → Str) (H' : Hp), Same H H' → SqT K H' r [.str "ring", .ref c] → SqT K H' c (is.map natV) → Bf.IsRing lits is f → is.length ≤ 1000 → Q (.ref r) H' := fun r _ _ _ H' S _ _ _ _ => hgood hall r H' S
        have hp1 := Same.seqT S1 hp
        have hL1 := hL.mono S1
        -- heights
        refine ⟨_, rfl, p, rfl, ⟨_, hp1⟩, fun hd nhd => itt_run (xs := ts.map V.ref) (fun i H' => Same H1 H' ∧ ∃ ks : List Str, H' hd = some (.dK (hk ks fun _ => 0)) ∧ ks.length ≤ 2 * i ∧ ks.Nodup ∧ ∀ x, x ∈ ks ↔ ∃ j q, j < i ∧ lits[j]? = some q ∧ (x = q.1 ∨ x = q.2.1)) ?_ ?_ ?_ ?_⟩
        · exact ⟨Same.new nhd, [], upd_same, Nat.zero_le _, List.nodup_nil, fun x => ⟨fun h => (by cases h), fun ⟨j, q, h, _⟩ => absurd h (Nat.not_lt_zero j)⟩⟩
        · rintro j H' _ ⟨B, _⟩
          exact Same.seqT B hp1
        · rintro i x H2 hx ⟨S2, ks, hk2, hl2, nd2, hm2⟩
          rw [List.getElem?_map] at hx
          obtain ⟨t, ht, rfl⟩ := Option.map_eq_some_iff.mp hx
          have hil : i < lits.length := by
            rw [← hL.1]
            exact (List.getElem?_eq_some_iff.mp ht).1
          have hlq := List.getElem?_eq_getElem hil
          obtain ⟨t', ht', hs⟩ := hL1.2 i _ hlq
          have et : t' = t := Option.some.inj (ht'.symm.trans ht)
          subst et
          have hs2 := Same.seqT S2 hs
          generalize hq : lits[i] = q0 at *
          obtain ⟨lf, rg, n⟩ := q0
          refine ⟨t', _, rfl, hs2, rfl, _, _, rfl, _, _, rfl, _, _, rfl, rfl, rfl, ?_⟩
          refine ⟨_, rfl, _, rfl, (by show 2 ≤ sizeLine; decide), fun q nq => ?_⟩
          have n1 : H1 q = none := same_none S2 nq
          have hq2 : q ≠ hd := fun e => by rw [e, hk2] at nq; cases nq
          refine ⟨q, rfl, ⟨_, SqT.of upd_same⟩, itt_run (xs := [.str lf, .str rg]) (fun j H' => Same H1 H' ∧ H' q = some (.tup [.str lf, .str rg]) ∧ ∃ ks : List Str, H' hd = some (.dK (hk ks fun _ => 0)) ∧ ks.length ≤ 2 * i + j ∧ ks.Nodup ∧ ∀ x, x ∈ ks ↔ (∃ j q, j < i ∧ lits[j]? = some q ∧ (x = q.1 ∨ x = q.2.1)) ∨ (0 < j ∧ x = lf) ∨ (1 < j ∧ x = rg)) ?_ ?_ ?_ ?_⟩
          · exact ⟨Same.mut S2 n1, upd_same, ks, by rw [upd_ne hq2.symm]; exact hk2, hl2, nd2, fun x => (hm2 x).trans ⟨.inl, fun h => h.elim id fun h => h.elim (fun h => absurd h.1 (by omega)) fun h => absurd h.1 (by omega)⟩⟩
          · rintro j H' _ ⟨_, h, _⟩
            exact SqT.of h
          · rintro j x H3 hx ⟨S3, h3, ks3, hk3, hl3, nd3, hm3⟩
            have hj3 : j < 2 := (List.getElem?_eq_some_iff.mp hx).1
            have hx2 : ∃ y : Str, x = .str y ∧ ∀ z, (0 < j ∧ z = lf) ∨ (1 < j ∧ z = rg) ∨ z = y ↔ (0 < j + 1 ∧ z = lf) ∨ (1 < j + 1 ∧ z = rg) := by
              match j, hx with
              | 0, hx => exact ⟨lf, (Option.some.inj hx).symm, fun z => by simp⟩
              | 1, hx => exact ⟨rg, (Option.some.inj hx).symm, fun z => by simp⟩
              | j + 2, hx => cases hx
            obtain ⟨y, rfl, hy⟩ := hx2
            obtain ⟨ks4, e4, m4, n4, l4⟩ := hk_more (g := fun _ => 0) (t := y) ks3
            refine ⟨rfl, _, rfl, _, Sum.inr y, rfl, hk3, szs (by rw [hk_len]; omega), ?_⟩
            rw [e4]
            refine ⟨Same.mut S3 nhd, by rw [upd_ne hq2]; exact h3, ks4, upd_same, by omega, n4 nd3, fun z => ?_⟩
            rw [m4, hm3, ← hy]
            constructor
            · rintro ((h | h | h) | h)
              · exact .inl h
              · exact .inr (.inl h)
              · exact .inr (.inr (.inl h))
              · exact .inr (.inr (.inr h))
            · rintro (h | h | h | h)
              · exact .inl (.inl h)
              · exact .inl (.inr (.inl h))
              · exact .inl (.inr (.inr h))
              · exact .inr h
          · rintro H3 ⟨S3, h3, ks3, hk3, hl3, nd3, hm3⟩
            refine ⟨S3, ks3, hk3, by simp at hl3; omega, nd3, fun x => ?_⟩
            rw [hm3]
            constructor
            · rintro (⟨j, q0, hj, hq0, h⟩ | ⟨_, h⟩ | ⟨_, h⟩)
              · exact ⟨j, q0, by omega, hq0, h⟩
              · exact ⟨i, _, Nat.lt_succ_self i, hlq, .inl h⟩
              · exact ⟨i, _, Nat.lt_succ_self i, hlq, .inr h⟩
            · rintro ⟨j, q0, hj, hq0, h⟩
              by_cases e : j = i
              · subst e
                rw [hlq] at hq0
                cases hq0
                rcases h with h | h
                · exact .inr (.inl ⟨by simp, h⟩)
                · exact .inr (.inr ⟨by simp, h⟩)
              · exact .inl ⟨j, q0, by omega, hq0, h⟩
        · rintro H2 ⟨S2, ks, hk2, hl2, nd2, hm2⟩
          have el : (ts.map V.ref).length = lits.length := by rw [List.length_map, hL.1]
          rw [el] at hl2 hm2
          have mem2 : ∀ x, x ∈ ks ↔ ∃ q ∈ lits, x = q.1 ∨ x = q.2.1 := fun x => (hm2 x).trans ⟨fun ⟨j, q, _, e, h⟩ => ⟨q, List.mem_of_getElem? e, h⟩, fun ⟨q, hq, h⟩ => by
            obtain ⟨j, hj, e⟩ := List.mem_iff_getElem.mp hq
            exact ⟨j, q, hj, by rw [List.getElem?_eq_getElem hj, e], h⟩⟩
          have ends : ∀ q ∈ lits, q.1 ∈ ks ∧ q.2.1 ∈ ks := fun q hq => ⟨(mem2 _).mpr ⟨q, hq, .inl rfl⟩, (mem2 _).mpr ⟨q, hq, .inr rfl⟩⟩
          refine fun bd nbd => ?_
          have ne : hd ≠ bd := fun e => by rw [← e, hk2] at nbd; cases nbd
          have S3 : Same H1 (upd H2 bd (.dK [])) := Same.mut S2 (same_none S2 nbd)
          have hh3 : (upd H2 bd (.dK [])) hd = some (.dK (hk ks fun _ => 0)) := by rw [upd_ne ne]; exact hk2
          have hb3 : (upd H2 bd (.dK [])) bd = some (.dK []) := upd_same
          have n1bd : H1 bd = none := same_none S2 nbd
          generalize upd H2 bd (.dK []) = H3 at *
          have A0 : AtT K H3 p hd bd ts lits ks [] (Bf.passes lits 0) := ⟨Same.seqT S3 hp1, hL1.mono S3, hl, hh3, hb3, ne, ends, ⟨List.nodup_nil, fun t => ⟨fun h => (by cases h), fun h => absurd rfl h⟩⟩, by omega, Bf.passes_good lits 0⟩
          refine ⟨_, rfl, hd, _, rfl, hh3, _, _, rfl, rfl, _, rfl, by omega, by rw [hk_len]; omega, for_range (lo := 0) (n := ((((hk ks fun _ => 0).length : Nat) : Int) + 1).toNat) (fun i σ H' => ∃ (v3 v4 v5 : Option V) (bs : List Str), σ = [some (.ref p), some (.ref hd), some (.ref bd), v3, v4, v5, none, none, none, none] ∧ Same H1 H' ∧ AtT K H' p hd bd ts lits ks bs (Bf.passes lits i) ∧ (0 < i → ∃ t, v4 = some (.str t) ∧ (Bf.passes lits i).low = some t)) ?_ ?_ ?_⟩
          · exact ⟨none, none, none, [], rfl, S3, A0, fun h => absurd h (Nat.not_lt_zero 0)⟩
          · rintro i σ H4 hi ⟨v3, v4, v5, bs, rfl, S4, A4, _⟩
            refine ⟨_, rfl, _, rfl, _, rfl, p, hd, bd, ts, lits, ks, bs, _, rfl, A4, fun bs5 H5 B5 A5 => ?_⟩
            have S5 : Same H1 H5 := but2_same S4 B5 nhd n1bd
            have ep : Bf.pass lits (Bf.passes lits i) = Bf.passes lits (i + 1) := rfl
            have hlow := Bf.some_none (L := lits) (s := { Bf.passes lits i with low := none }) rfl lits.length
            rw [ep] at A5
            rw [ep]
            rw [show Bf.some_ lits { Bf.passes lits i with low := none } lits.length = Bf.passes lits (i + 1) from rfl] at hlow
            generalize Bf.passes lits (i + 1) = s6 at *
            refine ⟨_, rfl, rfl, _, rfl, ?_⟩
            cases hlw : s6.low with
            | some t => exact iteF ⟨_, some (.str t), v5, bs5, rfl, S5, A5, fun _ => ⟨t, rfl, rfl⟩⟩
            | none =>
              obtain ⟨e6, hle⟩ := hlow hlw
              refine iteT ?_
              have hz : ∃ o, DGet H5 hd (.str "") o ∧ o.getD (.int 0) = .int (s6.h "") := by
                by_cases m : ("" : Str) ∈ ks
                · exact ⟨_, dget_hk A5.hh m, rfl⟩
                · refine ⟨_, DGet.k (k := Sum.inr "") A5.hh, ?_⟩
                  rw [show valV (hk ks s6.h) (Sum.inr "") = none from fk_no (v := fun t => V.int (s6.h t)) m, A5.good.root "" ?_]
                  · rfl
                  · cases hb : s6.by_ "" with
                    | none => rfl
                    | some i =>
                      obtain ⟨r, n, h1, _⟩ := A5.good.own "" i hb
                      exact absurd (ends _ (List.mem_of_getElem? h1)).1 m
              obtain ⟨o, ho, eo⟩ := hz
              refine ⟨_, rfl, hd, rfl, .inl ⟨_, .inl A5.hh⟩, o, ho, ?_⟩
              rw [eo]
              refine ⟨hd, _, A5.hh, trivial, fun od => ⟨_, rfl, hd, od, rfl, .inl ⟨_, upd_same, fun D nD => ?_⟩⟩⟩
              have neD : D ≠ hd := fun e => by rw [e, upd_same] at nD; cases nD
              have n5D : H5 D = none := by rw [upd_ne neD] at nD; exact nD
              generalize hH6 : upd H5 hd (.frz od (.dK (hk ks s6.h))) = H6 at *
              have f6 : H6 hd = some (.frz od (.dK (hk ks s6.h))) := by rw [← hH6, upd_same]
              refine itk_run (fun j H' => Same H6 H' ∧ ∃ ks', H' D = some (.dK (hk ks' fun t => s6.h t - s6.h "")) ∧ ks'.length ≤ j ∧ ks'.Nodup ∧ ∀ x, x ∈ ks' ↔ x ≠ "" ∧ ∃ i, i < j ∧ ks[i]? = some x) ?_ ?_ ?_ ?_
              · exact ⟨Same.new nD, [], upd_same, Nat.zero_le _, List.nodup_nil, fun x => ⟨fun h => (by cases h), fun ⟨_, i, h, _⟩ => absurd h (Nat.not_lt_zero i)⟩⟩
              · rintro j H' ⟨S, _⟩
                exact S _ _ f6
              · rintro j k v H7 hj ⟨S7, ks7, h7, l7, n7, m7⟩
                unfold hk at hj
                rw [List.getElem?_map] at hj
                obtain ⟨x, hx, ex⟩ := Option.map_eq_some_iff.mp hj
                have ek : k = Sum.inr x := (congrArg Prod.fst ex).symm
                subst ek
                have hjl : j < ks.length := (List.getElem?_eq_some_iff.mp hx).1
                refine ⟨rfl, _, rfl, rfl, _, rfl, ?_⟩
                by_cases e : x = ""
                · have e2 : (!decide (kV (Sum.inr x) = V.str "")) = false := by rw [e]; rfl
                  rw [e2]
                  refine iteF ⟨S7, ks7, h7, by omega, n7, fun y => (m7 y).trans ⟨fun ⟨hne, i, hi, hy⟩ => ⟨hne, i, by omega, hy⟩, fun ⟨hne, i, hi, hy⟩ => ⟨hne, i, ?_, hy⟩⟩⟩
                  by_cases e3 : i = j
                  · subst e3
                    rw [hx] at hy
                    cases hy
                    exact absurd e hne
                  · omega
                · have e2 : (!decide (kV (Sum.inr x) = V.str "")) = true := by
                    rw [decide_eq_false fun h => e (by injection h)]
                    rfl
                  rw [e2]
                  obtain ⟨ks8, e8, m8, n8, l8⟩ := hk_more (g := fun t => s6.h t - s6.h "") (t := x) ks7
                  refine iteT ⟨_, rfl, _, rfl, _, rfl, hd, _, rfl, .inl ⟨_, Sum.inr x, .inr ⟨od, S7 _ _ f6⟩, rfl, (hk_get (List.mem_of_getElem? hx)).symm⟩, _, rfl, _, _, rfl, rfl, _, Sum.inr x, rfl, h7, szs (by rw [hk_len]; have := A5.k1000; omega), ?_⟩
                  rw [e8]
                  refine ⟨Same.mut S7 nD, ks8, upd_same, by omega, n8 n7, fun y => ?_⟩
                  rw [m8, m7]
                  constructor
                  · rintro (⟨hne, i, hi, hy⟩ | h)
                    · exact ⟨hne, i, by omega, hy⟩
                    · exact ⟨h ▸ e, j, Nat.lt_succ_self j, h ▸ hx⟩
                  · rintro ⟨hne, i, hi, hy⟩
                    by_cases e3 : i = j
                    · subst e3
                      rw [hx] at hy
                      exact .inr (Option.some.inj hy).symm
                    · exact .inl ⟨hne, i, by omega, hy⟩
              · rintro H7 ⟨S7, ks7, h7, l7, n7, m7⟩
                refine ⟨S7 _ _ f6, (by show 2 ≤ sizeLine; decide), fun R nR => ?_⟩
                have Sb : Same H5 (upd H7 hd (.dK (hk ks s6.h))) := fun c o hc => by
                  by_cases e : c = hd
                  · rw [e, upd_same, ← A5.hh, ← e, hc]
                  · rw [upd_ne e]
                    refine S7 _ _ ?_
                    rw [← hH6, upd_ne e]
                    exact hc
                have hD : (upd H7 hd (.dK (hk ks s6.h))) D = some (.dK (hk ks7 fun t => s6.h t - s6.h "")) := by rw [upd_ne neD]; exact h7
                rw [hk_len] at m7 l7
                have hm : ∀ x, x ∈ ks7 ↔ x ≠ "" ∧ ∃ q ∈ lits, x = q.1 ∨ x = q.2.1 := fun x => by
                  rw [m7, ← mem2]
                  constructor
                  · rintro ⟨hne, i, _, h⟩
                    exact ⟨hne, List.mem_of_getElem? h⟩
                  · rintro ⟨hne, h⟩
                    obtain ⟨i, hi, e⟩ := List.mem_iff_getElem.mp h
                    exact ⟨hne, i, hi, by rw [List.getElem?_eq_getElem hi, e]⟩
                have hv : ∀ t, val (fun t => s6.h t - s6.h "") t = s6.h t - s6.h "" := fun t => by
                  unfold val
                  split
                  · rename_i e
                    rw [e]
                    omega
                  · rfl
                have SR := Same.new (o := .tup [.str "values", .ref D]) nR
                refine kv R D ks7 (fun t => s6.h t - s6.h "") _ (S1.trans (S5.trans (Sb.trans SR))) (SqT.of upd_same) (same_none S1 (same_none S5 n5D)) (SR _ _ hD) n7 (by have := A5.k1000; omega) hm fun q hq => ?_
                rw [hv, hv]
                obtain ⟨j, hj, e⟩ := List.mem_iff_getElem.mp hq
                have := hle j q hj (by rw [List.getElem?_eq_getElem hj, e])
                rw [e6]
                show (Bf.passes lits i).h _ - _ ≤ (Bf.passes lits i).h _ - _ + _
                have h2 : (Bf.passes lits i).h q.1 ≤ (Bf.passes lits i).h q.2.1 + q.2.2 := this
                omega
          · rintro σ H4 ⟨v3, v4, v5, bs, rfl, S4, A4, h4⟩
            have en : ((((hk ks fun _ => 0).length : Nat) : Int) + 1).toNat = ks.length + 1 := by rw [hk_len]; omega
            rw [en] at A4 h4
            obtain ⟨t, rfl, ht⟩ := h4 (Nat.succ_pos _)
            refine ⟨_, rfl, _, rfl, _, rfl, p, bd, ts, lits, bs, _, t, rfl, A4.hp, A4.hL, A4.hb, A4.ok, A4.b1000, A4.good, Bf.no_root ends ht, fun c is f H5 S5 hc R hlen => ?_⟩
            refine ⟨(by show 2 ≤ sizeLine; decide), fun q nq => ?_⟩
            have SR := Same.new (o := .tup [.str "ring", .ref c]) nq
            exact kr q c is f _ (S1.trans (S4.trans (S5.trans SR))) (SqT.of upd_same) (Same.seqT SR hc) R (by have := A4.b1000; omega)
end
end K3

namespace K3
open PySem L2 Bx
theorem nodup_le : ∀ {out is : List Int}, out.Nodup → (∀ k ∈ out, k ∈ is) → out.length ≤ is.length
  | [], _, _, _ => Nat.zero_le _
  | a :: o, is, nd, h => by
    have ha : a ∈ is := h a List.mem_cons_self
    have hn := List.nodup_cons.mp nd
    have e : o.length ≤ (is.erase a).length := nodup_le hn.2 fun k hk => (List.mem_erase_of_ne (fun q => hn.1 (by rw [← q]; exact hk))).mpr (h k (List.mem_cons_of_mem _ hk))
    have e2 : (is.erase a).length = is.length - 1 := List.length_erase_of_mem ha
    have hp : 0 < is.length := List.length_pos_of_mem ha
    rw [List.length_cons]
    omega
def lft (lits : List (Str × Str × Int)) (i : Nat) : Str := (lits.getD i ("", "", 0)).1
def rgt (lits : List (Str × Str × Int)) (i : Nat) : Str := (lits.getD i ("", "", 0)).2.1
theorem at_lit {lits : List (Str × Str × Int)} {i : Nat} {q : Str × Str × Int} (h : lits[i]? = some q) : lft lits i = q.1 ∧ rgt lits i = q.2.1 ∧ Bf.num lits i = q.2.2 := by
  unfold lft rgt
  rw [List.getD_eq_getElem?_getD, h]
  exact ⟨rfl, rfl, Bf.num_at h⟩
def prev (n j : Nat) : Nat := if j = 0 then n - 1 else j - 1
def RingN (lits : List (Str × Str × Int)) (is : List Nat) : Prop :=
  is ≠ [] ∧ (∀ j, j < is.length → lft lits (is.getD j 0) = rgt lits (is.getD (prev is.length j) 0)) ∧ Bf.tot lits is < 0
theorem tot_append (lits : List (Str × Str × Int)) : ∀ xs ys : List Nat, Bf.tot lits (xs ++ ys) = Bf.tot lits xs + Bf.tot lits ys
  | [], ys => by simp [Bf.tot]
  | x :: xs, ys => by
    show Bf.num lits x + Bf.tot lits (xs ++ ys) = Bf.num lits x + Bf.tot lits xs + Bf.tot lits ys
    rw [tot_append lits xs ys]
    omega
theorem take_snoc {α : Type} {xs : List α} {i : Nat} {x : α} (h : xs[i]? = some x) : xs.take (i + 1) = xs.take i ++ [x] := by
  rw [List.take_succ, h]
  rfl
theorem natV_map (is : List Nat) : is.map natV = (is.map Int.ofNat).map V.int := by
  rw [List.map_map]
  rfl
theorem at_lastR {ts : List Addr} {t : Addr} {n : Nat} (hn : ts.length = n) (h0 : 0 < n) (h : ts[n - 1]? = some t) : atI (ts.map V.ref) (-1) = some (.ref t) := by
  unfold atI ixN
  rw [if_neg (by decide), if_pos (by rw [List.length_map]; omega)]
  have e : ((-1 : Int) + (((ts.map V.ref).length : Nat) : Int)).toNat = n - 1 := by rw [List.length_map]; omega
  show (ts.map V.ref)[((-1 : Int) + (((ts.map V.ref).length : Nat) : Int)).toNat]? = _
  rw [e, List.getElem?_map, h]
  rfl
section
variable {P : Program} {w : World} {K : PySem.W.Frag} {mg : Str → Option Value} {base : Heap} {C fI : Addr}
def spAre0 (K : PySem.W.Frag) : Sp := fun vs H Q _ => ∃ (c : Addr) (m : Nat), vs = [.ref c, .int (m : Nat)] ∧ SqT K H c [.int 0] ∧ ∀ (b : Bool) (H' : Hp), Same H H' → (b = true → 0 < m) → Q (.bl b) H'
theorem ok_are_indices {f : Addr} {fd : FuncData} (F : C8.Def K mg "are_indices" s_are_indices f fd) (b : Binds K fd ["indices", "many"] []) (T : Txt K mg C fI) (K_is_number : C8.Cal P w K mg base 1 "is_number" (spNum K) []) :
    C8.Cal P w K mg base 2 "are_indices" (spAre0 K) [] := by
  refine C8.cal0 F b .nil sc_are_indices (fun vs H Q E h => ?_) (fun cdv A outer s H vs Q E hr h => ?_)
  · obtain ⟨c, m, rfl, _⟩ := h
    rfl
  · obtain ⟨c, m, rfl, hc, k⟩ := h
    refine ⟨_, (pss_cons (ps_if (PW.pt (pw_or (pt_not (pt_val (pe_callB call_isi (by rfl) T.z_isinstance (by decide +kernel) (pa_cons (pv 0) (pa_cons (pe_bltn (v := .ty "tuple") (by rfl) T.z_tuple (by decide +kernel) rfl) pa_nil))))) (pw_or1 (pt_not (pt_truth (pv 0) (by intro _; rfl)))))) (pss_one (ps_ret pe_bl)) pss_nil)
    (pss_cons (ps_for PassesOwn.never rfl (pi_tup (pv 0)) (pg_name (i := 2) sc_are_indices.nd rfl (Or.inl rfl))
    (pss_one (ps_if (PW.pt (pw_or (pt_not (pt_val (C8.pe_c K_is_number hr (by decide) (by rfl) (pa_cons (pv 2) pa_nil)))) (pw_or1 (pt_not (pt_chain op_le op_lt pe_int (pv 2) (pv 1)))))) (pss_one (ps_ret pe_bl)) pss_nil)))
    (pss_one (ps_ret (pe_cmpR op_eq (pe_lenSetT T.z_len T.z_set (pv 0)) (pe_callB call_len_seq (by rfl) T.z_len (by decide +kernel) (pa_cons (pv 0) pa_nil)) (nomark _)))))), ?_⟩
    refine ⟨_, rfl, _, _, _, _, true, rfl, .ty _, tyT hc, rfl, _, rfl, ?_⟩
    refine iteF ?_
    refine ⟨_, rfl, true, .inr (.inl ⟨_, hc, rfl⟩), ?_⟩
    refine iteF ?_
    refine ⟨_, rfl, c, rfl, ⟨_, hc⟩, for_tup (xs := [V.int 0]) (fun i σ H' => ∃ (v2 : Option V), σ = [some (.ref c), some (.int (m : Nat)), v2] ∧ Same H H' ∧ (0 < i → 0 < m))
      ⟨none, rfl, Same.refl H, fun h => absurd h (Nat.lt_irrefl 0)⟩ (fun i σ H' _ h => ?_) ?_ ?_⟩
    · obtain ⟨v2, rfl, S, _⟩ := h
      exact Same.seqT S hc
    · rintro i x σ H2 hx ⟨v2, rfl, S, _⟩
      have ex : x = V.int 0 := by
        rcases i with _ | i
        · exact (Option.some.inj hx).symm
        · cases hx
      subst ex
      refine ⟨_, rfl, _, _, true, false, rfl, .base (.int 0), rfl, rfl, _, rfl, ?_⟩
      refine iteF ?_
      refine ⟨_, rfl, _, _, rfl, rfl, _, rfl, ?_⟩
      refine iteT ?_
      refine ⟨_, rfl, _, _, rfl, rfl, _, rfl, ?_⟩
      by_cases hz1 : (0 : Int) < (m : Int)
      rotate_left
      · have e1 : decide ((0 : Int) < (m : Int)) = false := decide_eq_false hz1
        rw [e1]
        exact iteT (k false H2 S fun h => (by cases h))
      have e1 : decide ((0 : Int) < (m : Int)) = true := decide_eq_true hz1
      rw [e1]
      exact iteF ⟨_, rfl, S, fun _ => by omega⟩
    · rintro σ H2 ⟨v2, rfl, S, hm⟩
      have hc2 := Same.seqT S hc
      refine ⟨_, rfl, c, [0], rfl, hc2, by decide, fun out nd hm2 => ⟨_, rfl, c, _, rfl, .inr hc2, rfl, ?_⟩⟩
      exact k _ H2 S fun _ => hm (by decide)
/-- each literal ends where the next one begins, with a sum below 0 -/
def Round (ls : List (Str × Str × Int)) : Prop := (∀ j, j < ls.length → (ls.getD j ("", "", 0)).1 = (ls.getD (if j = 0 then ls.length - 1 else j - 1) ("", "", 0)).2.1) ∧ (ls.map fun q => q.2.2).sum < 0
def spRound (K : PySem.W.Frag) : Sp := fun vs H Q _ => ∃ (p : Addr) (us : List Addr) (ls : List (Str × Str × Int)), vs = [.ref p] ∧ SqL K H p (us.map V.ref) ∧ LitsAt K H us ls ∧ ls ≠ [] ∧
  ∀ (b : Bool) (H' : Hp), Same H H' → (b = true ↔ Round ls) → Q (.bl b) H'
theorem ok_goes_round {f : Addr} {fd : FuncData} (F : C8.Def K mg "goes_round" s_goes_round f fd) (b : Binds K fd ["literals"] []) (T : Txt K mg C fI) :
    C8.Cal P w K mg base 1 "goes_round" (spRound K) [] := by
  refine C8.cal0 F b .nil sc_goes_round (fun vs H Q E h => ?_) (fun cdv A outer s H vs Q E hr h => ?_)
  · obtain ⟨p, us, ls, rfl, _⟩ := h
    rfl
  · obtain ⟨p, us, ls, rfl, hp, hL, hne, k⟩ := h
    refine ⟨_, (pss_cons (ps_set (i := 1) sc_goes_round.nd rfl (Or.inl rfl) pe_int)
    (pss_cons (ps_set (i := 2) sc_goes_round.nd rfl (Or.inl rfl) (pe_ix ix_tup (pe_ix ix_list (pv 0) (pe_un un_neg pe_int) (fun _ _ => rfl)) pe_int (fun _ _ => rfl)))
    (pss_cons (ps_for PassesOwn.never rfl (pi_list (pv 0)) (pg_tup (by rfl) (pgs_cons (pg_name (i := 3) sc_goes_round.nd rfl (Or.inl rfl)) (pgs_cons (pg_name (i := 4) sc_goes_round.nd rfl (Or.inl rfl)) (pgs_cons (pg_name (i := 5) sc_goes_round.nd rfl (Or.inl rfl)) pgs_nil))))
    (pss_cons (ps_if (pt_cmpR op_ne (pv 3) (pv 2) (nomark _)) (pss_one (ps_ret pe_bl)) pss_nil)
    (pss_cons (ps_set (i := 2) sc_goes_round.nd rfl (Or.inl rfl) (pv 4))
    (pss_one (ps_set (i := 1) sc_goes_round.nd rfl (Or.inl rfl) (pe_op op_add (pv 1) (pv 5)))))))
    (pss_one (ps_ret (pe_cmpR op_lt (pv 1) pe_int (nomark _))))))), ?_⟩
    have hul := hL.1
    have hpos : 0 < ls.length := List.length_pos_iff.mpr hne
    obtain ⟨t, ht, hs⟩ := hL.2 (ls.length - 1) _ (List.getElem?_eq_getElem (by omega))
    have hat : atI (us.map V.ref) (-1) = some (.ref t) := at_lastR hul hpos ht
    refine ⟨_, rfl, _, rfl, p, _, _, _, rfl, rfl, hp, hat, t, _, _, _, rfl, rfl, hs, rfl, ?_⟩
    refine ⟨_, rfl, p, rfl, ⟨_, hp⟩, for_list (xs := us.map V.ref) (fun i σ H' => ∃ (v3 v4 v5 : Option V), σ = [some (.ref p), some (.int ((ls.take i).map fun q => q.2.2).sum), some (.str (ls.getD (if i = 0 then ls.length - 1 else i - 1) ("", "", 0)).2.1), v3, v4, v5] ∧ Same H H' ∧
        ∀ j, j < i → (ls.getD j ("", "", 0)).1 = (ls.getD (if j = 0 then ls.length - 1 else j - 1) ("", "", 0)).2.1)
      ⟨none, none, none, ?_, Same.refl H, fun j hj => absurd hj (Nat.not_lt_zero j)⟩ (fun i σ H' _ h => ?_) ?_ ?_⟩
    · show _ = [some (V.ref p), some (V.int 0), some (V.str (ls.getD (ls.length - 1) ("", "", 0)).2.1), _, _, _]
      rw [List.getD_eq_getElem?_getD, List.getElem?_eq_getElem (by omega)]
      rfl
    · obtain ⟨v3, v4, v5, rfl, S, _⟩ := h
      exact S.seq hp
    · rintro i x σ H2 hx ⟨v3, v4, v5, rfl, S, hch⟩
      rw [List.getElem?_map] at hx
      obtain ⟨t', ht', rfl⟩ := Option.map_eq_some_iff.mp hx
      have hil : i < ls.length := by
        rw [← hul]
        exact (List.getElem?_eq_some_iff.mp ht').1
      obtain ⟨t2, ht2, hs2⟩ := hL.2 i _ (List.getElem?_eq_getElem hil)
      have et : t2 = t' := Option.some.inj (ht2.symm.trans ht')
      subst et
      have egd : ls.getD i ("", "", 0) = ls[i] := by rw [List.getD_eq_getElem?_getD, List.getElem?_eq_getElem hil]; rfl
      refine ⟨t2, _, rfl, Same.seqT S hs2, rfl, _, _, rfl, _, _, rfl, _, _, rfl, rfl, ?_⟩
      refine ⟨_, rfl, _, rfl, rfl, _, rfl, ?_⟩
      by_cases hq : ls[i].1 = (ls.getD (if i = 0 then ls.length - 1 else i - 1) ("", "", 0)).2.1
      rotate_left
      · have e2 : (!decide (V.str ls[i].1 = V.str (ls.getD (if i = 0 then ls.length - 1 else i - 1) ("", "", 0)).2.1)) = true := by
          rw [decide_eq_false (fun h => hq (by injection h))]
          rfl
        rw [e2]
        refine iteT ?_
        refine k false H2 S ⟨fun h => (by cases h), fun h => ?_⟩
        have := h.1 i hil
        rw [egd] at this
        exact (hq this).elim
      have e2 : (!decide (V.str ls[i].1 = V.str (ls.getD (if i = 0 then ls.length - 1 else i - 1) ("", "", 0)).2.1)) = false := by
        rw [decide_eq_true (congrArg V.str hq)]
        rfl
      rw [e2]
      refine iteF ?_
      refine ⟨_, rfl, _, rfl, _, rfl, _, _, rfl, rfl, ?_⟩
      refine ⟨some (.str ls[i].1), some (.str ls[i].2.1), some (.int ls[i].2.2), ?_, S, fun j hj => ?_⟩
      · have e3 : ls.getD (if i + 1 = 0 then ls.length - 1 else i + 1 - 1) ("", "", 0) = ls[i] := by
          rw [if_neg (Nat.succ_ne_zero i), Nat.add_sub_cancel]
          exact egd
        have e4 : ((ls.take (i + 1)).map fun q => q.2.2).sum = ((ls.take i).map fun q => q.2.2).sum + ls[i].2.2 := by
          rw [take_snoc (List.getElem?_eq_getElem hil), List.map_append, List.sum_append]
          simp
        rw [e3, e4]
        rfl
      · rcases Nat.lt_succ_iff_lt_or_eq.mp hj with h | h
        · exact hch j h
        · rw [h, egd]
          exact hq
    · rintro σ H2 ⟨v3, v4, v5, rfl, S, hch⟩
      rw [List.length_map, hul] at hch
      refine ⟨_, rfl, _, _, rfl, rfl, ?_⟩
      refine k _ _ S ?_
      rw [decide_eq_true_eq, List.length_map, hul, List.take_length]
      exact ⟨fun h => ⟨hch, h⟩, fun h => h.2⟩
/-- is_ring of a thing and (0,) -/
def spRing0 (K : PySem.W.Frag) (C : Addr) : Sp := fun vs H Q E => ∃ v c, vs = [v, .ref c] ∧ SqT K H c [.int 0] ∧ Chk K C v H E (∀ b H', Same H H' → Q (.bl b) H')
theorem ok_is_ring {f fC : Addr} {fd fdC : FuncData} (F : C8.Fun K "is_ring" "is_ring" s_is_ring f fd) (T : Txt K mg C fI) (K_are_indices : C8.Cal P w K mg base 2 "are_indices" (spAre0 K) []) (K_goes_round : C8.Cal P w K mg base 1 "goes_round" (spRound K) []) (K_check_literals : CalX P w K mg base 3 "check_literals" fC fdC ["literals"] (spChk K C)) : FnOk P w K mg base (L2.CX P w) 4 f fd ["literals", "indices"] (spRing0 K C) := by
  refine fnX F sc_is_ring (fun vs H Q E h => ?_) (fun cdv A outer s H vs Q E hr h => ?_)
  · obtain ⟨v, c, rfl, _⟩ := h
    rfl
  · obtain ⟨v, c, rfl, hc0, ⟨t, ty, kt, o⟩ | ⟨p, xs, rfl, hp1, h⟩ | ⟨p, xs, rfl, hp1, h⟩⟩ := h
    · exact ⟨_, (pss_cons (ps_expr (pe_callS K_check_literals.ok (hr.mono (by decide)) rfl K_check_literals.mgf K_check_literals.kp K_check_literals.b (fun σ => passAt (takes_of rfl rfl rfl rfl) σ) (pa_cons (pv 0) pa_nil)))
    (pss_one (ps_ret (pe_and (C8.pe_c K_are_indices hr (by decide) (by rfl) (pa_cons (pv 1) (pa_cons (pe_callB call_len_seq (by rfl) T.z_len (by decide +kernel) (pa_cons (pv 0) pa_nil)) pa_nil))) (pe_one (C8.pe_c K_goes_round hr (by decide) (by rfl) (pa_cons (pe_lc (own := [("index", 2)]) (g := gName 2) (tt := tYes) rfl sc_is_ring.nd (pi_tup (pv 1)) (blkOk_by (own := [("index", 2)]) (N := N_is_ring) (sc := C8.fnScope s_is_ring) (by decide +kernel)) (fun _ _ _ _ _ => (pg_name (i := 2) sc_is_ring.nd rfl (Or.inl rfl))) (fun _ _ _ _ _ => pts_nil) (fun _ _ _ _ _ => (pe_ix (ixLK K) (pv 0) (pv 2) (fun _ _ => rfl)))) pa_nil))))))), ⟨_, rfl, _, rfl, .inl ⟨t, ty, kt, o⟩⟩⟩
    · refine ⟨_, (pss_cons (ps_expr (pe_callS K_check_literals.ok (hr.mono (by decide)) rfl K_check_literals.mgf K_check_literals.kp K_check_literals.b (fun σ => passAt (takes_of rfl rfl rfl rfl) σ) (pa_cons (pv 0) pa_nil)))
    (pss_one (ps_ret (pe_and (C8.pe_c K_are_indices hr (by decide) (by rfl) (pa_cons (pv 1) (pa_cons (pe_callB call_len_seq (by rfl) T.z_len (by decide +kernel) (pa_cons (pv 0) pa_nil)) pa_nil))) (pe_one (C8.pe_c K_goes_round hr (by decide) (by rfl) (pa_cons (pe_lc (own := [("index", 2)]) (g := gName 2) (tt := tYes) rfl sc_is_ring.nd (pi_tup (pv 1)) (blkOk_by (own := [("index", 2)]) (N := N_is_ring) (sc := C8.fnScope s_is_ring) (by decide +kernel)) (fun _ _ _ _ _ => (pg_name (i := 2) sc_is_ring.nd rfl (Or.inl rfl))) (fun _ _ _ _ _ => pts_nil) (fun _ _ _ _ _ => (pe_ix (ixLK K) (pv 0) (pv 2) (fun _ _ => rfl)))) pa_nil))))))), ?_⟩
      rcases h with ⟨hl, o⟩ | ⟨hl, gs, hgl, hit, hgood, hbad⟩
      · exact ⟨_, rfl, _, rfl, .inr (.inl ⟨p, xs, rfl, hp1, .inl ⟨hl, o⟩⟩)⟩
      · refine ⟨_, rfl, _, rfl, .inr (.inl ⟨p, xs, rfl, hp1, .inr ⟨hl, gs, hgl, hit, fun hall H0 S0 => ?_, hbad⟩⟩)⟩
        obtain ⟨ts, lits, rfl, hL0⟩ := lits_of hgl hit hall
        have good := hgood hall
        have hp := S0.seq hp1
        have hL := hL0.mono S0
        have hc := Same.seqT S0 hc0
        have hpl : (ts.map V.ref).length = lits.length := by rw [List.length_map, hL.1]
        refine ⟨_, rfl, _, rfl, p, _, rfl, .inl hp, c, _, rfl, hc, fun b1 H1 S1 hb1 => ?_⟩
        cases b1 with
        | false => exact ⟨_, rfl, iteF (good false H1 (S0.trans S1))⟩
        | true =>
          refine ⟨_, rfl, iteT ?_⟩
          have hm : 0 < lits.length := by
            have := hb1 rfl
            omega
          have hp2 := S1.seq hp
          have hc1 := Same.seqT S1 hc
          obtain ⟨t, ht, hs⟩ := (hL.mono S1).2 0 _ (List.getElem?_eq_getElem hm)
          have hat : atI (ts.map V.ref) 0 = some (.ref t) := atI_nat (j := 0) (by rw [List.getElem?_map, ht]; rfl)
          have szs : ∀ {n : Nat}, n ≤ 1000 → n < sizeLine := fun h => Nat.lt_of_le_of_lt h (by decide)
          refine ⟨_, rfl, c, rfl, ⟨_, hc1⟩, fun D n1 => lc_tup (xs := [V.int 0]) (fun j H' => Same H1 H' ∧ H' D = some (.lst (([t].take j).map V.ref))) ⟨Same.new n1, upd_same⟩ (fun j H' _ h => Same.seqT h.1 hc1) ?_ ?_⟩
          · rintro j x H3 hx ⟨S3, h3⟩
            rcases j with _ | j
            · have ex : x = V.int 0 := (Option.some.inj hx).symm
              subst ex
              refine ⟨rfl, _, rfl, _, rfl, p, _, _, _, rfl, rfl, S3.seq hp2, hat, _, h3, szs (by simp), Same.mut S3 n1, ?_⟩
              rw [upd_same]
              rfl
            · cases hx
          rintro H3 ⟨S3, h3⟩
          exact ⟨D, [t], [lits[0]], rfl, SqL.of h3, ⟨rfl, fun j q hj => by
            rcases j with _ | j
            · cases hj
              exact ⟨t, rfl, Same.seqT S3 hs⟩
            · cases hj⟩, by simp, fun b2 H4 S4 _ => good b2 H4 (((S0.trans S1).trans S3).trans S4)⟩
    · refine ⟨_, (pss_cons (ps_expr (pe_callS K_check_literals.ok (hr.mono (by decide)) rfl K_check_literals.mgf K_check_literals.kp K_check_literals.b (fun σ => passAt (takes_of rfl rfl rfl rfl) σ) (pa_cons (pv 0) pa_nil)))
    (pss_one (ps_ret (pe_and (C8.pe_c K_are_indices hr (by decide) (by rfl) (pa_cons (pv 1) (pa_cons (pe_callB call_len_seq (by rfl) T.z_len (by decide +kernel) (pa_cons (pv 0) pa_nil)) pa_nil))) (pe_one (C8.pe_c K_goes_round hr (by decide) (by rfl) (pa_cons (pe_lc (own := [("index", 2)]) (g := gName 2) (tt := tYes) rfl sc_is_ring.nd (pi_tup (pv 1)) (blkOk_by (own := [("index", 2)]) (N := N_is_ring) (sc := C8.fnScope s_is_ring) (by decide +kernel)) (fun _ _ _ _ _ => (pg_name (i := 2) sc_is_ring.nd rfl (Or.inl rfl))) (fun _ _ _ _ _ => pts_nil) (fun _ _ _ _ _ => (pe_ix (ixTK K) (pv 0) (pv 2) (fun _ _ => rfl)))) pa_nil))))))), ?_⟩
      rcases h with ⟨hl, o⟩ | ⟨hl, gs, hgl, hit, hgood, hbad⟩
      · exact ⟨_, rfl, _, rfl, .inr (.inr ⟨p, xs, rfl, hp1, .inl ⟨hl, o⟩⟩)⟩
      · refine ⟨_, rfl, _, rfl, .inr (.inr ⟨p, xs, rfl, hp1, .inr ⟨hl, gs, hgl, hit, fun hall H0 S0 => ?_, hbad⟩⟩)⟩
        obtain ⟨ts, lits, rfl, hL0⟩ := lits_of hgl hit hall
        have good := hgood hall
        have hp := Same.seqT S0 hp1
        have hL := hL0.mono S0
        have hc := Same.seqT S0 hc0
        have hpl : (ts.map V.ref).length = lits.length := by rw [List.length_map, hL.1]
        refine ⟨_, rfl, _, rfl, p, _, rfl, .inr hp, c, _, rfl, hc, fun b1 H1 S1 hb1 => ?_⟩
        cases b1 with
        | false => exact ⟨_, rfl, iteF (good false H1 (S0.trans S1))⟩
        | true =>
          refine ⟨_, rfl, iteT ?_⟩
          have hm : 0 < lits.length := by
            have := hb1 rfl
            omega
          have hp2 := Same.seqT S1 hp
          have hc1 := Same.seqT S1 hc
          obtain ⟨t, ht, hs⟩ := (hL.mono S1).2 0 _ (List.getElem?_eq_getElem hm)
          have hat : atI (ts.map V.ref) 0 = some (.ref t) := atI_nat (j := 0) (by rw [List.getElem?_map, ht]; rfl)
          have szs : ∀ {n : Nat}, n ≤ 1000 → n < sizeLine := fun h => Nat.lt_of_le_of_lt h (by decide)
          refine ⟨_, rfl, c, rfl, ⟨_, hc1⟩, fun D n1 => lc_tup (xs := [V.int 0]) (fun j H' => Same H1 H' ∧ H' D = some (.lst (([t].take j).map V.ref))) ⟨Same.new n1, upd_same⟩ (fun j H' _ h => Same.seqT h.1 hc1) ?_ ?_⟩
          · rintro j x H3 hx ⟨S3, h3⟩
            rcases j with _ | j
            · have ex : x = V.int 0 := (Option.some.inj hx).symm
              subst ex
              refine ⟨rfl, _, rfl, _, rfl, p, _, _, _, rfl, rfl, Same.seqT S3 hp2, hat, _, h3, szs (by simp), Same.mut S3 n1, ?_⟩
              rw [upd_same]
              rfl
            · cases hx
          rintro H3 ⟨S3, h3⟩
          exact ⟨D, [t], [lits[0]], rfl, SqL.of h3, ⟨rfl, fun j q hj => by
            rcases j with _ | j
            · cases hj
              exact ⟨t, rfl, Same.seqT S3 hs⟩
            · cases hj⟩, by simp, fun b2 H4 S4 _ => good b2 H4 (((S0.trans S1).trans S3).trans S4)⟩
end
end K3

/-! isinstance of a caught error that has its own dict -/
namespace PySem.W
open PySem PySem.Spec PySem.Calls PyProof.Rows
section
variable {prog : Program} {w : World} {A : Around} {E : Value → Shared → Prop} {s : Shared} {K : Frag} {x D : Addr} {ox oD : Obj}
theorem kin_classD {Q : Option Value → Shared → Prop} (hga : findIn K (.ref D) "__getattribute__" = some (some (.builtin "BaseException.__getattribute__"))) (hgt : findIn K (.ref D) "__getattr__" = some none) (hsub : subIn K (.ref D) (.type "BaseException") = some true)
    (hdct : hasDictIn K D = true) (ha : findIn K (.ref D) "__class__" = some (some (.builtin "object.__class__")))
    (hn : specialIn K (.builtin "object.__class__") "__get__" = some (some (.builtin "getset_descriptor.__get__"))) (htk : takesIn K (.builtin "object.__class__") = some true) (hm : mroIn K D (.type "object") = some true)
    (X : K.In s.heap) (I : InstAt s.heap x ox D (some oD)) (h : Q (some (.ref D)) { s with toks := s.toks + 1 }) : wpAny (model prog w) A (getAttr? (.ref x) "__class__") Q E s := by
  have hf : findObj K D (some oD) "__class__" = some (.bind (.builtin "getset_descriptor.__get__") (.builtin "object.__class__")) := findObj_data (by obtain ⟨cd, hc, _⟩ := any_some hdct; rw [hc]; rfl) ha hn htk
  obtain ⟨hp, g, d, t, os⟩ := s
  have L0 := I.type (M := model prog w)
  have L1 := looks_findIn (M := model prog w) X hga
  have L2 := looks_findIn (M := model prog w) X hgt
  have L3 := looks_find (M := model prog w) X I hf
  have sub : Looks (model prog w) hp (isInstance (.ref x) (.type "BaseException")) true := L0.andThen (looks_subIn X hsub)
  have hx0 : (false && onTheHeap (Value.builtin "BaseException.__getattribute__")) = false := rfl
  have hx2 : (Value.builtin "BaseException.__getattribute__" == Value.builtin "object.__getattribute__") = false := by decide +kernel
  have hx1 : (onTheHeap (Value.ref D) && Value.builtin "BaseException.__getattribute__" == Value.builtin "object.__getattribute__") = false := by rw [hx2]; rfl
  unfold getAttr? getAttrBy? getAttrBy
  refine wpAny_bind (wpAny_mkText (wpAny_bind (wpAny_attempt (wpAny_holding (wpAny_bind (L0.at (wpAny_bind (L1.at ?_))))))))
  show wpAny _ _ (if (onTheHeap (Value.ref D) && Value.builtin "BaseException.__getattribute__" == Value.builtin "object.__getattribute__") = true then _ else _) _ _ _
  rw [hx1, if_neg Bool.false_ne_true]
  unfold getAttrByItsOwn hookBefore
  refine wpAny_bind ?_
  rw [if_pos (show onTheHeap (Value.ref D) = true from rfl)]
  refine L2.at ?_
  refine wpAny_bind (wpAny_attempt (wpAny_holding ?_))
  unfold callGetattribute
  rw [hx0, if_neg Bool.false_ne_true]
  unfold boundAndCalled
  rw [PySem.F.excAttr_ValueError.ga.bind (.ref x)]
  refine wpAny_bind (wpAny_pure ?_)
  show wpAny _ _ (call (.builtin "BaseException.__getattribute__") [.ref x, .str "__class__" t]) _ _ _
  refine wpAny_call (codeAny_call_builtin PySem.F.excAttr_ValueError.ga.plain PySem.F.entry_bexc_ga ?_)
  refine @check_slot (model prog w) _ _ ⟨hp, g, d, t + 1, os⟩ "BaseException.__getattribute__" "BaseException" "__getattribute__" (.ref x) [.str "__class__" t] [] _ (by decide +kernel) (by decide +kernel) sub (PySem.F.args_bexc_ga (.ref x) (.str "__class__" t)) ?_
  unfold Builtin.«object.__getattribute__»
  refine wpAny_bind (wpAny_of_eq (a := ((Value.ref x : Value), [Value.str "__class__" t])) (by first | rfl | (simp only [slotArgs]; rfl)) ?_)
  refine wpAny_bind (wpAny_pure (wpAny_bind (L0.at (wpAny_bind (L3.at ?_)))))
  show wpAny _ _ (holding [Value.builtin "object.__class__"] (call (.builtin "getset_descriptor.__get__") [.builtin "object.__class__", .ref x, .ref D]) >>= ret) _ _ _
  refine wpAny_bind (wpAny_holding (wpAny_call (class_get (s := ⟨hp, g, d, t + 1, os⟩) (ox := ox) (od := some oD) X I hm ?_)))
  refine wpAny_pure ?_
  show wpAny _ _ (handedOut (.ref D)) _ _ _
  rw [handedOut_of (v := .ref D) rfl]
  first
    | exact wpAny_pure (wpAny_pure h)
    | exact wpAny_pure h
    | exact wpAny_pure (wpAny_bind (wpAny_pure (wpAny_pure h)))
theorem kitx_excD (hga : findIn K (.ref D) "__getattribute__" = some (some (.builtin "BaseException.__getattribute__"))) (hgt : findIn K (.ref D) "__getattr__" = some none) (hsub : subIn K (.ref D) (.type "BaseException") = some true) (hdct : hasDictIn K D = true) (ha : findIn K (.ref D) "__class__" = some (some (.builtin "object.__class__")))
    (hn : specialIn K (.builtin "object.__class__") "__get__" = some (some (.builtin "getset_descriptor.__get__"))) (htk : takesIn K (.builtin "object.__class__") = some true) (hm : mroIn K D (.type "object") = some true) :
    KitX K (.ref x) (.ref D) (fun h => InstAt h x ox D (some oD)) where
  ty := fun _ _ _ I => I.type
  it := fun _ _ X _ => by
    obtain ⟨cdD, hcD, _⟩ := any_some hdct
    unfold clsIn at hcD
    split at hcD
    · rename_i c' d' cd' sl' ho
      intro A' Q' E' s' k q
      unfold isType loadHead
      exact wpAny_bind (wpAny_loadPart (k _ _ (X _ _ ho)) (wpAny_pure q))
    · cases hcD
  ne := fun h tp dd its n sl X htp => by
    obtain ⟨cdD, hcD, _⟩ := any_some hdct
    refine Bool.eq_false_iff.mpr fun q => ?_
    have e : D = tp := Value.ref.inj (beq_iff_eq.mp q)
    subst e
    unfold clsIn at hcD
    split at hcD
    · rename_i c' d' cd' sl' ho
      have z := (X _ _ ho).symm.trans htp
      cases z
    · cases hcD
  ca := fun X I k => kin_classD hga hgt hsub hdct ha hn htk hm X I k
end
end PySem.W
namespace K3
open PySem L2 Bx PySem.Spec PyProof.Rows
/-- isinstance(e, c): e the error of class D that the suite holds, its dict at dd -/
theorem call_isX {X : Cx} {a D : Addr} {oe : Obj} {cls : Value} {d : Option Addr} {pn : List (Addr × Obj)} (C : ExcC X.K D) (hz : Zc cls d oe) (hf : ∃ vs, oe.data = .fields vs) :
    CallR (X.suite a ((a, oe) :: pn)) (.builtin "isinstance") (fun xs H Q => cls = .ref D ∧ (∃ dd fs, d = some dd ∧ H dd = some (.xd fs)) ∧ rIsE X.K D a xs H Q) := by
  intro pins s σ H xs us Q I r h
  obtain ⟨rfl, ⟨dd, fs, rfl, hdd⟩, c, cv, b, rfl, hcv, e, q⟩ := h
  cases r with
  | cons rx rr =>
    cases rr with
    | cons rt rr =>
      cases rr
      cases rx
      have ec := hcv _ rt
      subst ec
      obtain ⟨hget, _⟩ := I.pin (a, oe) (List.mem_append.mpr (.inl List.mem_cons_self))
      obtain ⟨vs, hv⟩ := hf
      have hx : ObjOk X.prog X.w H s.heap dd (.xd fs) := I.hok dd _ hdd
      obtain ⟨mA, hns, _⟩ := hx
      obtain ⟨od, ho, _⟩ := lookIn_ns hns
      have J : PySem.W.InstAt s.heap a oe D (some od) := ⟨hget, hz.1, by unfold PySem.W.notCls; rw [hv] <;> rfl, by rw [hz.2]; exact ho⟩
      exact PySem.W.kia_one (PySem.W.kitx_excD C.hg C.hk C.hs C.hd C.ha C.hn C.ht C.hm) I.kIn J e (fun z => nomatch z) fun tk => ⟨.bl b, H, I.kept (t' := tk) fun _ _ z => z, rfl, q⟩
theorem takes_len {X : Cx} {W : WX} (tk : Takes X W) : Takes X (fun cls d σ H => σ.length = X.N.length → W cls d σ H) := fun u s' ⟨a, B, sI, pins, σ, H, cls, d, e, I, nb, up, sky, na, os, ag, w⟩ =>
  tk u s' ⟨a, B, sI, pins, σ, H, cls, d, e, I, nb, up, sky, na, os, ag, w I.len⟩
/-- what _law_refusal asks of the classes -/
structure Ref (K : PySem.W.Frag) (mg : Str → Option Value) (C fI CB : Addr) : Prop where
  nol : PySem.NoLX.NoLTxt K mg C fI
  gB : mg "BehindError" = some (.ref CB)
  eB : PySem.W.exmOne K (.ref C) (.ref CB) = some true
  ex : ExcC K C
  c_NoLiterals : ∃ u, mg "NoLiterals" = some u ∧ RelV (.ref C) u
  k_NoLiterals : PySem.W.kitOne K (.ref C) (.ref C) = some true
  k_ValueError : PySem.W.kitOne K (.ref C) (.type "ValueError") = some true
  c_BadStates : ∃ c u, mg "BadStates" = some u ∧ RelV (.ref c) u ∧ PySem.W.kitOne K (.ref C) (.ref c) = some false
  c_NoName : ∃ c u, mg "NoName" = some u ∧ RelV (.ref c) u ∧ PySem.W.kitOne K (.ref C) (.ref c) = some false
  c_NoWay : ∃ c u, mg "NoWay" = some u ∧ RelV (.ref c) u ∧ PySem.W.kitOne K (.ref C) (.ref c) = some false
  z_isinstance : mg "isinstance" = none
  z_ValueError : mg "ValueError" = none
/-- _law_refusal of a lambda: tl is what the lambda's body does -/
def TRef (C : Addr) : (XK → Hp → VK → Prop) → Hp → VK → Prop := fun tl H Q =>
  tl (fun cls d H' => cls = .ref C ∧ ∃ dd n, d = some dd ∧ H' dd = some (.xd [(("at" : Str), V.int n)]) ∧ ∀ p H'', Same H' H'' → H'' p = some (.tup [.str "refused", .int n]) → Q (.ref p) H'') H
    (fun _ H' => [V.str "told"].length ≤ sizeLine ∧ ∀ p, H' p = none → Q (.ref p) (upd H' p (.tup [.str "told"])))
theorem refusal_gives {X : Cx} {g C fI CB : Addr} {cdg : Value} {q : Str} (R : Ref X.K X.mg C fI CB) : LamX.GivesTo X N_l_refusal "_law_refusal" (C8.fnScope s_l_refusal) g cdg (C8.fnBody s_l_refusal) "_law_ask" q (TRef C) := by
  intro f c' s H Q tl act hc h
  obtain ⟨cS, uS, gS, rS, kS⟩ := R.c_BadStates
  obtain ⟨cN, uN, gN, rN, kN⟩ := R.c_NoName
  obtain ⟨cW, uW, gW, rW, kW⟩ := R.c_NoWay
  refine ⟨_, pss_cons (ps_try_as (X := (cxOf C8.CX0 X.prog X.w X.K X.mg X.base N_l_refusal "_law_refusal" (C8.fnScope s_l_refusal) g cdg X.A X.stack s H C8.E0).nox) (c := .ref CB) (i := 1)
      (tb := fun W D σ H => ∃ Ech : XK, (∀ cls d σ' H', Ech cls d H' → σ'.length = 2 → W cls d σ' H') ∧ σ[0]? = some (some (.ref f)) ∧ H c' = some (LamX.CodeO c' q) ∧ tl Ech H fun _ H' => D.nx σ H')
      rfl rfl sc_l_refusal.nd rfl rfl ⟨rfl, by decide, .inl R.gB⟩ LamX.takes0 (fun W pn xe tk _ => ?_) (fun a oe cls d pn hz hf => pss_cons (ps_if (PW.pt (pw_or (pt_not (pt_val (pe_callB (call_isX R.ex hz hf) (by rfl) R.z_isinstance (by decide +kernel) (pa_cons (pv 1) (pa_cons (C8.pe_gc (by rfl) R.c_NoLiterals) pa_nil))))) (pw_or1 (pt_not (pt_val (pe_callB (call_isX R.ex hz hf) (by rfl) R.z_isinstance (by decide +kernel) (pa_cons (pv 1) (pa_cons (pe_bltn (v := .ty "ValueError") (by rfl) R.z_ValueError (by decide +kernel) rfl) pa_nil)))))))) (pss_one (ps_ret (pe_tup (pa_cons pe_str pa_nil)))) pss_nil)
        (pss_cons (ps_if (PW.pt (pw_or (pt_val (pe_callB (call_isX R.ex hz hf) (by rfl) R.z_isinstance (by decide +kernel) (pa_cons (pv 1) (pa_cons (C8.pe_gc (by rfl) ⟨uS, gS, rS⟩) pa_nil)))) (pw_or (pt_val (pe_callB (call_isX R.ex hz hf) (by rfl) R.z_isinstance (by decide +kernel) (pa_cons (pv 1) (pa_cons (C8.pe_gc (by rfl) ⟨uN, gN, rN⟩) pa_nil)))) (pw_or1 (pt_val (pe_callB (call_isX R.ex hz hf) (by rfl) R.z_isinstance (by decide +kernel) (pa_cons (pv 1) (pa_cons (C8.pe_gc (by rfl) ⟨uW, gW, rW⟩) pa_nil)))))))) (pss_one (ps_ret (pe_tup (pa_cons pe_str pa_nil)))) pss_nil)
        (pss_one (ps_ret (pe_tup (pa_cons pe_str (pa_cons (pe_atNol R.nol hz hf (pv 1)) pa_nil)))))))) (pss_one (ps_ret (pe_tup (pa_cons pe_str pa_nil)))), ?_⟩
  · refine ⟨fun pins s' σ H' D I h' => ?_⟩
    obtain ⟨Ech, hW, h1, h2, h3⟩ := h'
    exact (pss_one (ps_expr (act _ pn xe Ech _ _ (takes_len tk) hW))).run pins s' σ H' D I ⟨h1, h2, h3⟩
  · refine ⟨fun cls d H' => cls = .ref C ∧ ∃ dd n, d = some dd ∧ H' dd = some (.xd [(("at" : Str), V.int n)]) ∧ ∀ p H'', Same H' H'' → H'' p = some (.tup [.str "refused", .int n]) → Q (.ref p) H'', ?_, rfl, hc, ?_⟩
    · rintro cls d σ' H' ⟨rfl, dd, n, rfl, hdd, k⟩ hlen
      obtain ⟨x0, x1, rfl⟩ : ∃ x0 x1, σ' = [x0, x1] := by
        match σ', hlen with
        | [x0, x1], _ => exact ⟨x0, x1, rfl⟩
      refine ⟨true, R.eB, fun _ a na => ?_, fun z => (by cases z)⟩
      have xd : ∃ (d2 : Addr) (fs : List (Str × V)), some dd = some d2 ∧ H' d2 = some (.xd fs) := ⟨dd, _, rfl, hdd⟩
      refine ⟨_, rfl, rfl, xd, .ref C, .ref C, true, rfl, fun u r => r, R.k_NoLiterals, _, rfl, ?_⟩
      refine iteF ?_
      refine ⟨_, rfl, rfl, xd, .ty "ValueError", _, true, rfl, fun u r => r, R.k_ValueError, _, rfl, ?_⟩
      refine iteF ?_
      refine ⟨_, rfl, rfl, xd, .ref cS, .ref cS, false, rfl, fun u r => r, kS, _, rfl, ?_⟩
      refine iteF ?_
      refine ⟨_, rfl, rfl, xd, .ref cN, .ref cN, false, rfl, fun u r => r, kN, _, rfl, ?_⟩
      refine iteF ?_
      refine ⟨_, rfl, rfl, xd, .ref cW, .ref cW, false, rfl, fun u r => r, kW, _, rfl, ?_⟩
      refine iteF ?_
      refine ⟨_, rfl, rfl, rfl, dd, _, rfl, hdd, (by show 2 ≤ sizeLine; decide), fun p np => ?_⟩
      exact k p _ (Same.new np) upd_same
    · exact h
end K3

/-! x in l, where an empty dict is among the items -/
namespace PySem.SeqAt
open AutoSeq1 (wpAny_loadPart')
open MeetsSeq
def IsD (h : Heap) (a : Addr) : Prop := ∃ (o : Obj) (es : Array DictEntry) (ep : Nat), h.get? a = some o ∧ o.cls = .type "dict" ∧ o.data = .dict es ep
theorem dict_eq_declines_none (l : Addr) (es : Array DictEntry) (ep : Nat) (dd : Option Addr) (sl : Array (Option Value)) :
    Meets (Builtin.«dict.__eq__» ⟨[.ref l, .none], []⟩) (fun _ R s => s.heap.get? l = some { cls := .type "dict", dict := dd, data := .dict es ep, slots := sl } ∧ R (.ok (.ret .notImplemented)) s) :=
  .of_wp fun prog w A R s h => by obtain ⟨hp, g, d, tk, os⟩ := s; obtain ⟨hl, h⟩ := h; have f1 := F.sub_NoneType_dict; wp_walk using wpAny_loadPart' hl; exact ⟨_, rfl, h⟩
theorem dict_eq_declines_int (l : Addr) (es : Array DictEntry) (ep : Nat) (dd : Option Addr) (sl : Array (Option Value)) (b : Int) (u : Tok) :
    Meets (Builtin.«dict.__eq__» ⟨[.ref l, .int b u], []⟩) (fun _ R s => s.heap.get? l = some { cls := .type "dict", dict := dd, data := .dict es ep, slots := sl } ∧ R (.ok (.ret .notImplemented)) s) :=
  .of_wp fun prog w A R s h => by obtain ⟨hp, g, d, tk, os⟩ := s; obtain ⟨hl, h⟩ := h; have f1 := F.sub_int_dict; wp_walk using wpAny_loadPart' hl; exact ⟨_, rfl, h⟩
theorem int_eq_declines_dict (b : Int) (u : Tok) (l : Addr) (es : Array DictEntry) (ep : Nat) (dd : Option Addr) (sl : Array (Option Value)) :
    Meets (Builtin.«int.__eq__» ⟨[.int b u, .ref l], []⟩) (fun _ R s => s.heap.get? l = some { cls := .type "dict", dict := dd, data := .dict es ep, slots := sl } ∧ R (.ok (.ret .notImplemented)) s) :=
  .of_wp fun prog w A R s h => by obtain ⟨hp, g, d, tk, os⟩ := s; obtain ⟨hl, h⟩ := h; wp_walk using wpAny_loadPart' hl, wpAny_load hl; exact ⟨_, rfl, h⟩
theorem dict_eq_declines_str (l : Addr) (es : Array DictEntry) (ep : Nat) (dd : Option Addr) (sl : Array (Option Value)) (b : Str) (u : Tok) :
    Meets (Builtin.«dict.__eq__» ⟨[.ref l, .str b u], []⟩) (fun _ R s => s.heap.get? l = some { cls := .type "dict", dict := dd, data := .dict es ep, slots := sl } ∧ R (.ok (.ret .notImplemented)) s) :=
  .of_wp fun prog w A R s h => by obtain ⟨hp, g, d, tk, os⟩ := s; obtain ⟨hl, h⟩ := h; have f1 := F.sub_str_dict; wp_walk using wpAny_loadPart' hl; exact ⟨_, rfl, h⟩
theorem str_eq_declines_dict (b : Str) (u : Tok) (l : Addr) (es : Array DictEntry) (ep : Nat) (dd : Option Addr) (sl : Array (Option Value)) :
    Meets (Builtin.«str.__eq__» ⟨[.str b u, .ref l], []⟩) (fun _ R s => s.heap.get? l = some { cls := .type "dict", dict := dd, data := .dict es ep, slots := sl } ∧ R (.ok (.ret .notImplemented)) s) :=
  .of_wp fun prog w A R s h => by obtain ⟨hp, g, d, tk, os⟩ := s; obtain ⟨hl, h⟩ := h; wp_walk using wpAny_loadPart' hl, wpAny_load hl; exact ⟨_, rfl, h⟩
theorem dict_eq_declines_list (l b : Addr) (es : Array DictEntry) (ep : Nat) (items : Array Value) (n : Nat) (dd dd2 : Option Addr) (sl sl2 : Array (Option Value)) :
    Meets (Builtin.«dict.__eq__» ⟨[.ref l, .ref b], []⟩) (fun _ R s => s.heap.get? l = some { cls := .type "dict", dict := dd, data := .dict es ep, slots := sl } ∧ s.heap.get? b = some { cls := .type "list", dict := dd2, data := .seq items n, slots := sl2 } ∧ R (.ok (.ret .notImplemented)) s) :=
  .of_wp fun prog w A R s h => by obtain ⟨hp, g, d, tk, os⟩ := s; obtain ⟨hl, hb, h⟩ := h; have f1 := F.sub_list_dict; wp_walk using wpAny_loadPart' hl, wpAny_loadPart' hb; exact ⟨_, rfl, h⟩
theorem list_eq_declines_dict (b l : Addr) (es : Array DictEntry) (ep : Nat) (items : Array Value) (n : Nat) (dd dd2 : Option Addr) (sl sl2 : Array (Option Value)) :
    Meets (Builtin.«list.__eq__» ⟨[.ref b, .ref l], []⟩) (fun _ R s => s.heap.get? l = some { cls := .type "dict", dict := dd, data := .dict es ep, slots := sl } ∧ s.heap.get? b = some { cls := .type "list", dict := dd2, data := .seq items n, slots := sl2 } ∧ R (.ok (.ret .notImplemented)) s) :=
  .of_wp fun prog w A R s h => by obtain ⟨hp, g, d, tk, os⟩ := s; obtain ⟨hl, hb, h⟩ := h; have f1 := F.sub_dict_list; wp_walk using wpAny_loadPart' hl, wpAny_loadPart' hb; exact ⟨_, rfl, h⟩
theorem dict_eq_declines_tuple (l b : Addr) (es : Array DictEntry) (ep : Nat) (items : Array Value) (n : Nat) (dd dd2 : Option Addr) (sl sl2 : Array (Option Value)) :
    Meets (Builtin.«dict.__eq__» ⟨[.ref l, .ref b], []⟩) (fun _ R s => s.heap.get? l = some { cls := .type "dict", dict := dd, data := .dict es ep, slots := sl } ∧ s.heap.get? b = some { cls := .type "tuple", dict := dd2, data := .seq items n, slots := sl2 } ∧ R (.ok (.ret .notImplemented)) s) :=
  .of_wp fun prog w A R s h => by obtain ⟨hp, g, d, tk, os⟩ := s; obtain ⟨hl, hb, h⟩ := h; have f1 := F.sub_tuple_dict; wp_walk using wpAny_loadPart' hl, wpAny_loadPart' hb; exact ⟨_, rfl, h⟩
theorem tuple_eq_declines_dict (b l : Addr) (es : Array DictEntry) (ep : Nat) (items : Array Value) (n : Nat) (dd dd2 : Option Addr) (sl sl2 : Array (Option Value)) :
    Meets (Builtin.«tuple.__eq__» ⟨[.ref b, .ref l], []⟩) (fun _ R s => s.heap.get? l = some { cls := .type "dict", dict := dd, data := .dict es ep, slots := sl } ∧ s.heap.get? b = some { cls := .type "tuple", dict := dd2, data := .seq items n, slots := sl2 } ∧ R (.ok (.ret .notImplemented)) s) :=
  .of_wp fun prog w A R s h => by obtain ⟨hp, g, d, tk, os⟩ := s; obtain ⟨hl, hb, h⟩ := h; have f1 := F.sub_dict_tuple; wp_walk using wpAny_loadPart' hl, wpAny_loadPart' hb; exact ⟨_, rfl, h⟩
section
variable {A : Around} {s : Shared}
theorem EqAt.dict_none {l : Addr} (hl : IsD s.heap l) (hu : A.units < cLine) : EqAt A s (.ref l) .none false := fun prog w E Q h => by
  unfold eqBool
  refine wpAny_holding ?_
  refine wpAny_ite_split (fun hab => absurd (eq_of_beq hab) nofun) (fun _ => ?_)
  refine wpAny_bind (?_ : wpAny (model prog w) A (richCompare .Eq (.ref l) .none) _ E s)
  obtain ⟨⟨cls, dd, data, sl⟩, es, ep, ho, hc, hd⟩ := hl
  simp only at hc hd
  subst hc hd
  exact rc_eq_decline_or (k := false) ⟨_, ho, rfl⟩ rfl (by decide) F.sub_NoneType_dict F.slot_dict_eq F.slot_NoneType_eq_refl
    (fun _ hq => call_meets F.slot_dict_eq ⟨_, ho, rfl⟩ F.entry_dict_eq (F.args_dict_eq_2 _ _) (dict_eq_declines_none l es ep dd sl) ⟨ho, hq⟩)
    (fun _ hq => call_gives F.slot_NoneType_eq_refl rfl F.entry_NoneType_eq (F.args_NoneType_eq_2 _ _) (NoneType___eq___none_ref_0 l) hq)
    (fun _ hq => wpAny_of_eq (rfl : isSame (.ref l) .none = pure false) hq) (.inr hu) (wpAny_truthy_bool h)
theorem EqAt.none_dict {l : Addr} (hl : IsD s.heap l) (hu : A.units < cLine) : EqAt A s .none (.ref l) false := fun prog w E Q h => by
  unfold eqBool
  refine wpAny_holding ?_
  refine wpAny_ite_split (fun hab => absurd (eq_of_beq hab) nofun) (fun _ => ?_)
  refine wpAny_bind (?_ : wpAny (model prog w) A (richCompare .Eq .none (.ref l)) _ E s)
  obtain ⟨⟨cls, dd, data, sl⟩, es, ep, ho, hc, hd⟩ := hl
  simp only at hc hd
  subst hc hd
  exact rc_eq_decline_or (k := false) rfl ⟨_, ho, rfl⟩ (by decide) F.sub_dict_NoneType F.slot_NoneType_eq F.slot_dict_eq_refl
    (fun _ hq => call_gives F.slot_NoneType_eq rfl F.entry_NoneType_eq (F.args_NoneType_eq_2 _ _) (NoneType___eq___none_ref_0 l) hq)
    (fun _ hq => call_meets F.slot_dict_eq_refl ⟨_, ho, rfl⟩ F.entry_dict_eq (F.args_dict_eq_2 _ _) (dict_eq_declines_none l es ep dd sl) ⟨ho, hq⟩)
    (fun _ hq => wpAny_of_eq (rfl : isSame .none (.ref l) = pure false) hq) (.inr hu) (wpAny_truthy_bool h)
theorem EqAt.dict_int {l : Addr} (b : Int) (u : Tok) (hl : IsD s.heap l) (hu : A.units < cLine) : EqAt A s (.ref l) (.int b u) false := fun prog w E Q h => by
  unfold eqBool
  refine wpAny_holding ?_
  refine wpAny_ite_split (fun hab => absurd (eq_of_beq hab) nofun) (fun _ => ?_)
  refine wpAny_bind (?_ : wpAny (model prog w) A (richCompare .Eq (.ref l) (.int b u)) _ E s)
  obtain ⟨⟨cls, dd, data, sl⟩, es, ep, ho, hc, hd⟩ := hl
  simp only at hc hd
  subst hc hd
  exact rc_eq_decline_or (k := false) ⟨_, ho, rfl⟩ rfl (by decide) F.sub_int_dict F.slot_dict_eq F.slot_int_eq_refl
    (fun _ hq => call_meets F.slot_dict_eq ⟨_, ho, rfl⟩ F.entry_dict_eq (F.args_dict_eq_2 _ _) (dict_eq_declines_int l es ep dd sl b u) ⟨ho, hq⟩)
    (fun _ hq => call_meets F.slot_int_eq_refl rfl F.entry_int_eq (F.args_int_eq_2 _ _) (int_eq_declines_dict b u l es ep dd sl) ⟨ho, hq⟩)
    (fun _ hq => wpAny_of_eq (rfl : isSame (.ref l) (.int b u) = pure false) hq) (.inr hu) (wpAny_truthy_bool h)
theorem EqAt.int_dict {l : Addr} (b : Int) (u : Tok) (hl : IsD s.heap l) (hu : A.units < cLine) : EqAt A s (.int b u) (.ref l) false := fun prog w E Q h => by
  unfold eqBool
  refine wpAny_holding ?_
  refine wpAny_ite_split (fun hab => absurd (eq_of_beq hab) nofun) (fun _ => ?_)
  refine wpAny_bind (?_ : wpAny (model prog w) A (richCompare .Eq (.int b u) (.ref l)) _ E s)
  obtain ⟨⟨cls, dd, data, sl⟩, es, ep, ho, hc, hd⟩ := hl
  simp only at hc hd
  subst hc hd
  exact rc_eq_decline_or (k := false) rfl ⟨_, ho, rfl⟩ (by decide) F.sub_dict_int F.slot_int_eq F.slot_dict_eq_refl
    (fun _ hq => call_meets F.slot_int_eq rfl F.entry_int_eq (F.args_int_eq_2 _ _) (int_eq_declines_dict b u l es ep dd sl) ⟨ho, hq⟩)
    (fun _ hq => call_meets F.slot_dict_eq_refl ⟨_, ho, rfl⟩ F.entry_dict_eq (F.args_dict_eq_2 _ _) (dict_eq_declines_int l es ep dd sl b u) ⟨ho, hq⟩)
    (fun _ hq => wpAny_of_eq (rfl : isSame (.int b u) (.ref l) = pure false) hq) (.inr hu) (wpAny_truthy_bool h)
theorem EqAt.dict_str {l : Addr} (b : Str) (u : Tok) (hl : IsD s.heap l) (hu : A.units < cLine) : EqAt A s (.ref l) (.str b u) false := fun prog w E Q h => by
  unfold eqBool
  refine wpAny_holding ?_
  refine wpAny_ite_split (fun hab => absurd (eq_of_beq hab) nofun) (fun _ => ?_)
  refine wpAny_bind (?_ : wpAny (model prog w) A (richCompare .Eq (.ref l) (.str b u)) _ E s)
  obtain ⟨⟨cls, dd, data, sl⟩, es, ep, ho, hc, hd⟩ := hl
  simp only at hc hd
  subst hc hd
  exact rc_eq_decline_or (k := false) ⟨_, ho, rfl⟩ rfl (by decide) F.sub_str_dict F.slot_dict_eq F.slot_str_eq_refl
    (fun _ hq => call_meets F.slot_dict_eq ⟨_, ho, rfl⟩ F.entry_dict_eq (F.args_dict_eq_2 _ _) (dict_eq_declines_str l es ep dd sl b u) ⟨ho, hq⟩)
    (fun _ hq => call_meets F.slot_str_eq_refl rfl F.entry_str_eq (F.args_str_eq_2 _ _) (str_eq_declines_dict b u l es ep dd sl) ⟨ho, hq⟩)
    (fun _ hq => wpAny_of_eq (rfl : isSame (.ref l) (.str b u) = pure false) hq) (.inr hu) (wpAny_truthy_bool h)
theorem EqAt.str_dict {l : Addr} (b : Str) (u : Tok) (hl : IsD s.heap l) (hu : A.units < cLine) : EqAt A s (.str b u) (.ref l) false := fun prog w E Q h => by
  unfold eqBool
  refine wpAny_holding ?_
  refine wpAny_ite_split (fun hab => absurd (eq_of_beq hab) nofun) (fun _ => ?_)
  refine wpAny_bind (?_ : wpAny (model prog w) A (richCompare .Eq (.str b u) (.ref l)) _ E s)
  obtain ⟨⟨cls, dd, data, sl⟩, es, ep, ho, hc, hd⟩ := hl
  simp only at hc hd
  subst hc hd
  exact rc_eq_decline_or (k := false) rfl ⟨_, ho, rfl⟩ (by decide) F.sub_dict_str F.slot_str_eq F.slot_dict_eq_refl
    (fun _ hq => call_meets F.slot_str_eq rfl F.entry_str_eq (F.args_str_eq_2 _ _) (str_eq_declines_dict b u l es ep dd sl) ⟨ho, hq⟩)
    (fun _ hq => call_meets F.slot_dict_eq_refl ⟨_, ho, rfl⟩ F.entry_dict_eq (F.args_dict_eq_2 _ _) (dict_eq_declines_str l es ep dd sl b u) ⟨ho, hq⟩)
    (fun _ hq => wpAny_of_eq (rfl : isSame (.str b u) (.ref l) = pure false) hq) (.inr hu) (wpAny_truthy_bool h)
theorem ne_of_dict_list {l b : Addr} {items : Array Value} (hl : IsD s.heap l) (hb : s.heap.IsList b items) : l ≠ b := fun e => by
  subst e
  obtain ⟨o, _, _, ho, hc, _⟩ := hl
  obtain ⟨o2, ho2, hc2, _⟩ := hb
  rw [ho] at ho2
  cases ho2
  rw [hc] at hc2
  exact absurd hc2 (by simp)
theorem EqAt.dict_list {l b : Addr} {items : Array Value} (hl : IsD s.heap l) (hb : s.heap.IsList b items) (hu : A.units < cLine) : EqAt A s (.ref l) (.ref b) false := .of_refs (ne_of_dict_list hl hb) fun prog w E Q h => by
  have hne := ne_of_dict_list hl hb
  obtain ⟨⟨cls, dd, data, sl⟩, es, ep, ho, hc, hd⟩ := hl
  obtain ⟨⟨cls2, dd2, data2, sl2⟩, ho2, hc2, n2, hd2⟩ := id hb
  simp only at hc hd hc2 hd2
  subst hc hd hc2 hd2
  exact (rc_eq_decline_or (k := false) ⟨_, ho, rfl⟩ ⟨_, ho2, rfl⟩ (by decide) F.sub_list_dict F.slot_dict_eq F.slot_list_eq_refl
    (fun _ hq => call_meets F.slot_dict_eq ⟨_, ho, rfl⟩ F.entry_dict_eq (F.args_dict_eq_2 _ _) (dict_eq_declines_list l b es ep items n2 dd dd2 sl sl2) ⟨ho, ho2, hq⟩)
    (fun _ hq => call_meets F.slot_list_eq_refl ⟨_, ho2, rfl⟩ F.entry_list_eq (F.args_list_eq_2 _ _) (list_eq_declines_dict b l es ep items n2 dd dd2 sl sl2) ⟨ho, ho2, hq⟩)
    (fun _ hq => wpAny_isSame_ref_other' hne ho ho2 (by simp) hq) (.inr hu) h)
theorem EqAt.list_dict {l b : Addr} {items : Array Value} (hl : IsD s.heap l) (hb : s.heap.IsList b items) (hu : A.units < cLine) : EqAt A s (.ref b) (.ref l) false := .of_refs (ne_of_dict_list hl hb).symm fun prog w E Q h => by
  have hne := (ne_of_dict_list hl hb).symm
  obtain ⟨⟨cls, dd, data, sl⟩, es, ep, ho, hc, hd⟩ := hl
  obtain ⟨⟨cls2, dd2, data2, sl2⟩, ho2, hc2, n2, hd2⟩ := id hb
  simp only at hc hd hc2 hd2
  subst hc hd hc2 hd2
  exact (rc_eq_decline_or (k := false) ⟨_, ho2, rfl⟩ ⟨_, ho, rfl⟩ (by decide) F.sub_dict_list F.slot_list_eq F.slot_dict_eq_refl
    (fun _ hq => call_meets F.slot_list_eq ⟨_, ho2, rfl⟩ F.entry_list_eq (F.args_list_eq_2 _ _) (list_eq_declines_dict b l es ep items n2 dd dd2 sl sl2) ⟨ho, ho2, hq⟩)
    (fun _ hq => call_meets F.slot_dict_eq_refl ⟨_, ho, rfl⟩ F.entry_dict_eq (F.args_dict_eq_2 _ _) (dict_eq_declines_list l b es ep items n2 dd dd2 sl sl2) ⟨ho, ho2, hq⟩)
    (fun _ hq => wpAny_isSame_ref_other' hne ho2 ho (by simp) hq) (.inr hu) h)
theorem ne_of_dict_tuple {l b : Addr} {items : Array Value} (hl : IsD s.heap l) (hb : s.heap.IsTuple b items) : l ≠ b := fun e => by
  subst e
  obtain ⟨o, _, _, ho, hc, _⟩ := hl
  obtain ⟨o2, ho2, hc2, _⟩ := hb
  rw [ho] at ho2
  cases ho2
  rw [hc] at hc2
  exact absurd hc2 (by simp)
theorem EqAt.dict_tuple {l b : Addr} {items : Array Value} (hl : IsD s.heap l) (hb : s.heap.IsTuple b items) (hu : A.units < cLine) : EqAt A s (.ref l) (.ref b) false := .of_refs (ne_of_dict_tuple hl hb) fun prog w E Q h => by
  have hne := ne_of_dict_tuple hl hb
  obtain ⟨⟨cls, dd, data, sl⟩, es, ep, ho, hc, hd⟩ := hl
  obtain ⟨⟨cls2, dd2, data2, sl2⟩, ho2, hc2, n2, hd2⟩ := id hb
  simp only at hc hd hc2 hd2
  subst hc hd hc2 hd2
  exact (rc_eq_decline_or (k := false) ⟨_, ho, rfl⟩ ⟨_, ho2, rfl⟩ (by decide) F.sub_tuple_dict F.slot_dict_eq F.slot_tuple_eq_refl
    (fun _ hq => call_meets F.slot_dict_eq ⟨_, ho, rfl⟩ F.entry_dict_eq (F.args_dict_eq_2 _ _) (dict_eq_declines_tuple l b es ep items n2 dd dd2 sl sl2) ⟨ho, ho2, hq⟩)
    (fun _ hq => call_meets F.slot_tuple_eq_refl ⟨_, ho2, rfl⟩ F.entry_tuple_eq (F.args_tuple_eq_2 _ _) (tuple_eq_declines_dict b l es ep items n2 dd dd2 sl sl2) ⟨ho, ho2, hq⟩)
    (fun _ hq => wpAny_isSame_ref_other hne ho ho2 (by simp) hq) (.inr hu) h)
theorem EqAt.tuple_dict {l b : Addr} {items : Array Value} (hl : IsD s.heap l) (hb : s.heap.IsTuple b items) (hu : A.units < cLine) : EqAt A s (.ref b) (.ref l) false := .of_refs (ne_of_dict_tuple hl hb).symm fun prog w E Q h => by
  have hne := (ne_of_dict_tuple hl hb).symm
  obtain ⟨⟨cls, dd, data, sl⟩, es, ep, ho, hc, hd⟩ := hl
  obtain ⟨⟨cls2, dd2, data2, sl2⟩, ho2, hc2, n2, hd2⟩ := id hb
  simp only at hc hd hc2 hd2
  subst hc hd hc2 hd2
  exact (rc_eq_decline_or (k := false) ⟨_, ho2, rfl⟩ ⟨_, ho, rfl⟩ (by decide) F.sub_dict_tuple F.slot_tuple_eq F.slot_dict_eq_refl
    (fun _ hq => call_meets F.slot_tuple_eq ⟨_, ho2, rfl⟩ F.entry_tuple_eq (F.args_tuple_eq_2 _ _) (tuple_eq_declines_dict b l es ep items n2 dd dd2 sl sl2) ⟨ho, ho2, hq⟩)
    (fun _ hq => call_meets F.slot_dict_eq_refl ⟨_, ho, rfl⟩ F.entry_dict_eq (F.args_dict_eq_2 _ _) (dict_eq_declines_tuple l b es ep items n2 dd dd2 sl sl2) ⟨ho, ho2, hq⟩)
    (fun _ hq => wpAny_isSame_ref_other' hne ho2 ho (by simp) hq) (.inr hu) h)
/-- a dict and data -/
theorem EqAt.dict_reads {l : Addr} {v : Value} {d : PyData} {as : List Addr} (hl : IsD s.heap l) (hnb : ∀ b, d ≠ .bool b) (hc : d.canLay0 = true) (r : Reads s.heap v d as) (hu : A.units < cLine) : EqAt A s (.ref l) v false ∧ EqAt A s v (.ref l) false ∧ v ≠ .ref l := by
  cases r with
  | none => exact ⟨.dict_none hl hu, .none_dict hl hu, nofun⟩
  | bool b => exact absurd rfl (hnb b)
  | int b u => exact ⟨.dict_int b u hl hu, .int_dict b u hl hu, nofun⟩
  | str b u => exact ⟨.dict_str b u hl hu, .str_dict b u hl hu, nofun⟩
  | list h1 h2 h3 h4 => exact ⟨.dict_list hl ⟨_, h1, h2, _, h3⟩ hu, .list_dict hl ⟨_, h1, h2, _, h3⟩ hu, fun e => ne_of_dict_list (items := _) hl ⟨_, h1, h2, _, h3⟩ (Value.ref.inj e).symm⟩
  | tuple h1 h2 h3 h4 => exact ⟨.dict_tuple hl ⟨_, h1, h2, _, h3⟩ hu, .tuple_dict hl ⟨_, h1, h2, _, h3⟩ hu, fun e => ne_of_dict_tuple (items := _) hl ⟨_, h1, h2, _, h3⟩ (Value.ref.inj e).symm⟩
  | dict => simp [PyData.canLay0] at hc
end
end PySem.SeqAt

/-! x in l, where the items are data or one empty dict -/
namespace L2
open PySem PySem.Spec PyProof.Rows
/-- an item: data, or the empty dict at p0 -/
inductive It0 (K : PySem.W.Frag) (H : Hp) (p0 : Addr) : V → Option PyData → Prop
  | dat {v : V} {d : PyData} : Dp K H v d → SeqAt.shaped d = true → (∀ b, d ≠ .bool b) → It0 K H p0 v (some d)
  | dct : It0 K H p0 (.ref p0) none
inductive It0s (K : PySem.W.Frag) (H : Hp) (p0 : Addr) : List V → List (Option PyData) → Prop
  | nil : It0s K H p0 [] []
  | cons {v : V} {vs : List V} {d : Option PyData} {ds : List (Option PyData)} : It0 K H p0 v d → It0s K H p0 vs ds → It0s K H p0 (v :: vs) (d :: ds)
def eqO : Option PyData → Option PyData → Bool
  | some a, some b => PyData.eqv a b
  | none, none => true
  | _, _ => false
noncomputable def readO (h : Heap) (p0 : Addr) (u : Value) : Option PyData := open Classical in if u = .ref p0 then none else some (SeqAt.readOf h u)
def rInO (K : PySem.W.Frag) : R2 := fun x y H Q => ∃ p0 kvs dx a xs ds, H p0 = some (.dK kvs) ∧ It0 K H p0 x dx ∧ y = .ref a ∧ SqL K H a xs ∧ It0s K H p0 xs ds ∧ Q (.bl (ds.any fun z => eqO z dx)) H
section
variable {X : Cx} {pins : List (Addr × Obj)} {σ : St} {H : Hp} {s : Shared}
theorem isD_of (I : Inv X pins σ H s) {p0 : Addr} {kvs : List (Key × V)} (h : H p0 = some (.dK kvs)) : SeqAt.IsD s.heap p0 := by
  obtain ⟨_, _, _, _, o, es, ep, ho, hx, hd, _⟩ := I.hok p0 _ h
  exact ⟨o, es, ep, ho, hx.1, hd⟩
theorem it0_at (I : Inv X pins σ H s) {p0 : Addr} (hD : SeqAt.IsD s.heap p0) (hu : X.A.units + 65 < cLine) {x y : V} {dx dy : Option PyData} {u v : Value} (hx : It0 X.K H p0 x dx) (rx : RelV x v) (hy : It0 X.K H p0 y dy) (ry : RelV y u) :
    SeqAt.EqAt X.A.in1 s u v (eqO (readO s.heap p0 u) dx) ∧ readO s.heap p0 u = dy := by
  have h1 : X.A.in1.units < cLine := by
    show X.A.units + 1 < cLine
    omega
  cases hy with
  | dct =>
    cases ry
    have e : readO s.heap p0 (.ref p0) = none := by unfold readO; rw [if_pos rfl]
    rw [e]
    refine ⟨?_, rfl⟩
    cases hx with
    | dct =>
      cases rx
      exact SeqAt.EqAt.same _
    | dat hd sd nb =>
      obtain ⟨as, r⟩ := Dp.reads I _ _ _ hd rx
      exact (SeqAt.EqAt.dict_reads hD nb (SeqAt.canLay_of_shaped sd) r h1).1
  | dat hd sd nb =>
    obtain ⟨as, r⟩ := Dp.reads I _ _ _ hd ry
    obtain ⟨_, e2, ne⟩ := SeqAt.EqAt.dict_reads hD nb (SeqAt.canLay_of_shaped sd) r h1
    have e : readO s.heap p0 u = some (SeqAt.readOf s.heap u) := by unfold readO; rw [if_neg ne]
    rw [e, SeqAt.readOf_eq (SeqAt.canLay_of_shaped sd) r]
    refine ⟨?_, rfl⟩
    cases hx with
    | dct =>
      cases rx
      exact e2
    | dat hd' sd' nb' =>
      obtain ⟨bs, r'⟩ := Dp.reads I _ _ _ hd' rx
      refine SeqAt.eqAt_reads _ _ _ _ _ _ _ _ r r' (SeqAt.canLay_of_shaped sd) (SeqAt.canLay_of_shaped sd') ?_
      have z := sd'
      unfold SeqAt.shaped at z
      rw [Bool.and_eq_true, decide_eq_true_eq] at z
      show X.A.units + 1 + _ < cLine
      have := z.2
      omega
theorem it0s_at (I : Inv X pins σ H s) {p0 : Addr} (hD : SeqAt.IsD s.heap p0) (hu : X.A.units + 65 < cLine) {x : V} {dx : Option PyData} {v : Value} (hx : It0 X.K H p0 x dx) (rx : RelV x v) : ∀ {ys : List V} {ds : List (Option PyData)} {us : List Value}, It0s X.K H p0 ys ds → Vals ys us →
    (∀ u ∈ us, SeqAt.EqAt X.A.in1 s u v (eqO (readO s.heap p0 u) dx)) ∧ us.any (fun u => eqO (readO s.heap p0 u) dx) = ds.any (fun z => eqO z dx)
  | _, _, _, .nil, .nil => ⟨fun u hu => (by cases hu), rfl⟩
  | _, _, _, .cons hy ht, .cons ry rt => by
    obtain ⟨e1, e2⟩ := it0_at I hD hu hx rx hy ry
    obtain ⟨i1, i2⟩ := it0s_at I hD hu hx rx ht rt
    refine ⟨fun u hu => ?_, by rw [List.any_cons, List.any_cons, i2, e2]⟩
    rcases List.mem_cons.mp hu with rfl | hu
    · exact e1
    · exact i1 u hu
theorem op_inO (hu : X.A.units + 65 < cLine) : OpR X (compareOp .In) (rInO X.K) := by
  intro pins s σ H x y v u Q I rx ry h
  obtain ⟨p0, kvs, dx, a, xs, ds, hD, hx, rfl, hq, hs, q⟩ := h
  cases ry
  have hd := isD_of I hD
  obtain ⟨its, r, pl, hz⟩ := I.list hq
  obtain ⟨i1, i2⟩ := it0s_at I hd hu hx rx hs r
  refine SeqAt.in_listAt (fun u => eqO (readO s.heap p0 u) dx) pl.isList (fun w hw => i1 w (by simpa using hw)) ⟨.bl _, H, I, rfl, ?_⟩
  rw [show its.toArray.any (fun u => eqO (readO s.heap p0 u) dx) = its.any (fun u => eqO (readO s.heap p0 u) dx) by simp, i2]
  exact q
end
end L2
namespace Bx
open PySem PySem.Spec PyProof.Rows L2
theorem inOK {X : Cx} (K : PySem.W.Frag) (hu : X.A.units + 65 < cLine) (h : X.K = K := by rfl) : OpR X (compareOp .In) (rInO K) := by subst h; exact op_inO hu
end Bx

/-! the two lambdas handed to _law_refusal -/
namespace K3
open PySem L2 Bx PySem.Spec PyProof.Rows
def lamQ : Str := (PyProof.Rows.envOfC "law" (C8.fnScope s_law) 0 0 .none).qual ++ "<lambda>"
/-- the lambdas' table is there, with nothing in it that is another's -/
abbrev TB1 (Pt : Addr) (H : Hp) : Prop := LamX.Tabs [(Pt, lamQ)] H
/-- what the refusal of a thing is: told, or refused with n -/
def RefOut (K : PySem.W.Frag) (H : Hp) (r : Addr) (o : Option Int) : Prop := match o with
  | none => SqT K H r [.str "told"]
  | some n => SqT K H r [.str "refused", .int n]
/-- all but lists stay, the table goes on -/
structure Ext (H H' : Hp) : Prop where
  e : LamX.ExtN H H'
section
variable {P : Program} {w : World} {K : PySem.W.Frag} {mg : Str → Option Value} {base : Heap} {C fI CB c Pt f : Addr} {A : Around} {outer : List Env} {s : Shared} {H : Hp} {E : XK}
abbrev LX (P : Program) (w : World) (K : PySem.W.Frag) (mg : Str → Option Value) (base : Heap) (f c : Addr) (A : Around) (outer : List Env) (s : Shared) (H : Hp) (E : XK) : Cx := (cxOf C8.CX0 P w K mg base N_law "law" (C8.fnScope s_law) f (.ref c) A outer s H E).nox
theorem pe_lamS {g fS : Addr} {fdg fdS : FuncData} {p lpos pos p1 p2 p3 : Pos} {params : Arguments} {scope : Scope} (R : Ref K mg C fI CB) (F : C8.Def K mg "_law_refusal" s_l_refusal g fdg) (b : Binds K fdg ["_law_ask"] [])
    (K_solved : CalX P w K mg base 4 "solved" fS fdS ["literals"] (spSolved K C)) (TB : LamX.TabB base mg c Pt) (hr : Room 6 (LX P w K mg base f c A outer s H E).A)
    (L : LamX.LamS (C8.fnScope s_law) scope) (hdef : ∀ env, defaultsOf params env = ([], [])) (hbind : ∀ (q : Str) (cl : List (Str × Addr)) (pm cv ctv : Value) (body : Expr), bindArgs (PySem.W.kla_fn "<lambda>" q params body scope cl pm cv ctv) ⟨[], []⟩ = pure [])
    (hv : scope.names.lookup ("_law_passed" : Str) = some .free) (hg : scope.names.lookup ("solved" : Str) = some .globalImplicit) :
    PE (LX P w K mg base f c A outer s H E) (.Call (.Name "_law_refusal" p) [.Lambda params (.Call (.Name "solved" p1) [.Name "_law_passed" p2] [] p3) scope lpos] [] pos)
      (LamX.tLam [(Pt, lamQ)] (TRef C) fun E' => tCallS (spSolved K C) (WE fun cls d _ H => E' cls d H) (tCons (tVar 9) tNil)) := by
  obtain ⟨oc, od, dV, kV, doc, pm, an, cdv, ct, osl, rfl, lk, hcd⟩ := F.fn.ex
  refine LamX.pe_lamcall (Ng := N_l_refusal) (k := 4) (by rfl) F.mgf F.kp lk hcd b sc_l_refusal rfl (Or.inl rfl) (refusal_gives R) TB rfl (List.mem_singleton.mpr rfl) (fun q hq _ => by rw [List.mem_singleton.mp hq]; rfl) hr L (hdef _) (fun q cl pm cv ctv => hbind q cl pm cv ctv _) fun A' outer' s' H' E' f' c' hr' => ?_
  exact pe_callS K_solved.ok (hr'.mono (by decide)) hg K_solved.mgf K_solved.kp K_solved.b (fun σ => passAt (takes_of rfl rfl rfl rfl) σ) (pa_cons (pe_var (i := 9) rfl (Or.inr (Or.inr hv))) pa_nil)
theorem pe_lamR {g fI2 : Addr} {fdg fdI2 : FuncData} {p lpos pos p1 p2 p3 p4 p5 : Pos} {j4 : Nat} {x4 : _} {params : Arguments} {scope : Scope} (R : Ref K mg C fI CB) (F : C8.Def K mg "_law_refusal" s_l_refusal g fdg) (b : Binds K fdg ["_law_ask"] [])
    (K_ring : CalX P w K mg base 4 "is_ring" fI2 fdI2 ["literals", "indices"] (spRing0 K C)) (TB : LamX.TabB base mg c Pt) (hr : Room 6 (LX P w K mg base f c A outer s H E).A)
    (L : LamX.LamS (C8.fnScope s_law) scope) (hdef : ∀ env, defaultsOf params env = ([], [])) (hbind : ∀ (q : Str) (cl : List (Str × Addr)) (pm cv ctv : Value) (body : Expr), bindArgs (PySem.W.kla_fn "<lambda>" q params body scope cl pm cv ctv) ⟨[], []⟩ = pure [])
    (hv : scope.names.lookup ("_law_passed" : Str) = some .free) (hg : scope.names.lookup ("is_ring" : Str) = some .globalImplicit) :
    PE (LX P w K mg base f c A outer s H E) (.Call (.Name "_law_refusal" p) [.Lambda params (.Call (.Name "is_ring" p1) [.Name "_law_passed" p2, .Tuple [.Constant (.int 0) j4 p4] x4 p5] [] p3) scope lpos] [] pos)
      (LamX.tLam [(Pt, lamQ)] (TRef C) fun E' => tCallS (spRing0 K C) (WE fun cls d _ H => E' cls d H) (tCons (tVar 9) (tCons (tTup (tCons (tC (.int 0)) tNil)) tNil))) := by
  obtain ⟨oc, od, dV, kV, doc, pm, an, cdv, ct, osl, rfl, lk, hcd⟩ := F.fn.ex
  refine LamX.pe_lamcall (Ng := N_l_refusal) (k := 4) (by rfl) F.mgf F.kp lk hcd b sc_l_refusal rfl (Or.inl rfl) (refusal_gives R) TB rfl (List.mem_singleton.mpr rfl) (fun q hq _ => by rw [List.mem_singleton.mp hq]; rfl) hr L (hdef _) (fun q cl pm cv ctv => hbind q cl pm cv ctv _) fun A' outer' s' H' E' f' c' hr' => ?_
  exact pe_callS K_ring.ok (hr'.mono (by decide)) hg K_ring.mgf K_ring.kp K_ring.b (fun σ => passAt (takes_of rfl rfl rfl rfl) σ) (pa_cons (pe_var (i := 9) rfl (Or.inr (Or.inr hv))) (pa_cons (pe_tup (pa_cons pe_int pa_nil)) pa_nil))
end
end K3

/-! the law's things: bad ones, items, what is due -/
namespace K3
open PySem L2 Bx
def xk (k : Nat) : Str := "x" ++ toString ((0 : Int) + (k : Int))
theorem xk_ok : ∀ i, i < 301 → PyData.strOk (xk i) = true ∧ xk i ≠ "a" := by decide +kernel
theorem xk_len : ∀ i : Nat, i < 301 → (Str.ofString "x").length + (Str.ofString (toString ((0 : Int) + ((i : Nat) : Int)))).length ≤ 1000 := by decide +kernel
theorem xk_log : ∀ i : Nat, i < 301 → ((0 : Int) + ((i : Nat) : Int)).natAbs.log2 < 1920 := by decide +kernel
/-- where the bad ones stand -/
structure BA where
  b : Addr
  l2 : Addr
  t1 : Addr
  t3 : Addr
  t4 : Addr
  t5 : Addr
  t8 : Addr
  t9 : Addr
  t10 : Addr
  p0 : Addr
  t13 : Addr
  ta : Addr
  t14 : Addr
def bads (B : BA) : List V := [.ref B.t1, .ref B.l2, .ref B.t3, .ref B.t4, .ref B.t5, .non, .int 5, .ref B.t8, .ref B.t9, .ref B.t10, .str "abc", .ref B.p0, .ref B.t13, .ref B.t14]
structure BadAt (H : Hp) (B : BA) : Prop where
  hb : H B.b = some (.lst (bads B))
  h1 : H B.t1 = some (.tup [.str "a", .str "b"])
  h2 : H B.l2 = some (.lst [.str "a", .str "b", .int 1])
  h3 : H B.t3 = some (.tup [.str "a", .int 1, .int 1])
  h4 : H B.t4 = some (.tup [.str "a", .str "b", .bl true])
  h5 : H B.t5 = some (.tup [.str "a", .str "b", .str "1"])
  h8 : H B.t8 = some (.tup [.non, .str "b", .int 1])
  h9 : H B.t9 = some (.tup [.str "a", .str "b", .int 1, .int 1])
  h10 : H B.t10 = some (.tup [])
  hp : H B.p0 = some (.dK [])
  h13 : H B.t13 = some (.tup [.str "a", .str "b", .non])
  hta : H B.ta = some (.tup [.str "a"])
  h14 : H B.t14 = some (.tup [.ref B.ta, .str "b", .int 1])
theorem BadAt.mono {H H' : Hp} {B : BA} (h : BadAt H B) (k : ∀ a o, H a = some o → (a = B.b ∨ a = B.l2 ∨ ∀ xs, o ≠ .lst xs) → (∀ ps, o ≠ .tbl ps) → H' a = some o) : BadAt H' B where
  hb := k _ _ h.hb (.inl rfl) (by intro ps q; cases q)
  h2 := k _ _ h.h2 (.inr (.inl rfl)) (by intro ps q; cases q)
  h1 := k _ _ h.h1 (.inr (.inr (by intro ps q; cases q))) (by intro ps q; cases q)
  h3 := k _ _ h.h3 (.inr (.inr (by intro ps q; cases q))) (by intro ps q; cases q)
  h4 := k _ _ h.h4 (.inr (.inr (by intro ps q; cases q))) (by intro ps q; cases q)
  h5 := k _ _ h.h5 (.inr (.inr (by intro ps q; cases q))) (by intro ps q; cases q)
  h8 := k _ _ h.h8 (.inr (.inr (by intro ps q; cases q))) (by intro ps q; cases q)
  h9 := k _ _ h.h9 (.inr (.inr (by intro ps q; cases q))) (by intro ps q; cases q)
  h10 := k _ _ h.h10 (.inr (.inr (by intro ps q; cases q))) (by intro ps q; cases q)
  hp := k _ _ h.hp (.inr (.inr (by intro ps q; cases q))) (by intro ps q; cases q)
  h13 := k _ _ h.h13 (.inr (.inr (by intro ps q; cases q))) (by intro ps q; cases q)
  hta := k _ _ h.hta (.inr (.inr (by intro ps q; cases q))) (by intro ps q; cases q)
  h14 := k _ _ h.h14 (.inr (.inr (by intro ps q; cases q))) (by intro ps q; cases q)
theorem BadAt.same {H H' : Hp} {B : BA} (h : BadAt H B) (S : Same H H') : BadAt H' B := h.mono fun a o e _ _ => S a o e
theorem BadAt.ext {H H' : Hp} {B : BA} (h : BadAt H B) (S : LamX.ExtN H H') : BadAt H' B := h.mono fun a o e _ n => S a o e n
theorem BadAt.but {H H' : Hp} {B : BA} {x : Addr} {ws : List V} (h : BadAt H B) (hx : H x = some (.lst ws)) (n1 : x ≠ B.b) (n2 : x ≠ B.l2) (S : But x H H') : BadAt H' B := h.mono fun a o e q _ => S a o e fun ea => by
  rcases q with q | q | q
  · exact n1 (ea.symm.trans q)
  · exact n2 (ea.symm.trans q)
  · rw [ea, hx] at e
    exact q ws (Option.some.inj e).symm
section
variable {K : PySem.W.Frag} {H : Hp} {B : BA}
theorem mem_bads {B : BA} {v : V} (h : v ∈ bads B) : v = .ref B.t1 ∨ v = .ref B.l2 ∨ v = .ref B.t3 ∨ v = .ref B.t4 ∨ v = .ref B.t5 ∨ v = .non ∨ v = .int 5 ∨ v = .ref B.t8 ∨ v = .ref B.t9 ∨ v = .ref B.t10 ∨ v = .str "abc" ∨ v = .ref B.p0 ∨ v = .ref B.t13 ∨ v = .ref B.t14 := by
  simpa [bads] using h
theorem bad_itk (h : BadAt H B) {v : V} (hv : v ∈ bads B) : ItK K H v false := by
  rcases mem_bads hv with rfl | rfl | rfl | rfl | rfl | rfl | rfl | rfl | rfl | rfl | rfl | rfl | rfl | rfl
  · exact .inr (.inl ⟨_, _, rfl, SqT.of h.h1, by simp, rfl⟩)
  · exact .inl ⟨_, tyL (SqL.of h.h2), rfl, rfl⟩
  · exact .inr (.inr ⟨_, _, _, _, _, _, _, _, _, _, rfl, SqT.of h.h3, .str K H _, .int K H _, .int K H _, rfl⟩)
  · exact .inr (.inr ⟨_, _, _, _, _, _, _, _, _, _, rfl, SqT.of h.h4, .str K H _, .str K H _, .bl K H _, rfl⟩)
  · exact .inr (.inr ⟨_, _, _, _, _, _, _, _, _, _, rfl, SqT.of h.h5, .str K H _, .str K H _, .str K H _, rfl⟩)
  · exact .inl ⟨_, .base .non, rfl, rfl⟩
  · exact .inl ⟨_, .base (.int 5), rfl, rfl⟩
  · exact .inr (.inr ⟨_, _, _, _, _, _, _, _, _, _, rfl, SqT.of h.h8, .non K H, .str K H _, .int K H _, rfl⟩)
  · exact .inr (.inl ⟨_, _, rfl, SqT.of h.h9, by simp, rfl⟩)
  · exact .inr (.inl ⟨_, _, rfl, SqT.of h.h10, by simp, rfl⟩)
  · exact .inl ⟨_, .base (.str _), rfl, rfl⟩
  · exact .inl ⟨_, .base (.dK h.hp), rfl, rfl⟩
  · exact .inr (.inr ⟨_, _, _, _, _, _, _, _, _, _, rfl, SqT.of h.h13, .str K H _, .str K H _, .non K H, rfl⟩)
  · exact .inr (.inr ⟨_, _, _, _, _, _, _, _, _, _, rfl, SqT.of h.h14, .tup (SqT.of h.hta), .str K H _, .int K H _, rfl⟩)
abbrev dsB : List (Option PyData) := [some (.tuple [.str "a", .str "b"]), some (.list [.str "a", .str "b", .int 1]), some (.tuple [.str "a", .int 1, .int 1]), some (.tuple [.str "a", .str "b", .bool true]), some (.tuple [.str "a", .str "b", .str "1"]), some .none, some (.int 5),
  some (.tuple [.none, .str "b", .int 1]), some (.tuple [.str "a", .str "b", .int 1, .int 1]), some (.tuple []), some (.str "abc"), none, some (.tuple [.str "a", .str "b", .none]), some (.tuple [.tuple [.str "a"], .str "b", .int 1])]
theorem bads_it0 (h : BadAt H B) : It0s K H B.p0 (bads B) dsB := by
  refine .cons (.dat (.tup (SqT.of h.h1) (.cons (.str _) (.cons (.str _) .nil))) (by decide +kernel) (by intro b q; cases q)) ?_
  refine .cons (.dat (.lst (SqL.of h.h2) (.cons (.str _) (.cons (.str _) (.cons (.int _) .nil)))) (by decide +kernel) (by intro b q; cases q)) ?_
  refine .cons (.dat (.tup (SqT.of h.h3) (.cons (.str _) (.cons (.int _) (.cons (.int _) .nil)))) (by decide +kernel) (by intro b q; cases q)) ?_
  refine .cons (.dat (.tup (SqT.of h.h4) (.cons (.str _) (.cons (.str _) (.cons (.bl _) .nil)))) (by decide +kernel) (by intro b q; cases q)) ?_
  refine .cons (.dat (.tup (SqT.of h.h5) (.cons (.str _) (.cons (.str _) (.cons (.str _) .nil)))) (by decide +kernel) (by intro b q; cases q)) ?_
  refine .cons (.dat .non (by decide +kernel) (by intro b q; cases q)) ?_
  refine .cons (.dat (.int _) (by decide +kernel) (by intro b q; cases q)) ?_
  refine .cons (.dat (.tup (SqT.of h.h8) (.cons .non (.cons (.str _) (.cons (.int _) .nil)))) (by decide +kernel) (by intro b q; cases q)) ?_
  refine .cons (.dat (.tup (SqT.of h.h9) (.cons (.str _) (.cons (.str _) (.cons (.int _) (.cons (.int _) .nil))))) (by decide +kernel) (by intro b q; cases q)) ?_
  refine .cons (.dat (.tup (SqT.of h.h10) .nil) (by decide +kernel) (by intro b q; cases q)) ?_
  refine .cons (.dat (.str _) (by decide +kernel) (by intro b q; cases q)) ?_
  refine .cons .dct ?_
  refine .cons (.dat (.tup (SqT.of h.h13) (.cons (.str _) (.cons (.str _) (.cons .non .nil)))) (by decide +kernel) (by intro b q; cases q)) ?_
  exact .cons (.dat (.tup (SqT.of h.h14) (.cons (.tup (SqT.of h.hta) (.cons (.str _) .nil)) (.cons (.str _) (.cons (.int _) .nil)))) (by decide +kernel) (by intro b q; cases q)) .nil
/-- a bad one: it is in the list -/
theorem bad_in (h : BadAt H B) {v : V} (hv : v ∈ bads B) : ∃ dx, It0 K H B.p0 v dx ∧ (dsB.any fun z => eqO z dx) = true := by
  have key : ∀ {xs : List V} {ds : List (Option PyData)}, It0s K H B.p0 xs ds → v ∈ xs → ∃ d, d ∈ ds ∧ It0 K H B.p0 v d := fun {xs ds} hs => by
    induction hs with
    | nil => exact fun q => (by cases q)
    | cons h1 _ ih =>
      intro q
      rcases List.mem_cons.mp q with rfl | q
      · exact ⟨_, List.mem_cons_self, h1⟩
      · obtain ⟨d, h2, h3⟩ := ih q
        exact ⟨d, List.mem_cons_of_mem _ h2, h3⟩
  obtain ⟨d, h1, h2⟩ := key (bads_it0 h) hv
  exact ⟨d, h2, (by decide +kernel : ∀ d ∈ dsB, (dsB.any fun z => eqO z d) = true) d h1⟩
def Good (H : Hp) (i : Nat) (v : V) : Prop := ∃ p n, v = .ref p ∧ H p = some (.tup [.str (xk i), .str "", .int n])
theorem Good.not_bad (h : BadAt H B) {i : Nat} (hi : i < 301) {v : V} (g : Good H i v) : v ∉ bads B := by
  obtain ⟨p, n, rfl, hp⟩ := g
  intro hv
  have hx := (xk_ok i hi).2
  have ne : ∀ {a : Addr} {o : HO}, V.ref p = V.ref a → H a = some o → o = .tup [.str (xk i), .str "", .int n] := fun e ha => by
    have e' := V.ref.inj e
    rw [← e', hp] at ha
    exact (Option.some.inj ha).symm
  rcases mem_bads hv with e | e | e | e | e | e | e | e | e | e | e | e | e | e
  · have := ne e h.h1; simp at this
  · have := ne e h.h2; simp at this
  · have := ne e h.h3; simp at this
  · have := ne e h.h4; simp at this
  · have := ne e h.h5; simp at this
  · cases e
  · cases e
  · have := ne e h.h8; simp at this
  · have := ne e h.h9; simp at this
  · have := ne e h.h10; simp at this
  · cases e
  · have := ne e h.hp; simp at this
  · have := ne e h.h13; simp at this
  · have := ne e h.h14; simp at this
theorem Good.itk {i : Nat} {v : V} (g : Good H i v) : ItK K H v true := by
  obtain ⟨p, n, rfl, hp⟩ := g
  exact .inr (.inr ⟨_, _, _, _, _, _, _, _, _, _, rfl, SqT.of hp, .str K H _, .str K H _, .int K H _, rfl⟩)
theorem Good.not_in {i : Nat} (hi : i < 301) {v : V} (g : Good H i v) (p0 : Addr) : ∃ dx, It0 K H p0 v dx ∧ (dsB.any fun z => eqO z dx) = false := by
  obtain ⟨p, n, rfl, hp⟩ := g
  obtain ⟨ho, hx⟩ := xk_ok i hi
  refine ⟨some (.tuple [.str (xk i), .str "", .int n]), .dat (.tup (SqT.of hp) (.cons (.str _) (.cons (.str _) (.cons (.int _) .nil)))) ?_ (by intro b q; cases q), ?_⟩
  · unfold SeqAt.shaped
    simp [PyData.canLay0, PyData.canLayAll0, ho, PyData.depth, PyData.depthAll]
    decide +kernel
  · have hx' : ¬ (Str.ofString "a" = xk i) := fun e => hx e.symm
    simp [eqO, PyData.eqv, PyData.eqvAll, hx']
end
end K3

/-! what is due, and what a refusal tells -/
namespace K3
open PySem L2 Bx
theorem Good.mono {H H' : Hp} {i : Nat} {v : V} (g : Good H i v) (k : ∀ a o, H a = some o → (∀ xs, o ≠ .lst xs) → (∀ ps, o ≠ .tbl ps) → H' a = some o) : Good H' i v := by
  obtain ⟨p, n, rfl, hp⟩ := g
  exact ⟨p, n, rfl, k _ _ hp (by intro ps q; cases q) (by intro ps q; cases q)⟩
/-- the items: good ones, and bad ones -/
structure Items (H : Hp) (B : BA) (xs : List V) (m : Nat) : Prop where
  len : xs.length = m
  at_ : ∀ i v, xs[i]? = some v → Good H i v ∨ v ∈ bads B
theorem Items.mono {H H' : Hp} {B : BA} {xs : List V} {m : Nat} (h : Items H B xs m) (k : ∀ a o, H a = some o → (∀ xs, o ≠ .lst xs) → (∀ ps, o ≠ .tbl ps) → H' a = some o) : Items H' B xs m :=
  ⟨h.len, fun i v e => (h.at_ i v e).imp (fun g => g.mono k) id⟩
theorem Items.same {H H' : Hp} {B : BA} {xs : List V} {m : Nat} (h : Items H B xs m) (S : Same H H') : Items H' B xs m := h.mono fun a o e _ _ => S a o e
theorem Items.ext {H H' : Hp} {B : BA} {xs : List V} {m : Nat} (h : Items H B xs m) (S : LamX.ExtN H H') : Items H' B xs m := h.mono fun a o e _ n => S a o e n
theorem Items.but {H H' : Hp} {B : BA} {xs : List V} {m : Nat} {x : Addr} {ws : List V} (h : Items H B xs m) (hx : H x = some (.lst ws)) (S : But x H H') : Items H' B xs m := h.mono fun a o e q _ => S a o e fun ea => by
  rw [ea, hx] at e
  exact q ws (Option.some.inj e).symm
theorem Items.put {H : Hp} {B : BA} {xs : List V} {m i : Nat} {v : V} (h : Items H B xs m) (hv : v ∈ bads B) : Items H B (xs.set i v) m := by
  refine ⟨by rw [List.length_set]; exact h.len, fun j u e => ?_⟩
  by_cases hj : i = j
  · subst hj
    by_cases hl : i < xs.length
    · rw [List.getElem?_set_self hl] at e
      exact .inr (Option.some.inj e ▸ hv)
    · rw [List.getElem?_eq_none (by rw [List.length_set]; omega)] at e
      cases e
  · rw [List.getElem?_set_ne hj] at e
    exact h.at_ j u e
def isG (B : BA) (v : V) : Bool := !decide (v ∈ bads B)
theorem Items.itk {K : PySem.W.Frag} {H : Hp} {B : BA} {xs : List V} {m : Nat} (h : Items H B xs m) (hB : BadAt H B) (hm : m ≤ 301) {i : Nat} {v : V} (e : xs[i]? = some v) : ItK K H v (isG B v) := by
  have hi : i < 301 := by
    have := (List.getElem?_eq_some_iff.mp e).1
    have := h.len
    omega
  unfold isG
  rcases h.at_ i v e with g | g
  · rw [decide_eq_false (g.not_bad hB hi)]
    exact g.itk
  · rw [decide_eq_true g]
    exact bad_itk hB g
theorem Items.in_ {K : PySem.W.Frag} {H : Hp} {B : BA} {xs : List V} {m : Nat} (h : Items H B xs m) (hB : BadAt H B) (hm : m ≤ 301) {i : Nat} {v : V} (e : xs[i]? = some v) : ∃ dx, It0 K H B.p0 v dx ∧ (dsB.any fun z => eqO z dx) = !isG B v := by
  have hi : i < 301 := by
    have := (List.getElem?_eq_some_iff.mp e).1
    have := h.len
    omega
  unfold isG
  rcases h.at_ i v e with g | g
  · rw [decide_eq_false (g.not_bad hB hi)]
    exact g.not_in hi B.p0
  · rw [decide_eq_true g]
    exact bad_in hB g
/-- what is due for a thing -/
def DueOf (K : PySem.W.Frag) (C : Addr) (v : V) (H : Hp) (o : Option Int) : Prop := ∀ (E : XK) (G : Prop), (o = none → G) → (∀ n, o = some n → Out C E H n) → Chk K C v H E G
/-- what is due for the items -/
def DueIs (B : BA) (xs : List V) (o : Option Int) : Prop := (300 < xs.length ∧ o = some (-1)) ∨ (xs.length ≤ 300 ∧ ((o = none ∧ ∀ v ∈ xs, isG B v = true) ∨ ∃ i : Nat, o = some (i : Int) ∧ (∃ v, xs[i]? = some v ∧ isG B v = false) ∧ ∀ j, j < i → ∀ v, xs[j]? = some v → isG B v = true))
theorem due_seq {K : PySem.W.Frag} {C : Addr} {H : Hp} {B : BA} {xs : List V} {m : Nat} {o : Option Int} (h : Items H B xs m) (hB : BadAt H B) (hm : m ≤ 301) (d : DueIs B xs o) (E : XK) (G : Prop) (hn : o = none → G) (ho : ∀ n, o = some n → Out C E H n) :
    (300 < xs.length ∧ Out C E H (-1)) ∨ (xs.length ≤ 300 ∧ ∃ gs : List Bool, gs.length = xs.length ∧ (∀ (i : Nat) x g, xs[i]? = some x → gs[i]? = some g → ItK K H x g) ∧ ((∀ g ∈ gs, g = true) → G) ∧ ∀ i : Nat, gs[i]? = some false → (∀ j, j < i → gs[j]? = some true) → Out C E H (i : Int)) := by
  rcases d with ⟨hl, rfl⟩ | ⟨hl, d⟩
  · exact .inl ⟨hl, ho _ rfl⟩
  · refine .inr ⟨hl, xs.map (isG B), by simp, fun i x g h1 h2 => ?_, fun hall => ?_, fun i hi hj => ?_⟩
    · rw [List.getElem?_map, h1] at h2
      have e : isG B x = g := Option.some.inj h2
      rw [← e]
      exact h.itk hB hm h1
    · rcases d with ⟨rfl, _⟩ | ⟨i, rfl, ⟨v, h1, h2⟩, _⟩
      · exact hn rfl
      · have := hall _ (List.mem_map_of_mem (List.mem_of_getElem? h1))
        rw [h2] at this
        cases this
    · rcases d with ⟨rfl, hall⟩ | ⟨i', rfl, ⟨v, h1, h2⟩, h3⟩
      · rw [List.getElem?_map] at hi
        cases e : xs[i]? with
        | none => rw [e] at hi; cases hi
        | some u =>
          rw [e] at hi
          have e2 : isG B u = false := Option.some.inj hi
          rw [hall u (List.mem_of_getElem? e)] at e2
          cases e2
      · have e0 : i = i' := by
          rcases Nat.lt_trichotomy i i' with q | q | q
          · rw [List.getElem?_map] at hi
            cases e : xs[i]? with
            | none => rw [e] at hi; cases hi
            | some u =>
              rw [e] at hi
              have e2 : isG B u = false := Option.some.inj hi
              rw [h3 i q u e] at e2
              cases e2
          · exact q
          · have := hj i' q
            rw [List.getElem?_map, h1] at this
            have e2 : isG B v = true := Option.some.inj this
            rw [h2] at e2
            cases e2
        rw [e0]
        exact ho _ rfl
theorem due_lst {K : PySem.W.Frag} {C : Addr} {H : Hp} {B : BA} {xs : List V} {m : Nat} {o : Option Int} {p : Addr} (hp : H p = some (.lst xs)) (h : Items H B xs m) (hB : BadAt H B) (hm : m ≤ 301) (d : DueIs B xs o) : DueOf K C (.ref p) H o :=
  fun E G hn ho => .inr (.inl ⟨p, xs, rfl, SqL.of hp, due_seq h hB hm d E G hn ho⟩)
theorem due_tup {K : PySem.W.Frag} {C : Addr} {H : Hp} {B : BA} {xs : List V} {m : Nat} {o : Option Int} {p : Addr} (hp : H p = some (.tup xs)) (h : Items H B xs m) (hB : BadAt H B) (hm : m ≤ 301) (d : DueIs B xs o) : DueOf K C (.ref p) H o :=
  fun E G hn ho => .inr (.inr ⟨p, xs, rfl, SqT.of hp, due_seq h hB hm d E G hn ho⟩)
theorem due_no {K : PySem.W.Frag} {C : Addr} {H : Hp} {v : V} {t : Value} (ty : TyX K H v t) (kt : PySem.W.kitAny K t [.type "list", .type "tuple"] = some false) : DueOf K C v H (some (-1)) :=
  fun E G _ ho => .inl ⟨t, ty, kt, ho _ rfl⟩
/-- what _law_refusal tells -/
def refD : Option Int → List V
  | none => [.str "told"]
  | some n => [.str "refused", .int n]
def refP : Option Int → PyData
  | none => .tuple [.str "told"]
  | some n => .tuple [.str "refused", .int n]
theorem ref_dp {K : PySem.W.Frag} {H : Hp} {o : Option Int} {r : Addr} (h : H r = some (.tup (refD o))) : Dp K H (.ref r) (refP o) := by
  cases o with
  | none => exact .tup (SqT.of h) (.cons (.str _) .nil)
  | some n => exact .tup (SqT.of h) (.cons (.str _) (.cons (.int _) .nil))
theorem ref_sh (o : Option Int) : SeqAt.shaped (refP o) = true := by
  cases o with
  | none => decide +kernel
  | some n =>
    unfold SeqAt.shaped refP
    simp [PyData.canLay0, PyData.canLayAll0, PyData.depth, PyData.depthAll]
    decide +kernel
theorem ref_eq (o : Option Int) : PyData.eqv (refP o) (refP o) = true := by
  cases o <;> simp [refP, PyData.eqv, PyData.eqvAll]
section
variable {K : PySem.W.Frag} {C : Addr} {H : Hp} {σ : L2.St} {v : V} {o : Option Int} {Q : VK}
theorem tref_out (hq : ∀ r H', Same H H' → H' r = some (.tup (refD o)) → Q (.ref r) H') {H1 : Hp} (S1 : Same H H1) (n : Int) (e : o = some n) :
    Out C (fun cls d H' => cls = .ref C ∧ ∃ dd n, d = some dd ∧ H' dd = some (.xd [(("at" : Str), V.int n)]) ∧ ∀ p H'', Same H' H'' → H'' p = some (.tup [.str "refused", .int n]) → Q (.ref p) H'') H1 n := fun d H' S _ hd =>
  ⟨rfl, d, n, rfl, hd, fun p H'' S2 hp => hq p H'' ((S1.trans S).trans S2) (by rw [e]; exact hp)⟩
theorem tref_solved (hv : σ[9]? = some (some v)) (D : DueOf K C v H o) (hq : ∀ r H', Same H H' → H' r = some (.tup (refD o)) → Q (.ref r) H') :
    TRef C (fun E' H' Q' => tCallS (spSolved K C) (WE fun cls d _ H => E' cls d H) (tCons (tVar 9) tNil) σ H' Q') H Q := by
  refine ⟨v, hv, v, rfl, D _ _ (fun e r H' S => ⟨by show 1 ≤ sizeLine; decide, fun p hp => hq p _ (S.trans (Same.new hp)) (by rw [e]; exact upd_same)⟩) fun n e => ?_⟩
  exact tref_out hq (fun _ _ h => h) n e
theorem tref_ring (hv : σ[9]? = some (some v)) (D : ∀ H', Same H H' → DueOf K C v H' o) (hq : ∀ r H', Same H H' → H' r = some (.tup (refD o)) → Q (.ref r) H') :
    TRef C (fun E' H' Q' => tCallS (spRing0 K C) (WE fun cls d _ H => E' cls d H) (tCons (tVar 9) (tCons (tTup (tCons (tC (.int 0)) tNil)) tNil)) σ H' Q') H Q := by
  refine ⟨v, hv, (by show 1 ≤ sizeLine; decide), fun c hc => ⟨v, c, rfl, SqT.of upd_same, ?_⟩⟩
  have S1 := Same.new (o := HO.tup [.int 0]) hc
  refine D _ S1 _ _ (fun e b H' S => ⟨by show 1 ≤ sizeLine; decide, fun p hp => hq p _ ((S1.trans S).trans (Same.new hp)) (by rw [e]; exact upd_same)⟩) fun n e => ?_
  exact tref_out hq S1 n e
end
theorem TB1.but {Pt : Addr} {H H' : Hp} {x : Addr} {ws : List V} (t : TB1 Pt H) (hx : H x = some (.lst ws)) (S : But x H H') : TB1 Pt H' := fun p hp => by
  obtain ⟨ps, h1, h2, h3⟩ := t p hp
  refine ⟨ps, S _ _ h1 (ne_of h1 hx (by intro q; cases q)), h2, fun pos cv hc => ?_⟩
  obtain ⟨c, e1, e2⟩ := h3 pos cv hc
  exact ⟨c, e1, S _ _ e2 (ne_of e2 hx (by unfold LamX.CodeO; intro q; cases q))⟩
theorem TB1.same {Pt : Addr} {H H' : Hp} (t : TB1 Pt H) (S : Same H H') : TB1 Pt H' := LamX.Tabs.ext t S
end K3

namespace K3
open PySem L2 Bx
theorem WellAt.same {H H' : Hp} {l : Addr} (S : Same H H') (W : WellAt H l) : WellAt H' l := by
  obtain ⟨x, y, z, hw⟩ := W
  exact ⟨x, y, z, S _ _ hw⟩
theorem WellAt.ne {H : Hp} {l p : Addr} (W : WellAt H l) (h : H p = none) : p ≠ l := fun e => by
  obtain ⟨x, y, z, hw⟩ := W
  rw [e, hw] at h
  cases h
theorem WellAt.neT {H : Hp} {l p : Addr} {xs : List V} (W : WellAt H l) (h : H p = some (.tup xs)) : p ≠ l := fun e => by
  obtain ⟨x, y, z, hw⟩ := W
  rw [e, hw] at h
  cases h
theorem WellAt.upd {H : Hp} {l p : Addr} {o : HO} (W : WellAt H l) (h : p ≠ l) : WellAt (upd H p o) l := by
  obtain ⟨x, y, z, hw⟩ := W
  exact ⟨x, y, z, by rw [upd_ne h.symm]; exact hw⟩
theorem sz {n : Nat} (h : n ≤ 1000) : n ≤ sizeLine := Nat.le_trans h (by decide)
theorem cut_mem {xs : List V} {lo hi : Option Int} {x : V} (h : x ∈ cutV xs lo hi) : x ∈ xs := by
  unfold cutV at h
  exact List.mem_of_mem_drop (List.mem_of_mem_take h)
theorem kp {H : Hp} {p q : Addr} {o o' : HO} (h : H p = some o) (n : H q = none) : upd H q o' p = some o := by
  rw [upd_ne (ne_of_none h n)]
  exact h
theorem kpS {H0 H : Hp} {q : Addr} {o' : HO} (h : Same H0 H) (n : H q = none) : Same H0 (upd H q o') := h.trans (Same.new n)
/-- what a turn of the law holds -/
structure St (H : Hp) (t : Addr) (cs : List V) (Pt l : Addr) (B : BA) (D : Addr) (m : Nat) (xs : List V) : Prop where
  ht : H t = some (.lst cs)
  tb : TB1 Pt H
  W : WellAt H l
  hB : BadAt H B
  hD : H D = some (.lst xs)
  it : Items H B xs m
  ntl : t ≠ l
  nDl : D ≠ l
  nbl : B.b ≠ l
  n2l : B.l2 ≠ l
  ntD : t ≠ D
  nbD : B.b ≠ D
  n2D : B.l2 ≠ D
section
variable {H H' : Hp} {t : Addr} {cs : List V} {Pt l : Addr} {B : BA} {D : Addr} {m : Nat} {xs : List V}
theorem St.but (h : St H t cs Pt l B D m xs) (S : But l H H') (W' : WellAt H' l) : St H' t cs Pt l B D m xs := by
  obtain ⟨x, y, z, hw⟩ := id h.W
  exact ⟨S _ _ h.ht h.ntl, h.tb.but hw S, W', h.hB.but hw h.nbl.symm h.n2l.symm S, S _ _ h.hD h.nDl, h.it.but hw S, h.ntl, h.nDl, h.nbl, h.n2l, h.ntD, h.nbD, h.n2D⟩
theorem St.same (h : St H t cs Pt l B D m xs) (S : Same H H') : St H' t cs Pt l B D m xs :=
  ⟨S _ _ h.ht, h.tb.same S, h.W.same S, h.hB.same S, S _ _ h.hD, h.it.same S, h.ntl, h.nDl, h.nbl, h.n2l, h.ntD, h.nbD, h.n2D⟩
theorem St.ext (h : St H t cs Pt l B D m xs) (S : LamX.ExtN H H') (tb : TB1 Pt H') : St H' t cs Pt l B D m xs := by
  obtain ⟨x, y, z, hw⟩ := id h.W
  exact ⟨S _ _ h.ht (by intro ps q; cases q), tb, ⟨x, y, z, S _ _ hw (by intro ps q; cases q)⟩, h.hB.ext S, S _ _ h.hD (by intro ps q; cases q), h.it.ext S, h.ntl, h.nDl, h.nbl, h.n2l, h.ntD, h.nbD, h.n2D⟩
theorem St.put (h : St H t cs Pt l B D m xs) {i : Nat} {v : V} (hv : v ∈ bads B) : St (upd H D (.lst (xs.set i v))) t cs Pt l B D m (xs.set i v) := by
  have S : But D H (upd H D (.lst (xs.set i v))) := But.upd
  obtain ⟨x, y, z, hw⟩ := id h.W
  exact ⟨S _ _ h.ht h.ntD, h.tb.but h.hD S, ⟨x, y, z, S _ _ hw h.nDl.symm⟩, h.hB.but h.hD h.nbD.symm h.n2D.symm S, upd_same, (h.it.but h.hD S).put hv, h.ntl, h.nDl, h.nbl, h.n2l, h.ntD, h.nbD, h.n2D⟩
end
/-- the wrong ones below j -/
def Fb (B : BA) (xs : List V) (j : Nat) (ws : List Int) : Prop := (ws = [] ∧ ∀ i, i < j → ∀ v, xs[i]? = some v → isG B v = true) ∨ ∃ (i : Nat) (r : List Int), ws = (i : Int) :: r ∧ (∃ v, xs[i]? = some v ∧ isG B v = false) ∧ ∀ i', i' < i → ∀ v, xs[i']? = some v → isG B v = true
theorem Fb.good {B : BA} {xs : List V} {j : Nat} {ws : List Int} {u : V} (h : Fb B xs j ws) (e : xs[j]? = some u) (g : isG B u = true) : Fb B xs (j + 1) ws := by
  rcases h with ⟨rfl, h⟩ | h
  · refine .inl ⟨rfl, fun i hi v hv => ?_⟩
    by_cases hij : i = j
    · rw [hij, e] at hv
      rw [← Option.some.inj hv]
      exact g
    · exact h i (by omega) v hv
  · exact .inr h
theorem Fb.bad {B : BA} {xs : List V} {j : Nat} {ws : List Int} {u : V} (h : Fb B xs j ws) (e : xs[j]? = some u) (g : isG B u = false) : Fb B xs (j + 1) (ws ++ [(j : Int)]) := by
  rcases h with ⟨rfl, h⟩ | ⟨i, r, rfl, h⟩
  · exact .inr ⟨j, [], rfl, ⟨u, e, g⟩, h⟩
  · exact .inr ⟨i, r ++ [(j : Int)], rfl, h⟩
theorem join1 {c : Prop} [Decidable c] {A B : Prop} {NX : Addr → Hp → Prop} (R : Addr → Hp → Prop) (p : Addr) (H : Hp) (hB : B = NX p H) (hr : ∀ p H, R p H → NX p H) (h0 : ¬ c → R p H) (h1 : c → (∀ p H, R p H → NX p H) → A) : if c then A else B := by
  split
  · rename_i h
    exact h1 h hr
  · rename_i h
    rw [hB]
    exact hr p H (h0 h)
theorem join2 {c : Prop} [Decidable c] {A B : Prop} {NX : V → Addr → Hp → Prop} (R : V → Addr → Hp → Prop) (v : V) (p : Addr) (H : Hp) (hB : B = NX v p H) (hr : ∀ v p H, R v p H → NX v p H) (h0 : ¬ c → R v p H) (h1 : c → (∀ v p H, R v p H → NX v p H) → A) : if c then A else B := by
  split
  · rename_i h
    exact h1 h hr
  · rename_i h
    rw [hB]
    exact hr v p H (h0 h)
theorem mono_if {tA : TT} {ta tb : TE} {σ : L2.St} {H : Hp} {Q : VK} (R : VK) (hq : ∀ x H', R x H' → Q x H') (h : (∀ x H', R x H' → Q x H') → tIf tA ta tb σ H Q) : tIf tA ta tb σ H Q := h hq
theorem mono_if2 {tA : TT} {ta tb : TE} {g : TG} {t2 : TS} {D : Ends} {σ : L2.St} {H : Hp} (R : VK) (hq : ∀ x H', R x H' → g x σ H' fun σ2 H2 => t2 D σ2 H2) (h : (∀ x H', R x H' → g x σ H' fun σ2 H2 => t2 D σ2 H2) → tIf tA ta tb σ H fun x H1 => g x σ H1 fun σ2 H2 => t2 D σ2 H2) : tNext { D with nx := tSeq (tAsg (tIf tA ta tb) g) t2 D } σ H := h hq
/-- the first bad one, or none -/
def D1 (B : BA) (xs : List V) (o : Option Int) : Prop := (o = none ∧ ∀ v ∈ xs, isG B v = true) ∨ ∃ i : Nat, o = some (i : Int) ∧ (∃ v, xs[i]? = some v ∧ isG B v = false) ∧ ∀ j, j < i → ∀ v, xs[j]? = some v → isG B v = true
/-- what is passed -/
def PS (B : BA) (D : Addr) (xs : List V) (x : V) (H : Hp) (o : Option Int) : Prop :=
  (DueIs B xs o ∧ (x = .ref D ∨ ∃ q, x = .ref q ∧ H q = some (.tup xs))) ∨
  (o = some (-1) ∧ (x = .non ∨ x = .int 3 ∨ x = .str "ab" ∨ x = .bl true ∨ ∃ d kvs, x = .ref d ∧ H d = some (.dK kvs)))
theorem PS.mono {B : BA} {D : Addr} {xs : List V} {x : V} {H H' : Hp} {o : Option Int} (h : PS B D xs x H o) (k : ∀ a u, H a = some u → (∀ xs, u ≠ .lst xs) → (∀ ps, u ≠ .tbl ps) → H' a = some u) : PS B D xs x H' o := by
  rcases h with ⟨h1, h2 | ⟨q, h2, h3⟩⟩ | ⟨h1, h2 | h2 | h2 | h2 | ⟨d, kvs, h2, h3⟩⟩
  · exact .inl ⟨h1, .inl h2⟩
  · exact .inl ⟨h1, .inr ⟨q, h2, k _ _ h3 (by intro ps q; cases q) (by intro ps q; cases q)⟩⟩
  · exact .inr ⟨h1, .inl h2⟩
  · exact .inr ⟨h1, .inr (.inl h2)⟩
  · exact .inr ⟨h1, .inr (.inr (.inl h2))⟩
  · exact .inr ⟨h1, .inr (.inr (.inr (.inl h2)))⟩
  · exact .inr ⟨h1, .inr (.inr (.inr (.inr ⟨d, kvs, h2, k _ _ h3 (by intro ps q; cases q) (by intro ps q; cases q)⟩)))⟩
theorem PS.same {B : BA} {D : Addr} {xs : List V} {x : V} {H H' : Hp} {o : Option Int} (h : PS B D xs x H o) (S : Same H H') : PS B D xs x H' o := h.mono fun a o e _ _ => S a o e
theorem PS.ext {B : BA} {D : Addr} {xs : List V} {x : V} {H H' : Hp} {o : Option Int} (h : PS B D xs x H o) (S : LamX.ExtN H H') : PS B D xs x H' o := h.mono fun a o e _ n => S a o e n
theorem PS.but {B : BA} {D l : Addr} {xs : List V} {x : V} {H H' : Hp} {o : Option Int} (h : PS B D xs x H o) (W : WellAt H l) (S : But l H H') : PS B D xs x H' o := by
  obtain ⟨y, z, w, hw⟩ := W
  exact h.mono fun a u e n _ => S a u e (ne_of e hw (n _))
theorem PS.due {K : PySem.W.Frag} {C : Addr} {H : Hp} {t : Addr} {cs : List V} {Pt l : Addr} {B : BA} {D : Addr} {m : Nat} {xs : List V} {x : V} {o : Option Int} (h : PS B D xs x H o) (X : St H t cs Pt l B D m xs) (hm : m ≤ 301) : DueOf K C x H o := by
  rcases h with ⟨h1, rfl | ⟨q, rfl, h3⟩⟩ | ⟨rfl, rfl | rfl | rfl | rfl | ⟨d, kvs, rfl, h3⟩⟩
  · exact due_lst X.hD X.it X.hB hm h1
  · exact due_tup h3 X.it X.hB hm h1
  · exact due_no (.base .non) rfl
  · exact due_no (.base (.int 3)) rfl
  · exact due_no (.base (.str _)) rfl
  · exact due_no (.base (.bl true)) rfl
  · exact due_no (.base (.dK h3)) rfl
def spLaw (K : PySem.W.Frag) (Pt : Addr) : Sp := fun vs H Q _ => ∃ (a : Addr) (ns : List Int), vs = [.ref a] ∧ SqL K H a (ns.map V.int) ∧ ns.length ≤ 63 ∧ H Pt = some (.tbl #[]) ∧ ∀ H', Q (.bl true) H'
section
variable {P : Program} {w : World} {K : PySem.W.Frag} {mg : Str → Option Value} {base : Heap} {C fI CB c Pt f : Addr}
theorem of_nox {A : Around} {outer : List Env} {s : Shared} {H : Hp} {E : XK} {body : List Stmt} {D : Ends} {σ : L2.St} (h : ∃ t, PSs (LX P w K mg base f c A outer s H E) body t ∧ t D σ H) :
    ∃ t, PSs (cxOf C8.CX0 P w K mg base N_law "law" (C8.fnScope s_law) f (.ref c) A outer s H E) body t ∧ t D σ H := h.imp fun t q => ⟨q.1.nox, q.2⟩
theorem ok_law {g fS fR : Addr} {fdg fdS fdR : FuncData} {oc dV kV doc pm ct : Value} {od an : Option Addr} {osl : Array (Option Value)} (lk : K.lookup f = some ⟨oc, od, .func (PySem.W.fnOf "law" "law" (C8.fnArgs s_law) (C8.fnBody s_law) (C8.fnScope s_law) dV kV doc pm an (.ref c) ct), osl⟩) (hcd : PySem.W.codeIn K (.ref c) "law" = true)
    (T : Txt K mg C fI) (R : Ref K mg C fI CB) (F_ref : C8.Def K mg "_law_refusal" s_l_refusal g fdg) (b_ref : Binds K fdg ["_law_ask"] [])
    (K_solved : CalX P w K mg base 4 "solved" fS fdS ["literals"] (spSolved K C)) (K_is_ring : CalX P w K mg base 4 "is_ring" fR fdR ["literals", "indices"] (spRing0 K C)) (TB : LamX.TabB base mg c Pt)
    (K_l_well : C8.Cal P w K mg base 1 "_law_well" spWell []) (K_l_draw : C8.Cal P w K mg base 1 "_law_draw" spDraw []) (K_l_one : C8.Cal P w K mg base 2 "_law_one" (spOne K) []) :
    FnOk P w K mg base C8.CX0 7 f (PySem.W.fnOf "law" "law" (C8.fnArgs s_law) (C8.fnBody s_law) (C8.fnScope s_law) dV kV doc pm an (.ref c) ct) ["_law_script"] (spLaw K Pt) := by
  refine fn_of lk hcd sc_law (fun vs H Q E h => ?_) (fun A outer s H vs Q E hr h => of_nox ?_)
  · obtain ⟨a, ns, rfl, _⟩ := h
    rfl
  · obtain ⟨a, ns, rfl, hS, hlen, hPt, k⟩ := h
    have hr : Room 6 (LX P w K mg base f c A outer s H E).A := hr
    have hu65 : (LX P w K mg base f c A outer s H E).A.units + 65 < cLine := by have := hr.un; omega
    refine ⟨_, (pss_cons (ps_for PassesOwn.never rfl (pi_list (pe_slice sl_list (pe_op op_catS (pv 0) (pe_lst (pa_cons pe_int pa_nil))) po_none (po_some pe_int))) (pg_name (i := 1) sc_law.nd rfl (Or.inl rfl))
    (pss_cons (ps_set (i := 2) sc_law.nd rfl (Or.inr rfl) (C8.pe_c K_l_well hr (by decide) (by rfl) (pa_cons (pv 1) pa_nil)))
    (pss_cons (ps_set (i := 3) sc_law.nd rfl (Or.inr rfl) (pe_lst (pa_cons (pe_tup (pa_cons pe_str (pa_cons pe_str pa_nil))) (pa_cons (pe_lst (pa_cons pe_str (pa_cons pe_str (pa_cons pe_int pa_nil)))) (pa_cons (pe_tup (pa_cons pe_str (pa_cons pe_int (pa_cons pe_int pa_nil)))) (pa_cons (pe_tup (pa_cons pe_str (pa_cons pe_str (pa_cons pe_bl pa_nil)))) (pa_cons (pe_tup (pa_cons pe_str (pa_cons pe_str (pa_cons pe_str pa_nil)))) (pa_cons pe_non (pa_cons pe_int (pa_cons (pe_tup (pa_cons pe_non (pa_cons pe_str (pa_cons pe_int pa_nil)))) pa_nil))))))))))
    (pss_cons (ps_set (i := 3) sc_law.nd rfl (Or.inr rfl) (pe_op op_catS (pv 3) (pe_lst (pa_cons (pe_tup (pa_cons pe_str (pa_cons pe_str (pa_cons pe_int (pa_cons pe_int pa_nil))))) (pa_cons (pe_tup pa_nil) (pa_cons pe_str (pa_cons pe_dnewK (pa_cons (pe_tup (pa_cons pe_str (pa_cons pe_str (pa_cons pe_non pa_nil)))) (pa_cons (pe_tup (pa_cons (pe_tup (pa_cons pe_str pa_nil)) (pa_cons pe_str (pa_cons pe_int pa_nil)))) pa_nil)))))))))
    (pss_cons (ps_set (i := 4) sc_law.nd rfl (Or.inl rfl) (C8.pe_c K_l_one hr (by decide) (by rfl) (pa_cons (pv 2) (pa_cons (pe_lst (pa_cons (C8.pe_c K_l_draw hr (by decide) (by rfl) (pa_cons (pv 2) (pa_cons pe_int pa_nil))) (pa_cons (C8.pe_c K_l_draw hr (by decide) (by rfl) (pa_cons (pv 2) (pa_cons pe_int pa_nil))) (pa_cons pe_int (pa_cons pe_int pa_nil))))) pa_nil))))
    (pss_cons (ps_set (i := 5) sc_law.nd rfl (Or.inr rfl) (pe_lc (own := [("_law_k", 7)]) (g := gName 7) (tt := tYes) rfl sc_law.nd (pi_range1 (by rfl) T.z_range (pa_cons (pv 4) pa_nil)) (blkOk_by (own := [("_law_k", 7)]) (N := N_law) (sc := C8.fnScope s_law) (by decide +kernel)) (fun _ _ _ _ _ => (pg_name (i := 7) sc_law.nd rfl (Or.inl rfl))) (fun _ _ _ _ _ => pts_nil) (fun _ _ _ _ _ => (pe_tup (pa_cons (pe_op op_add_str pe_str (pe_callTy call_str_int (by rfl) T.z_str (by decide +kernel) (pa_cons (pv 7) pa_nil))) (pa_cons pe_str (pa_cons (pe_op op_sub (C8.pe_c K_l_draw hr (by decide) (by rfl) (pa_cons (pv 2) (pa_cons pe_int pa_nil))) pe_int) pa_nil)))))))
    (pss_cons (ps_set (i := 6) sc_law.nd rfl (Or.inl rfl) (pe_tup (pa_cons pe_str pa_nil)))
    (pss_cons (ps_for PassesOwn.never rfl (pi_range1 (by rfl) T.z_range (pa_cons (C8.pe_c K_l_draw hr (by decide) (by rfl) (pa_cons (pv 2) (pa_cons pe_int pa_nil))) pa_nil)) (pg_name (i := 7) sc_law.nd rfl (Or.inl rfl))
    (pss_one (ps_if (pt_cmpR op_gt (pv 4) pe_int (nomark _)) (pss_one (ps_asg (C8.pe_c K_l_one hr (by decide) (by rfl) (pa_cons (pv 2) (pa_cons (pv 3) pa_nil))) (pg_sub (pv 5) (C8.pe_c K_l_draw hr (by decide) (by rfl) (pa_cons (pv 2) (pa_cons (pv 4) pa_nil))) set_list))) pss_nil)))
    (pss_cons (ps_setLc (i := 8) (own := [("_law_k", 7)]) (g := gName 7) rfl sc_law.nd rfl rfl (sw_true rfl rfl rfl (by decide +kernel)) (pi_range1 (by rfl) T.z_range (pa_cons (pv 4) pa_nil)) (blkOk_by (own := [("_law_k", 7)]) (N := N_law) (sc := C8.fnScope s_law) (by decide +kernel)) (fun _ _ _ _ _ => (pg_name (i := 7) sc_law.nd rfl (Or.inl rfl))) (fun _ _ _ _ _ => (pts_one (pt_cmpR (inOK K hu65) (pe_ix (ixLK K) (pv 5) (pv 7) (fun _ _ => rfl)) (pv 3) (by rfl)))) (fun _ _ _ _ _ => (pv 7)))
    (pss_cons (ps_if (pt_cmpR (op_neD hr.units) (pv 8) (pe_lst pa_nil) (nomark _)) (pss_one (ps_set (i := 6) sc_law.nd rfl (Or.inl rfl) (pe_tup (pa_cons pe_str (pa_cons (pe_ix ix_list (pv 8) pe_int (fun _ _ => rfl)) pa_nil))))) pss_nil)
    (pss_cons (ps_if (pt_cmpR op_gt (pv 4) pe_int (nomark _)) (pss_one (ps_set (i := 6) sc_law.nd rfl (Or.inl rfl) (pe_tup (pa_cons pe_str (pa_cons (pe_un un_neg pe_int) pa_nil))))) pss_nil)
    (pss_cons (ps_set (i := 9) sc_law.nd rfl (Or.inr rfl) (pe_ifExp (pt_cmpR op_eq (C8.pe_c K_l_draw hr (by decide) (by rfl) (pa_cons (pv 2) (pa_cons pe_int pa_nil))) pe_int (nomark _)) (pv 5) (pe_callTy call_tuple_of (by rfl) T.z_tuple (by decide +kernel) (pa_cons (pv 5) pa_nil))))
    (pss_cons (ps_if (pt_cmpR op_eq (C8.pe_c K_l_draw hr (by decide) (by rfl) (pa_cons (pv 2) (pa_cons pe_int pa_nil))) pe_int (nomark _)) (pss_one (ps_asg (pe_tup (pa_cons (C8.pe_c K_l_one hr (by decide) (by rfl) (pa_cons (pv 2) (pa_cons (pe_lst (pa_cons pe_non (pa_cons pe_int (pa_cons pe_str (pa_cons pe_dnewK (pa_cons (pe_disp (pps_cons pe_int (pe_tup (pa_cons pe_str (pa_cons pe_str (pa_cons pe_int pa_nil)))) pps_nil) (by rfl) (by rfl) (fun z => by cases z) (by decide)) (pa_cons pe_bl pa_nil))))))) pa_nil))) (pa_cons (pe_tup (pa_cons pe_str (pa_cons (pe_un un_neg pe_int) pa_nil))) pa_nil))) (pg_tup (by rfl) (pgs_cons (pg_name (i := 9) sc_law.nd rfl (Or.inr rfl)) (pgs_cons (pg_name (i := 6) sc_law.nd rfl (Or.inl rfl)) pgs_nil))))) pss_nil)
    (pss_cons (ps_if (pt_cmpR (op_neD hr.units) (pe_lamS R F_ref b_ref K_solved TB hr (LamX.lamS_by (by decide +kernel)) (fun _ => rfl) (fun _ _ _ _ _ _ => rfl) rfl rfl) (pv 6) (nomark _)) (pss_one (ps_ret pe_bl)) pss_nil)
    (pss_one (ps_if (pt_cmpR (op_neD hr.units) (pe_lamR R F_ref b_ref K_is_ring TB hr (LamX.lamS_by (by decide +kernel)) (fun _ => rfl) (fun _ _ _ _ _ _ => rfl) rfl rfl) (pv 6) (nomark _)) (pss_one (ps_ret pe_bl)) pss_nil))))))))))))))))
    (pss_one (ps_ret pe_bl))), ?_⟩
    have tb0 : TB1 Pt H := fun p hp => by
      rw [List.mem_singleton.mp hp]
      exact LamX.TabS.nil hPt
    refine ⟨_, rfl, sz (by simp), fun z nz => ⟨a, z, _, _, rfl, rfl, (Same.new nz).seq hS, SqL.of upd_same, sz (by simp; omega), fun y ny => ⟨_, rfl, y, _, rfl, SqL.of upd_same, fun t nt => ⟨t, rfl, ⟨_, SqL.of upd_same⟩, ?_⟩⟩⟩⟩
    generalize hcs : cutV (ns.map V.int ++ [.int 0]) none (some 10) = cs
    have hint : ∀ x ∈ cs, ∃ c, x = V.int c := fun x hx => by
      rw [← hcs] at hx
      rcases List.mem_append.mp (cut_mem hx) with h | h
      · obtain ⟨c, _, rfl⟩ := List.mem_map.mp h
        exact ⟨c, rfl⟩
      · exact ⟨0, by simpa using h⟩
    refine for_list (xs := cs) (fun i σ H' => ∃ (v1 v2 v3 v4 v5 v6 v7 v8 v9 : Option V), σ = [some (.ref a), v1, v2, v3, v4, v5, v6, v7, v8, v9] ∧ H' t = some (.lst cs) ∧ TB1 Pt H') ⟨none, none, none, none, none, none, none, none, none, rfl, upd_same, tb0.same (kpS (kpS (Same.new nz) ny) nt)⟩ (fun i σ H' _ h => ?_) ?_ ?_
    · obtain ⟨_, _, _, _, _, _, _, _, _, _, h, _⟩ := h
      exact SqL.of h
    · rintro i x σ H0 hx ⟨v1, v2, v3, v4, v5, v6, v7, v8, v9, rfl, ht, tb⟩
      obtain ⟨cc, rfl⟩ := hint x (List.mem_of_getElem? hx)
      refine ⟨_, rfl, cc, rfl, fun l H1 nl S1 W1 => ?_⟩
      have tl : t ≠ l := fun e => by
        rw [e, nl] at ht
        cases ht
      refine ⟨sz (by simp), fun t1 n_t1 => ⟨sz (by simp), fun l2 n_l2 => ⟨sz (by simp), fun t3 n_t3 => ⟨sz (by simp), fun t4 n_t4 => ⟨sz (by simp), fun t5 n_t5 => ⟨sz (by simp), fun t8 n_t8 => ⟨sz (by simp), fun b0 n_b0 => ⟨_, rfl, ⟨sz (by simp), fun t9 n_t9 => ⟨sz (by simp), fun t10 n_t10 => fun p0 n_p0 => ⟨sz (by simp), fun t13 n_t13 => ⟨sz (by simp), fun ta n_ta => ⟨sz (by simp), fun t14 n_t14 => ⟨sz (by simp), fun b1 n_b1 => ⟨b0, b1, _, _, rfl, rfl, SqL.of (kp (kp (kp (kp (kp (kp (kp upd_same n_t9) n_t10) n_p0) n_t13) n_ta) n_t14) n_b1), SqL.of upd_same, sz (by simp), fun b n_b => ?_⟩⟩⟩⟩⟩⟩⟩⟩⟩⟩⟩⟩⟩⟩⟩
      have SS := (kpS (o' := HO.lst (bads ⟨b, l2, t1, t3, t4, t5, t8, t9, t10, p0, t13, ta, t14⟩)) (kpS (kpS (kpS (kpS (kpS (kpS (kpS (kpS (kpS (kpS (kpS (kpS (kpS (kpS S1 n_t1) n_l2) n_t3) n_t4) n_t5) n_t8) n_b0) n_t9) n_t10) n_p0) n_t13) n_ta) n_t14) n_b1) n_b)
      have hB : BadAt _ ⟨b, l2, t1, t3, t4, t5, t8, t9, t10, p0, t13, ta, t14⟩ := { hb := upd_same, h1 := (kp (kp (kp (kp (kp (kp (kp (kp (kp (kp (kp (kp (kp (kp upd_same n_l2) n_t3) n_t4) n_t5) n_t8) n_b0) n_t9) n_t10) n_p0) n_t13) n_ta) n_t14) n_b1) n_b), h2 := (kp (kp (kp (kp (kp (kp (kp (kp (kp (kp (kp (kp (kp upd_same n_t3) n_t4) n_t5) n_t8) n_b0) n_t9) n_t10) n_p0) n_t13) n_ta) n_t14) n_b1) n_b), h3 := (kp (kp (kp (kp (kp (kp (kp (kp (kp (kp (kp (kp upd_same n_t4) n_t5) n_t8) n_b0) n_t9) n_t10) n_p0) n_t13) n_ta) n_t14) n_b1) n_b), h4 := (kp (kp (kp (kp (kp (kp (kp (kp (kp (kp (kp upd_same n_t5) n_t8) n_b0) n_t9) n_t10) n_p0) n_t13) n_ta) n_t14) n_b1) n_b), h5 := (kp (kp (kp (kp (kp (kp (kp (kp (kp (kp upd_same n_t8) n_b0) n_t9) n_t10) n_p0) n_t13) n_ta) n_t14) n_b1) n_b), h8 := (kp (kp (kp (kp (kp (kp (kp (kp (kp upd_same n_b0) n_t9) n_t10) n_p0) n_t13) n_ta) n_t14) n_b1) n_b), h9 := (kp (kp (kp (kp (kp (kp (kp upd_same n_t10) n_p0) n_t13) n_ta) n_t14) n_b1) n_b), h10 := (kp (kp (kp (kp (kp (kp upd_same n_p0) n_t13) n_ta) n_t14) n_b1) n_b), hp := (kp (kp (kp (kp (kp upd_same n_t13) n_ta) n_t14) n_b1) n_b), h13 := (kp (kp (kp (kp upd_same n_ta) n_t14) n_b1) n_b), hta := (kp (kp (kp upd_same n_t14) n_b1) n_b), h14 := (kp (kp upd_same n_b1) n_b) }
      have W2 := (WellAt.same (Same.new (o := HO.lst (bads ⟨b, l2, t1, t3, t4, t5, t8, t9, t10, p0, t13, ta, t14⟩)) n_b) (WellAt.same (Same.new n_b1) (WellAt.same (Same.new n_t14) (WellAt.same (Same.new n_ta) (WellAt.same (Same.new n_t13) (WellAt.same (Same.new n_p0) (WellAt.same (Same.new n_t10) (WellAt.same (Same.new n_t9) (WellAt.same (Same.new n_b0) (WellAt.same (Same.new n_t8) (WellAt.same (Same.new n_t5) (WellAt.same (Same.new n_t4) (WellAt.same (Same.new n_t3) (WellAt.same (Same.new n_l2) (WellAt.same (Same.new n_t1) W1)))))))))))))))
      have n2l : l2 ≠ l := (WellAt.same (Same.new n_t1) W1).ne n_l2
      have nbl : b ≠ l := (WellAt.same (Same.new n_b1) (WellAt.same (Same.new n_t14) (WellAt.same (Same.new n_ta) (WellAt.same (Same.new n_t13) (WellAt.same (Same.new n_p0) (WellAt.same (Same.new n_t10) (WellAt.same (Same.new n_t9) (WellAt.same (Same.new n_b0) (WellAt.same (Same.new n_t8) (WellAt.same (Same.new n_t5) (WellAt.same (Same.new n_t4) (WellAt.same (Same.new n_t3) (WellAt.same (Same.new n_l2) (WellAt.same (Same.new n_t1) W1)))))))))))))).ne n_b
      have tb2 := tb.same SS
      have ht2 := SS _ _ ht
      clear hS nz ny nt
      refine ⟨_, rfl, ⟨_, rfl, l, 9, rfl, W2, by decide, by decide, fun r1 H2 r10 r11 W3 B3 => ⟨_, rfl, l, 9, rfl, W3, by decide, by decide, fun r2 H3 r20 r21 W4 B4 => ⟨sz (by simp), fun q nq => ?_⟩⟩⟩⟩
      have Sq := Same.new (o := HO.lst [.int r1, .int r2, .int 300, .int 301]) nq
      refine ⟨l, q, _, rfl, W4.same Sq, W4.ne nq, SqL.of upd_same, by simp, by simp, fun v H4 hv W5 B5 => ?_⟩
      obtain ⟨m, rfl, hm⟩ : ∃ m : Nat, v = .int (m : Int) ∧ m ≤ 301 := by
        simp only [List.mem_cons, List.not_mem_nil, or_false] at hv
        rcases hv with rfl | rfl | rfl | rfl
        · exact ⟨r1.toNat, by rw [Int.toNat_of_nonneg r10], by omega⟩
        · exact ⟨r2.toNat, by rw [Int.toNat_of_nonneg r20], by omega⟩
        · exact ⟨300, rfl, by omega⟩
        · exact ⟨301, rfl, by omega⟩
      have B24 := (B3.trans B4).trans ((But.of Sq).trans B5)
      obtain ⟨wx, wy, wz, hW2⟩ := id W2
      have hB4 := hB.but hW2 nbl.symm n2l.symm B24
      have tb4 := tb2.but hW2 B24
      have ht4 := B24 _ _ ht2 tl
      clear hB tb2 ht2 B24 B3 B4 B5 Sq W3 W4 hW2 W2 SS nq
      clear n_t1 n_l2 n_t3 n_t4 n_t5 n_t8 n_b0 n_t9 n_t10 n_p0 n_t13 n_ta n_t14 n_b1 n_b
      refine ⟨_, rfl, _, rfl, by omega, by omega, fun D nD => lc_range (lo := 0) (n := ((m : Nat) : Int).toNat) (fun j H' => ∃ us : List V, us.length = j ∧ H' D = some (.lst us) ∧ (∀ i v, us[i]? = some v → Good H' i v) ∧ WellAt H' l ∧ But l H4 H') ⟨[], rfl, upd_same, fun i v e => (by cases e), W5.same (Same.new nD), But.of (Same.new nD)⟩ ?_ ?_⟩
      · rintro j H5 hj ⟨us, hul, hD, hg, W6, B6⟩
        have hj2 : j < 301 := by omega
        refine ⟨rfl, _, rfl, _, rfl, xk_log j hj2, _, _, rfl, rfl, sz (xk_len j hj2), _, rfl, l, 9, rfl, W6, by decide, by decide, fun r H6 r0 r1 W7 B7 => ⟨_, _, rfl, rfl, sz (by simp), fun p np => ?_⟩⟩
        obtain ⟨vx, vy, vz, hW6⟩ := id W6
        have nDl : D ≠ l := W5.ne nD
        have hD6 := B7 _ _ hD nDl
        have Sp := Same.new (o := HO.tup [.str (xk j), .str "", .int (r - 4)]) np
        have npD : p ≠ D := fun e => by
          rw [e, hD6] at np
          cases np
        have hDp := Sp _ _ hD6
        refine ⟨us, hDp, szs (by omega), us ++ [.ref p], by simp [hul], upd_same, fun i v e => ?_, (W7.same Sp).upd nDl, ((B6.trans B7).trans (But.of Sp)).mut nD⟩
        have keep : ∀ {i v}, Good H5 i v → Good (upd (upd H6 p (HO.tup [.str (xk j), .str "", .int (r - 4)])) D (HO.lst (us ++ [.ref p]))) i v := fun g => g.mono fun a o e n1 n2 => by
          rw [upd_ne (ne_of (Sp _ _ (B7 _ _ e (ne_of e hW6 (n1 _)))) hDp (n1 _))]
          exact Sp _ _ (B7 _ _ e (ne_of e hW6 (n1 _)))
        by_cases hi : i < us.length
        · rw [List.getElem?_append_left hi] at e
          exact keep (hg i v e)
        · have hl := (List.getElem?_eq_some_iff.mp e).1
          have ei : i = j := by
            rw [List.length_append] at hl
            simp at hl
            omega
          rw [ei, List.getElem?_append_right (by omega), hul, Nat.sub_self] at e
          have e2 : V.ref p = v := Option.some.inj e
          rw [ei, ← e2]
          exact ⟨p, r - 4, rfl, by rw [upd_ne npD]; exact upd_same⟩
      · rintro H5 ⟨us, hul, hD, hg, W6, B6⟩
        obtain ⟨vx, vy, vz, hW5⟩ := id W5
        have ntD : t ≠ D := fun e => by
          rw [e, nD] at ht4
          cases ht4
        have nbD : b ≠ D := fun e => by
          have := hB4.hb
          rw [e, nD] at this
          cases this
        have n2D : l2 ≠ D := fun e => by
          have := hB4.h2
          rw [e, nD] at this
          cases this
        have X5 : St H5 t cs Pt l ⟨b, l2, t1, t3, t4, t5, t8, t9, t10, p0, t13, ta, t14⟩ D m us := ⟨B6 _ _ ht4 tl, tb4.but hW5 B6, W6, hB4.but hW5 nbl.symm n2l.symm B6, hD, ⟨by omega, fun i v e => .inl (hg i v e)⟩, tl, W5.ne nD, nbl, n2l, ntD, nbD, n2D⟩
        clear hg hD hB4 tb4 ht4 B6 hW5 nD W5 hul
        generalize hBB : (⟨b, l2, t1, t3, t4, t5, t8, t9, t10, p0, t13, ta, t14⟩ : BA) = BB at X5
        have eb : b = BB.b := by rw [← hBB]
        rw [eb]
        clear eb nbl n2l nbD n2D hBB
        refine ⟨sz (by simp), fun dd nd => ?_⟩
        have X6 := X5.same (Same.new (o := HO.tup [.str "told"]) nd)
        refine ⟨_, rfl, l, 3, rfl, X6.W, by decide, by decide, fun r H7 r0 r1 W7 B7 => ⟨_, rfl, by omega, by omega, for_range (lo := 0) (n := r.toNat) (fun j σ H' => ∃ (v7 : Option V) (xs : List V), σ = [some (.ref a), some (.int cc), some (.ref l), some (.ref BB.b), some (.int (m : Int)), some (.ref D), some (.ref dd), v7, v8, v9] ∧ St H' t cs Pt l BB D m xs ∧ H' dd = some (.tup [.str "told"])) ⟨_, us, rfl, X6.but B7 W7, B7 _ _ upd_same (X5.W.ne nd)⟩ ?_ ?_⟩⟩
        · rintro j σ H8 hj ⟨v7, xs, rfl, X8, hdd⟩
          refine ⟨_, rfl, _, _, rfl, rfl, _, rfl, ?_⟩
          refine ite2 (fun h0 => ?_) (fun h0 => ⟨_, xs, rfl, X8, hdd⟩)
          have hm0 : 0 < (m : Int) := of_decide_eq_true h0
          refine ⟨_, rfl, _, rfl, l, BB.b, _, rfl, X8.W, X8.nbl, SqL.of X8.hB.hb, by simp [bads], by simp [bads], fun v H9 hv W9 B9 => ?_⟩
          have X9 := X8.but B9 W9
          have hdd9 := B9 _ _ hdd (X8.W.neT hdd)
          refine ⟨_, rfl, _, rfl, _, rfl, l, _, rfl, X9.W, hm0, lg (by omega), fun i H10 i0 i1 W10 B10 => ?_⟩
          have X10 := X9.but B10 W10
          have hdd10 := B10 _ _ hdd9 (X9.W.neT hdd9)
          obtain ⟨ii, rfl⟩ : ∃ ii : Nat, i = (ii : Int) := ⟨i.toNat, by omega⟩
          have hii : ii < xs.length := by
            have := X10.it.len
            omega
          exact ⟨D, xs, _, ii, rfl, rfl, X10.hD, (by unfold ixN; rw [if_pos (by omega), if_pos (by omega)]; simp), ⟨_, _, rfl, X10.put hv, by rw [upd_ne (ne_of hdd10 X10.hD (by intro q; cases q))]; exact hdd10⟩⟩
        · rintro σ H8 ⟨v7, xs, rfl, X8, hdd⟩
          have hlx := X8.it.len
          refine ⟨_, rfl, _, rfl, by omega, by omega, fun W nW => lc_range (lo := 0) (n := ((m : Nat) : Int).toNat) (fun j H' => ∃ ws : List Int, H' W = some (.lst (ws.map V.int)) ∧ Same H8 H' ∧ ws.length ≤ j ∧ Fb BB xs j ws) ⟨[], upd_same, Same.new nW, Nat.zero_le _, .inl ⟨rfl, fun i hi => absurd hi (Nat.not_lt_zero i)⟩⟩ ?_ ?_⟩
          · rintro j H9 hj ⟨ws, hW, S9, hwl, fb⟩
            have hj2 : j < xs.length := by omega
            have X9 := X8.same S9
            have ej := List.getElem?_eq_getElem hj2
            obtain ⟨dx, hdx, hin⟩ := X9.it.in_ X9.hB hm (K := K) ej
            refine ⟨rfl, _, rfl, _, rfl, D, _, _, _, rfl, rfl, SqL.of X9.hD, (by rw [Int.zero_add]; exact atI_nat ej), _, rfl, BB.p0, [], dx, BB.b, bads BB, dsB, X9.hB.hp, hdx, rfl, SqL.of X9.hB.hb, bads_it0 X9.hB, _, rfl, ?_⟩
            rw [hin]
            cases hg : isG BB xs[j] with
            | true => exact iteF ⟨ws, hW, S9, by omega, fb.good ej hg⟩
            | false =>
              refine iteT ⟨_, rfl, _, hW, szs (by simp; omega), ws ++ [(j : Int)], ?_, Same.mut S9 nW, by simp; omega, fb.bad ej hg⟩
              rw [upd_same, List.map_append, Int.zero_add]
              rfl
          · rintro H9 ⟨ws, hW, S9, hwl, fb⟩
            have ejm : (((m : Nat) : Int)).toNat = m := by omega
            rw [ejm] at fb hwl
            have X9 := X8.same S9
            have hdd9 := S9 _ _ hdd
            clear hdd X8
            refine ⟨_, rfl, (by show 0 ≤ sizeLine; decide), fun e0 ne0 => ⟨.list (ws.map PyData.int), .list [], .lst (Same.seq (Same.new ne0) (SqL.of hW)) (dp_ints ws), .lst (SqL.of upd_same) .nil, shaped_ints ws, by decide +kernel, _, rfl, ?_⟩⟩
            have X10 := X9.same (Same.new (o := HO.lst []) ne0)
            have hdd10 := Same.new (o := HO.lst []) ne0 _ _ hdd9
            have hW10 := Same.new (o := HO.lst []) ne0 _ _ hW
            clear hdd9 X9 hW S9
            generalize upd H9 e0 (HO.lst []) = H10 at *
            apply join1 (fun p H => St H t cs Pt l BB D m xs ∧ ∃ o, H p = some (.tup (refD o)) ∧ D1 BB xs o) dd H10
            · rfl
            · rintro dd1 H11 ⟨X11, o1, hd1, d1⟩
              refine ⟨_, rfl, _, _, rfl, rfl, _, rfl, ?_⟩
              apply join1 (fun p H => St H t cs Pt l BB D m xs ∧ ∃ o, H p = some (.tup (refD o)) ∧ DueIs BB xs o) dd1 H11
              · rfl
              · rintro dd2 H12 ⟨X12, o2, hd2, d2⟩
                refine mono_if2 (fun x H' => St H' t cs Pt l BB D m xs ∧ ∃ o, H' dd2 = some (.tup (refD o)) ∧ PS BB D xs x H' o) ?_ ?_
                · rintro x H14 ⟨X14, o3, hd3, ps3⟩
                  refine ⟨_, rfl, l, 6, rfl, X14.W, by decide, by decide, fun r H15 r0 r1 W15 B15 => ⟨rfl, _, rfl, ?_⟩⟩
                  have X15 := X14.but B15 W15
                  have hd15 := B15 _ _ hd3 (X14.W.neT hd3)
                  have ps15 := ps3.but X14.W B15
                  apply join2 (fun v p H => St H t cs Pt l BB D m xs ∧ ∃ o, H p = some (.tup (refD o)) ∧ PS BB D xs v H o) x dd2 H15
                  · rfl
                  · rintro v p H16 ⟨X16, o, hd16, ps16⟩
                    refine ⟨X16.tb, fun H17 e17 tb17 => tref_solved (v := v) (o := o) rfl ((ps16.ext e17).due (X16.ext e17 tb17) hm) (fun r' H18 S18 hr18 => ⟨_, rfl, refP o, refP o, ref_dp hr18, ref_dp (S18 _ _ (e17 _ _ hd16 (by intro ps q; cases q))), ref_sh o, ref_sh o, _, rfl, ?_⟩)⟩
                    rw [ref_eq o]
                    refine iteF ?_
                    have X18 := (X16.ext e17 tb17).same S18
                    have hd18 := S18 _ _ (e17 _ _ hd16 (by intro ps q; cases q))
                    have ps18 := (ps16.ext e17).same S18
                    refine ⟨X18.tb, fun H19 e19 tb19 => tref_ring (v := v) (o := o) rfl (fun H' S' => ((ps18.ext e19).same S').due ((X18.ext e19 tb19).same S') hm) (fun r' H20 S20 hr20 => ⟨_, rfl, refP o, refP o, ref_dp hr20, ref_dp (S20 _ _ (e19 _ _ hd18 (by intro ps q; cases q))), ref_sh o, ref_sh o, _, rfl, ?_⟩)⟩
                    rw [ref_eq o]
                    refine iteF ?_
                    have X20 := (X18.ext e19 tb19).same S20
                    exact ⟨_, _, _, _, _, _, _, _, _, rfl, X20.ht, X20.tb⟩
                  · exact fun _ => ⟨X15, o3, hd15, ps15⟩
                  · intro _ nx
                    refine ⟨_, rfl, fun d1 n1 d2 n2 => ⟨sz (by simp), fun tt nt => ⟨?_, [(Sum.inl 0, .ref tt)], rfl, by simp, sz (by simp), fun q nq => ?_⟩⟩⟩
                    · exact kp upd_same nt
                    · have SS := Same.mut (p := d2) (o := HO.dK (mergeK [] [(Sum.inl 0, .ref tt)])) ((Same.new (o := HO.dK []) n1).trans ((Same.new (o := HO.dK []) n2).trans (Same.new (o := HO.tup [.str "a", .str "b", .int 1]) nt))) (same_none (Same.new n1) n2)
                      have d12 : d1 ≠ d2 := ne_of_none (upd_same (o := HO.dK []) (H := H15)) n2
                      have hq1 : upd (upd (upd (upd (upd H15 d1 (HO.dK [])) d2 (HO.dK [])) tt (HO.tup [.str "a", .str "b", .int 1])) d2 (HO.dK (mergeK [] [(Sum.inl 0, .ref tt)]))) q (HO.lst [.non, .int 3, .str "ab", .ref d1, .ref d2, .bl true]) d1 = some (.dK []) := kp (by
                        rw [upd_ne d12]
                        exact kp (kp upd_same n2) nt) nq
                      have hq2 : upd (upd (upd (upd (upd H15 d1 (HO.dK [])) d2 (HO.dK [])) tt (HO.tup [.str "a", .str "b", .int 1])) d2 (HO.dK (mergeK [] [(Sum.inl 0, .ref tt)]))) q (HO.lst [.non, .int 3, .str "ab", .ref d1, .ref d2, .bl true]) d2 = some (.dK (mergeK [] [(Sum.inl 0, .ref tt)])) := kp upd_same nq
                      have XE := X15.same (kpS (o' := HO.lst [.non, .int 3, .str "ab", .ref d1, .ref d2, .bl true]) SS nq)
                      refine ⟨l, q, _, rfl, XE.W, (X15.same SS).W.ne nq, SqL.of upd_same, by simp, by simp, fun v H16 hv W16 B16 => ⟨_, rfl, sz (by simp), fun dn ndn => ⟨sz (by simp), fun pp npp => ⟨pp, _, rfl, SqT.of upd_same, rfl, _, _, rfl, _, _, rfl, rfl, ?_⟩⟩⟩⟩
                      obtain ⟨wx', wy', wz', hWE⟩ := id XE.W
                      have e1 := kp (o' := HO.tup [v, .ref dn]) (kp (o' := HO.tup [.str "refused", .int (-1)]) (B16 _ _ hq1 (ne_of hq1 hWE (by intro q; cases q))) ndn) npp
                      have e2 := kp (o' := HO.tup [v, .ref dn]) (kp (o' := HO.tup [.str "refused", .int (-1)]) (B16 _ _ hq2 (ne_of hq2 hWE (by intro q; cases q))) ndn) npp
                      refine nx v dn _ ⟨(XE.but B16 W16).same (kpS (o' := HO.tup [v, .ref dn]) (Same.new (o := HO.tup [.str "refused", .int (-1)]) ndn) npp), some (-1), kp upd_same npp, .inr ⟨rfl, ?_⟩⟩
                      simp only [List.mem_cons, List.not_mem_nil, or_false] at hv
                      rcases hv with rfl | rfl | rfl | rfl | rfl | rfl
                      · exact .inl rfl
                      · exact .inr (.inl rfl)
                      · exact .inr (.inr (.inl rfl))
                      · exact .inr (.inr (.inr (.inr ⟨_, _, rfl, e1⟩)))
                      · exact .inr (.inr (.inr (.inr ⟨_, _, rfl, e2⟩)))
                      · exact .inr (.inr (.inr (.inl rfl)))
                · intro nx
                  refine ⟨_, rfl, l, 2, rfl, X12.W, by decide, by decide, fun r H13 r0 r1 W13 B13 => ⟨rfl, _, rfl, ?_⟩⟩
                  have X13 := X12.but B13 W13
                  have hd13 := B13 _ _ hd2 (X12.W.neT hd2)
                  refine ite2 (fun _ => ?_) (fun _ => ?_)
                  · exact ⟨_, rfl, nx _ _ ⟨X13, o2, hd13, .inl ⟨d2, .inl rfl⟩⟩⟩
                  · exact ⟨_, rfl, D, _, rfl, .inl ⟨SqL.of X13.hD, fun q nq => nx _ _ ⟨X13.same (Same.new nq), o2, Same.new nq _ _ hd13, .inl ⟨d2, .inr ⟨q, rfl, upd_same⟩⟩⟩⟩⟩
              · intro hc
                refine ⟨X11, o1, hd1, .inr ⟨?_, d1⟩⟩
                have : ¬ ((300 : Int) < (m : Int)) := fun z => hc (decide_eq_true z)
                omega
              · intro hc nx
                have : (300 : Int) < (m : Int) := of_decide_eq_true hc
                exact ⟨_, rfl, sz (by simp), fun d nd => nx d _ ⟨X11.same (Same.new nd), some (-1), upd_same, .inl ⟨by omega, rfl⟩⟩⟩
            · intro hc
              rcases fb with ⟨rfl, h⟩ | ⟨i, r, rfl, _⟩
              · refine ⟨X10, none, hdd10, .inl ⟨rfl, fun v hv => ?_⟩⟩
                obtain ⟨i, hi, e⟩ := List.mem_iff_getElem.mp hv
                exact h i (by omega) v (by rw [List.getElem?_eq_getElem hi, e])
              · exact absurd (by simp [PyData.eqv, PyData.eqvAll]) hc
            · intro hc nx
              rcases fb with ⟨rfl, h⟩ | ⟨i, r, rfl, h⟩
              · simp [PyData.eqv, PyData.eqvAll] at hc
              · exact ⟨_, rfl, W, _, _, _, rfl, rfl, SqL.of hW10, (show atI _ ((0 : Nat) : Int) = _ from atI_nat rfl), sz (by simp), fun d nd => nx d _ ⟨X10.same (Same.new nd), some (i : Int), upd_same, .inr ⟨i, rfl, h⟩⟩⟩
    · rintro σ H' ⟨v1, v2, v3, v4, v5, v6, v7, v8, v9, rfl, _⟩
      exact k H'
end
end K3

namespace K3
open PySem L2 Bx
theorem kit_self {K : PySem.W.Frag} {v : Value} : PySem.W.kitOne K v v = some true := by
  unfold PySem.W.kitOne
  rw [if_pos (beq_self_eq_true v)]
theorem kit_no {K : PySem.W.Frag} {C D : Addr} (sC : PySem.W.subIn K (.ref C) (.ref C) = some true) (hd : PySem.W.hasDictIn K D = true) (ht : PySem.W.typeIn K (.ref D) = some (.type "type")) (h : PySem.W.subIn K (.ref C) (.ref D) = some false) : PySem.W.kitOne K (.ref C) (.ref D) = some false := by
  obtain ⟨cd, hc, _⟩ := PySem.W.any_some hd
  have ne : ¬ ((Value.ref C == Value.ref D) = true) := fun e => by
    have e2 : C = D := Value.ref.inj (beq_iff_eq.mp e)
    rw [← e2, sC] at h
    cases h
  have e2 : ((PySem.W.clsIn K D).isSome && PySem.W.typeIn K (.ref D) == some (.type "type")) = true := by rw [hc, ht] <;> rfl
  unfold PySem.W.kitOne
  rw [if_neg ne]
  show (if ((PySem.W.clsIn K D).isSome && PySem.W.typeIn K (.ref D) == some (.type "type")) = true then PySem.W.subIn K (.ref C) (.ref D) else none) = some false
  rw [if_pos e2]
  exact h
theorem kit_ty {K : PySem.W.Frag} {C : Addr} (h : PySem.W.subIn K (.ref C) (.type "ValueError") = some true) : PySem.W.kitOne K (.ref C) (.type "ValueError") = some true := by
  unfold PySem.W.kitOne
  have ne : ¬ ((Value.ref C == Value.type "ValueError") = true) := fun e => by
    have := beq_iff_eq.mp e
    cases this
  rw [if_neg ne]
  show (if PySem.W.kitMeta "ValueError" = true then PySem.W.subIn K (.ref C) (.type "ValueError") else none) = some true
  rw [if_pos (by decide +kernel)]
  exact h
theorem all_mk {l : PySem.W.OpenLaw} {w : World} {K : PySem.W.Frag} {h : Heap} {mg : Str → Option Value} {fa C fI CB CBadStates CNoName CNoWay cL f0 f1 f2 f3 f4 f5 f6 f7 f8 f9 f10 f11 f12 f13 : Addr} (X : K.In h) (G : h.Ns mainGlobals mg) (hfa : mg "law" = some (.ref fa))
    {nm q : Str} {N : Addr} {bs : List Value} {sn : List Str} {sub : List Value} {ab : Bool} {col : Option Bool} {dd : Option Addr} {m0 m1 m2 m3 m5 : Option Value} {ocI dcI pmI cdI ctI : Value} {odI anI : Option Addr} {slI : Array (Option Value)} {p1 p2 q1 q2 q3 q4 : Pos} {tkM : Tok}
    {od0 an0 od1 an1 od2 an2 od3 an3 od4 an4 od5 an5 od6 an6 od7 an7 od8 an8 od9 an9 od10 an10 od11 an11 od12 an12 od13 an13 : Option Addr} {sl0 sl1 sl2 sl3 sl4 sl5 sl6 sl7 sl8 sl9 sl10 sl11 sl12 sl13 : Array (Option Value)} {oc0 kV0 dc0 pm0 cd0 ct0 oc1 kV1 dc1 pm1 cd1 ct1 oc2 kV2 dc2 pm2 cd2 ct2 oc3 kV3 dc3 pm3 cd3 ct3 oc4 kV4 dc4 pm4 cd4 ct4 oc5 kV5 dc5 pm5 cd5 ct5 oc6 kV6 dc6 pm6 cd6 ct6 oc7 kV7 dc7 pm7 cd7 ct7 oc8 kV8 dc8 pm8 cd8 ct8 oc9 kV9 dc9 pm9 cd9 ct9 oc10 kV10 dc10 pm10 cd10 ct10 oc11 kV11 dc11 pm11 cd11 ct11 oc12 kV12 dc12 pm12 cd12 ct12 oc13 kV13 dc13 pm13 cd13 ct13 : Value}
    (aC : PySem.W.nsIn K mainGlobals "NoLiterals" = some (some (.ref C)))
    (xL : K.lookup C = some (PySem.excClassObj nm q C N bs [.ref CB, .type "ValueError", .type "Exception", .type "BaseException", .type "object"] true sn sub ab col dd m0 m1 m2 m3 m5 "ValueError.__new__"))
    (sa : PySem.W.findIn K (.ref C) "__setattr__" = some (some (.builtin "object.__setattr__")))
    (ga : PySem.W.findIn K (.ref C) "__getattribute__" = some (some (.builtin "BaseException.__getattribute__")))
    (gg : PySem.W.findIn K (.ref C) "__getattr__" = some none)
    (nb : PySem.W.findIn K (.ref C) "at" = some none)
    (iI : PySem.W.findIn K (.ref C) "__init__" = some (some (.ref fI)))
    (tI : PySem.W.typeIn K (.ref fI) = some (.type "function"))
    (lI : K.lookup fI = some ⟨ocI, odI, .func (PySem.W.fnOf "__init__" "NoLiterals.__init__" (PySem.NoLX.iA p1 p2) (PySem.NoLX.iB q1 q2 q3 q4) PySem.NoLX.iS .none .none dcI pmI anI cdI ctI), slI⟩)
    (cI : PySem.W.codeIn K cdI "NoLiterals.__init__" = true)
    (kC : PySem.W.keepIn K (.ref C) = true)
    (eC : PySem.W.subIn K (.ref C) (.type "BaseException") = some true)
    (tC : PySem.W.typeIn K (.ref C) = some (.type "type"))
    (hC : PySem.W.hasDictIn K C = true)
    (iC : PySem.W.isClsIn K C = true)
    (sC : PySem.W.subIn K (.ref C) (.ref C) = some true)
    (gB : PySem.W.nsIn K mainGlobals "BehindError" = some (some (.ref CB)))
    (eCB : PySem.W.subIn K (.ref CB) (.type "BaseException") = some true)
    (hCB : PySem.W.hasDictIn K CB = true)
    (tCB : PySem.W.typeIn K (.ref CB) = some (.type "type"))
    (sCB : PySem.W.subIn K (.ref C) (.ref CB) = some true)
    (xa : PySem.W.findIn K (.ref C) "__class__" = some (some (.builtin "object.__class__")))
    (xn : PySem.W.specialIn K (.builtin "object.__class__") "__get__" = some (some (.builtin "getset_descriptor.__get__")))
    (xt : PySem.W.takesIn K (.builtin "object.__class__") = some true)
    (xm : PySem.W.mroIn K C (.type "object") = some true)
    (sV : PySem.W.subIn K (.ref C) (.type "ValueError") = some true)
    (aBadStates : PySem.W.nsIn K mainGlobals "BadStates" = some (some (.ref CBadStates)))
    (sBadStates : PySem.W.subIn K (.ref C) (.ref CBadStates) = some false)
    (hBadStates : PySem.W.hasDictIn K CBadStates = true)
    (tBadStates : PySem.W.typeIn K (.ref CBadStates) = some (.type "type"))
    (aNoName : PySem.W.nsIn K mainGlobals "NoName" = some (some (.ref CNoName)))
    (sNoName : PySem.W.subIn K (.ref C) (.ref CNoName) = some false)
    (hNoName : PySem.W.hasDictIn K CNoName = true)
    (tNoName : PySem.W.typeIn K (.ref CNoName) = some (.type "type"))
    (aNoWay : PySem.W.nsIn K mainGlobals "NoWay" = some (some (.ref CNoWay)))
    (sNoWay : PySem.W.subIn K (.ref C) (.ref CNoWay) = some false)
    (hNoWay : PySem.W.hasDictIn K CNoWay = true)
    (tNoWay : PySem.W.typeIn K (.ref CNoWay) = some (.type "type"))
    (a0 : PySem.W.nsIn K mainGlobals "is_number" = some (some (.ref f0)))
    (l0 : K.lookup f0 = some ⟨oc0, od0, .func (PySem.W.fnOf "is_number" "is_number" (C8.fnArgs s_is_number) (C8.fnBody s_is_number) (C8.fnScope s_is_number) .none kV0 dc0 pm0 an0 cd0 ct0), sl0⟩)
    (c0 : PySem.W.codeIn K cd0 "is_number" = true)
    (k0 : PySem.W.keepIn K (.ref f0) = true)
    (a1 : PySem.W.nsIn K mainGlobals "is_literal" = some (some (.ref f1)))
    (l1 : K.lookup f1 = some ⟨oc1, od1, .func (PySem.W.fnOf "is_literal" "is_literal" (C8.fnArgs s_is_literal) (C8.fnBody s_is_literal) (C8.fnScope s_is_literal) .none kV1 dc1 pm1 an1 cd1 ct1), sl1⟩)
    (c1 : PySem.W.codeIn K cd1 "is_literal" = true)
    (k1 : PySem.W.keepIn K (.ref f1) = true)
    (a2 : PySem.W.nsIn K mainGlobals "check_literals" = some (some (.ref f2)))
    (l2 : K.lookup f2 = some ⟨oc2, od2, .func (PySem.W.fnOf "check_literals" "check_literals" (C8.fnArgs s_check_literals) (C8.fnBody s_check_literals) (C8.fnScope s_check_literals) .none kV2 dc2 pm2 an2 cd2 ct2), sl2⟩)
    (c2 : PySem.W.codeIn K cd2 "check_literals" = true)
    (k2 : PySem.W.keepIn K (.ref f2) = true)
    (a3 : PySem.W.nsIn K mainGlobals "lower_once" = some (some (.ref f3)))
    (l3 : K.lookup f3 = some ⟨oc3, od3, .func (PySem.W.fnOf "lower_once" "lower_once" (C8.fnArgs s_lower_once) (C8.fnBody s_lower_once) (C8.fnScope s_lower_once) .none kV3 dc3 pm3 an3 cd3 ct3), sl3⟩)
    (c3 : PySem.W.codeIn K cd3 "lower_once" = true)
    (k3 : PySem.W.keepIn K (.ref f3) = true)
    (a4 : PySem.W.nsIn K mainGlobals "ring_behind" = some (some (.ref f4)))
    (l4 : K.lookup f4 = some ⟨oc4, od4, .func (PySem.W.fnOf "ring_behind" "ring_behind" (C8.fnArgs s_ring_behind) (C8.fnBody s_ring_behind) (C8.fnScope s_ring_behind) .none kV4 dc4 pm4 an4 cd4 ct4), sl4⟩)
    (c4 : PySem.W.codeIn K cd4 "ring_behind" = true)
    (k4 : PySem.W.keepIn K (.ref f4) = true)
    (a5 : PySem.W.nsIn K mainGlobals "solved" = some (some (.ref f5)))
    (l5 : K.lookup f5 = some ⟨oc5, od5, .func (PySem.W.fnOf "solved" "solved" (C8.fnArgs s_solved) (C8.fnBody s_solved) (C8.fnScope s_solved) .none kV5 dc5 pm5 an5 cd5 ct5), sl5⟩)
    (c5 : PySem.W.codeIn K cd5 "solved" = true)
    (k5 : PySem.W.keepIn K (.ref f5) = true)
    (a6 : PySem.W.nsIn K mainGlobals "is_ring" = some (some (.ref f6)))
    (l6 : K.lookup f6 = some ⟨oc6, od6, .func (PySem.W.fnOf "is_ring" "is_ring" (C8.fnArgs s_is_ring) (C8.fnBody s_is_ring) (C8.fnScope s_is_ring) .none kV6 dc6 pm6 an6 cd6 ct6), sl6⟩)
    (c6 : PySem.W.codeIn K cd6 "is_ring" = true)
    (k6 : PySem.W.keepIn K (.ref f6) = true)
    (a7 : PySem.W.nsIn K mainGlobals "_law_well" = some (some (.ref f7)))
    (l7 : K.lookup f7 = some ⟨oc7, od7, .func (PySem.W.fnOf "_law_well" "_law_well" (C8.fnArgs s_l_well) (C8.fnBody s_l_well) (C8.fnScope s_l_well) .none kV7 dc7 pm7 an7 cd7 ct7), sl7⟩)
    (c7 : PySem.W.codeIn K cd7 "_law_well" = true)
    (k7 : PySem.W.keepIn K (.ref f7) = true)
    (a8 : PySem.W.nsIn K mainGlobals "_law_draw" = some (some (.ref f8)))
    (l8 : K.lookup f8 = some ⟨oc8, od8, .func (PySem.W.fnOf "_law_draw" "_law_draw" (C8.fnArgs s_l_draw) (C8.fnBody s_l_draw) (C8.fnScope s_l_draw) .none kV8 dc8 pm8 an8 cd8 ct8), sl8⟩)
    (c8 : PySem.W.codeIn K cd8 "_law_draw" = true)
    (k8 : PySem.W.keepIn K (.ref f8) = true)
    (a9 : PySem.W.nsIn K mainGlobals "_law_one" = some (some (.ref f9)))
    (l9 : K.lookup f9 = some ⟨oc9, od9, .func (PySem.W.fnOf "_law_one" "_law_one" (C8.fnArgs s_l_one) (C8.fnBody s_l_one) (C8.fnScope s_l_one) .none kV9 dc9 pm9 an9 cd9 ct9), sl9⟩)
    (c9 : PySem.W.codeIn K cd9 "_law_one" = true)
    (k9 : PySem.W.keepIn K (.ref f9) = true)
    (a10 : PySem.W.nsIn K mainGlobals "_law_refusal" = some (some (.ref f10)))
    (l10 : K.lookup f10 = some ⟨oc10, od10, .func (PySem.W.fnOf "_law_refusal" "_law_refusal" (C8.fnArgs s_l_refusal) (C8.fnBody s_l_refusal) (C8.fnScope s_l_refusal) .none kV10 dc10 pm10 an10 cd10 ct10), sl10⟩)
    (c10 : PySem.W.codeIn K cd10 "_law_refusal" = true)
    (k10 : PySem.W.keepIn K (.ref f10) = true)
    (a11 : PySem.W.nsIn K mainGlobals "law" = some (some (.ref f11)))
    (l11 : K.lookup f11 = some ⟨oc11, od11, .func (PySem.W.fnOf "law" "law" (C8.fnArgs s_law) (C8.fnBody s_law) (C8.fnScope s_law) .none kV11 dc11 pm11 an11 (.ref cL) ct11), sl11⟩)
    (c11 : PySem.W.codeIn K (.ref cL) "law" = true)
    (k11 : PySem.W.keepIn K (.ref f11) = true)
    (a12 : PySem.W.nsIn K mainGlobals "are_indices" = some (some (.ref f12)))
    (l12 : K.lookup f12 = some ⟨oc12, od12, .func (PySem.W.fnOf "are_indices" "are_indices" (C8.fnArgs s_are_indices) (C8.fnBody s_are_indices) (C8.fnScope s_are_indices) .none kV12 dc12 pm12 an12 cd12 ct12), sl12⟩)
    (c12 : PySem.W.codeIn K cd12 "are_indices" = true)
    (k12 : PySem.W.keepIn K (.ref f12) = true)
    (a13 : PySem.W.nsIn K mainGlobals "goes_round" = some (some (.ref f13)))
    (l13 : K.lookup f13 = some ⟨oc13, od13, .func (PySem.W.fnOf "goes_round" "goes_round" (C8.fnArgs s_goes_round) (C8.fnBody s_goes_round) (C8.fnScope s_goes_round) .none kV13 dc13 pm13 an13 cd13 ct13), sl13⟩)
    (c13 : PySem.W.codeIn K cd13 "goes_round" = true)
    (k13 : PySem.W.keepIn K (.ref f13) = true)
    (m_MOST : PySem.W.nsIn K mainGlobals "MOST_LITERALS" = some (some (.int 300 tkM)))
    (y_isinstance : PySem.W.nsIn K mainGlobals "isinstance" = some none)
    (y_len : PySem.W.nsIn K mainGlobals "len" = some none)
    (y_int : PySem.W.nsIn K mainGlobals "int" = some none)
    (y_bool : PySem.W.nsIn K mainGlobals "bool" = some none)
    (y_tuple : PySem.W.nsIn K mainGlobals "tuple" = some none)
    (y_list : PySem.W.nsIn K mainGlobals "list" = some none)
    (y_str : PySem.W.nsIn K mainGlobals "str" = some none)
    (y_set : PySem.W.nsIn K mainGlobals "set" = some none)
    (y_range : PySem.W.nsIn K mainGlobals "range" = some none)
    (y_enumerate : PySem.W.nsIn K mainGlobals "enumerate" = some none)
    (y_ValueError : PySem.W.nsIn K mainGlobals "ValueError" = some none)
    : ∃ fd : FuncData, (∀ (s : Shared) (v : Value), BindsTo s fd ⟨[v], []⟩ [("_law_script", v)]) ∧ ∀ (Pt : Addr) (base : Heap), K.In base → base.Ns mainGlobals mg → LamX.TabB base mg cL Pt → FnOk l.prog w K mg base C8.CX0 7 fa fd ["_law_script"] (spLaw K Pt) := by
  have e := hfa.symm.trans (PySem.W.mg_of X G a11)
  cases e
  have NL : PySem.NoLX.NoLTxt K mg C fI :=
    { gC := PySem.W.mg_of X G aC, cls := ⟨nm, q, N, bs, _, sn, sub, ab, col, dd, m0, m1, m2, m3, m5, xL, by unfold PySem.HandSPX.refsVE; rfl⟩, sa := sa, ga := ga, gg := gg, noN := nb, iC := iI, tC := tI, kC := kC, exC := eC, tyC := tC, hdC := hC, te := PySem.W.exm_ref eC hC tC sC,
      fn := ⟨_, _, _, _, _, _, _, _, _, _, _, _, _, _, lI, cI⟩ }
  have T : Txt K mg C fI := { c_MOST_LITERALS := ⟨_, PySem.W.mg_of X G m_MOST, _, rfl⟩, nol := NL, z_isinstance := PySem.W.mg_none_of X G y_isinstance, z_len := PySem.W.mg_none_of X G y_len, z_int := PySem.W.mg_none_of X G y_int, z_bool := PySem.W.mg_none_of X G y_bool, z_tuple := PySem.W.mg_none_of X G y_tuple, z_list := PySem.W.mg_none_of X G y_list, z_str := PySem.W.mg_none_of X G y_str, z_set := PySem.W.mg_none_of X G y_set, z_range := PySem.W.mg_none_of X G y_range, z_enumerate := PySem.W.mg_none_of X G y_enumerate }
  have R : Ref K mg C fI CB := { nol := NL, gB := PySem.W.mg_of X G gB, eB := PySem.W.exm_ref eCB hCB tCB sCB, ex := ⟨ga, gg, eC, hC, xa, xn, xt, xm⟩, c_NoLiterals := ⟨_, PySem.W.mg_of X G aC, rfl⟩, k_NoLiterals := kit_self, k_ValueError := kit_ty sV, c_BadStates := ⟨_, _, PySem.W.mg_of X G aBadStates, rfl, kit_no sC hBadStates tBadStates sBadStates⟩, c_NoName := ⟨_, _, PySem.W.mg_of X G aNoName, rfl, kit_no sC hNoName tNoName sNoName⟩, c_NoWay := ⟨_, _, PySem.W.mg_of X G aNoWay, rfl, kit_no sC hNoWay tNoWay sNoWay⟩, z_isinstance := PySem.W.mg_none_of X G y_isinstance, z_ValueError := PySem.W.mg_none_of X G y_ValueError }
  have F0 : C8.Fun K "is_number" "is_number" s_is_number f0 _ := ⟨⟨_, _, _, _, _, _, _, _, _, _, rfl, l0, c0⟩⟩
  have D0 : C8.Def K mg "is_number" s_is_number f0 _ := ⟨F0, PySem.W.mg_of X G a0, k0⟩
  have b0 : Binds K _ ["thing"] [] := C8.Fun.binds F0 rfl fun _ _ _ _ _ _ us hl => match us, hl with | [_], _ => rfl
  have F1 : C8.Fun K "is_literal" "is_literal" s_is_literal f1 _ := ⟨⟨_, _, _, _, _, _, _, _, _, _, rfl, l1, c1⟩⟩
  have D1 : C8.Def K mg "is_literal" s_is_literal f1 _ := ⟨F1, PySem.W.mg_of X G a1, k1⟩
  have b1 : Binds K _ ["thing"] [] := C8.Fun.binds F1 rfl fun _ _ _ _ _ _ us hl => match us, hl with | [_], _ => rfl
  have F2 : C8.Fun K "check_literals" "check_literals" s_check_literals f2 _ := ⟨⟨_, _, _, _, _, _, _, _, _, _, rfl, l2, c2⟩⟩
  have D2 : C8.Def K mg "check_literals" s_check_literals f2 _ := ⟨F2, PySem.W.mg_of X G a2, k2⟩
  have b2 : Binds K _ ["literals"] [] := C8.Fun.binds F2 rfl fun _ _ _ _ _ _ us hl => match us, hl with | [_], _ => rfl
  have F3 : C8.Fun K "lower_once" "lower_once" s_lower_once f3 _ := ⟨⟨_, _, _, _, _, _, _, _, _, _, rfl, l3, c3⟩⟩
  have D3 : C8.Def K mg "lower_once" s_lower_once f3 _ := ⟨F3, PySem.W.mg_of X G a3, k3⟩
  have b3 : Binds K _ ["literals", "heights", "lowered_by"] [] := C8.Fun.binds F3 rfl fun _ _ _ _ _ _ us hl => match us, hl with | [_, _, _], _ => rfl
  have F4 : C8.Fun K "ring_behind" "ring_behind" s_ring_behind f4 _ := ⟨⟨_, _, _, _, _, _, _, _, _, _, rfl, l4, c4⟩⟩
  have D4 : C8.Def K mg "ring_behind" s_ring_behind f4 _ := ⟨F4, PySem.W.mg_of X G a4, k4⟩
  have b4 : Binds K _ ["literals", "lowered_by", "term"] [] := C8.Fun.binds F4 rfl fun _ _ _ _ _ _ us hl => match us, hl with | [_, _, _], _ => rfl
  have F5 : C8.Fun K "solved" "solved" s_solved f5 _ := ⟨⟨_, _, _, _, _, _, _, _, _, _, rfl, l5, c5⟩⟩
  have D5 : C8.Def K mg "solved" s_solved f5 _ := ⟨F5, PySem.W.mg_of X G a5, k5⟩
  have b5 : Binds K _ ["literals"] [] := C8.Fun.binds F5 rfl fun _ _ _ _ _ _ us hl => match us, hl with | [_], _ => rfl
  have F6 : C8.Fun K "is_ring" "is_ring" s_is_ring f6 _ := ⟨⟨_, _, _, _, _, _, _, _, _, _, rfl, l6, c6⟩⟩
  have D6 : C8.Def K mg "is_ring" s_is_ring f6 _ := ⟨F6, PySem.W.mg_of X G a6, k6⟩
  have b6 : Binds K _ ["literals", "indices"] [] := C8.Fun.binds F6 rfl fun _ _ _ _ _ _ us hl => match us, hl with | [_, _], _ => rfl
  have F7 : C8.Fun K "_law_well" "_law_well" s_l_well f7 _ := ⟨⟨_, _, _, _, _, _, _, _, _, _, rfl, l7, c7⟩⟩
  have D7 : C8.Def K mg "_law_well" s_l_well f7 _ := ⟨F7, PySem.W.mg_of X G a7, k7⟩
  have b7 : Binds K _ ["_law_cell"] [] := C8.Fun.binds F7 rfl fun _ _ _ _ _ _ us hl => match us, hl with | [_], _ => rfl
  have F8 : C8.Fun K "_law_draw" "_law_draw" s_l_draw f8 _ := ⟨⟨_, _, _, _, _, _, _, _, _, _, rfl, l8, c8⟩⟩
  have D8 : C8.Def K mg "_law_draw" s_l_draw f8 _ := ⟨F8, PySem.W.mg_of X G a8, k8⟩
  have b8 : Binds K _ ["_law_well_here", "_law_base"] [] := C8.Fun.binds F8 rfl fun _ _ _ _ _ _ us hl => match us, hl with | [_, _], _ => rfl
  have F9 : C8.Fun K "_law_one" "_law_one" s_l_one f9 _ := ⟨⟨_, _, _, _, _, _, _, _, _, _, rfl, l9, c9⟩⟩
  have D9 : C8.Def K mg "_law_one" s_l_one f9 _ := ⟨F9, PySem.W.mg_of X G a9, k9⟩
  have b9 : Binds K _ ["_law_well_here", "_law_some"] [] := C8.Fun.binds F9 rfl fun _ _ _ _ _ _ us hl => match us, hl with | [_, _], _ => rfl
  have F10 : C8.Fun K "_law_refusal" "_law_refusal" s_l_refusal f10 _ := ⟨⟨_, _, _, _, _, _, _, _, _, _, rfl, l10, c10⟩⟩
  have D10 : C8.Def K mg "_law_refusal" s_l_refusal f10 _ := ⟨F10, PySem.W.mg_of X G a10, k10⟩
  have b10 : Binds K _ ["_law_ask"] [] := C8.Fun.binds F10 rfl fun _ _ _ _ _ _ us hl => match us, hl with | [_], _ => rfl
  have F12 : C8.Fun K "are_indices" "are_indices" s_are_indices f12 _ := ⟨⟨_, _, _, _, _, _, _, _, _, _, rfl, l12, c12⟩⟩
  have D12 : C8.Def K mg "are_indices" s_are_indices f12 _ := ⟨F12, PySem.W.mg_of X G a12, k12⟩
  have b12 : Binds K _ ["indices", "many"] [] := C8.Fun.binds F12 rfl fun _ _ _ _ _ _ us hl => match us, hl with | [_, _], _ => rfl
  have F13 : C8.Fun K "goes_round" "goes_round" s_goes_round f13 _ := ⟨⟨_, _, _, _, _, _, _, _, _, _, rfl, l13, c13⟩⟩
  have D13 : C8.Def K mg "goes_round" s_goes_round f13 _ := ⟨F13, PySem.W.mg_of X G a13, k13⟩
  have b13 : Binds K _ ["literals"] [] := C8.Fun.binds F13 rfl fun _ _ _ _ _ _ us hl => match us, hl with | [_], _ => rfl
  refine ⟨PySem.W.fnOf "law" "law" (C8.fnArgs s_law) (C8.fnBody s_law) (C8.fnScope s_law) .none kV11 dc11 pm11 an11 (.ref cL) ct11, fun s v => .of_eq rfl, fun Pt base _ _ TB => ?_⟩
  have Q_is_number : C8.Cal l.prog w K mg base 1 "is_number" (spNum K) [] := ok_is_number D0 b0 T
  have Q_is_literal : C8.Cal l.prog w K mg base 2 "is_literal" (spLit K) [] := ok_is_literal D1 b1 T Q_is_number
  have Q_check : CalX l.prog w K mg base 3 "check_literals" f2 _ ["literals"] (spChk K C) := ⟨ok_check_literals F2 T Q_is_literal, PySem.W.mg_of X G a2, k2, b2⟩
  have Q_low : C8.Cal l.prog w K mg base 1 "lower_once" (spLower K) [] := ok_lower_once D3 b3 T
  have Q_lowT : C8.Cal l.prog w K mg base 1 "lower_once" (spLowerT K) [] := ok_lower_onceT D3 b3 T
  have Q_beh : C8.Cal l.prog w K mg base 1 "ring_behind" (spBehind K) [] := ok_ring_behind D4 b4 T
  have Q_behT : C8.Cal l.prog w K mg base 1 "ring_behind" (spBehindT K) [] := ok_ring_behindT D4 b4 T
  have Q_solved : CalX l.prog w K mg base 4 "solved" f5 _ ["literals"] (spSolved K C) := ⟨ok_solved F5 T Q_check Q_low Q_beh Q_lowT Q_behT, PySem.W.mg_of X G a5, k5, b5⟩
  have Q_ring : CalX l.prog w K mg base 4 "is_ring" f6 _ ["literals", "indices"] (spRing0 K C) := ⟨ok_is_ring F6 T (ok_are_indices D12 b12 T Q_is_number) (ok_goes_round D13 b13 T) Q_check, PySem.W.mg_of X G a6, k6, b6⟩
  have Q_well : C8.Cal l.prog w K mg base 1 "_law_well" spWell [] := ok_l_well D7 b7 T
  have Q_draw : C8.Cal l.prog w K mg base 1 "_law_draw" spDraw [] := ok_l_draw D8 b8 T
  have Q_one : C8.Cal l.prog w K mg base 2 "_law_one" (spOne K) [] := ok_l_one D9 b9 T Q_draw
  exact ok_law l11 c11 T R D10 b10 Q_solved Q_ring TB Q_well Q_draw Q_one
theorem walk {l : PySem.W.OpenLaw} {q : Program} {loose : List Str} {XP : (Str → Option Value) → Heap → Prop} {YP : World → Heap → Prop} {d : DefRec} {K : Params → PySem.W.Frag} (hn : l.most = some 63) (hdf : d.params.defaults = [])
    (hY : ∀ (w : World) (h : Heap), YP w h → (K w.params).In h)
    (F : ∀ (w : World) (mg : Str → Option Value) (fa : Addr) (h : Heap), YP w h → (K w.params).In h → h.Ns mainGlobals mg → mg d.name = some (.ref fa) →
      ∃ (cL Pt : Addr), h.get? Pt = some { cls := .none, data := .fields #[] } ∧ (K w.params).lookup Pt = none ∧ PySem.W.codeHdIn (K w.params) cL Pt = true ∧ ∃ fd : FuncData, (∀ (s : Shared) (u : Value), BindsTo s fd ⟨[u], []⟩ [("_law_script", u)]) ∧ ∀ (Pt : Addr) (base : Heap), (K w.params).In base → base.Ns mainGlobals mg → LamX.TabB base mg cL Pt → FnOk l.prog w (K w.params) mg base C8.CX0 7 fa fd ["_law_script"] (spLaw (K w.params) Pt)) :
    PySem.W.WalkO q loose XP YP l.row.toRowW d [] (fun f vs => PySem.call f vs) :=
  LamX.walk_ofTs (n := 63) (k := 7) (x := "_law_script") (CX := fun _ => C8.CX0) hn (by decide) hdf ⟨rfl, by decide, by decide⟩ hY (fun w mg fa h Y KX G hmg => by
    obtain ⟨cL, Pt, h1, h2, h3, fd, hb, hF⟩ := F w mg fa h Y KX G hmg
    refine ⟨fd, [(cL, Pt)], spLaw (K w.params) Pt, fun p hp => ?_, fun p hp => ?_, fun p hp => ?_, hb, fun H a ns hl _ hT hS => ⟨a, ns, rfl, hS, hl, hT _ (List.mem_singleton.mpr rfl), fun _ => rfl⟩, fun base b1 b2 TB => hF Pt base b1 b2 (TB _ (List.mem_singleton.mpr rfl))⟩
    · rw [List.mem_singleton.mp hp]
      exact h1
    · rw [List.mem_singleton.mp hp]
      exact h2
    · rw [List.mem_singleton.mp hp]
      exact PySem.W.codeHd_of_K KX h3) fun _ _ _ _ _ z => z
end K3

open PySem PySem.W PyProof.Rows
set_option maxRecDepth 100000 in
set_option maxHeartbeats 0 in
theorem PySem.Challenge.cw_behindexits_k03_no_literals_holds : PySem.Challenge.rw_behindexits_k03_no_literals.Holds := by
  w_on; o_law; k_head; (case hw => w_witness2)
  k_fill
  refine K3.walk (l := PySem.Challenge.rw_behindexits_k03_no_literals) rfl rfl (fun w h Y => PySem.W.km_in_of Y) ?F
  case F =>
    intro w mg fa h Y KX G hmg
    refine' ⟨_, 192, PySem.W.km_tabs_of Y 192 (by decide), ?noK, ?code, K3.all_mk KX G hmg ?aC ?xL ?sa ?ga ?gg ?nb ?iI ?tI ?lI ?cI ?kC ?eC ?tC ?hC ?iC ?sC ?gB ?eCB ?hCB ?tCB ?sCB ?xa ?xn ?xt ?xm ?sV ?aBadStates ?sBadStates ?hBadStates ?tBadStates ?aNoName ?sNoName ?hNoName ?tNoName ?aNoWay ?sNoWay ?hNoWay ?tNoWay ?a0 ?l0 ?c0 ?k0 ?a1 ?l1 ?c1 ?k1 ?a2 ?l2 ?c2 ?k2 ?a3 ?l3 ?c3 ?k3 ?a4 ?l4 ?c4 ?k4 ?a5 ?l5 ?c5 ?k5 ?a6 ?l6 ?c6 ?k6 ?a7 ?l7 ?c7 ?k7 ?a8 ?l8 ?c8 ?k8 ?a9 ?l9 ?c9 ?k9 ?a10 ?l10 ?c10 ?k10 ?a11 ?l11 ?c11 ?k11 ?a12 ?l12 ?c12 ?k12 ?a13 ?l13 ?c13 ?k13 ?m_MOST ?y_isinstance ?y_len ?y_int ?y_bool ?y_tuple ?y_list ?y_str ?y_set ?y_range ?y_enumerate ?y_ValueError⟩
    (case aC => k_is)
    (case xL => k_is)
    (case sa => k_is)
    (case ga => k_is)
    (case gg => k_is)
    (case nb => k_is)
    (case iI => k_is)
    (case tI => k_is)
    (case lI => k_is)
    (case cI => k_is)
    (case kC => k_is)
    (case eC => k_is)
    (case tC => k_is)
    (case hC => k_is)
    (case iC => k_is)
    (case gB => k_is)
    (case eCB => k_is)
    (case hCB => k_is)
    (case tCB => k_is)
    (case sCB => k_is)
    (case xa => k_is)
    (case xn => k_is)
    (case xt => k_is)
    (case xm => k_is)
    (case sV => k_is)
    (case aBadStates => k_is)
    (case sBadStates => k_is)
    (case hBadStates => k_is)
    (case tBadStates => k_is)
    (case aNoName => k_is)
    (case sNoName => k_is)
    (case hNoName => k_is)
    (case tNoName => k_is)
    (case aNoWay => k_is)
    (case sNoWay => k_is)
    (case hNoWay => k_is)
    (case tNoWay => k_is)
    (case a0 => k_is)
    (case l0 => k_is)
    (case c0 => k_is)
    (case k0 => k_is)
    (case a1 => k_is)
    (case l1 => k_is)
    (case c1 => k_is)
    (case k1 => k_is)
    (case a2 => k_is)
    (case l2 => k_is)
    (case c2 => k_is)
    (case k2 => k_is)
    (case a3 => k_is)
    (case l3 => k_is)
    (case c3 => k_is)
    (case k3 => k_is)
    (case a4 => k_is)
    (case l4 => k_is)
    (case c4 => k_is)
    (case k4 => k_is)
    (case a5 => k_is)
    (case l5 => k_is)
    (case c5 => k_is)
    (case k5 => k_is)
    (case a6 => k_is)
    (case l6 => k_is)
    (case c6 => k_is)
    (case k6 => k_is)
    (case a7 => k_is)
    (case l7 => k_is)
    (case c7 => k_is)
    (case k7 => k_is)
    (case a8 => k_is)
    (case l8 => k_is)
    (case c8 => k_is)
    (case k8 => k_is)
    (case a9 => k_is)
    (case l9 => k_is)
    (case c9 => k_is)
    (case k9 => k_is)
    (case a10 => k_is)
    (case l10 => k_is)
    (case c10 => k_is)
    (case k10 => k_is)
    (case a11 => k_is)
    (case l11 => k_is)
    (case c11 => k_is)
    (case k11 => k_is)
    (case a12 => k_is)
    (case l12 => k_is)
    (case c12 => k_is)
    (case k12 => k_is)
    (case a13 => k_is)
    (case l13 => k_is)
    (case c13 => k_is)
    (case k13 => k_is)
    (case m_MOST => k_is)
    (case y_isinstance => k_is)
    (case y_len => k_is)
    (case y_int => k_is)
    (case y_bool => k_is)
    (case y_tuple => k_is)
    (case y_list => k_is)
    (case y_str => k_is)
    (case y_set => k_is)
    (case y_range => k_is)
    (case y_enumerate => k_is)
    (case y_ValueError => k_is)
    (case sC => first | rfl | k_is)
    (case noK => rfl)
    (case code => kernel_rfl)
    exact PySem.Value.none

