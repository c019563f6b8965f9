import PyProof.Rows.All
import Wide.All
import OpenK.AllK
import Wide.FinOn
import HandS.Codes
import HandS.Conv
import HandS.Deep
import HandS.Defaults
import HandS.Dict
import HandS.DictComp
import HandS.Evl
import HandS.ExcField
import HandS.ExcInit
import HandS.Flow
import HandS.ForMost
import HandS.Head0
import HandS.Head1
import HandS.Head2
import HandS.HeadEnd
import HandS.HeadHook2
import HandS.HeadHook3
import HandS.IsInst
import HandS.Iter
import HandS.Lambda
import HandS.List
import HandS.More
import HandS.Property
import HandS.SetFor
import HandS.SetKeys
import HandS.SortKw
import HandS.StrMore
import HandS.Strs
import HandS.Style
import HandS.Text
import HandS.TupAny
import HandS.TupMul
import HandS.Walk
import HandS.Wide
import HandS.Zip
import KE.GoesMore
import KE.KDictDisplayH
import KE.KDictList
import KE.KStateDown
import OpenK.KMeth
import PyProof.AutoSeq1
import PyProof.Draws
import PyProof.EnumMake
import PySem.Challenge.RW_behindexits_k17_known_and_dead_by_hand
set_option Elab.async false
set_option linter.all false
set_option maxRecDepth 100000
set_option maxHeartbeats 4000000
/-! programs: a mirror of forms, flows and checks (no Python in it) -/
namespace Pm
open PySem L2
abbrev Way := List Str
abbrev Names := List Str
abbrev Fw := List (Way × Names)
abbrev Pa := List Nat
mutual
inductive Sm where
  | set (x t : Str) (n : Int)
  | read (x : Str)
  | ite (l r : Str) (n : Int) (b c : Bk)
  | choose (b c : Bk)
  | ask (l r : Str) (n : Int) (k : Str)
  | raise (k t : Str) (n : Int)
  | out (o : Str)
  | leave
  | again
  | loop (x t : Str) (n : Int) (u : Str) (m : Int) (b c : Bk)
  | tryy (b : Bk) (hs : Hs) (o a : Bk)
  | bad (d : PyData)
inductive Bk where
  | nil
  | cons (s : Sm) (r : Bk)
inductive Hs where
  | nil
  | cons (ks : List Str) (x : Option Str) (b : Bk) (r : Hs)
end
def vD (t : Str) (n : Int) : PyData := .tuple [.str t, .int n]
def lD (l r : Str) (n : Int) : PyData := .tuple [.str l, .str r, .int n]
def oD : Option Str → PyData
  | none => .none
  | some x => .str x
mutual
def encS : Sm → PyData
  | .set x t n => .tuple [.str "set", .str x, vD t n]
  | .read x => .tuple [.str "read", .str x]
  | .ite l r n b c => .tuple [.str "if", lD l r n, .tuple (encB b), .tuple (encB c)]
  | .choose b c => .tuple [.str "choose", .tuple (encB b), .tuple (encB c)]
  | .ask l r n k => .tuple [.str "ask", lD l r n, .str k]
  | .raise k t n => .tuple [.str "raise", .str k, vD t n]
  | .out o => .tuple [.str "out", .str o]
  | .leave => .tuple [.str "leave"]
  | .again => .tuple [.str "again"]
  | .loop x t n u m b c => .tuple [.str "for", .str x, vD t n, vD u m, .tuple (encB b), .tuple (encB c)]
  | .tryy b hs o a => .tuple [.str "try", .tuple (encB b), .tuple (encH hs), .tuple (encB o), .tuple (encB a)]
  | .bad d => d
def encB : Bk → List PyData
  | .nil => []
  | .cons s r => encS s :: encB r
def encH : Hs → List PyData
  | .nil => []
  | .cons ks x b r => .tuple [.tuple (ks.map .str), oD x, .tuple (encB b)] :: encH r
end
def Bk.list : Bk → List Sm
  | .nil => []
  | .cons s r => s :: r.list
def Hs.list : Hs → List (List Str × Option Str × Bk)
  | .nil => []
  | .cons ks x b r => (ks, x, b) :: r.list
def Bk.len (b : Bk) : Nat := b.list.length
/-! ### flows -/
def getF (f : Fw) (k : Way) : Option Names := (f.find? fun p => decide (p.1 = k)).map (·.2)
def putF (f : Fw) (k : Way) (v : Names) : Fw := if (f.any fun p => decide (p.1 = k)) = true then f.map fun p => if p.1 = k then (p.1, v) else p else f ++ [(k, v)]
def END : Way := ["end"]
def LEAVE : Way := ["leave"]
/-- one way of the other comes in -/
def eitherStep (f : Fw) (p : Way × Names) : Fw := match getF f p.1 with
  | some old => putF f p.1 (old.filter fun x => decide (x ∈ p.2))
  | none => putF f p.1 p.2
def eitherF (one other : Fw) : Fw := other.foldl eitherStep one
def withoutEnd (f : Fw) : Fw := f.filter fun p => decide (p.1 ≠ END)
def loopF (body other : Fw) : Fw :=
  let past := body.filter fun p => decide (p.1.head? = some ("out" : Str)) || decide (p.1.head? = some ("raise" : Str))
  eitherF other (match getF body LEAVE with
    | some v => putF past END v
    | none => past)
def firstFit : List (List Str × Option Str × Bk) → Str → Option Nat
  | [], _ => none
  | h :: r, k => if h.1 = [] ∨ k ∈ h.1 then some 0 else (firstFit r k).map (· + 1)
def tryStep (hs : List (List Str × Option Str × Bk)) (flows : List Fw) (block : Fw) (flow : Fw) (p : Way × Names) : Fw :=
  match (if p.1.head? = some ("raise" : Str) then firstFit hs (p.1.getD 1 ("" : Str)) else none) with
  | none => eitherF flow [(p.1, p.2)]
  | some i => eitherF flow (flows.getD (1 + i) [])
def tryF (hs : List (List Str × Option Str × Bk)) (flows : List Fw) : Fw :=
  let block := flows.getD 0 []
  let flow := (withoutEnd block).foldl (tryStep hs flows block) []
  let flow := if (getF block END).isSome then eitherF flow (flows.getD (flows.length - 2) []) else flow
  let always := flows.getD (flows.length - 1) []
  if (getF always END).isSome then eitherF flow (withoutEnd always) else always
def simpleF (s : Sm) (known : Names) : Fw := match s with
  | .set x _ _ => [(END, known ++ [x])]
  | .read x => [(END, known ++ [x])]
  | .ask _ _ _ k => [(END, known), (["raise", k], [])]
  | .raise k _ _ => [(["raise", k], [])]
  | .out o => [(["out", o], known)]
  | .leave => [(["leave"], known)]
  | .again => [(["again"], known)]
  | _ => []
/-! ### parts of statements -/
def termsOf : Sm → List Str
  | .set _ t _ => [t]
  | .raise _ t _ => [t]
  | .ite l r _ _ _ => [l, r]
  | .ask l r _ _ => [l, r]
  | .loop _ t _ u _ _ _ => [t, u]
  | _ => []
def blocksOf : Sm → List Bk
  | .loop _ _ _ _ _ b c => [b, c]
  | .tryy b hs o a => [b] ++ hs.list.map (·.2.2) ++ [o, a]
  | .ite _ _ _ b c => [b, c]
  | .choose b c => [b, c]
  | _ => []
def handlersOf : Sm → List (List Str × Option Str × Bk)
  | .tryy _ hs _ _ => hs.list
  | _ => []
def namedAt (place : Pa) : Nat → List (List Str × Option Str × Bk) → List (Str × Pa)
  | _, [] => []
  | i, (_, some x, _) :: r => (x, place ++ [1 + i]) :: namedAt place (i + 1) r
  | i, (_, none, _) :: r => namedAt place (i + 1) r
def settingsOf (s : Sm) (place : Pa) : List (Str × Pa) := match s with
  | .set x _ _ => [(x, place)]
  | .read x => [(x, place)]
  | .loop x _ _ _ _ _ _ => [(x, place)]
  | s => namedAt place 0 (handlersOf s)
/-- the statement at a place (index, number of its block, index, ..) -/
def stAt : List Bk → Nat → Pa → Option Sm
  | _, _, [] => none
  | bs, n, i :: r => match bs[n]? with
    | none => none
    | some b => match b.list[i]?, r with
      | none, _ => none
      | some s, [] => some s
      | some s, m :: r2 => stAt (blocksOf s) m r2
def statementAt (b : Bk) (place : Pa) : Option Sm := stAt [b] 0 place
def sharedLen : Pa → Pa → Nat
  | a :: r, b :: q => if a = b then sharedLen r q + 1 else 0
  | _, _ => 0
def apart (root : Bk) (one other : Pa) : Bool :=
  let k := sharedLen one other
  if k % 2 = 0 then false
  else
    let steps := (one.drop k).take 1 ++ (other.drop k).take 1
    match statementAt root (one.take k) with
    | some (.loop ..) => decide (1 ∈ steps)
    | some (.tryy _ hs _ _) => steps.all fun n => decide (1 ≤ n ∧ n ≤ 1 + hs.list.length)
    | _ => true
/-! ### the check -/
structure Sta where
  set : List (Str × List Pa)
  known : List (Pa × Names)
def getS : List (Str × List Pa) → Str → Option (List Pa)
  | [], _ => none
  | q :: m, x => if q.1 = x then some q.2 else getS m x
def addS : List (Str × List Pa) → Str → Pa → List (Str × List Pa)
  | [], x, p => [(x, [p])]
  | q :: m, x, p => if q.1 = x then (q.1, q.2 ++ [p]) :: m else q :: addS m x p
def putP (m : List (Pa × Names)) (k : Pa) (v : Names) : List (Pa × Names) := if (m.any fun p => decide (p.1 = k)) = true then m.map fun p => if p.1 = k then (p.1, v) else p else m ++ [(k, v)]
def noted (s : Sm) (place : Pa) (m : List (Str × List Pa)) : List (Str × List Pa) := (settingsOf s place).foldl (fun m q => addS m q.1 q.2) m
def setsAgain (inputs : Names) (root : Bk) (m : List (Str × List Pa)) (s : Sm) (place : Pa) : Bool :=
  (settingsOf s place).any fun q => decide (q.1 ∈ inputs) || ((getS m q.1).getD []).any fun e => !apart root e q.2
def hasShape : Sm → Bool
  | .bad _ => false
  | _ => true
def faultOf (inputs : Names) (root : Bk) (m : List (Str × List Pa)) (s : Sm) (place : Pa) (known : Option Names) (looped : Bool) : Option Str :=
  if !hasShape s then some "form"
  else match known with
    | none => some "dead"
    | some kn =>
      if setsAgain inputs root m s place then some "name"
      else if (termsOf s).any fun t => decide (t ≠ "") && !decide (t ∈ kn) then some "term"
      else if (match s with | .leave => true | .again => true | _ => false) && !looped then some "loop"
      else none
abbrev Res (α : Type) := Except (Pa × Str) α
section
variable (inputs : Names) (root : Bk)
mutual
def stFlow (s : Sm) (place : Pa) (known : Names) (looped : Bool) (m : Sta) : Res (Fw × Sta) := match s with
  | .loop x _ _ _ _ b c => do
    let (fb, m) ← bkFlow b (place ++ [0]) 0 [] (some (known ++ [x])) true m
    let (fc, m) ← bkFlow c (place ++ [1]) 0 [] (some known) looped m
    return (loopF fb fc, m)
  | .ite _ _ _ b c => do
    let (fb, m) ← bkFlow b (place ++ [0]) 0 [] (some known) looped m
    let (fc, m) ← bkFlow c (place ++ [1]) 0 [] (some known) looped m
    return (eitherF fb fc, m)
  | .choose b c => do
    let (fb, m) ← bkFlow b (place ++ [0]) 0 [] (some known) looped m
    let (fc, m) ← bkFlow c (place ++ [1]) 0 [] (some known) looped m
    return (eitherF fb fc, m)
  | .tryy b hs o a => do
    let (fb, m) ← bkFlow b (place ++ [0]) 0 [] (some known) looped m
    let (fh, m) ← hsFlow hs place 1 known looped m
    let (fo, m) ← bkFlow o (place ++ [1 + hs.list.length]) 0 [] (getF fb END) looped m
    let (fa, m) ← bkFlow a (place ++ [2 + hs.list.length]) 0 [] (some known) looped m
    return (tryF hs.list (fb :: (fh ++ [fo, fa])), m)
  | s => return (simpleF s known, m)
/-- the block from its i-th statement on; flow: what was gathered ahead -/
def bkFlow (b : Bk) (before : Pa) (i : Nat) (flow : Fw) (known : Option Names) (looped : Bool) (m : Sta) : Res (Fw × Sta) := match b with
  | .nil => return (match known with | some kn => putF flow END kn | none => flow, m)
  | .cons s r => do
    let place := before ++ [i]
    match faultOf inputs root m.set s place known looped with
    | some why => throw (place, why)
    | none =>
      let kn := known.getD []
      let (past, m) ← stFlow s place kn looped ⟨noted s place m.set, putP m.known place kn⟩
      bkFlow r before (i + 1) (eitherF flow (withoutEnd past)) (getF past END) looped m
def hsFlow (hs : Hs) (place : Pa) (i : Nat) (known : Names) (looped : Bool) (m : Sta) : Res (List Fw × Sta) := match hs with
  | .nil => return ([], m)
  | .cons _ x b r => do
    let (f, m) ← bkFlow b (place ++ [i]) 0 [] (some (match x with | none => known | some x => known ++ [x])) looped m
    let (fs, m) ← hsFlow r place (i + 1) known looped m
    return (f :: fs, m)
end
def checked : Res (Fw × Sta) := bkFlow inputs root root [] 0 [] (some inputs) false ⟨[], []⟩
end
end Pm

namespace Bx
open PySem PySem.Spec PyProof.Rows L2
example (K : PySem.W.Frag) : PySem.W.kitOne K (.type "bool") (.type "int") = some true := by rfl
example (K : PySem.W.Frag) : PySem.W.kitOne K (.type "NoneType") (.type "int") = some false := by rfl
example (K : PySem.W.Frag) : PySem.W.kitOne K (.type "list") (.type "tuple") = some false := by rfl
example (K : PySem.W.Frag) : PySem.W.kitAny K (.type "dict") [.type "list", .type "tuple"] = some false := by rfl
section
variable {X : Cx}
def rCatS (K : PySem.W.Frag) : R2 := fun x y H Q => ∃ l b xs zs, x = .ref l ∧ y = .ref b ∧ SqL K H l xs ∧ SqL K H b zs ∧ xs.length + zs.length ≤ sizeLine ∧ ∀ p, H p = none → Q (.ref p) (upd H p (.lst (xs ++ zs)))
theorem op_catS : OpR X (binaryOp .Add) (rCatS X.K) := by
  intro pins s σ H x y v u Q I rx ry h
  obtain ⟨l, b, xs, zs, rfl, rfl, hH, hB, hz, q⟩ := h
  cases rx
  cases ry
  obtain ⟨its, r, ⟨⟨cls, dd, data, sl⟩, n, ho, hc, hdd, hd⟩, _⟩ := I.list hH
  obtain ⟨its2, r2, ⟨⟨cls2, dd2, data2, sl2⟩, n2, ho2, hc2, hdd2, hd2⟩, _⟩ := I.list hB
  simp only at hc hd hdd hc2 hd2 hdd2
  subst hc hd hdd hc2 hd2 hdd2
  have e1 := r.length
  have e2 := r2.length
  have e : its.toArray ++ its2.toArray = (its ++ its2).toArray := by simp
  refine concat_meets ⟨_, ho, rfl⟩ ⟨_, ho2, rfl⟩ noFill_list_add seq_list_add PySem.F.slot_list_add PySem.F.entry_list_add (PySem.F.args_list_add_2 _ _) (list_addW l b its.toArray its2.toArray n n2 none none sl sl2 (by simp; omega)) ⟨ho, ho2, ?_⟩
  rw [e]
  exact ⟨.ref _, _, I.lnew (t' := s.toks) (r.append r2) (by rw [List.length_append]; omega), rfl, q _ I.fresh⟩

/-! len(set(t)), t a tuple of ints -/
def tLenSetT (K : PySem.W.Frag) (ta : TE) : TE := fun σ H Q => ta σ H fun x H1 => ∃ (l : Addr) (ns : List Int), x = .ref l ∧ SqT K H1 l (ns.map V.int) ∧ ns.length ≤ 1000 ∧
  ∀ out : List Int, out.Nodup → (∀ k, k ∈ out ↔ k ∈ ns) → Q (.int (out.length : Nat)) H1
theorem pe_lenSetT {a : Expr} {ta : TE} {p p2 q pos : Pos} (hm : X.mg "len" = none) (hm2 : X.mg "set" = none) (ha : PE X a ta) (hg : Gl X "len" := by rfl) (hg2 : Gl X "set" := by rfl) (hc : X.calm = true := by rfl)
    (na : starEach [a] X.env = (false, eval a X.env) :: starEach [] X.env := by rfl) : PE X (.Call (.Name "len" p) [.Call (.Name "set" p2) [a] [] q] [] pos) (tLenSetT X.K ta) := by
  refine ⟨fun pins s σ H Q I h => ?_⟩
  refine Call_ (ld_blt I hg hm boot_len ?_)
  refine PyProof.Rows.callWith_builtin1 (PyProof.Rows.args_cons ?_ rfl) rfl rfl
  refine Call_ (ld_blt I hg2 hm2 boot_set ?_)
  refine PyProof.Rows.callWith_type1 (PyProof.Rows.args_cons (thn (ha.run pins s σ H _ I h) fun v s1 ⟨x, H1, I1, r1, q1⟩ => PyProof.Rows.args_nil ?_) na) na rfl
  obtain ⟨l, ns, rfl, hq, hl, q1⟩ := q1
  cases r1
  obtain ⟨its, rv, pt, hz⟩ := I1.tuple hq
  have hi : IntsAre its.toArray.toList ns := ints_of_vals rv
  have hd := I1.ok.hd hc
  refine call_set_tupI ns hd (show s1.heap.IsTuple l its.toArray from pt) hi (by unfold scanBound; omega) fun h' tk c R1 hcn k => ?_
  refine PyProof.Rows.args_nil ?_
  obtain ⟨o, es, ep, t, ho, hex, hdt, g, nd, hm2, hb, hf, hn, hr, hl2⟩ := R1
  have I2 : Inv X pins σ H1 { s1 with heap := h', toks := tk } := I1.kept fun b o e => k b o e
  have hlen : es.size = (es.toList.map keyOf).length := by rw [List.length_map, Array.length_toList]
  refine call_len_set ho hex hdt hf (by rw [hn]; omega) ⟨.int ((es.toList.map keyOf).length : Nat), H1, I2.tok _, ⟨_, by rw [← hlen]⟩, q1 _ nd fun j => ?_⟩
  rw [← hm2 j, decide_eq_true_eq]
end
section
variable {prog : Program} {w : World} {A : Around} {E : Value → Shared → Prop} {s : Shared}
theorem fm_congr {α β : Type} {f g : α → Option β} : ∀ {l : List α}, (∀ m ∈ l, f m = g m) → l.filterMap f = l.filterMap g
  | [], _ => rfl
  | a :: l, h => by
    rw [List.filterMap_cons, List.filterMap_cons, h a List.mem_cons_self, fm_congr fun m hm => h m (List.mem_cons_of_mem _ hm)]
theorem rev_applied {A : Around} {E : Value → Shared → Prop} {s : Shared} {sl : Addr} {vs : Value} {n : Nat} {Q : Int × Int × Nat → Shared → Prop} (hs : s.heap.IsSliceOf sl .none .none vs) (ps : IsPart vs (some (-1))) (h : Q (((n : Nat) : Int) - 1, -1, n) s) :
    wpAny (model prog w) A (Builtin.Slice.sliceApplied (.ref sl) (pure ((n : Nat) : Int))) Q E s := by
  obtain ⟨os, hos, hcs, hds⟩ := id hs
  unfold Builtin.Slice.sliceApplied Builtin.Slice.sliceFields
  refine wpAny_bind (wpAny_bind (wpAny_field hos hds (x := .none) rfl (wpAny_bind (wpAny_field hos hds (x := .none) rfl (wpAny_bind (wpAny_field hos hds (x := vs) rfl (wpAny_pure ?_)))))))
  refine wpAny_bind (HT.slicePart_ ps ?_)
  show wpAny _ _ (if ((-1 : Int) == 0) = true then _ else _) _ _ s
  rw [if_neg (by decide)]
  refine wpAny_bind (slicePart_none (wpAny_bind (slicePart_none (wpAny_bind (wpAny_pure ?_)))))
  have ea : Builtin.Slice.sliceAdjust none none (-1) ((n : Nat) : Int) = (((n : Nat) : Int) - 1, -1) := by
    unfold Builtin.Slice.sliceAdjust
    simp
  have ep : Builtin.Slice.slicePlaces (((n : Nat) : Int) - 1) (-1) (-1) = n := by
    unfold Builtin.Slice.slicePlaces
    have h1 : ¬ ((-1 : Int) > 0) := by decide
    have h2 : (- -1 : Int) = 1 := by decide
    simp only [h1, if_false, h2, Int.ediv_one]
    split <;> omega
  show wpAny _ _ (match Builtin.Slice.sliceAdjust none none (-1) ((n : Nat) : Int) with | (lo, hi) => pure (lo, (-1 : Int), Builtin.Slice.slicePlaces lo hi (-1))) _ _ s
  rw [ea]
  show wpAny _ _ (pure (((n : Nat) : Int) - 1, (-1 : Int), Builtin.Slice.slicePlaces (((n : Nat) : Int) - 1) (-1) (-1))) _ _ s
  rw [ep]
  exact wpAny_pure h
theorem rev_pick (items : Array Value) : ((List.range items.size).filterMap fun (m : Nat) => items[(((items.size : Nat) : Int) - 1 + (m : Int) * (-1)).toNat]?).toArray = items.toList.reverse.toArray := by
  have e : ((List.range items.size).filterMap fun (m : Nat) => items[(((items.size : Nat) : Int) - 1 + (m : Int) * (-1)).toNat]?) = ((List.range items.size).map fun k => items.size - 1 - k).filterMap (items[·]?) := by
    rw [List.filterMap_map]
    refine fm_congr fun m hm => ?_
    have := List.mem_range.mp hm
    show items[(((items.size : Nat) : Int) - 1 + (m : Int) * (-1)).toNat]? = items[items.size - 1 - m]?
    rw [show (((items.size : Nat) : Int) - 1 + (m : Int) * (-1)).toNat = items.size - 1 - m by omega]
  rw [e, PySem.W.krv_range, List.filterMap_reverse, PySem.W.krv_all]
theorem getItem_tuple_rev {t sl : Addr} {items : Array Value} {vs : Value} {Q : Value → Shared → Prop} (ht : IsTup s.heap t items) (hs : s.heap.IsSliceOf sl .none .none vs) (ps : IsPart vs (some (-1)))
    (h : Q (.ref s.heap.objs.size) { s with heap := s.heap.push { cls := .type "tuple", data := .seq items.toList.reverse.toArray } })
    (hsz : items.size ≤ sizeLine) : wpAny (model prog w) A (getItem (.ref t) (.ref sl)) Q E s := by
  have htake : sizeOk (.seq items.toList.reverse.toArray) := by
    show items.toList.reverse.toArray.size ≤ sizeLine
    rw [List.size_toArray, List.length_reverse, Array.length_toList]
    exact hsz
  obtain ⟨os, hos, hcs, hds⟩ := id hs
  have hTs : s.TypeIs (.ref sl) "slice" := ⟨os, hos, hcs⟩
  unfold getItem
  try with_reducible refine wpAny_holding ?_
  first | refine wpAny_bind (wpAny_pure ?_) | skip
  refine wpAny_bind (wpAny_sequenceKey ht.typeIs (by decide) ?_)
  refine wpAny_bind (wpAny_callSpecial?_slot (name := Str.ofString "__getitem__") ht.typeIs PyProof.Rows.slot_tuple_getitem
    (wpAny_call_entry PyProof.Rows.slot_tuple_getitem ht.typeIs entry_tuple_getitem ?_ (args_tuple_getitem _ _)))
  show wpAny _ _ (Builtin.Tuple.tupleItemsOf (.ref t) >>= _) _ _ s
  refine wpAny_bind (tupleItemsOf_ ht ?_)
  refine wpAny_bind (wpAny_typeOf hTs ?_)
  rw [if_pos (by decide)]
  refine wpAny_bind (rev_applied hs ps ?_)
  have hno : ¬ (((((items.size : Nat) : Int) - 1) == 0 && (-1 : Int) == 1 && items.size == items.size) = true) := by
    intro q
    rw [Bool.and_eq_true, Bool.and_eq_true] at q
    exact absurd q.1.2 (by decide)
  show wpAny _ _ (if ((((items.size : Nat) : Int) - 1) == 0 && (-1 : Int) == 1 && items.size == items.size) = true then _ else _) _ _ s
  rw [if_neg hno, rev_pick]
  first
    | exact wpAny_bind (m := Builtin.Tuple.tupleExact _) (wpAny_newObj_type (wpAny_pure ⟨_, rfl, wpAny_pure h⟩) htake)
    | exact wpAny_bind (m := Builtin.Tuple.tupleExact _) (wpAny_newObj_type (wpAny_bind (wpAny_pure (wpAny_pure ⟨_, rfl, wpAny_pure h⟩))) htake)
    | exact wpAny_bind (wpAny_bind (m := Builtin.Tuple.tupleExact _) (wpAny_newObj_type (wpAny_pure (wpAny_pure ⟨_, rfl, wpAny_pure h⟩)) htake))
    | exact wpAny_bind (wpAny_bind (m := Builtin.Tuple.tupleExact _) (wpAny_newObj_type (wpAny_pure ⟨_, rfl, wpAny_pure h⟩) htake))
end
section
variable {X : Cx}
def tRevT (K : PySem.W.Frag) (te : TE) : TE := fun σ H Q => te σ H fun x H1 => ∃ a xs, x = .ref a ∧ SqT K H1 a xs ∧ ∀ p, H1 p = none → Q (.ref p) (upd H1 p (.tup xs.reverse))
theorem pe_revT {e : Expr} {te : TE} {k : Nat} {p1 p2 p3 pos : Pos} (he : PE X e te) : PE X (.Subscript e (.Slice none none (some (.UnaryOp .USub (.Constant (.int 1) k p1) p2)) p3) pos) (tRevT X.K te) := by
  refine ⟨fun pins s σ H Q I h => ?_⟩
  refine Subscript_ (thn (he.run pins s σ H _ I h) fun v s1 ⟨x, H1, I1, r1, q1⟩ => ?_)
  obtain ⟨a, xs, ex, hx, q⟩ := q1
  subst ex
  cases r1
  have hst : PO X (some (.UnaryOp .USub (.Constant (.int 1) k p1) p2)) (tPart (tUn (rU fun i => .int (-i)) (tC (.int 1)))) := po_some (pe_un un_neg pe_int)
  refine wpAny_Slice (thn (po_none.run pins s1 σ H1 (fun o H2 => o = none ∧ H2 = H1) I1 ⟨rfl, rfl⟩) fun vl s2 ⟨l, H2, I2, pl, el, e2⟩ => ?_)
  subst el e2
  refine thn (po_none.run pins s2 σ H2 (fun o H3 => o = none ∧ H3 = H2) I2 ⟨rfl, rfl⟩) fun vu s3 ⟨u, H3, I3, pu, eu, e3⟩ => ?_
  subst eu e3
  refine thn (hst.run pins s3 σ H3 (fun o H4 => o = some (-1) ∧ H4 = H3) I3 ⟨1, rfl, -1, rfl, rfl, rfl⟩) fun vs s4 ⟨o, H4, I4, ps, eo, e4⟩ => ?_
  subst eo e4
  cases pl
  cases pu
  have I5 : Inv X pins σ H4 { s4 with heap := s4.heap.push { cls := .type "slice", data := .fields #[Value.none, Value.none, vs] } } := I4.kept (t' := s4.toks) fun b ob q => Heap.get?_push_of_some _ q
  obtain ⟨its, r, ht, hz⟩ := I5.tuple hx
  have hlen := r.length
  show wpAny (model X.prog X.w) X.A (subscriptTail e (.Slice none none (some (.UnaryOp .USub (.Constant (.int 1) k p1) p2)) p3) (.ref a) (.ref s4.heap.objs.size)) (EP X pins σ Q) X.xe { s4 with heap := s4.heap.push { cls := .type "slice", data := .fields #[Value.none, Value.none, vs] } }
  refine tail_any (ops := [.ref a, .ref s4.heap.objs.size]) ht.typeIs (PyProof.Rows.slot_tuple_getitem.lookup) ?_ (by with_unfolding_all rfl)
  refine getItem_tuple_rev ht (Heap.IsSliceOf.new _ Value.none Value.none vs) ps ?_ (by rw [List.size_toArray]; omega)
  refine ⟨.ref _, _, I5.laid (t' := s4.toks) (o := .tup xs.reverse) (fun b ob q => Heap.get?_push_of_some _ q) (Nat.le_refl _) ?_, rfl, q _ (I5.hok.fresh (Nat.le_refl _))⟩
  exact ⟨by rw [List.length_reverse]; exact hz, _, r.reverse, ⟨_, Heap.get?_push_size _ rfl, rfl, 0, rfl⟩⟩
end
end Bx

namespace Bx
open PySem PySem.Spec PyProof.Rows L2
/-! ### what stays -/
theorem Same.new {H : Hp} {p : Addr} {o : HO} (h : H p = none) : Same H (upd H p o) := fun a u e => by
  rw [upd_ne (ne_of_none e h)]
  exact e
theorem Same.mut {H H' : Hp} {p : Addr} {o : HO} (e : Same H H') (h : H p = none) : Same H (upd H' p o) := fun a u ha => by
  rw [upd_ne (ne_of_none ha h)]
  exact e a u ha
theorem Same.seqT {K : PySem.W.Frag} {H H' : Hp} {a : Addr} {xs : List V} (e : Same H H') (h : SqT K H a xs) : SqT K H' a xs := by
  rcases h with (h | ⟨o, h⟩) | h
  · exact .inl (.inl (e _ _ h))
  · exact .inl (.inr ⟨o, e _ _ h⟩)
  · exact .inr h
theorem Same.ty {K : PySem.W.Frag} {H H' : Hp} {v : V} {t : Value} (e : Same H H') (h : TyX K H v t) : TyX K H' v t := by
  cases h with
  | base b =>
    cases b with
    | non => exact .base .non
    | bl x => exact .base (.bl x)
    | int i => exact .base (.int i)
    | str x => exact .base (.str x)
    | flt x => exact .base (.flt x)
    | lst q => exact .base (.lst (e _ _ q))
    | frz q => exact .base (.frz (e _ _ q))
    | tup q => exact .base (.tup (e _ _ q))
    | dK q => exact .base (.dK (e _ _ q))
    | dT q => exact .base (.dT (e _ _ q))
    | ins q cl ha hn htk hm => exact .base (.ins (e _ _ q) cl ha hn htk hm)
  | byt b => exact .byt b
  | set q => exact .set (e _ _ q)
  | kList a b => exact .kList a b
  | kTuple a b => exact .kTuple a b
  | kDict a b => exact .kDict a b
  | fTuple q => exact .fTuple (e _ _ q)
  | fDict q => exact .fDict (e _ _ q)
theorem tyT {K : PySem.W.Frag} {H : Hp} {a : Addr} {xs : List V} (h : SqT K H a xs) : TyX K H (.ref a) (.type "tuple") := by
  rcases h with (h | ⟨o, h⟩) | ⟨o, its, n, hk, hc, _⟩
  · exact .base (.tup h)
  · exact .fTuple h
  · exact .kTuple hk hc
theorem tyL {K : PySem.W.Frag} {H : Hp} {a : Addr} {xs : List V} (h : SqL K H a xs) : TyX K H (.ref a) (.type "list") := by
  rcases h with (h | ⟨o, h⟩) | ⟨o, its, n, hk, hc, _⟩
  · exact .base (.lst h)
  · exact .base (.frz h)
  · exact .kList hk hc
/-- .. all but the one at l -/
def But (l : Addr) (H H' : Hp) : Prop := ∀ b o, H b = some o → b ≠ l → H' b = some o
theorem But.refl (l : Addr) (H : Hp) : But l H H := fun _ _ h _ => h
theorem But.trans {l : Addr} {H H1 H2 : Hp} (a : But l H H1) (b : But l H1 H2) : But l H H2 := fun c o h n => b c o (a c o h n) n
theorem But.of {l : Addr} {H H' : Hp} (a : Same H H') : But l H H' := fun c o h _ => a c o h
theorem But.upd {l : Addr} {H : Hp} {o : HO} : But l H (upd H l o) := fun c u h n => by
  rw [upd_ne n]
  exact h
theorem But.seq {K : PySem.W.Frag} {l : Addr} {H H' : Hp} {a : Addr} {xs : List V} (e : But l H H') (n : a ≠ l) (h : SqL K H a xs) : SqL K H' a xs := by
  rcases h with (h | ⟨o, h⟩) | h
  · exact .inl (.inl (e _ _ h n))
  · exact .inl (.inr ⟨o, e _ _ h n⟩)
  · exact .inr h
theorem But.seqT {K : PySem.W.Frag} {l : Addr} {H H' : Hp} {a : Addr} {xs : List V} (e : But l H H') (n : a ≠ l) (h : SqT K H a xs) : SqT K H' a xs := by
  rcases h with (h | ⟨o, h⟩) | h
  · exact .inl (.inl (e _ _ h n))
  · exact .inl (.inr ⟨o, e _ _ h n⟩)
  · exact .inr h
theorem But.free {l : Addr} {H H' : Hp} (e : But l H H') {p : Addr} (n : p ≠ l) (h : H' p = Option.none) : H p = Option.none := by
  cases q : H p with
  | none => rfl
  | some o =>
    rw [e p o q n] at h
    cases h
/-! ### tuples of any kind: what a sum, a slice is -/
section
variable {X : Cx}
def rCatU (K : PySem.W.Frag) : R2 := fun x y H Q => ∃ a b xs ys, x = .ref a ∧ y = .ref b ∧ SqT K H a xs ∧ SqT K H b ys ∧ xs.length + ys.length ≤ sizeLine ∧ ∀ c H', Same H H' → SqT K H' c (xs ++ ys) → Q (.ref c) H'
theorem op_catU : OpR X (binaryOp .Add) (rCatU X.K) := by
  intro pins s σ H x y v u Q I rx ry h
  obtain ⟨a, b, xs, ys, ex, ey, ha, hb, hz, q⟩ := h
  refine op_catA pins s σ H x y v u Q I rx ry ⟨a, b, xs, ys, ex, ey, ha, hb, hz, fun e => ?_, fun _ e => ?_, fun _ _ p hp => ?_⟩
  · subst e
    exact q b H (Same.refl H) hb
  · subst e
    exact q a H (Same.refl H) (by rw [List.append_nil]; exact ha)
  · exact q p _ (Same.new hp) (.inl (.inl upd_same))
def rSlU (K : PySem.W.Frag) : V → Option Int → Option Int → Hp → VK → Prop := fun x lo hi H Q => ∃ a xs, x = .ref a ∧ SqT K H a xs ∧ ∀ c H', Same H H' → SqT K H' c (cutV xs lo hi) → Q (.ref c) H'
theorem sl_tupU : SlR X (rSlU X.K) := by
  intro pins s σ H x v vl vu lo hi sl Q I rx hs pl pu h
  obtain ⟨a, xs, ex, hx, q⟩ := h
  refine sl_tupA pins s σ H x v vl vu lo hi sl Q I rx hs pl pu ⟨a, xs, ex, hx, fun hw => ?_, fun _ p hp => ?_⟩
  · refine q a H (Same.refl H) ?_
    unfold cutV
    rw [hw.1, hw.2, List.drop_zero, Nat.sub_zero, List.take_length]
    exact hx
  · exact q p _ (Same.new hp) (.inl (.inl upd_same))
end
/-! ### a loop over enumerate of a list -/
theorem for_enumL {K : PySem.W.Frag} {a : Addr} {xs : List V} {g : TG} {tb : TS} {D : Ends} {σ : L2.St} {H : Hp} (Pv : Nat → L2.St → Hp → Prop) (h0 : Pv 0 σ H) (hq : ∀ i σ H, Pv i σ H → SqL K H a xs)
    (hs : ∀ (i : Nat) (x : V) (T : Addr) (σ : L2.St) (H : Hp), xs[i]? = some x → Pv i σ H → H T = none → g (.ref T) σ (upd H T (.tup [.int (i : Nat), x])) fun σ2 H2 => tb { D with nx := Pv (i + 1), ct := Pv (i + 1), bk := D.nx } σ2 H2) (hd : ∀ σ H, Pv xs.length σ H → D.nx σ H) :
    ∃ W : Nat → Nat → L2.St → Hp → Prop, (∃ m, W 0 m σ H) ∧ ∀ i m σ H, W i m σ H →
      ((Ite K a).stop i H ∧ D.nx σ H) ∨ ((Ite K a).go i H ∧ ∃ N : L2.St → Hp → Prop, (∀ σ' H', N σ' H' → ∃ m', m' < m ∧ W (i + 1) m' σ' H') ∧ ∀ v H', (Ite K a).yld i H v H' → g v σ H' fun σ2 H2 => tb { D with nx := N, ct := N, bk := D.nx } σ2 H2) := by
  refine ⟨fun i m σ H => m = xs.length - i ∧ i ≤ xs.length ∧ Pv i σ H, ⟨xs.length, rfl, Nat.zero_le _, h0⟩, ?_⟩
  rintro i m σ H ⟨rfl, hi, p⟩
  have qx := hq i σ H p
  by_cases hlt : i < xs.length
  · have hx : xs[i]? = some xs[i] := List.getElem?_eq_getElem hlt
    refine .inr ⟨⟨xs, _, qx, hx⟩, Pv (i + 1), fun σ' H' p' => ⟨xs.length - (i + 1), by omega, rfl, hlt, p'⟩, fun v H' y => ?_⟩
    obtain ⟨T, x', rfl, hT, rfl, f1⟩ := y
    exact hs i x' T σ H (f1 xs qx) p hT
  · have e : i = xs.length := by omega
    subst e
    exact .inl ⟨⟨xs, qx, Nat.le_refl _⟩, hd σ H p⟩
end Bx

/-! dicts whose keys are tuples of ints and texts, where a key's tuple may stand in the written part -/
namespace Tk
open PySem PySem.Spec PyProof.Rows L2
abbrev Ent := List Key × Addr × V
abbrev Rws : List Ent → List (List Key × Addr × Value) → Prop := Paired fun p q => p.1 = q.1 ∧ p.2.1 = q.2.1 ∧ RelV p.2.2 q.2.2
def phi (P : Program) (w : World) (a : Addr) (es : List Ent) : Heap → Prop := fun hp => es.length ≤ sizeLine ∧ (a == sysModules) = false ∧ ∃ ys, Rws es ys ∧
  ∃ ob ds n, hp.get? a = some ob ∧ ob.ExactDict ∧ ob.data = .dict ds n ∧ ds.toList = ys.map (entryOfKey (tupleKind (mixKind P w))) ∧ (ys.map (·.1)).Nodup
/-- the dict's object: its entries, each key with its tuple's address -/
def TO (P : Program) (w : World) (a : Addr) (es : List Ent) : HO := .ext (phi P w a es)
/-- key and value, and the entry that holds them -/
def KeyR (K : PySem.W.Frag) (H : Hp) (p : List Key × V) (e : Ent) : Prop := p.1 = e.1 ∧ p.2 = e.2.2 ∧ SqT K H e.2.1 (p.1.map kV)
def TD (P : Program) (w : World) (K : PySem.W.Frag) (H : Hp) (a : Addr) (kvs : List (List Key × V)) : Prop := ∃ es, H a = some (TO P w a es) ∧ Paired (KeyR K H) kvs es
theorem keyR_mono {K : PySem.W.Frag} {H H' : Hp} (st : ∀ b ks, SqT K H b ks → SqT K H' b ks) {kvs : List (List Key × V)} {es : List Ent} (r : Paired (KeyR K H) kvs es) : Paired (KeyR K H') kvs es :=
  Paired.mapP r fun _ _ z => ⟨z.1, z.2.1, st _ _ z.2.2⟩
section
variable {P : Program} {w : World} {K : PySem.W.Frag} {H H' : Hp} {hp : Heap} {a b : Addr} {es : List Ent} {kvs : List (List Key × V)} {ys : List (List Key × Addr × Value)} {k : List Key} {v : V} {u : Value}
theorem obj_ok (p : phi P w a es hp) : ObjOk P w H hp a (TO P w a es) := by
  refine ⟨p, ?_, fun h1 h2 q keep => ?_⟩
  · obtain ⟨_, _, _, _, ob, _, _, e, _⟩ := p
    exact ⟨ob, e⟩
  · obtain ⟨z, y, ys, r, ob, ds, n, e, c⟩ := q
    exact ⟨z, y, ys, r, ob, ds, n, keep ob e, c⟩
theorem val_of (r : Paired (KeyR K H) kvs es) (q : Rws es ys) (k : List Key) : RelO (valV kvs k) ((atKey ys k).map (·.2)) := by
  induction r generalizing ys with
  | nil => cases q; exact True.intro
  | @cons p e ps qs h t ih =>
    cases q with
    | @cons _ y _ yt h2 t2 =>
      obtain ⟨h1, h3, _⟩ := h
      obtain ⟨g1, _, g3⟩ := h2
      by_cases c : p.1 = k
      · have c' : y.1 = k := g1.symm.trans (h1.symm.trans c)
        have f : atKey (y :: yt) k = some y.2 := by simp [atKey, List.find?_cons, c']
        rw [valV_pos c, f, h3]
        exact g3
      · have c' : ¬ y.1 = k := fun z => c (h1.trans (g1.trans z))
        have f : atKey (y :: yt) k = atKey yt k := by simp [atKey, List.find?_cons, c']
        rw [valV_neg c, f]
        exact ih t2
def swapE (k : List Key) (v : V) (e : Ent) : Ent := if e.1 = k then (e.1, e.2.1, v) else e
def putE (kvs : List (List Key × V)) (es : List Ent) (k : List Key) (b : Addr) (v : V) : List Ent := if (kvs.any fun kv => decide (kv.1 = k)) = true then es.map (swapE k v) else es ++ [(k, b, v)]
theorem swap_rows (q : Rws es ys) (rv : RelV v u) : Rws (es.map (swapE k v)) (ys.map (putAt k u)) := by
  induction q with
  | nil => exact .nil
  | @cons e y et yt h t ih =>
    refine .cons ?_ ih
    obtain ⟨g1, g2, g3⟩ := h
    unfold swapE putAt
    by_cases c : e.1 = k
    · rw [if_pos c, if_pos (g1.symm.trans c)]
      exact ⟨g1, g2, rv⟩
    · rw [if_neg c, if_neg fun z => c (g1.trans z)]
      exact ⟨g1, g2, g3⟩
theorem swap_keys (r : Paired (KeyR K H) kvs es) : Paired (KeyR K H) (kvs.map fun kv => if kv.1 = k then (kv.1, v) else kv) (es.map (swapE k v)) := by
  induction r with
  | nil => exact .nil
  | @cons p e ps qs h t ih =>
    refine .cons ?_ ih
    obtain ⟨h1, h2, h3⟩ := h
    show KeyR K H (if p.1 = k then (p.1, v) else p) (if e.1 = k then (e.1, e.2.1, v) else e)
    by_cases c : p.1 = k
    · rw [if_pos c, if_pos (h1.symm.trans c)]
      exact ⟨h1, rfl, h3⟩
    · rw [if_neg c, if_neg fun z => c (h1.trans z)]
      exact ⟨h1, h2, h3⟩
theorem any_at (r : Paired (KeyR K H) kvs es) (q : Rws es ys) : (kvs.any fun kv => decide (kv.1 = k)) = (atKey ys k).isSome := by
  rw [valV_any, (val_of r q k).isSome_eq, Option.isSome_map]
theorem put_rows (r : Paired (KeyR K H) kvs es) (q : Rws es ys) (rv : RelV v u) : Rws (putE kvs es k b v) (storedH ys k b u) := by
  unfold putE storedH
  rw [any_at r q]
  by_cases c : (atKey ys k).isSome = true
  · rw [if_pos c, if_pos c]
    exact swap_rows q rv
  · rw [if_neg c, if_neg c]
    exact Paired.snoc q ⟨rfl, rfl, rv⟩
theorem put_keys (r : Paired (KeyR K H) kvs es) (hb : SqT K H b (k.map kV)) : Paired (KeyR K H) (putK kvs k v) (putE kvs es k b v) := by
  unfold putE putK
  by_cases c : (kvs.any fun kv => decide (kv.1 = k)) = true
  · rw [if_pos c, if_pos c]
    exact swap_keys r
  · rw [if_neg c, if_neg c]
    exact Paired.snoc r ⟨rfl, rfl, hb⟩
theorem sq_upd {o : HO} {c : Addr} {xs : List V} (hn : ∀ zs, H a ≠ some (.tup zs)) (hf : ∀ ob zs, H a ≠ some (.frz ob (.tup zs))) (h : SqT K H c xs) : SqT K (upd H a o) c xs := by
  rcases h with (h | ⟨ob, h⟩) | h
  · refine .inl (.inl ?_)
    rw [upd_ne fun z => hn xs (by rw [← z]; exact h)]
    exact h
  · refine .inl (.inr ⟨ob, ?_⟩)
    rw [upd_ne fun z => hf ob xs (by rw [← z]; exact h)]
    exact h
  · exact .inr h
theorem sq_to {es0 : List Ent} {o : HO} {c : Addr} {xs : List V} (ha : H a = some (TO P w a es0)) (h : SqT K H c xs) : SqT K (upd H a o) c xs :=
  sq_upd (fun zs z => by rw [ha] at z; cases z) (fun ob zs z => by rw [ha] at z; cases z) h
theorem sq_lock {es0 : List Ent} {c : Addr} {xs : List V} {ob : Obj} (ha : H a = some (TO P w a es0)) (h : SqT K H c xs) : SqT K (upd H a (.frz ob (TO P w a es0))) c xs := sq_to ha h
end
section
variable {X : Cx} {pins : List (Addr × Obj)} {σ : L2.St} {H : Hp} {s : Shared} {a b : Addr} {es : List Ent} {kvs : List (List Key × V)} {k : List Key} {v y : V} {u r : Value} {A : Around} {E : Value → Shared → Prop}
theorem key_at (I : Inv X pins σ H s) (e : SqT X.K H b (k.map kV)) : (tupleKind (mixKind X.prog X.w)).is s.heap k b := by
  obtain ⟨its, rel, ⟨ob, g1, g2, n, g3⟩, _⟩ := I.tuple e
  exact ⟨ob, its.toArray, n, g1, g2, g3, by simpa using items_are rel⟩
theorem all_keys (I : Inv X pins σ H s) : ∀ {kvs : List (List Key × V)} {es : List Ent} {ys : List (List Key × Addr × Value)}, Paired (KeyR X.K H) kvs es → Rws es ys → ∀ x ∈ ys, (tupleKind (mixKind X.prog X.w)).is s.heap x.1 x.2.1 := by
  intro kvs es ys r
  induction r generalizing ys with
  | nil =>
    intro q x hx
    cases q
    exact nomatch hx
  | @cons p e ps qs h t ih =>
    intro q x hx
    cases q with
    | @cons _ y0 _ yt h2 t2 =>
      rcases List.mem_cons.mp hx with z | hx
      · subst z
        rw [← h2.1, ← h2.2.1, ← h.1]
        exact key_at I h.2.2
      · exact ih t2 x hx
theorem opened (I : Inv X pins σ H s) (rd : Rd H a (TO X.prog X.w a es)) (kr : Paired (KeyR X.K H) kvs es) :
    kvs.length ≤ sizeLine ∧ (a == sysModules) = false ∧ ∃ ys, Rws es ys ∧ s.heap.DictOfH (tupleKind (mixKind X.prog X.w)) a ys := by
  obtain ⟨⟨z, hd, ys, q, ob, ds, n, e1, e2, e3, e4, e5⟩, _⟩ := (show ObjOk X.prog X.w H s.heap a (TO X.prog X.w a es) from rd.ok I.hok)
  have l := Paired.length kr
  exact ⟨by omega, hd, ys, q, ob, ds, n, e1, e2, e3, e4, all_keys I kr q, e5⟩
/-- what the dict at a holds at the key y -/
def TGet (P : Program) (w : World) (K : PySem.W.Frag) (H : Hp) (a : Addr) (y : V) (o : Option V) : Prop := ∃ es kvs k b, Rd H a (TO P w a es) ∧ Paired (KeyR K H) kvs es ∧ y = .ref b ∧ SqT K H b (k.map kV) ∧ o = valV kvs k
theorem TGet.of {P : Program} {w : World} {K : PySem.W.Frag} (h : TD P w K H a kvs) (hb : SqT K H b (k.map kV)) : TGet P w K H a (.ref b) (valV kvs k) := let ⟨es, e, kr⟩ := h; ⟨es, kvs, k, b, .inl e, kr, rfl, hb, rfl⟩
theorem t_get {Q : Value → Shared → Prop} (hu : A.units + 1 < cLine) (I : Inv X pins σ H s) (g : TGet X.prog X.w X.K H a y (some v)) (ry : RelV y u) (hq : ∀ w' s', Inv X pins σ H s' → RelV v w' → Q w' s') :
    wpAny (model X.prog X.w) A (getItem (.ref a) u) Q E s := by
  obtain ⟨es, kvs, k, b, rd, kr, rfl, eb, l⟩ := g
  cases (show u = Value.ref b from ry)
  obtain ⟨_, _, ys, q, dd⟩ := opened I rd kr
  obtain ⟨w', hw, rw'⟩ := RelO.some_of (v := v) (o := (atKey ys k).map (·.2)) (by rw [l]; exact val_of kr q k)
  obtain ⟨p, hp, hp2⟩ := Option.map_eq_some_iff.mp hw
  refine wpAny_getItem_heap (tupleKind_room_in1 hu) (key_at I eb) dd hp ?_
  rw [hp2]
  exact hq w' _ (I.tok _) rw'
theorem t_in {o : Option V} {Q : Value → Shared → Prop} (hu : A.units + 1 < cLine) (I : Inv X pins σ H s) (g : TGet X.prog X.w X.K H a y o) (ry : RelV y u) (hq : ∀ s', Inv X pins σ H s' → Q (.bool o.isSome) s') :
    wpAny (model X.prog X.w) A (compareOp .In u (.ref a)) Q E s := by
  obtain ⟨es, kvs, k, b, rd, kr, rfl, eb, l⟩ := g
  cases (show u = Value.ref b from ry)
  obtain ⟨_, hd, ys, q, dd⟩ := opened I rd kr
  refine wpAny_in_heap (tupleKind_room_in1 hu) (key_at I eb) hd dd ?_
  have z := (val_of kr q k).isSome_eq
  rw [Option.isSome_map] at z
  rw [← z, ← l]
  exact hq _ (I.tok _)
theorem t_get1 {o : Option V} {Q : Value → Shared → Prop} (hu : A.units + 1 < cLine) (I : Inv X pins σ H s) (g : TGet X.prog X.w X.K H a y o) (ry : RelV y u) (hq : ∀ w' s', Inv X pins σ H s' → RelV (o.getD .non) w' → Q w' s') :
    wpAny (model X.prog X.w) A (call (.builtin "dict.get") [.ref a, u]) Q E s := by
  obtain ⟨es, kvs, k, b, rd, kr, rfl, eb, l⟩ := g
  cases (show u = Value.ref b from ry)
  obtain ⟨_, hd, ys, q, dd⟩ := opened I rd kr
  refine call_meetsIn PySem.F.slot_dict_get dd.typeIs PySem.F.entry_dict_get (PySem.F.args_dict_get_2 _ _) (meetsH_dict_get (tupleKind (mixKind X.prog X.w)) a b hd) ⟨tupleKind_room_in1 hu, k, ys, key_at I eb, dd, hq _ _ (I.tok _) ?_⟩
  rw [l]
  exact (val_of kr q k).getD rfl
/-- the heap behind a[k] = v -/
def TPut (P : Program) (w : World) (K : PySem.W.Frag) (H : Hp) (a : Addr) (y v : V) (N : Hp → Prop) : Prop := ∃ kvs k b, TD P w K H a kvs ∧ y = .ref b ∧ SqT K H b (k.map kV) ∧ kvs.length < sizeLine ∧
  ∀ es, TD P w K (upd H a (TO P w a es)) a (putK kvs k v) → N (upd H a (TO P w a es))
theorem put_inv {n : Nat} {ys : List (List Key × Addr × Value)} {h' : Heap} (I : Inv X pins σ H s) (ha : H a = some (TO X.prog X.w a es)) (kr : Paired (KeyR X.K H) kvs es) (q : Rws es ys) (hd : (a == sysModules) = false) (hz : kvs.length < sizeLine)
    (eb : SqT X.K H b (k.map kV)) (rv : RelV v r) (dd : h'.DictOfH (tupleKind (mixKind X.prog X.w)) a (storedH ys k b r)) (hs : Heap.SameBut a s.heap h') :
    Inv X pins σ (upd H a (TO X.prog X.w a (putE kvs es k b v))) { s with heap := h', toks := n } ∧ TD X.prog X.w X.K (upd H a (TO X.prog X.w a (putE kvs es k b v))) a (putK kvs k v) := by
  obtain ⟨ob, ds, m, e1, e2, e3, e4, _, e5⟩ := dd
  have pk : Paired (KeyR X.K H) (putK kvs k v) (putE kvs es k b v) := put_keys kr eb
  have hl := length_putK kvs k v
  have hl2 := Paired.length pk
  refine ⟨d_write I (by rw [ha]; exact True.intro) hs ⟨ob, e1⟩ (obj_ok ⟨by omega, hd, _, put_rows kr q rv, ob, ds, m, e1, e2, e3, e4, e5⟩), _, upd_same, keyR_mono (fun c xs z => sq_to ha z) pk⟩
theorem t_set {N : Hp → Prop} {Q : Unit → Shared → Prop} (hu : A.units + 1 < cLine) (I : Inv X pins σ H s) (g : TPut X.prog X.w X.K H a y v N) (ry : RelV y u) (rv : RelV v r) (hq : ∀ H' s', Inv X pins σ H' s' → N H' → Q () s') :
    wpAny (model X.prog X.w) A (setItem (.ref a) u r) Q E s := by
  obtain ⟨kvs, k, b, ⟨es, ha, kr⟩, rfl, eb, hz, nx⟩ := g
  cases (show u = Value.ref b from ry)
  obtain ⟨_, hd, ys, q, dd⟩ := opened I (.inl ha) kr
  have l1 := Paired.length kr
  have l2 := Paired.length q
  refine wpAny_setItem_heap (hsz := by omega) (tupleKind_room_in1 hu) (key_at I eb) dd fun h' dd' hs => ?_
  obtain ⟨I2, td⟩ := put_inv I ha kr q hd hz eb rv dd' hs
  exact hq _ _ I2 (nx _ td)
theorem t_dictSet {N : Hp → Prop} {Q : Unit → Shared → Prop} (hu : X.A.units + 1 < cLine) (I : Inv X pins σ H s) (g : TPut X.prog X.w X.K H a y v N) (ry : RelV y u) (rv : RelV v r) (hq : ∀ H' s', Inv X pins σ H' s' → N H' → Q () s') :
    wpAny (model X.prog X.w) X.A (dictSet a u r) Q E s := by
  obtain ⟨kvs, k, b, ⟨es, ha, kr⟩, rfl, eb, hz, nx⟩ := g
  cases (show u = Value.ref b from ry)
  obtain ⟨_, hd, ys, q, dd⟩ := opened I (.inl ha) kr
  have l1 := Paired.length kr
  have l2 := Paired.length q
  refine wpAny_dictSet_heap (hsz := by omega) (show (tupleKind (mixKind X.prog X.w)).room X.A from (by show X.A.units < cLine; omega)) (key_at I eb) dd fun h' dd' hs => ?_
  obtain ⟨I2, td⟩ := put_inv I ha kr q hd hz eb rv dd' hs
  exact hq _ _ I2 (nx _ td)
theorem t_type {o : Option V} (I : Inv X pins σ H s) (g : TGet X.prog X.w X.K H a y o) : s.TypeIs (.ref a) "dict" ∧ ∀ c, Value.ref a = .ref c → ∃ ob, s.heap.get? c = some ob ∧ ob.dict = none := by
  obtain ⟨es, kvs, k, b, rd, kr, rfl, eb, l⟩ := g
  obtain ⟨_, hd, ys, q, dd⟩ := opened I rd kr
  refine ⟨dd.typeIs, fun c z => ?_⟩
  cases z
  obtain ⟨ob, _, _, h1, h2, _⟩ := dd
  exact ⟨ob, h1, h2.2.1⟩
theorem new_ok {P : Program} {w : World} {H : Hp} (hp : Heap) (hb : sysModules < hp.objs.size) : ObjOk P w H (hp.push { cls := .type "dict", data := .dict #[] }) hp.objs.size (TO P w hp.objs.size []) :=
  obj_ok ⟨Nat.zero_le _, beq_eq_false_iff_ne.mpr (Ne.symm (Nat.ne_of_lt hb)), [], .nil, _, #[], 0, Heap.get?_push_size _ rfl, ⟨rfl, rfl, rfl⟩, rfl, rfl, List.nodup_nil⟩
end
end Tk

/-! the rules for dicts with tuple keys -/
namespace Tk
open PySem PySem.Spec PyProof.Rows L2
section
variable {X : Cx} (P : Program) (w : World) (K : PySem.W.Frag)
def tNewT (P : Program) (w : World) : TE := fun _ H Q => ∀ p, H p = none → Q (.ref p) (upd H p (TO P w p []))
def tGetT (td ty : TE) : TE := fun σ H Q => td σ H fun x H1 => ty σ H1 fun y H2 => ∃ a v, x = .ref a ∧ TGet P w K H2 a y (some v) ∧ Q v H2
def tInT (ty td : TE) : TE := fun σ H Q => ty σ H fun y H1 => td σ H1 fun x H2 => ∃ a o, x = .ref a ∧ TGet P w K H2 a y o ∧ Q (.bl o.isSome) H2
def tGet1T (td ty : TE) : TE := fun σ H Q => td σ H fun x H1 => ∃ a, x = .ref a ∧ ty σ H1 fun y H2 => ∃ o, TGet P w K H2 a y o ∧ Q (o.getD .non) H2
def sPutT (td ty tv : TE) : TS := fun D σ H => tv σ H fun v H1 => td σ H1 fun x H2 => ty σ H2 fun y H3 => ∃ a, x = .ref a ∧ TPut P w K H3 a y v (D.nx σ)
theorem pe_tnew {pos : Pos} (hP : X.prog = P := by rfl) (hw : X.w = w := by rfl) : PE X (.Dict [] [] pos) (tNewT P w) := by
  subst hP hw
  exact ⟨fun pins s σ H Q I h => wpAny_Dict_empty ⟨.ref s.heap.objs.size, _, I.laid (a := s.heap.objs.size) (o := TO X.prog X.w s.heap.objs.size []) (t' := s.toks) (fun _ _ q => Heap.get?_push_of_some _ q) (Nat.le_refl _) (new_ok s.heap I.big), rfl, h _ (I.hok.fresh (Nat.le_refl _))⟩⟩
theorem pe_tget {o i : Expr} {pos : Pos} {td ty : TE} (hu : X.A.units + 1 < cLine) (ho : PE X o td) (hi : PE X i ty) (hs : NoSl i) (hP : X.prog = P := by rfl) (hw : X.w = w := by rfl) (hK : X.K = K := by rfl) : PE X (.Subscript o i pos) (tGetT P w K td ty) := by
  subst hP hw hK
  refine ⟨fun pins s σ H Q I h => subD_of PySem.F.slot_dict_getitem.lookup hs (thn (ho.run pins s σ H _ I h) fun u s1 ⟨x, H1, I1, rx, q1⟩ => thn (hi.run pins s1 σ H1 _ I1 q1) fun iv s2 ⟨y, H2, I2, ry, a, v, ex, g, q2⟩ => ?_)⟩
  subst ex
  obtain rfl : u = Value.ref a := rx
  exact ⟨(t_type I2 g).1, t_get hu I2 g ry fun w' s3 I3 rw' => ⟨v, H2, I3, rw', q2⟩⟩
theorem pc_tin {o i : Expr} {td ty : TE} (hu : X.A.units + 1 < cLine) (hi : PE X i ty) (ho : PE X o td) (hP : X.prog = P := by rfl) (hw : X.w = w := by rfl) (hK : X.K = K := by rfl) : PC X .In i o (tInT P w K ty td) := by
  subst hP hw hK
  refine ⟨fun pins s σ H Q I h => thn (hi.run pins s σ H _ I h) fun iv s1 ⟨y, H1, I1, ry, q1⟩ => thn (ho.run pins s1 σ H1 _ I1 q1) fun u s2 ⟨x, H2, I2, rx, a, ov, ex, g, q2⟩ => ?_⟩
  subst ex
  obtain rfl : u = Value.ref a := rx
  exact t_in hu I2 g ry fun s3 I3 => ⟨.bl ov.isSome, H2, I3, rfl, q2⟩
theorem ps_tput {o i value : Expr} {pos pos' : Pos} {td ty tv : TE} (hu : X.A.units + 1 < cLine) (ho : PE X o td) (hi : PE X i ty) (hv : PE X value tv) (hs : swapsWith value (some (.Subscript o i pos')) pos.line X.env = pure false) (hP : X.prog = P := by rfl) (hw : X.w = w := by rfl) (hK : X.K = K := by rfl) :
    PS X (.Assign [.Subscript o i pos'] value pos) (sPutT P w K td ty tv) := by
  subst hP hw hK
  refine ⟨fun pins s σ H D I h => wpAny_Assign_Subscript (thn (hv.run pins s σ H _ I h) fun r s1 ⟨v, H1, I1, rv, q1⟩ => thn (ho.run pins s1 σ H1 _ I1 q1) fun u s2 ⟨x, H2, I2, rx, q2⟩ => thn (hi.run pins s2 σ H2 _ I2 q2) fun iv s3 ⟨y, H3, I3, ry, a, ex, g⟩ => ?_) hs⟩
  subst ex
  obtain rfl : u = Value.ref a := rx
  exact t_set hu I3 g ry rv fun H4 s4 I4 q4 => ⟨σ, H4, I4, q4⟩
theorem pe_tget1 {o e : Expr} {apos cpos : Pos} {td ty : TE} (hu : X.A.units + 1 < cLine) (ho : PE X o td) (he : PE X e ty) (m : M1 X o "get" apos e cpos) (hP : X.prog = P := by rfl) (hw : X.w = w := by rfl) (hK : X.K = K := by rfl) :
    PE X (.Call (.Attribute o "get" apos) [e] [] cpos) (fun σ H Q => td σ H fun x H1 => ∃ a es, x = .ref a ∧ Rd H1 a (TO P w a es) ∧ (∃ kvs, Paired (KeyR K H1) kvs es) ∧ ty σ H1 fun y H2 => ∃ o, TGet P w K H2 a y o ∧ Q (o.getD .non) H2) := by
  subst hP hw hK
  refine ⟨fun pins s σ H Q I h => wpAny_Call_method m.base m.few m.line PySem.F.plainAttrs_dict PySem.F.slot_dict_get PySem.F.type_dict_get (thn (ho.run pins s σ H _ I h) fun u s1 ⟨x, H1, I1, rx, a, es, ex, rd, ⟨kvs, kr⟩, q1⟩ => ?_)⟩
  subst ex
  obtain rfl : u = Value.ref a := rx
  obtain ⟨_, _, ys, _, dd⟩ := opened I1 rd kr
  refine ⟨dd.typeIs, fun b z => ?_, ?_⟩
  · cases z
    obtain ⟨ob, _, _, h1, h2, _⟩ := dd
    exact ⟨ob, h1, h2.2.1⟩
  · rw [m.trees]
    refine Calls.callWith_builtin rfl (Calls.evalArgs_plain (Calls.spliced_cons (thn (he.run pins s1 σ H1 _ I1 q1) fun iv s2 ⟨y, H2, I2, ry, ov, g, q2⟩ => Calls.spliced_nil ?_)))
    exact t_get1 hu I2 g ry fun w' s3 I3 rw' => ⟨_, H2, I3, rw', q2⟩
end
/-! the keys of the locked dict, one after the other -/
def Itw (P : Program) (w : World) (d : Addr) (ob : Obj) (es : List Ent) : It :=
  ⟨fun i H => H d = some (.frz ob (TO P w d es)) ∧ i < es.length, fun i H x H' => H' = H ∧ ∃ e, es[i]? = some e ∧ x = .ref e.2.1, fun i H => H d = some (.frz ob (TO P w d es)) ∧ es.length ≤ i⟩
def YKey (es : List Ent) : Nat → Hp → V → Hp → Prop := fun i H x H' => H' = H ∧ ∃ e, es[i]? = some e ∧ x = .ref e.2.1
theorem walk_Itw {P : Program} {w : World} {d : Addr} {ob : Obj} {es : List Ent} : Walk (Itw P w d ob es) es.length (fun H => H d = some (.frz ob (TO P w d es))) (YKey es) :=
  ⟨fun _ _ hi q => ⟨q, hi⟩, fun _ q => ⟨q, Nat.le_refl _⟩, fun _ _ _ _ _ _ y => y⟩
section
variable {X : Cx} {pins : List (Addr × Obj)} {σ : L2.St} {H : Hp} {s : Shared} {d : Addr} {ob : Obj} {es : List Ent}
theorem locked (I : Inv X pins σ H s) (e : H d = some (.frz ob (TO X.prog X.w d es))) : (d == sysModules) = false ∧ s.heap.get? d = some ob ∧ ob.ExactDict ∧ ∃ (ds : Array DictEntry) (n : Nat), ob.data = .dict ds n ∧ ds.size = es.length ∧
    ∀ (i : Nat) (x : Ent), es[i]? = some x → ∃ en : DictEntry, ds[i]? = some en ∧ en.key = .ref x.2.1 := by
  obtain ⟨g, ⟨z, hd, ys, q, o2, ds, n, e1, e2, e3, e4, e5⟩, _⟩ := (show s.heap.get? d = some ob ∧ ObjOk X.prog X.w H s.heap d (TO X.prog X.w d es) from I.hok d _ e)
  rw [g] at e1
  cases e1
  have l := Paired.length q
  have l2 : ds.size = ys.length := size_of_entries e4
  refine ⟨hd, g, e2, ds, n, e3, by omega, fun i x hx => ?_⟩
  obtain ⟨b, hb, _, r2, _⟩ := paired_get q hx
  have t := entry_at e4 i
  rw [hb] at t
  exact ⟨_, t, by rw [r2]; rfl⟩
end
section
variable {P : Program} {w : World} {K : PySem.W.Frag} {tg : Expr} {d : Addr} {ob : Obj} {ds : Array DictEntry} {n : Nat} {es : List Ent}
theorem turn_w (it : Addr) (hod : ob.data = .dict ds n) : Turn P w K tg (Itw P w d ob es) [it] it (fun i h => h.IsKeyIter it d i es.length n) where
  mem := by simp
  obj := fun i h st b hb => by
    obtain rfl : b = it := by simpa using hb
    obtain ⟨oi, e, _, dd⟩ := st
    exact ⟨oi, e, fun v z => by rw [dd] at z; cases z⟩
  keep := fun i h h' st keep => st.at fun oi e => keep it (by simp) oi e
  item := by
    intro X hP hw hK hc i pins s σ H E I hf st hg
    subst hP hw hK
    obtain ⟨hd, hi⟩ := hg
    obtain ⟨f0, f1, f2, f3, f4, f5⟩ := hf it (by simp)
    obtain ⟨_, hgd, _, ds', n', hdt, hsz, ent⟩ := locked I hd
    obtain ⟨rfl, rfl⟩ := dict_ep hod hdt
    have hx : es[i]? = some es[i] := List.getElem?_eq_getElem hi
    obtain ⟨en, hen, hkey⟩ := ent i _ hx
    refine next_key_item st hgd hdt hsz hen fun hp2 st2 sb => ?_
    have J : Inv X pins σ H { s with heap := hp2 } := I.turned (t' := s.toks) (fun b o2 hb e => (sb.2 b hb).trans e) f0 f1 f3 f4 f5
    obtain ⟨oi, e, c, dd⟩ := id st2
    exact ⟨en.key, rfl, go_of (s := { s with heap := hp2 }) e c dd (by decide) ⟨.ref es[i].2.1, H, J, hkey, ⟨rfl, es[i], hx, rfl⟩, st2, fun b hb => (hf b hb).1⟩⟩
  done := by
    intro X hP hw hK hc i pins s σ H E I hf st hg
    subst hP hw hK
    obtain ⟨hd, hi⟩ := hg
    obtain ⟨f0, f1, f2, f3, f4, f5⟩ := hf it (by simp)
    obtain ⟨_, hgd, _, ds', n', hdt, hsz, _⟩ := locked I hd
    obtain ⟨rfl, rfl⟩ := dict_ep hod hdt
    exact next_key_end (I.ok.hd hc) st hgd hdt hsz hi fun hp2 eb => ⟨rfl, I.turned (t' := s.toks) (fun b o2 hb e => eb b o2 hb e) f0 f1 f3 f4 f5⟩
  self := fun A i s Q E st h => by
    refine wpAny_pyIter_slot st.typeIs F.slot_dict_keyiterator_iter (wpAny_call_entry F.slot_dict_keyiterator_iter st.typeIs F.entry_dict_keyiterator_iter ?_ (F.args_dict_keyiterator_iter_1 _))
    show wpAny _ _ (ret (.ref it)) _ _ s
    exact wpAny_pure ⟨_, rfl, "dict_keyiterator", _, st.typeIs, F.slot_dict_keyiterator_next.lookup, h⟩
def iKeysT (P : Program) (w : World) (td : TE) : TI := fun σ H R => td σ H fun x H1 => ∃ d ob es, x = .ref d ∧ H1 d = some (.frz ob (TO P w d es)) ∧ R (Itw P w d ob es) H1
theorem pi_tkeys {X : Cx} {e : Expr} {td : TE} (P : Program) (w : World) (he : PE X e td) (hP : X.prog = P := by rfl) (hw : X.w = w := by rfl) : PI X tg e (iKeysT P w td) := by
  subst hP hw
  refine ⟨fun pins s σ H R I h => thn (he.run pins s σ H _ I h) fun u s1 ⟨x, H1, I1, rx, d, o, es, ex, hd, q⟩ => ?_⟩
  subst ex
  obtain rfl : u = Value.ref d := rx
  obtain ⟨hs, hgd, hx, ds, n, hdt, hsz, _⟩ := locked I1 hd
  refine iter_keys hs hgd hx hdt (pi_one (tk := s1.toks) I1 _ (turn_w _ hdt) ⟨_, Heap.get?_push_size _ rfl, rfl, ?_⟩ q)
  rw [hsz] <;> rfl
/-- the dict has just been made: it is locked from here on -/
def iKeysL (P : Program) (w : World) (td : TE) : TI := fun σ H R => td σ H fun x H1 => ∃ d es, x = .ref d ∧ H1 d = some (TO P w d es) ∧ ∀ ob, R (Itw P w d ob es) (upd H1 d (.frz ob (TO P w d es)))
theorem pi_tkeysL {X : Cx} {e : Expr} {td : TE} (P : Program) (w : World) (he : PE X e td) (hP : X.prog = P := by rfl) (hw : X.w = w := by rfl) : PI X tg e (iKeysL P w td) := by
  subst hP hw
  refine ⟨fun pins s σ H R I h => thn (he.run pins s σ H _ I h) fun u s1 ⟨x, H1, I1, rx, d, es, ex, hd, q⟩ => ?_⟩
  subst ex
  obtain rfl : u = Value.ref d := rx
  obtain ⟨o, I2⟩ := I1.lock hd True.intro
  obtain ⟨hs, hgd, hx, ds, n, hdt, hsz, _⟩ := locked I2 upd_same
  refine iter_keys hs hgd hx hdt (pi_one (tk := s1.toks) I2 _ (turn_w _ hdt) ⟨_, Heap.get?_push_size _ rfl, rfl, ?_⟩ (q o))
  rw [hsz] <;> rfl
end
end Tk

/-! a dict comprehension whose keys are tuples; a display of such -/
namespace Tk
open PySem PySem.Spec PyProof.Rows L2
/-- one turn's end: the entry goes in -/
def Puts (P : Program) (w : World) (K : PySem.W.Frag) (D : Addr) (tt : TT) (tk tv : TE) (N : Hp → Prop) (σ2 : L2.St) (H2 : Hp) : Prop :=
  tt σ2 H2 fun b H3 => if b = true then tk σ2 H3 fun y H4 => tv σ2 H4 fun z H5 => TPut P w K H5 D y z N else N H3
theorem puts_yes {P : Program} {w : World} {K : PySem.W.Frag} {D : Addr} {tk tv : TE} {N : Hp → Prop} {σ2 : L2.St} {H2 : Hp} (h : tk σ2 H2 fun y H4 => tv σ2 H4 fun z H5 => TPut P w K H5 D y z N) : Puts P w K D tYes tk tv N σ2 H2 := by
  unfold Puts tYes
  show (if true = true then _ else _)
  rw [if_pos rfl]
  exact h
def tDcT (P : Program) (w : World) (K : PySem.W.Frag) (wi : TI) (g : TG) (tt : TT) (tk tv : TE) (vs : List Nat) : TE := fun σ H Q => wi σ H fun J H1 => ∀ D, H1 D = none → ∃ W : Nat → Nat → Hp → Prop, (∃ m, W 0 m (upd H1 D (TO P w D []))) ∧
  ∀ i m H, W i m H → (J.stop i H ∧ Q (.ref D) H) ∨ (J.go i H ∧ ∃ N : Hp → Prop, (∀ H', N H' → ∃ m', m' < m ∧ W (i + 1) m' H') ∧ ∀ x H', J.yld i H x H' → g x (wipe σ vs) H' fun σ2 H2 => wipe σ2 vs = wipe σ vs ∧ Puts P w K D tt tk tv N σ2 H2)
section
variable {X : Cx}
theorem dcT_core {pins : List (Addr × Obj)} {s : Shared} {σ : L2.St} {H : Hp} {Q : VK} {kx vx tg iter : Expr} {ifs : List Expr} {scope : Scope} {own : List (Str × Nat)} {pos p2 : Pos} {wi : TI} {g : TG} {tt : TT} {tk tv : TE} {use : Option (Value → Sem Unit)} {Qf : Value → Shared → Prop}
    (hu : X.A.units + 1 < cLine) (hc : X.calm = true) (hN : X.N.Nodup) (I : Inv X pins σ H s) (hi : PI X tg iter wi) (ok : BlkOk X.N X.env.scope scope own)
    (hg : ∀ (sh : Shared) (hh : Hp) (C : Addr) (cl : List (Str × Addr)) (fp : List Addr), PG (X.blk sh hh scope (compEnvC scope cl C X.env) fp) tg g)
    (ht : ∀ (sh : Shared) (hh : Hp) (C : Addr) (cl : List (Str × Addr)) (fp : List Addr), PTs (X.blk sh hh scope (compEnvC scope cl C X.env) fp) ifs tt)
    (hk : ∀ (sh : Shared) (hh : Hp) (C : Addr) (cl : List (Str × Addr)) (fp : List Addr), PE (X.blk sh hh scope (compEnvC scope cl C X.env) fp) kx tk)
    (he : ∀ (sh : Shared) (hh : Hp) (C : Addr) (cl : List (Str × Addr)) (fp : List Addr), PE (X.blk sh hh scope (compEnvC scope cl C X.env) fp) vx tv) (hs : ∀ x, foldedSetIterable iter X.env x = pure x)
    (h : tDcT X.prog X.w X.K wi g tt tk tv (own.map (·.2)) σ H Q)
    (fin : ∀ D C st m H', Inv X pins σ H' st → Q (.ref D) H' → st.heap.Ns C m → FpOk X pins H' C → compPost (model X.prog X.w) X.A X.xe use Qf (.ref D) C (.ok .next) st) :
    wpAny (model X.prog X.w) X.A (comprehension (.DictComp kx vx [⟨tg, iter, ifs, 0⟩] scope pos) scope X.env p2 newDict false (eval iter X.env) use) Qf X.xe s := by
  have free : ∀ y ∈ scope.names, y.2 = .free → ∃ c, X.env.cells.lookup y.1 = some c := fun y hy e => by
    rcases ok.free y hy e with z | z
    · exact I.ok.has _ (.inl z)
    · exact I.ok.has _ (.inr z)
  refine wpAny_comprehension_free (use := use) rfl hs (closure_ok free) ok.kind (fun y hy e => by rw [ok.uniq y hy, e])
    (thn (hi.run pins s σ H _ I h) fun xv s1 hx => thn hx fun itv s2 hy => ?_)
  obtain ⟨it, fp, tn, J, H2, e, I2, T, st2, f2, q⟩ := hy
  subst e
  refine wpAny_newObj_type (newEnv_comp ?_)
  generalize hD : s2.heap.objs.size = D
  obtain ⟨W, ⟨m0, w0⟩, turn⟩ := q D (I2.hok.fresh (Nat.le_of_eq hD))
  -- the new dict is laid
  generalize es3 : ({ s2 with heap := s2.heap.push { cls := .type "dict", data := .dict #[] } } : Shared) = s3
  have I3 : Inv X pins σ (upd H2 D (TO X.prog X.w D [])) s3 := by
    rw [← es3]
    refine I2.laid (t' := s2.toks) (fun b o e => Heap.get?_push_of_some _ e) (Nat.le_of_eq hD) ?_
    rw [← hD]
    exact new_ok s2.heap I2.big
  have eh3 : s3.heap = s2.heap.push { cls := .type "dict", data := .dict #[] } := by rw [← es3]
  have below : ∀ b ∈ fp, b < s2.heap.objs.size := fun b hb => by
    obtain ⟨o, e, _⟩ := T.obj _ _ st2 b hb
    exact Heap.lt_size e
  have f3 : ∀ b ∈ fp, FpOk X pins (upd H2 D (TO X.prog X.w D [])) b ∧ b < s3.heap.objs.size := fun b hb => by
    have lt := below b hb
    refine ⟨⟨?_, (f2 b hb).2⟩, by rw [eh3, Heap.size_push]; exact Nat.lt_succ_of_lt lt⟩
    rw [upd_ne (by rw [← hD]; exact Nat.ne_of_lt lt)]
    exact (f2 b hb).1
  have st3 : tn 0 s3.heap := T.keep _ _ _ st2 fun b _ o e => by rw [eh3]; exact Heap.get?_push_of_some _ e
  have I4 := block_start I3 ok hN f3
  have rg := hg s3 (upd H2 D (TO X.prog X.w D [])) s3.heap.objs.size (cellsFrom (s3.heap.objs.size + 1) scope.names (cloFrom X.env.cells scope.names [])) fp
  have rt := ht s3 (upd H2 D (TO X.prog X.w D [])) s3.heap.objs.size (cellsFrom (s3.heap.objs.size + 1) scope.names (cloFrom X.env.cells scope.names [])) fp
  have rk := hk s3 (upd H2 D (TO X.prog X.w D [])) s3.heap.objs.size (cellsFrom (s3.heap.objs.size + 1) scope.names (cloFrom X.env.cells scope.names [])) fp
  have rv := he s3 (upd H2 D (TO X.prog X.w D [])) s3.heap.objs.size (cellsFrom (s3.heap.objs.size + 1) scope.names (cloFrom X.env.cells scope.names [])) fp
  show codeAny _ _ (.compStart (.DictComp kx vx [⟨tg, iter, ifs, 0⟩] scope pos) 0 (.ref it) (.ref D) (compEnvC scope (cellsFrom (s3.heap.objs.size + 1) scope.names (cloFrom X.env.cells scope.names [])) s3.heap.objs.size X.env))
    (compPost (model X.prog X.w) X.A X.xe use Qf (.ref D) s3.heap.objs.size) { s3 with heap := pushCells (s3.heap.push { cls := .type "dict", data := .dict #[] }) scope.names }
  have none3 : ∀ b ∈ fp, (upd H2 D (TO X.prog X.w D [])) b = none := fun b hb => (f3 b hb).1.1
  generalize ece : compEnvC scope (cellsFrom (s3.heap.objs.size + 1) scope.names (cloFrom X.env.cells scope.names [])) s3.heap.objs.size X.env = ce at I4 rg rt rk rv ⊢
  have locs : ce.locals = s3.heap.objs.size := by subst ece; rfl
  generalize eH3 : upd H2 D (TO X.prog X.w D []) = H3 at I3 I4 rg rt rk rv w0 none3 f3
  generalize es4 : ({ s3 with heap := pushCells (s3.heap.push { cls := .type "dict", data := .dict #[] }) scope.names } : Shared) = s4 at I4 ⊢
  have st4 : tn 0 s4.heap := T.keep _ _ _ st3 fun b _ o e => by rw [← es4]; exact pushCells_keeps _ _ _ _ (Heap.get?_push_of_some _ e)
  have here : ∀ {σ' : L2.St} {H' : Hp} {s' : Shared}, Inv (X.blk s3 H3 scope ce fp) [] σ' H' s' → (∀ b ∈ fp, H' b = none) → ∀ b ∈ fp, FpOk (X.blk s3 H3 scope ce fp) [] H' b := fun {σ' H' s'} J' hn b hb =>
    ⟨hn b hb, (J'.ok.exf b hb).1, J'.ok.exfs b hb, .inl hb, fun x c e => (J'.ok.exf b hb).2 x c e, fun p hp => absurd (show p ∈ ([] : List (Addr × Obj)) ++ [] from hp) (by simp)⟩
  have loop : codeAny (model X.prog X.w) X.A (.compLoop (.DictComp kx vx [⟨tg, iter, ifs, 0⟩] scope pos) 0 (.ref it) (.ref D) ce) (compPost (model X.prog X.w) X.A X.xe use Qf (.ref D) s3.heap.objs.size) s4 := by
    refine compLoop_anyD (fun n s' => ∃ i H', Inv (X.blk s3 H3 scope ce fp) [] (wipe σ (own.map (·.2))) H' s' ∧ tn i s'.heap ∧ (∀ b ∈ fp, H' b = none) ∧ W i n H') ?_ m0 ⟨0, H3, I4, st4, none3, w0⟩
    rintro n s5 ⟨i, H5, I5, st5, n5, w5⟩
    rcases turn i n H5 w5 with ⟨stop, qq⟩ | ⟨go, N, hN', step⟩
    · refine thnF (T.done (X.blk s3 H3 scope ce fp) rfl rfl rfl hc i [] s5 _ H5 (fun _ _ => False) I5 (here I5 n5) st5 stop) fun r s6 ⟨hr, I6⟩ => ?_
      subst hr
      have I7 : Inv X pins σ H5 s6 := I3.call' (ch := fp) I6.os I6.base I6.hok I6.bare fun b hb => ⟨(f3 b hb).1.2.2.2.1, (f3 b hb).1.2.1, (f3 b hb).1.2.2.2.2.1, (f3 b hb).1.2.2.2.2.2⟩
      have nC : H5 s3.heap.objs.size = none := by
        rw [← locs]
        exact I6.free
      obtain ⟨m, hm, _⟩ := I6.loc
      have hm2 : s6.heap.Ns ce.locals m := hm
      rw [locs] at hm2
      exact fin D s3.heap.objs.size s6 m H5 I7 qq hm2 (I3.fpOk (Nat.le_refl _) nC)
    · refine thnF (T.item (X.blk s3 H3 scope ce fp) rfl rfl rfl hc i [] s5 _ H5 (fun _ _ => False) I5 (here I5 n5) st5 go) fun r s6 ⟨u, hr, h6⟩ => ?_
      subst hr
      refine thnF h6 fun _ s7 ⟨x, H7, I7, r7, y7, st7, n7⟩ => ?_
      refine thnF (rg.run _ s7 _ H7 x u _ (I7.pinned (here I7 n7) (T.obj _ _ st7)) r7 (step x H7 y7)) fun _ s8 ⟨σ8, H8, I8, hw8, q8⟩ => ?_
      refine thnF (rt.run _ s8 σ8 H8 _ I8 q8) fun b s9 ⟨H9, I9, q9⟩ => ?_
      have done : ∀ {s' : Shared} {H' : Hp}, Inv (X.blk s3 H3 scope ce fp) ([] ++ pinsAt fp s7.heap) σ8 H' s' → N H' → ∃ m, m < n ∧ ∃ i H', Inv (X.blk s3 H3 scope ce fp) [] (wipe σ (own.map (·.2))) H' s' ∧ tn i s'.heap ∧ (∀ b ∈ fp, H' b = none) ∧ W i m H' := fun {s' H'} I' nx => by
        obtain ⟨m', hm, w'⟩ := hN' H' nx
        have pin : ∀ b ∈ fp, ∀ o, s7.heap.get? b = some o → s'.heap.get? b = some o ∧ H' b = none := fun b hb o e =>
          let z := I'.pin (b, o) (List.mem_append_right _ (List.mem_append_right _ (mem_pinsAt hb e)))
          ⟨z.1, z.2.1⟩
        have hl : (wipe σ (own.map (·.2))).length = σ8.length := by rw [← hw8, wipe_length]
        refine ⟨m', hm, i + 1, H', (I'.unpinned (pins := [])).weak hl (fun j v e => ?_), T.keep _ _ _ st7 fun b hb o e => (pin b hb o e).1, fun b hb => ?_, w'⟩
        · rw [← hw8] at e
          exact (wipe_some e).1
        · obtain ⟨o, e, _⟩ := T.obj _ _ st7 b hb
          exact (pin b hb o e).2
      cases b with
      | false =>
        simp only [Bool.false_eq_true, if_false] at q9 ⊢
        exact done I9 q9
      | true =>
        simp only [if_true] at q9 ⊢
        refine thnF (rk.run _ s9 σ8 H9 _ I9 q9) fun z s10 ⟨yk, H10, I10, r10, q10⟩ => ?_
        refine thnF (rv.run _ s10 σ8 H10 _ I10 q10) fun z2 s11 ⟨yv, H11, I11, r11, pt⟩ => ?_
        exact t_dictSet (X := X.blk s3 H3 scope ce fp) hu I11 pt r10 r11 fun H12 s12 I12 nx => done I12 nx
  exact codeAny_compStart_dict loop (T.self X.A 0 _ _ _ st4 loop)
theorem pe_tdc (P : Program) (w : World) (K : PySem.W.Frag) {kx vx tg iter : Expr} {ifs : List Expr} {scope : Scope} {own : List (Str × Nat)} {pos : Pos} {wi : TI} {g : TG} {tt : TT} {tk tv : TE} (hu : X.A.units + 1 < cLine) (hc : X.calm = true) (hN : X.N.Nodup) (hi : PI X tg iter wi) (ok : BlkOk X.N X.env.scope scope own)
    (hg : ∀ (sh : Shared) (hh : Hp) (C : Addr) (cl : List (Str × Addr)) (fp : List Addr), PG (X.blk sh hh scope (compEnvC scope cl C X.env) fp) tg g)
    (ht : ∀ (sh : Shared) (hh : Hp) (C : Addr) (cl : List (Str × Addr)) (fp : List Addr), PTs (X.blk sh hh scope (compEnvC scope cl C X.env) fp) ifs tt)
    (hk : ∀ (sh : Shared) (hh : Hp) (C : Addr) (cl : List (Str × Addr)) (fp : List Addr), PE (X.blk sh hh scope (compEnvC scope cl C X.env) fp) kx tk)
    (he : ∀ (sh : Shared) (hh : Hp) (C : Addr) (cl : List (Str × Addr)) (fp : List Addr), PE (X.blk sh hh scope (compEnvC scope cl C X.env) fp) vx tv) (hs : ∀ x, foldedSetIterable iter X.env x = pure x := by intro _; rfl)
    (hP : X.prog = P := by rfl) (hw : X.w = w := by rfl) (hK : X.K = K := by rfl) : PE X (.DictComp kx vx [⟨tg, iter, ifs, 0⟩] scope pos) (tDcT P w K wi g tt tk tv (own.map (·.2))) := by
  subst hP hw hK
  refine ⟨fun pins s σ H Q I h => ?_⟩
  rw [arm_eval_DictComp]
  refine dcT_core hu hc hN I hi ok hg ht hk he hs h fun D C st m H' I' q hn f => ⟨m, hn, fun h2 sb => ?_⟩
  obtain ⟨f0, f1, f2, f3, f4, f5⟩ := f
  exact ⟨.ref D, H', I'.turned (t' := st.toks) (fun b o hb e => (sb.2 b hb).trans e) f0 f1 f3 f4 f5, rfl, q⟩
/-- name = {..} on one line, the name a local -/
theorem ps_setDcT (P : Program) (w : World) (K : PySem.W.Frag) {i : Nat} {y : Str} {py : Pos} {kx vx tg iter : Expr} {ifs : List Expr} {scope : Scope} {own : List (Str × Nat)} {pos sp : Pos} {wi : TI} {g : TG} {tt : TT} {tk tv : TE} (hu : X.A.units + 1 < cLine) (hc : X.calm = true) (hN : X.N.Nodup) (hy : X.N[i]? = some y) (hyl : X.env.scope.names.lookup y = some .local)
    (sw : swapsWith (.DictComp kx vx [⟨tg, iter, ifs, 0⟩] scope pos) (some (.Name y py)) sp.line X.env = pure true) (hi : PI X tg iter wi) (ok : BlkOk X.N X.env.scope scope own)
    (hg : ∀ (sh : Shared) (hh : Hp) (C : Addr) (cl : List (Str × Addr)) (fp : List Addr), PG (X.blk sh hh scope (compEnvC scope cl C X.env) fp) tg g)
    (ht : ∀ (sh : Shared) (hh : Hp) (C : Addr) (cl : List (Str × Addr)) (fp : List Addr), PTs (X.blk sh hh scope (compEnvC scope cl C X.env) fp) ifs tt)
    (hk : ∀ (sh : Shared) (hh : Hp) (C : Addr) (cl : List (Str × Addr)) (fp : List Addr), PE (X.blk sh hh scope (compEnvC scope cl C X.env) fp) kx tk)
    (he : ∀ (sh : Shared) (hh : Hp) (C : Addr) (cl : List (Str × Addr)) (fp : List Addr), PE (X.blk sh hh scope (compEnvC scope cl C X.env) fp) vx tv) (hs : ∀ x, foldedSetIterable iter X.env x = pure x := by intro _; rfl)
    (hP : X.prog = P := by rfl) (hw : X.w = w := by rfl) (hK : X.K = K := by rfl) : PS X (.Assign [.Name y py] (.DictComp kx vx [⟨tg, iter, ifs, 0⟩] scope pos) sp) (tAsg (tDcT P w K wi g tt tk tv (own.map (·.2))) (gName i)) := by
  subst hP hw hK
  refine ⟨fun pins s σ H D I h => ?_⟩
  rw [exec_Assign_Name_used _ _ _ _ sw]
  refine wpAny_bind (wpAny_standAt (wpAny_bind ?_))
  show wpAny _ X.A (do let _ ← comprehension (.DictComp kx vx [⟨tg, iter, ifs, 0⟩] scope pos) scope X.env (firstIterPos [⟨tg, iter, ifs, 0⟩] pos) newDict false (eval iter X.env) (some (assign (.Name y py) X.env))) _ _ s
  have h : tDcT X.prog X.w X.K wi g tt tk tv (own.map (·.2)) σ H (fun x H1 => gName i x σ H1 D.nx) := h
  refine wpAny_bind (thn (dcT_core (Qf := fun _ z => SP X pins D .next z) hu hc hN I hi ok hg ht hk he hs h fun L C st m H' I' q hn f => ?_) fun _ z hq => wpAny_pure (wpAny_pure hq))
  show wpAny _ _ (assign (.Name y py) X.env (.ref L)) _ _ _
  refine wpAny_assign_Name (store_ok2 (v := V.ref L) I' hN hy (.inl hyl) rfl (fun s2 I2 ⟨a, sb, ha⟩ => ?_) (.inr hyl))
  obtain ⟨f0, f1, f2, f3, f4, f5⟩ := f
  have ne : C ≠ a := by
    rcases ha with z | z
    · rw [z]
      exact f1
    · exact fun e => f4 y a z e.symm
  refine ⟨m, hn.sameBut sb ne, fun h3 sb3 => ?_⟩
  exact ⟨_, H', I2.turned (t' := s2.toks) (fun b o hb e => (sb3.2 b hb).trans e) f0 f1 f3 f4 f5, q⟩
theorem sw_trueD {kx vx : Expr} {gs : List Comprehension} {scope : Scope} {pos py : Pos} {y : Str} {l : Nat} {env : Env} (hk : env.scope.kind = .function) (hy : env.scope.names.lookup y = some .local) (hl : (py.line == pos.line) = true)
    (ha : (scope.names.any fun (n, k) => n == y && (k == .local || k == .cell)) = false) : swapsWith (.DictComp kx vx gs scope pos) (some (.Name y py)) l env = pure true := by
  have ky : env.kindOf y = some .local := hy
  have hb : env.blockKind = .function := by
    unfold Env.blockKind
    rw [hk]
    rfl
  unfold swapsWith
  simp only [hb, ky, ha, Expr.pos, hl]
  rfl
/-- .. by an invariant over a walk -/
theorem dc_w {P : Program} {w : World} {K : PySem.W.Frag} {J : It} {n : Nat} {G : Hp → Prop} {Y : Nat → Hp → V → Hp → Prop} (wk : Walk J n G Y) {g : TG} {tt : TT} {tk tv : TE} {vs : List Nat} {σ : L2.St} {H1 : Hp} {D : Addr} {Qd : Hp → Prop} (Pv : Nat → Hp → Prop) (h0 : Pv 0 (upd H1 D (TO P w D []))) (hG : ∀ i H, i ≤ n → Pv i H → G H)
    (hs : ∀ i x H H', i < n → Pv i H → Y i H x H' → g x (wipe σ vs) H' fun σ2 H2 => wipe σ2 vs = wipe σ vs ∧ Puts P w K D tt tk tv (Pv (i + 1)) σ2 H2) (hd : ∀ H, Pv n H → Qd H) :
    ∃ W : Nat → Nat → Hp → Prop, (∃ m, W 0 m (upd H1 D (TO P w D []))) ∧ ∀ i m H, W i m H →
      (J.stop i H ∧ Qd H) ∨ (J.go i H ∧ ∃ N : Hp → Prop, (∀ H', N H' → ∃ m', m' < m ∧ W (i + 1) m' H') ∧ ∀ x H', J.yld i H x H' → g x (wipe σ vs) H' fun σ2 H2 => wipe σ2 vs = wipe σ vs ∧ Puts P w K D tt tk tv N σ2 H2) := by
  refine ⟨fun i m H => m = n - i ∧ i ≤ n ∧ Pv i H, ⟨n, by simp, Nat.zero_le _, h0⟩, ?_⟩
  rintro i m H ⟨rfl, hi, p⟩
  by_cases lt : i < n
  · exact .inr ⟨wk.goes i H lt (hG i H hi p), Pv (i + 1), fun H' p' => ⟨n - (i + 1), by omega, rfl, lt, p'⟩, fun x H' y => hs i x H H' lt p (wk.yields i H x H' lt (hG i H hi p) y)⟩
  · obtain rfl : i = n := by omega
    exact .inl ⟨wk.stops H (hG i H hi p), hd H p⟩
end
end Tk

namespace Tk
open PySem PySem.Spec PyProof.Rows L2
/-- the pairs of a display go in, one after the other -/
def PutAll (P : Program) (w : World) (K : PySem.W.Frag) (a : Addr) : List (V × V) → (Hp → Prop) → Hp → Prop
  | [], N, H => N H
  | (x, y) :: r, N, H => TPut P w K H a x y (PutAll P w K a r N)
def tDispT (P : Program) (w : World) (K : PySem.W.Frag) (trs : List (TE × TE)) : TE := fun σ H Q => ∀ p, H p = none → tPairs trs σ (upd H p (TO P w p [])) fun ps H2 => PutAll P w K p ps (Q (.ref p)) H2
section
variable {X : Cx} {pins : List (Addr × Obj)} {σ : L2.St} {E : Value → Shared → Prop} {a : Addr}
theorem put_all (hu : X.A.units + 1 < cLine) {Q : Unit → Shared → Prop} {ps : List (V × V)} {vs : List (Value × Value)} (rel : VV ps vs) : ∀ {H : Hp} {s : Shared} {N : Hp → Prop}, Inv X pins σ H s → PutAll X.prog X.w X.K a ps N H → (∀ H' s', Inv X pins σ H' s' → N H' → Q () s') →
    wpAny (model X.prog X.w) X.A (storeAll a vs) Q E s := by
  unfold storeAll
  induction rel with
  | nil =>
    intro H s N I n hq
    rw [List.forIn_nil]
    exact wpAny_pure (hq H s I n)
  | @cons p q ps qs h t ih =>
    intro H s N I n hq
    rw [List.forIn_cons]
    have n2 : TPut X.prog X.w X.K H a p.1 p.2 (PutAll X.prog X.w X.K a ps N) := n
    refine wpAny_bind (wpAny_bind (t_dictSet (N := PutAll X.prog X.w X.K a ps N) hu I n2 h.1 h.2 fun H1 s1 I1 n1 => wpAny_pure ?_))
    exact ih I1 n1 hq
theorem pe_tdisp (P : Program) (w : World) (K : PySem.W.Frag) {pos : Pos} {keys : List (Option Expr)} {values : List Expr} {trs : List (TE × TE)} (hu : X.A.units + 1 < cLine) (h : PPs X pos keys values trs) (hall : keys.all (·.isSome) = true) (hl : keys.length = values.length) (h0 : keys ≠ [])
    (h15 : keys.length ≤ 15) (hP : X.prog = P := by rfl) (hw : X.w = w := by rfl) (hK : X.K = K := by rfl) : PE X (.Dict keys values pos) (tDispT P w K trs) := by
  subst hP hw hK
  refine ⟨fun pins s σ H Q I q => ?_⟩
  have n := I.hok.fresh (Nat.le_refl s.heap.objs.size)
  have I1 := I.laid (a := s.heap.objs.size) (o := TO X.prog X.w s.heap.objs.size []) (h' := s.heap.push { cls := .type "dict", data := .dict #[] }) (t' := s.toks) (fun _ _ q => Heap.get?_push_of_some _ q) (Nat.le_refl _) (new_ok s.heap I.big)
  refine wpAny_Dict_any hall hl h0 h15 (thn (h.run pins _ σ _ _ I1 (q _ n)) fun ws s2 ⟨ps, H2, I2, rel, q2⟩ => ?_)
  exact put_all hu rel I2 q2 fun H' s' I' nx => ⟨.ref s.heap.objs.size, H', I', rfl, nx⟩
end
end Tk

namespace Bx
open PySem PySem.Spec PyProof.Rows L2
theorem lay_ints : ∀ is : List Int, PyData.canLayAll0 (is.map PyData.int) = true
  | [] => by simp [PyData.canLayAll0]
  | i :: is => by simp [PyData.canLayAll0, PyData.canLay0, lay_ints is]
theorem dep_ints : ∀ is : List Int, PyData.depthAll (is.map PyData.int) ≤ 1
  | [] => by simp [PyData.depthAll]
  | i :: is => by
    have := dep_ints is
    simp [PyData.depthAll, PyData.depth]
    omega
theorem shaped_ints (is : List Int) : SeqAt.shaped (.list (is.map PyData.int)) = true := by
  unfold SeqAt.shaped
  rw [Bool.and_eq_true, decide_eq_true_eq]
  refine ⟨by simp [PyData.canLay0, lay_ints], ?_⟩
  have := dep_ints is
  simp [PyData.depth]
  omega
theorem lay_strs : ∀ {is : List Str}, (∀ x ∈ is, PyData.strOk x = true) → PyData.canLayAll0 (is.map PyData.str) = true
  | [], _ => by simp [PyData.canLayAll0]
  | i :: is, h => by simp [PyData.canLayAll0, PyData.canLay0, lay_strs fun x hx => h x (List.mem_cons_of_mem _ hx), h i List.mem_cons_self]
theorem dep_strs : ∀ is : List Str, PyData.depthAll (is.map PyData.str) ≤ 1
  | [] => by simp [PyData.depthAll]
  | i :: is => by
    have := dep_strs is
    simp [PyData.depthAll, PyData.depth]
    omega
theorem shaped_strs {is : List Str} (h : ∀ x ∈ is, PyData.strOk x = true) : SeqAt.shaped (.list (is.map PyData.str)) = true := by
  unfold SeqAt.shaped
  rw [Bool.and_eq_true, decide_eq_true_eq]
  refine ⟨by simp [PyData.canLay0, lay_strs h], ?_⟩
  have := dep_strs is
  simp [PyData.depth]
  omega
theorem dp_ints {K : PySem.W.Frag} {H : Hp} : ∀ is : List Int, DpAll K H (is.map V.int) (is.map PyData.int)
  | [] => .nil
  | i :: is => .cons (.int i) (dp_ints is)
theorem dp_strs {K : PySem.W.Frag} {H : Hp} : ∀ is : List Str, DpAll K H (is.map V.str) (is.map PyData.str)
  | [] => .nil
  | i :: is => .cons (.str i) (dp_strs is)
theorem eqv_strs : ∀ {xs ys : List Str}, PyData.eqvAll (xs.map PyData.str) (ys.map PyData.str) = true ↔ xs = ys
  | [], [] => by simp [PyData.eqvAll]
  | [], _ :: _ => by simp [PyData.eqvAll]
  | _ :: _, [] => by simp [PyData.eqvAll]
  | x :: xs, y :: ys => by
    have e := @eqv_strs xs ys
    simp [PyData.eqvAll, PyData.eqv, e]
theorem eqv_ints : ∀ {xs ys : List Int}, PyData.eqvAll (xs.map PyData.int) (ys.map PyData.int) = true ↔ xs = ys
  | [], [] => by simp [PyData.eqvAll]
  | [], _ :: _ => by simp [PyData.eqvAll]
  | _ :: _, [] => by simp [PyData.eqvAll]
  | x :: xs, y :: ys => by
    have e := @eqv_ints xs ys
    simp [PyData.eqvAll, PyData.eqv, e]
theorem But.tupW {K : PySem.W.Frag} {l : Addr} {ws : List V} {H H' : Hp} {a : Addr} {xs : List V} (hw : H l = some (.lst ws)) (e : But l H H') (h : SqT K H a xs) : SqT K H' a xs := by
  rcases h with (h | ⟨o, h⟩) | h
  · exact .inl (.inl (e _ _ h (ne_of h hw (by intro q; cases q))))
  · exact .inl (.inr ⟨o, e _ _ h (ne_of h hw (by intro q; cases q))⟩)
  · exact .inr h
theorem at_lastI {is : List Int} (h : is ≠ []) : ∃ a, a ∈ is ∧ atI (is.map V.int) (-1) = some (.int a) ∧ is[is.length - 1]? = some a := by
  obtain ⟨init, a, rfl⟩ : ∃ init a, is = init ++ [a] := ⟨is.dropLast, is.getLast h, (List.dropLast_concat_getLast h).symm⟩
  refine ⟨a, by simp, ?_, by simp⟩
  rw [List.map_append]
  exact atI_last _ _
theorem flat_ints (is : List Int) : (is.map V.int).all flatV = true := by
  rw [List.all_eq_true]
  intro x hx
  obtain ⟨i, _, rfl⟩ := List.mem_map.mp hx
  rfl
theorem inV_ints {i : Int} {is : List Int} : inV (.int i) (is.map V.int) = decide (i ∈ is) := by
  unfold inV
  rw [Bool.eq_iff_iff, List.any_eq_true, decide_eq_true_eq]
  constructor
  · rintro ⟨x, hx, e⟩
    obtain ⟨j, hj, rfl⟩ := List.mem_map.mp hx
    have : j = i := by simpa [eqV] using e
    exact this ▸ hj
  · intro h
    exact ⟨.int i, List.mem_map_of_mem h, by simp [eqV]⟩
theorem But.mut {l : Addr} {H H' : Hp} {p : Addr} {o : HO} (e : But l H H') (h : H p = Option.none) : But l H (L2.upd H' p o) := fun a u ha n => by
  rw [upd_ne (ne_of_none ha h)]
  exact e a u ha n
theorem But.lst {l : Addr} {H H' : Hp} {a : Addr} {o : HO} (e : But l H H') (h : H a = some o) (n : a ≠ l) : H' a = some o := e a o h n
/-! the same rules by the frame's own K (within a comprehension) -/
section
variable {X : Cx} (K : PySem.W.Frag)
theorem ixLK (h : X.K = K := by rfl) : IxR X (rIxL K) := by subst h; exact ix_list
theorem ixTK (h : X.K = K := by rfl) : IxR X (rIxT K) := by subst h; exact ix_tup
theorem inK (h : X.K = K := by rfl) : OpR X (compareOp .In) (rIn K false) := by subst h; exact op_in_seq
theorem notInK (h : X.K = K := by rfl) : OpR X (compareOp .NotIn) (rIn K true) := by subst h; exact op_notIn_seq
theorem isiK (h : X.K = K := by rfl) : CallR X (.builtin "isinstance") (rIsi K) := by subst h; exact call_isi
theorem lenK (h : X.K = K := by rfl) : CallR X (.builtin "len") (Evl.rLenS K) := by subst h; exact call_len_seq
end
end Bx

namespace Bx
open PySem PySem.Spec PyProof.Rows L2
/-! {k: v for a in A for b in B}: two clauses -/
theorem dcompTurn2_out (kx vx t0 i0 t1 i1 : Expr) (ifs0 ifs1 : List Expr) (scope : Scope) (pos : Pos) (it : Value) (acc : Addr) (env : Env) :
    compTurn (.DictComp kx vx [⟨t0, i0, ifs0, 0⟩, ⟨t1, i1, ifs1, 0⟩] scope pos) 0 it (.ref acc) env = (do
      standAt i0.pos
      match ← pyNext it with
      | none => pure (.done .next)
      | some v =>
        letOwnedTupleGo t0 it v
        assign t0 env v
        let mut ok := true
        for c in ifs0 do
          if ok then ok ← isTrue c env (eval c env)
        if ok then
          let x ← eval i1 env
          standAt i1.pos
          let x ← foldedSetIterable i1 env x
          let _ ← runOwn (.compStart (.DictComp kx vx [⟨t0, i0, ifs0, 0⟩, ⟨t1, i1, ifs1, 0⟩] scope pos) 1 (← holding [x] (pyIter x)) (.ref acc) env) env
        again (.compLoop (.DictComp kx vx [⟨t0, i0, ifs0, 0⟩, ⟨t1, i1, ifs1, 0⟩] scope pos) 0 it (.ref acc) env)) := by rfl
theorem dcompTurn2_in (kx vx t0 i0 t1 i1 : Expr) (ifs0 ifs1 : List Expr) (scope : Scope) (pos : Pos) (it : Value) (acc : Addr) (env : Env) :
    compTurn (.DictComp kx vx [⟨t0, i0, ifs0, 0⟩, ⟨t1, i1, ifs1, 0⟩] scope pos) 1 it (.ref acc) env = (do
      standAt i1.pos
      match ← pyNext it with
      | none => pure (.done .next)
      | some v =>
        letOwnedTupleGo t1 it v
        assign t1 env v
        let mut ok := true
        for c in ifs1 do
          if ok then ok ← isTrue c env (eval c env)
        if ok then
          (do
            let kv ← eval kx env
            let vv ← holding [kv] (eval vx env)
            standAt { kx.pos with endLine := vx.pos.endLine, endCol := vx.pos.endCol }
            holding [kv, vv] (dictSet acc kv vv))
        again (.compLoop (.DictComp kx vx [⟨t0, i0, ifs0, 0⟩, ⟨t1, i1, ifs1, 0⟩] scope pos) 1 it (.ref acc) env)) := by rfl

section
variable {prog : Program} {w : World} {A : Around} {R : Result → Shared → Prop} {s : Shared} {kx vx t0 i0 t1 i1 : Expr} {ifs0 ifs1 : List Expr} {scope : Scope} {pos : Pos} {it : Value} {acc : Addr} {env : Env}
theorem dcompLoop2_out (hs : ∀ x, foldedSetIterable i1 env x = pure x) (I : Nat → Shared → Prop)
    (turn : ∀ n s, I n s → wpAny (model prog w) A (pyNext it) (fun r s₁ => match r with
      | none => R (.ok .next) s₁
      | some v => wpAny (model prog w) A (letOwnedTupleGo t0 it v) (fun _ s₁' => wpAny (model prog w) A (assign t0 env v) (fun _ s₂ =>
          wpAny (model prog w) A (forIn ifs0 true fun c r => if r = true then do let ok ← isTrue c env (eval c env); pure (ForInStep.yield ok) else pure (ForInStep.yield r)) (fun ok s₃ =>
            if ok = true then wpAny (model prog w) A (eval i1 env) (fun x s₄ => wpAny (model prog w) A (pyIter x) (fun it1 s₅ =>
              codeAny (model prog w) A (.compStart (.DictComp kx vx [⟨t0, i0, ifs0, 0⟩, ⟨t1, i1, ifs1, 0⟩] scope pos) 1 it1 (.ref acc) env) (fun r s' => match r with
                | .ok _ => ∃ m, m < n ∧ I m s'
                | .error _ => False) s₅) (notedBy (model prog w) A env fun e s' => R (.error e) s') s₄) (notedBy (model prog w) A env fun e s' => R (.error e) s') s₃
            else ∃ m, m < n ∧ I m s₃) (notedBy (model prog w) A env fun e s' => R (.error e) s') s₂) (notedBy (model prog w) A env fun e s' => R (.error e) s') s₁') (notedBy (model prog w) A env fun e s' => R (.error e) s') s₁) (notedBy (model prog w) A env fun e s' => R (.error e) s') s)
    (n : Nat) (h : I n s) :
    codeAny (model prog w) A (.compLoop (.DictComp kx vx [⟨t0, i0, ifs0, 0⟩, ⟨t1, i1, ifs1, 0⟩] scope pos) 0 it (.ref acc) env) R s := by
  refine codeAny_loop rfl I (fun n s hI => ?_) n h
  show wpAny _ A ((compTurn (.DictComp kx vx [⟨t0, i0, ifs0, 0⟩, ⟨t1, i1, ifs1, 0⟩] scope pos) 0 it (.ref acc) env).onRaise (fun x => do noteFrame x env; theTreesLotGoes x)) _ _ s
  refine wpAny_noted ?_
  rw [dcompTurn2_out]
  refine wpAny_bind (wpAny_standAt (wpAny_bind (wpAny_mono (turn n s hI) (fun r s₁ h₁ => ?_) fun _ _ h' => h')))
  cases r with
  | none => exact wpAny_pure h₁
  | some v =>
    refine wpAny_bind (wpAny_mono h₁ (fun _ s₁' h₁' => ?_) fun _ _ h' => h')
    refine wpAny_bind (wpAny_mono h₁' (fun _ s₂ h₂ => wpAny_bind (wpAny_mono h₂ (fun ok s₃ h₃ => ?_) fun _ _ h' => h')) fun _ _ h' => h')
    cases ok with
    | false => exact wpAny_pure ⟨rfl, h₃⟩
    | true =>
      refine wpAny_bind (wpAny_mono h₃ (fun x s₄ h₄ => ?_) fun _ _ h' => h')
      refine wpAny_bind (wpAny_standAt (wpAny_bind (wpAny_of_eq (hs x) (wpAny_bind (wpAny_holding (wpAny_mono h₄ (fun it1 s₅ h₅ => ?_) fun _ _ h' => h'))))))
      refine wpAny_bind (wpAny_runOwn ?_)
      rw [Around.mark_none]
      refine codeAny_mono h₅ fun r s' hr => ?_
      cases r with
      | ok f =>
        first
          | exact wpAny_pure ⟨rfl, hr⟩
          | exact wpAny_bind (wpAny_pure (wpAny_pure ⟨rfl, hr⟩))
      | error e => exact hr.elim
theorem dcompLoop2_in (I : Nat → Shared → Prop)
    (turn : ∀ n s, I n s → wpAny (model prog w) A (pyNext it) (fun r s₁ => match r with
      | none => R (.ok .next) s₁
      | some v => wpAny (model prog w) A (letOwnedTupleGo t1 it v) (fun _ s₁' => wpAny (model prog w) A (assign t1 env v) (fun _ s₂ =>
          wpAny (model prog w) A (forIn ifs1 true fun c r => if r = true then do let ok ← isTrue c env (eval c env); pure (ForInStep.yield ok) else pure (ForInStep.yield r)) (fun ok s₃ =>
            if ok = true then wpAny (model prog w) A (eval kx env) (fun kv s₄ => wpAny (model prog w) A (eval vx env) (fun vv s₅ =>
              wpAny (model prog w) A (dictSet acc kv vv) (fun _ s₆ => ∃ m, m < n ∧ I m s₆) (notedBy (model prog w) A env fun e s' => R (.error e) s') s₅) (notedBy (model prog w) A env fun e s' => R (.error e) s') s₄) (notedBy (model prog w) A env fun e s' => R (.error e) s') s₃
            else ∃ m, m < n ∧ I m s₃) (notedBy (model prog w) A env fun e s' => R (.error e) s') s₂) (notedBy (model prog w) A env fun e s' => R (.error e) s') s₁') (notedBy (model prog w) A env fun e s' => R (.error e) s') s₁) (notedBy (model prog w) A env fun e s' => R (.error e) s') s)
    (n : Nat) (h : I n s) :
    codeAny (model prog w) A (.compLoop (.DictComp kx vx [⟨t0, i0, ifs0, 0⟩, ⟨t1, i1, ifs1, 0⟩] scope pos) 1 it (.ref acc) env) R s := by
  refine codeAny_loop rfl I (fun n s hI => ?_) n h
  show wpAny _ A ((compTurn (.DictComp kx vx [⟨t0, i0, ifs0, 0⟩, ⟨t1, i1, ifs1, 0⟩] scope pos) 1 it (.ref acc) env).onRaise (fun x => do noteFrame x env; theTreesLotGoes x)) _ _ s
  refine wpAny_noted ?_
  rw [dcompTurn2_in]
  refine wpAny_bind (wpAny_standAt (wpAny_bind (wpAny_mono (turn n s hI) (fun r s₁ h₁ => ?_) fun _ _ h' => h')))
  cases r with
  | none => exact wpAny_pure h₁
  | some v =>
    refine wpAny_bind (wpAny_mono h₁ (fun _ s₁' h₁' => ?_) fun _ _ h' => h')
    refine wpAny_bind (wpAny_mono h₁' (fun _ s₂ h₂ => wpAny_bind (wpAny_mono h₂ (fun ok s₃ h₃ => ?_) fun _ _ h' => h')) fun _ _ h' => h')
    cases ok with
    | false => exact wpAny_pure ⟨rfl, h₃⟩
    | true =>
      exact wpAny_bind (wpAny_bind (wpAny_mono h₃ (fun kv s₄ h₄ => wpAny_bind (wpAny_holding (wpAny_mono h₄ (fun vv s₅ h₅ => wpAny_bind (wpAny_standAt (wpAny_holding (wpAny_mono h₅ (fun _ s₆ h₆ => wpAny_pure ⟨rfl, h₆⟩) fun _ _ h' => h')))) fun _ _ h' => h'))) fun _ _ h' => h'))
theorem dcompStart1_ok (h0 : codeAny (model prog w) A (.compLoop (.DictComp kx vx [⟨t0, i0, ifs0, 0⟩, ⟨t1, i1, ifs1, 0⟩] scope pos) 1 it (.ref acc) env) R s)
    (h : wpAny (model prog w) A (pyIter it) (fun it' s' => codeAny (model prog w) A (.compLoop (.DictComp kx vx [⟨t0, i0, ifs0, 0⟩, ⟨t1, i1, ifs1, 0⟩] scope pos) 1 it' (.ref acc) env) R s')
      (notedBy (model prog w) A env fun x s' => R (.error x) s') s) :
    codeAny (model prog w) A (.compStart (.DictComp kx vx [⟨t0, i0, ifs0, 0⟩, ⟨t1, i1, ifs1, 0⟩] scope pos) 1 it (.ref acc) env) R s := by
  refine codeAny_of_tree ?_
  show wpAny _ _ ((compStart (.DictComp kx vx [⟨t0, i0, ifs0, 0⟩, ⟨t1, i1, ifs1, 0⟩] scope pos) 1 it (.ref acc) env).onRaise (fun x => do noteFrame x env; standAt theWindowsPlace)) _ _ s
  refine wpAny_notedAt ?_
  unfold compStart
  show wpAny _ _ (ask >>= _) _ _ s
  refine wpAny_bind (wpAny_askSetting (wpAny_ite ?_))
  split
  · first
      | exact wpAny_bind (wpAny_pure (wpAny_pure (And.intro rfl h0)))
      | exact wpAny_pure (And.intro rfl h0)
  · first
      | exact wpAny_bind (wpAny_rule (wpAny_bind (wpAny_standAt (wpAny_bind (wpAny_mono h (fun it' s' h' => wpAny_pure (And.intro rfl h')) fun _ _ x => x)))))
      | (refine wpAny_bind (wpAny_rule ?_); show wpAny _ _ (standAt i1.pos >>= _) _ _ s; exact wpAny_bind (wpAny_standAt (wpAny_bind (wpAny_mono h (fun it' s' h' => wpAny_pure (And.intro rfl h')) fun _ _ x => x))))
end

section
variable {X : Cx}
def tDc2 (wi : TI) (g : TG) (tt : TT) (wi1 : TI) (g1 : TG) (tt1 : TT) (tk tv : TE) (vs vs1 : List Nat) : TE := fun σ H Q => wi σ H fun J H1 => ∀ D, H1 D = none → ∃ W : Nat → Nat → Hp → Prop, (∃ m, W 0 m (upd H1 D (.dK []))) ∧ ∀ i m H, W i m H →
  (J.stop i H ∧ Q (.ref D) H) ∨ (J.go i H ∧ ∃ Nx : Hp → Prop, (∀ H', Nx H' → ∃ m', m' < m ∧ W (i + 1) m' H') ∧ ∀ x H', J.yld i H x H' → g x (wipe σ vs) H' fun σ2 H2 => wipe σ2 vs = wipe σ vs ∧ tt σ2 H2 fun b H3 =>
    if b = true then wi1 σ2 H3 fun J1 H4 => ∃ W1 : Nat → Nat → Hp → Prop, (∃ m, W1 0 m H4) ∧ ∀ j k H, W1 j k H →
      (J1.stop j H ∧ Nx H) ∨ (J1.go j H ∧ ∃ Nx1 : Hp → Prop, (∀ H', Nx1 H' → ∃ k', k' < k ∧ W1 (j + 1) k' H') ∧ ∀ x H', J1.yld j H x H' → g1 x (wipe σ2 vs1) H' fun σ3 H5 => wipe σ3 vs1 = wipe σ2 vs1 ∧ tt1 σ3 H5 fun b H6 =>
        if b = true then tk σ3 H6 fun y H7 => tv σ3 H7 fun z H8 => ∃ kvs k, y = kV k ∧ H8 D = some (.dK kvs) ∧ kvs.length < sizeLine ∧ Nx1 (upd H8 D (.dK (putK kvs k z))) else Nx1 H6)
    else Nx H3)
theorem dc2_core {pins : List (Addr × Obj)} {s : Shared} {σ : L2.St} {H : Hp} {Q : VK} {kx vx tg iter tg1 iter1 : Expr} {ifs ifs1 : List Expr} {scope : Scope} {own : List (Str × Nat)} {vs1 : List Nat} {pos pos' : Pos} {wi wi1 : TI} {g g1 : TG} {tt tt1 : TT} {tk tv : TE} {use : Option (Value → Sem Unit)} {Qf : Value → Shared → Prop}
    (hc : X.calm = true) (hN : X.N.Nodup) (I : Inv X pins σ H s) (hi : PI X tg iter wi) (ok : BlkOk X.N X.env.scope scope own) (hv : ∀ i ∈ vs1, i ∈ own.map (·.2))
    (hg : ∀ (s : Shared) (H : Hp) (C : Addr) (cl : List (Str × Addr)) (fp : List Addr), PG (X.blk s H scope (compEnvC scope cl C X.env) fp) tg g) (ht : ∀ (s : Shared) (H : Hp) (C : Addr) (cl : List (Str × Addr)) (fp : List Addr), PTs (X.blk s H scope (compEnvC scope cl C X.env) fp) ifs tt)
    (hk : ∀ (s : Shared) (H : Hp) (C : Addr) (cl : List (Str × Addr)) (fp : List Addr), PE (X.blk s H scope (compEnvC scope cl C X.env) fp) kx tk) (he : ∀ (s : Shared) (H : Hp) (C : Addr) (cl : List (Str × Addr)) (fp : List Addr), PE (X.blk s H scope (compEnvC scope cl C X.env) fp) vx tv) (hs : ∀ x, foldedSetIterable iter X.env x = pure x)
    (hi1 : ∀ (s : Shared) (H : Hp) (C : Addr) (cl : List (Str × Addr)) (fp : List Addr), PI (X.blk s H scope (compEnvC scope cl C X.env) fp) tg1 iter1 wi1)
    (hg1 : ∀ (s : Shared) (H : Hp) (C : Addr) (cl : List (Str × Addr)) (fp : List Addr), PG (X.blk s H scope (compEnvC scope cl C X.env) fp) tg1 g1)
    (ht1 : ∀ (s : Shared) (H : Hp) (C : Addr) (cl : List (Str × Addr)) (fp : List Addr), PTs (X.blk s H scope (compEnvC scope cl C X.env) fp) ifs1 tt1)
    (hs1 : ∀ env x, foldedSetIterable iter1 env x = pure x)
    (h : tDc2 wi g tt wi1 g1 tt1 tk tv (own.map (·.2)) vs1 σ H Q)
    (hback : ∀ D C s' m H', Inv X pins σ H' s' → Q (.ref D) H' → s'.heap.Ns C m → FpOk X pins H' C → compPost (model X.prog X.w) X.A X.xe use Qf (.ref D) C (.ok .next) s') :
    wpAny (model X.prog X.w) X.A (comprehension (.DictComp kx vx [⟨tg, iter, ifs, 0⟩, ⟨tg1, iter1, ifs1, 0⟩] scope pos) scope X.env pos' newDict false (eval iter X.env) use) Qf X.xe s := by
  have hcells : ∀ y ∈ scope.names, y.2 = .free → ∃ c, X.env.cells.lookup y.1 = some c := fun y hy e => by
    rcases ok.free y hy e with k | k
    · exact I.ok.has _ (.inl k)
    · exact I.ok.has _ (.inr k)
  refine wpAny_comprehension_free (use := use) rfl hs (closure_ok hcells) ok.kind (fun y hy e => by rw [ok.uniq y hy, e])
    (thn (hi.run pins s σ H _ I h) fun srcv s1 hx => thn hx fun itval s2 h2 => ?_)
  obtain ⟨it, fp, tn, J, H2, e, I2, T, st2, f2, q⟩ := h2
  subst e
  refine wpAny_newObj_type (newEnv_comp ?_)
  generalize hD : s2.heap.objs.size = D
  have hDn : H2 D = none := I2.hok.fresh (Nat.le_of_eq hD)
  obtain ⟨W, ⟨m0, w0⟩, turn⟩ := q D hDn
  -- the new list
  generalize hs3 : ({ s2 with heap := s2.heap.push { cls := .type "dict", data := .dict #[] } } : Shared) = s3
  have I3 : Inv X pins σ (upd H2 D (.dK [])) s3 := by
    rw [← hs3]
    refine I2.laid (t' := s2.toks) (fun b o e => Heap.get?_push_of_some _ e) (Nat.le_of_eq hD) ?_
    rw [← hD]
    exact dk_empty s2.heap I2.big
  have h3 : s3.heap = s2.heap.push { cls := .type "dict", data := .dict #[] } := by rw [← hs3]
  have sz : ∀ b ∈ fp, b < s2.heap.objs.size := fun b hb => by
    obtain ⟨o, e, _⟩ := T.obj _ _ st2 b hb
    exact Heap.lt_size e
  have f3 : ∀ b ∈ fp, FpOk X pins (upd H2 D (.dK [])) b ∧ b < s3.heap.objs.size := fun b hb => by
    have hlt := sz b hb
    refine ⟨⟨?_, (f2 b hb).2⟩, by rw [h3, Heap.size_push]; exact Nat.lt_succ_of_lt hlt⟩
    rw [upd_ne (by rw [← hD]; exact Nat.ne_of_lt hlt)]
    exact (f2 b hb).1
  have st3 : tn 0 s3.heap := T.keep _ _ _ st2 fun b _ o e => by rw [h3]; exact Heap.get?_push_of_some _ e
  have I4 := block_start I3 ok hN f3
  have pg := hg s3 (upd H2 D (.dK [])) s3.heap.objs.size (cellsFrom (s3.heap.objs.size + 1) scope.names (cloFrom X.env.cells scope.names [])) fp
  have pt := ht s3 (upd H2 D (.dK [])) s3.heap.objs.size (cellsFrom (s3.heap.objs.size + 1) scope.names (cloFrom X.env.cells scope.names [])) fp
  have pk := hk s3 (upd H2 D (.dK [])) s3.heap.objs.size (cellsFrom (s3.heap.objs.size + 1) scope.names (cloFrom X.env.cells scope.names [])) fp
  have pe := he s3 (upd H2 D (.dK [])) s3.heap.objs.size (cellsFrom (s3.heap.objs.size + 1) scope.names (cloFrom X.env.cells scope.names [])) fp
  have pi1 := hi1 s3 (upd H2 D (.dK [])) s3.heap.objs.size (cellsFrom (s3.heap.objs.size + 1) scope.names (cloFrom X.env.cells scope.names [])) fp
  have pg1 := hg1 s3 (upd H2 D (.dK [])) s3.heap.objs.size (cellsFrom (s3.heap.objs.size + 1) scope.names (cloFrom X.env.cells scope.names [])) fp
  have pt1 := ht1 s3 (upd H2 D (.dK [])) s3.heap.objs.size (cellsFrom (s3.heap.objs.size + 1) scope.names (cloFrom X.env.cells scope.names [])) fp
  show codeAny _ _ (.compStart (.DictComp kx vx [⟨tg, iter, ifs, 0⟩, ⟨tg1, iter1, ifs1, 0⟩] scope pos) 0 (.ref it) (.ref D) (compEnvC scope (cellsFrom (s3.heap.objs.size + 1) scope.names (cloFrom X.env.cells scope.names [])) s3.heap.objs.size X.env)) (compPost (model X.prog X.w) X.A X.xe use Qf (.ref D) s3.heap.objs.size) { s3 with heap := pushCells (s3.heap.push { cls := .type "dict", data := .dict #[] }) scope.names }
  have offp : ∀ b ∈ fp, (upd H2 D (.dK [])) b = none := fun b hb => (f3 b hb).1.1
  generalize hce : compEnvC scope (cellsFrom (s3.heap.objs.size + 1) scope.names (cloFrom X.env.cells scope.names [])) s3.heap.objs.size X.env = ce at I4 pg pt pk pe pi1 pg1 pt1 ⊢
  have cL : ce.locals = s3.heap.objs.size := by subst hce; rfl
  generalize hH3 : upd H2 D (.dK []) = H3 at I3 I4 pg pt pk pe pi1 pg1 pt1 w0 offp f3
  generalize hs4 : ({ s3 with heap := pushCells (s3.heap.push { cls := .type "dict", data := .dict #[] }) scope.names } : Shared) = s4 at I4 ⊢
  have st4 : tn 0 s4.heap := T.keep _ _ _ st3 fun b _ o e => by rw [← hs4]; exact pushCells_keeps _ _ _ _ (Heap.get?_push_of_some _ e)
  have quiet : ∀ {σ' : L2.St} {H' : Hp} {s' : Shared}, Inv (X.blk s3 H3 scope ce fp) [] σ' H' s' → (∀ b ∈ fp, H' b = none) → ∀ b ∈ fp, FpOk (X.blk s3 H3 scope ce fp) [] H' b := fun {σ' H' s'} I' hn b hb =>
    ⟨hn b hb, (I'.ok.exf b hb).1, I'.ok.exfs b hb, .inl hb, fun x c e => (I'.ok.exf b hb).2 x c e, fun p hp => absurd (show p ∈ ([] : List (Addr × Obj)) ++ [] from hp) (by simp)⟩
  have loop : codeAny (model X.prog X.w) X.A (.compLoop (.DictComp kx vx [⟨tg, iter, ifs, 0⟩, ⟨tg1, iter1, ifs1, 0⟩] scope pos) 0 (.ref it) (.ref D) ce) (compPost (model X.prog X.w) X.A X.xe use Qf (.ref D) s3.heap.objs.size) s4 := by
    refine dcompLoop2_out (hs1 ce) (fun n s' => ∃ i H', Inv (X.blk s3 H3 scope ce fp) [] (wipe σ (own.map (·.2))) H' s' ∧ tn i s'.heap ∧ (∀ b ∈ fp, H' b = none) ∧ W i n H') ?_ m0 ⟨0, H3, I4, st4, offp, w0⟩
    rintro n s5 ⟨i, H5, I5, st5, n5, w5⟩
    rcases turn i n H5 w5 with ⟨stop, qq⟩ | ⟨go, Nx, hNx, step⟩
    · have td := T.done (X.blk s3 H3 scope ce fp) rfl rfl rfl hc i [] s5 _ H5 (fun _ _ => False) I5 (quiet I5 n5) st5 stop
      refine thnF td fun r s6 ⟨hr, I6⟩ => ?_
      subst hr
      -- back in the def's context
      have I7 : Inv X pins σ H5 s6 := I3.call' (ch := fp) I6.os I6.base I6.hok I6.bare fun b hb => ⟨(f3 b hb).1.2.2.2.1, (f3 b hb).1.2.1, (f3 b hb).1.2.2.2.2.1, (f3 b hb).1.2.2.2.2.2⟩
      have nC : H5 s3.heap.objs.size = none := by
        have z : H5 ce.locals = none := I6.free
        rw [cL] at z
        exact z
      obtain ⟨m, hn, _⟩ := I6.loc
      have hn : s6.heap.Ns ce.locals m := hn
      rw [cL] at hn
      exact hback D s3.heap.objs.size s6 m H5 I7 qq hn (I3.fpOk (Nat.le_refl _) nC)
    · have ti := T.item (X.blk s3 H3 scope ce fp) rfl rfl rfl hc i [] s5 _ H5 (fun _ _ => False) I5 (quiet I5 n5) st5 go
      refine thnF ti fun r s6 ⟨u, hr, h6⟩ => ?_
      subst hr
      refine thnF h6 fun _ s7 ⟨x, H7, I7, r7, y7, st7, n7⟩ => ?_
      have I7' := I7.pinned (quiet I7 n7) (T.obj _ _ st7)
      refine thnF (pg.run _ s7 _ H7 x u _ I7' r7 (step x H7 y7)) fun _ s8 ⟨σ8, H8, I8, hw8, q8⟩ => ?_
      refine thnF (pt.run _ s8 σ8 H8 _ I8 q8) fun b s9 ⟨H9, I9, q9⟩ => ?_
      -- the turn's end, from any slots that know what the block knew at its start
      have shut : ∀ {σ9 : L2.St} {s' : Shared} {H' : Hp}, Inv (X.blk s3 H3 scope ce fp) ([] ++ pinsAt fp s7.heap) σ9 H' s' → (wipe σ (own.map (·.2))).length = σ9.length → (∀ (j : Nat) v, (wipe σ (own.map (·.2)))[j]? = some (some v) → σ9[j]? = some (some v)) → Nx H' →
          ∃ m, m < n ∧ ∃ i H', Inv (X.blk s3 H3 scope ce fp) [] (wipe σ (own.map (·.2))) H' s' ∧ tn i s'.heap ∧ (∀ b ∈ fp, H' b = none) ∧ W i m H' := fun {σ9 s' H'} I' hl hk nx => by
        obtain ⟨m', hm, w'⟩ := hNx H' nx
        have kept : ∀ b ∈ fp, ∀ o, s7.heap.get? b = some o → s'.heap.get? b = some o ∧ H' b = none := fun b hb o e =>
          let z := I'.pin (b, o) (List.mem_append_right _ (List.mem_append_right _ (mem_pinsAt hb e)))
          ⟨z.1, z.2.1⟩
        refine ⟨m', hm, i + 1, H', (I'.unpinned (pins := [])).weak hl hk, T.keep _ _ _ st7 fun b hb o e => (kept b hb o e).1, fun b hb => ?_, w'⟩
        obtain ⟨o, e, _⟩ := T.obj _ _ st7 b hb
        exact (kept b hb o e).2
      have len8 : (wipe σ (own.map (·.2))).length = σ8.length := by rw [← hw8, wipe_length]
      have know8 : ∀ (j : Nat) v, (wipe σ (own.map (·.2)))[j]? = some (some v) → σ8[j]? = some (some v) := fun j v e => by
        rw [← hw8] at e
        exact (wipe_some e).1
      have know9 : ∀ (j : Nat) v, (wipe σ (own.map (·.2)))[j]? = some (some v) → (wipe σ8 vs1)[j]? = some (some v) := fun j v e => by
        rw [← hw8] at e
        obtain ⟨e1, e2⟩ := wipe_some e
        rw [wipe_out fun z => e2 (hv j z)]
        exact e1
      cases b with
      | false =>
        simp only [Bool.false_eq_true, if_false] at q9 ⊢
        exact shut I9 len8 know8 q9
      | true =>
        simp only [if_true] at q9 ⊢
        refine thnF (pi1.run _ s9 σ8 H9 _ I9 q9) fun srcv s10 hx => thnF hx fun itval s11 h11 => ?_
        obtain ⟨it1, fp1, tn1, J1, H11, e1, I11, T1, st11, f11, W1, ⟨m1, w1⟩, turn1⟩ := h11
        subst e1
        -- the inner loop
        have quiet1 : ∀ {H' : Hp}, (∀ b ∈ fp1, H' b = none) → ∀ b ∈ fp1, FpOk (X.blk s3 H3 scope ce fp) ([] ++ pinsAt fp s7.heap) H' b := fun hn b hb => ⟨hn b hb, (f11 b hb).2⟩
        have inner : codeAny (model X.prog X.w) X.A (.compLoop (.DictComp kx vx [⟨tg, iter, ifs, 0⟩, ⟨tg1, iter1, ifs1, 0⟩] scope pos) 1 (.ref it1) (.ref D) ce)
            (fun r s' => match r with
              | .ok _ => ∃ m, m < n ∧ ∃ i H', Inv (X.blk s3 H3 scope ce fp) [] (wipe σ (own.map (·.2))) H' s' ∧ tn i s'.heap ∧ (∀ b ∈ fp, H' b = none) ∧ W i m H'
              | .error _ => False) s11 := by
          refine dcompLoop2_in (fun k s' => ∃ j H', Inv (X.blk s3 H3 scope ce fp) ([] ++ pinsAt fp s7.heap) (wipe σ8 vs1) H' s' ∧ tn1 j s'.heap ∧ (∀ b ∈ fp1, H' b = none) ∧ W1 j k H') ?_ m1 ⟨0, H11, I11.weak (wipe_length _ _) (fun j v e => (wipe_some e).1), st11, fun b hb => (f11 b hb).1, w1⟩
          rintro k s12 ⟨j, H12, I12, st12, n12, w12⟩
          rcases turn1 j k H12 w12 with ⟨stop1, nx1⟩ | ⟨go1, Nx1, hNx1, step1⟩
          · refine thnF (T1.done (X.blk s3 H3 scope ce fp) rfl rfl rfl hc j _ s12 (wipe σ8 vs1) H12 (fun _ _ => False) I12 (quiet1 n12) st12 stop1) fun r s13 ⟨hr, I13⟩ => ?_
            subst hr
            exact shut I13 (len8.trans (wipe_length σ8 vs1).symm) know9 nx1
          · refine thnF (T1.item (X.blk s3 H3 scope ce fp) rfl rfl rfl hc j _ s12 (wipe σ8 vs1) H12 (fun _ _ => False) I12 (quiet1 n12) st12 go1) fun r s13 ⟨u1, hr, h13⟩ => ?_
            subst hr
            refine thnF h13 fun _ s14 ⟨x1, H14, I14, r14, y14, st14, n14⟩ => ?_
            have I14' := I14.pinned (quiet1 n14) (T1.obj _ _ st14)
            refine thnF (pg1.run _ s14 (wipe σ8 vs1) H14 x1 u1 _ I14' r14 (step1 x1 H14 y14)) fun _ s15 ⟨σ15, H15, I15, hw15, q15⟩ => ?_
            refine thnF (pt1.run _ s15 σ15 H15 _ I15 q15) fun b1 s16 ⟨H16, I16, q16⟩ => ?_
            have shut1 : ∀ {s' : Shared} {H' : Hp}, Inv (X.blk s3 H3 scope ce fp) (([] ++ pinsAt fp s7.heap) ++ pinsAt fp1 s14.heap) σ15 H' s' → Nx1 H' → ∃ m, m < k ∧ ∃ j H', Inv (X.blk s3 H3 scope ce fp) ([] ++ pinsAt fp s7.heap) (wipe σ8 vs1) H' s' ∧ tn1 j s'.heap ∧ (∀ b ∈ fp1, H' b = none) ∧ W1 j m H' := fun {s' H'} I' nx => by
              obtain ⟨m', hm, w'⟩ := hNx1 H' nx
              have kept : ∀ b ∈ fp1, ∀ o, s14.heap.get? b = some o → s'.heap.get? b = some o ∧ H' b = none := fun b hb o e =>
                let z := I'.pin (b, o) (List.mem_append_right _ (List.mem_append_right _ (mem_pinsAt hb e)))
                ⟨z.1, z.2.1⟩
              refine ⟨m', hm, j + 1, H', I'.unpinned.weak (by rw [← hw15, wipe_length]) (fun j v e => by rw [← hw15] at e; exact (wipe_some e).1), T1.keep _ _ _ st14 fun b hb o e => (kept b hb o e).1, fun b hb => ?_, w'⟩
              obtain ⟨o, e, _⟩ := T1.obj _ _ st14 b hb
              exact (kept b hb o e).2
            cases b1 with
            | false =>
              simp only [Bool.false_eq_true, if_false] at q16 ⊢
              exact shut1 I16 q16
            | true =>
              simp only [if_true] at q16 ⊢
              refine thnF (pk.run _ s16 σ15 H16 _ I16 q16) fun z s17 ⟨yk, H17, I17, r17, q17⟩ => ?_
              refine thnF (pe.run _ s17 σ15 H17 _ I17 q17) fun z2 s18 ⟨yv, H18, I18, r18, kvs, k1, ek, hD18, hz18, nx⟩ => ?_
              subst ek
              exact d_dictSet (X := X.blk s3 H3 scope ce fp) I18 hD18 hz18 r17 r18 fun s19 I19 => shut1 I19 nx
        exact dcompStart1_ok inner (T1.self X.A 0 _ _ _ st11 inner)
  exact codeAny_compStart_dict loop (T.self X.A 0 _ _ _ st4 loop)
theorem pe_dc2 {kx vx tg iter tg1 iter1 : Expr} {ifs ifs1 : List Expr} {scope : Scope} {own : List (Str × Nat)} {vs1 : List Nat} {pos : Pos} {wi wi1 : TI} {g g1 : TG} {tt tt1 : TT} {tk tv : TE} (hc : X.calm = true) (hN : X.N.Nodup) (hi : PI X tg iter wi) (ok : BlkOk X.N X.env.scope scope own) (hv : ∀ i ∈ vs1, i ∈ own.map (·.2))
    (hg : ∀ (s : Shared) (H : Hp) (C : Addr) (cl : List (Str × Addr)) (fp : List Addr), PG (X.blk s H scope (compEnvC scope cl C X.env) fp) tg g) (ht : ∀ (s : Shared) (H : Hp) (C : Addr) (cl : List (Str × Addr)) (fp : List Addr), PTs (X.blk s H scope (compEnvC scope cl C X.env) fp) ifs tt)
    (hi1 : ∀ (s : Shared) (H : Hp) (C : Addr) (cl : List (Str × Addr)) (fp : List Addr), PI (X.blk s H scope (compEnvC scope cl C X.env) fp) tg1 iter1 wi1)
    (hg1 : ∀ (s : Shared) (H : Hp) (C : Addr) (cl : List (Str × Addr)) (fp : List Addr), PG (X.blk s H scope (compEnvC scope cl C X.env) fp) tg1 g1) (ht1 : ∀ (s : Shared) (H : Hp) (C : Addr) (cl : List (Str × Addr)) (fp : List Addr), PTs (X.blk s H scope (compEnvC scope cl C X.env) fp) ifs1 tt1)
    (hk : ∀ (s : Shared) (H : Hp) (C : Addr) (cl : List (Str × Addr)) (fp : List Addr), PE (X.blk s H scope (compEnvC scope cl C X.env) fp) kx tk) (he : ∀ (s : Shared) (H : Hp) (C : Addr) (cl : List (Str × Addr)) (fp : List Addr), PE (X.blk s H scope (compEnvC scope cl C X.env) fp) vx tv) (hs : ∀ x, foldedSetIterable iter X.env x = pure x := by intro _; rfl) (hs1 : ∀ env x, foldedSetIterable iter1 env x = pure x := by intro _ _; rfl) :
    PE X (.DictComp kx vx [⟨tg, iter, ifs, 0⟩, ⟨tg1, iter1, ifs1, 0⟩] scope pos) (tDc2 wi g tt wi1 g1 tt1 tk tv (own.map (·.2)) vs1) := by
  refine ⟨fun pins s σ H Q I h => ?_⟩
  rw [arm_eval_DictComp]
  refine dc2_core hc hN I hi ok hv hg ht hk he hs hi1 hg1 ht1 hs1 h fun D C s' m H' I' q hn f => ⟨m, hn, fun h'' sb => ?_⟩
  obtain ⟨f0, f1, f2, f3, f4, f5⟩ := f
  exact ⟨.ref D, H', I'.turned (t' := s'.toks) (fun b o hb e => (sb.2 b hb).trans e) f0 f1 f3 f4 f5, rfl, q⟩

end
section
variable {X : Cx} (K : PySem.W.Frag)
theorem pgTK {es : List Expr} {k : Nat} {pos : Pos} {t : TGs} (n : Nat) (h : PGs X es t) (hc : X.calm = true := by rfl) (hK : X.K = K := by rfl) (hn : (assignEach es X.env).length = n := by rfl) (hst : (assignEach es X.env).findIdx? (·.1) = none := by rfl) : PG X (.Tuple es k pos) (gTup K n t) := by
  subst hK
  exact pg_tup hc h hn hst
theorem piTK {tg l : Expr} {tl : TE} (hl : PE X l tl) (hK : X.K = K := by rfl) : PI X tg l (iTup K tl) := by
  subst hK
  exact pi_tup hl
theorem piLK {tg l : Expr} {tl : TE} (hl : PE X l tl) (hK : X.K = K := by rfl) : PI X tg l (iList K tl) := by
  subst hK
  exact pi_list hl
end
end Bx

/-! Lowering along literals again and again: values, or a ring. Plain mathematics. -/
namespace Bf
universe u
variable {T : Type u} [DecidableEq T]
abbrev Lit (T : Type u) := T × T × Int
/-- heights, what each was lowered by -/
structure Sta (T : Type u) where
  h : T → Int
  by_ : T → Option Nat
  low : Option T
def put {α : Type} (f : T → α) (t : T) (v : α) : T → α := fun x => if x = t then v else f x
theorem put_self {α : Type} (f : T → α) (t : T) (v : α) : put f t v t = v := if_pos rfl
theorem put_ne {α : Type} {f : T → α} {t x : T} {v : α} (h : x ≠ t) : put f t v x = f x := if_neg h
/-- one literal looked at -/
def one (s : Sta T) (at_ : Nat) (q : Lit T) : Sta T :=
  if s.h q.2.1 + q.2.2 < s.h q.1 then ⟨put s.h q.1 (s.h q.2.1 + q.2.2), put s.by_ q.1 (some at_), some q.1⟩ else s
/-- the first k literals of a pass -/
def some_ (L : List (Lit T)) (s : Sta T) : Nat → Sta T
  | 0 => s
  | k + 1 => match L[k]? with
    | some q => one (some_ L s k) k q
    | none => some_ L s k
def pass (L : List (Lit T)) (s : Sta T) : Sta T := some_ L { s with low := none } L.length
def passes (L : List (Lit T)) : Nat → Sta T
  | 0 => ⟨fun _ => 0, fun _ => none, none⟩
  | k + 1 => pass L (passes L k)
def num (L : List (Lit T)) (i : Nat) : Int := match L[i]? with
  | some q => q.2.2
  | none => 0
def tot (L : List (Lit T)) : List Nat → Int
  | [] => 0
  | i :: is => num L i + tot L is
/-- a way back along what terms were lowered by -/
inductive Pth (L : List (Lit T)) (b : T → Option Nat) : T → List Nat → T → Prop
  | nil (t : T) : Pth L b t [] t
  | cons {t r : T} {n : Int} {i : Nat} {is : List Nat} {e : T} (hb : b t = some i) (hL : L[i]? = some (t, r, n)) (p : Pth L b r is e) : Pth L b t (i :: is) e
structure Good (L : List (Lit T)) (s : Sta T) : Prop where
  own : ∀ t i, s.by_ t = some i → ∃ r n, L[i]? = some (t, r, n) ∧ s.h r + n ≤ s.h t
  root : ∀ t, s.by_ t = none → s.h t = 0
  le0 : ∀ t, s.h t ≤ 0
  ring : ∀ t is, is ≠ [] → Pth L s.by_ t is t → tot L is < 0
theorem num_at {L : List (Lit T)} {i : Nat} {q : Lit T} (h : L[i]? = some q) : num L i = q.2.2 := by
  unfold num
  rw [h]
theorem pth_le {L : List (Lit T)} {b : T → Option Nat} {h : T → Int} (own : ∀ t i, b t = some i → ∃ r n, L[i]? = some (t, r, n) ∧ h r + n ≤ h t) {t : T} {is : List Nat} {e : T} (p : Pth L b t is e) : tot L is + h e ≤ h t := by
  induction p with
  | nil t => simp [tot]
  | @cons t r n i is e hb hL p ih =>
    obtain ⟨r', n', h1, h2⟩ := own t i hb
    have e1 : (t, r, n) = (t, r', n') := Option.some.inj (hL.symm.trans h1)
    have e2 : r = r' := congrArg (fun x => x.2.1) e1
    have e3 : n = n' := congrArg (fun x => x.2.2) e1
    subst e2 e3
    have e4 : num L i = n := num_at hL
    simp only [tot]
    rw [e4]
    omega
/-- a way by the new table: an old one, or strictly lower -/
theorem pth_new {L : List (Lit T)} {s : Sta T} (G : Good L s) {l r : T} {n : Int} {i0 : Nat} (h0 : L[i0]? = some (l, r, n)) (hlt : s.h r + n < s.h l) {t : T} {is : List Nat} {e : T} (p : Pth L (put s.by_ l (some i0)) t is e) :
    (Pth L s.by_ t is e ∧ tot L is + s.h e ≤ s.h t) ∨ tot L is + s.h e < s.h t := by
  induction p with
  | nil t => exact .inl ⟨.nil t, by simp [tot]⟩
  | @cons t r' n' i is e hb hL p ih =>
    have e4 : num L i = n' := num_at hL
    simp only [tot]
    rw [e4]
    by_cases q : t = l
    · subst q
      rw [put_self] at hb
      cases hb
      have e1 : (t, r', n') = (t, r, n) := Option.some.inj (hL.symm.trans h0)
      have e2 : r' = r := congrArg (fun x => x.2.1) e1
      have e3 : n' = n := congrArg (fun x => x.2.2) e1
      subst e2 e3
      right
      rcases ih with ⟨_, h⟩ | h <;> omega
    · rw [put_ne q] at hb
      obtain ⟨r2, n2, h1, h2⟩ := G.own t i hb
      have e1 : (t, r', n') = (t, r2, n2) := Option.some.inj (hL.symm.trans h1)
      have e2 : r' = r2 := congrArg (fun x => x.2.1) e1
      have e3 : n' = n2 := congrArg (fun x => x.2.2) e1
      subst e2 e3
      rcases ih with ⟨p', h⟩ | h
      · exact .inl ⟨.cons hb hL p', by omega⟩
      · right
        omega
theorem one_good {L : List (Lit T)} {s : Sta T} (G : Good L s) {i : Nat} {q : Lit T} (hq : L[i]? = some q) : Good L (one s i q) := by
  unfold one
  split
  · rename_i hlt
    obtain ⟨l, r, n⟩ := q
    simp only at hlt hq ⊢
    refine ⟨fun t j hb => ?_, fun t hb => ?_, fun t => ?_, fun t is hne p => ?_⟩
    · by_cases e : t = l
      · subst e
        simp only [put_self] at hb ⊢
        cases hb
        refine ⟨r, n, hq, ?_⟩
        by_cases e2 : r = t
        · subst e2
          rw [put_self]
          omega
        · rw [put_ne e2]
          exact Int.le_refl _
      · simp only [put_ne e] at hb ⊢
        obtain ⟨r2, n2, h1, h2⟩ := G.own t j hb
        refine ⟨r2, n2, h1, ?_⟩
        by_cases e2 : r2 = l
        · subst e2
          rw [put_self]
          omega
        · rw [put_ne e2]
          exact h2
    · by_cases e : t = l
      · subst e
        simp only [put_self] at hb
        cases hb
      · simp only [put_ne e] at hb ⊢
        exact G.root t hb
    · by_cases e : t = l
      · subst e
        simp only [put_self]
        have := G.le0 t
        omega
      · simp only [put_ne e]
        exact G.le0 t
    · rcases pth_new G hq hlt p with ⟨p', _⟩ | h
      · exact G.ring t is hne p'
      · omega
  · exact G
theorem some_succ {L : List (Lit T)} {s : Sta T} {k : Nat} {q : Lit T} (h : L[k]? = some q) : some_ L s (k + 1) = one (some_ L s k) k q := by
  rw [some_, h]
theorem some_good {L : List (Lit T)} {s : Sta T} (G : Good L s) : ∀ k, Good L (some_ L s k)
  | 0 => G
  | k + 1 => by
    have ih := some_good G k
    unfold some_
    cases h : L[k]? with
    | none => exact ih
    | some q => exact one_good ih h
theorem good_low {L : List (Lit T)} {s : Sta T} (G : Good L s) (o : Option T) : Good L { s with low := o } := ⟨G.own, G.root, G.le0, G.ring⟩
theorem passes_good (L : List (Lit T)) : ∀ k, Good L (passes L k)
  | 0 => ⟨fun t i h => (by cases h), fun _ _ => rfl, fun _ => Int.le_refl _, fun t is hne p => by
      cases p with
      | nil => exact absurd rfl hne
      | cons hb => cases hb⟩
  | k + 1 => some_good (good_low (passes_good L k) none) _
/-! ### a pass -/
theorem one_le (s : Sta T) (i : Nat) (q : Lit T) (t : T) : (one s i q).h t ≤ s.h t := by
  unfold one
  split
  · by_cases e : t = q.1
    · subst e
      simp only [put_self]
      omega
    · simp only [put_ne e]
      exact Int.le_refl _
  · exact Int.le_refl _
theorem one_done (s : Sta T) (i : Nat) (q : Lit T) : (one s i q).h q.1 ≤ s.h q.2.1 + q.2.2 := by
  unfold one
  split
  · simp only [put_self]
    exact Int.le_refl _
  · omega
theorem some_le {L : List (Lit T)} {s : Sta T} (t : T) : ∀ k, (some_ L s k).h t ≤ s.h t
  | 0 => Int.le_refl _
  | k + 1 => by
    have ih := some_le (L := L) (s := s) t k
    unfold some_
    cases h : L[k]? with
    | none => exact ih
    | some q => exact Int.le_trans (one_le _ _ _ _) ih
theorem some_done {L : List (Lit T)} {s : Sta T} {i : Nat} {q : Lit T} (hq : L[i]? = some q) : ∀ k, i < k → (some_ L s k).h q.1 ≤ s.h q.2.1 + q.2.2
  | 0, h => absurd h (Nat.not_lt_zero i)
  | k + 1, h => by
    unfold some_
    by_cases e : i = k
    · subst e
      rw [hq]
      show (one (some_ L s i) i q).h q.1 ≤ _
      have h1 := one_done (some_ L s i) i q
      have h2 := some_le (L := L) (s := s) q.2.1 i
      omega
    · have ih := some_done (s := s) hq k (by omega)
      cases h' : L[k]? with
      | none => exact ih
      | some q' => exact Int.le_trans (one_le _ _ _ _) ih
/-- nothing lowered: all is as it was and all looked at hold -/
theorem some_none {L : List (Lit T)} {s : Sta T} (h0 : s.low = none) : ∀ k, (some_ L s k).low = none → (some_ L s k) = s ∧ ∀ i q, i < k → L[i]? = some q → s.h q.1 ≤ s.h q.2.1 + q.2.2
  | 0, _ => ⟨rfl, fun i q h => absurd h (Nat.not_lt_zero i)⟩
  | k + 1, h => by
    unfold some_ at h ⊢
    cases h' : L[k]? with
    | none =>
      rw [h'] at h
      obtain ⟨e, ih⟩ := some_none h0 k h
      refine ⟨e, fun i q hi hq => ?_⟩
      by_cases e2 : i = k
      · subst e2
        rw [h'] at hq
        cases hq
      · exact ih i q (by omega) hq
    | some q0 =>
      rw [h'] at h
      simp only at h ⊢
      have hn : (some_ L s k).low = none ∧ ¬ ((some_ L s k).h q0.2.1 + q0.2.2 < (some_ L s k).h q0.1) := by
        unfold one at h
        split at h
        · cases h
        · exact ⟨h, by assumption⟩
      obtain ⟨e, ih⟩ := some_none h0 k hn.1
      rw [e] at hn ⊢
      refine ⟨by unfold one; rw [if_neg hn.2], fun i q hi hq => ?_⟩
      by_cases e2 : i = k
      · subst e2
        rw [h'] at hq
        cases hq
        omega
      · exact ih i q (by omega) hq
/-- what was lowered last is lower, and told with what it was lowered by -/
theorem some_low {L : List (Lit T)} {s : Sta T} (h0 : s.low = none) {t : T} : ∀ k, (some_ L s k).low = some t → (some_ L s k).h t < s.h t ∧ (some_ L s k).by_ t ≠ none
  | 0, h => by
    rw [show some_ L s 0 = s from rfl, h0] at h
    cases h
  | k + 1, h => by
    unfold some_ at h ⊢
    cases h' : L[k]? with
    | none =>
      rw [h'] at h
      exact some_low h0 k h
    | some q0 =>
      rw [h'] at h
      simp only at h ⊢
      unfold one at h ⊢
      split at h
      · rename_i hlt
        rw [if_pos hlt]
        simp only at h
        cases h
        simp only [put_self]
        have := some_le (L := L) (s := s) q0.1 k
        exact ⟨by omega, by simp⟩
      · rename_i hlt
        rw [if_neg hlt]
        exact some_low h0 k h
theorem pass_le (L : List (Lit T)) (s : Sta T) (t : T) : (pass L s).h t ≤ s.h t := some_le (L := L) (s := { s with low := none }) t _
theorem pass_done {L : List (Lit T)} {s : Sta T} {i : Nat} {q : Lit T} (hq : L[i]? = some q) : (pass L s).h q.1 ≤ s.h q.2.1 + q.2.2 := some_done (s := { s with low := none }) hq _ (List.getElem?_eq_some_iff.mp hq).1
theorem passes_mono (L : List (Lit T)) (t : T) {j : Nat} : ∀ {k : Nat}, j ≤ k → (passes L k).h t ≤ (passes L j).h t
  | 0, h => by
    have e : j = 0 := by omega
    subst e
    exact Int.le_refl _
  | k + 1, h => by
    by_cases e : j = k + 1
    · subst e
      exact Int.le_refl _
    · exact Int.le_trans (pass_le _ _ _) (passes_mono L t (by omega))
/-- after as many passes as a way has steps, its end is no more above its begin than it says -/
theorem passes_way {L : List (Lit T)} {b : T → Option Nat} {t : T} {is : List Nat} {e : T} (p : Pth L b t is e) : (passes L is.length).h t ≤ tot L is := by
  induction p with
  | nil t => exact Int.le_refl _
  | @cons t r n i is e hb hL p ih =>
    have h1 := pass_done (s := passes L is.length) hL
    have e4 : num L i = n := num_at hL
    simp only [tot]
    rw [e4]
    show (pass L (passes L is.length)).h t ≤ _
    simp only at h1
    omega
/-! ### the ring -/
def nxt (L : List (Lit T)) (b : T → Option Nat) (t : T) : T := match b t with
  | some i => (match L[i]? with
    | some q => q.2.1
    | none => t)
  | none => t
def itr (L : List (Lit T)) (b : T → Option Nat) (t : T) : Nat → T
  | 0 => t
  | k + 1 => nxt L b (itr L b t k)
theorem itr_add (L : List (Lit T)) (b : T → Option Nat) (t : T) (i : Nat) : ∀ k, itr L b t (i + k) = itr L b (itr L b t i) k
  | 0 => rfl
  | k + 1 => congrArg (nxt L b) (itr_add L b t i k)
theorem nxt_at {L : List (Lit T)} {b : T → Option Nat} {t r : T} {n : Int} {i : Nat} (hb : b t = some i) (hL : L[i]? = some (t, r, n)) : nxt L b t = r := by
  unfold nxt
  rw [hb]
  show (match L[i]? with
    | some q => q.2.1
    | none => t) = r
  rw [hL]
theorem pth_itr {L : List (Lit T)} {s : Sta T} (G : Good L s) : ∀ (k : Nat) (t : T), (∀ j, j < k → s.by_ (itr L s.by_ t j) ≠ none) → ∃ is, is.length = k ∧ Pth L s.by_ t is (itr L s.by_ t k) ∧ ∀ j, j < k → is[j]? = s.by_ (itr L s.by_ t j)
  | 0, t, _ => ⟨[], rfl, .nil t, fun j h => absurd h (Nat.not_lt_zero j)⟩
  | k + 1, t, h => by
    obtain ⟨i, hi⟩ := Option.ne_none_iff_exists'.mp (h 0 (Nat.succ_pos k))
    obtain ⟨r, n, hL, _⟩ := G.own t i hi
    have en : nxt L s.by_ t = r := nxt_at hi hL
    have e : ∀ j, itr L s.by_ t (j + 1) = itr L s.by_ r j := fun j => by
      rw [Nat.add_comm, itr_add]
      show itr L s.by_ (nxt L s.by_ t) j = _
      rw [en]
    obtain ⟨is, hl, hp, ha⟩ := pth_itr G k r fun j hj => by
      rw [← e]
      exact h (j + 1) (Nat.succ_lt_succ hj)
    refine ⟨i :: is, by rw [List.length_cons, hl], ?_, fun j hj => ?_⟩
    · rw [e]
      exact .cons hi hL hp
    · cases j with
      | zero => exact hi.symm
      | succ j =>
        rw [e]
        exact ha j (by omega)
theorem nodup_map_range {f : Nat → T} {k : Nat} (h : ∀ i j, i < k → j < k → f i = f j → i = j) : ((List.range k).map f).Nodup := by
  rw [List.nodup_iff_pairwise_ne, List.pairwise_map]
  refine List.Pairwise.imp_of_mem ?_ List.nodup_range
  intro a b ha hb hne e
  exact hne (h a b (List.mem_range.mp ha) (List.mem_range.mp hb) e)
theorem len_le : ∀ {xs ys : List T}, xs.Nodup → (∀ k ∈ xs, k ∈ ys) → xs.length ≤ ys.length
  | [], _, _, _ => Nat.zero_le _
  | a :: o, ys, nd, h => by
    have ha : a ∈ ys := h a List.mem_cons_self
    have hn := List.nodup_cons.mp nd
    have e : o.length ≤ (ys.erase a).length := len_le hn.2 fun k hk => (List.mem_erase_of_ne (fun q => hn.1 (by rw [← q]; exact hk))).mpr (h k (List.mem_cons_of_mem _ hk))
    have e2 : (ys.erase a).length = ys.length - 1 := List.length_erase_of_mem ha
    have hp : 0 < ys.length := List.length_pos_of_mem ha
    rw [List.length_cons]
    omega
/-- where a pass more than there are terms still lowers, the way back from what was lowered has no end -/
theorem no_root {L : List (Lit T)} {ks : List T} (hks : ∀ q ∈ L, q.1 ∈ ks ∧ q.2.1 ∈ ks) {t : T} (hl : (passes L (ks.length + 1)).low = some t) : ∀ k, (passes L (ks.length + 1)).by_ (itr L (passes L (ks.length + 1)).by_ t k) ≠ none := by
  have G := passes_good L (ks.length + 1)
  generalize hs : passes L (ks.length + 1) = s at *
  have low : s.h t < (passes L ks.length).h t := by
    rw [← hs] at hl ⊢
    exact (some_low (s := { passes L ks.length with low := none }) rfl _ hl).1
  intro k
  induction k using Nat.strongRecOn with
  | _ k ih =>
    intro hn
    obtain ⟨is, hlen, hp, _⟩ := pth_itr G k t fun j hj => ih j hj
    -- the terms on the way are different
    have nd : ((List.range (k + 1)).map (itr L s.by_ t)).Nodup := by
      have key : ∀ i j, i < j → j < k + 1 → itr L s.by_ t i ≠ itr L s.by_ t j := fun i j hij hj e => by
        have e2 : itr L s.by_ t (i + (k - j)) = itr L s.by_ t k := by
          rw [itr_add, e, ← itr_add]
          congr 1
          omega
        exact ih (i + (k - j)) (by omega) (by rw [e2]; exact hn)
      refine nodup_map_range fun i j hi hj e => ?_
      rcases Nat.lt_trichotomy i j with h | h | h
      · exact absurd e (key i j h hj)
      · exact h
      · exact absurd e.symm (key j i h hi)
    have mem : ∀ x ∈ (List.range (k + 1)).map (itr L s.by_ t), x ∈ ks := fun x hx => by
      obtain ⟨j, hj, rfl⟩ := List.mem_map.mp hx
      have hj2 := List.mem_range.mp hj
      have src : ∀ j, j < k → itr L s.by_ t j ∈ ks ∧ itr L s.by_ t (j + 1) ∈ ks := fun j hj => by
        obtain ⟨i, hi⟩ := Option.ne_none_iff_exists'.mp (ih j hj)
        obtain ⟨r, n, hL, _⟩ := G.own _ i hi
        have hm := hks _ (List.mem_of_getElem? hL)
        refine ⟨hm.1, ?_⟩
        show nxt L s.by_ (itr L s.by_ t j) ∈ ks
        rw [nxt_at hi hL]
        exact hm.2
      cases k with
      | zero =>
        -- t itself has no root: it was lowered
        have hb : s.by_ t ≠ none := by
          rw [← hs] at hl ⊢
          exact (some_low (s := { passes L ks.length with low := none }) rfl _ hl).2
        exact absurd hn hb
      | succ k =>
        by_cases e : j = k + 1
        · subst e
          exact (src k (Nat.lt_succ_self k)).2
        · exact (src j (by omega)).1
    have hk : k + 1 ≤ ks.length := by
      have := len_le nd mem
      simpa using this
    have h1 := pth_le G.own hp
    have h2 := passes_way hp
    have h3 := passes_mono L t (show is.length ≤ ks.length by omega)
    have h4 := G.root _ hn
    omega
structure IsRing (L : List (Lit T)) (is : List Nat) (f : Nat → T) : Prop where
  ne : is ≠ []
  at_ : ∀ j, j < is.length → ∃ i n, is[j]? = some i ∧ L[i]? = some (f j, f (j + 1), n)
  back : f is.length = f 0
  inj : ∀ i j, i < is.length → j < is.length → f i = f j → i = j
  neg : tot L is < 0
theorem IsRing.nodup {L : List (Lit T)} {is : List Nat} {f : Nat → T} (R : IsRing L is f) : is.Nodup := by
  rw [List.nodup_iff_pairwise_ne, List.pairwise_iff_getElem]
  intro i j hi hj hij e
  obtain ⟨a, n, h1, h2⟩ := R.at_ i hi
  obtain ⟨b, m, h3, h4⟩ := R.at_ j hj
  rw [List.getElem?_eq_getElem hi] at h1
  rw [List.getElem?_eq_getElem hj] at h3
  have e1 : a = b := by
    have e1 := Option.some.inj h1
    have e2 := Option.some.inj h3
    rw [← e1, ← e2, e]
  subst e1
  have e2 := Option.some.inj (h2.symm.trans h4)
  have e3 : f i = f j := congrArg (fun x => x.1) e2
  have := R.inj i j hi hj e3
  omega
/-- after as many steps back as terms were lowered one stands on a ring -/
theorem on_ring {L : List (Lit T)} {s : Sta T} {bs : List T} (hbs : ∀ x, s.by_ x ≠ none → x ∈ bs) {t : T} (hn : ∀ k, s.by_ (itr L s.by_ t k) ≠ none) : ∃ d, 0 < d ∧ d ≤ bs.length ∧ itr L s.by_ t (bs.length + d) = itr L s.by_ t bs.length := by
  have h : ¬ ((List.range (bs.length + 1)).map (itr L s.by_ t)).Nodup := fun nd => by
    have := len_le nd (ys := bs) fun x hx => by
      obtain ⟨j, _, rfl⟩ := List.mem_map.mp hx
      exact hbs _ (hn j)
    simp at this
    omega
  have h2 : ∃ i j, i < j ∧ j < bs.length + 1 ∧ itr L s.by_ t i = itr L s.by_ t j := by
    refine Classical.byContradiction fun hc => h (nodup_map_range fun i j hi hj e => ?_)
    rcases Nat.lt_trichotomy i j with q | q | q
    · exact absurd ⟨i, j, q, hj, e⟩ hc
    · exact q
    · exact absurd ⟨j, i, q, hi, e.symm⟩ hc
  obtain ⟨i, j, hij, hj, e⟩ := h2
  refine ⟨j - i, by omega, by omega, ?_⟩
  have e1 : bs.length + (j - i) = j + (bs.length - i) := by omega
  have e2 : bs.length = i + (bs.length - i) := by omega
  rw [e1, itr_add, ← e, ← itr_add, ← e2]
theorem least {p : Nat → Prop} : ∀ n, p n → ∃ k, k ≤ n ∧ p k ∧ ∀ j, j < k → ¬ p j := by
  intro n
  induction n using Nat.strongRecOn with
  | _ n ih =>
    intro h
    by_cases q : ∃ j, j < n ∧ p j
    · obtain ⟨j, hj, hp⟩ := q
      obtain ⟨k, h1, h2, h3⟩ := ih j hj hp
      exact ⟨k, by omega, h2, h3⟩
    · exact ⟨n, Nat.le_refl n, h, fun j hj hp => q ⟨j, hj, hp⟩⟩
/-- the ring from where one stands: its least round -/
theorem ring_of {L : List (Lit T)} {s : Sta T} (G : Good L s) {x : T} (hn : ∀ k, s.by_ (itr L s.by_ x k) ≠ none) {c : Nat} (h0 : itr L s.by_ x (c + 1) = x) (hl : ∀ j, 0 < j → j ≤ c → itr L s.by_ x j ≠ x) {is : List Nat} (hlen : is.length = c + 1) (his : ∀ j, j ≤ c → is[j]? = s.by_ (itr L s.by_ x j)) :
    IsRing L is (itr L s.by_ x) where
  ne := fun e => by rw [e] at hlen; cases hlen
  at_ := fun j hj => by
    obtain ⟨i, hi⟩ := Option.ne_none_iff_exists'.mp (hn j)
    obtain ⟨r, n, hL, _⟩ := G.own _ i hi
    refine ⟨i, n, by rw [his j (by omega), hi], ?_⟩
    show L[i]? = some (itr L s.by_ x j, nxt L s.by_ (itr L s.by_ x j), n)
    rw [nxt_at hi hL]
    exact hL
  back := by rw [hlen]; exact h0
  inj := by
    have key : ∀ i j, i < j → j < c + 1 → itr L s.by_ x i ≠ itr L s.by_ x j := fun i j hij hj e => by
      have e2 : itr L s.by_ x (i + (c + 1 - j)) = x := by
        rw [itr_add, e, ← itr_add, show j + (c + 1 - j) = c + 1 by omega]
        exact h0
      exact hl (i + (c + 1 - j)) (by omega) (by omega) e2
    intro i j hi hj e
    rw [hlen] at hi hj
    rcases Nat.lt_trichotomy i j with q | q | q
    · exact absurd e (key i j q hj)
    · exact q
    · exact absurd e.symm (key j i q hi)
  neg := by
    obtain ⟨js, hl2, hp, ha⟩ := pth_itr G (c + 1) x fun j _ => hn j
    have e : js = is := by
      refine List.ext_getElem? fun j => ?_
      by_cases hj : j < c + 1
      · rw [ha j hj, his j (by omega)]
      · rw [List.getElem?_eq_none (by omega), List.getElem?_eq_none (by omega)]
    subst e
    rw [h0] at hp
    exact G.ring x js (fun e => by rw [e] at hl2; cases hl2) hp
end Bf

namespace Bx
open PySem PySem.Spec PyProof.Rows L2
/-! ### dicts over texts, as functions -/
def hk (ks : List Str) (h : Str → Int) : List (Key × V) := ks.map fun t => (Sum.inr t, V.int (h t))
def bk (bs : List Str) (b : Str → Option Nat) : List (Key × V) := bs.map fun t => (Sum.inr t, V.int (((b t).getD 0 : Nat) : Int))
def fk (ks : List Str) (v : Str → V) : List (Key × V) := ks.map fun t => (Sum.inr t, v t)
theorem fk_get {v : Str → V} {t : Str} : ∀ {ks : List Str}, t ∈ ks → valV (fk ks v) (Sum.inr t) = some (v t)
  | k :: ks, h => by
    by_cases e : k = t
    · subst e
      exact valV_pos rfl
    · show valV ((Sum.inr k, v k) :: fk ks v) _ = _
      rw [valV_neg (fun q => e (Sum.inr.inj q))]
      rcases List.mem_cons.mp h with q | q
      · exact absurd q.symm e
      · exact fk_get q
theorem fk_no {v : Str → V} {t : Str} : ∀ {ks : List Str}, t ∉ ks → valV (fk ks v) (Sum.inr t) = none
  | [], _ => rfl
  | k :: ks, h => by
    have e : ¬ k = t := fun q => h (q ▸ List.mem_cons_self)
    show valV ((Sum.inr k, v k) :: fk ks v) _ = _
    rw [valV_neg (fun q => e (Sum.inr.inj q))]
    exact fk_no fun q => h (List.mem_cons_of_mem _ q)
theorem fk_any {v : Str → V} {t : Str} {ks : List Str} : ((fk ks v).any fun kv => decide (kv.1 = Sum.inr t)) = decide (t ∈ ks) := by
  rw [Bool.eq_iff_iff, List.any_eq_true, decide_eq_true_eq]
  constructor
  · rintro ⟨p, hp, e⟩
    obtain ⟨k, hk, rfl⟩ := List.mem_map.mp hp
    have e := of_decide_eq_true e
    rw [← Sum.inr.inj e]
    exact hk
  · intro h
    exact ⟨(Sum.inr t, v t), List.mem_map_of_mem h, decide_eq_true rfl⟩
theorem fk_put {v : Str → V} {t : Str} {x : V} {ks : List Str} (h : t ∈ ks) : putK (fk ks v) (Sum.inr t) x = fk ks (fun k => if k = t then x else v k) := by
  unfold putK
  rw [fk_any, decide_eq_true h, if_pos rfl]
  unfold fk
  rw [List.map_map]
  refine List.map_congr_left fun k _ => ?_
  show (if (Sum.inr k : Key) = Sum.inr t then (Sum.inr k, x) else (Sum.inr k, v k)) = (Sum.inr k, if k = t then x else v k)
  by_cases e : k = t
  · rw [if_pos (congrArg Sum.inr e), if_pos e]
  · rw [if_neg (fun q => e (Sum.inr.inj q)), if_neg e]
theorem fk_new {v : Str → V} {t : Str} {x : V} {ks : List Str} (h : t ∉ ks) : putK (fk ks v) (Sum.inr t) x = fk (ks ++ [t]) (fun k => if k = t then x else v k) := by
  unfold putK
  rw [fk_any, decide_eq_false h, if_neg Bool.false_ne_true]
  unfold fk
  rw [List.map_append]
  congr 1
  · refine List.map_congr_left fun k hk => ?_
    have e : k ≠ t := fun q => h (q ▸ hk)
    simp only [if_neg e]
  · simp
theorem hk_get {h : Str → Int} {t : Str} {ks : List Str} (m : t ∈ ks) : valV (hk ks h) (Sum.inr t) = some (.int (h t)) := fk_get (v := fun t => V.int (h t)) m
theorem hk_put {h : Str → Int} {t : Str} {n : Int} {ks : List Str} (m : t ∈ ks) : putK (hk ks h) (Sum.inr t) (.int n) = hk ks (Bf.put h t n) := by
  refine (fk_put (v := fun t => V.int (h t)) m).trans ?_
  unfold fk hk
  refine List.map_congr_left fun k _ => ?_
  unfold Bf.put
  by_cases e : k = t <;> simp [e]
theorem bk_get {b : Str → Option Nat} {t : Str} {bs : List Str} {i : Nat} (m : t ∈ bs) (hb : b t = some i) : valV (bk bs b) (Sum.inr t) = some (.int (i : Nat)) := by
  refine (fk_get (v := fun t => V.int (((b t).getD 0 : Nat) : Int)) m).trans ?_
  rw [hb]
  rfl
/-- which terms have been lowered -/
def ByOk (bs : List Str) (b : Str → Option Nat) : Prop := bs.Nodup ∧ ∀ t, t ∈ bs ↔ b t ≠ none
theorem bk_put {b : Str → Option Nat} {t : Str} {i : Nat} {bs : List Str} (ok : ByOk bs b) : ∃ bs', putK (bk bs b) (Sum.inr t) (.int (i : Nat)) = bk bs' (Bf.put b t (some i)) ∧ ByOk bs' (Bf.put b t (some i)) ∧ bs'.length ≤ bs.length + 1 := by
  have ext : ∀ x, Bf.put b t (some i) x ≠ none ↔ (x = t ∨ b x ≠ none) := fun x => by
    unfold Bf.put
    by_cases e : x = t <;> simp [e]
  have eqv : ∀ (l : List Str), fk l (fun k => if k = t then V.int (i : Nat) else V.int (((b k).getD 0 : Nat) : Int)) = bk l (Bf.put b t (some i)) := fun l => by
    unfold fk bk
    refine List.map_congr_left fun k _ => ?_
    unfold Bf.put
    by_cases e : k = t <;> simp [e]
  by_cases m : t ∈ bs
  · refine ⟨bs, (fk_put (v := fun t => V.int (((b t).getD 0 : Nat) : Int)) m).trans (eqv bs), ⟨ok.1, fun x => ?_⟩, Nat.le_succ _⟩
    rw [ext, ok.2]
    constructor
    · exact .inr
    · rintro (e | h)
      · rw [e]
        exact (ok.2 t).mp m
      · exact h
  · refine ⟨bs ++ [t], (fk_new (v := fun t => V.int (((b t).getD 0 : Nat) : Int)) m).trans (eqv _), ⟨?_, fun x => ?_⟩, by simp⟩
    · refine List.nodup_append.mpr ⟨ok.1, by simp, fun x hx y hy e => ?_⟩
      have : y = t := by simpa using hy
      rw [← this, ← e] at m
      exact m hx
    · rw [ext, List.mem_append, ok.2]
      simp [or_comm]
/-! ### loops of comprehensions of two clauses, by a word of the turn and the heap -/
theorem itt_run {K : PySem.W.Frag} {a : Addr} {xs : List V} {F : V → Hp → (Hp → Prop) → Prop} {H4 : Hp} {Nx : Hp → Prop} (Pv : Nat → Hp → Prop) (h0 : Pv 0 H4) (hl : ∀ j H, j ≤ xs.length → Pv j H → SqT K H a xs)
    (hs : ∀ j x H, xs[j]? = some x → Pv j H → F x H (Pv (j + 1))) (hd : ∀ H, Pv xs.length H → Nx H) :
    ∃ W1 : Nat → Nat → Hp → Prop, (∃ m, W1 0 m H4) ∧ ∀ j k H, W1 j k H → ((Itt K a).stop j H ∧ Nx H) ∨ ((Itt K a).go j H ∧ ∃ Nx1 : Hp → Prop, (∀ H', Nx1 H' → ∃ k', k' < k ∧ W1 (j + 1) k' H') ∧ ∀ x H', (Itt K a).yld j H x H' → F x H' Nx1) := by
  refine ⟨fun j k H => k = xs.length - j ∧ j ≤ xs.length ∧ Pv j H, ⟨xs.length, rfl, Nat.zero_le _, h0⟩, ?_⟩
  rintro j k H ⟨rfl, hj, p⟩
  have q := hl j H hj p
  by_cases hlt : j < xs.length
  · refine .inr ⟨⟨xs, xs[j], q, List.getElem?_eq_getElem hlt⟩, Pv (j + 1), fun H' p' => ⟨xs.length - (j + 1), by omega, rfl, hlt, p'⟩, fun x H' y => ?_⟩
    obtain ⟨e, y⟩ := y
    subst e
    exact hs j x _ (y xs q) p
  · have e : j = xs.length := by omega
    subst e
    exact .inl ⟨⟨xs, q, Nat.le_refl _⟩, hd H p⟩
theorem itl_run {K : PySem.W.Frag} {a : Addr} {xs : List V} {F : V → Hp → (Hp → Prop) → Prop} {H4 : Hp} {Nx : Hp → Prop} (Pv : Nat → Hp → Prop) (h0 : Pv 0 H4) (hl : ∀ j H, j ≤ xs.length → Pv j H → SqL K H a xs)
    (hs : ∀ j x H, xs[j]? = some x → Pv j H → F x H (Pv (j + 1))) (hd : ∀ H, Pv xs.length H → Nx H) :
    ∃ W1 : Nat → Nat → Hp → Prop, (∃ m, W1 0 m H4) ∧ ∀ j k H, W1 j k H → ((Itl K a).stop j H ∧ Nx H) ∨ ((Itl K a).go j H ∧ ∃ Nx1 : Hp → Prop, (∀ H', Nx1 H' → ∃ k', k' < k ∧ W1 (j + 1) k' H') ∧ ∀ x H', (Itl K a).yld j H x H' → F x H' Nx1) := by
  refine ⟨fun j k H => k = xs.length - j ∧ j ≤ xs.length ∧ Pv j H, ⟨xs.length, rfl, Nat.zero_le _, h0⟩, ?_⟩
  rintro j k H ⟨rfl, hj, p⟩
  have q := hl j H hj p
  by_cases hlt : j < xs.length
  · refine .inr ⟨⟨xs, xs[j], q, List.getElem?_eq_getElem hlt⟩, Pv (j + 1), fun H' p' => ⟨xs.length - (j + 1), by omega, rfl, hlt, p'⟩, fun x H' y => ?_⟩
    obtain ⟨e, y⟩ := y
    subst e
    exact hs j x _ (y xs q) p
  · have e : j = xs.length := by omega
    subst e
    exact .inl ⟨⟨xs, q, Nat.le_refl _⟩, hd H p⟩
end Bx

/-! x not in t, where t is a tuple or a list of data of some depth -/
namespace L2
open PySem PySem.Spec PyProof.Rows
section
variable {X : Cx}
def rNotInTD (K : PySem.W.Frag) : R2 := fun x y H Q => ∃ d ds, Dp K H x d ∧ Dp K H y (.tuple ds) ∧ PyData.canLay0 d = true ∧ PyData.canLayAll0 ds = true ∧ PyData.depth d ≤ 150 ∧ Q (.bl (!ds.any fun z => PyData.eqv z d)) H
def rNotInLD (K : PySem.W.Frag) : R2 := fun x y H Q => ∃ d ds, Dp K H x d ∧ Dp K H y (.list ds) ∧ PyData.canLay0 d = true ∧ PyData.canLayAll0 ds = true ∧ PyData.depth d ≤ 150 ∧ Q (.bl (!ds.any fun z => PyData.eqv z d)) H
theorem op_notInTD {k : Nat} (hr : Room k X.A) : OpR X (compareOp .NotIn) (rNotInTD X.K) := by
  intro pins s σ H x y v u Q I rx ry h
  obtain ⟨d, ds, hd, he, sd, se, dd, q⟩ := h
  obtain ⟨as, r1⟩ := Dp.reads I d x v hd rx
  obtain ⟨bs, r2⟩ := Dp.reads I (.tuple ds) y u he ry
  exact SeqAt.notIn_tuple_reads r2 r1 se sd (by have := hr.un; omega) ⟨.bl _, H, I, rfl, q⟩
theorem op_notInLD {k : Nat} (hr : Room k X.A) : OpR X (compareOp .NotIn) (rNotInLD X.K) := by
  intro pins s σ H x y v u Q I rx ry h
  obtain ⟨d, ds, hd, he, sd, se, dd, q⟩ := h
  obtain ⟨as, r1⟩ := Dp.reads I d x v hd rx
  obtain ⟨bs, r2⟩ := Dp.reads I (.list ds) y u he ry
  exact SeqAt.notIn_list_reads r2 r1 se sd (by have := hr.un; omega) ⟨.bl _, H, I, rfl, q⟩
/-- the same, within a frame of the frag K -/
theorem notInLDK (K : PySem.W.Frag) {k : Nat} (hr : Room k X.A) (h : X.K = K := by rfl) : OpR X (compareOp .NotIn) (rNotInLD K) := by
  subst h
  exact op_notInLD hr
end
end L2

set_option maxHeartbeats 2000000
/-! list.extend with a tuple of any making -/
namespace PySem
open PyProof
namespace ExtT
theorem extend_tup (l : Addr) (items : Array Value) (n : Nat) (b : Addr) (od : Option Addr) (sl : Array (Option Value)) (items2 : Array Value) (n2 : Nat) (hs0 : ¬(!items.isEmpty && Builtin.List.listTooLong (items.size + items2.size)) = true) (hs1 : items.size ≤ sizeLine) (hs2 : items.size + items2.size ≤ sizeLine + 1) :
    Meets (Builtin.«list.extend» ⟨[.ref l, .ref b], []⟩) (fun _ R s => s.heap.get? l = some { cls := .type "list", dict := none, data := .seq items n, slots := #[] } ∧ s.heap.get? b = some { cls := .type "tuple", dict := od, data := .seq items2 n2, slots := sl } ∧ R (.ok (.ret Value.none)) { s with heap := s.heap.update l (Obj.mapSeq fun x => x ++ items2), toks := s.toks }) :=
  .of_wp fun prog w A R s h => by
    obtain ⟨hp, g, d, tk, os⟩ := s; obtain ⟨hl, hb, h⟩ := h
    have hz' : (items ++ items2).size ≤ sizeLine + 1 := by rw [Array.size_append]; exact hs2
    wp_walk using (wpAny_updateSeq hl rfl (hz := hs1) (_hz' := hz')), wpAny_loadPart' hl, wpAny_loadPart' hb; exact ⟨_, rfl, h⟩
end ExtT
end PySem
namespace L2
open PySem PySem.Spec PyProof.Rows
section
variable {X : Cx}
def rExtendT (K : PySem.W.Frag) : V → List V → Hp → VK → Prop := fun x vs H Q => ∃ l b xs zs, x = .ref l ∧ vs = [.ref b] ∧ H l = some (.lst xs) ∧ SqT K H b zs ∧ xs.length + zs.length ≤ sizeLine ∧ Q .non (upd H l (.lst (xs ++ zs)))
theorem mt_extendT : MtM X "list.extend" (rExtendT X.K) := by
  intro pins s σ H x vs v us Q I rx rv h
  obtain ⟨l, b, xs, zs, rfl, rfl, hH, hB, hz, q⟩ := h
  cases rx
  obtain ⟨u, rfl, ru⟩ := rv.one
  cases ru
  obtain ⟨z, its, n, r, hl, e⟩ := I.lstM hH
  obtain ⟨its2, r2, ⟨o2, e2, hc2, n2, hd2⟩, hl2⟩ := I.tuple hB
  obtain ⟨oc, od, odt, osl⟩ := o2
  dsimp only at hc2 hd2
  subst hc2 hd2
  have e3 := r2.length
  have hsz : its.toArray.size + its2.toArray.size ≤ sizeLine := by rw [List.size_toArray, List.size_toArray]; omega
  have hlong : ¬ (!its.toArray.isEmpty && Builtin.List.listTooLong (its.toArray.size + its2.toArray.size)) = true := by
    rw [notLongL hsz, Bool.and_false]
    exact Bool.false_ne_true
  refine call_meets F.slot_list_extend ⟨_, e, rfl⟩ F.entry_list_extend (F.args_list_extend_2 _ _)
    (ExtT.extend_tup l its.toArray n b od osl its2.toArray n2 hlong (by rw [List.size_toArray]; omega) (by omega)) ⟨e, e2, ?_⟩
  refine ⟨.non, _, I.lset (its' := its ++ its2) hH e (by simp) (r.append r2) ?_, rfl, q⟩
  rw [List.length_append]
  omega
/-- o.extend(e) with a tuple, within a frame of the frag K -/
theorem extK (K : PySem.W.Frag) (h : X.K = K := by rfl) : MtM X "list.extend" (rExtendT K) := by subst h; exact mt_extendT
end
end L2

/-! tuple(d) of a dict with keys of ints and texts -/
namespace Td
open PySem PySem.Spec PySem.W PySem.Calls PyProof.Rows
section
variable {prog : Program} {w : World} {A : Around} {E : Value → Shared → Prop} {s : Shared} {T : String} {r d : Addr} {n : Nat} {P : Nat → Value → Prop} {OK : Heap → Prop}
theorem kdl_collect {Q : List Value → Shared → Prop} (K : KdlSrc prog w T r d n P OK) (hh : A.handled = none) (hok : OK s.heap) (hn : n ≤ sizeLine)
    (hQ : ∀ (h' : Heap) (tk : Nat) (acc : Array Value), (∀ b o, s.heap.get? b = some o → h'.get? b = some o) → ItemsOf P acc n → Q acc.toList { s with heap := h', toks := tk }) :
    wpAny (model prog w) A (collect (.ref r)) Q E s := by
  unfold collect
  refine wpAny_bind (wpAny_runValue (codeAny_builtin F.entry_proto_collect ?_))
  rw [Around.under_plainId F.plain_proto_collect _]
  show wpAny _ A.in1 (newList [] >>= fun l => again (.builtin "list.__iadd__" ⟨[l, .ref r], []⟩)) _ _ s
  refine wpAny_bind (wpAny_newObj_type ?_)
  refine wpAny_pure ⟨plainId_quiet F.plain_list_iadd _, codeAny_builtin F.entry_list_iadd ?_⟩
  rw [Around.under_plainId F.plain_list_iadd _]
  show wpAny _ A.in1 (Builtin.List.listExtendWith (.ref s.heap.objs.size) (.ref r) (.ref s.heap.objs.size)) _ _ _
  have hS : (s.heap.push { cls := .type "list", data := .seq ([] : List Value).toArray }).get? s.heap.objs.size = some { cls := .type "list", data := .seq #[] 0 } := Heap.get?_push_size _ rfl
  have hlt := K.there _ hok
  refine wpAny_mono (kdl_extend (A := A) (R := fun x s' => x = .ok (.ret (.ref s.heap.objs.size)) ∧ ∃ h' tk acc c, s' = { s with heap := h', toks := tk } ∧ (∀ b o, s.heap.get? b = some o → h'.get? b = some o) ∧ h'.get? s.heap.objs.size = some { cls := .type "list", dict := none, data := .seq acc c, slots := #[] } ∧ ItemsOf P acc n) K hh
    (s := { s with heap := s.heap.push { cls := .type "list", data := .seq ([] : List Value).toArray } }) (K.keep _ _ hok fun b _ o e => Heap.get?_push_of_some _ e) _ (Nat.ne_of_gt hlt.1) (Nat.ne_of_gt hlt.2) _ 0 hS
    (fun h' tk acc' c' hk hS' hacc => ⟨rfl, h', tk, acc', c', rfl, fun b o e => hk b o (Nat.ne_of_lt (Heap.lt_size e)) (Heap.get?_push_of_some _ e), hS', hacc⟩) hn) (fun fin s' h => ?_) (fun e s' h => ?_)
  · have fin' : ∀ s' : Shared, (∃ h' tk acc c, s' = { s with heap := h', toks := tk } ∧ (∀ b o, s.heap.get? b = some o → h'.get? b = some o) ∧ h'.get? s.heap.objs.size = some { cls := .type "list", dict := none, data := .seq acc c, slots := #[] } ∧ ItemsOf P acc n) →
        wpAny (model prog w) A (match Value.ref s.heap.objs.size with
          | Value.ref a => do
            match (← load a).data with
              | Data.seq xs _ => pure xs.toList
              | _ => unsupported "internal:collect"
          | _ => unsupported "internal:collect") Q E s' := by
      rintro _ ⟨h', tk, acc, c, rfl, hk, hS', hacc⟩
      show wpAny _ A (load s.heap.objs.size >>= _) _ _ _
      refine wpAny_bind (wpAny_load hS' ?_)
      exact wpAny_pure (hQ h' tk acc hk hacc)
    cases fin with
    | done f =>
      obtain ⟨e, h⟩ := h
      cases e
      exact fin' _ h
    | again c' => exact ⟨h.1, codeAny_mono h.2 fun x s'' hx => by obtain ⟨rfl, h⟩ := hx; exact fin' _ h⟩
  · exact absurd h.1 (by simp)
theorem code_tuple_new {Q₁ : Value → Shared → Prop} (K : KdlSrc prog w T r d n P OK) (hn : n ≤ sizeLine) (hok : OK s.heap) (hh : A.handled = none) (hT : T ≠ "tuple")
    (hQ : ∀ (h' : Heap) (tk : Nat) (acc : Array Value), (∀ b o, s.heap.get? b = some o → h'.get? b = some o) → ItemsOf P acc n → Q₁ (.ref h'.objs.size) { s with heap := h'.push { cls := .type "tuple", data := .seq acc }, toks := tk }) :
    codeAny (model prog w) A (.call (.builtin "tuple.__new__") ⟨[.type "tuple", .ref r], []⟩) (wants Q₁ E) s := by
  refine codeAny_of_tree ?_
  show wpAny _ A.in1 (do checkBuiltinCall "tuple.__new__" ⟨[.type "tuple", .ref r], []⟩; again (.builtin "tuple.__new__" ⟨[.type "tuple", .ref r], []⟩)) _ _ s
  refine wpAny_bind (wpAny_of_eq (PySem.F.newCall_tuple_1 (.ref r)) (wpAny_pure ⟨plainId_quiet (by decide +kernel) _, codeAny_builtin PySem.F.entry_tuple_new ?_⟩))
  rw [Around.under_plainId (by decide +kernel) _]
  have hsub := sub_tuple_self
  have hinit := init_tuple_lookup
  have hmh := madeHere_tuple
  obtain ⟨hp, g, dd, tk, os⟩ := s
  have ht : Shared.TypeIs ⟨hp, g, dd, tk, os⟩ (.ref r) T := K.type ⟨hp, g, dd, tk, os⟩ hok
  have hcol : ∀ {Q : List Value → Shared → Prop} {E' : Value → Shared → Prop}, (∀ (h' : Heap) (tk' : Nat) (acc : Array Value), (∀ b o, hp.get? b = some o → h'.get? b = some o) → ItemsOf P acc n → Q acc.toList { heap := h', gens := g, drawn := dd, toks := tk', os := os }) → wpAny (model prog w) A.in1 (collect (.ref r)) Q E' ⟨hp, g, dd, tk, os⟩ :=
    fun h => kdl_collect (s := ⟨hp, g, dd, tk, os⟩) K hh hok hn h
  have hTb : (Value.type T == Value.type "tuple") = false := by simpa using hT
  wp_walk using wpAny_typeOf ht, hcol
  intro h' tk' acc hk hI
  show wpAny _ _ (Builtin.Tuple.tupleExact acc.toList.toArray >>= fun v => ret v) _ _ _
  unfold Builtin.Tuple.tupleExact
  refine wpAny_bind (wpAny_newObj_type ?_ (by show acc.toList.toArray.size ≤ sizeLine; simp; rw [hI.1]; exact hn))
  refine wpAny_pure ?_
  have e : acc.toList.toArray = acc := by simp
  show Q₁ (.ref h'.objs.size) { heap := h'.push { cls := .type "tuple", data := .seq acc.toList.toArray }, gens := g, drawn := dd, toks := tk', os := os }
  rw [e]
  exact hQ h' tk' acc hk hI
end
end Td
namespace L2
open PySem PySem.Spec PyProof.Rows
def rTupD : List V → Hp → VK → Prop := fun xs H Q => ∃ p kvs, xs = [.ref p] ∧ H p = some (.dK kvs) ∧ ∀ q, H q = none → Q (.ref q) (upd H q (.tup (kvs.map fun kv => kV kv.1)))
theorem call_tuple_dK {X : Cx} (hc : X.calm = true) : CallR X (.type "tuple") rTupD := by
  intro pins s σ H xs us Q I r h
  obtain ⟨p, kvs, e, hk, q⟩ := h
  subst e
  obtain ⟨u, eu, rx⟩ := vals1 r
  subst eu
  obtain rfl : u = Value.ref p := rx
  obtain ⟨z, lo, vs, rk, hd⟩ := (show ObjOk X.prog X.w H s.heap p (.dK kvs) from I.hok p _ hk)
  obtain ⟨ep, hat⟩ := hd.dictAt
  have hl : kvs.length = vs.length := Paired.length rk
  have ft := PySem.F.called_tuple
  refine PySem.callType_codes (Q₁ := fun obj s₁ => s₁.TypeIs obj "tuple" ∧ (EP X pins σ Q) obj s₁) ft (PySem.F.typeCall_tuple_1 _) PySem.F.entry_object_init
    (Td.code_tuple_new (PySem.W.kdl_dict (knd := mixKind X.prog X.w) (kvs := vs) (ep := ep) lo) (by rw [← hl]; exact z) hat (I.ok.hd hc) (by decide) fun h' tk acc hkeep hacc => ?_) fun obj s₁ hq => ?_
  · refine ⟨⟨_, Heap.get?_push_size _ rfl, rfl⟩, .ref h'.objs.size, upd H h'.objs.size (.tup (kvs.map fun kv => kV kv.1)), ?_, rfl, ?_⟩
    · have I1 : Inv X pins σ H { s with heap := h', toks := tk } := I.kept hkeep
      refine I1.laid (t' := tk) (fun b o e => Heap.get?_push_of_some _ e) (Nat.le_refl _) (show ObjOk X.prog X.w _ _ _ (.tup (kvs.map fun kv => kV kv.1)) from ⟨?_, acc.toList, ?_, ?_⟩)
      · rw [List.length_map]; exact z
      · have el : acc.toList.length = acc.size := by simp
        refine vals_of_at (by rw [List.length_map, el, hacc.1, hl]) fun j x w h1 h2 => ?_
        obtain ⟨k, y, hky, hi⟩ := hacc.2 j w (by rw [← Array.getElem?_toList]; exact h2)
        have e1 : (kvs.map (·.1))[j]? = some k := by
          rw [KV.keys rk, List.getElem?_map, hky] <;> rfl
        have e2 : (kvs.map fun kv => kV kv.1)[j]? = some (kV k) := by
          have e3 : (kvs.map fun kv => kV kv.1) = (kvs.map (·.1)).map kV := by rw [List.map_map] <;> rfl
          rw [e3, List.getElem?_map, e1] <;> rfl
        rw [e2] at h1
        cases h1
        exact keyIs_rel hi
      · have e : acc.toList.toArray = acc := by simp
        rw [e]
        exact IsTup.new _ _
    · have I1 : Inv X pins σ H { s with heap := h', toks := tk } := I.kept hkeep
      exact q _ (I1.hok.fresh (Nat.le_refl _))
  · obtain ⟨ht, hq⟩ := hq
    exact ⟨ht, PySem.F.args_object_init_2 obj _, (PySem.object_init_meets ft.init.lookup ft.made (by decide)) _ _ _ _ _ ⟨ht, rfl, hq⟩⟩
end L2

/-! sorted(set(texts)) of a list, as one expression -/
namespace Tx
open PySem PySem.Spec PyProof.Rows L2
def txOf (e : Int × Value) : Str := match e.2 with
  | .str k _ => k
  | _ => Str.empty
def Txt (w : World) (e : Int × Value) : Prop := ∃ k tk, e.2 = Value.str k tk ∧ e.1 = hashStr w k
/-- the set of texts at a -/
def SetT (w : World) (h : Heap) (a : Addr) (S : Str → Bool) (n : Nat) : Prop :=
  ∃ (o : Obj) (es : Array (Int × Value)) (ep : Nat) (t : SetTable), h.get? a = some o ∧ o.ExactSet ∧ o.data = .set es ep t ∧ (∀ e ∈ es.toList, Txt w e) ∧ (es.toList.map txOf).Nodup ∧ (∀ k, S k = true ↔ k ∈ es.toList.map txOf) ∧
    es.size < scanBound ∧ t.fits es.size = true ∧ es.size = n ∧ Ris t.place.toList ∧ (w.params.followText "set-order" = true ∨ t.led = true)
section
variable {P : Program} {w : World} {h h' : Heap} {a : Addr} {S : Str → Bool} {n : Nat}
theorem SetT.at (x : SetT w h a S n) (k : ∀ o, h.get? a = some o → h'.get? a = some o) : SetT w h' a S n := by
  obtain ⟨o, es, ep, t, ho, z⟩ := x
  exact ⟨o, es, ep, t, k o ho, z⟩
theorem SetT.congr {S' : Str → Bool} (x : SetT w h a S n) (e : ∀ k, S' k = S k) : SetT w h a S' n := (funext e : S' = S) ▸ x
theorem txt_elems {l : List (Int × Value)} (g : ∀ e ∈ l, Txt w e) : ElemsOf (strKind P w) l := fun e he => by
  obtain ⟨k, tk, h1, h2⟩ := g e he
  exact ⟨⟨k, by rw [h1]; exact strKind_is P w k tk, h2⟩, by rw [h1] <;> rfl⟩
theorem txt_is {e : Int × Value} (g : Txt w e) (k : Str) : (strKind P w).is k e.2 = true ↔ txOf e = k := by
  obtain ⟨k0, tk, h1, _⟩ := g
  unfold txOf
  rw [h1]
  constructor
  · intro z
    exact (strKind P w).inj (.str k0 tk) k0 k (strKind_is P w k0 tk) z
  · intro z
    rw [← z]
    exact strKind_is P w k0 tk
theorem txt_mem {l : List (Int × Value)} (g : ∀ e ∈ l, Txt w e) (k : Str) : k ∈ l.map txOf ↔ ∃ e ∈ l, (strKind P w).is k e.2 = true := by
  rw [List.mem_map]
  exact ⟨fun ⟨e, he, q⟩ => ⟨e, he, (txt_is (g e he) k).2 q⟩, fun ⟨e, he, q⟩ => ⟨e, he, (txt_is (g e he) k).1 q⟩⟩
end
section
variable {P : Program} {w : World} {A : Around} {E : Value → Shared → Prop} {s : Shared} {a : Addr} {S : Str → Bool} {n : Nat}
theorem setT_tail {g : Bool → Sem Unit} (hg : ∀ (b : Bool) (s₁ : Shared) (Q' : Unit → Shared → Prop), Q' () s₁ → wpAny (model P w) A (g b) Q' E s₁)
    {o : Obj} {es : Array (Int × Value)} {ep : Nat} {t : SetTable} (ho : s.heap.get? a = some o) (hex : o.ExactSet) (hd : o.data = .set es ep t)
    {es1 : Array (Int × Value)} {t2 : SetTable} {S' : Str → Bool} (g1 : ∀ e ∈ es1.toList, Txt w e) (nd1 : (es1.toList.map txOf).Nodup) (m1 : ∀ k, S' k = true ↔ k ∈ es1.toList.map txOf)
    (hb1 : es1.size < scanBound) (hf2 : t2.fits es1.size = true) (hr : Ris t2.place.toList) (hl : w.params.followText "set-order" = true ∨ t2.led = true) {wasDummy : Bool} {R : Option Bool → Shared → Prop}
    (hR : ∀ h', Heap.SameBut a s.heap h' → SetT w h' a S' es1.size → R (some true) { s with heap := h' }) :
    wpAny (model P w) A (do
        storeSet a es1 t2
        if (!wasDummy && t2.tooFull) = true then do
            g (relayAll t2 es1 (SetTable.grown es1.size)).2.2
            storeSet a (relayAll t2 es1 (SetTable.grown es1.size)).1 (relayAll t2 es1 (SetTable.grown es1.size)).2.1
            pure (some true)
          else pure (some true)) R E s := by
  have ho1 := store_at (es' := es1) (t' := t2) ho hd
  have sb1 := Heap.SameBut.update s.heap a (Obj.putSet es1 t2)
  refine wpAny_bind (wpAny_storeSet_of ho hd ?_ (fits_of_scanBound hb1))
  split
  · have pm := relayAll_perm t2 es1 (SetTable.grown es1.size)
    have hf3 := relayAll_fits t2 es1 (SetTable.grown es1.size)
    have hr3 := relayAll_ris t2 es1 (SetTable.grown es1.size)
    have hl3 := relayAll_led t2 es1 (SetTable.grown es1.size)
    generalize relayAll t2 es1 (SetTable.grown es1.size) = Z at pm hf3 hr3 hl3 ⊢
    obtain ⟨es2, t3, gave⟩ := Z
    dsimp only at pm hf3 hr3 hl3 ⊢
    have e2 : es2.size = es1.size := by rw [← Array.length_toList, pm.length_eq, Array.length_toList]
    refine wpAny_bind (hg _ _ _ (wpAny_bind (wpAny_storeSet_of ho1 rfl ?_ (fits_of_scanBound (by rw [e2]; exact hb1)))))
    have ho2 := store_at (es' := es2) (t' := t3) ho1 rfl
    refine wpAny_pure (hR _ (sb1.trans (Heap.SameBut.update _ a _)) ⟨_, es2, _, t3, ho2, hex, rfl, fun e he => g1 e (pm.mem_iff.mp he), (pm.map txOf).nodup_iff.mpr nd1, fun k => (m1 k).trans (pm.map txOf).mem_iff.symm, by rw [e2]; exact hb1, hf3, e2, hr3, ?_⟩)
    rw [hl3]
    exact hl
  · exact wpAny_pure (hR _ sb1 ⟨_, es1, _, t2, ho1, hex, rfl, g1, nd1, m1, hb1, hf2, rfl, hr, hl⟩)
theorem setT_add {k : Str} {tk : Tok} {Q : Bool → Shared → Prop} (x : SetT w s.heap a S n) (room : n + 1 < scanBound)
    (hQ : ∀ h', Heap.SameBut a s.heap h' → SetT w h' a (fun j => S j || decide (j = k)) (if S k = true then n else n + 1) → Q (!S k) { s with heap := h' }) :
    wpAny (model P w) A (setAddHashed a (.str k tk) ((strKind P w).hash k)) Q E s := by
  obtain ⟨o, es, ep, t, ho, hex, hd, g, nd, hm, hb, hf, hn, hr, hl⟩ := x
  have hkey : (strKind P w).is k (.str k tk) = true := strKind_is P w k tk
  have hsc : (Value.str k tk).scannable = true := rfl
  have hel : ElemsOf (strKind P w) es.toList := txt_elems g
  unfold setAddHashed setAddHashedIn
  refine wpAny_holding (wpAny_bind (wpAny_setState_of ho hd hf ?_))
  dsimp only
  rw [byScan_of hsc hb hel]
  simp only [↓reduceIte]
  unfold setAddByScan
  refine wpAny_bind (wpAny_bind (wpAny_rule ?_))
  refine wpAny_bind (wpAny_setScan_of hkey ho hd hf hel ?_)
  cases hfi : List.findIdx? (fun e => (strKind P w).is k e.2) es.toList with
  | some j =>
    dsimp only
    obtain ⟨hj, pj, _⟩ := List.findIdx?_eq_some_iff_getElem.mp hfi
    have hSk : S k = true := (hm k).2 ((txt_mem (P := P) (w := w) g k).2 ⟨es.toList[j], List.getElem_mem hj, pj⟩)
    have q := hQ s.heap (Heap.SameBut.refl a s.heap) ⟨o, es, ep, t, ho, hex, hd, g, nd, fun i => by
      rw [Bool.or_eq_true, decide_eq_true_eq, ← hm i]
      exact ⟨fun z => z.elim id (fun e => e ▸ hSk), .inl⟩, hb, hf, by rw [if_pos hSk]; exact hn, hr, hl⟩
    rw [hSk] at q
    exact wpAny_pure (wpAny_pure q)
  | none =>
    dsimp only
    have hnk : k ∉ es.toList.map txOf := fun z => by
      obtain ⟨e, he, q⟩ := (txt_mem (P := P) (w := w) g k).1 z
      exact absurd q (by rw [List.findIdx?_eq_none_iff.mp hfi e he]; exact Bool.false_ne_true)
    have hSk : S k = false := Bool.eq_false_iff.mpr fun q => hnk ((hm k).1 q)
    have hgw : ∀ (b : Bool) {s₁ : Shared} {Q' : Unit → Shared → Prop}, Q' () s₁ → wpAny (model P w) A (match b with | true => rule "set.scan.the-table-gave-way" | false => pure ()) Q' E s₁ :=
      fun b s₁ Q' q => by cases b <;> first | exact wpAny_pure q | exact wpAny_rule q
    have pm := layNew_perm t es ((strKind P w).hash k) (.str k tk)
    have hf1 := layNew_fits t es ((strKind P w).hash k) (.str k tk)
    have hr1 := layNew_ris t es ((strKind P w).hash k) (.str k tk) hr
    have hl1 := layNew_led t es ((strKind P w).hash k) (.str k tk)
    generalize layNew t es ((strKind P w).hash k) (.str k tk) = Z at pm hf1 hr1 hl1 ⊢
    obtain ⟨es1, t1, wasDummy, gave⟩ := Z
    dsimp only at pm hf1 hr1 hl1 ⊢
    rw [Array.toList_push] at pm
    have pc : es1.toList.Perm (((strKind P w).hash k, Value.str k tk) :: es.toList) := pm.trans (List.perm_append_singleton _ _)
    have pk : (es1.toList.map txOf).Perm (k :: es.toList.map txOf) := pc.map txOf
    have g1 : ∀ e ∈ es1.toList, Txt w e := fun e he => (List.mem_cons.mp (pc.mem_iff.mp he)).elim (fun z => by rw [z]; exact ⟨k, tk, rfl, rfl⟩) (g e)
    have nd1 : (es1.toList.map txOf).Nodup := pk.nodup_iff.mpr (List.nodup_cons.mpr ⟨hnk, nd⟩)
    have m1 : ∀ i, (S i || decide (i = k)) = true ↔ i ∈ es1.toList.map txOf := fun i => by
      rw [Bool.or_eq_true, decide_eq_true_eq, hm i, pk.mem_iff, List.mem_cons]
      exact Or.comm
    have e1 : es1.size = n + 1 := by rw [← Array.length_toList, pc.length_eq, List.length_cons, Array.length_toList, hn]
    have hled : w.params.followText "set-order" = true ∨ t1.led = true := by rw [hl1]; exact hl
    have fin : ∀ h', Heap.SameBut a s.heap h' → SetT w h' a (fun j => S j || decide (j = k)) es1.size → Q true { s with heap := h' } := fun h' sb r => by
      have q := hQ h' sb
      rw [hSk] at q
      rw [e1] at r
      exact q r
    have hb1 : es1.size < scanBound := by rw [e1]; exact room
    refine wpAny_bind (hgw _ ?_)
    split
    · refine wpAny_bind ?_
      rw [hashByValue_scannable 8 hsc]
      refine wpAny_pure (setT_tail ?_ ho hex hd g1 nd1 m1 hb1 ?_ ?_ ?_ ?_)
      · intro b s₁ Q' q; cases b <;> first | exact wpAny_pure q | exact wpAny_rule q
      · first | (split <;> first | exact hf1 | exact SetTable.fits_plain_off hf1) | exact hf1
      · first | (split <;> exact hr1) | exact hr1
      · first | (split <;> exact hled) | exact hled
      · intro h' sb r; dsimp only; exact wpAny_pure (fin h' sb r)
    · refine wpAny_bind (wpAny_pure ?_)
      simp only [↓reduceIte]
      refine setT_tail ?_ ho hex hd g1 nd1 m1 hb1 hf1 hr1 hled ?_
      · intro b s₁ Q' q; cases b <;> first | exact wpAny_pure q | exact wpAny_rule q
      · intro h' sb r; dsimp only; exact wpAny_pure (fin h' sb r)
theorem setT_loop {I : Addr} {fp wr : List Addr} {G : Array GenState → Array GenState → Prop} {n : Nat} {Pv : Nat → Value → Prop} {St : Nat → Shared → Prop} {R : Result → Shared → Prop}
    (W : WalksS P w A.in1 I fp wr G n Pv St) (C : Addr) (hCf : C ∉ fp) (xs : List Str) (hn : n = xs.length) (hb : xs.length + 1 < scanBound) (hval : ∀ i v, Pv i v → ∃ k t, xs[i]? = some k ∧ v = .str k t) :
    ∀ (k i : Nat) (s : Shared), n - i = k → i ≤ n → St i s → (∃ c, c ≤ i ∧ SetT w s.heap C (fun j => decide (j ∈ xs.take i)) c) →
      (∀ s' c, Moved (C :: wr) G s s' → c ≤ n → SetT w s'.heap C (fun j => decide (j ∈ xs)) c → R (.ok (.ret .none)) s') →
      codeAny (model P w) A (.builtin "set.update.loop" ⟨[.ref C, .ref I], []⟩) R s := by
  have hCw : C ∉ wr := fun h => hCf (W.sub _ h)
  have hsub : ∀ b ∈ wr, b ∈ C :: wr := fun b hb => List.mem_cons_of_mem _ hb
  intro k
  induction k with
  | zero =>
    intro i s hk' hi hst ⟨c, hc, x⟩ hR
    obtain rfl : i = n := by omega
    refine codeAny_builtin F.entry_set_update_loop ?_
    rw [Around.under_plainId F.plain_set_update_loop _]
    show wpAny _ A.in1 (pyNext (.ref I) >>= _) _ _ s
    refine wpAny_bind (W.done s _ _ hst fun s' hm => ?_)
    rw [show xs.take i = xs from List.take_of_length_le (by omega)] at x
    exact wpAny_pure (hR s' c (hm.mono hsub) hc (x.at fun o e => hm.heap C o hCw e))
  | succ k ih =>
    intro i s hk' hi hst ⟨c, hc, x⟩ hR
    have hlt : i < n := by omega
    refine codeAny_builtin F.entry_set_update_loop ?_
    rw [Around.under_plainId F.plain_set_update_loop _]
    show wpAny _ A.in1 (pyNext (.ref I) >>= _) _ _ s
    refine wpAny_bind (W.item i s _ _ hlt hst fun v s' hP hst' hm => ?_)
    obtain ⟨z, t, hz, rfl⟩ := hval i v hP
    have x' : SetT w s'.heap C (fun j => decide (j ∈ xs.take i)) c := x.at fun o e => hm.heap C o hCw e
    show wpAny _ A.in1 (holding [Value.str z t] (setAdd C (.str z t)) >>= _) _ _ s'
    refine wpAny_bind (wpAny_holding ?_)
    unfold setAdd
    refine wpAny_holding (wpAny_bind ((strKind P w).pyHash (k := z) (strKind_is _ _ _ _) ?_))
    refine setT_add (s := { s' with toks := s'.toks + 1 }) x' (by omega) fun h' hsb x2 => ?_
    have x3 : SetT w h' C (fun j => decide (j ∈ xs.take (i + 1))) (if decide (z ∈ xs.take i) = true then c else c + 1) := x2.congr fun j => by
      rw [List.take_add_one, hz]
      simp [List.mem_append]
    have hc3 : (if decide (z ∈ xs.take i) = true then c else c + 1) ≤ i + 1 := by
      split <;> omega
    refine wpAny_pure ⟨plainId_quiet F.plain_set_update_loop _, ih (i + 1) _ (by omega) hlt (W.frame _ s' _ _ hst' (Nat.le_succ _) fun b hb o e => ?_) ⟨_, hc3, x3⟩ fun s'' c2 hm'' hc'' x'' => hR s'' c2 (Moved.trans W.gtrans ((hm.mono hsub).then_heap (Nat.le_succ _) fun b o hb e => ?_) hm'') hc'' x''⟩
    · rw [hsb.2 b (fun h : b = C => hCf (by rw [← h]; exact hb))]; exact e
    · rw [hsb.2 b (fun h : b = C => hb (by rw [h]; exact List.mem_cons_self))]; exact e
end
end Tx

namespace Tx
open PySem PySem.Spec PyProof.Rows L2
abbrev setNew (w : World) : Obj := { cls := .type "set", dict := none, data := .set #[] 0 (.fresh 0 0 (!w.params.followText "set-order")) }
theorem setT_fresh {w : World} {h : Heap} {a : Addr} {xs : List Str} (ho : h.get? a = some (setNew w)) : SetT w h a (fun j => decide (j ∈ xs.take 0)) 0 := by
  refine ⟨_, #[], 0, _, ho, ⟨rfl, rfl, rfl⟩, rfl, (fun e he => by simp at he), (by simp), (fun k => by simp), (by decide), (by rfl), rfl, List.Pairwise.nil, ?_⟩
  show _ ∨ (!w.params.followText "set-order") = true
  cases w.params.followText "set-order"
  · exact .inr rfl
  · exact .inl rfl
section
variable {P : Program} {w : World} {A : Around} {E : Value → Shared → Prop} {s : Shared}
theorem strs_get {us : List Value} {xs : List Str} (h : StrsAre us xs) {i : Nat} {v : Value} (e : us[i]? = some v) : ∃ k t, xs[i]? = some k ∧ v = .str k t := by
  induction h generalizing i with
  | nil => simp at e
  | cons y t hr ih =>
    cases i with
    | zero => exact ⟨y, t, rfl, (Option.some.inj e).symm⟩
    | succ i => exact ih e
set_option maxHeartbeats 3200000 in
theorem set_list {l : Addr} {items : Array Value} (xs : List Str) {Q : Value → Shared → Prop} (hh : A.handled = none) (hl : s.heap.IsList l items) (hit : StrsAre items.toList xs) (hb : xs.length + 1 < scanBound)
    (h : ∀ (h' : Heap) (tk c : Nat), SetT w h' s.heap.objs.size (fun j => decide (j ∈ xs)) c → c ≤ xs.length → (∀ b o, s.heap.get? b = some o → h'.get? b = some o) → Q (.ref s.heap.objs.size) { s with heap := h', toks := tk }) :
    wpAny (model P w) A (call (.type "set") [.ref l]) Q E s := by
  have hisz : items.size = xs.length := by
    rw [← Array.length_toList]
    exact StrsAre.length hit
  obtain ⟨c, tl, hmro⟩ := F.called_set.mro
  have hmade := F.called_set.made
  have hsub := F.called_set.sub
  refine wpAny_call (codeAny_of_tree ?_)
  show wpAny _ _ (callAny (.type "set") _) _ _ _
  refine wpAny_pure ⟨Code.quiet_builtin _ (by decide +kernel), codeAny_builtin F.entry_type_call ?_⟩
  rw [Around.under_plain (weight_type_call_type "set" [.ref l] []) rfl]
  have h1 := F.called_set.notType
  have h2 := F.called_set.canCreate
  have hct := F.typeCall_set_1 (.ref l)
  repeat (any_goals (first | assumption | wp_step))
  refine codeAny_mono (code_set_led1 (.ref l) (E := E) (Q₁ := fun obj s₁ => obj = .ref s.heap.objs.size ∧ s₁ = { s with heap := s.heap.push (setNew w) }) ⟨rfl, rfl⟩) fun r s₁ hr => ?_
  cases r with
  | error e => exact hr
  | ok fl =>
    cases fl with
    | ret obj =>
      obtain ⟨rfl, rfl⟩ := hr
      have hS : (s.heap.push (setNew w)).get? s.heap.objs.size = some (setNew w) := Heap.get?_push_size _ rfl
      have hT : Shared.TypeIs { s with heap := s.heap.push (setNew w) } (.ref s.heap.objs.size) "set" := ⟨_, hS, rfl⟩
      have hli := F.called_set.init.lookup
      have hbi := F.called_set.init.bind (.ref s.heap.objs.size)
      repeat (any_goals (first | assumption | wp_step))
      refine codeAny_mono (codeAny_call_builtin (R := wants (fun r s₂ => r = .none ∧ ∃ h' tk c, s₂ = { s with heap := h', toks := tk } ∧ SetT w h' s.heap.objs.size (fun j => decide (j ∈ xs)) c ∧ c ≤ xs.length ∧
          (∀ b o, s.heap.get? b = some o → h'.get? b = some o)) E) F.called_set.init.plain F.entry_set_init (check_set_init_1 hT ?_)) fun r₂ s₂ hr₂ => ?_
      · obtain ⟨ol, hol, hcl, nl, hdl⟩ := hl
        obtain ⟨ocls, odict, odata, oslots⟩ := ol
        simp only at hcl hdl
        subst hcl; subst hdl
        have hol' : (s.heap.push (setNew w)).get? l = some { cls := .type "list", dict := odict, data := .seq items nl, slots := oslots } := Heap.get?_push_of_some _ hol
        have hsls := F.sub_list_set
        have hslf := F.sub_list_frozenset
        have hne : (Value.type "list" == Value.type "dict") = false := by decide
        have hl1 : (s.heap.push (setNew w)).IsList l items := ⟨_, hol', rfl, nl, rfl⟩
        unfold Builtin.«set.__init__» noKeywords Builtin.Frozenset.updateFrom
        generalize hPI : pyIter = PI
        wp_walk
        subst hPI
        refine wpAny_pyIter_list hl1 (wpAny_bind (wpAny_runValue ?_))
        have hlS : l < s.heap.objs.size := Heap.lt_size hol
        have hh3 : A.in1.in1.in1.handled = none := by simp [hh]
        have hneI : l ≠ (s.heap.push (setNew w)).objs.size := by
          rw [Heap.size_push]; exact Nat.ne_of_lt (Nat.lt_succ_of_lt hlS)
        have hSf : s.heap.objs.size ∉ [(s.heap.push (setNew w)).objs.size, l] := by
          rw [Heap.size_push]; simp only [List.mem_cons, List.mem_singleton, List.not_mem_nil, or_false, not_or]
          exact ⟨Nat.ne_of_lt (Nat.lt_succ_self _), Nat.ne_of_gt hlS⟩
        have hval : ∀ (i : Nat) (v : Value), items[i]? = some v → ∃ k t, xs[i]? = some k ∧ v = .str k t := fun i v hv => strs_get hit (by rw [Array.getElem?_toList]; exact hv)
        refine setT_loop ((Walks.list hh3 _ l hneI items).toS) s.heap.objs.size
          hSf xs hisz hb hval (items.size - 0) 0 _ (by omega) (Nat.zero_le _)
          ⟨⟨_, Heap.get?_push_size _ rfl, rfl, rfl⟩, (hl1.push _)⟩ ?hS0 ?hR
        case hS0 => exact ⟨0, Nat.le_refl 0, setT_fresh (Heap.get?_push_of_some _ hS)⟩
        case hR =>
          intro s' c' hm hc' hS'
          obtain ⟨h', g2, d', tk', os'⟩ := s'
          have eg : g2 = s.gens := hm.gens
          have ed : d' = s.drawn := hm.drawn
          have eo : os' = s.os := hm.os
          subst eg; subst ed; subst eo
          show wpAny _ _ _ _ _ _
          refine wpAny_pure ?_
          show wpAny _ _ (ret Value.none) _ _ _
          rw [hisz] at hc'
          refine wpAny_pure ⟨rfl, h', tk', c', rfl, hS', hc', fun b o e => hm.heap b o ?_ (Heap.get?_push_of_some _ (Heap.get?_push_of_some _ e))⟩
          have hb0 : b < s.heap.objs.size := Heap.lt_size e
          rw [Heap.size_push]
          simp only [List.mem_cons, List.mem_singleton, List.not_mem_nil, or_false, not_or]
          exact ⟨Nat.ne_of_lt hb0, Nat.ne_of_lt (Nat.lt_succ_of_lt hb0)⟩
      · cases r₂ with
        | error e => exact hr₂
        | ok fl₂ =>
          cases fl₂ with
          | ret r =>
            obtain ⟨rfl, h', tk, c', rfl, hS', hc', hk'⟩ := hr₂
            repeat (any_goals (first | assumption | wp_step))
            exact h _ _ _ hS' hc' hk'
          | _ => exact hr₂.elim
    | _ => exact hr.elim
end
end Tx

/-! len(set(texts)) of a tuple -/
namespace Tx
open PySem PySem.Spec PyProof.Rows L2
section
variable {P : Program} {w : World} {A : Around} {E : Value → Shared → Prop} {s : Shared}
set_option maxHeartbeats 3200000 in
theorem set_tupS {l : Addr} {items : Array Value} (xs : List Str) {Q : Value → Shared → Prop} (hh : A.handled = none) (hl : s.heap.IsTuple l items) (hit : StrsAre items.toList xs) (hb : xs.length + 1 < scanBound)
    (h : ∀ (h' : Heap) (tk c : Nat), SetT w h' s.heap.objs.size (fun j => decide (j ∈ xs)) c → c ≤ xs.length → (∀ b o, s.heap.get? b = some o → h'.get? b = some o) → Q (.ref s.heap.objs.size) { s with heap := h', toks := tk }) :
    wpAny (model P w) A (call (.type "set") [.ref l]) Q E s := by
  have hisz : items.size = xs.length := by
    rw [← Array.length_toList]
    exact StrsAre.length hit
  obtain ⟨c, tl, hmro⟩ := F.called_set.mro
  have hmade := F.called_set.made
  have hsub := F.called_set.sub
  refine wpAny_call (codeAny_of_tree ?_)
  show wpAny _ _ (callAny (.type "set") _) _ _ _
  refine wpAny_pure ⟨Code.quiet_builtin _ (by decide +kernel), codeAny_builtin F.entry_type_call ?_⟩
  rw [Around.under_plain (weight_type_call_type "set" [.ref l] []) rfl]
  have h1 := F.called_set.notType
  have h2 := F.called_set.canCreate
  have hct := F.typeCall_set_1 (.ref l)
  repeat (any_goals (first | assumption | wp_step))
  refine codeAny_mono (code_set_led1 (.ref l) (E := E) (Q₁ := fun obj s₁ => obj = .ref s.heap.objs.size ∧ s₁ = { s with heap := s.heap.push (setNew w) }) ⟨rfl, rfl⟩) fun r s₁ hr => ?_
  cases r with
  | error e => exact hr
  | ok fl =>
    cases fl with
    | ret obj =>
      obtain ⟨rfl, rfl⟩ := hr
      have hS : (s.heap.push (setNew w)).get? s.heap.objs.size = some (setNew w) := Heap.get?_push_size _ rfl
      have hT : Shared.TypeIs { s with heap := s.heap.push (setNew w) } (.ref s.heap.objs.size) "set" := ⟨_, hS, rfl⟩
      have hli := F.called_set.init.lookup
      have hbi := F.called_set.init.bind (.ref s.heap.objs.size)
      repeat (any_goals (first | assumption | wp_step))
      refine codeAny_mono (codeAny_call_builtin (R := wants (fun r s₂ => r = .none ∧ ∃ h' tk c, s₂ = { s with heap := h', toks := tk } ∧ SetT w h' s.heap.objs.size (fun j => decide (j ∈ xs)) c ∧ c ≤ xs.length ∧
          (∀ b o, s.heap.get? b = some o → h'.get? b = some o)) E) F.called_set.init.plain F.entry_set_init (check_set_init_1 hT ?_)) fun r₂ s₂ hr₂ => ?_
      · obtain ⟨ol, hol, hcl, nl, hdl⟩ := hl
        obtain ⟨ocls, odict, odata, oslots⟩ := ol
        simp only at hcl hdl
        subst hcl; subst hdl
        have hol' : (s.heap.push (setNew w)).get? l = some { cls := .type "tuple", dict := odict, data := .seq items nl, slots := oslots } := Heap.get?_push_of_some _ hol
        have hsls := F.sub_tuple_set
        have hslf := F.sub_tuple_frozenset
        have hne : (Value.type "tuple" == Value.type "dict") = false := by decide
        have hl1 : (s.heap.push (setNew w)).IsTuple l items := ⟨_, hol', rfl, nl, rfl⟩
        unfold Builtin.«set.__init__» noKeywords Builtin.Frozenset.updateFrom
        generalize hPI : pyIter = PI
        wp_walk
        subst hPI
        refine wpAny_pyIter_tuple hl1 ?_
        refine wpAny_bind (wpAny_runValue ?_)
        have hlS : l < s.heap.objs.size := Heap.lt_size hol
        have hh3 : A.in1.in1.in1.handled = none := by simp [hh]
        have hneI : l ≠ (s.heap.push (setNew w)).objs.size := by
          rw [Heap.size_push]; exact Nat.ne_of_lt (Nat.lt_succ_of_lt hlS)
        have hSf : s.heap.objs.size ∉ [(s.heap.push (setNew w)).objs.size, l] := by
          rw [Heap.size_push]; simp only [List.mem_cons, List.mem_singleton, List.not_mem_nil, or_false, not_or]
          exact ⟨Nat.ne_of_lt (Nat.lt_succ_self _), Nat.ne_of_gt hlS⟩
        have hval : ∀ (i : Nat) (v : Value), items[i]? = some v → ∃ k t, xs[i]? = some k ∧ v = .str k t := fun i v hv => strs_get hit (by rw [Array.getElem?_toList]; exact hv)
        refine setT_loop ((Walks.tuple hh3 _ l hneI items).toS) s.heap.objs.size
          hSf xs hisz hb hval (items.size - 0) 0 _ (by omega) (Nat.zero_le _)
          ⟨⟨_, Heap.get?_push_size _ rfl, rfl, rfl⟩, (hl1.push _)⟩ ?hS0 ?hR
        case hS0 => exact ⟨0, Nat.le_refl 0, setT_fresh (Heap.get?_push_of_some _ hS)⟩
        case hR =>
          intro s' c' hm hc' hS'
          obtain ⟨h', g2, d', tk', os'⟩ := s'
          have eg : g2 = s.gens := hm.gens
          have ed : d' = s.drawn := hm.drawn
          have eo : os' = s.os := hm.os
          subst eg; subst ed; subst eo
          show wpAny _ _ _ _ _ _
          refine wpAny_pure ?_
          show wpAny _ _ (ret Value.none) _ _ _
          rw [hisz] at hc'
          refine wpAny_pure ⟨rfl, h', tk', c', rfl, hS', hc', fun b o e => hm.heap b o ?_ (Heap.get?_push_of_some _ (Heap.get?_push_of_some _ e))⟩
          have hb0 : b < s.heap.objs.size := Heap.lt_size e
          rw [Heap.size_push]
          simp only [List.mem_cons, List.mem_singleton, List.not_mem_nil, or_false, not_or]
          exact ⟨Nat.ne_of_lt hb0, Nat.ne_of_lt (Nat.lt_succ_of_lt hb0)⟩
      · cases r₂ with
        | error e => exact hr₂
        | ok fl₂ =>
          cases fl₂ with
          | ret r =>
            obtain ⟨rfl, h', tk, c', rfl, hS', hc', hk'⟩ := hr₂
            repeat (any_goals (first | assumption | wp_step))
            exact h _ _ _ hS' hc' hk'
          | _ => exact hr₂.elim
    | _ => exact hr.elim
end
section
variable {X : Cx}
def tLenSetX (K : PySem.W.Frag) (ta : TE) : TE := fun σ H Q => ta σ H fun x H1 => ∃ (l : Addr) (xs : List Str), x = .ref l ∧ SqT K H1 l (xs.map V.str) ∧ xs.length ≤ 1000 ∧
  ∀ out : List Str, out.Nodup → (∀ k, k ∈ out ↔ k ∈ xs) → Q (.int (out.length : Nat)) H1
theorem pe_lenSetX {a : Expr} {ta : TE} {p p2 q pos : Pos} (hm : X.mg "len" = none) (hm2 : X.mg "set" = none) (ha : PE X a ta) (hg : Gl X "len" := by rfl) (hg2 : Gl X "set" := by rfl) (hc : X.calm = true := by rfl)
    (na : starEach [a] X.env = (false, eval a X.env) :: starEach [] X.env := by rfl) : PE X (.Call (.Name "len" p) [.Call (.Name "set" p2) [a] [] q] [] pos) (tLenSetX X.K ta) := by
  refine ⟨fun pins s σ H Q I h => ?_⟩
  refine Call_ (ld_blt I hg hm boot_len ?_)
  refine PyProof.Rows.callWith_builtin1 (PyProof.Rows.args_cons ?_ rfl) rfl rfl
  refine Call_ (ld_blt I hg2 hm2 boot_set ?_)
  refine PyProof.Rows.callWith_type1 (PyProof.Rows.args_cons (thn (ha.run pins s σ H _ I h) fun v s1 ⟨x, H1, I1, r1, q1⟩ => PyProof.Rows.args_nil ?_) na) na rfl
  obtain ⟨l, xs, rfl, hq, hl, q1⟩ := q1
  cases r1
  obtain ⟨its, rv, pt, hz⟩ := I1.tuple hq
  have hd := I1.ok.hd hc
  refine set_tupS xs hd (show s1.heap.IsTuple l its.toArray from pt) rv.strs (by unfold scanBound; omega) fun h' tk c R1 hcn k => ?_
  refine PyProof.Rows.args_nil ?_
  obtain ⟨o, es, ep, t, ho, hex, hdt, g, nd, hm2, hb, hf, hn, _, _⟩ := R1
  have I2 : Inv X pins σ H1 { s1 with heap := h', toks := tk } := I1.kept fun b o e => k b o e
  have hlen : es.size = (es.toList.map txOf).length := by rw [List.length_map, Array.length_toList]
  refine call_len_set ho hex hdt hf (by rw [hn]; omega) ⟨.int ((es.toList.map txOf).length : Nat), H1, I2.tok _, ⟨_, by rw [← hlen]⟩, q1 _ nd fun j => ?_⟩
  rw [← hm2 j, decide_eq_true_eq]
end
end Tx

/-! a tuple made of a list, known as an object without a dict: its methods may be called -/
namespace Tf
open PySem PySem.Spec PyProof.Rows L2
section
variable {X : Cx}
/-- the tuple at t, as it was made -/
def TupAt (H : Hp) (t : Addr) (xs : List V) : Prop := ∃ o : Obj, H t = some (.frz o (.tup xs)) ∧ o.cls = .type "tuple" ∧ o.dict = none
theorem TupAt.sq {K : PySem.W.Frag} {H : Hp} {t : Addr} {xs : List V} (h : TupAt H t xs) : SqT K H t xs := by
  obtain ⟨o, e, _⟩ := h
  exact .inl (.inr ⟨o, e⟩)
def rTupF (K : PySem.W.Frag) : List V → Hp → VK → Prop := fun xs H Q => ∃ p ys, xs = [.ref p] ∧ SqL K H p ys ∧ ∀ l o, H l = none → o.cls = .type "tuple" → o.dict = none → Q (.ref l) (upd H l (.frz o (.tup ys)))
theorem call_tupleF : CallR X (.type "tuple") (rTupF X.K) := by
  intro pins s σ H xs us Q I r h
  obtain ⟨p, ys, rfl, hq, q⟩ := h
  obtain ⟨u, rfl, rx⟩ := vals1 r
  cases rx
  obtain ⟨its, r', pl, hz⟩ := I.list hq
  have hlen := r'.length
  refine call_tuple_list pl.isList (fun h' kp => ?_) (by simp only [List.size_toArray] <;> omega)
  have I1 : Inv X pins σ H { s with heap := h' } := I.kept (t' := s.toks) kp
  have I2 : Inv X pins σ (upd H h'.objs.size (.frz { cls := .type "tuple", data := .seq its.toArray } (.tup ys))) { s with heap := h'.push { cls := .type "tuple", data := .seq its.toArray } } :=
    I1.laid (t' := s.toks) (fun b o e => Heap.get?_push_of_some _ e) (Nat.le_refl _) ⟨Heap.get?_push_size _ rfl, show ObjOk X.prog X.w _ _ _ (.tup ys) from ⟨hz, its, r', IsTup.new _ _⟩⟩
  exact ⟨.ref h'.objs.size, _, I2, rfl, q _ _ (I1.hok.fresh (Nat.le_refl _)) rfl rfl⟩
def tBMF (r : V → List V → Hp → VK → Prop) (to : TE) (t : TA) : TE := fun σ H Q => to σ H fun x H1 => (∃ p xs, x = .ref p ∧ TupAt H1 p xs) ∧ t σ H1 fun xs H2 => r x xs H2 Q
variable {o e : Expr} {es : List Expr} {to : TE} {t : TA} {name : Str} {apos cpos : Pos} {id : String} {r : V → List V → Hp → VK → Prop}
theorem pe_bmF (pa : PlainAttrs "tuple") (slot : Slot "tuple" name id) (hty : typeOf (.builtin id) = pure (.type "method_descriptor")) (hm : MtR X id r) (ho : PE X o to) (ha : PA X (e :: es) t)
    (hbase : attributeBase o name X.env (eval o X.env) = eval o X.env := by rfl)
    (hfew : ((backTo cpos (starEach (e :: es) X.env)).all (fun x => !x.1) && (backToKw cpos (keywordEach [] X.env)).all (fun x => x.1.isSome)
      && decide ((e :: es).length + ([] : List Keyword).length + (if ([] : List Keyword).isEmpty then 0 else 1) < 30)) = true := by rfl)
    (hline : (apos.endLine == cpos.line) = true := by rfl) (hs : starEach (e :: es) X.env = (false, eval e X.env) :: starEach es X.env := by rfl) (hplain : (backTo cpos (starEach es X.env)).any (·.1) = false := by rfl) :
    PE X (.Call (.Attribute o name apos) (e :: es) [] cpos) (tBMF r to t) := by
  refine ⟨fun pins s σ H Q I h => ?_⟩
  refine wpAny_Call_method_late hbase hfew hline rfl (thn (ho.run pins s σ H _ I h) fun v s1 ⟨x, H1, I1, r1, ty, q1⟩ => ?_)
  have hh : s1.TypeIs v "tuple" ∧ ∀ a, v = .ref a → ∃ ob, s1.heap.get? a = some ob ∧ ob.dict = none := by
    obtain ⟨p, xs, rfl, ob, e1, e2, e3⟩ := ty
    cases r1
    obtain ⟨g1, _⟩ := (show ObjOk X.prog X.w H1 s1.heap p (.frz ob (.tup xs)) from I1.hok p _ e1)
    refine ⟨⟨ob, g1, e2⟩, fun a ea => ?_⟩
    cases ea
    exact ⟨ob, g1, e3⟩
  obtain ⟨h1, h2⟩ := hh
  refine ⟨"tuple", id, pa, slot, hty, h1, h2, ?_⟩
  have hA := ha.run cpos pins s1 σ H1 _ I1 q1
  rw [hs] at hA ⊢
  refine Calls.callWith_builtin (by show (false || (backTo cpos (starEach es X.env)).any (·.1)) = false; rw [hplain] <;> rfl) (Calls.evalArgs_plain ?_)
  exact thn hA fun us s2 ⟨vs, H2, I2, r2, q2⟩ => hm pins s2 σ H2 x vs v us Q I2 r1 r2 q2
end
end Tf

/-! enumerate(tuple) -/
namespace En
open PySem PySem.Spec PyProof.Rows L2
open AutoSeq1 (wpAny_loadPart')
theorem new_tuple (l : Addr) (items : Array Value) (n : Nat) (dct : Option Addr) (sl : Array (Option Value)) :
    Meets (Builtin.«enumerate.__new__» ⟨[.type "enumerate", .ref l], []⟩) (fun _ R s => s.heap.get? l = some { cls := .type "tuple", dict := dct, data := .seq items n, slots := sl } ∧
      R (.ok (.ret (.ref (s.heap.push { cls := .type "tuple_iterator", data := .fields #[.ref l, .int 0 0] }).objs.size)))
        { s with heap := (s.heap.push { cls := .type "tuple_iterator", data := .fields #[.ref l, .int 0 0] }).push { cls := .type "enumerate", data := .fields #[.none, .bool false, .ref s.heap.objs.size, rawInt 0, .none, .none] } }) :=
  .of_wp fun prog w A R s h => by
    obtain ⟨hp, g, d, tk, os⟩ := s; obtain ⟨hl, h⟩ := h
    have hsub := sub_enumerate
    have hL : Heap.IsTuple (Shared.heap ⟨hp, g, d, tk, os⟩) l items := ⟨_, hl, rfl, n, rfl⟩
    wp_walk using wpAny_loadPart' hl
    refine wpAny_stack_any fun st => wpAny_pure ?_
    split
    · rename_i c _ _ _ _ _
      cases (c == Value.type "enumerate")
      · wp_walk using wpAny_loadPart' hl, wpAny_pyIter_tuple hL
        exact ⟨_, rfl, h⟩
      · wp_walk using wpAny_loadPart' hl, wpAny_pyIter_tuple hL
        exact ⟨_, rfl, h⟩
    · wp_walk using wpAny_loadPart' hl, wpAny_pyIter_tuple hL
      exact ⟨_, rfl, h⟩
section
variable {prog : Program} {w : World} {A : Around} {E : Value → Shared → Prop} {s : Shared}
theorem call_tuple {l : Addr} {items : Array Value} {Q : Value → Shared → Prop} (hL : s.heap.IsTuple l items)
    (h : ∀ h', IsEnum h' (s.heap.objs.size + 1) s.heap.objs.size 0 .none → h'.IsTupleIter s.heap.objs.size l 0 → h'.objs.size = s.heap.objs.size + 2 →
      (∀ b o, s.heap.get? b = some o → h'.get? b = some o) → Q (.ref (s.heap.objs.size + 1)) { s with heap := h' }) :
    wpAny (model prog w) A (call (.type "enumerate") [.ref l]) Q E s := by
  obtain ⟨⟨c, dct, dt, sl⟩, hl, hc, n, hd⟩ := hL
  replace hc : c = .type "tuple" := hc
  replace hd : dt = .seq items n := hd
  subst hc hd
  refine callType_new F.called_enumerate (by decide) (F.typeCall_enumerate_1 _) (F.newCall_enumerate_1 _) (fun obj => F.args_object_init_2 obj _) F.entry_enumerate_new
    (new_tuple l items n dct sl) ⟨hl, ?_⟩
  have hz : (s.heap.push { cls := .type "tuple_iterator", data := .fields #[.ref l, .int 0 0] }).objs.size = s.heap.objs.size + 1 := Heap.size_push ..
  show _ ∧ _
  rw [hz]
  have he : IsEnum ((s.heap.push { cls := .type "tuple_iterator", data := .fields #[.ref l, .int 0 0] }).push
      { cls := .type "enumerate", data := .fields #[.none, .bool false, .ref s.heap.objs.size, rawInt 0, .none, .none] }) (s.heap.objs.size + 1) s.heap.objs.size 0 .none := by
    have := Heap.get?_push_size (s.heap.push { cls := .type "tuple_iterator", data := .fields #[.ref l, .int 0 0] })
      (o := { cls := .type "enumerate", data := .fields #[.none, .bool false, .ref s.heap.objs.size, rawInt 0, .none, .none] }) rfl
    rw [hz] at this; exact this
  refine ⟨⟨_, he, rfl⟩, h _ he ⟨_, Heap.get?_push_of_some _ (Heap.get?_push_size _ rfl), rfl, rfl⟩ (by rw [Heap.size_push, hz]) fun b o x => Heap.get?_push_of_some _ (Heap.get?_push_of_some _ x)⟩
end
theorem draws {prog : Program} {w : World} {A : Around} (hh : A.handled = none) (it l : Addr) (hne : l ≠ it) (items : Array Value) :
    Draws prog w A it [it, l] items.size (fun i v => items[i]? = some v) (fun i h => h.IsTupleIter it l i ∧ h.IsTuple l items) where
  live := fun _ _ st => let ⟨o, ho, _⟩ := st.1; ⟨o, ho⟩
  frame := fun _ _ _ st hk => ⟨st.1.at fun o e => hk it (by simp) o e, st.2.at fun o e => hk l (by simp) o e⟩
  item := fun i s Q E hi st hQ => wpAny_nextOf_tuple_item st.1 st.2 (x := items[i]) (by simp [hi]) fun h' hit' hs' => hQ _ h' s.toks (by simp [hi]) ⟨hit', st.2.extBut hs'.extBut hne⟩ hs'
  done := fun s Q E st hE => wpAny_nextOf_tuple_end hh st.1 st.2 (by simp) hE
/-- the tuple at a, each item in a new pair -/
def Itu (K : PySem.W.Frag) (a : Addr) : It :=
  ⟨fun i H => ∃ (xs : List V) (x : V), SqT K H a xs ∧ xs[i]? = some x, fun i H v H' => ∃ T x, v = .ref T ∧ H T = none ∧ H' = upd H T (.tup [.int (i : Nat), x]) ∧ ∀ xs, SqT K H a xs → xs[i]? = some x, fun i H => ∃ xs : List V, SqT K H a xs ∧ xs.length ≤ i⟩
theorem turn {P : Program} {w : World} {K : PySem.W.Frag} {elts : List Expr} {kk : Nat} {tpos : Pos} (a e it : Addr) :
    Turn P w K (.Tuple elts kk tpos) (Itu K a) [e, it] e (fun i h => (∃ old, IsEnum h e it ((i : Nat) : Int) old) ∧ h.IsTupleIter it a i ∧ e ≠ it) where
  mem := by simp
  obj := fun i h st b hb => by
    obtain ⟨⟨old, he⟩, ⟨o, ho, hc, hd⟩, _⟩ := st
    have e' : b = e ∨ b = it := by simpa using hb
    rcases e' with z | z
    · rw [z]; exact ⟨_, he, fun v q => nomatch q⟩
    · rw [z]; exact ⟨o, ho, fun v q => by rw [hd] at q; cases q⟩
  keep := fun i h h' st k => let ⟨⟨old, he⟩, hi, hne⟩ := st; ⟨⟨old, k e (by simp) _ he⟩, hi.at fun o q => k it (by simp) o q, hne⟩
  item := by
    intro X hP hw hK hc i pins s σ H E I hf st hg
    subst hP hw hK
    obtain ⟨⟨old, he⟩, hit, hne⟩ := st
    obtain ⟨xs, x, hq, hx⟩ := hg
    obtain ⟨its, rv, p, hz⟩ := I.tuple hq
    obtain ⟨u, hu, ru⟩ := rv.get hx
    have hel : e < s.heap.objs.size := Heap.lt_size he
    have hil : it < s.heap.objs.size := by obtain ⟨_, q, _⟩ := hit; exact Heap.lt_size q
    have pt : s.heap.IsTuple a its.toArray := p
    have nai : a ≠ it := fun z => by
      obtain ⟨o1, q1, c1, _⟩ := pt
      obtain ⟨o2, q2, c2, _⟩ := hit
      rw [z, q2] at q1
      cases q1
      rw [c2] at c1
      injection c1 with c1
      exact absurd c1 (by decide)
    have nea : e ≠ a := fun z => by
      obtain ⟨o1, q1, c1, _⟩ := pt
      rw [← z, he] at q1
      cases q1
      injection c1 with c1
      exact absurd c1 (by decide)
    have hi2 : i < its.toArray.size := by
      have := (List.getElem?_eq_some_iff.mp hu).1
      simpa using this
    refine wpAny_pyNext_enum_itemD (draws (A := X.A.in1) (I.ok.hd hc) it a nai its.toArray) he ⟨hit, pt⟩ hi2 hne (by simp [hne, nea]) fun u' h' tk hu' ho hst' hT hsz hk => ?_
    have eu : u' = u := by
      have : its.toArray[i]? = some u := by simpa using hu
      rw [this] at hu'
      exact (Option.some.inj hu').symm
    subst eu
    refine ⟨_, rfl, wpAny_letOwnedTupleGo_enum (s := { s with heap := h', toks := tk + 1 }) ho fun h'' he' sb => ?_⟩
    have hT2 : h''.get? s.heap.objs.size = some { cls := .type "tuple", data := .seq #[.int i tk, u'] } := (sb.2 _ (Nat.ne_of_gt hel)).trans hT
    have new : ObjOk X.prog X.w (upd H s.heap.objs.size (.tup [.int (i : Nat), x])) h'' s.heap.objs.size (.tup [.int (i : Nat), x]) :=
      ⟨by show 2 ≤ sizeLine; decide, [.int i tk, u'], .cons ⟨_, rfl⟩ (.cons ru .nil), ⟨_, hT2, rfl, _, rfl⟩⟩
    have I1 : Inv X pins σ (upd H s.heap.objs.size (.tup [.int (i : Nat), x])) { s with heap := h'', toks := tk + 1 } :=
      I.turnedNew (ch := [e, it]) (fun b ob hb q => (sb.2 b (fun z => hb (by simp [z]))).trans (hk b ob (fun z => hb (by simp [z])) (fun z => hb (by simp [z])) q)) hf (Nat.le_refl _) new
    refine ⟨.ref s.heap.objs.size, _, I1, rfl, ⟨_, x, rfl, I.hok.fresh (Nat.le_refl _), rfl, fun ys hy => by rw [I.tuple_inj hy hq]; exact hx⟩, ⟨⟨u', ?_⟩, hst'.1.at fun o q => (sb.2 it (Ne.symm hne)).trans q, hne⟩, fun b hb => ?_⟩
    · have e1 : ((i + 1 : Nat) : Int) = (i : Int) + 1 := by omega
      rw [e1]; exact he'
    · have hb' : b < s.heap.objs.size := by
        have e' : b = e ∨ b = it := by simpa using hb
        rcases e' with z | z
        · rw [z]; exact hel
        · rw [z]; exact hil
      rw [upd_ne (Nat.ne_of_lt hb')]
      exact (hf b hb).1
  done := by
    intro X hP hw hK hc i pins s σ H E I hf st hg
    subst hP hw hK
    obtain ⟨⟨old, he⟩, hit, hne⟩ := st
    obtain ⟨xs, hq, hx⟩ := hg
    obtain ⟨its, rv, p, hz⟩ := I.tuple hq
    obtain ⟨f0, f1, f2, f3, f4, f5⟩ := hf it (by simp)
    have hl := rv.length
    have pt : s.heap.IsTuple a its.toArray := p
    have hT : s.TypeIs (.ref e) "enumerate" := ⟨_, he, rfl⟩
    unfold pyNext
    refine wpAny_bind (wpAny_attempt (wpAny_callSpecial?_slot (name := Str.ofString "__next__") hT F.slot_enumerate_next
      (wpAny_call_entry F.slot_enumerate_next hT F.entry_enumerate_next ?_ (F.args_enumerate_next_1 _))))
    show wpAny _ _ (field (.ref e) 2 >>= _) _ _ _
    refine wpAny_bind (wpAny_field he rfl (x := .ref it) rfl (wpAny_bind (wpAny_nextOf_tuple_end (I.ok.hd hc) hit pt (by simp; omega) fun h' x he' hx' => ?_)))
    obtain ⟨o, ho, hco⟩ := hx'
    refine wpAny_bind (wpAny_isInstance (T := "StopIteration") (b := true) ⟨o, ho, hco⟩ isSubtype_stop ?_)
    exact wpAny_pure ⟨rfl, I.turned (t' := s.toks) (fun b o hb q => he' b o hb q) f0 f1 f3 f4 f5⟩
  self := fun A i s Q E st h => let ⟨⟨_, he⟩, _⟩ := st; wpAny_pyIter_enum he h
def iEnumT (K : PySem.W.Frag) (ta : TA) : TI := fun σ H R => ta σ H fun vs H1 => ∃ a xs, vs = [.ref a] ∧ SqT K H1 a xs ∧ R (Itu K a) H1
theorem pi_enumT {X : Cx} {e : Expr} {ta : TA} {p pos tpos : Pos} {elts : List Expr} {kk : Nat} (hg : Gl X "enumerate") (hm : X.mg "enumerate" = none) (ha : PA X [e] ta) (hs : starEach [e] X.env = [(false, eval e X.env)] := by rfl) :
    PI X (.Tuple elts kk tpos) (.Call (.Name "enumerate" p) [e] [] pos) (iEnumT X.K ta) := by
  refine ⟨fun pins s σ H R I h => ?_⟩
  refine Call_ (ld_blt I hg hm boot_enumerate (PyProof.Rows.callWith_type1 (thn (ha.run pos pins s σ H _ I h) fun us s1 ⟨vs, H1, I1, r1, q1⟩ => ?_) hs rfl))
  obtain ⟨a, xs, ex, hq, q⟩ := q1
  subst ex
  cases r1 with
  | cons r rr =>
    cases rr
    cases r
    obtain ⟨its, rv, p', hz⟩ := I1.tuple hq
    refine call_tuple (show s1.heap.IsTuple a its.toArray from p') fun h' he hit hsz hk => wpAny_pyIter_enum he ?_
    have I2 : Inv X pins σ H1 { s1 with heap := h' } := I1.kept (t' := s1.toks) hk
    refine ⟨s1.heap.objs.size + 1, [s1.heap.objs.size + 1, s1.heap.objs.size], _, _, H1, rfl, I2, turn a (s1.heap.objs.size + 1) s1.heap.objs.size, ⟨⟨.none, he⟩, hit, Nat.succ_ne_self _⟩, fun b hb => ?_, q⟩
    have e' : b = s1.heap.objs.size + 1 ∨ b = s1.heap.objs.size := by simpa using hb
    have hle : s1.heap.objs.size ≤ b := by
      rcases e' with z | z
      · rw [z]; exact Nat.le_add_right _ _
      · rw [z]; exact Nat.le_refl _
    exact I1.fpOk hle (I1.hok.fresh hle)
theorem for_enumT {K : PySem.W.Frag} {a : Addr} {xs : List V} {g : TG} {tb : TS} {D : Ends} {σ : L2.St} {H : Hp} (Pv : Nat → L2.St → Hp → Prop) (h0 : Pv 0 σ H) (hq : ∀ i σ H, Pv i σ H → SqT K H a xs)
    (hs : ∀ (i : Nat) (x : V) (T : Addr) (σ : L2.St) (H : Hp), xs[i]? = some x → Pv i σ H → H T = none → g (.ref T) σ (upd H T (.tup [.int (i : Nat), x])) fun σ2 H2 => tb { D with nx := Pv (i + 1), ct := Pv (i + 1), bk := D.nx } σ2 H2) (hd : ∀ σ H, Pv xs.length σ H → D.nx σ H) :
    ∃ W : Nat → Nat → L2.St → Hp → Prop, (∃ m, W 0 m σ H) ∧ ∀ i m σ H, W i m σ H →
      ((Itu K a).stop i H ∧ D.nx σ H) ∨ ((Itu K a).go i H ∧ ∃ N : L2.St → Hp → Prop, (∀ σ' H', N σ' H' → ∃ m', m' < m ∧ W (i + 1) m' σ' H') ∧ ∀ v H', (Itu K a).yld i H v H' → g v σ H' fun σ2 H2 => tb { D with nx := N, ct := N, bk := D.nx } σ2 H2) := by
  refine ⟨fun i m σ H => m = xs.length - i ∧ i ≤ xs.length ∧ Pv i σ H, ⟨xs.length, rfl, Nat.zero_le _, h0⟩, ?_⟩
  rintro i m σ H ⟨rfl, hi, p⟩
  have qx := hq i σ H p
  by_cases hlt : i < xs.length
  · have hx : xs[i]? = some xs[i] := List.getElem?_eq_getElem hlt
    refine .inr ⟨⟨xs, _, qx, hx⟩, Pv (i + 1), fun σ' H' p' => ⟨xs.length - (i + 1), by omega, rfl, hlt, p'⟩, fun v H' y => ?_⟩
    obtain ⟨T, x', rfl, hT, rfl, f1⟩ := y
    exact hs i x' T σ H (f1 xs qx) p hT
  · have e : i = xs.length := by omega
    subst e
    exact .inl ⟨⟨xs, qx, Nat.le_refl _⟩, hd σ H p⟩
end En

namespace Wk
open PySem L2 Bx
theorem walk_Itu {K : PySem.W.Frag} {a : Addr} {xs : List V} : Walk (En.Itu K a) xs.length (fun H => SqT K H a xs) (YPair (fun i => some (.int (i : Nat))) (fun i => xs[i]?)) := by
  refine ⟨fun i _ hi q => ⟨xs, xs[i], q, by simp [hi]⟩, fun _ q => ⟨xs, q, Nat.le_refl _⟩, fun i H v H' _ q y => ?_⟩
  obtain ⟨T, x, h1, h2, h3, h4⟩ := y
  exact ⟨T, .int (i : Nat), x, h1, h2, h3, rfl, h4 xs q⟩
theorem dc_it {J : It} {n : Nat} {G : Hp → Prop} {Y : Nat → Hp → V → Hp → Prop} (w : Walk J n G Y) {g : TG} {tt : TT} {tk tv : TE} {vs : List Nat} {σ : L2.St} {H1 : Hp} {D : Addr} {Qd : Hp → Prop} (Pv : Nat → Hp → Prop) (h0 : Pv 0 (upd H1 D (.dK []))) (hG : ∀ i H, i ≤ n → Pv i H → G H)
    (hs : ∀ i x H H', i < n → Pv i H → Y i H x H' → g x (wipe σ vs) H' fun σ2 H2 => wipe σ2 vs = wipe σ vs ∧ tt σ2 H2 fun b H3 =>
      if b = true then tk σ2 H3 fun y H4 => tv σ2 H4 fun z H5 => ∃ kvs k, y = kV k ∧ H5 D = some (.dK kvs) ∧ kvs.length < sizeLine ∧ Pv (i + 1) (upd H5 D (.dK (putK kvs k z))) else Pv (i + 1) H3) (hd : ∀ H, Pv n H → Qd H) :
    ∃ W : Nat → Nat → Hp → Prop, (∃ m, W 0 m (upd H1 D (.dK []))) ∧ ∀ i m H, W i m H →
      (J.stop i H ∧ Qd H) ∨ (J.go i H ∧ ∃ Nx : Hp → Prop, (∀ H', Nx H' → ∃ m', m' < m ∧ W (i + 1) m' H') ∧ ∀ x H', J.yld i H x H' → g x (wipe σ vs) H' fun σ2 H2 => wipe σ2 vs = wipe σ vs ∧ tt σ2 H2 fun b H3 =>
        if b = true then tk σ2 H3 fun y H4 => tv σ2 H4 fun z H5 => ∃ kvs k, y = kV k ∧ H5 D = some (.dK kvs) ∧ kvs.length < sizeLine ∧ Nx (upd H5 D (.dK (putK kvs k z))) else Nx H3) := by
  refine ⟨fun i m H => m = n - i ∧ i ≤ n ∧ Pv i H, ⟨n, by simp, Nat.zero_le _, h0⟩, ?_⟩
  rintro i m H ⟨rfl, hi, p⟩
  have q := hG i H hi p
  by_cases hlt : i < n
  · exact .inr ⟨w.goes i H hlt q, Pv (i + 1), fun H' p' => ⟨n - (i + 1), by omega, rfl, hlt, p'⟩, fun x H' y => hs i x H H' hlt p (w.yields i H x H' hlt q y)⟩
  · have e : i = n := by omega
    subst e
    exact .inl ⟨w.stops H q, hd H p⟩
end Wk

/-! a written dict with text keys: which keys it has -/
namespace Kd
open PySem L2 Bx
def strOf : Value → Option Str
  | .str x _ => some x
  | _ => none
def SD (K : PySem.W.Frag) (w : World) (d : Addr) (keys : List Str) : Prop := ∃ es n, KDict K w d es n ∧ es.toList.map (fun e => strOf e.key) = keys.map some
theorem key_str {v : Value} {x : Str} (h : strOf v = some x) : ∃ t, v = .str x t := by
  cases v with
  | str y t =>
    have e : y = x := Option.some.inj h
    rw [e]
    exact ⟨t, rfl⟩
  | _ => cases h
theorem isStr_eq (x z : Str) (t : Tok) : (Value.str x t).isStr z = decide (x = z) := by
  show (x == z) = decide (x = z)
  rw [Bool.eq_iff_iff, beq_iff_eq, decide_eq_true_eq]
theorem find_keys (z : Str) : ∀ {l : List DictEntry} {keys : List Str}, l.map (fun e => strOf e.key) = keys.map some → (l.find? (·.key.isStr z)).isSome = decide (z ∈ keys) ∧ l.any (·.refKey) = false
  | [], [], _ => ⟨by simp, rfl⟩
  | [], _ :: _, h => by cases h
  | _ :: _, [], h => by cases h
  | e :: l, k :: keys, h => by
    rw [List.map_cons, List.map_cons] at h
    injection h with h1 h2
    obtain ⟨t, ht⟩ := key_str h1
    obtain ⟨i1, i2⟩ := find_keys z h2
    have er : e.refKey = false := by
      unfold DictEntry.refKey
      rw [ht]
    refine ⟨?_, by rw [List.any_cons, er, i2]; rfl⟩
    have es : e.key.isStr z = decide (k = z) := by rw [ht]; exact isStr_eq k z t
    by_cases q : k = z
    · rw [List.find?_cons, es, decide_eq_true q]
      simp [q]
    · rw [List.find?_cons, es, decide_eq_false q]
      show (l.find? (·.key.isStr z)).isSome = _
      rw [i1, Bool.eq_iff_iff, decide_eq_true_eq, decide_eq_true_eq, List.mem_cons]
      exact ⟨fun h => .inr h, fun h => h.resolve_left fun e => q e.symm⟩
theorem SD.ns {K : PySem.W.Frag} {w : World} {d : Addr} {keys : List Str} (h : SD K w d keys) (z : Str) : ∃ r, PySem.W.nsIn K d z = some r ∧ r.isSome = decide (z ∈ keys) := by
  obtain ⟨es, n, D, hk⟩ := h
  obtain ⟨i1, i2⟩ := find_keys z hk
  unfold PySem.W.nsIn
  rw [D.at_]
  show ∃ r, (match es.toList.find? (·.key.isStr z) with | some e => some (some e.val) | none => if es.toList.any (·.refKey) then none else some none) = some r ∧ _
  cases q : es.toList.find? (·.key.isStr z) with
  | some e =>
    rw [q] at i1
    exact ⟨_, rfl, i1⟩
  | none =>
    rw [q] at i1
    rw [i2]
    exact ⟨none, rfl, i1⟩
section
variable {X : Cx}
def rNotInSD (d : Addr) (keys : List Str) : R2 := fun x y H Q => ∃ z : Str, x = .str z ∧ y = .ref d ∧ Q (.bl (!decide (z ∈ keys))) H
theorem op_notInSD {d : Addr} {keys : List Str} (h : SD X.K X.w d keys) : OpR X (compareOp .NotIn) (rNotInSD d keys) := by
  intro pins s σ H x y v u Q I rx ry q
  obtain ⟨z, rfl, rfl, q⟩ := q
  obtain ⟨r, e1, e2⟩ := h.ns z
  obtain ⟨es, n, D, _⟩ := h
  exact op_notIn_kd D pins s σ H _ _ v u Q I rx ry ⟨z, r, rfl, rfl, e1, by rw [e2]; exact q⟩
def rInSD (d : Addr) (keys : List Str) : R2 := fun x y H Q => ∃ z : Str, x = .str z ∧ y = .ref d ∧ Q (.bl (decide (z ∈ keys))) H
theorem op_inSD {d : Addr} {keys : List Str} (h : SD X.K X.w d keys) : OpR X (compareOp .In) (rInSD d keys) := by
  intro pins s σ H x y v u Q I rx ry q
  obtain ⟨z, rfl, rfl, q⟩ := q
  obtain ⟨r, e1, e2⟩ := h.ns z
  obtain ⟨es, n, D, _⟩ := h
  exact op_in_kd D pins s σ H _ _ v u Q I rx ry ⟨z, r, rfl, rfl, e1, by rw [e2]; exact q⟩
end
end Kd

/-! Own operators of own classes: in, comparisons, & | - and the like, o[i]. -/
namespace Ow
open PySem PySem.Spec PyProof.Rows L2
section
variable {X : Cx} {k j : Nat} {C : Addr} {sp : Sp}
/-- the heap at a call of a method of a met instance -/
theorem met_at {pins : List (Addr × Obj)} {σ : L2.St} {H : Hp} {s : Shared} {a dx : Addr} {fs : List (Str × V)} (I : Inv X pins σ H s) (h : H a = some (.ins C dx fs)) : ∃ (ox : Obj) (od : Option Obj), PySem.W.InstAt s.heap a ox C od := by
  obtain ⟨mA, J, _⟩ := ins_get I.hok h
  obtain ⟨od, J, _⟩ := J.look
  exact ⟨_, _, J⟩
/-- x in o, by the class's own __contains__ -/
def rInM (C : Addr) (sp : Sp) : R2 := fun x y H Q => ∃ a dx fs, y = .ref a ∧ H a = some (.ins C dx fs) ∧ sp [.ref a, x] H (fun v H' => ∃ b, v = .bl b ∧ Q (.bl b) H') C8.E0
theorem op_inM (c : C8.Met X.prog X.w X.K X.mg X.base k C "__contains__" sp []) (hr : Room j X.A) (hk : k ≤ j) : OpR X (compareOp .In) (rInM C sp) := by
  obtain ⟨f, fd, ps, ds, _, me, F, b, d⟩ := c.ex
  cases d
  intro pins s σ H x y v u Q I rx ry h
  obtain ⟨a, dx, fs, rfl, ha, h⟩ := h
  cases ry
  obtain ⟨ox, od, J⟩ := met_at I ha
  obtain ⟨m, hF⟩ := I.fr
  refine PySem.W.in_K hF I.ok.mod.kin J me.at_ me.fn (wpAny_mono (run_fn (vs := [.ref a, x]) F (hr.mono hk) b .nil C8.pass0 I (.cons rfl (.cons rx .nil)) h) (fun r s' hq => ?_) fun _ _ z => z)
  obtain ⟨z, H', I', rz, t, rfl, q⟩ := hq
  cases rz
  exact wpAny_truthy_bool ⟨.bl t, H', I', rfl, q⟩
def rNotInM (C : Addr) (sp : Sp) : R2 := fun x y H Q => ∃ a dx fs, y = .ref a ∧ H a = some (.ins C dx fs) ∧ sp [.ref a, x] H (fun v H' => ∃ b, v = .bl b ∧ Q (.bl (!b)) H') C8.E0
theorem op_notInM (c : C8.Met X.prog X.w X.K X.mg X.base k C "__contains__" sp []) (hr : Room j X.A) (hk : k ≤ j) : OpR X (compareOp .NotIn) (rNotInM C sp) := by
  obtain ⟨f, fd, ps, ds, _, me, F, b, d⟩ := c.ex
  cases d
  intro pins s σ H x y v u Q I rx ry h
  obtain ⟨a, dx, fs, rfl, ha, h⟩ := h
  cases ry
  obtain ⟨ox, od, J⟩ := met_at I ha
  obtain ⟨m, hF⟩ := I.fr
  refine PySem.W.notIn_K hF I.ok.mod.kin J me.at_ me.fn (wpAny_mono (run_fn (vs := [.ref a, x]) F (hr.mono hk) b .nil C8.pass0 I (.cons rfl (.cons rx .nil)) h) (fun r s' hq => ?_) fun _ _ z => z)
  obtain ⟨z, H', I', rz, t, rfl, q⟩ := hq
  cases rz
  exact wpAny_truthy_bool ⟨.bl (!t), H', I', rfl, q⟩
/-- a value that no operator hands back for «not mine» -/
def told : V → Prop := fun v => ∀ u, RelV v u → u ≠ .notImplemented
theorem told_bl {b : Bool} : told (.bl b) := fun u r => by cases r; intro z; cases z
theorem told_ref {a : Addr} : told (.ref a) := fun u r => by cases r; intro z; cases z
theorem cmpBack_of {Q : Value → Shared → Prop} {u : Value} {s' : Shared} (h : u ≠ .notImplemented) (q : Q u s') : PySem.W.CmpBack Q u s' := by
  cases u <;> first | exact absurd rfl h | exact q
/-- a == b, a <= b .. of two instances of the class at C, by its own method -/
def r2M (C : Addr) (sp : Sp) : R2 := fun x y H Q => ∃ a b dx dy fs gs, x = .ref a ∧ y = .ref b ∧ H a = some (.ins C dx fs) ∧ H b = some (.ins C dy gs) ∧ sp [.ref a, .ref b] H (fun v H' => told v ∧ Q v H') C8.E0
theorem cmpM {op : CmpOp} (hc : ∀ v u, compareOp op v u = richCompare op v u) (c : C8.Met X.prog X.w X.K X.mg X.base k C (cmpInfo op).2.1 sp []) (hr : Room j X.A) (hk : k ≤ j) : OpR X (compareOp op) (r2M C sp) := by
  obtain ⟨f, fd, ps, ds, _, me, F, b, d⟩ := c.ex
  cases d
  intro pins s σ H x y v u Q I rx ry h
  obtain ⟨a, b', dx, dy, fs, gs, rfl, rfl, ha, hb, h⟩ := h
  cases rx
  cases ry
  obtain ⟨ox, od, J⟩ := met_at I ha
  obtain ⟨oy, oe, J'⟩ := met_at I hb
  obtain ⟨m, hF⟩ := I.fr
  rw [hc]
  refine PySem.W.cmp_K (tb := .ref C) hr.units0 hF I.ok.mod.kin J J'.type (by simp [PySem.W.notFirst]) me.at_ me.fn (wpAny_mono (run_fn (vs := [.ref a, .ref b']) F (hr.mono hk) b .nil C8.pass0 I (.cons rfl (.cons rfl .nil)) h) (fun r s' hq => ?_) fun _ _ z => z)
  obtain ⟨z, H', I', rz, t, q⟩ := hq
  exact cmpBack_of (t r rz) ⟨z, H', I', rz, q⟩
theorem op_eqM (c : C8.Met X.prog X.w X.K X.mg X.base k C "__eq__" sp []) (hr : Room j X.A) (hk : k ≤ j) : OpR X (compareOp .Eq) (r2M C sp) := cmpM (op := .Eq) (fun _ _ => rfl) c hr hk
theorem op_leM (c : C8.Met X.prog X.w X.K X.mg X.base k C "__le__" sp []) (hr : Room j X.A) (hk : k ≤ j) : OpR X (compareOp .LtE) (r2M C sp) := cmpM (op := .LtE) (fun _ _ => rfl) c hr hk
theorem binM {op : Operator} (hC : PySem.W.selfFirst X.K C = true) (c : C8.Met X.prog X.w X.K X.mg X.base k C (PySem.dunder op.info.2) sp []) (hr : Room j X.A) (hk : k ≤ j) : OpR X (binaryOp op) (r2M C sp) := by
  obtain ⟨f, fd, ps, ds, _, me, F, b, d⟩ := c.ex
  cases d
  intro pins s σ H x y v u Q I rx ry h
  obtain ⟨a, b', dx, dy, fs, gs, rfl, rfl, ha, hb, h⟩ := h
  cases rx
  cases ry
  obtain ⟨ox, od, J⟩ := met_at I ha
  obtain ⟨oy, oe, J'⟩ := met_at I hb
  obtain ⟨m, hF⟩ := I.fr
  refine PySem.W.binop_K hF I.ok.mod.kin J J'.type hC me.at_ me.fn (wpAny_mono (run_fn (vs := [.ref a, .ref b']) F (hr.mono hk) b .nil C8.pass0 I (.cons rfl (.cons rfl .nil)) h) (fun r s' hq => ?_) fun _ _ z => z)
  obtain ⟨z, H', I', rz, t, q⟩ := hq
  exact cmpBack_of (t r rz) ⟨z, H', I', rz, q⟩
theorem op_andM (hC : PySem.W.selfFirst X.K C = true) (c : C8.Met X.prog X.w X.K X.mg X.base k C "__and__" sp []) (hr : Room j X.A) (hk : k ≤ j) : OpR X (binaryOp .BitAnd) (r2M C sp) := binM (op := .BitAnd) hC c hr hk
theorem op_orM (hC : PySem.W.selfFirst X.K C = true) (c : C8.Met X.prog X.w X.K X.mg X.base k C "__or__" sp []) (hr : Room j X.A) (hk : k ≤ j) : OpR X (binaryOp .BitOr) (r2M C sp) := binM (op := .BitOr) hC c hr hk
theorem op_subM (hC : PySem.W.selfFirst X.K C = true) (c : C8.Met X.prog X.w X.K X.mg X.base k C "__sub__" sp []) (hr : Room j X.A) (hk : k ≤ j) : OpR X (binaryOp .Sub) (r2M C sp) := binM (op := .Sub) hC c hr hk
/-- o[i], by the class's own __getitem__ -/
def rIxM (C : Addr) (sp : Sp) : R2 := fun x y H Q => ∃ a dx fs, x = .ref a ∧ H a = some (.ins C dx fs) ∧ sp [.ref a, y] H Q C8.E0
def PlainIxT (b : Expr) : Prop := ∀ (x : Addr) (i : Value), subscripted b true (.ref x) i = runValue (.builtin "lifetime.subscript" ⟨[.ref x, i], []⟩)
theorem fnIn_of {K : PySem.W.Frag} {f : Addr} {oc : Value} {od : Option Addr} {fd : FuncData} {osl : Array (Option Value)} (h : K.lookup f = some ⟨oc, od, .func fd, osl⟩) : PySem.W.fnIn K f = true := by
  unfold PySem.W.fnIn
  rw [h]
variable {a b : Expr} {ta tb : TE} {pos : Pos}
theorem pe_ixM (c : C8.Met X.prog X.w X.K X.mg X.base k C "__getitem__" sp []) (hf : ∀ f, Meth X.K C "__getitem__" f → PySem.W.fnIn X.K f = true) (hr : Room (j + 1) X.A) (hk : k ≤ j) (ha : PE X a ta) (hb : PE X b tb) (hs : PlainIxT b) :
    PE X (.Subscript a b pos) (tOp (rIxM C sp) ta tb) := by
  obtain ⟨f, fd, ps, ds, _, me, F, bi, d⟩ := c.ex
  cases d
  refine ⟨fun pins s σ H Q I h => ?_⟩
  refine Subscript_ (binT ha hb I h fun v u s2 x y H2 I2 rx ry q => ?_)
  obtain ⟨p, dx, fs, rfl, hp, q⟩ := q
  cases rx
  obtain ⟨ox, od, J⟩ := met_at I2 hp
  obtain ⟨m, hF⟩ := I2.fr
  refine PySem.W.sub_K hF I2.ok.mod.kin J me.at_ (hf f me) me.fn ?_ (hs _ _)
  have r2 : Vals [V.ref p, y] [Value.ref p, u] := .cons rfl (.cons ry .nil)
  have hl : ([Value.ref p, u] ++ []).length = ps.length := by
    rw [List.append_nil, ← r2.length]
    exact F.len _ _ _ _ q
  refine wpAny_call (codeAny_mono (F.run X.A.in1 X.stack s2 H2 ⟨[.ref p, u], []⟩ ([.ref p, u] ++ []) [.ref p, y] Q C8.E0 (hr.in1.mono hk) I2.env0.in1 (bi s2 [.ref p, u] I2.kIn hl) (by simpa using r2) q) fun r s' hq => ?_)
  cases r with
  | error e => exact (C8.pass0 (X := X) (E := C8.E0) pins σ H2 s2 e s' I2 hq)
  | ok fl =>
    cases fl with
    | ret w => exact I2.after hq
    | next => exact False.elim hq
    | brk => exact False.elim hq
    | cont => exact False.elim hq
end
end Ow

namespace K17
open PySem L2 Bx
def top (i : Nat) : Stmt := PySem.Challenge.pw_behindexits_k17_known_and_dead_by_hand.main.body.getD i (.Pass ⟨0, 0, 0, 0⟩)
abbrev s_BadProgram_init : Stmt := inClass (top 2) 0
abbrev N_BadProgram_init : List Str := ["self", "place", "why"]
theorem sc_BadProgram_init : FnScope N_BadProgram_init ["self", "place", "why"] (C8.fnScope s_BadProgram_init) := ⟨rfl, rfl, rfl, by decide +kernel, rfl, by decide +kernel, by decide +kernel⟩
abbrev s_NoPlace_init : Stmt := inClass (top 3) 0
abbrev N_NoPlace_init : List Str := ["self", "place"]
theorem sc_NoPlace_init : FnScope N_NoPlace_init ["self", "place"] (C8.fnScope s_NoPlace_init) := ⟨rfl, rfl, rfl, by decide +kernel, rfl, by decide +kernel, by decide +kernel⟩
abbrev s_either_flow : Stmt := top 7
abbrev N_either_flow : List Str := ["one", "other", "flow", "way", "name"]
theorem sc_either_flow : FnScope N_either_flow ["one", "other"] (C8.fnScope s_either_flow) := ⟨rfl, rfl, rfl, by decide +kernel, rfl, by decide +kernel, by decide +kernel⟩
abbrev s_without_end : Stmt := top 8
abbrev N_without_end : List Str := ["flow", "way"]
theorem sc_without_end : FnScope N_without_end ["flow"] (C8.fnScope s_without_end) := ⟨rfl, rfl, rfl, by decide +kernel, rfl, by decide +kernel, by decide +kernel⟩
abbrev s_simple_flow : Stmt := top 9
abbrev N_simple_flow : List Str := ["statement", "known", "word"]
theorem sc_simple_flow : FnScope N_simple_flow ["statement", "known"] (C8.fnScope s_simple_flow) := ⟨rfl, rfl, rfl, by decide +kernel, rfl, by decide +kernel, by decide +kernel⟩
abbrev s_loop_flow : Stmt := top 10
abbrev N_loop_flow : List Str := ["body", "other", "past", "way"]
theorem sc_loop_flow : FnScope N_loop_flow ["body", "other"] (C8.fnScope s_loop_flow) := ⟨rfl, rfl, rfl, by decide +kernel, rfl, by decide +kernel, by decide +kernel⟩
abbrev s_first_fit : Stmt := top 11
abbrev N_first_fit : List Str := ["handlers", "kind", "at", "kinds", "name", "block"]
theorem sc_first_fit : FnScope N_first_fit ["handlers", "kind"] (C8.fnScope s_first_fit) := ⟨rfl, rfl, rfl, by decide +kernel, rfl, by decide +kernel, by decide +kernel⟩
abbrev s_try_flow : Stmt := top 12
abbrev N_try_flow : List Str := ["handlers", "flows", "block", "flow", "way", "at", "always"]
theorem sc_try_flow : FnScope N_try_flow ["handlers", "flows"] (C8.fnScope s_try_flow) := ⟨rfl, rfl, rfl, by decide +kernel, rfl, by decide +kernel, by decide +kernel⟩
abbrev s_is_number : Stmt := top 16
abbrev N_is_number : List Str := ["thing"]
theorem sc_is_number : FnScope N_is_number ["thing"] (C8.fnScope s_is_number) := ⟨rfl, rfl, rfl, by decide +kernel, rfl, by decide +kernel, by decide +kernel⟩
abbrev s_is_word : Stmt := top 17
abbrev N_is_word : List Str := ["thing"]
theorem sc_is_word : FnScope N_is_word ["thing"] (C8.fnScope s_is_word) := ⟨rfl, rfl, rfl, by decide +kernel, rfl, by decide +kernel, by decide +kernel⟩
abbrev s_is_name : Stmt := top 18
abbrev N_is_name : List Str := ["thing"]
theorem sc_is_name : FnScope N_is_name ["thing"] (C8.fnScope s_is_name) := ⟨rfl, rfl, rfl, by decide +kernel, rfl, by decide +kernel, by decide +kernel⟩
abbrev s_are_different : Stmt := top 19
abbrev N_are_different : List Str := ["things"]
theorem sc_are_different : FnScope N_are_different ["things"] (C8.fnScope s_are_different) := ⟨rfl, rfl, rfl, by decide +kernel, rfl, by decide +kernel, by decide +kernel⟩
abbrev s_are_names : Stmt := top 20
abbrev N_are_names : List Str := ["thing", "part"]
theorem sc_are_names : FnScope N_are_names ["thing"] (C8.fnScope s_are_names) := ⟨rfl, rfl, rfl, by decide +kernel, rfl, by decide +kernel, by decide +kernel⟩
abbrev s_is_literal : Stmt := top 21
abbrev N_is_literal : List Str := ["thing", "left", "right", "number"]
theorem sc_is_literal : FnScope N_is_literal ["thing"] (C8.fnScope s_is_literal) := ⟨rfl, rfl, rfl, by decide +kernel, rfl, by decide +kernel, by decide +kernel⟩
abbrev s_is_term : Stmt := top 22
abbrev N_is_term : List Str := ["thing"]
theorem sc_is_term : FnScope N_is_term ["thing"] (C8.fnScope s_is_term) := ⟨rfl, rfl, rfl, by decide +kernel, rfl, by decide +kernel, by decide +kernel⟩
abbrev s_is_named_literal : Stmt := top 23
abbrev N_is_named_literal : List Str := ["thing"]
theorem sc_is_named_literal : FnScope N_is_named_literal ["thing"] (C8.fnScope s_is_named_literal) := ⟨rfl, rfl, rfl, by decide +kernel, rfl, by decide +kernel, by decide +kernel⟩
abbrev s_is_value : Stmt := top 24
abbrev N_is_value : List Str := ["thing"]
theorem sc_is_value : FnScope N_is_value ["thing"] (C8.fnScope s_is_value) := ⟨rfl, rfl, rfl, by decide +kernel, rfl, by decide +kernel, by decide +kernel⟩
abbrev s_has_shape : Stmt := top 28
abbrev N_has_shape : List Str := ["thing", "shape", "part", "kind"]
theorem sc_has_shape : FnScope N_has_shape ["thing"] (C8.fnScope s_has_shape) := ⟨rfl, rfl, rfl, by decide +kernel, rfl, by decide +kernel, by decide +kernel⟩
abbrev s_is_of_kind : Stmt := top 29
abbrev N_is_of_kind : List Str := ["part", "kind", "item"]
theorem sc_is_of_kind : FnScope N_is_of_kind ["part", "kind"] (C8.fnScope s_is_of_kind) := ⟨rfl, rfl, rfl, by decide +kernel, rfl, by decide +kernel, by decide +kernel⟩
abbrev s_is_handler : Stmt := top 30
abbrev N_is_handler : List Str := ["thing", "kinds", "name", "block"]
theorem sc_is_handler : FnScope N_is_handler ["thing"] (C8.fnScope s_is_handler) := ⟨rfl, rfl, rfl, by decide +kernel, rfl, by decide +kernel, by decide +kernel⟩
abbrev s_terms_of : Stmt := top 31
abbrev N_terms_of : List Str := ["statement", "word"]
theorem sc_terms_of : FnScope N_terms_of ["statement"] (C8.fnScope s_terms_of) := ⟨rfl, rfl, rfl, by decide +kernel, rfl, by decide +kernel, by decide +kernel⟩
abbrev s_handlers_of : Stmt := top 32
abbrev N_handlers_of : List Str := ["statement"]
theorem sc_handlers_of : FnScope N_handlers_of ["statement"] (C8.fnScope s_handlers_of) := ⟨rfl, rfl, rfl, by decide +kernel, rfl, by decide +kernel, by decide +kernel⟩
abbrev s_blocks_of : Stmt := top 33
abbrev N_blocks_of : List Str := ["statement", "word", "kinds", "name", "block"]
theorem sc_blocks_of : FnScope N_blocks_of ["statement"] (C8.fnScope s_blocks_of) := ⟨rfl, rfl, rfl, by decide +kernel, rfl, by decide +kernel, by decide +kernel⟩
abbrev s_settings_of : Stmt := top 34
abbrev N_settings_of : List Str := ["statement", "place", "found", "at", "kinds", "name", "block"]
theorem sc_settings_of : FnScope N_settings_of ["statement", "place"] (C8.fnScope s_settings_of) := ⟨rfl, rfl, rfl, by decide +kernel, rfl, by decide +kernel, by decide +kernel⟩
abbrev s_statement_at : Stmt := top 35
abbrev N_statement_at : List Str := ["block", "place", "blocks", "number", "at", "statement", "step"]
theorem sc_statement_at : FnScope N_statement_at ["block", "place"] (C8.fnScope s_statement_at) := ⟨rfl, rfl, rfl, by decide +kernel, rfl, by decide +kernel, by decide +kernel⟩
abbrev s_places_in : Stmt := top 36
abbrev N_places_in : List Str := ["block", "before", "found", "index", "statement", "place", "number", "inner"]
theorem sc_places_in : FnScope N_places_in ["block", "before"] (C8.fnScope s_places_in) := ⟨rfl, rfl, rfl, by decide +kernel, rfl, by decide +kernel, by decide +kernel⟩
abbrev s_Check_init : Stmt := inClass (top 38) 0
abbrev N_Check_init : List Str := ["self", "inputs", "block"]
theorem sc_Check_init : FnScope N_Check_init ["self", "inputs", "block"] (C8.fnScope s_Check_init) := ⟨rfl, rfl, rfl, by decide +kernel, rfl, by decide +kernel, by decide +kernel⟩
abbrev s_Check_block_flow : Stmt := inClass (top 38) 1
abbrev N_Check_block_flow : List Str := ["self", "block", "before", "known", "looped", "flow", "index", "statement", "place", "why", "past"]
theorem sc_Check_block_flow : FnScope N_Check_block_flow ["self", "block", "before", "known", "looped"] (C8.fnScope s_Check_block_flow) := ⟨rfl, rfl, rfl, by decide +kernel, rfl, by decide +kernel, by decide +kernel⟩
abbrev s_Check_fault : Stmt := inClass (top 38) 2
abbrev N_Check_fault : List Str := ["self", "statement", "place", "known", "looped", "term"]
theorem sc_Check_fault : FnScope N_Check_fault ["self", "statement", "place", "known", "looped"] (C8.fnScope s_Check_fault) := ⟨rfl, rfl, rfl, by decide +kernel, rfl, by decide +kernel, by decide +kernel⟩
abbrev s_Check_sets_again : Stmt := inClass (top 38) 3
abbrev N_Check_sets_again : List Str := ["self", "statement", "place", "name", "path", "earlier"]
theorem sc_Check_sets_again : FnScope N_Check_sets_again ["self", "statement", "place"] (C8.fnScope s_Check_sets_again) := ⟨rfl, rfl, rfl, by decide +kernel, rfl, by decide +kernel, by decide +kernel⟩
abbrev s_Check_note : Stmt := inClass (top 38) 4
abbrev N_Check_note : List Str := ["self", "statement", "place", "name", "path"]
theorem sc_Check_note : FnScope N_Check_note ["self", "statement", "place"] (C8.fnScope s_Check_note) := ⟨rfl, rfl, rfl, by decide +kernel, rfl, by decide +kernel, by decide +kernel⟩
abbrev s_Check_statement_flow : Stmt := inClass (top 38) 5
abbrev N_Check_statement_flow : List Str := ["self", "statement", "place", "known", "looped", "body", "blocks", "yes"]
theorem sc_Check_statement_flow : FnScope N_Check_statement_flow ["self", "statement", "place", "known", "looped"] (C8.fnScope s_Check_statement_flow) := ⟨rfl, rfl, rfl, by decide +kernel, rfl, by decide +kernel, by decide +kernel⟩
abbrev s_Check_try_flows : Stmt := inClass (top 38) 6
abbrev N_Check_try_flows : List Str := ["self", "statement", "place", "known", "looped", "word", "block", "handlers", "other", "always", "flows", "behind", "kinds", "name", "inner", "there"]
theorem sc_Check_try_flows : FnScope N_Check_try_flows ["self", "statement", "place", "known", "looped"] (C8.fnScope s_Check_try_flows) := ⟨rfl, rfl, rfl, by decide +kernel, rfl, by decide +kernel, by decide +kernel⟩
abbrev s_are_apart : Stmt := top 39
abbrev N_are_apart : List Str := ["block", "one", "other", "shared", "steps", "statement", "number"]
theorem sc_are_apart : FnScope N_are_apart ["block", "one", "other"] (C8.fnScope s_are_apart) := ⟨rfl, rfl, rfl, by decide +kernel, rfl, by decide +kernel, by decide +kernel⟩
abbrev s_Program_init : Stmt := inClass (top 41) 0
abbrev N_Program_init : List Str := ["self", "inputs", "block", "check"]
theorem sc_Program_init : FnScope N_Program_init ["self", "inputs", "block"] (C8.fnScope s_Program_init) := ⟨rfl, rfl, rfl, by decide +kernel, rfl, by decide +kernel, by decide +kernel⟩
abbrev s_Program_places : Stmt := inClass (top 41) 1
abbrev N_Program_places : List Str := ["self"]
theorem sc_Program_places : FnScope N_Program_places ["self"] (C8.fnScope s_Program_places) := ⟨rfl, rfl, rfl, by decide +kernel, rfl, by decide +kernel, by decide +kernel⟩
abbrev s_Program_getitem : Stmt := inClass (top 41) 2
abbrev N_Program_getitem : List Str := ["self", "place", "statement"]
theorem sc_Program_getitem : FnScope N_Program_getitem ["self", "place"] (C8.fnScope s_Program_getitem) := ⟨rfl, rfl, rfl, by decide +kernel, rfl, by decide +kernel, by decide +kernel⟩
abbrev s_Program_contains : Stmt := inClass (top 41) 3
abbrev N_Program_contains : List Str := ["self", "place"]
theorem sc_Program_contains : FnScope N_Program_contains ["self", "place"] (C8.fnScope s_Program_contains) := ⟨rfl, rfl, rfl, by decide +kernel, rfl, by decide +kernel, by decide +kernel⟩
abbrev s_Program_iter : Stmt := inClass (top 41) 4
abbrev N_Program_iter : List Str := ["self"]
theorem sc_Program_iter : FnScope N_Program_iter ["self"] (C8.fnScope s_Program_iter) := ⟨rfl, rfl, rfl, by decide +kernel, rfl, by decide +kernel, by decide +kernel⟩
abbrev s_Program_eq : Stmt := inClass (top 41) 5
abbrev N_Program_eq : List Str := ["self", "other"]
theorem sc_Program_eq : FnScope N_Program_eq ["self", "other"] (C8.fnScope s_Program_eq) := ⟨rfl, rfl, rfl, by decide +kernel, rfl, by decide +kernel, by decide +kernel⟩
abbrev s_l_well : Stmt := top 43
abbrev N_l_well : List Str := ["_law_cell"]
theorem sc_l_well : FnScope N_l_well ["_law_cell"] (C8.fnScope s_l_well) := ⟨rfl, rfl, rfl, by decide +kernel, rfl, by decide +kernel, by decide +kernel⟩
abbrev s_l_draw : Stmt := top 44
abbrev N_l_draw : List Str := ["_law_well_here", "_law_base", "_law_digit", "_law_number"]
theorem sc_l_draw : FnScope N_l_draw ["_law_well_here", "_law_base"] (C8.fnScope s_l_draw) := ⟨rfl, rfl, rfl, by decide +kernel, rfl, by decide +kernel, by decide +kernel⟩
abbrev s_l_one : Stmt := top 45
abbrev N_l_one : List Str := ["_law_well_here", "_law_some"]
theorem sc_l_one : FnScope N_l_one ["_law_well_here", "_law_some"] (C8.fnScope s_l_one) := ⟨rfl, rfl, rfl, by decide +kernel, rfl, by decide +kernel, by decide +kernel⟩
abbrev s_l_refusal : Stmt := top 46
abbrev N_l_refusal : List Str := ["_law_block", "e"]
theorem sc_l_refusal : FnScope N_l_refusal ["_law_block"] (C8.fnScope s_l_refusal) := ⟨rfl, rfl, rfl, by decide +kernel, rfl, by decide +kernel, by decide +kernel⟩
abbrev s_l_unknown : Stmt := top 47
abbrev N_l_unknown : List Str := ["_law_x", "_law_i", "_law_use", "_law_low", "_law_high", "_law_gone", "_law_ask", "_law_first", "_law_fits", "_law_rows"]
theorem sc_l_unknown : FnScope N_l_unknown ["_law_x", "_law_i", "_law_use"] (C8.fnScope s_l_unknown) := ⟨rfl, rfl, rfl, by decide +kernel, rfl, by decide +kernel, by decide +kernel⟩
abbrev s_l_dead : Stmt := top 48
abbrev N_l_dead : List Str := ["_law_i", "_law_more", "_law_a", "_law_b", "_law_low", "_law_high", "_law_rows"]
theorem sc_l_dead : FnScope N_l_dead ["_law_i", "_law_more"] (C8.fnScope s_l_dead) := ⟨rfl, rfl, rfl, by decide +kernel, rfl, by decide +kernel, by decide +kernel⟩
abbrev s_l_taken : Stmt := top 49
abbrev N_l_taken : List Str := ["_law_x", "_law_i", "_law_use", "_law_low", "_law_high", "_law_gone", "_law_ask", "_law_first", "_law_fits", "_law_leave", "_law_rows"]
theorem sc_l_taken : FnScope N_l_taken ["_law_x", "_law_i", "_law_use"] (C8.fnScope s_l_taken) := ⟨rfl, rfl, rfl, by decide +kernel, rfl, by decide +kernel, by decide +kernel⟩
abbrev s_l_within : Stmt := top 50
abbrev N_l_within : List Str := ["_law_block", "_law_place", "_law_many", "_law_inner"]
theorem sc_l_within : FnScope N_l_within ["_law_block", "_law_place", "_law_many", "_law_inner"] (C8.fnScope s_l_within) := ⟨rfl, rfl, rfl, by decide +kernel, rfl, by decide +kernel, by decide +kernel⟩
abbrev s_law : Stmt := top 51
abbrev N_law : List Str := ["_law_script", "_law_cell", "_law_well_here", "_law_names", "_law_use", "_law_many", "_law_inner", "_law_rows", "_law_block", "_law_place", "_law_why", "_law_row"]
theorem sc_law : FnScope N_law ["_law_script"] (C8.fnScope s_law) := ⟨rfl, rfl, rfl, by decide +kernel, rfl, by decide +kernel, by decide +kernel⟩
def barred : List Str := ["again", "always", "any", "as", "ask", "below", "catch", "choose", "else", "end", "error", "for", "from", "if", "inputs", "leave", "none", "or", "out", "raise", "read", "return", "set", "try", "value"]
/-- the addresses of the classes and of the written things -/
structure Ad where
  cK : Addr
  cP : Addr
  bar : Addr
  shp : Addr
  eEnd : Addr
  eLeave : Addr
structure Txt (K : PySem.W.Frag) (mg : Str → Option Value) (a : Ad) : Prop where
  g_Check : mg "Check" = some (.ref a.cK)
  g_Program : mg "Program" = some (.ref a.cP)
  cK : Cls K a.cK
  cP : Cls K a.cP
  nK : NoAttr K a.cK "inputs" ∧ NoAttr K a.cK "block" ∧ NoAttr K a.cK "settings" ∧ NoAttr K a.cK "known" ∧ NoAttr K a.cK "flow"
  nP : NoAttr K a.cP "inputs" ∧ NoAttr K a.cP "block" ∧ NoAttr K a.cP "flow" ∧ NoAttr K a.cP "known_before" ∧ NoAttr K a.cP "settings" ∧ NoAttr K a.cP "kept"
  c_END : ∃ u, mg "END" = some u ∧ RelV (.ref a.eEnd) u
  c_LEAVE : ∃ u, mg "LEAVE" = some u ∧ RelV (.ref a.eLeave) u
  c_LONGEST : ∃ u, mg "LONGEST" = some u ∧ RelV (.int 8) u
  c_MOST_HANDLERS : ∃ u, mg "MOST_HANDLERS" = some u ∧ RelV (.int 3) u
  c_BARRED : ∃ u, mg "BARRED" = some u ∧ RelV (.ref a.bar) u
  c_SHAPES : ∃ u, mg "SHAPES" = some u ∧ RelV (.ref a.shp) u
  tEnd : ∀ H : Hp, SqT K H a.eEnd [.str "end"]
  tLeave : ∀ H : Hp, SqT K H a.eLeave [.str "leave"]
  z_sum : mg "sum" = none
  z_isinstance : mg "isinstance" = none
  z_len : mg "len" = none
  z_int : mg "int" = none
  z_bool : mg "bool" = none
  z_str : mg "str" = none
  z_tuple : mg "tuple" = none
  z_list : mg "list" = none
  z_dict : mg "dict" = none
  z_set : mg "set" = none
  z_range : mg "range" = none
  z_enumerate : mg "enumerate" = none
  z_zip : mg "zip" = none
  z_sorted : mg "sorted" = none
  z_all : mg "all" = none
  z_any : mg "any" = none
end K17

/-! a Hook of one's own: any facts of the written part, defs by their addresses, written dicts by their keys; addresses by levels, each forced -/
namespace Hy
open PySem L2 He
/-- a def and where it stands -/
structure DX where
  ad : PySem.W.Frag → Addr
  name : Str
  qual : Str
  params : Arguments
  body : List Stmt
  scope : Scope
def fnAt (K : PySem.W.Frag) (a : Addr) : FnW := match K.lookup a with
  | some ⟨_, _, .func fd, _⟩ => some (fd.name, fd.qualname, fd.params, fd.body, fd.scope, fd.globals, fd.closure, fd.builtins)
  | _ => none
def DX.val (d : DX) : FnW := some (d.name, d.qual, d.params, .stmts d.body, d.scope, mainGlobals, [], builtinsNs)
def DX.ok (K : PySem.W.Frag) (d : DX) : Bool := PySem.W.keepIn K (.ref (d.ad K)) && (match K.lookup (d.ad K) with
  | some ⟨_, _, .func fd, _⟩ => PySem.W.codeIn K fd.code d.qual && (dflB K fd.defaults [] && kwdB K fd.kwdefaults [])
  | _ => false)
abbrev AlY : Type := AlD × List (Option (List (Option (Str × Int))))
def obsY (B : PySem.W.Frag → Bool) (fn : List DX) (ts : List Tab) (K : PySem.W.Frag) : AlY := ((B K && fn.all fun d => d.ok K, fn.map fun d => fnAt K (d.ad K)), ts.map fun t => dicW K (t.1 K))
def valY (fn : List DX) (ts : List Tab) (w : World) : AlY := ((true, fn.map DX.val), ts.map fun t => some (keysIn w.params t.2))
/-- what an object leads to -/
def kids (o : Obj) : List Addr := match o.data with
  | .func fd => refV fd.code ++ (refV fd.defaults ++ refV fd.kwdefaults)
  | .cls cd => [cd.ns]
  | .dict es _ => es.toList.flatMap fun e => refV e.val
  | .fields vs => vs.toList.flatMap refV
  | .seq its _ => its.toList.flatMap refV
  | _ => []
def lvl (g : Addr → Option Obj) (as : List Addr) : List Addr := as.flatMap fun a => match g a with
  | some o => kids o
  | none => []
def asY (g : Addr → Option Obj) : List Addr :=
  let l1 := lvl g [mainGlobals]
  let l2 := lvl g l1
  let l3 := lvl g l2
  let l4 := lvl g l3
  let l5 := lvl g l4
  mainGlobals :: (l1 ++ (l2 ++ (l3 ++ (l4 ++ l5))))
def frList {α : Type} : List Addr → (List Addr → α) → α
  | [], k => k []
  | a :: r, k => HandSHeadRun.frNat a fun a => frList r fun r => k (a :: r)
theorem frList_eq {α : Type} : ∀ (l : List Addr) (k : List Addr → α), frList l k = k l
  | [], _ => rfl
  | a :: r, k => by
    show HandSHeadRun.frNat a (fun a => frList r fun r => k (a :: r)) = k (a :: r)
    rw [HandSHeadRun.frNat_eq, frList_eq r]
/-- as asY, each level forced -/
def frAs {α : Type} (g : Addr → Option Obj) (k : List Addr → α) : α :=
  frList (lvl g [mainGlobals]) fun l1 => frList (lvl g l1) fun l2 => frList (lvl g l2) fun l3 => frList (lvl g l3) fun l4 => frList (lvl g l4) fun l5 =>
    frList (mainGlobals :: (l1 ++ (l2 ++ (l3 ++ (l4 ++ l5))))) k
theorem frAs_eq {α : Type} (g : Addr → Option Obj) (k : List Addr → α) : frAs g k = k (asY g) := by
  unfold frAs
  simp only [frList_eq]
  rfl
def obsYG (B : PySem.W.Frag → Bool) (fn : List DX) (ts : List Tab) (g : Addr → Option Obj) : AlY := frAs g fun as => obsY B fn ts (frG g as)
def hookY (B : PySem.W.Frag → Bool) (fn : List DX) (ts : List Tab) : PySem.W.Hook where
  α := AlY
  obs := fun s => obsYG B fn ts s.heap.get?
  val := fun w => valY fn ts w
  says := fun w h => ∃ K : PySem.W.Frag, K.In h ∧ obsY B fn ts K = valY fn ts w
  of := fun _ _ e => ⟨_, frG_in, (frAs_eq _ fun as => obsY B fn ts (frG _ as)).symm.trans e⟩
  keeps := fun _ _ _ ⟨K, hK, c⟩ k => ⟨K, PySem.W.Frag.In.keeps hK k, c⟩
theorem obsYG_eq {B : PySem.W.Frag → Bool} {fn : List DX} {ts : List Tab} {g : Addr → Option Obj} {s : Shared} (h : ∀ a, g a = s.heap.get? a) : obsYG B fn ts g = (hookY B fn ts).obs s := by
  have e : g = s.heap.get? := funext h
  rw [e] <;> rfl
section
variable {B : PySem.W.Frag → Bool} {fn : List DX} {ts : List Tab} {K : PySem.W.Frag} {w : World}
theorem says_fact (c : obsY B fn ts K = valY fn ts w) : B K = true := (ba (show (B K && fn.all fun d => d.ok K) = true from congrArg (fun z : AlY => z.1.1) c)).1
theorem funX {d : DX} (e : fnAt K (d.ad K) = d.val) (c : d.ok K = true) : ∃ oc od kV doc pm an cdv ct osl, K.lookup (d.ad K) = some ⟨oc, od, .func (PySem.W.fnOf d.name d.qual d.params d.body d.scope .none kV doc pm an cdv ct), osl⟩ ∧ PySem.W.codeIn K cdv d.qual = true ∧ PySem.W.keepIn K (.ref (d.ad K)) = true := by
  obtain ⟨kp, c2⟩ := ba c
  unfold fnAt at e
  cases q : K.lookup (d.ad K) with
  | none =>
    rw [q] at c2
    cases c2
  | some o =>
    obtain ⟨oc, od, dt, osl⟩ := o
    rw [q] at c2 e
    cases dt with
    | func fd =>
      obtain ⟨n1, n2, n3, n4, n5, n6, n7, n8, n9, n10, n11, n12, n13, n14, n15⟩ := fd
      have e2 : (some (n1, n2, n3, n4, n5, n6, n7, n15) : FnW) = some (d.name, d.qual, d.params, .stmts d.body, d.scope, mainGlobals, [], builtinsNs) := e
      simp only [Option.some.injEq, Prod.mk.injEq] at e2
      obtain ⟨h1, h2, h3, h4, h5, h6, h7, h8⟩ := e2
      subst h1 h2 h3 h4 h5 h6 h7 h8
      have c3 : (PySem.W.codeIn K n13 d.qual && (dflB K n8 [] && kwdB K n9 [])) = true := c2
      obtain ⟨k1, k2⟩ := ba c3
      obtain ⟨k3, k4⟩ := ba k2
      have kd : n8 = .none := by
        rcases dflB_ok k3 with ⟨_, h⟩ | ⟨h, _⟩
        · exact h
        · exact absurd rfl h
      subst kd
      exact ⟨_, _, _, _, _, _, _, _, _, rfl, k1, kp⟩
    | _ => cases c2
/-- a def, as the layer wants it -/
theorem says_fun (c : obsY B fn ts K = valY fn ts w) (i : Nat) {d : DX} (h : fn[i]? = some d := by rfl) : ∃ oc od kV doc pm an cdv ct osl, K.lookup (d.ad K) = some ⟨oc, od, .func (PySem.W.fnOf d.name d.qual d.params d.body d.scope .none kV doc pm an cdv ct), osl⟩ ∧ PySem.W.codeIn K cdv d.qual = true ∧ PySem.W.keepIn K (.ref (d.ad K)) = true := by
  have c1 := (ba (show (B K && fn.all fun d => d.ok K) = true from congrArg (fun z : AlY => z.1.1) c)).2
  have c2 : fn.map (fun d => fnAt K (d.ad K)) = fn.map DX.val := congrArg (fun z : AlY => z.1.2) c
  have e2 : (fn.map fun d => fnAt K (d.ad K))[i]? = (fn.map DX.val)[i]? := by rw [c2]
  rw [List.getElem?_map, List.getElem?_map, h] at e2
  exact funX (Option.some.inj e2) (List.all_eq_true.mp c1 d (List.mem_of_getElem? h))
theorem strs_of {P : Params} : ∀ {l : List DictEntry} {ks : List Str}, l.map He.keyOf = keysIn P ks → l.map (fun e => Kd.strOf e.key) = ks.map some
  | [], [], _ => rfl
  | [], _ :: _, h => by cases h
  | _ :: _, [], h => by cases h
  | e :: r, k :: ks, h => by
    have h1 : He.keyOf e :: r.map He.keyOf = some (k, PyData.keyHash P k) :: keysIn P ks := h
    injection h1 with h2 h3
    rw [List.map_cons, List.map_cons, strs_of h3]
    have hk : Kd.strOf e.key = some k := by
      unfold He.keyOf at h2
      split at h2
      · rename_i x t q
        rw [q]
        exact congrArg some (Prod.mk.inj (Option.some.inj h2)).1
      · cases h2
    rw [hk]
theorem dicW_sd {a : Addr} {ks : List Str} (h : dicW K a = some (keysIn w.params ks)) : Kd.SD K w a ks := by
  obtain ⟨es, n, D⟩ := dicW_ok h
  refine ⟨es, n, D, ?_⟩
  unfold dicW at h
  rw [D.at_] at h
  have h1 : (match decide ("dict" = "dict") && ((#[] : Array (Option Value)).isEmpty && !(a == sysModules)) with
    | true => some (es.toList.map He.keyOf)
    | false => none) = some (keysIn w.params ks) := h
  rw [D.low] at h1
  exact strs_of (Option.some.inj h1)
theorem says_tab (c : obsY B fn ts K = valY fn ts w) (i : Nat) {t : Tab} (h : ts[i]? = some t := by rfl) : Kd.SD K w (t.1 K) t.2 := by
  have e : ts.map (fun t => dicW K (t.1 K)) = ts.map fun t => some (keysIn w.params t.2) := congrArg (fun z : AlY => z.2) c
  have e2 : (ts.map fun t => dicW K (t.1 K))[i]? = (ts.map fun t => some (keysIn w.params t.2))[i]? := by rw [e]
  rw [List.getElem?_map, List.getElem?_map, h] at e2
  exact dicW_sd (Option.some.inj e2)
end
end Hy

/-! flows in the heap -/
namespace Pm
open PySem L2 Bx Tk
section
variable {X : Cx} (K : PySem.W.Frag)
theorem neDK {k : Nat} (hr : Room k X.A) (h : X.K = K := by rfl) : OpR X (compareOp .NotEq) (rNeD K) := by subst h; exact op_neD hr.units
theorem eqDK {k : Nat} (hr : Room k X.A) (h : X.K = K := by rfl) : OpR X (compareOp .Eq) (rEqD K) := by subst h; exact op_eqD hr.units
end
theorem keyV (k : Way) : (k.map Sum.inr : List Key).map kV = k.map V.str := by
  rw [List.map_map]
  rfl
theorem str_inj : ∀ {k l : List Str}, k.map V.str = l.map V.str → k = l
  | [], [], _ => rfl
  | [], _ :: _, h => by cases h
  | _ :: _, [], h => by cases h
  | a :: k, b :: l, h => by
    rw [List.map_cons, List.map_cons] at h
    injection h with h1 h2
    rw [V.str.inj h1, str_inj h2]
theorem key_inj {k l : Way} (h : (k.map Sum.inr : List Key) = l.map Sum.inr) : k = l := by
  have e := congrArg (List.map kV) h
  rw [keyV, keyV] at e
  exact str_inj e
/-! mathematics -/
theorem getF_cons (p : Way × Names) (f : Fw) (k : Way) : getF (p :: f) k = if p.1 = k then some p.2 else getF f k := by
  unfold getF
  by_cases e : p.1 = k
  · rw [List.find?_cons_of_pos (by simpa using e), if_pos e]
    rfl
  · rw [List.find?_cons_of_neg (by simpa using e), if_neg e]
theorem getF_mem {f : Fw} (nd : (f.map (·.1)).Nodup) {p : Way × Names} (h : p ∈ f) : getF f p.1 = some p.2 := by
  induction f with
  | nil => cases h
  | cons q f ih =>
    rw [getF_cons]
    rw [List.map_cons, List.nodup_cons] at nd
    rcases List.mem_cons.mp h with e | e
    · subst e
      rw [if_pos rfl]
    · rw [if_neg fun z => nd.1 (by rw [z]; exact List.mem_map_of_mem e)]
      exact ih nd.2 e
theorem getF_none {f : Fw} {k : Way} : getF f k = none ↔ k ∉ f.map (·.1) := by
  induction f with
  | nil => simp [getF]
  | cons q f ih =>
    rw [getF_cons, List.map_cons, List.mem_cons]
    by_cases e : q.1 = k
    · rw [if_pos e]
      simp [e]
    · rw [if_neg e, ih]
      constructor
      · rintro h (z | z)
        · exact e z.symm
        · exact h z
      · exact fun h z => h (.inr z)
theorem any_getF (f : Fw) (k : Way) : (f.any fun p => decide (p.1 = k)) = (getF f k).isSome := by
  induction f with
  | nil => rfl
  | cons q f ih =>
    rw [getF_cons, List.any_cons, ih]
    by_cases e : q.1 = k
    · rw [if_pos e]
      simp [e]
    · rw [if_neg e]
      simp [e]
theorem putF_keys (f : Fw) (k : Way) (v : Names) : (putF f k v).map (·.1) = if (getF f k).isSome = true then f.map (·.1) else f.map (·.1) ++ [k] := by
  unfold putF
  rw [any_getF]
  by_cases c : (getF f k).isSome = true
  · rw [if_pos c, if_pos c, List.map_map]
    refine List.map_congr_left fun p _ => ?_
    show (if p.1 = k then (p.1, v) else p).1 = p.1
    by_cases e : p.1 = k
    · rw [if_pos e]
    · rw [if_neg e]
  · rw [if_neg c, if_neg c, List.map_append]
    rfl
theorem putF_nodup {f : Fw} {k : Way} {v : Names} (nd : (f.map (·.1)).Nodup) : ((putF f k v).map (·.1)).Nodup := by
  rw [putF_keys]
  by_cases c : (getF f k).isSome = true
  · rw [if_pos c]
    exact nd
  · rw [if_neg c]
    have n : getF f k = none := by
      cases q : getF f k with
      | none => rfl
      | some _ => rw [q] at c; exact absurd rfl c
    refine List.nodup_append.mpr ⟨nd, by simp, fun a ha b hb => ?_⟩
    rw [List.mem_singleton.mp hb]
    exact fun z => getF_none.mp n (z ▸ ha)
/-- all ways are among W -/
def In (W : List Way) (f : Fw) : Prop := ∀ k ∈ f.map (·.1), k ∈ W
theorem putF_in {W : List Way} {f : Fw} {k : Way} {v : Names} (h : In W f) (hk : k ∈ W) : In W (putF f k v) := by
  intro a ha
  rw [putF_keys] at ha
  by_cases c : (getF f k).isSome = true
  · rw [if_pos c] at ha
    exact h a ha
  · rw [if_neg c] at ha
    rcases List.mem_append.mp ha with z | z
    · exact h a z
    · rw [List.mem_singleton.mp z]
      exact hk
theorem step_nodup {f : Fw} {p : Way × Names} (nd : (f.map (·.1)).Nodup) : ((eitherStep f p).map (·.1)).Nodup := by
  unfold eitherStep
  split <;> exact putF_nodup nd
theorem step_in {W : List Way} {f : Fw} {p : Way × Names} (h : In W f) (hp : p.1 ∈ W) : In W (eitherStep f p) := by
  unfold eitherStep
  split <;> exact putF_in h hp
theorem either_nodup {f : Fw} (nd : (f.map (·.1)).Nodup) : ∀ g : Fw, ((eitherF f g).map (·.1)).Nodup := by
  intro g
  unfold eitherF
  induction g generalizing f with
  | nil => exact nd
  | cons p g ih => exact ih (step_nodup nd)
theorem either_in {W : List Way} : ∀ {g f : Fw}, In W f → In W g → In W (eitherF f g) := by
  intro g
  induction g with
  | nil => exact fun h _ => h
  | cons p g ih =>
    intro f h hg
    exact ih (f := eitherStep f p) (step_in h (hg _ (by simp))) fun k hk => hg k (by rw [List.map_cons]; exact List.mem_cons_of_mem _ hk)
theorem filter_nodup {f : Fw} (t : Way × Names → Bool) (nd : (f.map (·.1)).Nodup) : ((f.filter t).map (·.1)).Nodup := by
  exact List.Sublist.nodup (List.Sublist.map _ List.filter_sublist) nd
theorem filter_in {W : List Way} {f : Fw} (t : Way × Names → Bool) (h : In W f) : In W (f.filter t) := fun k hk => h k ((List.Sublist.map _ List.filter_sublist).subset hk)
theorem in_len {W : List Way} {f : Fw} (nd : (f.map (·.1)).Nodup) (h : In W f) : f.length ≤ W.length := by
  have := Bf.len_le nd h
  rwa [List.length_map] at this
/-! in the heap -/
def FwR (K : PySem.W.Frag) (H : Hp) (p : Way × Names) (q : List Key × V) : Prop := q.1 = p.1.map Sum.inr ∧ ∃ b, q.2 = .ref b ∧ SqT K H b (p.2.map V.str)
structure FwAt (P : Program) (w : World) (K : PySem.W.Frag) (H : Hp) (a : Addr) (f : Fw) : Prop where
  nd : (f.map (·.1)).Nodup
  ex : ∃ kvs, TD P w K H a kvs ∧ Paired (FwR K H) f kvs
section
variable {P : Program} {w : World} {K : PySem.W.Frag} {H H' : Hp} {a b c : Addr} {f : Fw} {kvs : List (List Key × V)} {k : Way} {v : Names}
theorem fwr_mono (st : ∀ b ks, SqT K H b ks → SqT K H' b ks) (r : Paired (FwR K H) f kvs) : Paired (FwR K H') f kvs :=
  Paired.mapP r fun _ _ ⟨h1, b, h2, h3⟩ => ⟨h1, b, h2, st _ _ h3⟩
theorem TD.mono (ha : H' a = H a) (st : ∀ b ks, SqT K H b ks → SqT K H' b ks) (r : TD P w K H a kvs) : TD P w K H' a kvs := by
  obtain ⟨es, e, kr⟩ := r
  exact ⟨es, ha.trans e, keyR_mono st kr⟩
theorem FwAt.mono (h : FwAt P w K H a f) (ha : H' a = H a) (st : ∀ b ks, SqT K H b ks → SqT K H' b ks) : FwAt P w K H' a f := by
  obtain ⟨nd, kvs, td, r⟩ := h
  exact ⟨nd, kvs, TD.mono ha st td, fwr_mono st r⟩
theorem FwAt.same (h : FwAt P w K H a f) (S : Same H H') : FwAt P w K H' a f := by
  obtain ⟨nd, kvs, ⟨es, e, kr⟩, r⟩ := h
  exact ⟨nd, kvs, ⟨es, S _ _ e, keyR_mono (fun _ _ z => Same.seqT S z) kr⟩, fwr_mono (fun _ _ z => Same.seqT S z) r⟩
theorem val_none (r : Paired (FwR K H) f kvs) (h : getF f k = none) : valV kvs (k.map Sum.inr) = none := by
  induction r with
  | nil => rfl
  | @cons p q ps qs hh t ih =>
    rw [getF_cons] at h
    by_cases e : p.1 = k
    · rw [if_pos e] at h
      cases h
    · rw [if_neg e] at h
      rw [valV_neg fun z => e (key_inj (hh.1.symm.trans z))]
      exact ih h
theorem val_some (r : Paired (FwR K H) f kvs) (h : getF f k = some v) : ∃ c, valV kvs (k.map Sum.inr) = some (.ref c) ∧ SqT K H c (v.map V.str) := by
  induction r with
  | nil => cases h
  | @cons p q ps qs hh t ih =>
    rw [getF_cons] at h
    by_cases e : p.1 = k
    · rw [if_pos e] at h
      cases h
      obtain ⟨h1, c, h2, h3⟩ := hh
      exact ⟨c, by rw [valV_pos (by rw [h1, e]), h2], h3⟩
    · rw [if_neg e] at h
      obtain ⟨c, h2, h3⟩ := ih h
      exact ⟨c, by rw [valV_neg fun z => e (key_inj (hh.1.symm.trans z))]; exact h2, h3⟩
theorem FwAt.none_ (h : FwAt P w K H a f) (hk : SqT K H b (k.map V.str)) (e : getF f k = none) : TGet P w K H a (.ref b) none := by
  obtain ⟨_, kvs, td, r⟩ := h
  have g := TGet.of (k := k.map Sum.inr) td (by rw [keyV]; exact hk)
  rwa [val_none r e] at g
theorem FwAt.some_ (h : FwAt P w K H a f) (hk : SqT K H b (k.map V.str)) (e : getF f k = some v) : ∃ c, TGet P w K H a (.ref b) (some (.ref c)) ∧ SqT K H c (v.map V.str) := by
  obtain ⟨_, kvs, td, r⟩ := h
  have g := TGet.of (k := k.map Sum.inr) td (by rw [keyV]; exact hk)
  obtain ⟨c, e2, h3⟩ := val_some r e
  rw [e2] at g
  exact ⟨c, g, h3⟩
theorem FwAt.isSome (h : FwAt P w K H a f) (hk : SqT K H b (k.map V.str)) : ∃ o, TGet P w K H a (.ref b) o ∧ o.isSome = (getF f k).isSome := by
  cases e : getF f k with
  | none => exact ⟨none, h.none_ hk e, rfl⟩
  | some v =>
    obtain ⟨c, g, _⟩ := h.some_ hk e
    exact ⟨_, g, rfl⟩
theorem put_pairs (r : Paired (FwR K H) f kvs) (hc : SqT K H c (v.map V.str)) : Paired (FwR K H) (putF f k v) (putK kvs (k.map Sum.inr) (.ref c)) := by
  have e : (kvs.any fun kv => decide (kv.1 = k.map Sum.inr)) = (f.any fun p => decide (p.1 = k)) := by
    clear hc
    induction r with
    | nil => rfl
    | @cons p q ps qs hh t ih =>
      rw [List.any_cons, List.any_cons, ih]
      congr 1
      rw [hh.1]
      by_cases z : p.1 = k
      · rw [z, decide_eq_true rfl, decide_eq_true rfl]
      · rw [decide_eq_false z, decide_eq_false fun y => z (key_inj y)]
  unfold putF putK
  rw [e]
  by_cases ca : (f.any fun p => decide (p.1 = k)) = true
  · rw [if_pos ca, if_pos ca]
    clear e ca
    induction r with
    | nil => exact .nil
    | @cons p q ps qs hh t ih =>
      refine .cons ?_ ih
      show FwR K H (if p.1 = k then (p.1, v) else p) (if q.1 = k.map Sum.inr then (q.1, V.ref c) else q)
      by_cases z : p.1 = k
      · rw [if_pos z, if_pos (by rw [hh.1, z])]
        exact ⟨hh.1, c, rfl, hc⟩
      · rw [if_neg z, if_neg fun y => z (key_inj (hh.1.symm.trans y))]
        exact hh
  · rw [if_neg ca, if_neg ca]
    exact Paired.snoc r ⟨rfl, c, rfl, hc⟩
/-- a store -/
theorem FwAt.put {W : List Way} {N : Hp → Prop} (h : FwAt P w K H a f) (hk : SqT K H b (k.map V.str)) (hc : SqT K H c (v.map V.str)) (hW : In W f) (hl : W.length < sizeLine)
    (nx : ∀ es, FwAt P w K (upd H a (TO P w a es)) a (putF f k v) → (∀ b ks, SqT K H b ks → SqT K (upd H a (TO P w a es)) b ks) → N (upd H a (TO P w a es))) : TPut P w K H a (.ref b) (.ref c) N := by
  have len := in_len h.nd hW
  obtain ⟨nd, kvs, td, r⟩ := h
  have l := Paired.length r
  refine ⟨kvs, k.map Sum.inr, b, td, rfl, by rw [keyV]; exact hk, by omega, fun es td2 => ?_⟩
  obtain ⟨es0, e0, _⟩ := td
  have st : ∀ b ks, SqT K H b ks → SqT K (upd H a (TO P w a es)) b ks := fun _ _ z => sq_to e0 z
  exact nx es ⟨putF_nodup nd, _, td2, fwr_mono st (put_pairs r hc)⟩ st
theorem FwAt.new {p : Addr} : FwAt P w K (upd H p (TO P w p [])) p [] := ⟨List.nodup_nil, [], ⟨[], upd_same, .nil⟩, .nil⟩
/-- the entries of a flow, one by one -/
theorem FwAt.ents (h : FwAt P w K H a f) : ∃ es, H a = some (TO P w a es) ∧ es.length = f.length ∧ (∀ (i : Nat) (e : Ent), es[i]? = some e → ∃ p : Way × Names, f[i]? = some p ∧ SqT K H e.2.1 (p.1.map V.str)) ∧
    (∀ H2 o, (∀ b ks, SqT K H b ks → SqT K H2 b ks) → H2 a = some (.frz o (TO P w a es)) → ∀ (i : Nat) (p : Way × Names) (b : Addr), f[i]? = some p → SqT K H2 b (p.1.map V.str) → ∃ c, TGet P w K H2 a (.ref b) (some (.ref c)) ∧ SqT K H2 c (p.2.map V.str)) ∧
    ∃ kvs, Paired (KeyR K H) kvs es := by
  obtain ⟨nd, kvs, ⟨es, e, kr⟩, r⟩ := h
  refine ⟨es, e, (Paired.length kr).symm.trans (Paired.length r).symm, fun i x hx => ?_, fun H2 o st ha i p b hp hb => ?_, kvs, kr⟩
  · have hi := (List.getElem?_eq_some_iff.mp hx).1
    have l1 := Paired.length kr
    have l2 := Paired.length r
    have hi2 : i < f.length := by omega
    obtain ⟨q, hq, q1, q2, q3⟩ := paired_get r (List.getElem?_eq_getElem hi2)
    obtain ⟨x2, hx2, y1, y2, y3⟩ := paired_get kr hq
    rw [hx] at hx2
    cases hx2
    refine ⟨f[i], List.getElem?_eq_getElem hi2, ?_⟩
    rw [q1, keyV] at y3
    exact y3
  · obtain ⟨c, e2, h3⟩ := val_some (fwr_mono st r) (getF_mem nd (List.mem_of_getElem? hp))
    exact ⟨c, ⟨es, kvs, p.1.map Sum.inr, b, .inr ⟨o, ha⟩, keyR_mono st kr, rfl, by rw [keyV]; exact hb, e2.symm⟩, h3⟩
end
end Pm
namespace Pm
open PySem L2 Bx Tk
theorem inV_strs (x : Str) (xs : List Str) : inV (.str x) (xs.map V.str) = decide (x ∈ xs) := by
  unfold inV
  rw [Bool.eq_iff_iff, List.any_eq_true, decide_eq_true_eq]
  constructor
  · rintro ⟨v, hv, e⟩
    obtain ⟨j, hj, rfl⟩ := List.mem_map.mp hv
    have : j = x := by simpa [eqV] using e
    exact this ▸ hj
  · intro h
    exact ⟨.str x, List.mem_map_of_mem h, by simp [eqV]⟩
theorem flat_strs (xs : List Str) : (xs.map V.str).all flatV = true := by
  rw [List.all_eq_true]
  intro v hv
  obtain ⟨j, _, rfl⟩ := List.mem_map.mp hv
  rfl
theorem szw {n : Nat} (h : n ≤ 200000) : n < sizeLine := Nat.lt_of_le_of_lt h (by decide)
theorem szl {n : Nat} (h : n ≤ 200000) : n ≤ sizeLine := Nat.le_of_lt (szw h)
theorem but_sq {P : Program} {w : World} {K : PySem.W.Frag} {l : Addr} {es : List Ent} {H H' : Hp} {b : Addr} {ks : List V} (hw : H l = some (TO P w l es)) (e : But l H H') (h : SqT K H b ks) : SqT K H' b ks := by
  rcases h with (h | ⟨o, h⟩) | h
  · exact .inl (.inl (e _ _ h (ne_of h hw (by intro q; cases q))))
  · exact .inl (.inr ⟨o, e _ _ h (ne_of h hw (by intro q; cases q))⟩)
  · exact .inr h
/-- ways among W, names not too many -/
structure Okf (W : List Way) (f : Fw) : Prop where
  i : In W f
  n : ∀ p ∈ f, p.2.length ≤ 1000
theorem putF_names {f : Fw} {k : Way} {v : Names} {B : Nat} (h : ∀ p ∈ f, p.2.length ≤ B) (hv : v.length ≤ B) : ∀ p ∈ putF f k v, p.2.length ≤ B := by
  intro p hp
  unfold putF at hp
  split at hp
  · obtain ⟨q, hq, e⟩ := List.mem_map.mp hp
    subst e
    split
    · exact hv
    · exact h q hq
  · rcases List.mem_append.mp hp with z | z
    · exact h p z
    · rw [List.mem_singleton.mp z]
      exact hv
theorem getF_names {f : Fw} {k : Way} {v : Names} (e : getF f k = some v) : (k, v) ∈ f := by
  induction f with
  | nil => cases e
  | cons q f ih =>
    rw [getF_cons] at e
    by_cases z : q.1 = k
    · rw [if_pos z] at e
      cases e
      subst z
      exact List.mem_cons_self
    · rw [if_neg z] at e
      exact List.mem_cons_of_mem _ (ih e)
theorem step_names {f : Fw} {p : Way × Names} {B : Nat} (h : ∀ p ∈ f, p.2.length ≤ B) (hp : p.2.length ≤ B) : ∀ q ∈ eitherStep f p, q.2.length ≤ B := by
  unfold eitherStep
  cases e : getF f p.1 with
  | none => exact putF_names h hp
  | some old => exact putF_names h (Nat.le_trans (List.length_filter_le _ _) (h _ (getF_names e)))
theorem either_names {B : Nat} : ∀ {g f : Fw}, (∀ p ∈ f, p.2.length ≤ B) → (∀ p ∈ g, p.2.length ≤ B) → ∀ p ∈ eitherF f g, p.2.length ≤ B := by
  intro g
  induction g with
  | nil => exact fun h _ => h
  | cons p g ih => exact fun {f} h hg => ih (f := eitherStep f p) (step_names h (hg p List.mem_cons_self)) fun q hq => hg q (List.mem_cons_of_mem _ hq)
theorem Okf.either {W : List Way} {f g : Fw} (a : Okf W f) (b : Okf W g) : Okf W (eitherF f g) := ⟨either_in a.i b.i, either_names a.n b.n⟩
theorem Okf.take {W : List Way} {f : Fw} (a : Okf W f) (i : Nat) : Okf W (f.take i) := ⟨fun k hk => a.i k ((List.Sublist.map _ (List.take_sublist i f)).subset hk), fun p hp => a.n p (List.mem_of_mem_take hp)⟩
theorem Okf.filter {W : List Way} {f : Fw} (t : Way × Names → Bool) (a : Okf W f) : Okf W (f.filter t) := ⟨filter_in t a.i, fun p hp => a.n p (List.mem_filter.mp hp).1⟩
theorem either_snoc (f g : Fw) (p : Way × Names) : eitherF f (g ++ [p]) = eitherStep (eitherF f g) p := by
  unfold eitherF
  rw [List.foldl_append]
  rfl
theorem take_snoc {α : Type} {g : List α} {i : Nat} {p : α} (h : g[i]? = some p) : g.take (i + 1) = g.take i ++ [p] := by
  rw [List.take_succ, h]
  rfl
end Pm
namespace Pm
open PySem L2 Bx Tk
theorem but_sqN {K : PySem.W.Frag} {l : Addr} {H H' : Hp} {b : Addr} {ks : List V} (hn : H l = none) (e : But l H H') (h : SqT K H b ks) : SqT K H' b ks := by
  rcases h with (h | ⟨o, h⟩) | h
  · exact .inl (.inl (e _ _ h (ne_of_none h hn)))
  · exact .inl (.inr ⟨o, e _ _ h (ne_of_none h hn)⟩)
  · exact .inr h
theorem unlock_sq {P : Program} {w : World} {K : PySem.W.Frag} {a : Addr} {es : List Ent} {H : Hp} {o : Obj} {u : HO} (ha : H a = some (.frz o (TO P w a es))) {b : Addr} {ks : List V} (h : SqT K H b ks) : SqT K (upd H a u) b ks :=
  sq_upd (fun zs z => by rw [ha] at z; cases z) (fun ob zs z => by rw [ha] at z; cases z) h
theorem but_trans {l : Addr} {H H1 H2 : Hp} (a : But l H H1) (b : But l H1 H2) : But l H H2 := fun c u h n => b c u (a c u h n) n
theorem but_same {l : Addr} {H H' : Hp} (S : Same H H') : But l H H' := fun c u h _ => S c u h
theorem but_upd {l : Addr} {H H' : Hp} {o : HO} (b : But l H H') : But l H (L2.upd H' l o) := fun c u h n => by
  rw [upd_ne n]
  exact b c u h n
theorem put_take {f : Fw} {i : Nat} {p : Way × Names} (nd : (f.map (·.1)).Nodup) (h : f[i]? = some p) : putF (f.take i) p.1 p.2 = f.take (i + 1) := by
  have n : p.1 ∉ (f.take i).map (·.1) := by
    intro z
    obtain ⟨hi1, hi2⟩ := List.getElem?_eq_some_iff.mp h
    have e : f = f.take i ++ f.drop i := (List.take_append_drop i f).symm
    rw [e, List.map_append, List.nodup_append] at nd
    refine nd.2.2 _ z p.1 ?_ rfl
    rw [List.drop_eq_getElem_cons hi1, hi2, List.map_cons]
    exact List.mem_cons_self
  unfold putF
  rw [any_getF, getF_none.mpr n, if_neg (by simp), take_snoc h]
theorem same_lock {H H' : Hp} {x : Addr} {u : HO} {D : Addr} {o : HO} (hx : H x = some u) (nD : H D = none) (b : But D (upd H x o) H') : Same H (upd H' x u) := fun a v ha => by
  by_cases e : a = x
  · subst e
    rw [upd_same, ← hx, ha]
  · rw [upd_ne e]
    exact b a v (by rw [upd_ne e]; exact ha) (ne_of_none ha nD)
end Pm
namespace Pm
open PySem L2 Bx Tk
structure WOk (W : List Way) : Prop where
  l : W.length ≤ 100000
  s : ∀ k ∈ W, ∀ s ∈ k, PyData.strOk s = true
  ne : ∀ k ∈ W, k ≠ []
  r : ∀ k ∈ W, k.head? = some ("raise" : Str) → ∃ x : Str, k = [("raise" : Str), x]
  e : END ∈ W
theorem WOk.lt {W : List Way} (h : WOk W) : W.length < sizeLine := Nat.lt_of_le_of_lt h.l (by decide)
theorem dp_way {K : PySem.W.Frag} {H : Hp} {b : Addr} {k : Way} (h : SqT K H b (k.map V.str)) : Dp K H (.ref b) (.tuple (k.map .str)) := .tup h (dp_strs k)
theorem shaped_way {k : Way} (h : ∀ s ∈ k, PyData.strOk s = true) : SeqAt.shaped (.tuple (k.map PyData.str)) = true := by
  unfold SeqAt.shaped
  rw [Bool.and_eq_true, decide_eq_true_eq]
  refine ⟨by simp [PyData.canLay0, lay_strs h], ?_⟩
  have := dep_strs k
  simp [PyData.depth]
  omega
theorem eqv_way {k l : Way} : PyData.eqv (.tuple (k.map .str)) (.tuple (l.map .str)) = decide (k = l) := by
  rw [Bool.eq_iff_iff, decide_eq_true_eq, PyData.eqv]
  exact eqv_strs
theorem in_one {W : List Way} {k : Way} {v : Names} (hk : k ∈ W) : In W [(k, v)] := fun a ha => by
  rw [List.map_cons, List.map_nil, List.mem_singleton] at ha
  rw [ha]
  exact hk
theorem iteTe {c : Bool} {A B : Prop} (e : c = true) (h : A) : if c = true then A else B := by rw [if_pos e]; exact h
theorem iteFe {c : Bool} {A B : Prop} (e : c = false) (h : B) : if c = true then A else B := by rw [if_neg (by rw [e]; exact Bool.false_ne_true)]; exact h
/-- a new entry in an empty flow -/
theorem FwAt.one {P : Program} {w : World} {K : PySem.W.Frag} {H : Hp} {a b c : Addr} {k : Way} {v : Names} {N : Hp → Prop} (h : FwAt P w K H a []) (hk : SqT K H b (k.map V.str)) (hc : SqT K H c (v.map V.str))
    (nx : ∀ es, FwAt P w K (upd H a (TO P w a es)) a [(k, v)] → (∀ b ks, SqT K H b ks → SqT K (upd H a (TO P w a es)) b ks) → N (upd H a (TO P w a es))) : TPut P w K H a (.ref b) (.ref c) N :=
  FwAt.put (W := []) h hk hc (fun a ha => by cases ha) (by decide) nx
end Pm

/-! statements in the heap -/
namespace Pm
open PySem L2 Bx Tk
section
variable {K : PySem.W.Frag} {H H' : Hp} {v : V}
mutual
theorem dp_mono (sl : ∀ a xs, SqL K H a xs → SqL K H' a xs) (st : ∀ a xs, SqT K H a xs → SqT K H' a xs) : ∀ {d : PyData} {v : V}, Dp K H v d → Dp K H' v d
  | _, _, .non => .non
  | _, _, .bl b => .bl b
  | _, _, .int i => .int i
  | _, _, .str x => .str x
  | _, _, .lst h a => .lst (sl _ _ h) (dpAll_mono sl st a)
  | _, _, .tup h a => .tup (st _ _ h) (dpAll_mono sl st a)
theorem dpAll_mono (sl : ∀ a xs, SqL K H a xs → SqL K H' a xs) (st : ∀ a xs, SqT K H a xs → SqT K H' a xs) : ∀ {ds : List PyData} {vs : List V}, DpAll K H vs ds → DpAll K H' vs ds
  | _, _, .nil => .nil
  | _, _, .cons h t => .cons (dp_mono sl st h) (dpAll_mono sl st t)
end
theorem dp_sm (S : Same H H') {d : PyData} (h : Dp K H v d) : Dp K H' v d := dp_mono (fun _ _ z => Same.seq S z) (fun _ _ z => Same.seqT S z) h
theorem dpA_sm (S : Same H H') {ds : List PyData} {vs : List V} (h : DpAll K H vs ds) : DpAll K H' vs ds := dpAll_mono (fun _ _ z => Same.seq S z) (fun _ _ z => Same.seqT S z) h
theorem inv_tup {ds : List PyData} (h : Dp K H v (.tuple ds)) : ∃ a xs, v = .ref a ∧ SqT K H a xs ∧ DpAll K H xs ds := by
  cases h with
  | tup h1 h2 => exact ⟨_, _, rfl, h1, h2⟩
theorem inv_cons {xs : List V} {d : PyData} {ds : List PyData} (h : DpAll K H xs (d :: ds)) : ∃ x r, xs = x :: r ∧ Dp K H x d ∧ DpAll K H r ds := by
  cases h with
  | cons h1 h2 => exact ⟨_, _, rfl, h1, h2⟩
theorem inv_nil {xs : List V} (h : DpAll K H xs []) : xs = [] := by
  cases h
  rfl
theorem inv_str {x : Str} (h : Dp K H v (.str x)) : v = .str x := by
  cases h
  rfl
theorem inv_int {x : Int} (h : Dp K H v (.int x)) : v = .int x := by
  cases h
  rfl
theorem inv_non (h : Dp K H v .none) : v = .non := by
  cases h
  rfl
theorem inv1 {a : PyData} (h : Dp K H v (.tuple [a])) : ∃ p x, v = .ref p ∧ SqT K H p [x] ∧ Dp K H x a := by
  obtain ⟨p, xs, rfl, hp, h⟩ := inv_tup h
  obtain ⟨x, r, rfl, ha, h⟩ := inv_cons h
  cases inv_nil h
  exact ⟨p, x, rfl, hp, ha⟩
theorem inv2 {a b : PyData} (h : Dp K H v (.tuple [a, b])) : ∃ p x y, v = .ref p ∧ SqT K H p [x, y] ∧ Dp K H x a ∧ Dp K H y b := by
  obtain ⟨p, xs, rfl, hp, h⟩ := inv_tup h
  obtain ⟨x, r, rfl, ha, h⟩ := inv_cons h
  obtain ⟨y, r, rfl, hb, h⟩ := inv_cons h
  cases inv_nil h
  exact ⟨p, x, y, rfl, hp, ha, hb⟩
theorem inv3 {a b c : PyData} (h : Dp K H v (.tuple [a, b, c])) : ∃ p x y z, v = .ref p ∧ SqT K H p [x, y, z] ∧ Dp K H x a ∧ Dp K H y b ∧ Dp K H z c := by
  obtain ⟨p, xs, rfl, hp, h⟩ := inv_tup h
  obtain ⟨x, r, rfl, ha, h⟩ := inv_cons h
  obtain ⟨y, r, rfl, hb, h⟩ := inv_cons h
  obtain ⟨z, r, rfl, hc, h⟩ := inv_cons h
  cases inv_nil h
  exact ⟨p, x, y, z, rfl, hp, ha, hb, hc⟩
theorem inv4 {a b c d : PyData} (h : Dp K H v (.tuple [a, b, c, d])) : ∃ p x y z t, v = .ref p ∧ SqT K H p [x, y, z, t] ∧ Dp K H x a ∧ Dp K H y b ∧ Dp K H z c ∧ Dp K H t d := by
  obtain ⟨p, xs, rfl, hp, h⟩ := inv_tup h
  obtain ⟨x, r, rfl, ha, h⟩ := inv_cons h
  obtain ⟨y, r, rfl, hb, h⟩ := inv_cons h
  obtain ⟨z, r, rfl, hc, h⟩ := inv_cons h
  obtain ⟨t, r, rfl, hd, h⟩ := inv_cons h
  cases inv_nil h
  exact ⟨p, x, y, z, t, rfl, hp, ha, hb, hc, hd⟩
theorem inv5 {a b c d e : PyData} (h : Dp K H v (.tuple [a, b, c, d, e])) : ∃ p x y z t u, v = .ref p ∧ SqT K H p [x, y, z, t, u] ∧ Dp K H x a ∧ Dp K H y b ∧ Dp K H z c ∧ Dp K H t d ∧ Dp K H u e := by
  obtain ⟨p, xs, rfl, hp, h⟩ := inv_tup h
  obtain ⟨x, r, rfl, ha, h⟩ := inv_cons h
  obtain ⟨y, r, rfl, hb, h⟩ := inv_cons h
  obtain ⟨z, r, rfl, hc, h⟩ := inv_cons h
  obtain ⟨t, r, rfl, hd, h⟩ := inv_cons h
  obtain ⟨u, r, rfl, he, h⟩ := inv_cons h
  cases inv_nil h
  exact ⟨p, x, y, z, t, u, rfl, hp, ha, hb, hc, hd, he⟩
theorem inv6 {a b c d e f : PyData} (h : Dp K H v (.tuple [a, b, c, d, e, f])) : ∃ p x y z t u w, v = .ref p ∧ SqT K H p [x, y, z, t, u, w] ∧ Dp K H x a ∧ Dp K H y b ∧ Dp K H z c ∧ Dp K H t d ∧ Dp K H u e ∧ Dp K H w f := by
  obtain ⟨p, xs, rfl, hp, h⟩ := inv_tup h
  obtain ⟨x, r, rfl, ha, h⟩ := inv_cons h
  obtain ⟨y, r, rfl, hb, h⟩ := inv_cons h
  obtain ⟨z, r, rfl, hc, h⟩ := inv_cons h
  obtain ⟨t, r, rfl, hd, h⟩ := inv_cons h
  obtain ⟨u, r, rfl, he, h⟩ := inv_cons h
  obtain ⟨w, r, rfl, hf, h⟩ := inv_cons h
  cases inv_nil h
  exact ⟨p, x, y, z, t, u, w, rfl, hp, ha, hb, hc, hd, he, hf⟩
/-- a block -/
def BkAt (K : PySem.W.Frag) (H : Hp) (v : V) (b : Bk) : Prop := Dp K H v (.tuple (encB b))
theorem st_set {x t : Str} {n : Int} (h : Dp K H v (encS (.set x t n))) : ∃ a y, v = .ref a ∧ SqT K H a [.str "set", .str x, .ref y] ∧ SqT K H y [.str t, .int n] := by
  obtain ⟨p, a, b, c, rfl, hp, ha, hb, hc⟩ := inv3 (by simpa only [encS, vD] using h)
  cases inv_str ha
  cases inv_str hb
  obtain ⟨q, e, f, rfl, hq, he, hf⟩ := inv2 hc
  cases inv_str he
  cases inv_int hf
  exact ⟨p, q, rfl, hp, hq⟩
theorem st_raise {x t : Str} {n : Int} (h : Dp K H v (encS (.raise x t n))) : ∃ a y, v = .ref a ∧ SqT K H a [.str "raise", .str x, .ref y] ∧ SqT K H y [.str t, .int n] := by
  obtain ⟨p, a, b, c, rfl, hp, ha, hb, hc⟩ := inv3 (by simpa only [encS, vD] using h)
  cases inv_str ha
  cases inv_str hb
  obtain ⟨q, e, f, rfl, hq, he, hf⟩ := inv2 hc
  cases inv_str he
  cases inv_int hf
  exact ⟨p, q, rfl, hp, hq⟩
theorem st_read {x : Str} (h : Dp K H v (encS (.read x))) : ∃ a, v = .ref a ∧ SqT K H a [.str "read", .str x] := by
  obtain ⟨p, a, b, rfl, hp, ha, hb⟩ := inv2 (by simpa only [encS] using h)
  cases inv_str ha
  cases inv_str hb
  exact ⟨p, rfl, hp⟩
theorem st_out {x : Str} (h : Dp K H v (encS (.out x))) : ∃ a, v = .ref a ∧ SqT K H a [.str "out", .str x] := by
  obtain ⟨p, a, b, rfl, hp, ha, hb⟩ := inv2 (by simpa only [encS] using h)
  cases inv_str ha
  cases inv_str hb
  exact ⟨p, rfl, hp⟩
theorem st_leave (h : Dp K H v (encS .leave)) : ∃ a, v = .ref a ∧ SqT K H a [.str "leave"] := by
  obtain ⟨p, a, rfl, hp, ha⟩ := inv1 (by simpa only [encS] using h)
  cases inv_str ha
  exact ⟨p, rfl, hp⟩
theorem st_again (h : Dp K H v (encS .again)) : ∃ a, v = .ref a ∧ SqT K H a [.str "again"] := by
  obtain ⟨p, a, rfl, hp, ha⟩ := inv1 (by simpa only [encS] using h)
  cases inv_str ha
  exact ⟨p, rfl, hp⟩
theorem inv_lit {l r : Str} {n : Int} (h : Dp K H v (lD l r n)) : ∃ q, v = .ref q ∧ SqT K H q [.str l, .str r, .int n] := by
  obtain ⟨p, a, b, c, rfl, hp, ha, hb, hc⟩ := inv3 (by simpa only [lD] using h)
  cases inv_str ha
  cases inv_str hb
  cases inv_int hc
  exact ⟨p, rfl, hp⟩
theorem st_ask {l r k : Str} {n : Int} (h : Dp K H v (encS (.ask l r n k))) : ∃ a y, v = .ref a ∧ SqT K H a [.str "ask", .ref y, .str k] ∧ SqT K H y [.str l, .str r, .int n] := by
  obtain ⟨p, a, b, c, rfl, hp, ha, hb, hc⟩ := inv3 (by simpa only [encS] using h)
  cases inv_str ha
  cases inv_str hc
  obtain ⟨q, rfl, hq⟩ := inv_lit hb
  exact ⟨p, q, rfl, hp, hq⟩
theorem st_ite {l r : Str} {n : Int} {b c : Bk} (h : Dp K H v (encS (.ite l r n b c))) : ∃ a y u w, v = .ref a ∧ SqT K H a [.str "if", .ref y, u, w] ∧ SqT K H y [.str l, .str r, .int n] ∧ BkAt K H u b ∧ BkAt K H w c := by
  obtain ⟨p, a, b, c, d, rfl, hp, ha, hb, hc, hd⟩ := inv4 (by simpa only [encS] using h)
  cases inv_str ha
  obtain ⟨q, rfl, hq⟩ := inv_lit hb
  exact ⟨p, q, c, d, rfl, hp, hq, hc, hd⟩
theorem st_choose {b c : Bk} (h : Dp K H v (encS (.choose b c))) : ∃ a u w, v = .ref a ∧ SqT K H a [.str "choose", u, w] ∧ BkAt K H u b ∧ BkAt K H w c := by
  obtain ⟨p, a, c, d, rfl, hp, ha, hc, hd⟩ := inv3 (by simpa only [encS] using h)
  cases inv_str ha
  exact ⟨p, c, d, rfl, hp, hc, hd⟩
theorem st_loop {x t u : Str} {n m : Int} {b c : Bk} (h : Dp K H v (encS (.loop x t n u m b c))) : ∃ a y z o w, v = .ref a ∧ SqT K H a [.str "for", .str x, .ref y, .ref z, o, w] ∧ SqT K H y [.str t, .int n] ∧ SqT K H z [.str u, .int m] ∧ BkAt K H o b ∧ BkAt K H w c := by
  obtain ⟨p, a, b, c, d, e, f, rfl, hp, ha, hb, hc, hd, he, hf⟩ := inv6 (by simpa only [encS] using h)
  cases inv_str ha
  cases inv_str hb
  obtain ⟨q, g1, g2, rfl, hq, h1, h2⟩ := inv2 (by simpa only [vD] using hc)
  cases inv_str h1
  cases inv_int h2
  obtain ⟨q2, g1, g2, rfl, hq2, h1, h2⟩ := inv2 (by simpa only [vD] using hd)
  cases inv_str h1
  cases inv_int h2
  exact ⟨p, q, q2, e, f, rfl, hp, hq, hq2, he, hf⟩
theorem st_tryy {b o a : Bk} {hs : Hs} (h : Dp K H v (encS (.tryy b hs o a))) : ∃ p x y z t, v = .ref p ∧ SqT K H p [.str "try", x, y, z, t] ∧ BkAt K H x b ∧ Dp K H y (.tuple (encH hs)) ∧ BkAt K H z o ∧ BkAt K H t a := by
  obtain ⟨p, a, b, c, d, e, rfl, hp, ha, hb, hc, hd, he⟩ := inv5 (by simpa only [encS] using h)
  cases inv_str ha
  exact ⟨p, b, c, d, e, rfl, hp, hb, hc, hd, he⟩
end
end Pm
namespace Pm
open PySem L2 Bx Tk
section
variable {K : PySem.W.Frag} {H H' : Hp} {v : V}
theorem dpAll_get : ∀ {ds : List PyData} {xs : List V} {i : Nat} {d : PyData}, DpAll K H xs ds → ds[i]? = some d → ∃ v, xs[i]? = some v ∧ Dp K H v d
  | _, _, 0, _, .cons h _, e => by
    simp at e
    subst e
    exact ⟨_, rfl, h⟩
  | _, _, i + 1, d, .cons _ t, e => by
    obtain ⟨v, h1, h2⟩ := dpAll_get (i := i) (d := d) t (by simpa using e)
    exact ⟨v, by simpa using h1, h2⟩
theorem dpAll_len : ∀ {ds : List PyData} {xs : List V}, DpAll K H xs ds → xs.length = ds.length
  | _, _, .nil => rfl
  | _, _, .cons _ t => congrArg (· + 1) (dpAll_len t)
def encHd (h : List Str × Option Str × Bk) : PyData := .tuple [.tuple (h.1.map .str), oD h.2.1, .tuple (encB h.2.2)]
theorem encH_list : ∀ hs : Hs, encH hs = hs.list.map encHd
  | .nil => by simp [encH, Hs.list]
  | .cons ks x b r => by
    rw [encH, encH_list r]
    rfl
theorem encB_list : ∀ b : Bk, encB b = b.list.map encS
  | .nil => by simp [encB, Bk.list]
  | .cons s r => by
    rw [encB, encB_list r]
    rfl
def oV : Option Str → V
  | none => .non
  | some x => .str x
theorem inv_o {o : Option Str} (h : Dp K H v (oD o)) : v = oV o := by
  cases o with
  | none => exact inv_non h
  | some x => exact inv_str h
theorem inv_strs : ∀ {ks : List Str} {xs : List V}, DpAll K H xs (ks.map .str) → xs = ks.map V.str
  | [], _, h => inv_nil h
  | k :: ks, _, h => by
    obtain ⟨x, r, rfl, h1, h2⟩ := inv_cons h
    rw [inv_str h1, inv_strs h2]
    rfl
/-- a handler -/
theorem hd_at {h : List Str × Option Str × Bk} (e : Dp K H v (encHd h)) : ∃ a y w, v = .ref a ∧ SqT K H a [.ref y, oV h.2.1, w] ∧ SqT K H y (h.1.map V.str) ∧ BkAt K H w h.2.2 := by
  obtain ⟨a, x, y, z, rfl, ha, hx, hy, hz⟩ := inv3 e
  obtain ⟨b, xs, rfl, hb, hxs⟩ := inv_tup hx
  rw [inv_strs hxs] at hb
  rw [inv_o hy] at ha
  exact ⟨a, b, z, rfl, ha, hb, hz⟩
theorem hs_at {hs : Hs} (h : Dp K H v (.tuple (encH hs))) : ∃ a xs, v = .ref a ∧ SqT K H a xs ∧ xs.length = hs.list.length ∧ ∀ (i : Nat) (d : List Str × Option Str × Bk), hs.list[i]? = some d → ∃ u, xs[i]? = some u ∧ Dp K H u (encHd d) := by
  obtain ⟨a, xs, rfl, ha, hx⟩ := inv_tup h
  rw [encH_list] at hx
  refine ⟨a, xs, rfl, ha, by rw [dpAll_len hx, List.length_map], fun i d e => dpAll_get hx ?_⟩
  rw [List.getElem?_map, e]
  rfl
theorem bk_at {b : Bk} (h : BkAt K H v b) : ∃ a xs, v = .ref a ∧ SqT K H a xs ∧ xs.length = b.list.length ∧ ∀ (i : Nat) (d : Sm), b.list[i]? = some d → ∃ u, xs[i]? = some u ∧ Dp K H u (encS d) := by
  obtain ⟨a, xs, rfl, ha, hx⟩ := inv_tup h
  rw [encB_list] at hx
  refine ⟨a, xs, rfl, ha, by rw [dpAll_len hx, List.length_map], fun i d e => dpAll_get hx ?_⟩
  rw [List.getElem?_map, e]
  rfl
end
end Pm
namespace Pm
open PySem L2 Bx Tk
def nV (n : Nat) : V := .int (n : Int)
/-- name and path, as settings_of gives them -/
def SetR (K : PySem.W.Frag) (H : Hp) (t : Addr) (q : Str × Pa) : Prop := ∃ b, SqT K H t [.str q.1, .ref b] ∧ SqT K H b (q.2.map nV)
theorem setR_mono {K : PySem.W.Frag} {H H' : Hp} (st : ∀ b ks, SqT K H b ks → SqT K H' b ks) {ts : List Addr} {l : List (Str × Pa)} (r : Paired (SetR K H) ts l) : Paired (SetR K H') ts l :=
  Paired.mapP r fun _ _ ⟨b, h1, h2⟩ => ⟨b, st _ _ h1, st _ _ h2⟩
theorem named_app (place : Pa) : ∀ (a b : List (List Str × Option Str × Bk)) (i : Nat), namedAt place i (a ++ b) = namedAt place i a ++ namedAt place (i + a.length) b
  | [], b, i => by simp [namedAt]
  | (ks, some x, bk) :: a, b, i => by
    have := named_app place a b (i + 1)
    simp only [List.cons_append, namedAt, List.length_cons]
    rw [this]
    have e : i + 1 + a.length = i + (a.length + 1) := by omega
    rw [e]
  | (ks, none, bk) :: a, b, i => by
    have := named_app place a b (i + 1)
    simp only [List.cons_append, namedAt, List.length_cons]
    rw [this]
    have e : i + 1 + a.length = i + (a.length + 1) := by omega
    rw [e]
theorem named_len (place : Pa) : ∀ (a : List (List Str × Option Str × Bk)) (i : Nat), (namedAt place i a).length ≤ a.length
  | [], i => by simp [namedAt]
  | (ks, some x, bk) :: a, i => by
    have := named_len place a (i + 1)
    simp only [namedAt, List.length_cons]
    omega
  | (ks, none, bk) :: a, i => by
    have := named_len place a (i + 1)
    simp only [namedAt, List.length_cons]
    omega
end Pm
namespace Pm
open PySem L2 Bx Tk
def wordOf : Sm → Str
  | .set .. => "set"
  | .read .. => "read"
  | .ite .. => "if"
  | .choose .. => "choose"
  | .ask .. => "ask"
  | .raise .. => "raise"
  | .out .. => "out"
  | .leave => "leave"
  | .again => "again"
  | .loop .. => "for"
  | .tryy .. => "try"
  | .bad _ => ""
theorem st_word {K : PySem.W.Frag} {H : Hp} {v : V} {s : Sm} (h : Dp K H v (encS s)) (hs : hasShape s = true) : ∃ a r, v = .ref a ∧ SqT K H a (.str (wordOf s) :: r) := by
  cases s with
  | set x t n =>
    obtain ⟨a, y, rfl, ha, _⟩ := st_set h
    exact ⟨a, _, rfl, ha⟩
  | read x =>
    obtain ⟨a, rfl, ha⟩ := st_read h
    exact ⟨a, _, rfl, ha⟩
  | ite l r n b c =>
    obtain ⟨a, _, _, _, rfl, ha, _⟩ := st_ite h
    exact ⟨a, _, rfl, ha⟩
  | choose b c =>
    obtain ⟨a, _, _, rfl, ha, _⟩ := st_choose h
    exact ⟨a, _, rfl, ha⟩
  | ask l r n k =>
    obtain ⟨a, y, rfl, ha, _⟩ := st_ask h
    exact ⟨a, _, rfl, ha⟩
  | raise k t n =>
    obtain ⟨a, y, rfl, ha, _⟩ := st_raise h
    exact ⟨a, _, rfl, ha⟩
  | out o =>
    obtain ⟨a, rfl, ha⟩ := st_out h
    exact ⟨a, _, rfl, ha⟩
  | leave =>
    obtain ⟨a, rfl, ha⟩ := st_leave h
    exact ⟨a, _, rfl, ha⟩
  | again =>
    obtain ⟨a, rfl, ha⟩ := st_again h
    exact ⟨a, _, rfl, ha⟩
  | loop x t n u m b c =>
    obtain ⟨a, _, _, _, _, rfl, ha, _⟩ := st_loop h
    exact ⟨a, _, rfl, ha⟩
  | tryy b hs o a =>
    obtain ⟨p, _, _, _, _, rfl, ha, _⟩ := st_tryy h
    exact ⟨p, _, rfl, ha⟩
  | bad d => cases hs
def setsOne : Sm → Option Str
  | .set x _ _ => some x
  | .read x => some x
  | .loop x _ _ _ _ _ _ => some x
  | _ => none
theorem st_sets {K : PySem.W.Frag} {H : Hp} {v : V} {s : Sm} {x : Str} (h : Dp K H v (encS s)) (e : setsOne s = some x) : ∃ a r, v = .ref a ∧ SqT K H a (.str (wordOf s) :: .str x :: r) := by
  cases s with
  | set y t n =>
    cases e
    obtain ⟨a, y, rfl, ha, _⟩ := st_set h
    exact ⟨a, _, rfl, ha⟩
  | read y =>
    cases e
    obtain ⟨a, rfl, ha⟩ := st_read h
    exact ⟨a, _, rfl, ha⟩
  | loop y t n u m b c =>
    cases e
    obtain ⟨a, _, _, _, _, rfl, ha, _⟩ := st_loop h
    exact ⟨a, _, rfl, ha⟩
  | _ => cases e
theorem settings_one {s : Sm} {x : Str} {p : Pa} (e : setsOne s = some x) : settingsOf s p = [(x, p)] := by
  cases s <;> first | (cases e; rfl) | cases e
theorem settings_more {s : Sm} {p : Pa} (e : setsOne s = none) : settingsOf s p = namedAt p 0 (handlersOf s) := by
  cases s <;> first | rfl | cases e
theorem word_sets (s : Sm) (h : hasShape s = true) : inV (.str (wordOf s)) [.str "set", .str "read", .str "for"] = (setsOne s).isSome := by
  cases s <;> first | (simp only [wordOf, setsOne, Option.isSome_some, Option.isSome_none]; decide +kernel) | cases h
end Pm

/-! words and forms of any data -/
namespace Pm
open PySem L2 Bx Tk RZ
def barredW : List Str := ["again", "always", "any", "as", "ask", "below", "catch", "choose", "else", "end", "error", "for", "from", "if", "inputs", "leave", "none", "or", "out", "raise", "read", "return", "set", "try", "value"]
def wordB (x : Str) : Bool := decide (1 ≤ (x.length : Int)) && decide ((x.length : Int) ≤ 8) && (Txt.isascii x && (Txt.isalpha x && Txt.islower x))
def nameB (x : Str) : Bool := wordB x && !decide (x ∈ barredW)
def termB (x : Str) : Bool := decide (x = "") || nameB x
def isNum : PyData → Bool
  | .int _ => true
  | _ => false
def isWord : PyData → Bool
  | .str x => wordB x
  | _ => false
def isName : PyData → Bool
  | .str x => nameB x
  | _ => false
def isTerm : PyData → Bool
  | .str x => termB x
  | _ => false
def isStr : PyData → Bool
  | .str _ => true
  | _ => false
def isTup : PyData → Bool
  | .tuple _ => true
  | _ => false
def strsOf : List PyData → List Str
  | .str x :: r => x :: strsOf r
  | _ :: r => strsOf r
  | [] => []
def nodupB (l : List Str) : Bool := decide l.Nodup
def areNames : PyData → Bool
  | .tuple xs => xs.all isName && nodupB (strsOf xs)
  | _ => false
def isLit : PyData → Bool
  | .tuple [a, b, c] => isStr a && (isStr b && isNum c)
  | _ => false
def isNLit : PyData → Bool
  | .tuple [a, b, c] => isStr a && (isStr b && isNum c) && (isTerm a && isTerm b)
  | _ => false
def isValue : PyData → Bool
  | .tuple [a, b] => isTerm a && isNum b
  | _ => false
def noneOr : PyData → Bool
  | .none => true
  | n => isName n
def isHandler : PyData → Bool
  | .tuple [k, n, b] => areNames k && (noneOr n && isTup b)
  | _ => false
/-- the strings that are looked at are short -/
def shortS : PyData → Prop
  | .str x => x.length ≤ 1000
  | _ => True
def sh1 : PyData → Prop
  | .tuple xs => xs.length ≤ 900 ∧ ∀ d ∈ xs, shortS d
  | d => shortS d
def sh2 : PyData → Prop
  | .tuple xs => xs.length ≤ 900 ∧ ∀ d ∈ xs, sh1 d
  | d => shortS d
def sh3 : PyData → Prop
  | .tuple xs => xs.length ≤ 900 ∧ ∀ d ∈ xs, sh2 d
  | d => shortS d
theorem sh1_s {d : PyData} (h : sh1 d) : shortS d := by
  cases d <;> first | exact h | trivial
theorem sh2_1 {d : PyData} (h : sh2 d) : sh1 d := by
  cases d with
  | tuple xs => exact ⟨h.1, fun d hd => sh1_s (h.2 d hd)⟩
  | _ => exact h
theorem sh3_2 {d : PyData} (h : sh3 d) : sh2 d := by
  cases d with
  | tuple xs => exact ⟨h.1, fun d hd => sh2_1 (h.2 d hd)⟩
  | _ => exact h
def clsOf : PyData → String
  | .none => "NoneType"
  | .bool _ => "bool"
  | .int _ => "int"
  | .str _ => "str"
  | .list _ => "list"
  | .tuple _ => "tuple"
  | .dict _ => "dict"
section
variable {K : PySem.W.Frag} {H : Hp} {v : V} {d : PyData}
theorem dp_ty (h : Dp K H v d) : TyX K H v (.type (clsOf d)) := by
  cases h with
  | non => exact .base .non
  | bl b => exact .base (.bl b)
  | int i => exact .base (.int i)
  | str x => exact .base (.str x)
  | lst h _ => exact tyL h
  | tup h _ => exact tyT h
theorem kit_int : PySem.W.kitOne K (.type (clsOf d)) (.type "int") = some (match d with | .int _ => true | .bool _ => true | _ => false) := by cases d <;> rfl
theorem kit_bool : PySem.W.kitOne K (.type (clsOf d)) (.type "bool") = some (match d with | .bool _ => true | _ => false) := by cases d <;> rfl
theorem kit_str : PySem.W.kitOne K (.type (clsOf d)) (.type "str") = some (isStr d) := by cases d <;> rfl
theorem kit_tuple : PySem.W.kitOne K (.type (clsOf d)) (.type "tuple") = some (isTup d) := by cases d <;> rfl
theorem isStr_of (h : isStr d = true) : ∃ x, d = .str x := by
  cases d <;> first | exact ⟨_, rfl⟩ | cases h
theorem isTup_of (h : isTup d = true) : ∃ x, d = .tuple x := by
  cases d <;> first | exact ⟨_, rfl⟩ | cases h
theorem walk_zipT {a b : Addr} {xs ys : List V} {n : Nat} (hn : n = min xs.length ys.length) : Walk (ItzT K a b) n (fun H => SqT K H a xs ∧ SqT K H b ys) (YPair (fun i => xs[i]?) (fun i => ys[i]?)) := by
  subst hn
  refine ⟨fun i _ lt q => ?_, fun _ q => ⟨xs, ys, q.1, q.2, by omega⟩, fun i H v H' _ q y => ?_⟩
  · have l1 : i < xs.length := by omega
    have l2 : i < ys.length := by omega
    exact ⟨xs, ys, xs[i], ys[i], q.1, q.2, by simp [l1], by simp [l2]⟩
  · obtain ⟨T, x, z, e1, e2, e3, e4, e5⟩ := y
    exact ⟨T, x, z, e1, e2, e3, e4 xs q.1, e5 ys q.2⟩
end
theorem names_strs : ∀ {xs : List PyData}, xs.all isName = true → xs = (strsOf xs).map .str
  | [], _ => rfl
  | d :: r, h => by
    rw [List.all_cons, Bool.and_eq_true] at h
    obtain ⟨h1, h2⟩ := h
    cases d with
    | str x =>
      rw [strsOf, List.map_cons, ← names_strs h2]
    | _ => cases h1
theorem shrink : ∀ l : List Str, ∃ m : List Str, m.Nodup ∧ (∀ k, k ∈ m ↔ k ∈ l) ∧ m.length ≤ l.length ∧ (m.length = l.length → l.Nodup)
  | [] => ⟨[], List.nodup_nil, fun _ => Iff.rfl, Nat.le_refl _, fun _ => List.nodup_nil⟩
  | a :: r => by
    obtain ⟨m, h1, h2, h3, h4⟩ := shrink r
    by_cases c : a ∈ r
    · refine ⟨m, h1, fun k => ?_, by simp; omega, fun e => ?_⟩
      · rw [h2, List.mem_cons]
        exact ⟨.inr, fun z => z.elim (fun y => y ▸ c) id⟩
      · simp at e
        omega
    · refine ⟨a :: m, List.nodup_cons.mpr ⟨fun z => c ((h2 a).mp z), h1⟩, fun k => ?_, by simpa using h3, fun e => List.nodup_cons.mpr ⟨c, h4 (by simpa using e)⟩⟩
      rw [List.mem_cons, List.mem_cons, h2]
theorem nodup_len {l out : List Str} (nd : out.Nodup) (h : ∀ k, k ∈ out ↔ k ∈ l) : decide ((out.length : Int) = (l.length : Int)) = nodupB l := by
  unfold nodupB
  rw [Bool.eq_iff_iff, decide_eq_true_eq, decide_eq_true_eq]
  obtain ⟨m, h1, h2, _, h4⟩ := shrink l
  have a1 := Bf.len_le nd fun k hk => (h2 k).mpr ((h k).mp hk)
  have a2 := Bf.len_le h1 fun k hk => (h k).mpr ((h2 k).mp hk)
  constructor
  · exact fun e => h4 (by omega)
  · intro n
    have a := Bf.len_le nd fun k hk => (h k).mp hk
    have b := Bf.len_le n fun k hk => (h k).mpr hk
    omega
end Pm
namespace Pm
open PySem L2 Bx Tk RZ
def sh4 : PyData → Prop
  | .tuple xs => xs.length ≤ 900 ∧ ∀ d ∈ xs, sh3 d
  | d => shortS d
def handlersB : PyData → Bool
  | .tuple xs => decide ((xs.length : Int) ≤ 3) && xs.all isHandler
  | _ => false
def ofKind (k : Str) (d : PyData) : Bool := if k = "name" then isName d else if k = "value" then isValue d else if k = "literal" then isNLit d else if k = "block" then isTup d else handlersB d
def shapes : List (Str × List Str) := [("set", ["name", "value"]), ("read", ["name"]), ("if", ["literal", "block", "block"]), ("choose", ["block", "block"]), ("ask", ["literal", "name"]), ("raise", ["name", "value"]), ("out", ["name"]), ("leave", []), ("again", []),
  ("for", ["name", "value", "value", "block", "block"]), ("try", ["block", "handlers", "block", "block"])]
def shapeOf (x : Str) : Option (List Str) := (shapes.find? fun p => decide (p.1 = x)).map (·.2)
def hasShapeD : PyData → Bool
  | .tuple (.str x :: r) => match shapeOf x with
    | some ks => decide (r.length = ks.length) && (r.zip ks).all fun p => ofKind p.2 p.1
    | none => false
  | _ => false
/-- the written dict of shapes -/
structure ShpOk (K : PySem.W.Frag) (w : World) (a : Addr) : Prop where
  sd : Kd.SD K w a (shapes.map (·.1))
  get : ∀ p ∈ shapes, ∃ s, KDct K w a p.1 (.ref s) ∧ ∀ H : Hp, SqT K H s (p.2.map V.str)
theorem three {ds : List PyData} (h : ds.length = 3) : ∃ a b c, ds = [a, b, c] := by
  match ds, h with
  | [a, b, c], _ => exact ⟨a, b, c, rfl⟩
theorem two {ds : List PyData} (h : ds.length = 2) : ∃ a b, ds = [a, b] := by
  match ds, h with
  | [a, b], _ => exact ⟨a, b, rfl⟩
theorem lit_no {ds : List PyData} (h : ds.length ≠ 3) : isLit (.tuple ds) = false := by
  unfold isLit
  split
  · rename_i e
    cases e
    exact absurd rfl h
  · rfl
theorem value_no {ds : List PyData} (h : ds.length ≠ 2) : isValue (.tuple ds) = false := by
  unfold isValue
  split
  · rename_i e
    cases e
    exact absurd rfl h
  · rfl
theorem handler_no {ds : List PyData} (h : ds.length ≠ 3) : isHandler (.tuple ds) = false := by
  unfold isHandler
  split
  · rename_i e
    cases e
    exact absurd rfl h
  · rfl
theorem nlit_eq {d : PyData} (h : isLit d = true) : ∃ l r n, d = .tuple [.str l, .str r, .int n] := by
  unfold isLit at h
  split at h
  · rename_i a b c
    simp only [Bool.and_eq_true] at h
    obtain ⟨h1, h2, h3⟩ := h
    obtain ⟨x, rfl⟩ := isStr_of h1
    obtain ⟨y, rfl⟩ := isStr_of h2
    cases c <;> first | exact ⟨_, _, _, rfl⟩ | cases h3
  · cases h
theorem nlit_no {d : PyData} (h : isLit d = false) : isNLit d = false := by
  unfold isNLit
  split
  · rename_i a b c
    have e : (isStr a && (isStr b && isNum c)) = false := h
    rw [e]
    rfl
  · rfl
theorem lenV {n : Nat} {m : Int} : decide (V.int (n : Nat) = V.int m) = decide ((n : Int) = m) := by
  rw [Bool.eq_iff_iff, decide_eq_true_eq, decide_eq_true_eq]
  exact ⟨fun z => V.int.inj z, fun z => by rw [z]⟩
end Pm
namespace Pm
open PySem L2 Bx Tk RZ
theorem cut1 (x : V) (r : List V) : cutV (x :: r) (some 1) none = r ∧ ¬ (HT.sIx (x :: r).length 0 (some 1) = 0 ∧ HT.sIx (x :: r).length (x :: r).length none = (x :: r).length) := by
  have e : HT.sIx (x :: r).length 0 (some 1) = 1 := by
    show HT.sIx (x :: r).length 0 (some ((1 : Nat) : Int)) = 1
    rw [HT.sIx_nat]
    simp
  constructor
  · unfold cutV
    rw [e, HT.sIx_none]
    simp
  · rw [e]
    exact fun z => absurd z.1 (by decide)
theorem find_mem {α : Type} {l : List α} {p : α → Bool} {x : α} (h : l.find? p = some x) : x ∈ l ∧ p x = true := ⟨List.mem_of_find?_eq_some h, List.find?_some h⟩
theorem shape_mem {x : Str} {ks : List Str} (h : shapeOf x = some ks) : (x, ks) ∈ shapes := by
  unfold shapeOf at h
  obtain ⟨p, hp, e⟩ := Option.map_eq_some_iff.mp h
  obtain ⟨h1, h2⟩ := find_mem hp
  have e1 : p.1 = x := by simpa using h2
  rw [← e1, ← e]
  exact h1
theorem shape_none {x : Str} : shapeOf x = none ↔ x ∉ shapes.map (·.1) := by
  unfold shapeOf
  rw [Option.map_eq_none_iff, List.find?_eq_none]
  constructor
  · intro h z
    obtain ⟨p, hp, e⟩ := List.mem_map.mp z
    exact h p hp (by simpa using e)
  · intro h p hp z
    exact h (List.mem_map.mpr ⟨p, hp, by simpa using z⟩)
/-- every kind that a shape has -/
theorem all_zip {α β : Type} (t : α → β → Bool) : ∀ (xs : List α) (ys : List β) (i : Nat) (x : α) (y : β), xs[i]? = some x → ys[i]? = some y → (xs.zip ys)[i]? = some (x, y)
  | x0 :: xs, y0 :: ys, 0, x, y, h1, h2 => by
    simp at h1 h2 ⊢
    exact ⟨h1, h2⟩
  | x0 :: xs, y0 :: ys, i + 1, x, y, h1, h2 => by
    have := all_zip t xs ys i x y (by simpa using h1) (by simpa using h2)
    simpa using this
theorem dpAll_drop {K : PySem.W.Frag} {H : Hp} {x : V} {r : List V} {d : PyData} {ds : List PyData} (h : DpAll K H (x :: r) (d :: ds)) : DpAll K H r ds := by
  cases h with
  | cons _ t => exact t
end Pm

/-! written tuples and the written shapes, by a Bool of the fragment -/
namespace Pm
open PySem L2
def seqB (K : PySem.W.Frag) (a : Addr) (vs : List V) : Bool := match K.lookup a with
  | some o => decide (o.cls = .type "tuple") && (match o.data with
    | .seq its _ => decide (its.size ≤ sizeLine) && He.relAll vs its.toList
    | _ => false)
  | none => false
theorem seqB_ok {K : PySem.W.Frag} {a : Addr} {vs : List V} (h : seqB K a vs = true) (H : Hp) : SqT K H a vs := by
  unfold seqB at h
  cases e : K.lookup a with
  | none => rw [e] at h; cases h
  | some o =>
    rw [e] at h
    simp only [Bool.and_eq_true, decide_eq_true_eq] at h
    obtain ⟨h1, h2⟩ := h
    cases ed : o.data with
    | seq its n =>
      rw [ed] at h2
      simp only [Bool.and_eq_true, decide_eq_true_eq] at h2
      exact .inr ⟨o, its, n, e, h1, ed, h2.1, He.relAll_ok h2.2⟩
    | _ => rw [ed] at h2; cases h2
def shpB (K : PySem.W.Frag) (a : Addr) : Bool := shapes.all fun p => match PySem.W.nsIn K a p.1 with
  | some (some (.ref s)) => seqB K s (p.2.map V.str)
  | _ => false
theorem shpB_ok {K : PySem.W.Frag} {w : World} {a : Addr} (sd : Kd.SD K w a (shapes.map (·.1))) (h : shpB K a = true) : ShpOk K w a := by
  refine ⟨sd, fun p hp => ?_⟩
  have := List.all_eq_true.mp h p hp
  obtain ⟨es, n, ⟨k1, k2⟩, _⟩ := sd
  split at this
  · rename_i s e
    exact ⟨s, ⟨es, n, _, k1, k2, e, rfl⟩, fun H => seqB_ok this H⟩
  · cases this
end Pm

/-! programs whose statements are well formed (or told as bad ones) -/
namespace Pm
open PySem L2 Bx Tk RZ
def sS : PyData → Bool
  | .str x => decide (x.length ≤ 1000)
  | _ => true
def sB1 : PyData → Bool
  | .tuple xs => decide (xs.length ≤ 900) && xs.all sS
  | d => sS d
def sB2 : PyData → Bool
  | .tuple xs => decide (xs.length ≤ 900) && xs.all sB1
  | d => sS d
def sB3 : PyData → Bool
  | .tuple xs => decide (xs.length ≤ 900) && xs.all sB2
  | d => sS d
def sB4 : PyData → Bool
  | .tuple xs => decide (xs.length ≤ 900) && xs.all sB3
  | d => sS d
def optB : Option Str → Bool
  | none => true
  | some x => nameB x
mutual
def okS : Sm → Bool
  | .set x t _ => nameB x && termB t
  | .read x => nameB x
  | .ite l r _ b c => termB l && termB r && (okB b && okB c) && (decide (b.list.length ≤ 900) && decide (c.list.length ≤ 900))
  | .choose b c => (okB b && okB c) && (decide (b.list.length ≤ 900) && decide (c.list.length ≤ 900))
  | .ask l r _ k => termB l && termB r && nameB k
  | .raise k t _ => nameB k && termB t
  | .out o => nameB o
  | .leave => true
  | .again => true
  | .loop x t _ u _ b c => nameB x && termB t && termB u && (okB b && okB c) && (decide (b.list.length ≤ 900) && decide (c.list.length ≤ 900))
  | .tryy b hs o a => okB b && okH hs && (okB o && okB a) && (decide (b.list.length ≤ 900) && decide (hs.list.length ≤ 3) && (decide (o.list.length ≤ 900) && decide (a.list.length ≤ 900)))
  | .bad d => !hasShapeD d && sB4 d
def okB : Bk → Bool
  | .nil => true
  | .cons s r => okS s && okB r
def okH : Hs → Bool
  | .nil => true
  | .cons ks x b r => (ks.all nameB && nodupB ks && decide (ks.length ≤ 900)) && optB x && okB b && decide (b.list.length ≤ 900) && okH r
end
structure OkBk (b : Bk) : Prop where
  o : okB b = true
  l : b.list.length ≤ 900
theorem okB_mem : ∀ {b : Bk} {s : Sm}, okB b = true → s ∈ b.list → okS s = true
  | .nil, _, _, h => by cases h
  | .cons s r, t, o, h => by
    rw [okB, Bool.and_eq_true] at o
    rcases List.mem_cons.mp h with e | e
    · rw [e]
      exact o.1
    · exact okB_mem o.2 e
structure OkHd (h : List Str × Option Str × Bk) : Prop where
  ks : ∀ k ∈ h.1, nameB k = true
  nd : nodupB h.1 = true
  lk : h.1.length ≤ 900
  x : ∀ x, h.2.1 = some x → nameB x = true
  b : OkBk h.2.2
theorem okH_mem : ∀ {hs : Hs} {h : List Str × Option Str × Bk}, okH hs = true → h ∈ hs.list → OkHd h
  | .nil, _, _, h => by cases h
  | .cons ks x b r, t, o, h => by
    rw [okH] at o
    simp only [Bool.and_eq_true, decide_eq_true_eq] at o
    obtain ⟨⟨⟨⟨⟨⟨h1, h2⟩, h3⟩, h4⟩, h5⟩, h6⟩, h7⟩ := o
    rcases List.mem_cons.mp h with e | e
    · rw [e]
      refine ⟨fun k hk => List.all_eq_true.mp h1 k hk, h2, h3, fun y hy => ?_, ⟨h5, h6⟩⟩
      have hy : x = some y := hy
      rw [hy] at h4
      exact h4
    · exact okH_mem h7 e
theorem okS_blocks {s : Sm} (h : okS s = true) : ∀ b ∈ blocksOf s, OkBk b := by
  intro b hb
  cases s with
  | ite l r n x y =>
    rw [okS] at h
    simp only [Bool.and_eq_true, decide_eq_true_eq] at h
    have hb : b ∈ [x, y] := hb
    rcases List.mem_cons.mp hb with e | e
    · rw [e]
      exact ⟨h.1.2.1, h.2.1⟩
    · rw [List.mem_singleton.mp e]
      exact ⟨h.1.2.2, h.2.2⟩
  | choose x y =>
    rw [okS] at h
    simp only [Bool.and_eq_true, decide_eq_true_eq] at h
    have hb : b ∈ [x, y] := hb
    rcases List.mem_cons.mp hb with e | e
    · rw [e]
      exact ⟨h.1.1, h.2.1⟩
    · rw [List.mem_singleton.mp e]
      exact ⟨h.1.2, h.2.2⟩
  | loop x0 t n u m x y =>
    rw [okS] at h
    simp only [Bool.and_eq_true, decide_eq_true_eq] at h
    have hb : b ∈ [x, y] := hb
    rcases List.mem_cons.mp hb with e | e
    · rw [e]
      exact ⟨h.1.2.1, h.2.1⟩
    · rw [List.mem_singleton.mp e]
      exact ⟨h.1.2.2, h.2.2⟩
  | tryy x hs o a =>
    rw [okS] at h
    simp only [Bool.and_eq_true, decide_eq_true_eq] at h
    obtain ⟨⟨⟨h1, h2⟩, h3, h4⟩, ⟨h5, h6⟩, h7, h8⟩ := h
    have hb : b ∈ [x] ++ hs.list.map (·.2.2) ++ [o, a] := hb
    simp only [List.mem_append, List.mem_singleton, List.mem_map, List.mem_cons, List.not_mem_nil, or_false] at hb
    rcases hb with (e | ⟨q, hq, e⟩) | e | e
    · rw [e]
      exact ⟨h1, h5⟩
    · rw [← e]
      exact (okH_mem h2 hq).b
    · rw [e]
      exact ⟨h3, h7⟩
    · rw [e]
      exact ⟨h4, h8⟩
  | _ => cases hb
theorem okS_hs {s : Sm} (h : okS s = true) : (handlersOf s).length ≤ 3 := by
  cases s with
  | tryy x hs o a =>
    rw [okS] at h
    simp only [Bool.and_eq_true, decide_eq_true_eq] at h
    exact h.2.1.2
  | _ => exact Nat.zero_le _
theorem name_len {x : Str} (h : nameB x = true) : x.length ≤ 1000 := by
  unfold nameB wordB at h
  simp only [Bool.and_eq_true, decide_eq_true_eq] at h
  omega
theorem term_len {x : Str} (h : termB x = true) : x.length ≤ 1000 := by
  unfold termB at h
  rcases Bool.or_eq_true _ _ ▸ h with e | e
  · rw [of_decide_eq_true e]
    decide
  · exact name_len e
theorem s4_of {d : PyData} (h : sB4 d = true) : sh4 d := by
  have hs : ∀ {d}, sS d = true → shortS d := fun {d} h => by
    cases d with
    | str x => exact of_decide_eq_true (p := x.length ≤ 1000) h
    | _ => trivial
  have h1 : ∀ {d}, sB1 d = true → sh1 d := fun {d} h => by
    cases d with
    | tuple xs =>
      have h : (decide (xs.length ≤ 900) && xs.all sS) = true := h
      rw [Bool.and_eq_true, decide_eq_true_eq] at h
      exact ⟨h.1, fun d hd => hs (List.all_eq_true.mp h.2 d hd)⟩
    | str x => exact hs (d := .str x) h
    | _ => trivial
  have h2 : ∀ {d}, sB2 d = true → sh2 d := fun {d} h => by
    cases d with
    | tuple xs =>
      have h : (decide (xs.length ≤ 900) && xs.all sB1) = true := h
      rw [Bool.and_eq_true, decide_eq_true_eq] at h
      exact ⟨h.1, fun d hd => h1 (List.all_eq_true.mp h.2 d hd)⟩
    | str x => exact hs (d := .str x) h
    | _ => trivial
  have h3 : ∀ {d}, sB3 d = true → sh3 d := fun {d} h => by
    cases d with
    | tuple xs =>
      have h : (decide (xs.length ≤ 900) && xs.all sB2) = true := h
      rw [Bool.and_eq_true, decide_eq_true_eq] at h
      exact ⟨h.1, fun d hd => h2 (List.all_eq_true.mp h.2 d hd)⟩
    | str x => exact hs (d := .str x) h
    | _ => trivial
  cases d with
  | tuple xs =>
    have h : (decide (xs.length ≤ 900) && xs.all sB3) = true := h
    rw [Bool.and_eq_true, decide_eq_true_eq] at h
    exact ⟨h.1, fun d hd => h3 (List.all_eq_true.mp h.2 d hd)⟩
  | str x => exact hs (d := .str x) h
  | _ => trivial
/-- a statement's word, and a statement: never a tuple's end -/
theorem st_tup (s : Sm) (h : hasShape s = true) : ∃ xs, encS s = .tuple xs := by
  cases s <;> first | exact ⟨_, by rw [encS]⟩ | cases h
theorem stAt_cons {bs : List Bk} {n i : Nat} {r : Pa} {s : Sm} (h : stAt bs n (i :: r) = some s) : ∃ b s', bs[n]? = some b ∧ b.list[i]? = some s' ∧ ((r = [] ∧ s' = s) ∨ ∃ m r2, r = m :: r2 ∧ stAt (blocksOf s') m r2 = some s) := by
  rw [stAt.eq_def] at h
  simp only at h
  cases e : bs[n]? with
  | none => rw [e] at h; cases h
  | some b =>
    rw [e] at h
    simp only at h
    cases e2 : b.list[i]? with
    | none => rw [e2] at h; cases r <;> cases h
    | some s' =>
      rw [e2] at h
      cases r with
      | nil =>
        cases h
        exact ⟨b, _, rfl, e2, .inl ⟨rfl, rfl⟩⟩
      | cons m r2 => exact ⟨b, s', rfl, e2, .inr ⟨m, r2, rfl, h⟩⟩
theorem shape_of_blocks {s : Sm} {b : Bk} (h : b ∈ blocksOf s) : hasShape s = true := by
  cases s <;> first | rfl | cases h
end Pm
namespace Pm
open PySem L2 Bx Tk RZ
/-- a slice, wherever it stands -/
theorem slA_read {K : PySem.W.Frag} {H : Hp} {a : Addr} {xs : List V} {lo hi : Option Int} {Q : VK} (hx : SqT K H a xs) (k : ∀ c H', Same H H' → SqT K H' c (cutV xs lo hi) → Q (.ref c) H') : rSlA K (.ref a) lo hi H Q := by
  refine ⟨a, xs, rfl, hx, fun z => k a H (Same.refl H) ?_, fun _ p np => k p _ (Same.new np) (SqT.of upd_same)⟩
  unfold cutV
  rw [z.1, z.2]
  simp
  exact hx
theorem catA_read {K : PySem.W.Frag} {H : Hp} {a b : Addr} {xs ys : List V} {Q : VK} (hx : SqT K H a xs) (hy : SqT K H b ys) (hl : xs.length + ys.length ≤ sizeLine) (k : ∀ c H', Same H H' → SqT K H' c (xs ++ ys) → Q (.ref c) H') : rCatA K (.ref a) (.ref b) H Q := by
  refine ⟨a, b, xs, ys, rfl, rfl, hx, hy, hl, fun e => k b H (Same.refl H) ?_, fun _ e => k a H (Same.refl H) ?_, fun _ _ p np => k p _ (Same.new np) (SqT.of upd_same)⟩
  · rw [e]
    exact hy
  · rw [e, List.append_nil]
    exact hx
theorem cut_one (xs : List V) (k : Nat) : cutV xs (some (k : Int)) (some ((k : Int) + 1)) = (xs.drop k).take 1 := by
  unfold cutV
  rw [HT.sIx_nat, show ((k : Int) + 1) = ((k + 1 : Nat) : Int) by omega, HT.sIx_nat]
  by_cases h : k ≤ xs.length
  · rw [Nat.min_eq_left h]
    by_cases h2 : k + 1 ≤ xs.length
    · rw [Nat.min_eq_left h2]
      congr 1
      omega
    · rw [Nat.min_eq_right (by omega), List.drop_eq_nil_of_le (by omega)]
      simp
  · have e1 : xs.drop k = [] := List.drop_eq_nil_of_le (by omega)
    have e2 : xs.drop (min k xs.length) = [] := List.drop_eq_nil_of_le (by omega)
    rw [e1, e2]
    simp
theorem cut_to (xs : List V) (k : Nat) : cutV xs none (some (k : Int)) = xs.take k := by
  unfold cutV
  rw [HT.sIx_nat, HT.sIx_none]
  simp
theorem flat_nats (xs : List Nat) : (xs.map nV).all flatV = true := by
  rw [List.all_eq_true]
  intro x hx
  obtain ⟨i, _, rfl⟩ := List.mem_map.mp hx
  rfl
theorem inV_nats (n : Nat) (xs : List Nat) : inV (.int n) (xs.map nV) = decide (n ∈ xs) := by
  unfold inV
  rw [Bool.eq_iff_iff, List.any_eq_true, decide_eq_true_eq]
  constructor
  · rintro ⟨v, hv, e⟩
    obtain ⟨j, hj, rfl⟩ := List.mem_map.mp hv
    have : (j : Int) = n := by simpa [eqV, nV] using e
    have : j = n := by omega
    exact this ▸ hj
  · intro h
    exact ⟨nV n, List.mem_map_of_mem h, by simp [eqV, nV]⟩
/-- all statements along a path are well formed -/
def GoodP (root : Bk) (p : Pa) : Prop := ∀ k, k % 2 = 1 → k ≤ p.length → ∃ s, statementAt root (p.take k) = some s ∧ hasShape s = true
theorem shared_le : ∀ (a b : Pa), sharedLen a b ≤ a.length ∧ sharedLen a b ≤ b.length
  | [], b => by
    rw [sharedLen]
    · simp
    · intro _ _ _ _ h
      cases h
  | a :: r, [] => by
    rw [sharedLen]
    · simp
    · intro _ _ _ _ _ h
      cases h
  | a :: r, b :: q => by
    have := shared_le r q
    rw [sharedLen]
    split
    · simp
      omega
    · simp
theorem shared_step {a b : Pa} {k : Nat} (h : sharedLen a b = k + sharedLen (a.drop k) (b.drop k)) (ha : k < a.length) (hb : k < b.length) : sharedLen a b = if a[k] = b[k] then k + 1 + sharedLen (a.drop (k + 1)) (b.drop (k + 1)) else k := by
  rw [h, List.drop_eq_getElem_cons ha, List.drop_eq_getElem_cons hb, sharedLen]
  split <;> omega
theorem shared_end {a b : Pa} {k : Nat} (h : sharedLen a b = k + sharedLen (a.drop k) (b.drop k)) (c : a.length ≤ k ∨ b.length ≤ k) : sharedLen a b = k := by
  have := shared_le (a.drop k) (b.drop k)
  rw [List.length_drop, List.length_drop] at this
  omega
end Pm
namespace Pm
open PySem L2
theorem word_for {s : Sm} (h : hasShape s = true) (w : wordOf s = "for") : ∃ x t n u m b c, s = .loop x t n u m b c := by
  cases s <;> first | exact ⟨_, _, _, _, _, _, _, rfl⟩ | (simp only [wordOf] at w; exact absurd w (by decide +kernel)) | cases h
theorem word_try {s : Sm} (h : hasShape s = true) (w : wordOf s = "try") : ∃ b hs o a, s = .tryy b hs o a := by
  cases s <;> first | exact ⟨_, _, _, _, rfl⟩ | (simp only [wordOf] at w; exact absurd w (by decide +kernel)) | cases h
end Pm

/-! what a check holds in the heap -/
namespace Pm
open PySem L2 Bx Tk
def kvsOf : List (Str × List Pa) → List Addr → List (Key × V)
  | p :: m, l :: os => (Sum.inr p.1, .ref l) :: kvsOf m os
  | _, _ => []
def PathR (K : PySem.W.Frag) (H : Hp) (t : Addr) (p : Pa) : Prop := SqT K H t (p.map nV)
def RowR (K : PySem.W.Frag) (H : Hp) (p : Str × List Pa) (l : Addr) : Prop := ∃ ts : List Addr, H l = some (.lst (ts.map .ref)) ∧ Paired (PathR K H) ts p.2
structure SetA (K : PySem.W.Frag) (H : Hp) (dS : Addr) (m : List (Str × List Pa)) (os : List Addr) : Prop where
  d : H dS = some (.dK (kvsOf m os))
  r : Paired (RowR K H) m os
  nd : os.Nodup
section
variable {K : PySem.W.Frag} {H H' : Hp} {m : List (Str × List Pa)} {os : List Addr} {x : Str} {dS : Addr}
theorem rowR_mono {p : Str × List Pa} {l : Addr} (st : ∀ b ks, SqT K H b ks → SqT K H' b ks) (hl : H' l = H l) (r : RowR K H p l) : RowR K H' p l := by
  obtain ⟨ts, h1, h2⟩ := r
  exact ⟨ts, hl.trans h1, Paired.mapP h2 fun _ _ z => st _ _ z⟩
theorem rows_mono (st : ∀ b ks, SqT K H b ks → SqT K H' b ks) (r : Paired (RowR K H) m os) (hl : ∀ l ∈ os, H' l = H l) : Paired (RowR K H') m os := by
  induction r with
  | nil => exact .nil
  | @cons p l ps ls h t ih => exact .cons (rowR_mono st (hl l List.mem_cons_self) h) (ih fun a ha => hl a (List.mem_cons_of_mem _ ha))
theorem SetA.mono (h : SetA K H dS m os) (st : ∀ b ks, SqT K H b ks → SqT K H' b ks) (hd : H' dS = H dS) (hl : ∀ l ∈ os, H' l = H l) : SetA K H' dS m os := ⟨hd.trans h.d, rows_mono st h.r hl, h.nd⟩
theorem SetA.len (h : SetA K H dS m os) : os.length = m.length := (Paired.length h.r).symm
theorem get_none (r : Paired (RowR K H) m os) (e : getS m x = none) : valV (kvsOf m os) (Sum.inr x) = none := by
  induction r with
  | nil => rfl
  | @cons p l ps ls h t ih =>
    rw [getS] at e
    by_cases c : p.1 = x
    · rw [if_pos c] at e
      cases e
    · rw [if_neg c] at e
      rw [kvsOf, valV_neg fun z => c (Sum.inr.inj z)]
      exact ih e
theorem get_some {ps : List Pa} (r : Paired (RowR K H) m os) (e : getS m x = some ps) : ∃ l, valV (kvsOf m os) (Sum.inr x) = some (.ref l) ∧ l ∈ os ∧ RowR K H (x, ps) l := by
  induction r with
  | nil => cases e
  | @cons p l qs ls h t ih =>
    rw [getS] at e
    by_cases c : p.1 = x
    · rw [if_pos c] at e
      cases e
      exact ⟨l, by rw [kvsOf, valV_pos (by rw [c])], List.mem_cons_self, h⟩
    · rw [if_neg c] at e
      obtain ⟨l2, h1, h2, h3⟩ := ih e
      exact ⟨l2, by rw [kvsOf, valV_neg fun z => c (Sum.inr.inj z)]; exact h1, List.mem_cons_of_mem _ h2, h3⟩
theorem kvs_add {ps : List Pa} {p : Pa} (r : Paired (RowR K H) m os) (e : getS m x = some ps) : kvsOf (addS m x p) os = kvsOf m os := by
  induction r with
  | nil => cases e
  | @cons q l qs ls h t ih =>
    rw [getS] at e
    rw [addS]
    by_cases c : q.1 = x
    · rw [if_pos c]
      rfl
    · rw [if_neg c] at e ⊢
      rw [kvsOf, kvsOf, ih e]
theorem rows_add {ps : List Pa} {p : Pa} {t : Addr} {l : Addr} {ts : List Addr} (r : Paired (RowR K H) m os) (nd : os.Nodup) (e : getS m x = some ps) (hv : valV (kvsOf m os) (Sum.inr x) = some (.ref l)) (hl : H l = some (.lst (ts.map .ref)))
    (ht : SqT K H t (p.map nV)) : Paired (RowR K (upd H l (.lst (ts.map V.ref ++ [.ref t])))) (addS m x p) os := by
  have st : ∀ b ks, SqT K H b ks → SqT K (upd H l (.lst (ts.map V.ref ++ [.ref t]))) b ks := fun b ks z => sq_upd (fun zs e => by rw [hl] at e; cases e) (fun ob zs e => by rw [hl] at e; cases e) z
  induction r with
  | nil => cases e
  | @cons q l0 qs ls h tl ih =>
    rw [getS] at e
    rw [addS]
    rw [List.nodup_cons] at nd
    by_cases c : q.1 = x
    · rw [kvsOf, valV_pos (by rw [c])] at hv
      cases hv
      rw [if_pos c]
      refine .cons ?_ (rows_mono st tl fun a ha => upd_ne fun z => nd.1 (z ▸ ha))
      obtain ⟨ts0, h1, h2⟩ := h
      rw [hl] at h1
      have e2 : ts = ts0 := by
        have e3 := Option.some.inj h1
        injection e3 with e3
        exact List.map_inj_right (f := V.ref) (fun a b z => V.ref.inj z) |>.mp e3
      subst e2
      exact ⟨ts ++ [t], by rw [upd_same, List.map_append]; rfl, Paired.snoc (Paired.mapP h2 fun _ _ z => st _ _ z) (st _ _ ht)⟩
    · rw [if_neg c] at e ⊢
      rw [kvsOf, valV_neg fun z => c (Sum.inr.inj z)] at hv
      have lm : l ∈ ls := by
        obtain ⟨l2, h1, h2, _⟩ := get_some tl e
        rw [hv] at h1
        cases h1
        exact h2
      exact .cons (rowR_mono st (upd_ne fun z => nd.1 (z ▸ lm)) h) (ih nd.2 e hv)
theorem kvs_new {p : Pa} {L : Addr} (r : Paired (RowR K H) m os) (e : getS m x = none) : putK (kvsOf m os) (Sum.inr x) (.ref L) = kvsOf (addS m x p) (os ++ [L]) := by
  have n : ((kvsOf m os).any fun kv => decide (kv.1 = Sum.inr x)) = false := by
    have := get_none r e
    rw [valV_any, this]
    rfl
  unfold putK
  rw [n, if_neg Bool.false_ne_true]
  clear n
  induction r with
  | nil => rfl
  | @cons q l qs ls h t ih =>
    rw [getS] at e
    rw [addS]
    by_cases c : q.1 = x
    · rw [if_pos c] at e
      cases e
    · rw [if_neg c] at e ⊢
      rw [kvsOf, List.cons_append, ih e]
      rfl
theorem rows_new {p : Pa} {L : Addr} (r : Paired (RowR K H) m os) (e : getS m x = none) (hL : RowR K H (x, [p]) L) : Paired (RowR K H) (addS m x p) (os ++ [L]) := by
  induction r with
  | nil => exact .cons hL .nil
  | @cons q l qs ls h t ih =>
    rw [getS] at e
    rw [addS]
    by_cases c : q.1 = x
    · rw [if_pos c] at e
      cases e
    · rw [if_neg c] at e ⊢
      exact .cons h (ih e)
end
/-! the known names ahead of each place -/
def pK (p : Pa) : List Key := p.map fun (n : Nat) => (Sum.inl (n : Int) : Key)
theorem pK_V (p : Pa) : (pK p).map kV = p.map nV := by
  unfold pK
  rw [List.map_map]
  rfl
theorem pK_inj {a b : Pa} (h : pK a = pK b) : a = b := by
  induction a generalizing b with
  | nil =>
    cases b with
    | nil => rfl
    | cons _ _ => cases h
  | cons x r ih =>
    cases b with
    | nil => cases h
    | cons y q =>
      have h : (Sum.inl (x : Int) : Key) :: pK r = Sum.inl (y : Int) :: pK q := h
      injection h with h1 h2
      have := Sum.inl.inj h1
      rw [ih h2]
      congr 1
      omega
def KnR (K : PySem.W.Frag) (H : Hp) (p : Pa × Names) (q : List Key × V) : Prop := q.1 = pK p.1 ∧ ∃ b, q.2 = .ref b ∧ SqT K H b (p.2.map V.str)
def KnA (P : Program) (w : World) (K : PySem.W.Frag) (H : Hp) (d : Addr) (m : List (Pa × Names)) : Prop := ∃ kvs, TD P w K H d kvs ∧ Paired (KnR K H) m kvs
section
variable {P : Program} {w : World} {K : PySem.W.Frag} {H H' : Hp} {d b c : Addr} {m : List (Pa × Names)} {kvs : List (List Key × V)} {p : Pa} {v : Names}
theorem knR_mono (st : ∀ b ks, SqT K H b ks → SqT K H' b ks) (r : Paired (KnR K H) m kvs) : Paired (KnR K H') m kvs := Paired.mapP r fun _ _ ⟨h1, b, h2, h3⟩ => ⟨h1, b, h2, st _ _ h3⟩
theorem KnA.mono (h : KnA P w K H d m) (ha : H' d = H d) (st : ∀ b ks, SqT K H b ks → SqT K H' b ks) : KnA P w K H' d m := by
  obtain ⟨kvs, td, r⟩ := h
  exact ⟨kvs, TD.mono ha st td, knR_mono st r⟩
theorem kn_put (r : Paired (KnR K H) m kvs) (hc : SqT K H c (v.map V.str)) : Paired (KnR K H) (putP m p v) (putK kvs (pK p) (.ref c)) := by
  have e : (kvs.any fun kv => decide (kv.1 = pK p)) = (m.any fun q => decide (q.1 = p)) := by
    clear hc
    induction r with
    | nil => rfl
    | @cons q q2 ps qs hh t ih =>
      rw [List.any_cons, List.any_cons, ih]
      congr 1
      rw [hh.1]
      by_cases z : q.1 = p
      · rw [z, decide_eq_true rfl, decide_eq_true rfl]
      · rw [decide_eq_false z, decide_eq_false fun y => z (pK_inj y)]
  unfold putP putK
  rw [e]
  by_cases ca : (m.any fun q => decide (q.1 = p)) = true
  · rw [if_pos ca, if_pos ca]
    clear e ca
    induction r with
    | nil => exact .nil
    | @cons q q2 ps qs hh t ih =>
      refine .cons ?_ ih
      show KnR K H (if q.1 = p then (q.1, v) else q) (if q2.1 = pK p then (q2.1, V.ref c) else q2)
      by_cases z : q.1 = p
      · rw [if_pos z, if_pos (by rw [hh.1, z])]
        exact ⟨hh.1, c, rfl, hc⟩
      · rw [if_neg z, if_neg fun y => z (pK_inj (hh.1.symm.trans y))]
        exact hh
  · rw [if_neg ca, if_neg ca]
    exact Paired.snoc r ⟨rfl, c, rfl, hc⟩
theorem KnA.put {N : Hp → Prop} (h : KnA P w K H d m) (hk : SqT K H b (p.map nV)) (hc : SqT K H c (v.map V.str)) (hl : m.length ≤ 100000)
    (nx : ∀ es, KnA P w K (upd H d (TO P w d es)) d (putP m p v) → (∀ b ks, SqT K H b ks → SqT K (upd H d (TO P w d es)) b ks) → N (upd H d (TO P w d es))) : TPut P w K H d (.ref b) (.ref c) N := by
  obtain ⟨kvs, td, r⟩ := h
  have l := Paired.length r
  refine ⟨kvs, pK p, b, td, rfl, by rw [pK_V]; exact hk, szw (by omega), fun es td2 => ?_⟩
  obtain ⟨es0, e0, _⟩ := td
  have st : ∀ b ks, SqT K H b ks → SqT K (upd H d (TO P w d es)) b ks := fun _ _ z => sq_to e0 z
  exact nx es ⟨_, td2, knR_mono st (kn_put r hc)⟩ st
end
/-! the check -/
structure Ck where
  H0 : Hp
  c : Addr
  dx : Addr
  pin : Addr
  pb : V
  dS : Addr
  dK : Addr
  cls : Addr
  inputs : Names
  root : Bk
structure ChkAt (P : Program) (w : World) (K : PySem.W.Frag) (C : Ck) (H : Hp) (m : Sta) (os : List Addr) : Prop where
  ins : H C.c = some (.ins C.cls C.dx [("inputs", .ref C.pin), ("block", C.pb), ("settings", .ref C.dS), ("known", .ref C.dK)])
  inp : SqT K C.H0 C.pin (C.inputs.map V.str)
  blk : BkAt K C.H0 C.pb C.root
  ok : OkBk C.root
  s0 : Same C.H0 H
  set : SetA K H C.dS m.set os
  kn : KnA P w K H C.dK m.known
  f1 : C.H0 C.dS = none
  f2 : C.H0 C.dK = none
  f3 : ∀ l ∈ os, C.H0 l = none
/-- all but the check's own parts stays -/
def Fr (C : Ck) (os : List Addr) (H H' : Hp) : Prop := ∀ a o, H a = some o → a ≠ C.dS → a ≠ C.dK → a ∉ os → H' a = some o
/-- the parts are old ones or new -/
def Grow (H : Hp) (os os' : List Addr) : Prop := ∃ more, os' = os ++ more ∧ ∀ l ∈ more, H l = none
section
variable {P : Program} {w : World} {K : PySem.W.Frag} {C : Ck} {H H1 H2 : Hp} {m : Sta} {os os1 os2 : List Addr}
theorem Fr.refl : Fr C os H H := fun _ _ h _ _ _ => h
theorem Fr.of_same (S : Same H H1) : Fr C os H H1 := fun a o h _ _ _ => S a o h
theorem Fr.trans (g : Grow H os os1) (a : Fr C os H H1) (b : Fr C os1 H1 H2) : Fr C os H H2 := fun x o h n1 n2 n3 => b x o (a x o h n1 n2 n3) n1 n2 fun z => by
  obtain ⟨more, rfl, hm⟩ := g
  rcases List.mem_append.mp z with y | y
  · exact n3 y
  · rw [hm x y] at h
    cases h
theorem Grow.refl : Grow H os os := ⟨[], by simp, fun _ h => nomatch h⟩
theorem ChkAt.kinds (h : ChkAt P w K C H m os) : (∃ kvs, H C.dS = some (.dK kvs)) ∧ (∃ es, H C.dK = some (TO P w C.dK es)) ∧ ∀ l ∈ os, ∃ xs, H l = some (.lst xs) := by
  obtain ⟨kvs, ⟨es, e, _⟩, _⟩ := h.kn
  refine ⟨⟨_, h.set.d⟩, ⟨es, e⟩, ?_⟩
  have r := h.set.r
  clear h
  generalize m.set = ms at r
  induction r with
  | nil => exact fun l hl => nomatch hl
  | @cons p l ps ls hh t ih =>
    intro l2 hl
    rcases List.mem_cons.mp hl with z | z
    · obtain ⟨ts, h1, _⟩ := hh
      exact ⟨_, by rw [z]; exact h1⟩
    · exact ih l2 z
/-- the parts that are new are new of what was there ahead too -/
theorem Fr.free {m1 : Sta} (h1 : ChkAt P w K C H1 m1 os1) (g : Grow H os os1) (f : Fr C os H H1) {l : Addr} (n : H1 l = none) : H l = none := by
  obtain ⟨⟨kvs, k1⟩, ⟨es, k2⟩, k3⟩ := h1.kinds
  cases q : H l with
  | none => rfl
  | some o =>
    exfalso
    by_cases e1 : l = C.dS
    · rw [e1, k1] at n
      cases n
    by_cases e2 : l = C.dK
    · rw [e2, k2] at n
      cases n
    by_cases e3 : l ∈ os
    · obtain ⟨more, rfl, _⟩ := g
      obtain ⟨xs, e⟩ := k3 l (List.mem_append_left _ e3)
      rw [e] at n
      cases n
    · rw [f l o q e1 e2 e3] at n
      cases n
theorem Grow.trans {m1 : Sta} (h1 : ChkAt P w K C H1 m1 os1) (f : Fr C os H H1) (a : Grow H os os1) (b : Grow H1 os1 os2) : Grow H os os2 := by
  have a2 := a
  obtain ⟨x, rfl, hx⟩ := a
  obtain ⟨y, rfl, hy⟩ := b
  refine ⟨x ++ y, by rw [List.append_assoc], fun l hl => ?_⟩
  rcases List.mem_append.mp hl with z | z
  · exact hx l z
  · exact Fr.free h1 a2 f (hy l z)
theorem Fr.sq (h : ChkAt P w K C H m os) (f : Fr C os H H1) {b : Addr} {ks : List V} (z : SqT K H b ks) : SqT K H1 b ks := by
  obtain ⟨⟨kvs, k1⟩, ⟨es, k2⟩, k3⟩ := h.kinds
  have no : ∀ {b : Addr} {o : HO}, H b = some o → (∀ kvs, o ≠ .dK kvs) → o ≠ TO P w C.dK es → (∀ xs, o ≠ .lst xs) → H1 b = some o := fun {b o} hb n1 n2 n3 => by
    refine f b o hb (fun e => ?_) (fun e => ?_) fun e => ?_
    · rw [e, k1] at hb
      exact n1 _ (Option.some.inj hb).symm
    · rw [e, k2] at hb
      exact n2 (Option.some.inj hb).symm
    · obtain ⟨xs, k4⟩ := k3 b e
      rw [k4] at hb
      exact n3 _ (Option.some.inj hb).symm
  rcases z with (z | ⟨o, z⟩) | z
  · exact .inl (.inl (no z (fun _ q => by cases q) (fun q => by cases q) (fun _ q => by cases q)))
  · exact .inl (.inr ⟨o, no z (fun _ q => by cases q) (fun q => by cases q) (fun _ q => by cases q)⟩)
  · exact .inr z
/-- what is kept, but for new things -/
theorem ChkAt.same (h : ChkAt P w K C H m os) (S : Same H H1) : ChkAt P w K C H1 m os := by
  obtain ⟨⟨kvs, k1⟩, ⟨es, k2⟩, k3⟩ := h.kinds
  refine ⟨S _ _ h.ins, h.inp, h.blk, h.ok, h.s0.trans S, h.set.mono (fun _ _ z => Same.seqT S z) ?_ fun l hl => ?_, h.kn.mono ?_ fun _ _ z => Same.seqT S z, h.f1, h.f2, h.f3⟩
  · rw [h.set.d]
    exact S _ _ h.set.d
  · obtain ⟨xs, e⟩ := k3 l hl
    rw [e]
    exact S _ _ e
  · rw [k2]
    exact S _ _ k2
end
end Pm
namespace Pm
open PySem L2 Bx Tk
section
variable {P : Program} {w : World} {K : PySem.W.Frag} {C : Ck} {H H1 H2 : Hp} {m : Sta} {os os1 os2 : List Addr} {x : Str} {ps : List Pa}
/-- one more path behind a name that is there -/
theorem ChkAt.app (h : ChkAt P w K C H m os) (e : getS m.set x = some ps) : ∃ (l : Addr) (ts : List Addr), valV (kvsOf m.set os) (Sum.inr x) = some (.ref l) ∧ H l = some (.lst (ts.map V.ref)) ∧ ts.length = ps.length ∧ l ∈ os ∧
    ∀ (t : Addr) (p : Pa), SqT K H t (p.map nV) → Fr C os H (upd H l (.lst (ts.map V.ref ++ [.ref t]))) ∧ ChkAt P w K C (upd H l (.lst (ts.map V.ref ++ [.ref t]))) ⟨addS m.set x p, m.known⟩ os := by
  obtain ⟨l, h1, h2, ts, h3, h4⟩ := get_some h.set.r e
  obtain ⟨⟨kvs, k1⟩, ⟨es, k2⟩, k3⟩ := h.kinds
  refine ⟨l, ts, h1, h3, Paired.length h4, h2, fun t p ht => ⟨fun a o ha n1 n2 n3 => ?_, ?_⟩⟩
  · rw [upd_ne fun z => n3 (by rw [z]; exact h2)]
    exact ha
  · have st : ∀ b ks, SqT K H b ks → SqT K (upd H l (.lst (ts.map V.ref ++ [.ref t]))) b ks := fun b ks z => sq_upd (fun zs e => by rw [h3] at e; cases e) (fun ob zs e => by rw [h3] at e; cases e) z
    refine ⟨?_, h.inp, h.blk, h.ok, fun a o ha => ?_, ⟨?_, rows_add h.set.r h.set.nd e h1 h3 ht, h.set.nd⟩, h.kn.mono ?_ st, h.f1, h.f2, h.f3⟩
    · rw [upd_ne (ne_of h.ins h3 (by intro z; cases z))]
      exact h.ins
    · rw [upd_ne fun z => by rw [z, h.f3 l h2] at ha; cases ha]
      exact h.s0 a o ha
    · rw [upd_ne (ne_of h.set.d h3 (by intro z; cases z)), kvs_add h.set.r e]
      exact h.set.d
    · rw [upd_ne (ne_of k2 h3 (by intro z; cases z))]
/-- a new name with its first path -/
theorem ChkAt.add (h : ChkAt P w K C H m os) (e : getS m.set x = none) {L : Addr} (hL : H L = some (.lst [])) (n0 : C.H0 L = none) (nL : L ∉ os) (t : Addr) (p : Pa) (ht : SqT K H t (p.map nV)) :
    ChkAt P w K C (upd (upd H C.dS (.dK (putK (kvsOf m.set os) (Sum.inr x) (.ref L)))) L (.lst ([] ++ [.ref t]))) ⟨addS m.set x p, m.known⟩ (os ++ [L]) := by
  obtain ⟨⟨kvs, k1⟩, ⟨es, k2⟩, k3⟩ := h.kinds
  have d1 : C.dS ≠ L := ne_of k1 hL (by intro z; cases z)
  have d2 : C.dK ≠ L := ne_of k2 hL (by intro z; cases z)
  have d3 : C.dK ≠ C.dS := ne_of k2 k1 (by intro z; cases z)
  have d4 : C.c ≠ L := ne_of h.ins hL (by intro z; cases z)
  have d5 : C.c ≠ C.dS := ne_of h.ins k1 (by intro z; cases z)
  have st : ∀ b ks, SqT K H b ks → SqT K (upd (upd H C.dS (.dK (putK (kvsOf m.set os) (Sum.inr x) (.ref L)))) L (.lst ([] ++ [.ref t]))) b ks := fun b ks z => by
    refine sq_upd (fun zs e => ?_) (fun ob zs e => ?_) (sq_upd (fun zs e => by rw [k1] at e; cases e) (fun ob zs e => by rw [k1] at e; cases e) z)
    · rw [upd_ne (Ne.symm d1), hL] at e
      cases e
    · rw [upd_ne (Ne.symm d1), hL] at e
      cases e
  refine ⟨?_, h.inp, h.blk, h.ok, fun a o ha => ?_, ⟨?_, rows_new (rows_mono st h.set.r fun l hl => ?_) e ⟨[t], upd_same, .cons (st _ _ ht) .nil⟩, ?_⟩, h.kn.mono ?_ st, h.f1, h.f2, fun l hl => ?_⟩
  · rw [upd_ne d4, upd_ne d5]
    exact h.ins
  · rw [upd_ne fun z => (by rw [z, n0] at ha; cases ha), upd_ne fun z => (by rw [z, h.f1] at ha; cases ha)]
    exact h.s0 a o ha
  · rw [upd_ne d1, upd_same, kvs_new h.set.r e]
  · obtain ⟨xs, k4⟩ := k3 l hl
    rw [upd_ne fun z => nL (by rw [← z]; exact hl), upd_ne (ne_of k4 k1 (by intro z; cases z))]
  · exact List.nodup_append.mpr ⟨h.set.nd, by simp, fun a ha b hb z => nL (by rw [List.mem_singleton.mp hb] at z; exact z ▸ ha)⟩
  · rw [upd_ne d2, upd_ne d3]
  · rcases List.mem_append.mp hl with z | z
    · exact h.f3 l z
    · rw [List.mem_singleton.mp z]
      exact n0
end
end Pm

/-! methods that may raise; an own error of two arguments -/
namespace Pm
open PySem L2 Bx Tk
/-- a method that may raise -/
structure MetX (P : Program) (w : World) (K : PySem.W.Frag) (mg : Str → Option Value) (base : Heap) (k : Nat) (C : Addr) (m : Str) (sp : Sp) : Prop where
  ex : ∃ (f : Addr) (fd : FuncData) (ps : List Str), Cls K C ∧ Meth K C m f ∧ FnOk P w K mg base (L2.CX P w) k f fd ps sp ∧ Binds K fd ps []
section
variable {X : Cx} {j k : Nat} {C : Addr} {m : Str} {sp : Sp} {E : XK} {ta : TE} {t : TA} {o e : Expr} {es : List Expr} {apos pos : Pos}
theorem pe_mtX {pl : Sem Bool} (c : MetX X.prog X.w X.K X.mg X.base k C m sp) (hr : Room j X.A) (hk : k ≤ j) (tk : Takes X (fun cls d _ H => E cls d H)) (he : PE X o ta) (ha : PA X (e :: es) t)
    (hst : starEach (e :: es) X.env = (false, eval e X.env) :: starEach es X.env := by rfl) (hpl : (backTo pos (starEach es X.env)).any (·.1) = false := by rfl)
    (ht : eval (.Call (.Attribute o m apos) (e :: es) [] pos) X.env = (do
      let ov ← eval o X.env
      standAt apos.atName
      let (f, first) ← holding [ov] (getMethod ov m pl)
      callWith pos f first (backTo pos (starEach (e :: es) X.env)) (backToKw pos (keywordEach [] X.env))) := by rfl) :
    PE X (.Call (.Attribute o m apos) (e :: es) [] pos) (tMeth C m sp [] E ta t) := by
  obtain ⟨f, fd, ps, hc, hm, F, b⟩ := c.ex
  exact pe_meth (pl := pl) he hc hm F (hr.mono hk) b .nil (passes_call tk fun _ _ _ _ h => h) ha hst hpl ht
end
section
variable {P : Program} {w : World} {K : PySem.W.Frag} {mg : Str → Option Value} {base : Heap}
/-- a def that may raise, by its body -/
theorem fnX {x qual : Str} {st : Stmt} {f : Addr} {fd : FuncData} {N ps : List Str} {k : Nat} {sp : Sp} (F : C8.Fun K x qual st f fd) (S : FnScope N ps (C8.fnScope st)) (len : ∀ vs H Q E, sp vs H Q E → vs.length = ps.length)
    (hbody : ∀ (cdv : Value) (A : Around) (outer : List Env) (s : Shared) (H : Hp) (vs : List V) (Q : VK) (E : XK), Room k (A.deeper (PyProof.Rows.envOfC qual (C8.fnScope st) s.heap.objs.size f cdv)) → sp vs H Q E →
      ∃ t, PSs (cxOf (L2.CX P w) P w K mg base N qual (C8.fnScope st) f cdv A outer s H E) (C8.fnBody st) t ∧ t { nx := fun _ H' => Q .non H', rt := Q } (L2.start N vs) H) : FnOk P w K mg base (L2.CX P w) (k + 1) f fd ps sp := by
  obtain ⟨oc, od, dV, kV, doc, pm, an, cdv, ct, osl, rfl, lk, hcd⟩ := F.ex
  exact fn_of lk hcd S len fun A outer s H vs Q E hr hsp => hbody cdv A outer s H vs Q E hr hsp
/-- an own error's __init__ of two fields -/
def spErr2 (K : PySem.W.Frag) (f1 f2 : Str) : Sp := fun vs H Q _ => ∃ (a C : Addr) (v1 v2 : V), vs = [.ref a, v1, v2] ∧ H a = some (exo a C none) ∧ OexC K C ∧ PySem.W.findIn K (.ref C) f1 = some none ∧ PySem.W.findIn K (.ref C) f2 = some none ∧
  ∀ dx, H dx = none → dx ≠ a → Q .non (upd (upd (upd H dx (exd dx [(f1, v1)])) a (exo a C (some dx))) dx (exd dx [(f2, v2), (f1, v1)]))
structure Err2 (P : Program) (w : World) (K : PySem.W.Frag) (mg : Str → Option Value) (base : Heap) (x f1 f2 : Str) (C : Addr) : Prop where
  cls : OexC K C
  g : mg x = some (.ref C)
  n1 : PySem.W.findIn K (.ref C) f1 = some none
  n2 : PySem.W.findIn K (.ref C) f2 = some none
  init : ∃ fI fd, PySem.W.findIn K (.ref C) "__init__" = some (some (.ref fI)) ∧ PySem.W.typeIn K (.ref fI) = some (.type "function") ∧ Binds K fd ["self", f1, f2] [] ∧ FnOk P w K mg base C8.CX0 1 fI fd ["self", f1, f2] (spErr2 K f1 f2)
theorem err2_heap {H : Hp} {a d : Addr} {e0 e1 d0 d1 z : HO} (ha : H a = none) (hd : d ≠ a) : upd (del (upd (upd (upd (upd H a e0) d d0) a e1) d d1) a) d z = upd H d z := by
  funext b
  by_cases c : b = d
  · subst c
    rw [upd_same, upd_same]
  · rw [upd_ne c, upd_ne c]
    by_cases c2 : b = a
    · subst c2
      rw [del_same, ha]
    · rw [del_ne c2, upd_ne c, upd_ne c2, upd_ne c, upd_ne c2]
end
section
variable {X : Cx} {e e2 : Expr} {ta : TA} {x f1 f2 : Str} {C : Addr} {p pos pos2 : Pos} {W : WX}
theorem ps_raise2 (hc : X.calm = true) (T : Err2 X.prog X.w X.K X.mg X.base x f1 f2 C) (hr : Room 2 X.A) (tk : Takes X W) (ha : PA X [e, e2] ta) (hg : Gl X x)
    (hdb : (x == ("__debug__" : Str)) = false := by decide) (hst : starEach (e :: [e2]) X.env = (false, eval e X.env) :: starEach [e2] X.env := by rfl) (hpl : (backTo pos (starEach [e2] X.env)).any (·.1) = false := by rfl) :
    PS X (.Raise (some (.Call (.Name x p) [e, e2] [] pos)) none pos2) (fun _ σ H => tMkO C (spErr2 X.K f1 f2) [] ta σ H fun cls d H' => W cls d σ H') := by
  obtain ⟨fI, fd, i1, i2, i3, i4⟩ := T.init
  exact ps_raise hc tk (pmk_oex (CX := C8.CX0) (ds := []) (dvs := []) T.cls i1 i2 i4 hr i3 .nil C8.pass0 hg T.g ha hdb hst hpl)
theorem err2_read {P : Program} {w : World} {K : PySem.W.Frag} {mg : Str → Option Value} {base : Heap} (T : Err2 P w K mg base x f1 f2 C) {H1 : Hp} {v1 v2 : V} {Q : XK} (k : ∀ d, H1 d = none → Q (.ref C) (some d) (upd H1 d (.xd [(f2, v2), (f1, v1)]))) :
    [v1, v2].length ≤ 1000 ∧ ∀ a, H1 a = none → spErr2 K f1 f2 (.ref a :: ([v1, v2] ++ [])) (upd H1 a (exo a C none)) (fun v H2 => v = .non ∧ ∃ (d : Addr) (fs : List (Str × V)), H2 a = some (exo a C (some d)) ∧ H2 d = some (exd d fs) ∧ H1 d = none ∧ Q (.ref C) (some d) (upd (del H2 a) d (.xd fs))) (fun _ _ _ => False) := by
  refine ⟨by simp, fun a na => ⟨a, C, v1, v2, rfl, upd_same, T.cls, T.n1, T.n2, fun dx h1 h2 => ⟨rfl, dx, [(f2, v2), (f1, v1)], ?_, upd_same, ?_, ?_⟩⟩⟩
  · rw [upd_ne (Ne.symm h2)]
    exact upd_same
  · rw [upd_ne h2] at h1
    exact h1
  · rw [err2_heap na h2]
    refine k dx ?_
    rw [upd_ne h2] at h1
    exact h1
end
end Pm

/-! an own class of errors, by a Bool of the fragment -/
namespace Pm
open PySem L2
def oexB (K : PySem.W.Frag) (C : Addr) : Bool := (match K.lookup C with
  | some ⟨cls, _, .cls c, slots⟩ => decide (cls = .type "type") && (c.hasDict && (!c.hasDel && ((match c.mro with
      | .ref D :: bm => decide (D = C) && PySem.HandSPX.refsVE bm
      | _ => false) && (match slots.toList with
      | [_, _, _, _, k4, _] => decide (k4 = some (.builtin "ValueError.__new__"))
      | _ => false))))
  | _ => false) && (decide (PySem.W.findIn K (.ref C) "__setattr__" = some (some (.builtin "object.__setattr__"))) && (decide (PySem.W.subIn K (.ref C) (.type "BaseException") = some true) && (decide (PySem.W.typeIn K (.ref C) = some (.type "type")) && PySem.W.keepIn K (.ref C))))
theorem oexB_ok {K : PySem.W.Frag} {C : Addr} (h : oexB K C = true) : OexC K C := by
  unfold oexB at h
  rw [Bool.and_eq_true, Bool.and_eq_true, Bool.and_eq_true, Bool.and_eq_true] at h
  obtain ⟨h0, h1, h2, h3, h4⟩ := h
  refine ⟨?_, of_decide_eq_true h1, of_decide_eq_true h2, of_decide_eq_true h3, h4⟩
  split at h0
  · rename_i cls dd c slots e
    rw [Bool.and_eq_true, Bool.and_eq_true, Bool.and_eq_true, Bool.and_eq_true, decide_eq_true_eq] at h0
    obtain ⟨rfl, g1, g2, g3, g4⟩ := h0
    obtain ⟨nm, bs, mro, N, q, hd, sn, sub, ab, col, del⟩ := c
    simp only at g1 g2 g3
    subst g1
    have g2 : del = false := by simpa using g2
    subst g2
    split at g3
    · rename_i D bm
      rw [Bool.and_eq_true, decide_eq_true_eq] at g3
      obtain ⟨rfl, g5⟩ := g3
      split at g4
      · rename_i k0 k1 k2 k3 k4 k5 e4
        have g6 := of_decide_eq_true g4
        subst g6
        have e5 : slots = #[k0, k1, k2, k3, some (.builtin "ValueError.__new__"), k5] := by
          rw [← Array.toArray_toList (xs := slots), e4]
        subst e5
        exact ⟨nm, q, N, bs, bm, sn, sub, ab, col, dd, k0, k1, k2, k3, k5, e, g5⟩
      · cases g4
    · cases g3
  · cases h0
end Pm

namespace K17
open PySem L2 Bx He Pm
def faX : List Fa := [.glo "either_flow", .glo "without_end", .glo "simple_flow", .glo "loop_flow", .glo "first_fit", .glo "try_flow", .glo "is_number", .glo "is_word", .glo "is_name", .glo "are_different", .glo "are_names", .glo "is_literal", .glo "is_term", .glo "is_named_literal", .glo "is_value", .glo "is_handler", .glo "is_of_kind", .glo "has_shape", .glo "terms_of", .glo "handlers_of", .glo "blocks_of", .glo "settings_of", .glo "statement_at", .glo "are_apart", .glo "_law_well", .glo "_law_draw", .glo "_law_one", .glo "_law_within", .glo "_law_unknown", .glo "_law_dead", .glo "_law_taken", .glo "law", .glo "Check", .glo "Program", .glo "BARRED", .glo "END", .glo "LEAVE", .glo "SHAPES", .glo "BadProgram", .glo "_law_refusal", .int "LONGEST" 8, .int "MOST_HANDLERS" 3, .free "sum", .free "isinstance", .free "len", .free "int", .free "bool", .free "str", .free "tuple", .free "list", .free "dict", .free "set", .free "range", .free "enumerate", .free "zip", .free "sorted", .free "all", .free "any", .cls "Check", .cls "Program", .noat "Check" "inputs", .noat "Check" "block", .noat "Check" "settings", .noat "Check" "known", .noat "Check" "flow", .noat "Program" "inputs", .noat "Program" "block", .noat "Program" "flow", .noat "Program" "known_before", .noat "Program" "settings", .noat "Program" "kept", .mkr "Check", .mkr "Program", .meth "Check" "block_flow", .meth "Check" "fault", .meth "Check" "sets_again", .meth "Check" "note", .meth "Check" "statement_flow", .meth "Check" "try_flows"]
def AD (K : PySem.W.Frag) : Ad := { cK := ga K "Check", cP := ga K "Program", bar := ga K "BARRED", shp := ga K "SHAPES", eEnd := ga K "END", eLeave := ga K "LEAVE" }
def moreX (K : PySem.W.Frag) : Bool := (oexB K (ga K "BadProgram") && (eqO (PySem.W.findIn K (.ref (ga K "BadProgram")) "place") (some none) && (eqO (PySem.W.findIn K (.ref (ga K "BadProgram")) "why") (some none) && (eqO (PySem.W.findIn K (.ref (ga K "BadProgram")) "__init__") (some (some (.ref (ma K (ga K "BadProgram") "__init__")))) && (decide (PySem.W.typeIn K (.ref (ma K (ga K "BadProgram") "__init__")) = some (.type "function")) && (decide (PySem.W.exmOne K (.ref (ga K "BadProgram")) (.ref (ga K "BadProgram")) = some true) && (xfB K (ga K "BadProgram") && (seqB K (ga K "END") [.str "end"] && (seqB K (ga K "LEAVE") [.str "leave"] && (shpB K (ga K "SHAPES") && true))))))))))
def BX (K : PySem.W.Frag) : Bool := (faX.all fun f => f.ok K) && moreX K
def hfnX : List Hy.DX := [⟨fun K => ga K "either_flow", "either_flow", "either_flow", C8.fnArgs s_either_flow, C8.fnBody s_either_flow, C8.fnScope s_either_flow⟩, ⟨fun K => ga K "without_end", "without_end", "without_end", C8.fnArgs s_without_end, C8.fnBody s_without_end, C8.fnScope s_without_end⟩, ⟨fun K => ga K "simple_flow", "simple_flow", "simple_flow", C8.fnArgs s_simple_flow, C8.fnBody s_simple_flow, C8.fnScope s_simple_flow⟩, ⟨fun K => ga K "loop_flow", "loop_flow", "loop_flow", C8.fnArgs s_loop_flow, C8.fnBody s_loop_flow, C8.fnScope s_loop_flow⟩, ⟨fun K => ga K "first_fit", "first_fit", "first_fit", C8.fnArgs s_first_fit, C8.fnBody s_first_fit, C8.fnScope s_first_fit⟩, ⟨fun K => ga K "try_flow", "try_flow", "try_flow", C8.fnArgs s_try_flow, C8.fnBody s_try_flow, C8.fnScope s_try_flow⟩, ⟨fun K => ga K "is_number", "is_number", "is_number", C8.fnArgs s_is_number, C8.fnBody s_is_number, C8.fnScope s_is_number⟩, ⟨fun K => ga K "is_word", "is_word", "is_word", C8.fnArgs s_is_word, C8.fnBody s_is_word, C8.fnScope s_is_word⟩, ⟨fun K => ga K "is_name", "is_name", "is_name", C8.fnArgs s_is_name, C8.fnBody s_is_name, C8.fnScope s_is_name⟩, ⟨fun K => ga K "are_different", "are_different", "are_different", C8.fnArgs s_are_different, C8.fnBody s_are_different, C8.fnScope s_are_different⟩, ⟨fun K => ga K "are_names", "are_names", "are_names", C8.fnArgs s_are_names, C8.fnBody s_are_names, C8.fnScope s_are_names⟩, ⟨fun K => ga K "is_literal", "is_literal", "is_literal", C8.fnArgs s_is_literal, C8.fnBody s_is_literal, C8.fnScope s_is_literal⟩, ⟨fun K => ga K "is_term", "is_term", "is_term", C8.fnArgs s_is_term, C8.fnBody s_is_term, C8.fnScope s_is_term⟩, ⟨fun K => ga K "is_named_literal", "is_named_literal", "is_named_literal", C8.fnArgs s_is_named_literal, C8.fnBody s_is_named_literal, C8.fnScope s_is_named_literal⟩, ⟨fun K => ga K "is_value", "is_value", "is_value", C8.fnArgs s_is_value, C8.fnBody s_is_value, C8.fnScope s_is_value⟩, ⟨fun K => ga K "is_handler", "is_handler", "is_handler", C8.fnArgs s_is_handler, C8.fnBody s_is_handler, C8.fnScope s_is_handler⟩, ⟨fun K => ga K "is_of_kind", "is_of_kind", "is_of_kind", C8.fnArgs s_is_of_kind, C8.fnBody s_is_of_kind, C8.fnScope s_is_of_kind⟩, ⟨fun K => ga K "has_shape", "has_shape", "has_shape", C8.fnArgs s_has_shape, C8.fnBody s_has_shape, C8.fnScope s_has_shape⟩, ⟨fun K => ga K "terms_of", "terms_of", "terms_of", C8.fnArgs s_terms_of, C8.fnBody s_terms_of, C8.fnScope s_terms_of⟩, ⟨fun K => ga K "handlers_of", "handlers_of", "handlers_of", C8.fnArgs s_handlers_of, C8.fnBody s_handlers_of, C8.fnScope s_handlers_of⟩, ⟨fun K => ga K "blocks_of", "blocks_of", "blocks_of", C8.fnArgs s_blocks_of, C8.fnBody s_blocks_of, C8.fnScope s_blocks_of⟩, ⟨fun K => ga K "settings_of", "settings_of", "settings_of", C8.fnArgs s_settings_of, C8.fnBody s_settings_of, C8.fnScope s_settings_of⟩, ⟨fun K => ga K "statement_at", "statement_at", "statement_at", C8.fnArgs s_statement_at, C8.fnBody s_statement_at, C8.fnScope s_statement_at⟩, ⟨fun K => ga K "are_apart", "are_apart", "are_apart", C8.fnArgs s_are_apart, C8.fnBody s_are_apart, C8.fnScope s_are_apart⟩, ⟨fun K => ga K "_law_well", "_law_well", "_law_well", C8.fnArgs s_l_well, C8.fnBody s_l_well, C8.fnScope s_l_well⟩, ⟨fun K => ga K "_law_draw", "_law_draw", "_law_draw", C8.fnArgs s_l_draw, C8.fnBody s_l_draw, C8.fnScope s_l_draw⟩, ⟨fun K => ga K "_law_one", "_law_one", "_law_one", C8.fnArgs s_l_one, C8.fnBody s_l_one, C8.fnScope s_l_one⟩, ⟨fun K => ga K "_law_within", "_law_within", "_law_within", C8.fnArgs s_l_within, C8.fnBody s_l_within, C8.fnScope s_l_within⟩, ⟨fun K => ga K "_law_unknown", "_law_unknown", "_law_unknown", C8.fnArgs s_l_unknown, C8.fnBody s_l_unknown, C8.fnScope s_l_unknown⟩, ⟨fun K => ga K "_law_dead", "_law_dead", "_law_dead", C8.fnArgs s_l_dead, C8.fnBody s_l_dead, C8.fnScope s_l_dead⟩, ⟨fun K => ga K "_law_taken", "_law_taken", "_law_taken", C8.fnArgs s_l_taken, C8.fnBody s_l_taken, C8.fnScope s_l_taken⟩, ⟨fun K => ga K "law", "law", "law", C8.fnArgs s_law, C8.fnBody s_law, C8.fnScope s_law⟩, ⟨fun K => ma K (ga K "Check") "__init__", "__init__", "Check.__init__", C8.fnArgs s_Check_init, C8.fnBody s_Check_init, C8.fnScope s_Check_init⟩, ⟨fun K => ma K (ga K "Check") "block_flow", "block_flow", "Check.block_flow", C8.fnArgs s_Check_block_flow, C8.fnBody s_Check_block_flow, C8.fnScope s_Check_block_flow⟩, ⟨fun K => ma K (ga K "Check") "fault", "fault", "Check.fault", C8.fnArgs s_Check_fault, C8.fnBody s_Check_fault, C8.fnScope s_Check_fault⟩, ⟨fun K => ma K (ga K "Check") "sets_again", "sets_again", "Check.sets_again", C8.fnArgs s_Check_sets_again, C8.fnBody s_Check_sets_again, C8.fnScope s_Check_sets_again⟩, ⟨fun K => ma K (ga K "Check") "note", "note", "Check.note", C8.fnArgs s_Check_note, C8.fnBody s_Check_note, C8.fnScope s_Check_note⟩, ⟨fun K => ma K (ga K "Check") "statement_flow", "statement_flow", "Check.statement_flow", C8.fnArgs s_Check_statement_flow, C8.fnBody s_Check_statement_flow, C8.fnScope s_Check_statement_flow⟩, ⟨fun K => ma K (ga K "Check") "try_flows", "try_flows", "Check.try_flows", C8.fnArgs s_Check_try_flows, C8.fnBody s_Check_try_flows, C8.fnScope s_Check_try_flows⟩, ⟨fun K => ma K (ga K "Program") "__init__", "__init__", "Program.__init__", C8.fnArgs s_Program_init, C8.fnBody s_Program_init, C8.fnScope s_Program_init⟩, ⟨fun K => ma K (ga K "BadProgram") "__init__", "__init__", "BadProgram.__init__", C8.fnArgs s_BadProgram_init, C8.fnBody s_BadProgram_init, C8.fnScope s_BadProgram_init⟩, ⟨fun K => ga K "_law_refusal", "_law_refusal", "_law_refusal", C8.fnArgs s_l_refusal, C8.fnBody s_l_refusal, C8.fnScope s_l_refusal⟩]
def tsX : List Tab := [(fun K => ga K "BARRED", barredW), (fun K => ga K "SHAPES", (shapes.map (·.1)))]
end K17

set_option maxHeartbeats 0
namespace K17
open PySem PySem.W PySem.Calls PyProof.Rows
def nm0 : List PySem.Str := ["__name__", "BehindError", "BadProgram", "NoPlace", "END", "LEAVE", "either_flow", "without_end", "simple_flow", "loop_flow", "first_fit", "try_flow", "LONGEST", "BARRED", "is_number", "is_word", "is_name", "are_different", "are_names", "is_literal"]
def nm1 : List PySem.Str := ["is_term", "is_named_literal", "is_value", "SHAPES", "MOST_HANDLERS", "has_shape", "is_of_kind", "is_handler", "terms_of", "handlers_of", "blocks_of", "settings_of", "statement_at", "places_in", "Check", "are_apart", "Program", "_law_well", "_law_draw", "_law_one"]
def nm2 : List PySem.Str := ["_law_refusal", "_law_unknown", "_law_dead", "_law_taken", "_law_within"]
abbrev nms : List PySem.Str := nm0 ++ nm1 ++ nm2
abbrev R : PySem.W.OpenRow := PySem.W.OpenLaw.row PySem.Challenge.rw_behindexits_k17_known_and_dead_by_hand
abbrev hkX : PySem.W.Hook := Hy.hookY BX hfnX tsX
def obX (s : PySem.W.SharedT) : Hy.AlY := Hy.obsYG BX hfnX tsX (HandSHeadRun.getT s)
theorem obX_eq (s : PySem.W.SharedT) : obX s = hkX.obs s.abs := Hy.obsYG_eq (HandSHeadRun.getT_eq s)
abbrev RunX (w : World) : Prop := HandSHeadRun.RunEq R (PySem.W.view R.prog [51]) hkX obX 8000 nms w
theorem runF (w : World) : RunX (w.withFollow "special-get-raises" false) := by
  intro os
  kernel_rfl
theorem runT (w : World) : RunX (w.withFollow "special-get-raises" true) := by
  intro os
  kernel_rfl
theorem run (w : World) : RunX w := byRow2 "special-get-raises" (P := RunX) runF runT w
end K17

namespace K17
open PySem L2 Bx Tk Pm
section
variable {P : Program} {w : World} {K : PySem.W.Frag} {mg : Str → Option Value} {base : Heap} {ad : Ad}
def spEither (P : Program) (w : World) (K : PySem.W.Frag) : Sp := fun vs H Q _ => ∃ (x y : Addr) (f g : Fw) (W : List Way), vs = [.ref x, .ref y] ∧ FwAt P w K H x f ∧ FwAt P w K H y g ∧ Okf W f ∧ Okf W g ∧ W.length ≤ 100000 ∧
  ∀ H' fl, Same H H' → H fl = none → FwAt P w K H' fl (eitherF f g) → Q (.ref fl) H'
theorem ok_either_flow {f : Addr} {fd : FuncData} (F : C8.Def K mg "either_flow" s_either_flow f fd) (b : Binds K fd ["one", "other"] []) (T : Txt K mg ad) : C8.Cal P w K mg base 1 "either_flow" (spEither P w K) [] := by
  refine C8.cal0 F b .nil sc_either_flow (fun vs H Q E h => ?_) (fun cdv A outer s H vs Q E hr h => ?_)
  · obtain ⟨x, y, f, g, W, rfl, _⟩ := h
    rfl
  · obtain ⟨x, y, f, g, W, rfl, hx, hy, of, og, hW, k⟩ := h
    have hu := hu_of hr
    refine ⟨_, (pss_cons (ps_lock (Tk.ps_setDcT P w K (i := 2) hu (own := [("way", 3)]) rfl sc_either_flow.nd rfl rfl (Tk.sw_trueD rfl rfl rfl (by decide +kernel)) (Tk.pi_tkeys P w (pv 0)) (blkOk_by (own := [("way", 3)]) (N := N_either_flow) (sc := C8.fnScope s_either_flow) (by decide +kernel)) (fun _ _ _ _ _ => (pg_name (i := 3) sc_either_flow.nd rfl (Or.inl rfl))) (fun _ _ _ _ _ => pts_nil) (fun _ _ _ _ _ => (pv 3)) (fun _ _ _ _ _ => (Tk.pe_tget P w K hu (pv 0) (pv 3) (fun _ _ => rfl)))))
    (pss_cons (ps_lock (ps_for PassesOwn.never rfl (Tk.pi_tkeys P w (pv 1)) (pg_name (i := 3) sc_either_flow.nd rfl (Or.inr rfl))
    (pss_one (ps_if (pt_cmp (Tk.pc_tin P w K hu (pv 3) (pv 2))) (pss_one (Tk.ps_tput P w K hu (pv 2) (pv 3) (pe_callTy call_tuple_of (by rfl) T.z_tuple (by decide +kernel) (pa_cons (pe_lc (own := [("name", 4)]) (g := gName 4) rfl sc_either_flow.nd ((piTK K) (Tk.pe_tget P w K hu (pv 2) (pv 3) (fun _ _ => rfl))) (blkOk_by (own := [("name", 4)]) (N := N_either_flow) (sc := C8.fnScope s_either_flow) (by decide +kernel)) (fun _ _ _ _ _ => (pg_name (i := 4) sc_either_flow.nd rfl (Or.inl rfl))) (fun _ _ _ _ _ => (pts_one (pt_cmpR (inK K) (pv 4) (Tk.pe_tget P w K hu (pv 1) (pv 3) (fun _ _ => rfl)) (by rfl)))) (fun _ _ _ _ _ => (pv 4))) pa_nil)) rfl)) (pss_one (Tk.ps_tput P w K hu (pv 2) (pv 3) (Tk.pe_tget P w K hu (pv 1) (pv 3) (fun _ _ => rfl)) rfl))))))
    (pss_one (ps_ret (pv 2))))), ?_⟩
    obtain ⟨es, ex, el, ek, eg, ekv⟩ := hx.ents
    obtain ⟨es2, ey, el2, ek2, eg2, ekv2⟩ := hy.ents
    have nx : es.length = f.length := el
    have stx : ∀ od b ks, SqT K H b ks → SqT K (upd H x (.frz od (TO P w x es))) b ks := fun od b ks z => sq_to ex z
    -- the copy
    refine ⟨x, _, ex, trivial, fun od => ?_⟩
    refine ⟨_, rfl, x, od, es, rfl, upd_same, fun D nD => dc_w walk_Itw (fun i H' => FwAt P w K H' D (f.take i) ∧ But D (upd H x (.frz od (TO P w x es))) H') ?_ ?_ ?_ ?_⟩
    · exact ⟨FwAt.new, fun a u ha n => by rw [upd_ne n]; exact ha⟩
    · rintro i H1 _ ⟨_, bt⟩
      exact bt x _ upd_same (ne_of_none upd_same nD)
    · rintro i v H1 H2 hi ⟨fw, bt⟩ ⟨rfl, e, he, rfl⟩
      obtain ⟨p, hp, hk⟩ := ek i e he
      have hk1 : SqT K H2 e.2.1 (p.1.map V.str) := but_sqN nD bt (stx od _ _ hk)
      obtain ⟨c, g1, hc⟩ := eg H2 od (fun b ks z => but_sqN nD bt (stx od b ks z)) (bt x _ upd_same (ne_of_none upd_same nD)) i p e.2.1 hp hk1
      refine ⟨rfl, ?_⟩
      refine puts_yes ?_
      refine ⟨_, rfl, _, rfl, _, rfl, x, _, rfl, g1, ?_⟩
      refine FwAt.put fw hk1 hc (of.take i).i (Nat.lt_of_le_of_lt hW (by decide)) fun es' fw2 st2 => ⟨?_, but_upd bt⟩
      rw [put_take hx.nd hp] at fw2
      exact fw2
    · rintro H1 ⟨fw, bt⟩
      rw [nx, List.take_length] at fw
      have exl : H1 x = some (.frz od (TO P w x es)) := bt x _ upd_same (ne_of_none upd_same nD)
      have nD0 : H D = none := by
        have z := nD
        rwa [upd_ne fun z => (by rw [z, upd_same] at nD; cases nD)] at z
      have Dx : D ≠ x := fun z => (by rw [z, upd_same] at nD; cases nD)
      refine ⟨exl, ?_⟩
      have S1 : Same H (upd H1 x (TO P w x es)) := same_lock ex nD0 bt
      have fw1 : FwAt P w K (upd H1 x (TO P w x es)) D f := fw.mono (upd_ne Dx) fun b ks z => unlock_sq exl z
      generalize upd H1 x (TO P w x es) = H2 at S1 fw1
      clear fw bt exl H1
      -- the loop
      have ey2 : H2 y = some (TO P w y es2) := S1 _ _ ey
      have Dy : y ≠ D := ne_of_none ey nD0
      refine ⟨y, _, ey2, trivial, fun od2 => ?_⟩
      refine ⟨_, rfl, y, od2, es2, rfl, upd_same, for_it walk_Itw (fun i σ H' => (∃ v3 v4, σ = [some (.ref x), some (.ref y), some (.ref D), v3, v4]) ∧ FwAt P w K H' D (eitherF f (g.take i)) ∧ But D (upd H2 y (.frz od2 (TO P w y es2))) H') ?_ ?_ ?_ ?_⟩
      · exact ⟨⟨_, _, rfl⟩, fw1.mono (upd_ne (Ne.symm Dy)) fun b ks z => sq_to ey2 z, but_same (Same.refl _)⟩
      · rintro i σ H' _ ⟨_, _, bt⟩
        exact bt y _ upd_same Dy
      · rintro i v σ H3 H4 hi ⟨⟨v3, v4, rfl⟩, fw, bt⟩ ⟨rfl, e, he, rfl⟩
        have eyl : H4 y = some (.frz od2 (TO P w y es2)) := bt y _ upd_same Dy
        have st0 : ∀ b ks, SqT K H b ks → SqT K H2 b ks := fun b ks z => Same.seqT S1 z
        have eDl : upd H2 y (.frz od2 (TO P w y es2)) D = H2 D := upd_ne (Ne.symm Dy)
        have st : ∀ b ks, SqT K H b ks → SqT K H4 b ks := fun b ks z => by
          obtain ⟨_, kvs1, ⟨es1, e1, _⟩, _⟩ := fw1
          exact but_sq (eDl.trans e1) bt (sq_to ey2 (st0 _ _ z))
        obtain ⟨p, hp, hk⟩ := ek2 i e he
        have hk1 := st _ _ hk
        obtain ⟨c, g1, hc⟩ := eg2 H4 od2 st eyl i p e.2.1 hp hk1
        have hpm := List.mem_of_getElem? hp
        have okA := of.either (og.take i)
        obtain ⟨o, g0, e0⟩ := fw.isSome hk1
        have hnx : ∀ H5, But D H4 H5 → ∀ es', FwAt P w K (upd H5 D (TO P w D es')) D (eitherStep (eitherF f (g.take i)) p) → (∃ x3 x4, [some (V.ref x), some (V.ref y), some (V.ref D), some (V.ref e.2.1), v4] = [some (.ref x), some (.ref y), some (.ref D), x3, x4]) ∧ FwAt P w K (upd H5 D (TO P w D es')) D (eitherF f (g.take (i + 1))) ∧ But D (upd H2 y (.frz od2 (TO P w y es2))) (upd H5 D (TO P w D es')) := fun H5 b5 es' fz => ⟨⟨_, _, rfl⟩, by rw [take_snoc hp, either_snoc]; exact fz, but_upd (but_trans bt b5)⟩
        refine ⟨_, rfl, _, rfl, D, o, rfl, g0, _, rfl, ?_⟩
        rw [e0]
        cases eg0 : getF (eitherF f (g.take i)) p.1 with
        | none =>
          refine iteF ?_
          refine ⟨_, rfl, _, rfl, y, _, rfl, g1, _, rfl, _, rfl, D, rfl, ?_⟩
          refine FwAt.put fw hk1 hc okA.i (Nat.lt_of_le_of_lt hW (by decide)) fun es' fw2 st2 => hnx H4 (but_same (Same.refl _)) es' ?_
          unfold eitherStep
          rw [eg0]
          exact fw2
        | some old =>
          refine iteT ?_
          obtain ⟨c0, g2, hc0⟩ := fw.some_ hk1 eg0
          have l1 : old.length ≤ 1000 := okA.n _ (getF_names eg0)
          refine ⟨_, rfl, _, rfl, D, _, rfl, g2, c0, rfl, ⟨_, hc0⟩, fun L nL => lc_tup (xs := old.map V.str) (fun j H' => Same H4 H' ∧ H' L = some (.lst (((old.take j).filter fun x => decide (x ∈ p.2)).map V.str))) ⟨Same.new nL, upd_same⟩ (fun j H' _ h => Same.seqT h.1 hc0) ?_ ?_⟩
          · rintro j x' H5 hx5 ⟨S5, h5⟩
            rw [List.getElem?_map] at hx5
            obtain ⟨z, hz, rfl⟩ := Option.map_eq_some_iff.mp hx5
            have hj := (List.getElem?_eq_some_iff.mp hz).1
            obtain ⟨c5, g5, hc5⟩ := eg2 H5 od2 (fun b ks q => Same.seqT S5 (st b ks q)) (S5 _ _ eyl) i p e.2.1 hp (Same.seqT S5 hk1)
            refine ⟨rfl, ?_⟩
            refine ⟨_, rfl, _, rfl, _, rfl, y, _, rfl, g5, c5, _, rfl, .inr hc5, rfl, Pm.flat_strs _, _, rfl, ?_⟩
            rw [inV_strs, take_snoc hz, List.filter_append]
            by_cases m : z ∈ p.2
            · rw [decide_eq_true m]
              refine iteT ⟨_, rfl, _, h5, szw ?_, Same.mut S5 nL, ?_⟩
              · rw [List.length_map]
                have := List.length_filter_le (fun x => decide (x ∈ p.2)) (old.take j)
                have := List.length_take_le j old
                omega
              · rw [upd_same]
                simp [m]
            · rw [decide_eq_false m]
              refine iteF ⟨S5, ?_⟩
              rw [h5]
              simp [m]
          · rintro H5 ⟨S5, h5⟩
            rw [List.length_map, List.take_length] at h5
            refine ⟨L, _, rfl, .inl ⟨SqL.of h5, fun t nt => ?_⟩⟩
            have S6 : Same H4 (upd H5 t (.tup ((old.filter fun x => decide (x ∈ p.2)).map V.str))) := Same.mut S5 (Same.free S5 nt)
            refine ⟨_, rfl, _, rfl, D, rfl, ?_⟩
            refine FwAt.put (fw.same S6) (Same.seqT S6 hk1) (SqT.of upd_same) okA.i (Nat.lt_of_le_of_lt hW (by decide)) fun es' fw2 st2 => hnx _ (but_same S6) es' ?_
            unfold eitherStep
            rw [eg0]
            exact fw2
      · rintro σ H3 ⟨⟨v3, v4, rfl⟩, fw, bt⟩
        have eyl : H3 y = some (.frz od2 (TO P w y es2)) := bt y _ upd_same Dy
        refine ⟨eyl, _, rfl, ?_⟩
        rw [el2, List.take_length] at fw
        refine k _ _ (fun a u ha => ?_) nD0 (fw.mono (upd_ne (Ne.symm Dy)) fun b ks z => unlock_sq eyl z)
        by_cases e : a = y
        · subst e
          rw [upd_same, ← ey, ha]
        · rw [upd_ne e]
          exact bt a u (by rw [upd_ne e]; exact S1 _ _ ha) (ne_of_none ha nD0)
end
end K17

namespace K17
open PySem L2 Bx Tk Pm
section
variable {P : Program} {w : World} {K : PySem.W.Frag} {mg : Str → Option Value} {base : Heap} {ad : Ad}
def spWithout (P : Program) (w : World) (K : PySem.W.Frag) : Sp := fun vs H Q _ => ∃ (x : Addr) (f : Fw) (W : List Way), vs = [.ref x] ∧ FwAt P w K H x f ∧ Okf W f ∧ WOk W ∧ ∀ H' fl, Same H H' → H fl = none → FwAt P w K H' fl (withoutEnd f) → Q (.ref fl) H'
theorem ok_without_end {f : Addr} {fd : FuncData} (F : C8.Def K mg "without_end" s_without_end f fd) (b : Binds K fd ["flow"] []) (T : Txt K mg ad) : C8.Cal P w K mg base 1 "without_end" (spWithout P w K) [] := by
  refine C8.cal0 F b .nil sc_without_end (fun vs H Q E h => ?_) (fun cdv A outer s H vs Q E hr h => ?_)
  · obtain ⟨x, f, W, rfl, _⟩ := h
    rfl
  · obtain ⟨x, f, W, rfl, hx, of, hW, k⟩ := h
    have hu := hu_of hr
    refine ⟨_, (pss_one (ps_ret (pe_lock (Tk.pe_tdc P w K hu (own := [("way", 1)]) rfl sc_without_end.nd (Tk.pi_tkeys P w (pv 0)) (blkOk_by (own := [("way", 1)]) (N := N_without_end) (sc := C8.fnScope s_without_end) (by decide +kernel)) (fun _ _ _ _ _ => (pg_name (i := 1) sc_without_end.nd rfl (Or.inl rfl))) (fun _ _ _ _ _ => (pts_one (pt_cmpR (neDK K hr) (pv 1) (C8.pe_gc (by rfl) T.c_END) (nomark _)))) (fun _ _ _ _ _ => (pv 1)) (fun _ _ _ _ _ => (Tk.pe_tget P w K hu (pv 0) (pv 1) (fun _ _ => rfl))))))), ?_⟩
    obtain ⟨es, ex, el, ek, eg, ekv⟩ := hx.ents
    have stx : ∀ od b ks, SqT K H b ks → SqT K (upd H x (.frz od (TO P w x es))) b ks := fun od b ks z => sq_to ex z
    refine ⟨x, _, ex, trivial, fun od => ?_⟩
    refine ⟨_, rfl, x, od, es, rfl, upd_same, fun D nD => dc_w walk_Itw (fun i H' => FwAt P w K H' D (withoutEnd (f.take i)) ∧ But D (upd H x (.frz od (TO P w x es))) H') ?_ ?_ ?_ ?_⟩
    · exact ⟨FwAt.new, fun a u ha n => by rw [upd_ne n]; exact ha⟩
    · rintro i H1 _ ⟨_, bt⟩
      exact bt x _ upd_same (ne_of_none upd_same nD)
    · rintro i v H1 H2 hi ⟨fw, bt⟩ ⟨rfl, e, he, rfl⟩
      obtain ⟨p, hp, hk⟩ := ek i e he
      have hk1 : SqT K H2 e.2.1 (p.1.map V.str) := but_sqN nD bt (stx od _ _ hk)
      obtain ⟨c, g1, hc⟩ := eg H2 od (fun b ks z => but_sqN nD bt (stx od b ks z)) (bt x _ upd_same (ne_of_none upd_same nD)) i p e.2.1 hp hk1
      have hpW : p.1 ∈ W := of.i _ (List.mem_map_of_mem (List.mem_of_getElem? hp))
      refine ⟨rfl, ?_⟩
      refine ⟨_, rfl, _, _, dp_way hk1, dp_way (k := END) (T.tEnd _), shaped_way (hW.s _ hpW), by decide +kernel, _, rfl, ?_⟩
      rw [eqv_way]
      by_cases m : p.1 = END
      · refine iteFe (by rw [decide_eq_true m]; rfl) ⟨?_, bt⟩
        have e2 : withoutEnd (f.take (i + 1)) = withoutEnd (f.take i) := by
          unfold withoutEnd
          rw [take_snoc hp, List.filter_append]
          simp [m]
        rw [e2]
        exact fw
      · refine iteTe (by rw [decide_eq_false m]; rfl) ⟨_, rfl, _, rfl, _, rfl, x, _, rfl, g1, ?_⟩
        refine FwAt.put fw hk1 hc ((of.take i).filter _).i hW.lt fun es' fw2 st2 => ⟨?_, but_upd bt⟩
        have e2 : Pm.putF (withoutEnd (f.take i)) p.1 p.2 = withoutEnd (f.take (i + 1)) := by
          have e3 : withoutEnd (f.take (i + 1)) = withoutEnd (f.take i) ++ [p] := by
            unfold withoutEnd
            rw [take_snoc hp, List.filter_append]
            simp [m]
          rw [e3]
          have e4 := put_take hx.nd hp
          rw [take_snoc hp] at e4
          have n : (f.take i).any (fun q => decide (q.1 = p.1)) = false := by
            cases c : (f.take i).any (fun q => decide (q.1 = p.1)) with
            | false => rfl
            | true =>
              unfold Pm.putF at e4
              rw [if_pos c] at e4
              have := congrArg List.length e4
              simp at this
          have n2 : (withoutEnd (f.take i)).any (fun q => decide (q.1 = p.1)) = false := by
            rw [List.any_eq_false] at n ⊢
            exact fun q hq => n q (List.mem_filter.mp hq).1
          unfold Pm.putF
          rw [if_neg (by rw [n2]; exact Bool.false_ne_true)]
        rw [e2] at fw2
        exact fw2
    · rintro H1 ⟨fw, bt⟩
      rw [el, List.take_length] at fw
      have exl : H1 x = some (.frz od (TO P w x es)) := bt x _ upd_same (ne_of_none upd_same nD)
      have Dx : D ≠ x := fun z => (by rw [z, upd_same] at nD; cases nD)
      have nD0 : H D = none := by
        have z := nD
        rwa [upd_ne Dx] at z
      exact ⟨exl, k _ _ (same_lock ex nD0 bt) nD0 (fw.mono (upd_ne Dx) fun b ks z => unlock_sq exl z)⟩
end
end K17

namespace K17
open PySem L2 Bx Tk Pm
section
variable {P : Program} {w : World} {K : PySem.W.Frag} {mg : Str → Option Value} {base : Heap} {ad : Ad}
/-- the flow of a statement without blocks -/
def spSimple (P : Program) (w : World) (K : PySem.W.Frag) : Sp := fun vs H Q _ => ∃ (v : V) (kn : Addr) (s : Sm) (known : Pm.Names), vs = [v, .ref kn] ∧ Dp K H v (encS s) ∧ blocksOf s = [] ∧ hasShape s = true ∧ SqT K H kn (known.map V.str) ∧ known.length ≤ 900 ∧
  ∀ H' fl, Same H H' → H fl = none → FwAt P w K H' fl (simpleF s known) → Q (.ref fl) H'
theorem new_sq {K : PySem.W.Frag} {H : Hp} {p b : Addr} {o : HO} {ks : List V} (n : H p = none) (h : SqT K H b ks) : SqT K (upd H p o) b ks := Same.seqT (Same.new n) h
theorem ok_simple_flow {f : Addr} {fd : FuncData} (F : C8.Def K mg "simple_flow" s_simple_flow f fd) (b : Binds K fd ["statement", "known"] []) (T : Txt K mg ad) : C8.Cal P w K mg base 1 "simple_flow" (spSimple P w K) [] := by
  refine C8.cal0 F b .nil sc_simple_flow (fun vs H Q E h => ?_) (fun cdv A outer s H vs Q E hr h => ?_)
  · obtain ⟨v, kn, s, known, rfl, _⟩ := h
    rfl
  · obtain ⟨v, kn, st, known, rfl, hv, hb, hsh, hk, hl, k⟩ := h
    have hu := hu_of hr
    have t0 : (0 : Nat) ≤ sizeLine := by decide
    have t1 : (1 : Nat) ≤ sizeLine := by decide
    have t2 : (2 : Nat) ≤ sizeLine := by decide
    refine ⟨_, (pss_cons (ps_set (i := 2) sc_simple_flow.nd rfl (Or.inl rfl) (pe_ix ix_tup (pv 0) pe_int (fun _ _ => rfl)))
    (pss_cons (ps_if (pt_cmpR op_in_seq (pv 2) (pe_tup (pa_cons pe_str (pa_cons pe_str pa_nil))) (by rfl)) (pss_one (ps_ret (Tk.pe_tdisp P w K hu (pps_cons (C8.pe_gc (by rfl) T.c_END) (pe_op op_catA (pv 1) (pe_tup (pa_cons (pe_ix ix_tup (pv 0) pe_int (fun _ _ => rfl)) pa_nil))) pps_nil) (by rfl) (by rfl) (fun z => by cases z) (by decide)))) pss_nil)
    (pss_cons (ps_if (pt_cmpR op_eq (pv 2) pe_str (nomark _)) (pss_one (ps_ret (Tk.pe_tdisp P w K hu (pps_cons (C8.pe_gc (by rfl) T.c_END) (pv 1) (pps_cons (pe_tup (pa_cons pe_str (pa_cons (pe_ix ix_tup (pv 0) pe_int (fun _ _ => rfl)) pa_nil))) (pe_tup pa_nil) pps_nil)) (by rfl) (by rfl) (fun z => by cases z) (by decide)))) pss_nil)
    (pss_cons (ps_if (pt_cmpR op_eq (pv 2) pe_str (nomark _)) (pss_one (ps_ret (Tk.pe_tdisp P w K hu (pps_cons (pe_tup (pa_cons pe_str (pa_cons (pe_ix ix_tup (pv 0) pe_int (fun _ _ => rfl)) pa_nil))) (pe_tup pa_nil) pps_nil) (by rfl) (by rfl) (fun z => by cases z) (by decide)))) pss_nil)
    (pss_one (ps_ret (Tk.pe_tdisp P w K hu (pps_cons (pv 0) (pv 1) pps_nil) (by rfl) (by rfl) (fun z => by cases z) (by decide)))))))), ?_⟩
    cases st with
    | set x t n =>
      obtain ⟨a, y, rfl, ha, _⟩ := st_set hv
      refine ⟨_, rfl, a, _, _, _, rfl, rfl, ha, rfl, ?_⟩
      refine ⟨_, rfl, t2, fun t nt => ⟨t, _, rfl, .inr (SqT.of upd_same), rfl, rfl, _, rfl, iteTe (by decide +kernel) ?_⟩⟩
      have S1 : Same H (upd H t (.tup [.str "set", .str "read"])) := Same.new nt
      generalize upd H t (.tup [.str "set", .str "read"]) = H1 at S1
      have ha1 := Same.seqT S1 ha
      have hk1 := Same.seqT S1 hk
      refine fun p np => ⟨_, rfl, ⟨_, rfl, a, _, _, _, rfl, rfl, new_sq np ha1, rfl, ?_⟩⟩
      refine ⟨t1, fun u nu => ?_⟩
      have S2 : Same (upd H1 p (TO P w p [])) (upd (upd H1 p (TO P w p [])) u (.tup [.str x])) := Same.new nu
      have up : u ≠ p := fun z => (by rw [z, upd_same] at nu; cases nu)
      have fin : ∀ H2 c, Same (upd (upd H1 p (TO P w p [])) u (.tup [.str x])) H2 → SqT K H2 c ((known ++ [x]).map V.str) → TPut P w K H2 p (.ref ad.eEnd) (.ref c) (Q (.ref p)) := fun H2 c S3 hc => by
        have e2 : H2 p = some (TO P w p []) := S3 _ _ (S2 _ _ upd_same)
        refine FwAt.one ((FwAt.new (K := K) (H := H1)).same (S2.trans S3)) (T.tEnd _) hc fun es fw _ => k _ _ (fun b u hb => ?_) (Same.free S1 np) fw
        rw [upd_ne fun z => (by rw [z, Same.free S1 np] at hb; cases hb)]
        exact S3 _ _ (S2 _ _ (by rw [upd_ne fun z => (by rw [z, Same.free S1 np] at hb; cases hb)]; exact S1 _ _ hb))
      refine ⟨kn, u, _, _, rfl, rfl, Same.seqT S2 (new_sq np hk1), SqT.of upd_same, szl (by rw [List.length_map]; show known.length + 1 ≤ _; omega), fun e => ?_, fun _ e => ?_, fun _ _ q nq => ?_⟩
      · have e0 : known = [] := List.map_eq_nil_iff.mp e
        exact fin _ u (Same.refl _) (by rw [e0]; exact SqT.of upd_same)
      · cases e
      · refine fin _ q (Same.new nq) ?_
        rw [List.map_append]
        exact SqT.of upd_same
    | read x =>
      obtain ⟨a, rfl, ha⟩ := st_read hv
      refine ⟨_, rfl, a, _, _, _, rfl, rfl, ha, rfl, ?_⟩
      refine ⟨_, rfl, t2, fun t nt => ⟨t, _, rfl, .inr (SqT.of upd_same), rfl, rfl, _, rfl, iteTe (by decide +kernel) ?_⟩⟩
      have S1 : Same H (upd H t (.tup [.str "set", .str "read"])) := Same.new nt
      generalize upd H t (.tup [.str "set", .str "read"]) = H1 at S1
      have ha1 := Same.seqT S1 ha
      have hk1 := Same.seqT S1 hk
      refine fun p np => ⟨_, rfl, ⟨_, rfl, a, _, _, _, rfl, rfl, new_sq np ha1, rfl, ?_⟩⟩
      refine ⟨t1, fun u nu => ?_⟩
      have S2 : Same (upd H1 p (TO P w p [])) (upd (upd H1 p (TO P w p [])) u (.tup [.str x])) := Same.new nu
      have up : u ≠ p := fun z => (by rw [z, upd_same] at nu; cases nu)
      have fin : ∀ H2 c, Same (upd (upd H1 p (TO P w p [])) u (.tup [.str x])) H2 → SqT K H2 c ((known ++ [x]).map V.str) → TPut P w K H2 p (.ref ad.eEnd) (.ref c) (Q (.ref p)) := fun H2 c S3 hc => by
        have e2 : H2 p = some (TO P w p []) := S3 _ _ (S2 _ _ upd_same)
        refine FwAt.one ((FwAt.new (K := K) (H := H1)).same (S2.trans S3)) (T.tEnd _) hc fun es fw _ => k _ _ (fun b u hb => ?_) (Same.free S1 np) fw
        rw [upd_ne fun z => (by rw [z, Same.free S1 np] at hb; cases hb)]
        exact S3 _ _ (S2 _ _ (by rw [upd_ne fun z => (by rw [z, Same.free S1 np] at hb; cases hb)]; exact S1 _ _ hb))
      refine ⟨kn, u, _, _, rfl, rfl, Same.seqT S2 (new_sq np hk1), SqT.of upd_same, szl (by rw [List.length_map]; show known.length + 1 ≤ _; omega), fun e => ?_, fun _ e => ?_, fun _ _ q nq => ?_⟩
      · have e0 : known = [] := List.map_eq_nil_iff.mp e
        exact fin _ u (Same.refl _) (by rw [e0]; exact SqT.of upd_same)
      · cases e
      · refine fin _ q (Same.new nq) ?_
        rw [List.map_append]
        exact SqT.of upd_same
    | ask l r n kd =>
      obtain ⟨a, y, rfl, ha, _⟩ := st_ask hv
      refine ⟨_, rfl, a, _, _, _, rfl, rfl, ha, rfl, ?_⟩
      refine ⟨_, rfl, t2, fun t nt => ⟨t, _, rfl, .inr (SqT.of upd_same), rfl, rfl, _, rfl, iteFe (by decide +kernel) ?_⟩⟩
      have S1 : Same H (upd H t (.tup [.str "set", .str "read"])) := Same.new nt
      generalize upd H t (.tup [.str "set", .str "read"]) = H1 at S1
      have ha1 := Same.seqT S1 ha
      have hk1 := Same.seqT S1 hk
      refine ⟨_, rfl, rfl, _, rfl, iteTe (by decide +kernel) ?_⟩
      refine fun p np => ⟨_, rfl, ⟨_, rfl, a, _, _, _, rfl, rfl, new_sq np ha1, rfl, ?_⟩⟩
      refine ⟨t2, fun u nu => ⟨t0, fun z nz => ?_⟩⟩
      have S2 : Same (upd H1 p (TO P w p [])) (upd (upd H1 p (TO P w p [])) u (.tup [.str "raise", .str kd])) := Same.new nu
      have S3 := S2.trans (Same.new (o := .tup []) nz)
      have hz : SqT K (upd (upd (upd H1 p (TO P w p [])) u (.tup [.str "raise", .str kd])) z (.tup [])) z (([] : Pm.Names).map V.str) := SqT.of upd_same
      have hu2 : SqT K (upd (upd (upd H1 p (TO P w p [])) u (.tup [.str "raise", .str kd])) z (.tup [])) u ((["raise", kd] : Way).map V.str) := new_sq nz (SqT.of upd_same)
      generalize upd (upd (upd H1 p (TO P w p [])) u (.tup [.str "raise", .str kd])) z (.tup []) = H2 at S3 hz hu2
      refine FwAt.one (k := END) (v := known) ((FwAt.new (K := K) (H := H1)).same S3) (T.tEnd _) (Same.seqT S3 (new_sq np hk1)) fun es fw st => ?_
      refine FwAt.put (W := [END]) fw (st _ _ hu2) (st _ _ hz) (in_one (by simp)) (by decide) fun es2 fw2 _ => k _ _ (fun b u hb => ?_) (Same.free S1 np) fw2
      have bp : b ≠ p := fun z => (by rw [z, Same.free S1 np] at hb; cases hb)
      rw [upd_ne bp, upd_ne bp]
      exact S3 _ _ (by rw [upd_ne bp]; exact S1 _ _ hb)
    | raise kd t n =>
      obtain ⟨a, y, rfl, ha, _⟩ := st_raise hv
      refine ⟨_, rfl, a, _, _, _, rfl, rfl, ha, rfl, ?_⟩
      refine ⟨_, rfl, t2, fun t nt => ⟨t, _, rfl, .inr (SqT.of upd_same), rfl, rfl, _, rfl, iteFe (by decide +kernel) ?_⟩⟩
      have S1 : Same H (upd H t (.tup [.str "set", .str "read"])) := Same.new nt
      generalize upd H t (.tup [.str "set", .str "read"]) = H1 at S1
      have ha1 := Same.seqT S1 ha
      have hk1 := Same.seqT S1 hk
      refine ⟨_, rfl, rfl, _, rfl, iteFe (by decide +kernel) ?_⟩
      refine ⟨_, rfl, rfl, _, rfl, iteTe (by decide +kernel) ?_⟩
      refine fun p np => ⟨_, rfl, a, _, _, _, rfl, rfl, new_sq np ha1, rfl, ?_⟩
      refine ⟨t2, fun u nu => ⟨t0, fun z nz => ?_⟩⟩
      have S2 : Same (upd H1 p (TO P w p [])) (upd (upd H1 p (TO P w p [])) u (.tup [.str "raise", .str kd])) := Same.new nu
      have S3 := S2.trans (Same.new (o := .tup []) nz)
      have hz : SqT K (upd (upd (upd H1 p (TO P w p [])) u (.tup [.str "raise", .str kd])) z (.tup [])) z (([] : Pm.Names).map V.str) := SqT.of upd_same
      have hu2 : SqT K (upd (upd (upd H1 p (TO P w p [])) u (.tup [.str "raise", .str kd])) z (.tup [])) u ((["raise", kd] : Way).map V.str) := new_sq nz (SqT.of upd_same)
      generalize upd (upd (upd H1 p (TO P w p [])) u (.tup [.str "raise", .str kd])) z (.tup []) = H2 at S3 hz hu2
      refine FwAt.one ((FwAt.new (K := K) (H := H1)).same S3) hu2 hz fun es fw st => k _ _ (fun b u hb => ?_) (Same.free S1 np) fw
      have bp : b ≠ p := fun z => (by rw [z, Same.free S1 np] at hb; cases hb)
      rw [upd_ne bp]
      exact S3 _ _ (by rw [upd_ne bp]; exact S1 _ _ hb)
    | out x =>
      obtain ⟨a, rfl, ha⟩ := st_out hv
      refine ⟨_, rfl, a, _, _, _, rfl, rfl, ha, rfl, ?_⟩
      refine ⟨_, rfl, t2, fun t nt => ⟨t, _, rfl, .inr (SqT.of upd_same), rfl, rfl, _, rfl, iteFe (by decide +kernel) ?_⟩⟩
      have S1 : Same H (upd H t (.tup [.str "set", .str "read"])) := Same.new nt
      generalize upd H t (.tup [.str "set", .str "read"]) = H1 at S1
      have ha1 := Same.seqT S1 ha
      have hk1 := Same.seqT S1 hk
      refine ⟨_, rfl, rfl, _, rfl, iteFe (by decide +kernel) ?_⟩
      refine ⟨_, rfl, rfl, _, rfl, iteFe (by decide +kernel) ?_⟩
      refine fun p np => ⟨_, rfl, _, rfl, ?_⟩
      refine FwAt.one (k := (["out", x] : Way)) FwAt.new (new_sq np ha1) (new_sq np hk1) fun es fw st => k _ _ (fun b u hb => ?_) (Same.free S1 np) fw
      have bp : b ≠ p := fun z => (by rw [z, Same.free S1 np] at hb; cases hb)
      rw [upd_ne bp, upd_ne bp]
      exact S1 _ _ hb
    | leave  =>
      obtain ⟨a, rfl, ha⟩ := st_leave hv
      refine ⟨_, rfl, a, _, _, _, rfl, rfl, ha, rfl, ?_⟩
      refine ⟨_, rfl, t2, fun t nt => ⟨t, _, rfl, .inr (SqT.of upd_same), rfl, rfl, _, rfl, iteFe (by decide +kernel) ?_⟩⟩
      have S1 : Same H (upd H t (.tup [.str "set", .str "read"])) := Same.new nt
      generalize upd H t (.tup [.str "set", .str "read"]) = H1 at S1
      have ha1 := Same.seqT S1 ha
      have hk1 := Same.seqT S1 hk
      refine ⟨_, rfl, rfl, _, rfl, iteFe (by decide +kernel) ?_⟩
      refine ⟨_, rfl, rfl, _, rfl, iteFe (by decide +kernel) ?_⟩
      refine fun p np => ⟨_, rfl, _, rfl, ?_⟩
      refine FwAt.one (k := (["leave"] : Way)) FwAt.new (new_sq np ha1) (new_sq np hk1) fun es fw st => k _ _ (fun b u hb => ?_) (Same.free S1 np) fw
      have bp : b ≠ p := fun z => (by rw [z, Same.free S1 np] at hb; cases hb)
      rw [upd_ne bp, upd_ne bp]
      exact S1 _ _ hb
    | again  =>
      obtain ⟨a, rfl, ha⟩ := st_again hv
      refine ⟨_, rfl, a, _, _, _, rfl, rfl, ha, rfl, ?_⟩
      refine ⟨_, rfl, t2, fun t nt => ⟨t, _, rfl, .inr (SqT.of upd_same), rfl, rfl, _, rfl, iteFe (by decide +kernel) ?_⟩⟩
      have S1 : Same H (upd H t (.tup [.str "set", .str "read"])) := Same.new nt
      generalize upd H t (.tup [.str "set", .str "read"]) = H1 at S1
      have ha1 := Same.seqT S1 ha
      have hk1 := Same.seqT S1 hk
      refine ⟨_, rfl, rfl, _, rfl, iteFe (by decide +kernel) ?_⟩
      refine ⟨_, rfl, rfl, _, rfl, iteFe (by decide +kernel) ?_⟩
      refine fun p np => ⟨_, rfl, _, rfl, ?_⟩
      refine FwAt.one (k := (["again"] : Way)) FwAt.new (new_sq np ha1) (new_sq np hk1) fun es fw st => k _ _ (fun b u hb => ?_) (Same.free S1 np) fw
      have bp : b ≠ p := fun z => (by rw [z, Same.free S1 np] at hb; cases hb)
      rw [upd_ne bp, upd_ne bp]
      exact S1 _ _ hb
    | ite => cases hb
    | choose => cases hb
    | loop => cases hb
    | tryy b hs o a => cases hb
    | bad => cases hsh
end
end K17

namespace K17
open PySem L2 Bx Tk Pm
section
variable {P : Program} {w : World} {K : PySem.W.Frag} {mg : Str → Option Value} {base : Heap} {ad : Ad}
theorem filt_put {f : Fw} {t : Way × Pm.Names → Bool} {i : Nat} {p : Way × Pm.Names} (nd : (f.map (·.1)).Nodup) (hp : f[i]? = some p) (m : t p = true) : Pm.putF ((f.take i).filter t) p.1 p.2 = (f.take (i + 1)).filter t := by
  have e3 : (f.take (i + 1)).filter t = (f.take i).filter t ++ [p] := by
    rw [take_snoc hp, List.filter_append]
    simp [m]
  rw [e3]
  have e4 := put_take nd hp
  rw [take_snoc hp] at e4
  have n : (f.take i).any (fun q => decide (q.1 = p.1)) = false := by
    cases c : (f.take i).any (fun q => decide (q.1 = p.1)) with
    | false => rfl
    | true =>
      unfold Pm.putF at e4
      rw [if_pos c] at e4
      have := congrArg List.length e4
      simp at this
  have n2 : ((f.take i).filter t).any (fun q => decide (q.1 = p.1)) = false := by
    rw [List.any_eq_false] at n ⊢
    exact fun q hq => n q (List.mem_filter.mp hq).1
  unfold Pm.putF
  rw [if_neg (by rw [n2]; exact Bool.false_ne_true)]
theorem filt_no {f : Fw} {t : Way × Pm.Names → Bool} {i : Nat} {p : Way × Pm.Names} (hp : f[i]? = some p) (m : t p = false) : (f.take (i + 1)).filter t = (f.take i).filter t := by
  rw [take_snoc hp, List.filter_append]
  simp [m]
def outw (p : Way × Pm.Names) : Bool := decide (p.1.head? = some ("out" : Str)) || decide (p.1.head? = some ("raise" : Str))
def spLoop (P : Program) (w : World) (K : PySem.W.Frag) : Sp := fun vs H Q _ => ∃ (x y : Addr) (f g : Fw) (W : List Way), vs = [.ref x, .ref y] ∧ FwAt P w K H x f ∧ FwAt P w K H y g ∧ Okf W f ∧ Okf W g ∧ WOk W ∧
  ∀ H' fl, Same H H' → H fl = none → FwAt P w K H' fl (loopF f g) → Q (.ref fl) H'
theorem ok_loop_flow {f : Addr} {fd : FuncData} (F : C8.Def K mg "loop_flow" s_loop_flow f fd) (b : Binds K fd ["body", "other"] []) (T : Txt K mg ad) (K_either_flow : C8.Cal P w K mg base 1 "either_flow" (spEither P w K) []) : C8.Cal P w K mg base 2 "loop_flow" (spLoop P w K) [] := by
  refine C8.cal0 F b .nil sc_loop_flow (fun vs H Q E h => ?_) (fun cdv A outer s H vs Q E hr h => ?_)
  · obtain ⟨x, y, f, g, W, rfl, _⟩ := h
    rfl
  · obtain ⟨x, y, f, g, W, rfl, hx, hy, of, og, hW, k⟩ := h
    have hu := hu_of hr
    have t2 : (2 : Nat) ≤ sizeLine := by decide
    refine ⟨_, (pss_cons (ps_lock (Tk.ps_setDcT P w K (i := 2) hu (own := [("way", 3)]) rfl sc_loop_flow.nd rfl rfl (Tk.sw_trueD rfl rfl rfl (by decide +kernel)) (Tk.pi_tkeys P w (pv 0)) (blkOk_by (own := [("way", 3)]) (N := N_loop_flow) (sc := C8.fnScope s_loop_flow) (by decide +kernel)) (fun _ _ _ _ _ => (pg_name (i := 3) sc_loop_flow.nd rfl (Or.inl rfl))) (fun _ _ _ _ _ => (pts_one (pt_cmpR (inK K) (pe_ix (ixTK K) (pv 3) pe_int (fun _ _ => rfl)) (pe_tup (pa_cons pe_str (pa_cons pe_str pa_nil))) (by rfl)))) (fun _ _ _ _ _ => (pv 3)) (fun _ _ _ _ _ => (Tk.pe_tget P w K hu (pv 0) (pv 3) (fun _ _ => rfl)))))
    (pss_cons (ps_if (pt_cmp (Tk.pc_tin P w K hu (C8.pe_gc (by rfl) T.c_LEAVE) (pv 0))) (pss_one (Tk.ps_tput P w K hu (pv 2) (C8.pe_gc (by rfl) T.c_END) (Tk.pe_tget P w K hu (pv 0) (C8.pe_gc (by rfl) T.c_LEAVE) (fun _ _ => rfl)) rfl)) pss_nil)
    (pss_one (ps_ret (C8.pe_c K_either_flow hr (by decide) (by rfl) (pa_cons (pv 1) (pa_cons (pv 2) pa_nil))))))), ?_⟩
    obtain ⟨es, ex, el, ek, eg, ekv⟩ := hx.ents
    have stx : ∀ od b ks, SqT K H b ks → SqT K (upd H x (.frz od (TO P w x es))) b ks := fun od b ks z => sq_to ex z
    refine ⟨x, _, ex, trivial, fun od => ?_⟩
    refine ⟨_, rfl, x, od, es, rfl, upd_same, fun D nD => dc_w walk_Itw (fun i H' => FwAt P w K H' D ((f.take i).filter outw) ∧ But D (upd H x (.frz od (TO P w x es))) H') ?_ ?_ ?_ ?_⟩
    · exact ⟨FwAt.new, fun a u ha n => by rw [upd_ne n]; exact ha⟩
    · rintro i H1 _ ⟨_, bt⟩
      exact bt x _ upd_same (ne_of_none upd_same nD)
    · rintro i v H1 H2 hi ⟨fw, bt⟩ ⟨rfl, e, he, rfl⟩
      obtain ⟨p, hp, hk⟩ := ek i e he
      have hk1 : SqT K H2 e.2.1 (p.1.map V.str) := but_sqN nD bt (stx od _ _ hk)
      have hpW : p.1 ∈ W := of.i _ (List.mem_map_of_mem (List.mem_of_getElem? hp))
      obtain ⟨x0, r0, e0⟩ : ∃ x0 r0, p.1 = x0 :: r0 := by
        cases q : p.1 with
        | nil => exact absurd q (hW.ne _ hpW)
        | cons x0 r0 => exact ⟨x0, r0, rfl⟩
      have at0 : atI (p.1.map V.str) 0 = some (.str x0) := by
        rw [e0]
        exact atI_nat (j := 0) rfl
      refine ⟨rfl, ?_⟩
      refine ⟨_, rfl, e.2.1, _, 0, _, rfl, rfl, hk1, at0, ?_⟩
      refine ⟨t2, fun t nt => ⟨t, _, rfl, .inr (SqT.of upd_same), rfl, rfl, _, rfl, ?_⟩⟩
      have S1 : Same H2 (upd H2 t (.tup [.str "out", .str "raise"])) := Same.new nt
      generalize upd H2 t (.tup [.str "out", .str "raise"]) = H3 at S1
      have bt3 : But D (upd H x (.frz od (TO P w x es))) H3 := but_trans bt (but_same S1)
      have fw3 := fw.same S1
      have ew : inV (.str x0) [.str "out", .str "raise"] = outw p := by
        have := inV_strs x0 ["out", "raise"]
        rw [show ([.str "out", .str "raise"] : List V) = (["out", "raise"] : List Str).map V.str from rfl, this]
        unfold outw
        rw [e0, List.head?_cons, Bool.eq_iff_iff]
        simp
      rw [show (if false = true then !inV (.str x0) [.str "out", .str "raise"] else inV (.str x0) [.str "out", .str "raise"]) = outw p from ew]
      cases m : outw p with
      | false =>
        refine iteF ⟨?_, bt3⟩
        rw [filt_no hp m]
        exact fw3
      | true =>
        have hk3 := Same.seqT S1 hk1
        obtain ⟨c, g1, hc⟩ := eg H3 od (fun b ks z => but_sqN nD bt3 (stx od b ks z)) (bt3 x _ upd_same (ne_of_none upd_same nD)) i p e.2.1 hp hk3
        refine iteT ⟨_, rfl, _, rfl, _, rfl, x, _, rfl, g1, ?_⟩
        refine FwAt.put fw3 hk3 hc ((of.take i).filter _).i hW.lt fun es' fw2 st2 => ⟨?_, but_upd bt3⟩
        rw [filt_put hx.nd hp m] at fw2
        exact fw2
    · rintro H1 ⟨fw, bt⟩
      rw [el, List.take_length] at fw
      have exl : H1 x = some (.frz od (TO P w x es)) := bt x _ upd_same (ne_of_none upd_same nD)
      have Dx : D ≠ x := fun z => (by rw [z, upd_same] at nD; cases nD)
      have nD0 : H D = none := by
        have z := nD
        rwa [upd_ne Dx] at z
      refine ⟨exl, ?_⟩
      have S1 : Same H (upd H1 x (TO P w x es)) := same_lock ex nD0 bt
      have fw1 : FwAt P w K (upd H1 x (TO P w x es)) D (f.filter outw) := fw.mono (upd_ne Dx) fun b ks z => unlock_sq exl z
      generalize upd H1 x (TO P w x es) = H2 at S1 fw1
      have hx2 := hx.same S1
      have hy2 := hy.same S1
      obtain ⟨o, g0, e0⟩ := hx2.isSome (k := LEAVE) (T.tLeave H2)
      have okp : Okf W (f.filter outw) := of.filter _
      have nD2 : ∀ H3, But D H2 H3 → Same H H3 := fun H3 b3 a u ha => b3 a u (S1 _ _ ha) (ne_of_none ha nD0)
      have fin : ∀ H3 ff, But D H2 H3 → FwAt P w K H3 D ff → Okf W ff → loopF f g = eitherF g ff → spEither P w K [.ref y, .ref D] H3 Q fun _ _ _ => False := fun H3 ff b3 hf ok e => by
        refine ⟨y, D, g, ff, W, rfl, hy.same (nD2 _ b3), hf, og, ok, hW.l, fun H' fl S' nfl fw' => k _ _ ((nD2 _ b3).trans S') (Same.free (nD2 _ b3) nfl) ?_⟩
        rw [e]
        exact fw'
      refine ⟨_, rfl, x, o, rfl, g0, _, rfl, ?_⟩
      rw [e0]
      cases eL : getF f LEAVE with
      | none =>
        refine iteF ⟨_, rfl, _, rfl, ?_⟩
        refine fin _ _ (but_same (Same.refl _)) fw1 okp ?_
        unfold loopF
        rw [eL]
        rfl
      | some v =>
        obtain ⟨c, g2, hc⟩ := hx2.some_ (k := LEAVE) (T.tLeave H2) eL
        refine iteT ⟨_, rfl, x, _, rfl, g2, _, rfl, D, rfl, ?_⟩
        refine FwAt.put (k := END) fw1 (T.tEnd _) hc okp.i hW.lt fun es' fw2 st2 => ⟨_, rfl, _, rfl, ?_⟩
        refine fin _ _ (but_upd (but_same (Same.refl _))) fw2 ⟨putF_in okp.i hW.e, putF_names okp.n (of.n _ (getF_names eL))⟩ ?_
        unfold loopF
        rw [eL]
        rfl
end
end K17

namespace K17
open PySem L2 Bx Tk Pm
section
variable {P : Program} {w : World} {K : PySem.W.Frag} {mg : Str → Option Value} {base : Heap} {ad : Ad}
def iV : Option Nat → V
  | none => .non
  | some i => .int (i : Nat)
def spFit (K : PySem.W.Frag) : Sp := fun vs H Q _ => ∃ (v : V) (hs : Hs) (kd : Str), vs = [v, .str kd] ∧ Dp K H v (.tuple (encH hs)) ∧ ∀ H', Same H H' → Q (iV (firstFit hs.list kd)) H'
theorem ok_first_fit {f : Addr} {fd : FuncData} (F : C8.Def K mg "first_fit" s_first_fit f fd) (b : Binds K fd ["handlers", "kind"] []) (T : Txt K mg ad) : C8.Cal P w K mg base 1 "first_fit" (spFit K) [] := by
  refine C8.cal0 F b .nil sc_first_fit (fun vs H Q E h => ?_) (fun cdv A outer s H vs Q E hr h => ?_)
  · obtain ⟨v, hs, kd, rfl, _⟩ := h
    rfl
  · obtain ⟨v, hs, kd, rfl, hv, k⟩ := h
    refine ⟨_, (pss_cons (ps_for PassesOwn.never rfl (En.pi_enumT (by rfl) T.z_enumerate (pa_cons (pv 0) pa_nil)) (pg_tup (by rfl) (pgs_cons (pg_name (i := 2) sc_first_fit.nd rfl (Or.inl rfl)) (pgs_cons (pg_tup (by rfl) (pgs_cons (pg_name (i := 3) sc_first_fit.nd rfl (Or.inl rfl)) (pgs_cons (pg_name (i := 4) sc_first_fit.nd rfl (Or.inl rfl)) (pgs_cons (pg_name (i := 5) sc_first_fit.nd rfl (Or.inl rfl)) pgs_nil)))) pgs_nil)))
    (pss_one (ps_if (PW.pt (pw_or (pt_not (pt_truth (pv 3) (by intro _; rfl))) (pw_or1 (pt_cmpR op_in_seq (pv 1) (pv 3) (by rfl))))) (pss_one (ps_ret (pv 2))) pss_nil)))
    (pss_one (ps_ret pe_non))), ?_⟩
    obtain ⟨a, xs, rfl, ha, lx, hx⟩ := hs_at hv
    refine ⟨_, rfl, a, xs, rfl, ha, En.for_enumT (fun i σ H' => (∃ v2 v3 v4 v5, σ = [some (.ref a), some (.str kd), v2, v3, v4, v5]) ∧ Same H H' ∧ firstFit hs.list kd = (firstFit (hs.list.drop i) kd).map (· + i)) ⟨⟨_, _, _, _, rfl⟩, Same.refl _, ?_⟩ (fun i σ H' h => Same.seqT h.2.1 ha) ?_ ?_⟩
    · rw [List.drop_zero]
      simp
    · rintro i x T σ H1 hxi ⟨⟨v2, v3, v4, v5, rfl⟩, S1, eq⟩ nT
      have hi : i < hs.list.length := by
        rw [← lx]
        exact (List.getElem?_eq_some_iff.mp hxi).1
      obtain ⟨u, hu1, hu2⟩ := hx i _ (List.getElem?_eq_getElem hi)
      rw [hxi] at hu1
      cases hu1
      obtain ⟨c, y, z, rfl, hc, hy, _⟩ := hd_at hu2
      have S2 : Same H (upd H1 T (.tup [.int (i : Nat), .ref c])) := Same.mut S1 (Same.free S1 nT)
      have eT : (upd H1 T (.tup [.int (i : Nat), .ref c])) T = some (.tup [.int (i : Nat), .ref c]) := upd_same
      generalize upd H1 T (.tup [.int (i : Nat), .ref c]) = H2 at S2 eT
      refine ⟨T, _, rfl, SqT.of eT, rfl, _, _, rfl, _, _, rfl, c, _, rfl, Same.seqT S2 hc, rfl, _, _, rfl, _, _, rfl, _, _, rfl, rfl, rfl, ?_⟩
      have ed : hs.list.drop i = hs.list[i] :: hs.list.drop (i + 1) := List.drop_eq_getElem_cons hi
      have yes : (hs.list[i].1 = [] ∨ kd ∈ hs.list[i].1) → Q (.int (i : Nat)) H2 := fun z => by
        have := k H2 S2
        rw [eq, ed, firstFit, if_pos z] at this
        simpa [iV] using this
      refine ⟨_, rfl, _, .inr (.inl ⟨_, Same.seqT S2 hy, rfl⟩), ?_⟩
      by_cases e0 : hs.list[i].1 = []
      · refine iteTe (by rw [e0]; rfl) ?_
        exact ⟨_, rfl, yes (.inl e0)⟩
      · refine iteFe (by cases q : hs.list[i].1 with | nil => exact absurd q e0 | cons _ _ => rfl) ?_
        refine ⟨_, rfl, _, rfl, y, _, rfl, .inr (Same.seqT S2 hy), rfl, Pm.flat_strs _, _, rfl, ?_⟩
        rw [inV_strs]
        by_cases m : kd ∈ hs.list[i].1
        · rw [decide_eq_true m]
          exact iteT ⟨_, rfl, yes (.inr m)⟩
        · rw [decide_eq_false m]
          refine iteF ⟨⟨_, _, _, _, rfl⟩, S2, ?_⟩
          rw [eq, ed, firstFit, if_neg fun z => z.elim e0 m, Option.map_map]
          congr 1
          funext j
          show j + 1 + i = j + (i + 1)
          omega
    · rintro σ H1 ⟨⟨_, _, _, _, rfl⟩, S1, eq⟩
      rw [lx, List.drop_length] at eq
      have := k H1 S1
      rw [eq] at this
      exact this
end
end K17

namespace K17
open PySem L2 Bx Tk Pm
section
variable {P : Program} {w : World} {K : PySem.W.Frag} {mg : Str → Option Value} {base : Heap} {ad : Ad}
def spTry (P : Program) (w : World) (K : PySem.W.Frag) : Sp := fun vs H Q _ => ∃ (v : V) (lf : Addr) (hs : Hs) (as : List Addr) (fs : List Fw) (W : List Way), vs = [v, .ref lf] ∧ Dp K H v (.tuple (encH hs)) ∧ H lf = some (.lst (as.map V.ref)) ∧ Paired (FwAt P w K H) as fs ∧ fs.length = hs.list.length + 3 ∧ (∀ f ∈ fs, Okf W f) ∧ WOk W ∧ fs.length ≤ 10000 ∧
  ∀ H' fl, Same H H' → (H fl = none ∨ fl ∈ as) → FwAt P w K H' fl (tryF hs.list fs) → Q (.ref fl) H'
theorem fit_lt : ∀ {l : List (List Str × Option Str × Bk)} {k : Str} {i : Nat}, firstFit l k = some i → i < l.length
  | [], _, _, h => by cases h
  | h :: r, k, i, e => by
    unfold firstFit at e
    split at e
    · cases e
      simp
    · cases q : firstFit r k with
      | none => rw [q] at e; cases e
      | some j =>
        rw [q] at e
        cases e
        have := fit_lt q
        simp
        omega
theorem tryStep_ok {W : List Way} {hs : List (List Str × Option Str × Bk)} {fs : List Fw} {bl acc : Fw} {p : Way × Pm.Names} (ha : Okf W acc) (hf : ∀ f ∈ fs, Okf W f) (hp : p.1 ∈ W) (hn : p.2.length ≤ 1000) : Okf W (tryStep hs fs bl acc p) := by
  unfold tryStep
  split
  · exact ha.either ⟨in_one hp, fun q hq => by rw [List.mem_singleton.mp hq]; exact hn⟩
  · rename_i i _
    refine ha.either ?_
    cases q : fs[1 + i]? with
    | none =>
      rw [List.getD_eq_getElem?_getD, q]
      exact ⟨fun k hk => (by cases hk), fun p hp => (by cases hp)⟩
    | some f =>
      rw [List.getD_eq_getElem?_getD, q]
      exact hf f (List.mem_of_getElem? q)
theorem foldl_ok {W : List Way} {hs : List (List Str × Option Str × Bk)} {fs : List Fw} {bl : Fw} (hf : ∀ f ∈ fs, Okf W f) : ∀ {g acc : Fw}, Okf W acc → Okf W g → Okf W (g.foldl (tryStep hs fs bl) acc) := by
  intro g
  induction g with
  | nil => exact fun h _ => h
  | cons p g ih => exact fun {acc} h hg => ih (acc := tryStep hs fs bl acc p) (tryStep_ok h hf (hg.i _ (by simp)) (hg.n p List.mem_cons_self)) ⟨fun k hk => hg.i k (by rw [List.map_cons]; exact List.mem_cons_of_mem _ hk), fun q hq => hg.n q (List.mem_cons_of_mem _ hq)⟩
theorem ok_try_flow {f : Addr} {fd : FuncData} (F : C8.Def K mg "try_flow" s_try_flow f fd) (b : Binds K fd ["handlers", "flows"] []) (T : Txt K mg ad) (K_either_flow : C8.Cal P w K mg base 1 "either_flow" (spEither P w K) []) (K_without_end : C8.Cal P w K mg base 1 "without_end" (spWithout P w K) [])
    (K_first_fit : C8.Cal P w K mg base 1 "first_fit" (spFit K) []) : C8.Cal P w K mg base 2 "try_flow" (spTry P w K) [] := by
  refine C8.cal0 F b .nil sc_try_flow (fun vs H Q E h => ?_) (fun cdv A outer s H vs Q E hr h => ?_)
  · obtain ⟨v, lf, hs, as, fs, W, rfl, _⟩ := h
    rfl
  · obtain ⟨v, lf, hs, as, fs, W, rfl, hv, hl, hf, hlen, hok, hW, h1000, k⟩ := h
    have hu := hu_of hr
    refine ⟨_, (pss_cons (ps_set (i := 2) sc_try_flow.nd rfl (Or.inl rfl) (pe_ix ix_list (pv 1) pe_int (fun _ _ => rfl)))
    (pss_cons (ps_set (i := 3) sc_try_flow.nd rfl (Or.inl rfl) (Tk.pe_tnew P w))
    (pss_cons (ps_for PassesOwn.never rfl (Tk.pi_tkeysL P w (C8.pe_c K_without_end hr (by decide) (by rfl) (pa_cons (pv 2) pa_nil))) (pg_name (i := 4) sc_try_flow.nd rfl (Or.inl rfl))
    (pss_cons (ps_set (i := 5) sc_try_flow.nd rfl (Or.inl rfl) (pe_ifExp (pt_cmpR op_eq (pe_ix ix_tup (pv 4) pe_int (fun _ _ => rfl)) pe_str (nomark _)) (C8.pe_c K_first_fit hr (by decide) (by rfl) (pa_cons (pv 0) (pa_cons (pe_ix ix_tup (pv 4) pe_int (fun _ _ => rfl)) pa_nil))) pe_non))
    (pss_one (ps_set (i := 3) sc_try_flow.nd rfl (Or.inl rfl) (C8.pe_c K_either_flow hr (by decide) (by rfl) (pa_cons (pv 3) (pa_cons (pe_ifExp (pt_cmpR op_isN (pv 5) pe_non (nomark _)) (Tk.pe_tdisp P w K hu (pps_cons (pv 4) (Tk.pe_tget P w K hu (pv 2) (pv 4) (fun _ _ => rfl)) pps_nil) (by rfl) (by rfl) (fun z => by cases z) (by decide)) (pe_ix ix_list (pv 1) (pe_op op_add pe_int (pv 5)) (fun _ _ => rfl))) pa_nil)))))))
    (pss_cons (ps_if (pt_cmp (Tk.pc_tin P w K hu (C8.pe_gc (by rfl) T.c_END) (pv 2))) (pss_one (ps_set (i := 3) sc_try_flow.nd rfl (Or.inl rfl) (C8.pe_c K_either_flow hr (by decide) (by rfl) (pa_cons (pv 3) (pa_cons (pe_ix ix_list (pv 1) (pe_un un_neg pe_int) (fun _ _ => rfl)) pa_nil))))) pss_nil)
    (pss_cons (ps_set (i := 6) sc_try_flow.nd rfl (Or.inl rfl) (pe_ix ix_list (pv 1) (pe_un un_neg pe_int) (fun _ _ => rfl)))
    (pss_cons (ps_if (pt_cmp (Tk.pc_tin P w K hu (C8.pe_gc (by rfl) T.c_END) (pv 6))) (pss_one (ps_ret (C8.pe_c K_either_flow hr (by decide) (by rfl) (pa_cons (pv 3) (pa_cons (C8.pe_c K_without_end hr (by decide) (by rfl) (pa_cons (pv 6) pa_nil)) pa_nil))))) pss_nil)
    (pss_one (ps_ret (pv 6))))))))), ?_⟩
    have la : as.length = fs.length := Paired.length hf
    have at_ : ∀ {H' : Hp} (S : Same H H') (i : Nat) (hi : i < fs.length), ∃ a, as[i]? = some a ∧ a ∈ as ∧ FwAt P w K H' a fs[i] ∧ Okf W fs[i] := fun {H'} S i hi => by
      have ha : as[i]? = some as[i] := List.getElem?_eq_getElem (by omega)
      obtain ⟨g, hg, r⟩ := paired_get hf ha
      rw [List.getElem?_eq_getElem hi] at hg
      cases hg
      exact ⟨_, ha, List.mem_of_getElem? ha, r.same S, hok _ (List.getElem_mem hi)⟩
    have atv : ∀ {i : Nat} {a : Addr}, as[i]? = some a → atI (as.map V.ref) (i : Int) = some (.ref a) := fun {i a} e => atI_nat (by rw [List.getElem?_map, e]; rfl)
    have atm : ∀ (j : Nat), 1 ≤ j → j ≤ as.length → ∀ {a : Addr}, as[as.length - j]? = some a → atI (as.map V.ref) (-(j : Int)) = some (.ref a) := fun j h1 h2 {a} e => by
      have i1 : ixN (as.map V.ref).length (-(j : Int)) = some (as.length - j) := by
        unfold ixN
        rw [List.length_map, if_neg (by omega), if_pos (by omega)]
        congr 1
        omega
      unfold atI
      rw [i1]
      show (as.map V.ref)[as.length - j]? = _
      rw [List.getElem?_map, e]
      rfl
    obtain ⟨a0, e0, m0, f0, ok0⟩ := at_ (Same.refl H) 0 (by omega)
    have d0 : fs.getD 0 [] = fs[0] := by rw [List.getD_eq_getElem?_getD, List.getElem?_eq_getElem (by omega)]; rfl
    refine ⟨_, rfl, lf, _, 0, _, rfl, rfl, SqL.of hl, atv e0, ?_⟩
    refine fun fa na => ?_
    have S1 : Same H (upd H fa (TO P w fa [])) := Same.new na
    have fwa : FwAt P w K (upd H fa (TO P w fa [])) fa [] := FwAt.new
    have sfa : ∃ o, (upd H fa (TO P w fa [])) fa = some o := ⟨_, upd_same⟩
    generalize upd H fa (TO P w fa []) = H1 at S1 fwa sfa
    refine ⟨_, rfl, a0, fs[0], W, rfl, f0.same S1, ok0, hW, fun H2 d S2 nd fwd => ?_⟩
    obtain ⟨es, ed, eln, ek, eg, _⟩ := fwd.ents
    have okw : Okf W (withoutEnd fs[0]) := ok0.filter _
    refine ⟨d, es, rfl, ed, fun ob => ?_⟩
    have Sl : ∀ H', Same (upd H2 d (.frz ob (TO P w d es))) H' → Same H H' := fun H' S a u ha => S _ _ (by
      have n : a ≠ d := ne_of_none (S1 _ _ ha) nd
      rw [upd_ne n]
      exact S2 _ _ (S1 _ _ ha))
    have sqL : ∀ b ks, SqT K H2 b ks → SqT K (upd H2 d (.frz ob (TO P w d es))) b ks := fun b ks z => sq_to ed z
    have fad : fa ≠ d := by
      obtain ⟨o, z⟩ := sfa
      exact ne_of_none z nd
    refine for_it walk_Itw (fun i σ H' => (∃ fl v4 v5 v6, σ = [some v, some (.ref lf), some (.ref a0), some (.ref fl), v4, v5, v6] ∧ FwAt P w K H' fl (((withoutEnd fs[0]).take i).foldl (tryStep hs.list fs fs[0]) [])) ∧ Same (upd H2 d (.frz ob (TO P w d es))) H') ?_ ?_ ?_ ?_
    · exact ⟨⟨fa, _, _, _, rfl, (fwa.same S2).mono (upd_ne fad) sqL⟩, Same.refl _⟩
    · rintro i σ H' _ ⟨_, S⟩
      exact S _ _ upd_same
    · rintro i x σ H3 H4 hi ⟨⟨fl, v4, v5, v6, rfl, fwl⟩, S3⟩ ⟨rfl, e, he, rfl⟩
      obtain ⟨p, hp, hk⟩ := ek i e he
      have hpm := List.mem_of_getElem? hp
      have hk1 : SqT K H4 e.2.1 (p.1.map V.str) := Same.seqT S3 (sqL _ _ hk)
      have hpW : p.1 ∈ W := okw.i _ (List.mem_map_of_mem hpm)
      have S4 := Sl _ S3
      obtain ⟨x0, r0, ep⟩ : ∃ x0 r0, p.1 = x0 :: r0 := by
        cases q : p.1 with
        | nil => exact absurd q (hW.ne _ hpW)
        | cons x0 r0 => exact ⟨x0, r0, rfl⟩
      have at0 : atI (p.1.map V.str) 0 = some (.str x0) := by
        rw [ep]
        exact atI_nat (j := 0) rfl
      have oka : Okf W (((withoutEnd fs[0]).take i).foldl (tryStep hs.list fs fs[0]) []) := foldl_ok hok ⟨fun k hk => (by cases hk), fun p hp => (by cases hp)⟩ (okw.take i)
      have gb : ∀ H5, Same H4 H5 → ∃ c, TGet P w K H5 a0 (.ref e.2.1) (some (.ref c)) ∧ SqT K H5 c (p.2.map V.str) := fun H5 S5 =>
        (f0.same (S4.trans S5)).some_ (Same.seqT S5 hk1) (getF_mem f0.nd (List.mem_filter.mp hpm).1)
      have okp : Okf W [(p.1, p.2)] := ⟨in_one hpW, fun q hq => by rw [List.mem_singleton.mp hq]; exact okw.n p hpm⟩
      have fin : ∀ (H7 : Hp) (f7 : Addr) (v5 : Option V) (o : Option Nat), Same H4 H7 → (if p.1.head? = some ("raise" : Str) then firstFit hs.list (p.1.getD 1 "") else none) = o →
          FwAt P w K H7 f7 (match o with | none => eitherF (((withoutEnd fs[0]).take i).foldl (tryStep hs.list fs fs[0]) []) [(p.1, p.2)] | some i' => eitherF (((withoutEnd fs[0]).take i).foldl (tryStep hs.list fs fs[0]) []) (fs.getD (1 + i') [])) →
          (∃ x3 x4 x5 x6, [some v, some (.ref lf), some (.ref a0), some (.ref f7), some (.ref e.2.1), v5, v6] = [some v, some (.ref lf), some (.ref a0), some (.ref x3), x4, x5, x6] ∧ FwAt P w K H7 x3 (((withoutEnd fs[0]).take (i + 1)).foldl (tryStep hs.list fs fs[0]) [])) ∧ Same (upd H2 d (.frz ob (TO P w d es))) H7 := fun H7 f7 v5 o S7 eo fw7 => by
        refine ⟨⟨f7, _, _, _, rfl, ?_⟩, S3.trans S7⟩
        rw [take_snoc hp, List.foldl_append]
        show FwAt P w K H7 f7 (tryStep hs.list fs fs[0] _ p)
        unfold tryStep
        rw [eo]
        cases o <;> exact fw7
      refine ⟨_, rfl, e.2.1, _, 0, _, rfl, rfl, hk1, at0, rfl, _, rfl, ?_⟩
      by_cases hr0 : x0 = "raise"
      · refine iteTe (decide_eq_true (by rw [hr0])) ?_
        obtain ⟨kd, ek2⟩ := hW.r _ hpW (by rw [ep, hr0]; rfl)
        have at1 : atI (p.1.map V.str) 1 = some (.str kd) := by
          rw [ek2]
          exact atI_nat (j := 1) rfl
        have eo : (if p.1.head? = some ("raise" : Str) then firstFit hs.list (p.1.getD 1 "") else none) = firstFit hs.list kd := by
          rw [ek2, List.head?_cons, if_pos rfl]
          rfl
        refine ⟨_, rfl, _, rfl, e.2.1, _, 1, _, rfl, rfl, hk1, at1, ?_⟩
        refine ⟨v, hs, kd, rfl, dp_sm S4 hv, fun H5 S5 => ?_⟩
        cases q0 : firstFit hs.list kd with
        | none =>
          rw [q0] at eo
          refine ⟨_, rfl, _, rfl, rfl, _, rfl, iteTe (by rfl) ?_⟩
          refine fun q nq => ⟨_, rfl, _, rfl, _, rfl, a0, _, rfl, (gb _ (S5.trans (Same.new nq))).choose_spec.1, ?_⟩
          have S6 : Same H4 (upd H5 q (TO P w q [])) := S5.trans (Same.new nq)
          refine FwAt.one FwAt.new (Same.seqT S6 hk1) (gb _ S6).choose_spec.2 fun es' fw st => ?_
          have bq : ∀ b o, H4 b = some o → b ≠ q := fun b o hb z => (by rw [z] at hb; rw [S5 _ _ hb] at nq; cases nq)
          have S7 : Same H4 (upd (upd H5 q (TO P w q [])) q (TO P w q es')) := fun b u hb => by
            rw [upd_ne (bq _ _ hb)]
            exact S6 _ _ hb
          refine ⟨fl, q, _, [(p.1, p.2)], W, rfl, fwl.same S7, fw, oka, okp, hW.l, fun H7 f7 S8 n7 fw7 => ?_⟩
          refine fin H7 f7 _ none (S7.trans S8) eo fw7
        | some j =>
          rw [q0] at eo
          have hj := fit_lt q0
          obtain ⟨aj, ej, mj, fj, okj⟩ := at_ (S4.trans S5) (1 + j) (by omega)
          have dj : fs.getD (1 + j) [] = fs[1 + j]'(by omega) := by rw [List.getD_eq_getElem?_getD, List.getElem?_eq_getElem (by omega)]; rfl
          refine ⟨_, rfl, _, rfl, rfl, _, rfl, iteFe (by rfl) ?_⟩
          refine ⟨_, rfl, _, rfl, _, _, rfl, rfl, lf, _, _, _, rfl, rfl, SqL.of (S5 _ _ (S4 _ _ hl)), (show atI (as.map V.ref) ((1 : Int) + (j : Nat)) = _ from by have := atv ej; rwa [show ((1 + j : Nat) : Int) = (1 : Int) + (j : Nat) by omega] at this), ?_⟩
          refine ⟨fl, aj, _, _, W, rfl, fwl.same S5, fj, oka, okj, hW.l, fun H7 f7 S8 n7 fw7 => ?_⟩
          refine fin H7 f7 _ (some j) (S5.trans S8) eo ?_
          show FwAt P w K H7 f7 (eitherF _ (fs.getD (1 + j) []))
          rw [dj]
          exact fw7
      · refine iteFe (decide_eq_false fun z => hr0 (V.str.inj z)) ?_
        have eo : (if p.1.head? = some ("raise" : Str) then firstFit hs.list (p.1.getD 1 "") else none) = none := by
          rw [if_neg]
          rw [ep, List.head?_cons]
          exact fun z => hr0 (Option.some.inj z)
        have S50 := Same.refl H4
        refine ⟨_, rfl, _, rfl, rfl, _, rfl, iteTe (by rfl) ?_⟩
        refine fun q nq => ⟨_, rfl, _, rfl, _, rfl, a0, _, rfl, (gb _ (S50.trans (Same.new nq))).choose_spec.1, ?_⟩
        have S6 : Same H4 (upd H4 q (TO P w q [])) := S50.trans (Same.new nq)
        refine FwAt.one FwAt.new (Same.seqT S6 hk1) (gb _ S6).choose_spec.2 fun es' fw st => ?_
        have bq : ∀ b o, H4 b = some o → b ≠ q := fun b o hb z => (by rw [z] at hb; rw [S50 _ _ hb] at nq; cases nq)
        have S7 : Same H4 (upd (upd H4 q (TO P w q [])) q (TO P w q es')) := fun b u hb => by
          rw [upd_ne (bq _ _ hb)]
          exact S6 _ _ hb
        refine ⟨fl, q, _, [(p.1, p.2)], W, rfl, fwl.same S7, fw, oka, okp, hW.l, fun H7 f7 S8 n7 fw7 => ?_⟩
        refine fin H7 f7 _ none (S7.trans S8) eo fw7
    · rintro σ H3 ⟨⟨fl, v4, v5, v6, rfl, fwl⟩, S3⟩
      rw [eln, List.take_length] at fwl
      have S4 := Sl _ S3
      have oka : Okf W ((withoutEnd fs[0]).foldl (tryStep hs.list fs fs[0]) []) := foldl_ok hok ⟨fun k hk => (by cases hk), fun p hp => (by cases hp)⟩ okw
      have nfl0 : True := trivial
      -- the last part, from the flow gathered so far
      have l3 : 3 ≤ fs.length := by omega
      obtain ⟨a1, e1, m1, f1, ok1⟩ := at_ S4 (fs.length - 1) (by omega)
      obtain ⟨a2, e2, m2, f2, ok2⟩ := at_ S4 (fs.length - 2) (by omega)
      rw [← la] at e1 e2
      have d1 : fs.getD (fs.length - 1) [] = fs[fs.length - 1]'(by omega) := by rw [List.getD_eq_getElem?_getD, List.getElem?_eq_getElem (by omega)]; rfl
      have d2 : fs.getD (fs.length - 2) [] = fs[fs.length - 2]'(by omega) := by rw [List.getD_eq_getElem?_getD, List.getElem?_eq_getElem (by omega)]; rfl
      have teq : ∀ g, (if (getF fs[0] END).isSome = true then eitherF ((withoutEnd fs[0]).foldl (tryStep hs.list fs fs[0]) []) (fs[fs.length - 2]'(by omega)) else (withoutEnd fs[0]).foldl (tryStep hs.list fs fs[0]) []) = g →
          tryF hs.list fs = if (getF (fs[fs.length - 1]'(by omega)) END).isSome = true then eitherF g (withoutEnd (fs[fs.length - 1]'(by omega))) else fs[fs.length - 1]'(by omega) := fun g eg => by
        rw [← eg, ← d2, ← d1, ← d0]
        rfl
      obtain ⟨o, g0, eo0⟩ := (f0.same S4).isSome (k := END) (T.tEnd H3)
      refine ⟨_, rfl, a0, o, rfl, g0, _, rfl, ?_⟩
      rw [eo0]
      show (if (getF fs[0] END).isSome = true then _ else _)
      cases c0 : (getF fs[0] END).isSome with
      | true =>
        refine iteT ?_
        refine ⟨_, rfl, _, rfl, _, rfl, lf, _, _, _, rfl, rfl, SqL.of (S4 _ _ hl), atm 2 (by omega) (by omega) e2, ?_⟩
        refine ⟨fl, a2, _, _, W, rfl, fwl, f2, oka, ok2, hW.l, fun H5 f5 S5 n5 fw5 => ?_⟩
        have okg := oka.either ok2
        refine ⟨_, rfl, _, rfl, lf, _, _, _, rfl, rfl, SqL.of ((S4.trans S5) _ _ hl), atm 1 (by omega) (by omega) e1, ?_⟩
        obtain ⟨o1, g1, eo1⟩ := (f1.same S5).isSome (k := END) (T.tEnd H5)
        refine ⟨_, rfl, a1, o1, rfl, g1, _, rfl, ?_⟩
        rw [eo1]
        cases c1 : (getF (fs[fs.length - 1]'(by omega)) END).isSome with
        | true =>
          refine iteT ⟨_, rfl, _, rfl, a1, _, W, rfl, f1.same S5, ok1, hW, fun H6 d6 S6 n6 fw6 => ?_⟩
          refine ⟨f5, d6, _, _, W, rfl, fw5.same S6, fw6, okg, ok1.filter _, hW.l, fun H7 f7 S7 n7 fw7 => ?_⟩
          refine k H7 f7 (((S4.trans S5).trans S6).trans S7) (.inl (Same.free ((S4.trans S5).trans S6) n7)) ?_
          rw [teq _ (by rw [if_pos c0]), if_pos c1]
          exact fw7
        | false =>
          refine iteF ⟨_, rfl, k H5 a1 (S4.trans S5) (.inr m1) ?_⟩
          rw [teq _ (by rw [if_pos c0]), if_neg (by rw [c1]; exact Bool.false_ne_true)]
          exact f1.same S5
      | false =>
        refine iteF ?_
        refine ⟨_, rfl, _, rfl, lf, _, _, _, rfl, rfl, SqL.of (S4 _ _ hl), atm 1 (by omega) (by omega) e1, ?_⟩
        obtain ⟨o1, g1, eo1⟩ := (f1.same (Same.refl H3)).isSome (k := END) (T.tEnd H3)
        refine ⟨_, rfl, a1, o1, rfl, g1, _, rfl, ?_⟩
        rw [eo1]
        cases c1 : (getF (fs[fs.length - 1]'(by omega)) END).isSome with
        | true =>
          refine iteT ⟨_, rfl, _, rfl, a1, _, W, rfl, f1.same (Same.refl H3), ok1, hW, fun H6 d6 S6 n6 fw6 => ?_⟩
          refine ⟨fl, d6, _, _, W, rfl, fwl.same S6, fw6, oka, ok1.filter _, hW.l, fun H7 f7 S7 n7 fw7 => ?_⟩
          refine k H7 f7 ((S4.trans S6).trans S7) (.inl (Same.free (S4.trans S6) n7)) ?_
          rw [teq _ (by rw [if_neg (by rw [c0]; exact Bool.false_ne_true)]), if_pos c1]
          exact fw7
        | false =>
          refine iteF ⟨_, rfl, k H3 a1 S4 (.inr m1) ?_⟩
          rw [teq _ (by rw [if_neg (by rw [c0]; exact Bool.false_ne_true)]), if_neg (by rw [c1]; exact Bool.false_ne_true)]
          exact f1.same (Same.refl H3)
end
end K17

namespace K17
open PySem L2 Bx Tk Pm
section
variable {P : Program} {w : World} {K : PySem.W.Frag} {mg : Str → Option Value} {base : Heap} {ad : Ad}
/-- a test of one thing, whatever it is; ok: what must hold of it -/
def spB (K : PySem.W.Frag) (ok : PyData → Prop) (t : PyData → Bool) : Sp := fun vs H Q _ => ∃ v d, vs = [v] ∧ Dp K H v d ∧ ok d ∧ ∀ H', Same H H' → Q (.bl (t d)) H'
theorem ok_is_number {f : Addr} {fd : FuncData} (F : C8.Def K mg "is_number" s_is_number f fd) (b : Binds K fd ["thing"] []) (T : Txt K mg ad) : C8.Cal P w K mg base 1 "is_number" (spB K (fun _ => True) isNum) [] := by
  refine C8.cal0 F b .nil sc_is_number (fun vs H Q E h => ?_) (fun cdv A outer s H vs Q E hr h => ?_)
  · obtain ⟨v, d, rfl, _⟩ := h
    rfl
  · obtain ⟨v, d, rfl, hv, _, k⟩ := h
    have k := k H (Same.refl H)
    refine ⟨_, (pss_one (ps_ret (pe_and (pe_callB call_isi (by rfl) T.z_isinstance (by decide +kernel) (pa_cons (pv 0) (pa_cons (pe_bltn (v := .ty "int") (by rfl) T.z_int (by decide +kernel) rfl) pa_nil))) (pe_one (pe_not (pe_callB call_isi (by rfl) T.z_isinstance (by decide +kernel) (pa_cons (pv 0) (pa_cons (pe_bltn (v := .ty "bool") (by rfl) T.z_bool (by decide +kernel) rfl) pa_nil)))))))), ?_⟩
    refine ⟨_, rfl, _, _, _, _, _, rfl, .ty _, dp_ty hv, kit_int, _, rfl, ?_⟩
    cases d with
    | int i => exact iteT ⟨_, rfl, _, _, _, _, _, rfl, .ty _, dp_ty hv, kit_bool, _, rfl, k⟩
    | bool c => exact iteT ⟨_, rfl, _, _, _, _, _, rfl, .ty _, dp_ty hv, kit_bool, _, rfl, k⟩
    | _ => exact iteF k
theorem ok_is_word {f : Addr} {fd : FuncData} (F : C8.Def K mg "is_word" s_is_word f fd) (b : Binds K fd ["thing"] []) (T : Txt K mg ad) : C8.Cal P w K mg base 1 "is_word" (spB K shortS isWord) [] := by
  refine C8.cal0 F b .nil sc_is_word (fun vs H Q E h => ?_) (fun cdv A outer s H vs Q E hr h => ?_)
  · obtain ⟨v, d, rfl, _⟩ := h
    rfl
  · obtain ⟨v, d, rfl, hv, hx, k⟩ := h
    have k := k H (Same.refl H)
    refine ⟨_, (pss_cons (ps_if (PW.pt (pw_or (pt_not (pt_val (pe_callB call_isi (by rfl) T.z_isinstance (by decide +kernel) (pa_cons (pv 0) (pa_cons (pe_bltn (v := .ty "str") (by rfl) T.z_str (by decide +kernel) rfl) pa_nil))))) (pw_or1 (pt_not (pt_chain op_le op_le pe_int (pe_callB call_len_str (by rfl) T.z_len (by decide +kernel) (pa_cons (pv 0) pa_nil)) (C8.pe_gc (by rfl) T.c_LONGEST)))))) (pss_one (ps_ret pe_bl)) pss_nil)
    (pss_one (ps_ret (pe_and (pe_bm0 PySem.F.plainAttrs_str PySem.F.slot_str_isascii PySem.F.type_str_isascii mt_isascii (pv 0)) (pe_and (pe_bm0 PySem.F.plainAttrs_str PySem.F.slot_str_isalpha PySem.F.type_str_isalpha mt_isalpha (pv 0)) (pe_one (pe_bm0 PySem.F.plainAttrs_str PySem.F.slot_str_islower PySem.F.type_str_islower mt_islower (pv 0)))))))), ?_⟩
    refine ⟨_, rfl, _, _, _, _, _, rfl, .ty _, dp_ty hv, kit_str, _, rfl, ?_⟩
    cases e : isStr d with
    | false =>
      have e2 : isWord d = false := by cases d <;> first | rfl | cases e
      rw [e2] at k
      exact iteT (iteT k)
    | true =>
    obtain ⟨x, rfl⟩ := isStr_of e
    cases inv_str hv
    refine iteF ?_
    refine ⟨_, rfl, _, rfl, szl (Nat.le_trans hx (by decide)), _, _, rfl, rfl, _, rfl, ?_⟩
    have kk : Q (.bl (wordB x)) H := k
    unfold wordB at kk
    by_cases h1 : (1 : Int) ≤ (x.length : Int)
    · rw [decide_eq_true h1] at kk ⊢
      refine iteT ⟨_, _, rfl, rfl, _, rfl, ?_⟩
      by_cases h2 : ((x.length : Int)) ≤ 8
      · rw [decide_eq_true h2, Bool.true_and] at kk
        rw [decide_eq_true h2]
        refine iteF ?_
        refine ⟨_, rfl, rfl, _, rfl, rfl, trivial, _, rfl, ?_⟩
        cases ha : Txt.isascii x with
        | false =>
          rw [ha] at kk
          simp only [Bool.false_and, Bool.true_and] at kk
          exact iteF kk
        | true =>
          rw [ha] at kk
          refine iteT ⟨_, rfl, rfl, _, rfl, rfl, trivial, _, rfl, ?_⟩
          cases hb : Txt.isalpha x with
          | false =>
            rw [hb] at kk
            simp only [Bool.false_and, Bool.true_and] at kk
            exact iteF kk
          | true =>
            rw [hb] at kk
            simp only [Bool.true_and] at kk
            exact iteT ⟨_, rfl, rfl, _, rfl, rfl, trivial, kk⟩
      · rw [decide_eq_false h2] at kk ⊢
        exact iteT kk
    · rw [decide_eq_false h1] at kk ⊢
      exact iteF ⟨_, rfl, iteT kk⟩
theorem ok_is_name {f : Addr} {fd : FuncData} (F : C8.Def K mg "is_name" s_is_name f fd) (b : Binds K fd ["thing"] []) (T : Txt K mg ad) (B : Kd.SD K w ad.bar barredW) (K_is_word : C8.Cal P w K mg base 1 "is_word" (spB K shortS isWord) []) : C8.Cal P w K mg base 2 "is_name" (spB K shortS isName) [] := by
  refine C8.cal0 F b .nil sc_is_name (fun vs H Q E h => ?_) (fun cdv A outer s H vs Q E hr h => ?_)
  · obtain ⟨v, d, rfl, _⟩ := h
    rfl
  · obtain ⟨v, d, rfl, hv, hx, k⟩ := h
    refine ⟨_, (pss_one (ps_ret (pe_and (C8.pe_c K_is_word hr (by decide) (by rfl) (pa_cons (pv 0) pa_nil)) (pe_one (pe_cmpR (Kd.op_notInSD B) (pv 0) (C8.pe_gc (by rfl) T.c_BARRED) (by rfl)))))), ?_⟩
    refine ⟨_, rfl, v, d, rfl, hv, hx, fun H1 S1 => ?_⟩
    have k1 := k H1 S1
    cases d with
    | str x =>
      have k2 : Q (.bl (wordB x && !decide (x ∈ barredW))) H1 := k1
      refine ⟨_, rfl, ?_⟩
      show (if wordB x = true then _ else _)
      cases hw : wordB x with
      | false =>
        rw [hw] at k2
        exact iteF k2
      | true =>
        rw [hw, Bool.true_and] at k2
        cases inv_str hv
        exact iteT ⟨_, rfl, _, rfl, rfl, k2⟩
    | _ => exact ⟨_, rfl, iteF k1⟩
def spDiff (K : PySem.W.Frag) : Sp := fun vs H Q _ => ∃ (p : Addr) (xs : List Str), vs = [.ref p] ∧ SqT K H p (xs.map V.str) ∧ xs.length ≤ 900 ∧ ∀ H', Same H H' → Q (.bl (nodupB xs)) H'
theorem ok_are_different {f : Addr} {fd : FuncData} (F : C8.Def K mg "are_different" s_are_different f fd) (b : Binds K fd ["things"] []) (T : Txt K mg ad) : C8.Cal P w K mg base 1 "are_different" (spDiff K) [] := by
  refine C8.cal0 F b .nil sc_are_different (fun vs H Q E h => ?_) (fun cdv A outer s H vs Q E hr h => ?_)
  · obtain ⟨p, xs, rfl, _⟩ := h
    rfl
  · obtain ⟨p, xs, rfl, hp, hl, k⟩ := h
    refine ⟨_, (pss_one (ps_ret (pe_cmpR op_eq (Tx.pe_lenSetX T.z_len T.z_set (pv 0)) (pe_callB call_len_seq (by rfl) T.z_len (by decide +kernel) (pa_cons (pv 0) pa_nil)) (nomark _)))), ?_⟩
    refine ⟨_, rfl, p, xs, rfl, hp, by omega, fun out no mo => ⟨_, rfl, p, _, rfl, .inr hp, rfl, ?_⟩⟩
    show Q (.bl (decide (V.int (out.length : Nat) = V.int ((xs.map V.str).length : Nat)))) H
    have e : decide (V.int (out.length : Nat) = V.int ((xs.map V.str).length : Nat)) = nodupB xs := by
      rw [List.length_map, ← nodup_len no mo, Bool.eq_iff_iff, decide_eq_true_eq, decide_eq_true_eq]
      exact ⟨fun z => V.int.inj z, fun z => by rw [z]⟩
    rw [e]
    exact k H (Same.refl H)
theorem ok_are_names {f : Addr} {fd : FuncData} (F : C8.Def K mg "are_names" s_are_names f fd) (b : Binds K fd ["thing"] []) (T : Txt K mg ad) (K_is_name : C8.Cal P w K mg base 2 "is_name" (spB K shortS isName) []) (K_are_different : C8.Cal P w K mg base 1 "are_different" (spDiff K) []) : C8.Cal P w K mg base 3 "are_names" (spB K sh1 areNames) [] := by
  refine C8.cal0 F b .nil sc_are_names (fun vs H Q E h => ?_) (fun cdv A outer s H vs Q E hr h => ?_)
  · obtain ⟨v, d, rfl, _⟩ := h
    rfl
  · obtain ⟨v, d, rfl, hv, hx, k⟩ := h
    refine ⟨_, (pss_one (ps_ret (pe_and (pe_callB call_isi (by rfl) T.z_isinstance (by decide +kernel) (pa_cons (pv 0) (pa_cons (pe_bltn (v := .ty "tuple") (by rfl) T.z_tuple (by decide +kernel) rfl) pa_nil))) (pe_and (pe_callB (cr_all rfl) (by rfl) T.z_all (by decide +kernel) (pa_cons (pe_lc (own := [("part", 1)]) (g := gName 1) (tt := tYes) rfl sc_are_names.nd (pi_tup (pv 0)) (blkOk_by (own := [("part", 1)]) (N := N_are_names) (sc := C8.fnScope s_are_names) (by decide +kernel)) (fun _ _ _ _ _ => (pg_name (i := 1) sc_are_names.nd rfl (Or.inl rfl))) (fun _ _ _ _ _ => pts_nil) (fun _ _ _ _ _ => (C8.pe_c K_is_name hr (by decide) (by rfl) (pa_cons (pv 1) pa_nil)))) pa_nil)) (pe_one (C8.pe_c K_are_different hr (by decide) (by rfl) (pa_cons (pv 0) pa_nil))))))), ?_⟩
    refine ⟨_, rfl, _, _, _, _, _, rfl, .ty _, dp_ty hv, kit_tuple, _, rfl, ?_⟩
    cases e : isTup d with
    | false =>
      have e2 : areNames d = false := by cases d <;> first | rfl | cases e
      have k1 := k H (Same.refl H)
      rw [e2] at k1
      exact iteF k1
    | true =>
    obtain ⟨ds, rfl⟩ := isTup_of e
    obtain ⟨p, xs, rfl, hp, hds⟩ := inv_tup hv
    have lx := dpAll_len hds
    refine iteT ?_
    refine ⟨_, rfl, p, rfl, ⟨_, hp⟩, fun D nD => lc_tup (xs := xs) (fun j H' => Same H H' ∧ H' D = some (.lst (((ds.take j).map isName).map V.bl))) ⟨Same.new nD, upd_same⟩ (fun i H' _ h => Same.seqT h.1 hp) ?_ ?_⟩
    · rintro i x H1 hxi ⟨S1, h1⟩
      have hi : i < ds.length := by
        rw [← lx]
        exact (List.getElem?_eq_some_iff.mp hxi).1
      obtain ⟨u, hu, hd⟩ := dpAll_get hds (List.getElem?_eq_getElem hi)
      rw [hxi] at hu
      cases hu
      refine ⟨rfl, ?_⟩
      refine ⟨_, rfl, _, _, rfl, dp_sm S1 hd, hx.2 _ (List.getElem_mem hi), fun H2 S2 => ⟨_, S2 _ _ h1, szw (by simp; have := hx.1; omega), Same.mut (S1.trans S2) nD, ?_⟩⟩
      rw [upd_same, take_snoc (List.getElem?_eq_getElem hi), List.map_append, List.map_append]
      rfl
    · rintro H1 ⟨S1, h1⟩
      rw [lx, List.take_length] at h1
      refine ⟨D, _, rfl, SqL.of h1, _, rfl, ?_⟩
      have e1 : (ds.map isName).all id = ds.all isName := by rw [List.all_map]; rfl
      rw [e1]
      cases c : ds.all isName with
      | false =>
        have e2 : areNames (.tuple ds) = false := by
          show (ds.all isName && nodupB (strsOf ds)) = _
          rw [c]
          rfl
        have k1 := k H1 S1
        rw [e2] at k1
        exact iteF k1
      | true =>
        have es := names_strs c
        have e3 : xs = (strsOf ds).map V.str := inv_strs (by rw [← es]; exact hds)
        have e4 : ds.length = (strsOf ds).length := by rw [← lx, e3, List.length_map]
        refine iteT ⟨_, rfl, p, strsOf ds, rfl, by rw [← e3]; exact Same.seqT S1 hp, by have := hx.1; omega, fun H2 S2 => ?_⟩
        have e2 : areNames (.tuple ds) = nodupB (strsOf ds) := by
          show (ds.all isName && nodupB (strsOf ds)) = _
          rw [c]
          rfl
        have k1 := k H2 (S1.trans S2)
        rw [e2] at k1
        exact k1
end
end K17

namespace K17
open PySem L2 Bx Tk Pm RZ
section
variable {P : Program} {w : World} {K : PySem.W.Frag} {mg : Str → Option Value} {base : Heap} {ad : Ad}
theorem ok_is_literal {f : Addr} {fd : FuncData} (F : C8.Def K mg "is_literal" s_is_literal f fd) (b : Binds K fd ["thing"] []) (T : Txt K mg ad) (K_is_number : C8.Cal P w K mg base 1 "is_number" (spB K (fun _ => True) isNum) []) : C8.Cal P w K mg base 2 "is_literal" (spB K (fun _ => True) isLit) [] := by
  refine C8.cal0 F b .nil sc_is_literal (fun vs H Q E h => ?_) (fun cdv A outer s H vs Q E hr h => ?_)
  · obtain ⟨v, d, rfl, _⟩ := h
    rfl
  · obtain ⟨v, d, rfl, hv, _, k⟩ := h
    refine ⟨_, (pss_cons (ps_if (PW.pt (pw_or (pt_not (pt_val (pe_callB call_isi (by rfl) T.z_isinstance (by decide +kernel) (pa_cons (pv 0) (pa_cons (pe_bltn (v := .ty "tuple") (by rfl) T.z_tuple (by decide +kernel) rfl) pa_nil))))) (pw_or1 (pt_cmpR op_ne (pe_callB call_len_seq (by rfl) T.z_len (by decide +kernel) (pa_cons (pv 0) pa_nil)) pe_int (nomark _))))) (pss_one (ps_ret pe_bl)) pss_nil)
    (pss_cons (ps_asg (pv 0) (pg_tup (by rfl) (pgs_cons (pg_name (i := 1) sc_is_literal.nd rfl (Or.inl rfl)) (pgs_cons (pg_name (i := 2) sc_is_literal.nd rfl (Or.inl rfl)) (pgs_cons (pg_name (i := 3) sc_is_literal.nd rfl (Or.inl rfl)) pgs_nil)))))
    (pss_one (ps_ret (pe_and (pe_callB call_isi (by rfl) T.z_isinstance (by decide +kernel) (pa_cons (pv 1) (pa_cons (pe_bltn (v := .ty "str") (by rfl) T.z_str (by decide +kernel) rfl) pa_nil))) (pe_and (pe_callB call_isi (by rfl) T.z_isinstance (by decide +kernel) (pa_cons (pv 2) (pa_cons (pe_bltn (v := .ty "str") (by rfl) T.z_str (by decide +kernel) rfl) pa_nil))) (pe_one (C8.pe_c K_is_number hr (by decide) (by rfl) (pa_cons (pv 3) pa_nil))))))))), ?_⟩
    refine ⟨_, rfl, _, _, _, _, _, rfl, .ty _, dp_ty hv, kit_tuple, _, rfl, ?_⟩
    have k0 := k H (Same.refl H)
    cases e : isTup d with
    | false =>
      have e2 : isLit d = false := by cases d <;> first | rfl | cases e
      rw [e2] at k0
      exact iteT (iteT k0)
    | true =>
    obtain ⟨ds, rfl⟩ := isTup_of e
    obtain ⟨p, xs, rfl, hp, hds⟩ := Pm.inv_tup hv
    have lx := dpAll_len hds
    refine iteF ?_
    refine ⟨_, rfl, p, _, rfl, .inr hp, rfl, _, rfl, ?_⟩
    rw [lenV, lx]
    by_cases h3 : ds.length = 3
    · obtain ⟨a, b, c, rfl⟩ := three h3
      refine iteFe (by simp) ?_
      obtain ⟨_, x, y, z, e1, hp, ha, hb, hc⟩ := inv3 hv
      cases e1
      refine ⟨_, rfl, p, _, rfl, hp, rfl, _, _, rfl, _, _, rfl, _, _, rfl, rfl, ?_⟩
      refine ⟨_, rfl, _, _, _, _, _, rfl, .ty _, dp_ty ha, kit_str, _, rfl, ?_⟩
      have k1 : ∀ H', Same H H' → Q (.bl (isStr a && (isStr b && isNum c))) H' := k
      cases e1 : isStr a with
      | false =>
        rw [e1] at k1
        exact iteF (k1 H (Same.refl H))
      | true =>
        rw [e1, Bool.true_and] at k1
        refine iteT ⟨_, rfl, _, _, _, _, _, rfl, .ty _, dp_ty hb, kit_str, _, rfl, ?_⟩
        cases e2 : isStr b with
        | false =>
          rw [e2] at k1
          exact iteF (k1 H (Same.refl H))
        | true =>
          rw [e2, Bool.true_and] at k1
          exact iteT ⟨_, rfl, _, _, rfl, hc, trivial, k1⟩
    · rw [lit_no h3] at k0
      exact iteTe (by simp; omega) k0
theorem ok_is_term {f : Addr} {fd : FuncData} (F : C8.Def K mg "is_term" s_is_term f fd) (b : Binds K fd ["thing"] []) (T : Txt K mg ad) (K_is_name : C8.Cal P w K mg base 2 "is_name" (spB K shortS isName) []) : C8.Cal P w K mg base 3 "is_term" (spB K shortS isTerm) [] := by
  refine C8.cal0 F b .nil sc_is_term (fun vs H Q E h => ?_) (fun cdv A outer s H vs Q E hr h => ?_)
  · obtain ⟨v, d, rfl, _⟩ := h
    rfl
  · obtain ⟨v, d, rfl, hv, hx, k⟩ := h
    refine ⟨_, (pss_one (ps_ret (pe_and (pe_callB call_isi (by rfl) T.z_isinstance (by decide +kernel) (pa_cons (pv 0) (pa_cons (pe_bltn (v := .ty "str") (by rfl) T.z_str (by decide +kernel) rfl) pa_nil))) (pe_one (pe_or (pe_cmpR op_eq (pv 0) pe_str (nomark _)) (pe_one (C8.pe_c K_is_name hr (by decide) (by rfl) (pa_cons (pv 0) pa_nil)))))))), ?_⟩
    refine ⟨_, rfl, _, _, _, _, _, rfl, .ty _, dp_ty hv, kit_str, _, rfl, ?_⟩
    cases e : isStr d with
    | false =>
      have e2 : isTerm d = false := by cases d <;> first | rfl | cases e
      have k0 := k H (Same.refl H)
      rw [e2] at k0
      exact iteF k0
    | true =>
    obtain ⟨x, rfl⟩ := isStr_of e
    cases inv_str hv
    refine iteT ⟨_, rfl, rfl, _, rfl, ?_⟩
    have k1 : ∀ H', Same H H' → Q (.bl (decide (x = "") || nameB x)) H' := k
    by_cases h0 : x = ""
    · rw [decide_eq_true h0, Bool.true_or] at k1
      exact iteTe (decide_eq_true (by rw [h0])) (k1 H (Same.refl H))
    · rw [decide_eq_false h0, Bool.false_or] at k1
      refine iteFe (decide_eq_false fun z => h0 (V.str.inj z)) ⟨_, rfl, _, .str x, rfl, .str x, hx, k1⟩
theorem ok_is_named_literal {f : Addr} {fd : FuncData} (F : C8.Def K mg "is_named_literal" s_is_named_literal f fd) (b : Binds K fd ["thing"] []) (T : Txt K mg ad) (K_is_literal : C8.Cal P w K mg base 2 "is_literal" (spB K (fun _ => True) isLit) []) (K_is_term : C8.Cal P w K mg base 3 "is_term" (spB K shortS isTerm) []) : C8.Cal P w K mg base 4 "is_named_literal" (spB K sh1 isNLit) [] := by
  refine C8.cal0 F b .nil sc_is_named_literal (fun vs H Q E h => ?_) (fun cdv A outer s H vs Q E hr h => ?_)
  · obtain ⟨v, d, rfl, _⟩ := h
    rfl
  · obtain ⟨v, d, rfl, hv, hx, k⟩ := h
    refine ⟨_, (pss_one (ps_ret (pe_and (C8.pe_c K_is_literal hr (by decide) (by rfl) (pa_cons (pv 0) pa_nil)) (pe_and (C8.pe_c K_is_term hr (by decide) (by rfl) (pa_cons (pe_ix ix_tup (pv 0) pe_int (fun _ _ => rfl)) pa_nil)) (pe_one (C8.pe_c K_is_term hr (by decide) (by rfl) (pa_cons (pe_ix ix_tup (pv 0) pe_int (fun _ _ => rfl)) pa_nil))))))), ?_⟩
    refine ⟨_, rfl, v, d, rfl, hv, trivial, fun H1 S1 => ⟨_, rfl, ?_⟩⟩
    cases e : isLit d with
    | false =>
      have k0 := k H1 S1
      rw [nlit_no e] at k0
      exact iteF k0
    | true =>
    obtain ⟨l, r, n, rfl⟩ := nlit_eq e
    obtain ⟨q, rfl, hq⟩ := inv_lit hv
    have hq1 := Same.seqT S1 hq
    have hxl : shortS (.str l) := hx.2 _ (by simp)
    have hxr : shortS (.str r) := hx.2 _ (by simp)
    refine iteT ⟨_, rfl, q, _, 0, _, rfl, rfl, hq1, rfl, _, .str l, rfl, .str l, hxl, fun H2 S2 => ⟨_, rfl, ?_⟩⟩
    have k1 : ∀ H', Same H H' → Q (.bl (termB l && termB r)) H' := k
    show (if termB l = true then _ else _)
    cases e1 : termB l with
    | false =>
      rw [e1] at k1
      exact iteF (k1 H2 (S1.trans S2))
    | true =>
      rw [e1, Bool.true_and] at k1
      exact iteT ⟨_, rfl, q, _, 1, _, rfl, rfl, Same.seqT S2 hq1, rfl, _, .str r, rfl, .str r, hxr, fun H3 S3 => k1 H3 ((S1.trans S2).trans S3)⟩
theorem ok_is_value {f : Addr} {fd : FuncData} (F : C8.Def K mg "is_value" s_is_value f fd) (b : Binds K fd ["thing"] []) (T : Txt K mg ad) (K_is_number : C8.Cal P w K mg base 1 "is_number" (spB K (fun _ => True) isNum) []) (K_is_term : C8.Cal P w K mg base 3 "is_term" (spB K shortS isTerm) []) : C8.Cal P w K mg base 4 "is_value" (spB K sh1 isValue) [] := by
  refine C8.cal0 F b .nil sc_is_value (fun vs H Q E h => ?_) (fun cdv A outer s H vs Q E hr h => ?_)
  · obtain ⟨v, d, rfl, _⟩ := h
    rfl
  · obtain ⟨v, d, rfl, hv, hx, k⟩ := h
    refine ⟨_, (pss_one (ps_ret (pe_and (pe_callB call_isi (by rfl) T.z_isinstance (by decide +kernel) (pa_cons (pv 0) (pa_cons (pe_bltn (v := .ty "tuple") (by rfl) T.z_tuple (by decide +kernel) rfl) pa_nil))) (pe_and (pe_cmpR op_eq (pe_callB call_len_seq (by rfl) T.z_len (by decide +kernel) (pa_cons (pv 0) pa_nil)) pe_int (nomark _)) (pe_and (C8.pe_c K_is_term hr (by decide) (by rfl) (pa_cons (pe_ix ix_tup (pv 0) pe_int (fun _ _ => rfl)) pa_nil)) (pe_one (C8.pe_c K_is_number hr (by decide) (by rfl) (pa_cons (pe_ix ix_tup (pv 0) pe_int (fun _ _ => rfl)) pa_nil)))))))), ?_⟩
    refine ⟨_, rfl, _, _, _, _, _, rfl, .ty _, dp_ty hv, kit_tuple, _, rfl, ?_⟩
    have k0 := k H (Same.refl H)
    cases e : isTup d with
    | false =>
      have e2 : isValue d = false := by cases d <;> first | rfl | cases e
      rw [e2] at k0
      exact iteF k0
    | true =>
    obtain ⟨ds, rfl⟩ := isTup_of e
    obtain ⟨p, xs, rfl, hp, hds⟩ := Pm.inv_tup hv
    have lx := dpAll_len hds
    refine iteT ⟨_, rfl, p, _, rfl, .inr hp, rfl, _, rfl, ?_⟩
    rw [lenV, lx]
    by_cases h3 : ds.length = 2
    · obtain ⟨a, b, rfl⟩ := two h3
      refine iteTe (by simp) ?_
      obtain ⟨_, x, y, e1, hp, ha, hb⟩ := inv2 hv
      cases e1
      have k1 : ∀ H', Same H H' → Q (.bl (isTerm a && isNum b)) H' := k
      refine ⟨_, rfl, p, _, 0, _, rfl, rfl, hp, rfl, _, a, rfl, ha, hx.2 _ (by simp), fun H2 S2 => ⟨_, rfl, ?_⟩⟩
      cases e1 : isTerm a with
      | false =>
        rw [e1] at k1
        exact iteF (k1 H2 S2)
      | true =>
        rw [e1, Bool.true_and] at k1
        exact iteT ⟨_, rfl, p, _, 1, _, rfl, rfl, Same.seqT S2 hp, rfl, _, b, rfl, dp_sm S2 hb, trivial, fun H3 S3 => k1 H3 (S2.trans S3)⟩
    · rw [value_no h3] at k0
      exact iteFe (by simp; omega) k0
theorem ok_is_handler {f : Addr} {fd : FuncData} (F : C8.Def K mg "is_handler" s_is_handler f fd) (b : Binds K fd ["thing"] []) (T : Txt K mg ad) (K_are_names : C8.Cal P w K mg base 3 "are_names" (spB K sh1 areNames) []) (K_is_name : C8.Cal P w K mg base 2 "is_name" (spB K shortS isName) []) : C8.Cal P w K mg base 4 "is_handler" (spB K sh2 isHandler) [] := by
  refine C8.cal0 F b .nil sc_is_handler (fun vs H Q E h => ?_) (fun cdv A outer s H vs Q E hr h => ?_)
  · obtain ⟨v, d, rfl, _⟩ := h
    rfl
  · obtain ⟨v, d, rfl, hv, hx, k⟩ := h
    refine ⟨_, (pss_cons (ps_if (PW.pt (pw_or (pt_not (pt_val (pe_callB call_isi (by rfl) T.z_isinstance (by decide +kernel) (pa_cons (pv 0) (pa_cons (pe_bltn (v := .ty "tuple") (by rfl) T.z_tuple (by decide +kernel) rfl) pa_nil))))) (pw_or1 (pt_cmpR op_ne (pe_callB call_len_seq (by rfl) T.z_len (by decide +kernel) (pa_cons (pv 0) pa_nil)) pe_int (nomark _))))) (pss_one (ps_ret pe_bl)) pss_nil)
    (pss_cons (ps_asg (pv 0) (pg_tup (by rfl) (pgs_cons (pg_name (i := 1) sc_is_handler.nd rfl (Or.inl rfl)) (pgs_cons (pg_name (i := 2) sc_is_handler.nd rfl (Or.inl rfl)) (pgs_cons (pg_name (i := 3) sc_is_handler.nd rfl (Or.inl rfl)) pgs_nil)))))
    (pss_one (ps_ret (pe_and (C8.pe_c K_are_names hr (by decide) (by rfl) (pa_cons (pv 1) pa_nil)) (pe_and (pe_or (pe_cmpR op_isN (pv 2) pe_non (nomark _)) (pe_one (C8.pe_c K_is_name hr (by decide) (by rfl) (pa_cons (pv 2) pa_nil)))) (pe_one (pe_callB call_isi (by rfl) T.z_isinstance (by decide +kernel) (pa_cons (pv 3) (pa_cons (pe_bltn (v := .ty "tuple") (by rfl) T.z_tuple (by decide +kernel) rfl) pa_nil)))))))))), ?_⟩
    refine ⟨_, rfl, _, _, _, _, _, rfl, .ty _, dp_ty hv, kit_tuple, _, rfl, ?_⟩
    have k0 := k H (Same.refl H)
    cases e : isTup d with
    | false =>
      have e2 : isHandler d = false := by cases d <;> first | rfl | cases e
      rw [e2] at k0
      exact iteT (iteT k0)
    | true =>
    obtain ⟨ds, rfl⟩ := isTup_of e
    obtain ⟨p, xs, rfl, hp, hds⟩ := Pm.inv_tup hv
    have lx := dpAll_len hds
    refine iteF ?_
    refine ⟨_, rfl, p, _, rfl, .inr hp, rfl, _, rfl, ?_⟩
    rw [lenV, lx]
    by_cases h3 : ds.length = 3
    · obtain ⟨a, b, c, rfl⟩ := three h3
      refine iteFe (by simp) ?_
      obtain ⟨_, x, y, z, e1, hp, ha, hb, hc⟩ := inv3 hv
      cases e1
      refine ⟨_, rfl, p, _, rfl, hp, rfl, _, _, rfl, _, _, rfl, _, _, rfl, rfl, ?_⟩
      have k1 : ∀ H', Same H H' → Q (.bl (areNames a && (noneOr b && isTup c))) H' := k
      refine ⟨_, rfl, _, _, rfl, ha, hx.2 _ (by simp), fun H1 S1 => ⟨_, rfl, ?_⟩⟩
      cases e1 : areNames a with
      | false =>
        rw [e1] at k1
        exact iteF (k1 H1 S1)
      | true =>
        rw [e1, Bool.true_and] at k1
        refine iteT ⟨_, rfl, rfl, _, rfl, ?_⟩
        by_cases hn : b = .none
        · subst hn
          cases inv_non hb
          refine iteTe (by rfl) ⟨_, rfl, ?_⟩
          exact iteT ⟨_, rfl, _, _, _, _, _, rfl, .ty _, dp_ty (dp_sm S1 hc), kit_tuple, k1 H1 S1⟩
        · have en : noneOr b = isName b := by cases b <;> first | rfl | exact absurd rfl hn
          rw [en] at k1
          refine iteFe (decide_eq_false fun z => hn (by rw [z] at hb; cases hb; rfl)) ⟨_, rfl, _, _, rfl, dp_sm S1 hb, sh1_s (hx.2 _ (by simp)), fun H2 S2 => ?_⟩
          refine ⟨_, rfl, ?_⟩
          have k2 := k1 H2 (S1.trans S2)
          cases e2 : isName b with
          | false =>
            rw [e2, Bool.false_and] at k2
            exact iteFe rfl k2
          | true =>
            rw [e2, Bool.true_and] at k2
            exact iteTe rfl ⟨_, rfl, _, _, _, _, _, rfl, .ty _, dp_ty (dp_sm (S1.trans S2) hc), kit_tuple, k2⟩
    · rw [handler_no h3] at k0
      exact iteTe (by simp; omega) k0
end
end K17

namespace K17
open PySem L2 Bx Tk Pm RZ
section
variable {P : Program} {w : World} {K : PySem.W.Frag} {mg : Str → Option Value} {base : Heap} {ad : Ad}
def spKind (K : PySem.W.Frag) : Sp := fun vs H Q _ => ∃ v d kd, vs = [v, .str kd] ∧ Dp K H v d ∧ sh3 d ∧ ∀ H', Same H H' → Q (.bl (ofKind kd d)) H'
theorem ok_is_of_kind {f : Addr} {fd : FuncData} (F : C8.Def K mg "is_of_kind" s_is_of_kind f fd) (b : Binds K fd ["part", "kind"] []) (T : Txt K mg ad) (K_is_name : C8.Cal P w K mg base 2 "is_name" (spB K shortS isName) []) (K_is_value : C8.Cal P w K mg base 4 "is_value" (spB K sh1 isValue) [])
    (K_is_named_literal : C8.Cal P w K mg base 4 "is_named_literal" (spB K sh1 isNLit) []) (K_is_handler : C8.Cal P w K mg base 4 "is_handler" (spB K sh2 isHandler) []) : C8.Cal P w K mg base 5 "is_of_kind" (spKind K) [] := by
  refine C8.cal0 F b .nil sc_is_of_kind (fun vs H Q E h => ?_) (fun cdv A outer s H vs Q E hr h => ?_)
  · obtain ⟨v, d, kd, rfl, _⟩ := h
    rfl
  · obtain ⟨v, d, kd, rfl, hv, hx, k⟩ := h
    refine ⟨_, (pss_cons (ps_if (pt_cmpR op_eq (pv 1) pe_str (nomark _)) (pss_one (ps_ret (C8.pe_c K_is_name hr (by decide) (by rfl) (pa_cons (pv 0) pa_nil)))) pss_nil)
    (pss_cons (ps_if (pt_cmpR op_eq (pv 1) pe_str (nomark _)) (pss_one (ps_ret (C8.pe_c K_is_value hr (by decide) (by rfl) (pa_cons (pv 0) pa_nil)))) pss_nil)
    (pss_cons (ps_if (pt_cmpR op_eq (pv 1) pe_str (nomark _)) (pss_one (ps_ret (C8.pe_c K_is_named_literal hr (by decide) (by rfl) (pa_cons (pv 0) pa_nil)))) pss_nil)
    (pss_cons (ps_if (pt_cmpR op_eq (pv 1) pe_str (nomark _)) (pss_one (ps_ret (pe_callB call_isi (by rfl) T.z_isinstance (by decide +kernel) (pa_cons (pv 0) (pa_cons (pe_bltn (v := .ty "tuple") (by rfl) T.z_tuple (by decide +kernel) rfl) pa_nil))))) pss_nil)
    (pss_one (ps_ret (pe_and (pe_callB call_isi (by rfl) T.z_isinstance (by decide +kernel) (pa_cons (pv 0) (pa_cons (pe_bltn (v := .ty "tuple") (by rfl) T.z_tuple (by decide +kernel) rfl) pa_nil))) (pe_and (pe_cmpR op_le (pe_callB call_len_seq (by rfl) T.z_len (by decide +kernel) (pa_cons (pv 0) pa_nil)) (C8.pe_gc (by rfl) T.c_MOST_HANDLERS) (nomark _)) (pe_one (pe_callB (cr_all rfl) (by rfl) T.z_all (by decide +kernel) (pa_cons (pe_lc (own := [("item", 2)]) (g := gName 2) (tt := tYes) rfl sc_is_of_kind.nd ((piTK K) (pv 0)) (blkOk_by (own := [("item", 2)]) (N := N_is_of_kind) (sc := C8.fnScope s_is_of_kind) (by decide +kernel)) (fun _ _ _ _ _ => (pg_name (i := 2) sc_is_of_kind.nd rfl (Or.inl rfl))) (fun _ _ _ _ _ => pts_nil) (fun _ _ _ _ _ => (C8.pe_c K_is_handler hr (by decide) (by rfl) (pa_cons (pv 2) pa_nil)))) pa_nil))))))))))), ?_⟩
    refine ⟨_, rfl, rfl, _, rfl, ?_⟩
    unfold ofKind at k
    by_cases c1 : kd = "name"
    · rw [if_pos c1] at k
      exact iteTe (decide_eq_true (by rw [c1])) ⟨_, rfl, v, d, rfl, hv, sh1_s (sh2_1 (sh3_2 hx)), k⟩
    rw [if_neg c1] at k
    refine iteFe (decide_eq_false fun z => c1 (V.str.inj z)) ⟨_, rfl, rfl, _, rfl, ?_⟩
    by_cases c2 : kd = "value"
    · rw [if_pos c2] at k
      exact iteTe (decide_eq_true (by rw [c2])) ⟨_, rfl, v, d, rfl, hv, sh2_1 (sh3_2 hx), k⟩
    rw [if_neg c2] at k
    refine iteFe (decide_eq_false fun z => c2 (V.str.inj z)) ⟨_, rfl, rfl, _, rfl, ?_⟩
    by_cases c3 : kd = "literal"
    · rw [if_pos c3] at k
      exact iteTe (decide_eq_true (by rw [c3])) ⟨_, rfl, v, d, rfl, hv, sh2_1 (sh3_2 hx), k⟩
    rw [if_neg c3] at k
    refine iteFe (decide_eq_false fun z => c3 (V.str.inj z)) ⟨_, rfl, rfl, _, rfl, ?_⟩
    by_cases c4 : kd = "block"
    · rw [if_pos c4] at k
      exact iteTe (decide_eq_true (by rw [c4])) ⟨_, rfl, _, _, _, _, _, rfl, .ty _, dp_ty hv, kit_tuple, k H (Same.refl H)⟩
    rw [if_neg c4] at k
    refine iteFe (decide_eq_false fun z => c4 (V.str.inj z)) ?_
    refine ⟨_, rfl, _, _, _, _, _, rfl, .ty _, dp_ty hv, kit_tuple, _, rfl, ?_⟩
    have k0 := k H (Same.refl H)
    cases e : isTup d with
    | false =>
      have e2 : handlersB d = false := by cases d <;> first | rfl | cases e
      rw [e2] at k0
      exact iteF k0
    | true =>
    obtain ⟨ds, rfl⟩ := isTup_of e
    obtain ⟨p, xs, rfl, hp, hds⟩ := Pm.inv_tup hv
    have lx := dpAll_len hds
    have k1 : ∀ H', Same H H' → Q (.bl (decide ((ds.length : Int) ≤ 3) && ds.all isHandler)) H' := k
    refine iteT ⟨_, rfl, p, _, rfl, .inr hp, _, _, rfl, rfl, _, rfl, ?_⟩
    rw [lx]
    cases c5 : decide ((ds.length : Int) ≤ 3) with
    | false =>
      rw [c5] at k1
      exact iteF (k1 H (Same.refl H))
    | true =>
    rw [c5, Bool.true_and] at k1
    refine iteT ⟨_, rfl, p, rfl, ⟨_, hp⟩, fun D nD => lc_tup (xs := xs) (fun j H' => Same H H' ∧ H' D = some (.lst (((ds.take j).map isHandler).map V.bl))) ⟨Same.new nD, upd_same⟩ (fun i H' _ h => Same.seqT h.1 hp) ?_ ?_⟩
    · rintro i x H1 hxi ⟨S1, h1⟩
      have hi : i < ds.length := by
        rw [← lx]
        exact (List.getElem?_eq_some_iff.mp hxi).1
      obtain ⟨u, hu, hd⟩ := dpAll_get hds (List.getElem?_eq_getElem hi)
      rw [hxi] at hu
      cases hu
      refine ⟨rfl, ?_⟩
      refine ⟨_, rfl, _, _, rfl, dp_sm S1 hd, hx.2 _ (List.getElem_mem hi), fun H2 S2 => ⟨_, S2 _ _ h1, szw (by simp; have := hx.1; omega), Same.mut (S1.trans S2) nD, ?_⟩⟩
      rw [upd_same, take_snoc (List.getElem?_eq_getElem hi), List.map_append, List.map_append]
      rfl
    · rintro H1 ⟨S1, h1⟩
      rw [lx, List.take_length] at h1
      refine ⟨D, _, rfl, SqL.of h1, ?_⟩
      have e1 : (ds.map isHandler).all id = ds.all isHandler := by rw [List.all_map]; rfl
      rw [e1]
      exact k1 H1 S1
theorem ok_has_shape {f : Addr} {fd : FuncData} (F : C8.Def K mg "has_shape" s_has_shape f fd) (b : Binds K fd ["thing"] []) (T : Txt K mg ad) (S : ShpOk K w ad.shp) (K_is_of_kind : C8.Cal P w K mg base 5 "is_of_kind" (spKind K) []) : C8.Cal P w K mg base 6 "has_shape" (spB K sh4 hasShapeD) [] := by
  refine C8.cal0 F b .nil sc_has_shape (fun vs H Q E h => ?_) (fun cdv A outer s H vs Q E hr h => ?_)
  · obtain ⟨v, d, rfl, _⟩ := h
    rfl
  · obtain ⟨v, d, rfl, hv, hx, k⟩ := h
    refine ⟨_, (pss_cons (ps_if (PW.pt (pw_or (pt_not (pt_val (pe_callB call_isi (by rfl) T.z_isinstance (by decide +kernel) (pa_cons (pv 0) (pa_cons (pe_bltn (v := .ty "tuple") (by rfl) T.z_tuple (by decide +kernel) rfl) pa_nil))))) (pw_or (pt_not (pt_truth (pv 0) (by intro _; rfl))) (pw_or (pt_not (pt_val (pe_callB call_isi (by rfl) T.z_isinstance (by decide +kernel) (pa_cons (pe_ix ix_tup (pv 0) pe_int (fun _ _ => rfl)) (pa_cons (pe_bltn (v := .ty "str") (by rfl) T.z_str (by decide +kernel) rfl) pa_nil))))) (pw_or1 (pt_cmpR (Kd.op_notInSD S.sd) (pe_ix ix_tup (pv 0) pe_int (fun _ _ => rfl)) (C8.pe_gc (by rfl) T.c_SHAPES) (by rfl))))))) (pss_one (ps_ret pe_bl)) pss_nil)
    (pss_cons (ps_set (i := 1) sc_has_shape.nd rfl (Or.inl rfl) (pe_ix ix_kdict (C8.pe_gc (by rfl) T.c_SHAPES) (pe_ix ix_tup (pv 0) pe_int (fun _ _ => rfl)) (fun _ _ => rfl)))
    (pss_cons (ps_if (pt_cmpR op_ne (pe_callB call_len_seq (by rfl) T.z_len (by decide +kernel) (pa_cons (pv 0) pa_nil)) (pe_op op_add pe_int (pe_callB call_len_seq (by rfl) T.z_len (by decide +kernel) (pa_cons (pv 1) pa_nil))) (nomark _)) (pss_one (ps_ret pe_bl)) pss_nil)
    (pss_one (ps_ret (pe_callB (cr_all rfl) (by rfl) T.z_all (by decide +kernel) (pa_cons (pe_lc (own := [("part", 2), ("kind", 3)]) (g := _) (tt := tYes) rfl sc_has_shape.nd (RZ.pi_zipA (by rfl) T.z_zip (pa_cons (pe_slice sl_tupA (pv 0) (po_some pe_int) po_none) (pa_cons (pv 1) pa_nil))) (blkOk_by (own := [("part", 2), ("kind", 3)]) (N := N_has_shape) (sc := C8.fnScope s_has_shape) (by decide +kernel)) (fun _ _ _ _ _ => (pgTK K 2 (pgs_cons (pg_name (i := 2) sc_has_shape.nd rfl (Or.inl rfl)) (pgs_cons (pg_name (i := 3) sc_has_shape.nd rfl (Or.inl rfl)) pgs_nil)))) (fun _ _ _ _ _ => pts_nil) (fun _ _ _ _ _ => (C8.pe_c K_is_of_kind hr (by decide) (by rfl) (pa_cons (pv 2) (pa_cons (pv 3) pa_nil))))) pa_nil))))))), ?_⟩
    refine ⟨_, rfl, _, _, _, _, _, rfl, .ty _, dp_ty hv, kit_tuple, _, rfl, ?_⟩
    have k0 := k H (Same.refl H)
    cases e : isTup d with
    | false =>
      have e2 : hasShapeD d = false := by cases d <;> first | rfl | cases e
      rw [e2] at k0
      exact iteT (iteT k0)
    | true =>
    obtain ⟨ds, rfl⟩ := isTup_of e
    obtain ⟨p, xs, rfl, hp, hds⟩ := Pm.inv_tup hv
    have lx := dpAll_len hds
    refine iteF ⟨_, rfl, _, .inr (.inl ⟨_, hp, rfl⟩), ?_⟩
    cases ds with
    | nil =>
      cases inv_nil hds
      exact iteT (iteT k0)
    | cons d0 dr =>
    obtain ⟨x0, r, rfl, h0, hr2⟩ := inv_cons hds
    refine iteF ⟨_, rfl, p, _, 0, _, rfl, rfl, hp, atI_nat (j := 0) rfl, _, _, _, _, _, rfl, .ty _, dp_ty h0, kit_str, _, rfl, ?_⟩
    cases e0 : isStr d0 with
    | false =>
      have e2 : hasShapeD (.tuple (d0 :: dr)) = false := by cases d0 <;> first | rfl | cases e0
      rw [e2] at k0
      exact iteT (iteT k0)
    | true =>
    obtain ⟨x, rfl⟩ := isStr_of e0
    cases inv_str h0
    refine iteF ⟨_, rfl, p, _, 0, _, rfl, rfl, hp, atI_nat (j := 0) rfl, x, rfl, rfl, _, rfl, ?_⟩
    have k1 : ∀ H', Same H H' → Q (.bl (match shapeOf x with | some ks => decide (dr.length = ks.length) && (dr.zip ks).all fun p => ofKind p.2 p.1 | none => false)) H' := k
    cases es : shapeOf x with
    | none =>
      rw [es] at k1
      refine iteTe (by rw [decide_eq_false (shape_none.mp es)]; rfl) (k1 H (Same.refl H))
    | some ks =>
    rw [es] at k1
    have hm := shape_mem es
    obtain ⟨sh, hsh, hss⟩ := S.get _ hm
    have k1 : ∀ H', Same H H' → Q (.bl (decide (dr.length = ks.length) && (dr.zip ks).all fun p => ofKind p.2 p.1)) H' := k1
    have hin : x ∈ shapes.map (·.1) := List.mem_map_of_mem hm
    have lr : r.length = dr.length := by simpa using lx
    refine iteFe (by rw [decide_eq_true hin]; rfl) ?_
    refine ⟨_, rfl, p, _, 0, _, rfl, rfl, hp, atI_nat (j := 0) rfl, ad.shp, x, _, rfl, rfl, hsh, ?_⟩
    refine ⟨_, rfl, p, _, rfl, .inr hp, _, rfl, sh, _, rfl, .inr (hss _), _, _, rfl, rfl, rfl, _, rfl, ?_⟩
    have el : (!decide (V.int (((V.str x) :: r).length : Nat) = V.int (1 + ((ks.map V.str).length : Nat)))) = !decide (dr.length = ks.length) := by
      congr 1
      rw [Bool.eq_iff_iff, decide_eq_true_eq, decide_eq_true_eq, List.length_cons, List.length_map, lr]
      constructor
      · intro z
        have := V.int.inj z
        omega
      · intro z
        rw [z]
        congr 1
        omega
    rw [el]
    by_cases c : dr.length = ks.length
    · rw [decide_eq_true c, Bool.true_and] at k1
      refine iteFe (by rw [decide_eq_true c]; rfl) ?_
      refine ⟨_, rfl, _, rfl, p, _, rfl, hp, fun z => absurd z (cut1 _ _).2, fun _ q nq => ?_⟩
      rw [(cut1 (V.str x) r).1]
      have S1 : Same H (upd H q (.tup r)) := Same.new nq
      have hq : (upd H q (.tup r)) q = some (.tup r) := upd_same
      generalize upd H q (.tup r) = H1 at S1 hq
      have hr3 : DpAll K H1 r dr := dpA_sm S1 hr2
      refine ⟨_, rfl, q, sh, _, _, rfl, .inr ⟨SqT.of hq, hss H1, fun D nD => lc_it (walk_zipT (n := dr.length) (by rw [List.length_map, lr]; show dr.length = min dr.length ks.length; omega)) (fun j H' => Same H1 H' ∧ H' D = some (.lst ((((dr.zip ks).take j).map fun p => ofKind p.2 p.1).map V.bl))) ⟨Same.new nD, upd_same⟩ (fun i H' _ h => ⟨Same.seqT h.1 (SqT.of hq), hss _⟩) ?_ ?_⟩⟩
      · rintro i z H2 H3 hi ⟨S2, h2⟩ ⟨t, x1, y1, rfl, nt, rfl, e1, e2⟩
        have hid : dr[i]? = some dr[i] := List.getElem?_eq_getElem hi
        obtain ⟨u, hu, hd⟩ := dpAll_get hr3 hid
        have e1 : r[i]? = some x1 := e1
        have e2 : (ks.map V.str)[i]? = some y1 := e2
        rw [e1] at hu
        cases hu
        rw [List.getElem?_map] at e2
        obtain ⟨kd, hk, rfl⟩ := Option.map_eq_some_iff.mp e2
        have S3 : Same H1 (upd H2 t (.tup [x1, .str kd])) := Same.mut S2 (Same.free S2 nt)
        have et : (upd H2 t (.tup [x1, .str kd])) t = some (.tup [x1, .str kd]) := upd_same
        have h3 : (upd H2 t (.tup [x1, .str kd])) D = some (.lst ((((dr.zip ks).take i).map fun p => ofKind p.2 p.1).map V.bl)) := by
          rw [upd_ne (ne_of_none h2 nt)]
          exact h2
        generalize upd H2 t (.tup [x1, .str kd]) = H4 at S3 et h3
        refine ⟨t, _, rfl, SqT.of et, rfl, _, _, rfl, _, _, rfl, rfl, rfl, ?_⟩
        refine ⟨_, rfl, _, rfl, x1, dr[i], kd, rfl, dp_sm S3 hd, hx.2 _ (List.mem_cons_of_mem _ (List.getElem_mem hi)), fun H5 S5 => ⟨_, S5 _ _ h3, szw ?_, Same.mut (S3.trans S5) nD, ?_⟩⟩
        · simp
          have := hx.1
          simp at this
          omega
        · rw [upd_same, take_snoc (all_zip (fun _ _ => true) _ _ _ _ _ hid hk), List.map_append, List.map_append]
          rfl
      · rintro H2 ⟨S2, h2⟩
        have lz : (dr.zip ks).length = dr.length := by rw [List.length_zip, c, Nat.min_self]
        rw [← lz, List.take_length] at h2
        refine ⟨D, _, rfl, SqL.of h2, ?_⟩
        have e1 : (((dr.zip ks).map fun p => ofKind p.2 p.1)).all id = (dr.zip ks).all fun p => ofKind p.2 p.1 := by rw [List.all_map]; rfl
        rw [e1]
        exact k1 H2 (S1.trans S2)
    · rw [decide_eq_false c] at k1
      refine iteTe (by rw [decide_eq_false c]; rfl) (k1 H (Same.refl H))
end
end K17

namespace K17
open PySem L2 Bx Tk Pm RZ
section
variable {P : Program} {w : World} {K : PySem.W.Frag} {mg : Str → Option Value} {base : Heap} {ad : Ad}
theorem new_eq {H1 : Hp} {p : Addr} {o : HO} : (upd H1 p o) p = some o := upd_same
def spTerms (K : PySem.W.Frag) : Sp := fun vs H Q _ => ∃ v s, vs = [v] ∧ Dp K H v (encS s) ∧ hasShape s = true ∧ ∀ H' L, Same H H' → H L = none → H' L = some (.lst ((termsOf s).map V.str)) → Q (.ref L) H'
theorem ok_terms_of {f : Addr} {fd : FuncData} (F : C8.Def K mg "terms_of" s_terms_of f fd) (b : Binds K fd ["statement"] []) (T : Txt K mg ad) : C8.Cal P w K mg base 1 "terms_of" (spTerms K) [] := by
  refine C8.cal0 F b .nil sc_terms_of (fun vs H Q E h => ?_) (fun cdv A outer s H vs Q E hr h => ?_)
  · obtain ⟨v, s, rfl, _⟩ := h
    rfl
  · obtain ⟨v, st, rfl, hv, hsh, k⟩ := h
    have t0 : (0 : Nat) ≤ sizeLine := by decide
    have t1 : (1 : Nat) ≤ sizeLine := by decide
    have t2 : (2 : Nat) ≤ sizeLine := by decide
    refine ⟨_, (pss_cons (ps_set (i := 1) sc_terms_of.nd rfl (Or.inl rfl) (pe_ix ix_tup (pv 0) pe_int (fun _ _ => rfl)))
    (pss_cons (ps_if (pt_cmpR op_in_seq (pv 1) (pe_tup (pa_cons pe_str (pa_cons pe_str pa_nil))) (by rfl)) (pss_one (ps_ret (pe_lst (pa_cons (pe_ix ix_tup (pe_ix ix_tup (pv 0) pe_int (fun _ _ => rfl)) pe_int (fun _ _ => rfl)) pa_nil)))) pss_nil)
    (pss_cons (ps_if (pt_cmpR op_in_seq (pv 1) (pe_tup (pa_cons pe_str (pa_cons pe_str pa_nil))) (by rfl)) (pss_one (ps_ret (pe_lst (pa_cons (pe_ix ix_tup (pe_ix ix_tup (pv 0) pe_int (fun _ _ => rfl)) pe_int (fun _ _ => rfl)) (pa_cons (pe_ix ix_tup (pe_ix ix_tup (pv 0) pe_int (fun _ _ => rfl)) pe_int (fun _ _ => rfl)) pa_nil))))) pss_nil)
    (pss_one (ps_ret (pe_ifExp (pt_cmpR op_eq (pv 1) pe_str (nomark _)) (pe_lst (pa_cons (pe_ix ix_tup (pe_ix ix_tup (pv 0) pe_int (fun _ _ => rfl)) pe_int (fun _ _ => rfl)) (pa_cons (pe_ix ix_tup (pe_ix ix_tup (pv 0) pe_int (fun _ _ => rfl)) pe_int (fun _ _ => rfl)) pa_nil))) (pe_lst pa_nil))))))), ?_⟩
    cases st with
    | set x t n =>
      obtain ⟨a, y, rfl, ha, hy⟩ := st_set hv
      refine ⟨_, rfl, a, _, 0, _, rfl, rfl, ha, rfl, ?_⟩
      refine ⟨_, rfl, t2, fun t1' nt => ⟨t1', _, rfl, .inr (SqT.of upd_same), rfl, rfl, _, rfl, iteTe (by decide +kernel) ?_⟩⟩
      have S1 : Same H (upd H t1' (.tup [.str "set", .str "raise"])) := Same.new nt
      generalize upd H t1' (.tup [.str "set", .str "raise"]) = H1 at S1
      refine ⟨_, rfl, a, _, 2, _, rfl, rfl, Same.seqT S1 ha, rfl, y, _, 0, _, rfl, rfl, Same.seqT S1 hy, rfl, t1, fun L nL => ?_⟩
      exact k _ L (Same.mut S1 (Same.free S1 nL)) (Same.free S1 nL) new_eq
    | read x =>
      obtain ⟨a, rfl, ha⟩ := st_read hv
      refine ⟨_, rfl, a, _, 0, _, rfl, rfl, ha, rfl, ?_⟩
      refine ⟨_, rfl, t2, fun t1' nt => ⟨t1', _, rfl, .inr (SqT.of upd_same), rfl, rfl, _, rfl, iteFe (by decide +kernel) ?_⟩⟩
      have S1 : Same H (upd H t1' (.tup [.str "set", .str "raise"])) := Same.new nt
      generalize upd H t1' (.tup [.str "set", .str "raise"]) = H1 at S1
      refine ⟨_, rfl, t2, fun t2' nt => ⟨t2', _, rfl, .inr (SqT.of upd_same), rfl, rfl, _, rfl, iteFe (by decide +kernel) ?_⟩⟩
      have S2 : Same H (upd H1 t2' (.tup [.str "if", .str "ask"])) := Same.mut S1 (Same.free S1 nt)
      generalize upd H1 t2' (.tup [.str "if", .str "ask"]) = H2 at S2
      refine ⟨_, rfl, rfl, _, rfl, iteFe (by decide +kernel) ?_⟩
      refine ⟨t0, fun L nL => ?_⟩
      exact k _ L (Same.mut S2 (Same.free S2 nL)) (Same.free S2 nL) new_eq
    | ite l r n bb cc =>
      obtain ⟨a, y, u, z, rfl, ha, hy, hb, hc⟩ := st_ite hv
      refine ⟨_, rfl, a, _, 0, _, rfl, rfl, ha, rfl, ?_⟩
      refine ⟨_, rfl, t2, fun t1' nt => ⟨t1', _, rfl, .inr (SqT.of upd_same), rfl, rfl, _, rfl, iteFe (by decide +kernel) ?_⟩⟩
      have S1 : Same H (upd H t1' (.tup [.str "set", .str "raise"])) := Same.new nt
      generalize upd H t1' (.tup [.str "set", .str "raise"]) = H1 at S1
      refine ⟨_, rfl, t2, fun t2' nt => ⟨t2', _, rfl, .inr (SqT.of upd_same), rfl, rfl, _, rfl, iteTe (by decide +kernel) ?_⟩⟩
      have S2 : Same H (upd H1 t2' (.tup [.str "if", .str "ask"])) := Same.mut S1 (Same.free S1 nt)
      generalize upd H1 t2' (.tup [.str "if", .str "ask"]) = H2 at S2
      refine ⟨_, rfl, a, _, 1, _, rfl, rfl, Same.seqT S2 ha, rfl, y, _, 0, _, rfl, rfl, Same.seqT S2 hy, rfl, ?_⟩
      refine ⟨_, rfl, a, _, 1, _, rfl, rfl, Same.seqT S2 ha, rfl, y, _, 1, _, rfl, rfl, Same.seqT S2 hy, rfl, t2, fun L nL => ?_⟩
      exact k _ L (Same.mut S2 (Same.free S2 nL)) (Same.free S2 nL) new_eq
    | choose bb cc =>
      obtain ⟨a, u, z, rfl, ha, hb, hc⟩ := st_choose hv
      refine ⟨_, rfl, a, _, 0, _, rfl, rfl, ha, rfl, ?_⟩
      refine ⟨_, rfl, t2, fun t1' nt => ⟨t1', _, rfl, .inr (SqT.of upd_same), rfl, rfl, _, rfl, iteFe (by decide +kernel) ?_⟩⟩
      have S1 : Same H (upd H t1' (.tup [.str "set", .str "raise"])) := Same.new nt
      generalize upd H t1' (.tup [.str "set", .str "raise"]) = H1 at S1
      refine ⟨_, rfl, t2, fun t2' nt => ⟨t2', _, rfl, .inr (SqT.of upd_same), rfl, rfl, _, rfl, iteFe (by decide +kernel) ?_⟩⟩
      have S2 : Same H (upd H1 t2' (.tup [.str "if", .str "ask"])) := Same.mut S1 (Same.free S1 nt)
      generalize upd H1 t2' (.tup [.str "if", .str "ask"]) = H2 at S2
      refine ⟨_, rfl, rfl, _, rfl, iteFe (by decide +kernel) ?_⟩
      refine ⟨t0, fun L nL => ?_⟩
      exact k _ L (Same.mut S2 (Same.free S2 nL)) (Same.free S2 nL) new_eq
    | ask l r n kd =>
      obtain ⟨a, y, rfl, ha, hy⟩ := st_ask hv
      refine ⟨_, rfl, a, _, 0, _, rfl, rfl, ha, rfl, ?_⟩
      refine ⟨_, rfl, t2, fun t1' nt => ⟨t1', _, rfl, .inr (SqT.of upd_same), rfl, rfl, _, rfl, iteFe (by decide +kernel) ?_⟩⟩
      have S1 : Same H (upd H t1' (.tup [.str "set", .str "raise"])) := Same.new nt
      generalize upd H t1' (.tup [.str "set", .str "raise"]) = H1 at S1
      refine ⟨_, rfl, t2, fun t2' nt => ⟨t2', _, rfl, .inr (SqT.of upd_same), rfl, rfl, _, rfl, iteTe (by decide +kernel) ?_⟩⟩
      have S2 : Same H (upd H1 t2' (.tup [.str "if", .str "ask"])) := Same.mut S1 (Same.free S1 nt)
      generalize upd H1 t2' (.tup [.str "if", .str "ask"]) = H2 at S2
      refine ⟨_, rfl, a, _, 1, _, rfl, rfl, Same.seqT S2 ha, rfl, y, _, 0, _, rfl, rfl, Same.seqT S2 hy, rfl, ?_⟩
      refine ⟨_, rfl, a, _, 1, _, rfl, rfl, Same.seqT S2 ha, rfl, y, _, 1, _, rfl, rfl, Same.seqT S2 hy, rfl, t2, fun L nL => ?_⟩
      exact k _ L (Same.mut S2 (Same.free S2 nL)) (Same.free S2 nL) new_eq
    | raise kd t n =>
      obtain ⟨a, y, rfl, ha, hy⟩ := st_raise hv
      refine ⟨_, rfl, a, _, 0, _, rfl, rfl, ha, rfl, ?_⟩
      refine ⟨_, rfl, t2, fun t1' nt => ⟨t1', _, rfl, .inr (SqT.of upd_same), rfl, rfl, _, rfl, iteTe (by decide +kernel) ?_⟩⟩
      have S1 : Same H (upd H t1' (.tup [.str "set", .str "raise"])) := Same.new nt
      generalize upd H t1' (.tup [.str "set", .str "raise"]) = H1 at S1
      refine ⟨_, rfl, a, _, 2, _, rfl, rfl, Same.seqT S1 ha, rfl, y, _, 0, _, rfl, rfl, Same.seqT S1 hy, rfl, t1, fun L nL => ?_⟩
      exact k _ L (Same.mut S1 (Same.free S1 nL)) (Same.free S1 nL) new_eq
    | out x =>
      obtain ⟨a, rfl, ha⟩ := st_out hv
      refine ⟨_, rfl, a, _, 0, _, rfl, rfl, ha, rfl, ?_⟩
      refine ⟨_, rfl, t2, fun t1' nt => ⟨t1', _, rfl, .inr (SqT.of upd_same), rfl, rfl, _, rfl, iteFe (by decide +kernel) ?_⟩⟩
      have S1 : Same H (upd H t1' (.tup [.str "set", .str "raise"])) := Same.new nt
      generalize upd H t1' (.tup [.str "set", .str "raise"]) = H1 at S1
      refine ⟨_, rfl, t2, fun t2' nt => ⟨t2', _, rfl, .inr (SqT.of upd_same), rfl, rfl, _, rfl, iteFe (by decide +kernel) ?_⟩⟩
      have S2 : Same H (upd H1 t2' (.tup [.str "if", .str "ask"])) := Same.mut S1 (Same.free S1 nt)
      generalize upd H1 t2' (.tup [.str "if", .str "ask"]) = H2 at S2
      refine ⟨_, rfl, rfl, _, rfl, iteFe (by decide +kernel) ?_⟩
      refine ⟨t0, fun L nL => ?_⟩
      exact k _ L (Same.mut S2 (Same.free S2 nL)) (Same.free S2 nL) new_eq
    | leave  =>
      obtain ⟨a, rfl, ha⟩ := st_leave hv
      refine ⟨_, rfl, a, _, 0, _, rfl, rfl, ha, rfl, ?_⟩
      refine ⟨_, rfl, t2, fun t1' nt => ⟨t1', _, rfl, .inr (SqT.of upd_same), rfl, rfl, _, rfl, iteFe (by decide +kernel) ?_⟩⟩
      have S1 : Same H (upd H t1' (.tup [.str "set", .str "raise"])) := Same.new nt
      generalize upd H t1' (.tup [.str "set", .str "raise"]) = H1 at S1
      refine ⟨_, rfl, t2, fun t2' nt => ⟨t2', _, rfl, .inr (SqT.of upd_same), rfl, rfl, _, rfl, iteFe (by decide +kernel) ?_⟩⟩
      have S2 : Same H (upd H1 t2' (.tup [.str "if", .str "ask"])) := Same.mut S1 (Same.free S1 nt)
      generalize upd H1 t2' (.tup [.str "if", .str "ask"]) = H2 at S2
      refine ⟨_, rfl, rfl, _, rfl, iteFe (by decide +kernel) ?_⟩
      refine ⟨t0, fun L nL => ?_⟩
      exact k _ L (Same.mut S2 (Same.free S2 nL)) (Same.free S2 nL) new_eq
    | again  =>
      obtain ⟨a, rfl, ha⟩ := st_again hv
      refine ⟨_, rfl, a, _, 0, _, rfl, rfl, ha, rfl, ?_⟩
      refine ⟨_, rfl, t2, fun t1' nt => ⟨t1', _, rfl, .inr (SqT.of upd_same), rfl, rfl, _, rfl, iteFe (by decide +kernel) ?_⟩⟩
      have S1 : Same H (upd H t1' (.tup [.str "set", .str "raise"])) := Same.new nt
      generalize upd H t1' (.tup [.str "set", .str "raise"]) = H1 at S1
      refine ⟨_, rfl, t2, fun t2' nt => ⟨t2', _, rfl, .inr (SqT.of upd_same), rfl, rfl, _, rfl, iteFe (by decide +kernel) ?_⟩⟩
      have S2 : Same H (upd H1 t2' (.tup [.str "if", .str "ask"])) := Same.mut S1 (Same.free S1 nt)
      generalize upd H1 t2' (.tup [.str "if", .str "ask"]) = H2 at S2
      refine ⟨_, rfl, rfl, _, rfl, iteFe (by decide +kernel) ?_⟩
      refine ⟨t0, fun L nL => ?_⟩
      exact k _ L (Same.mut S2 (Same.free S2 nL)) (Same.free S2 nL) new_eq
    | loop x t n u m bb cc =>
      obtain ⟨a, y, z, o, q, rfl, ha, hy, hz, hb, hc⟩ := st_loop hv
      refine ⟨_, rfl, a, _, 0, _, rfl, rfl, ha, rfl, ?_⟩
      refine ⟨_, rfl, t2, fun t1' nt => ⟨t1', _, rfl, .inr (SqT.of upd_same), rfl, rfl, _, rfl, iteFe (by decide +kernel) ?_⟩⟩
      have S1 : Same H (upd H t1' (.tup [.str "set", .str "raise"])) := Same.new nt
      generalize upd H t1' (.tup [.str "set", .str "raise"]) = H1 at S1
      refine ⟨_, rfl, t2, fun t2' nt => ⟨t2', _, rfl, .inr (SqT.of upd_same), rfl, rfl, _, rfl, iteFe (by decide +kernel) ?_⟩⟩
      have S2 : Same H (upd H1 t2' (.tup [.str "if", .str "ask"])) := Same.mut S1 (Same.free S1 nt)
      generalize upd H1 t2' (.tup [.str "if", .str "ask"]) = H2 at S2
      refine ⟨_, rfl, rfl, _, rfl, iteTe (by decide +kernel) ?_⟩
      refine ⟨_, rfl, a, _, 2, _, rfl, rfl, Same.seqT S2 ha, rfl, y, _, 0, _, rfl, rfl, Same.seqT S2 hy, rfl, ?_⟩
      refine ⟨_, rfl, a, _, 3, _, rfl, rfl, Same.seqT S2 ha, rfl, z, _, 0, _, rfl, rfl, Same.seqT S2 hz, rfl, t2, fun L nL => ?_⟩
      exact k _ L (Same.mut S2 (Same.free S2 nL)) (Same.free S2 nL) new_eq
    | tryy bb hs oo aa =>
      obtain ⟨a, x, y, z, t, rfl, ha, hb, hh, ho, hl⟩ := st_tryy hv
      refine ⟨_, rfl, a, _, 0, _, rfl, rfl, ha, rfl, ?_⟩
      refine ⟨_, rfl, t2, fun t1' nt => ⟨t1', _, rfl, .inr (SqT.of upd_same), rfl, rfl, _, rfl, iteFe (by decide +kernel) ?_⟩⟩
      have S1 : Same H (upd H t1' (.tup [.str "set", .str "raise"])) := Same.new nt
      generalize upd H t1' (.tup [.str "set", .str "raise"]) = H1 at S1
      refine ⟨_, rfl, t2, fun t2' nt => ⟨t2', _, rfl, .inr (SqT.of upd_same), rfl, rfl, _, rfl, iteFe (by decide +kernel) ?_⟩⟩
      have S2 : Same H (upd H1 t2' (.tup [.str "if", .str "ask"])) := Same.mut S1 (Same.free S1 nt)
      generalize upd H1 t2' (.tup [.str "if", .str "ask"]) = H2 at S2
      refine ⟨_, rfl, rfl, _, rfl, iteFe (by decide +kernel) ?_⟩
      refine ⟨t0, fun L nL => ?_⟩
      exact k _ L (Same.mut S2 (Same.free S2 nL)) (Same.free S2 nL) new_eq
    | bad => cases hsh
def hsD : Sm → List PyData
  | .tryy _ hs _ _ => encH hs
  | _ => []
def spHandlers (K : PySem.W.Frag) : Sp := fun vs H Q _ => ∃ v s, vs = [v] ∧ Dp K H v (encS s) ∧ hasShape s = true ∧ ∀ H' u, Same H H' → Dp K H' u (.tuple (hsD s)) → Q u H'
theorem ok_handlers_of {f : Addr} {fd : FuncData} (F : C8.Def K mg "handlers_of" s_handlers_of f fd) (b : Binds K fd ["statement"] []) (T : Txt K mg ad) : C8.Cal P w K mg base 1 "handlers_of" (spHandlers K) [] := by
  refine C8.cal0 F b .nil sc_handlers_of (fun vs H Q E h => ?_) (fun cdv A outer s H vs Q E hr h => ?_)
  · obtain ⟨v, s, rfl, _⟩ := h
    rfl
  · obtain ⟨v, st, rfl, hv, hsh, k⟩ := h
    have t0 : (0 : Nat) ≤ sizeLine := by decide
    refine ⟨_, (pss_one (ps_ret (pe_ifExp (pt_cmpR op_eq (pe_ix ix_tup (pv 0) pe_int (fun _ _ => rfl)) pe_str (nomark _)) (pe_ix ix_tup (pv 0) pe_int (fun _ _ => rfl)) (pe_tup pa_nil)))), ?_⟩
    cases st with
    | set x t n =>
      obtain ⟨a, y, rfl, ha, hy⟩ := st_set hv
      refine ⟨_, rfl, a, _, 0, _, rfl, rfl, ha, rfl, rfl, _, rfl, iteFe (by decide +kernel) ?_⟩
      exact ⟨t0, fun L nL => k _ _ (Same.new nL) (.tup (SqT.of upd_same) .nil)⟩
    | read x =>
      obtain ⟨a, rfl, ha⟩ := st_read hv
      refine ⟨_, rfl, a, _, 0, _, rfl, rfl, ha, rfl, rfl, _, rfl, iteFe (by decide +kernel) ?_⟩
      exact ⟨t0, fun L nL => k _ _ (Same.new nL) (.tup (SqT.of upd_same) .nil)⟩
    | ite l r n bb cc =>
      obtain ⟨a, y, u, z, rfl, ha, hy, hb, hc⟩ := st_ite hv
      refine ⟨_, rfl, a, _, 0, _, rfl, rfl, ha, rfl, rfl, _, rfl, iteFe (by decide +kernel) ?_⟩
      exact ⟨t0, fun L nL => k _ _ (Same.new nL) (.tup (SqT.of upd_same) .nil)⟩
    | choose bb cc =>
      obtain ⟨a, u, z, rfl, ha, hb, hc⟩ := st_choose hv
      refine ⟨_, rfl, a, _, 0, _, rfl, rfl, ha, rfl, rfl, _, rfl, iteFe (by decide +kernel) ?_⟩
      exact ⟨t0, fun L nL => k _ _ (Same.new nL) (.tup (SqT.of upd_same) .nil)⟩
    | ask l r n kd =>
      obtain ⟨a, y, rfl, ha, hy⟩ := st_ask hv
      refine ⟨_, rfl, a, _, 0, _, rfl, rfl, ha, rfl, rfl, _, rfl, iteFe (by decide +kernel) ?_⟩
      exact ⟨t0, fun L nL => k _ _ (Same.new nL) (.tup (SqT.of upd_same) .nil)⟩
    | raise kd t n =>
      obtain ⟨a, y, rfl, ha, hy⟩ := st_raise hv
      refine ⟨_, rfl, a, _, 0, _, rfl, rfl, ha, rfl, rfl, _, rfl, iteFe (by decide +kernel) ?_⟩
      exact ⟨t0, fun L nL => k _ _ (Same.new nL) (.tup (SqT.of upd_same) .nil)⟩
    | out x =>
      obtain ⟨a, rfl, ha⟩ := st_out hv
      refine ⟨_, rfl, a, _, 0, _, rfl, rfl, ha, rfl, rfl, _, rfl, iteFe (by decide +kernel) ?_⟩
      exact ⟨t0, fun L nL => k _ _ (Same.new nL) (.tup (SqT.of upd_same) .nil)⟩
    | leave  =>
      obtain ⟨a, rfl, ha⟩ := st_leave hv
      refine ⟨_, rfl, a, _, 0, _, rfl, rfl, ha, rfl, rfl, _, rfl, iteFe (by decide +kernel) ?_⟩
      exact ⟨t0, fun L nL => k _ _ (Same.new nL) (.tup (SqT.of upd_same) .nil)⟩
    | again  =>
      obtain ⟨a, rfl, ha⟩ := st_again hv
      refine ⟨_, rfl, a, _, 0, _, rfl, rfl, ha, rfl, rfl, _, rfl, iteFe (by decide +kernel) ?_⟩
      exact ⟨t0, fun L nL => k _ _ (Same.new nL) (.tup (SqT.of upd_same) .nil)⟩
    | loop x t n u m bb cc =>
      obtain ⟨a, y, z, o, q, rfl, ha, hy, hz, hb, hc⟩ := st_loop hv
      refine ⟨_, rfl, a, _, 0, _, rfl, rfl, ha, rfl, rfl, _, rfl, iteFe (by decide +kernel) ?_⟩
      exact ⟨t0, fun L nL => k _ _ (Same.new nL) (.tup (SqT.of upd_same) .nil)⟩
    | tryy bb hs oo aa =>
      obtain ⟨a, x, y, z, t, rfl, ha, hb, hh, ho, hl⟩ := st_tryy hv
      refine ⟨_, rfl, a, _, 0, _, rfl, rfl, ha, rfl, rfl, _, rfl, iteTe (by decide +kernel) ?_⟩
      exact ⟨_, rfl, a, _, 2, _, rfl, rfl, ha, rfl, k _ _ (Same.refl H) hh⟩
    | bad => cases hsh
end
end K17

namespace K17
open PySem L2 Bx Tk Pm RZ
section
variable {P : Program} {w : World} {K : PySem.W.Frag} {mg : Str → Option Value} {base : Heap} {ad : Ad}
/-- the blocks of a statement, as data -/
def bksD (s : Sm) : List PyData := (blocksOf s).map fun b => .tuple (encB b)
def spBlocks (K : PySem.W.Frag) : Sp := fun vs H Q _ => ∃ v s H0, vs = [v] ∧ Same H0 H ∧ Dp K H0 v (encS s) ∧ hasShape s = true ∧ (handlersOf s).length ≤ 900 ∧ ∀ H' L us, Same H H' → H L = none → H' L = some (.lst us) → DpAll K H0 us (bksD s) → Q (.ref L) H'
theorem dpAll_app {H : Hp} : ∀ {xs ys : List V} {ds es : List PyData}, DpAll K H xs ds → DpAll K H ys es → DpAll K H (xs ++ ys) (ds ++ es)
  | _, _, _, _, .nil, h => h
  | _, _, _, _, .cons a t, h => .cons a (dpAll_app t h)
theorem ok_blocks_of {f : Addr} {fd : FuncData} (F : C8.Def K mg "blocks_of" s_blocks_of f fd) (b : Binds K fd ["statement"] []) (T : Txt K mg ad) : C8.Cal P w K mg base 1 "blocks_of" (spBlocks K) [] := by
  refine C8.cal0 F b .nil sc_blocks_of (fun vs H Q E h => ?_) (fun cdv A outer s H vs Q E hr h => ?_)
  · obtain ⟨v, s, H0, rfl, _⟩ := h
    rfl
  · obtain ⟨v, st, H0, rfl, s0, hv, hsh, hlen, k⟩ := h
    have t0 : (0 : Nat) ≤ sizeLine := by decide
    have t1 : (1 : Nat) ≤ sizeLine := by decide
    have t2 : (2 : Nat) ≤ sizeLine := by decide
    refine ⟨_, (pss_cons (ps_set (i := 1) sc_blocks_of.nd rfl (Or.inl rfl) (pe_ix ix_tup (pv 0) pe_int (fun _ _ => rfl)))
    (pss_cons (ps_if (pt_cmpR op_eq (pv 1) pe_str (nomark _)) (pss_one (ps_ret (pe_lst (pa_cons (pe_ix ix_tup (pv 0) pe_int (fun _ _ => rfl)) (pa_cons (pe_ix ix_tup (pv 0) pe_int (fun _ _ => rfl)) pa_nil))))) pss_nil)
    (pss_cons (ps_if (pt_cmpR op_eq (pv 1) pe_str (nomark _)) (pss_one (ps_ret (pe_op op_cat (pe_op op_cat (pe_lst (pa_cons (pe_ix ix_tup (pv 0) pe_int (fun _ _ => rfl)) pa_nil)) (pe_lc (own := [("kinds", 2), ("name", 3), ("block", 4)]) (g := _) (tt := tYes) rfl sc_blocks_of.nd (pi_tup (pe_ix ix_tup (pv 0) pe_int (fun _ _ => rfl))) (blkOk_by (own := [("kinds", 2), ("name", 3), ("block", 4)]) (N := N_blocks_of) (sc := C8.fnScope s_blocks_of) (by decide +kernel)) (fun _ _ _ _ _ => (pgTK K 3 (pgs_cons (pg_name (i := 2) sc_blocks_of.nd rfl (Or.inl rfl)) (pgs_cons (pg_name (i := 3) sc_blocks_of.nd rfl (Or.inl rfl)) (pgs_cons (pg_name (i := 4) sc_blocks_of.nd rfl (Or.inl rfl)) pgs_nil))))) (fun _ _ _ _ _ => pts_nil) (fun _ _ _ _ _ => (pv 4)))) (pe_lst (pa_cons (pe_ix ix_tup (pv 0) pe_int (fun _ _ => rfl)) (pa_cons (pe_ix ix_tup (pv 0) pe_int (fun _ _ => rfl)) pa_nil)))))) pss_nil)
    (pss_cons (ps_if (pt_cmpR op_in_seq (pv 1) (pe_tup (pa_cons pe_str (pa_cons pe_str pa_nil))) (by rfl)) (pss_one (ps_ret (pe_lst (pa_cons (pe_ix ix_tup (pv 0) (pe_un un_neg pe_int) (fun _ _ => rfl)) (pa_cons (pe_ix ix_tup (pv 0) (pe_un un_neg pe_int) (fun _ _ => rfl)) pa_nil))))) pss_nil)
    (pss_one (ps_ret (pe_lst pa_nil))))))), ?_⟩
    cases st with
    | set x t n =>
      obtain ⟨a, y, rfl, ha, hy⟩ := st_set hv
      replace ha := Same.seqT s0 ha
      refine ⟨_, rfl, a, _, 0, _, rfl, rfl, ha, rfl, ?_⟩
      refine ⟨_, rfl, rfl, _, rfl, iteFe (by decide +kernel) ?_⟩
      refine ⟨_, rfl, rfl, _, rfl, iteFe (by decide +kernel) ?_⟩
      refine ⟨_, rfl, t2, fun t1' nt => ⟨t1', _, rfl, .inr (SqT.of upd_same), rfl, rfl, _, rfl, iteFe (by decide +kernel) ?_⟩⟩
      have S1 : Same H (upd H t1' (.tup [.str "if", .str "choose"])) := Same.new nt
      generalize upd H t1' (.tup [.str "if", .str "choose"]) = H1 at S1
      refine ⟨t0, fun L nL => ?_⟩
      exact k _ L _ (Same.mut S1 (Same.free S1 nL)) (Same.free S1 nL) new_eq .nil
    | read x =>
      obtain ⟨a, rfl, ha⟩ := st_read hv
      replace ha := Same.seqT s0 ha
      refine ⟨_, rfl, a, _, 0, _, rfl, rfl, ha, rfl, ?_⟩
      refine ⟨_, rfl, rfl, _, rfl, iteFe (by decide +kernel) ?_⟩
      refine ⟨_, rfl, rfl, _, rfl, iteFe (by decide +kernel) ?_⟩
      refine ⟨_, rfl, t2, fun t1' nt => ⟨t1', _, rfl, .inr (SqT.of upd_same), rfl, rfl, _, rfl, iteFe (by decide +kernel) ?_⟩⟩
      have S1 : Same H (upd H t1' (.tup [.str "if", .str "choose"])) := Same.new nt
      generalize upd H t1' (.tup [.str "if", .str "choose"]) = H1 at S1
      refine ⟨t0, fun L nL => ?_⟩
      exact k _ L _ (Same.mut S1 (Same.free S1 nL)) (Same.free S1 nL) new_eq .nil
    | ite l r n bb cc =>
      obtain ⟨a, y, u, z, rfl, ha, hy, hb, hc⟩ := st_ite hv
      replace ha := Same.seqT s0 ha
      refine ⟨_, rfl, a, _, 0, _, rfl, rfl, ha, rfl, ?_⟩
      refine ⟨_, rfl, rfl, _, rfl, iteFe (by decide +kernel) ?_⟩
      refine ⟨_, rfl, rfl, _, rfl, iteFe (by decide +kernel) ?_⟩
      refine ⟨_, rfl, t2, fun t1' nt => ⟨t1', _, rfl, .inr (SqT.of upd_same), rfl, rfl, _, rfl, iteTe (by decide +kernel) ?_⟩⟩
      have S1 : Same H (upd H t1' (.tup [.str "if", .str "choose"])) := Same.new nt
      generalize upd H t1' (.tup [.str "if", .str "choose"]) = H1 at S1
      refine ⟨_, rfl, _, rfl, a, _, _, _, rfl, rfl, Same.seqT S1 ha, rfl, _, rfl, _, rfl, a, _, _, _, rfl, rfl, Same.seqT S1 ha, rfl, t2, fun L nL => ?_⟩
      have S2 := Same.mut (o := .lst [u, z]) S1 (Same.free S1 nL)
      exact k _ L _ S2 (Same.free S1 nL) new_eq (.cons hb (.cons hc .nil))
    | choose bb cc =>
      obtain ⟨a, u, z, rfl, ha, hb, hc⟩ := st_choose hv
      replace ha := Same.seqT s0 ha
      refine ⟨_, rfl, a, _, 0, _, rfl, rfl, ha, rfl, ?_⟩
      refine ⟨_, rfl, rfl, _, rfl, iteFe (by decide +kernel) ?_⟩
      refine ⟨_, rfl, rfl, _, rfl, iteFe (by decide +kernel) ?_⟩
      refine ⟨_, rfl, t2, fun t1' nt => ⟨t1', _, rfl, .inr (SqT.of upd_same), rfl, rfl, _, rfl, iteTe (by decide +kernel) ?_⟩⟩
      have S1 : Same H (upd H t1' (.tup [.str "if", .str "choose"])) := Same.new nt
      generalize upd H t1' (.tup [.str "if", .str "choose"]) = H1 at S1
      refine ⟨_, rfl, _, rfl, a, _, _, _, rfl, rfl, Same.seqT S1 ha, rfl, _, rfl, _, rfl, a, _, _, _, rfl, rfl, Same.seqT S1 ha, rfl, t2, fun L nL => ?_⟩
      have S2 := Same.mut (o := .lst [u, z]) S1 (Same.free S1 nL)
      exact k _ L _ S2 (Same.free S1 nL) new_eq (.cons hb (.cons hc .nil))
    | ask l r n kd =>
      obtain ⟨a, y, rfl, ha, hy⟩ := st_ask hv
      replace ha := Same.seqT s0 ha
      refine ⟨_, rfl, a, _, 0, _, rfl, rfl, ha, rfl, ?_⟩
      refine ⟨_, rfl, rfl, _, rfl, iteFe (by decide +kernel) ?_⟩
      refine ⟨_, rfl, rfl, _, rfl, iteFe (by decide +kernel) ?_⟩
      refine ⟨_, rfl, t2, fun t1' nt => ⟨t1', _, rfl, .inr (SqT.of upd_same), rfl, rfl, _, rfl, iteFe (by decide +kernel) ?_⟩⟩
      have S1 : Same H (upd H t1' (.tup [.str "if", .str "choose"])) := Same.new nt
      generalize upd H t1' (.tup [.str "if", .str "choose"]) = H1 at S1
      refine ⟨t0, fun L nL => ?_⟩
      exact k _ L _ (Same.mut S1 (Same.free S1 nL)) (Same.free S1 nL) new_eq .nil
    | raise kd t n =>
      obtain ⟨a, y, rfl, ha, hy⟩ := st_raise hv
      replace ha := Same.seqT s0 ha
      refine ⟨_, rfl, a, _, 0, _, rfl, rfl, ha, rfl, ?_⟩
      refine ⟨_, rfl, rfl, _, rfl, iteFe (by decide +kernel) ?_⟩
      refine ⟨_, rfl, rfl, _, rfl, iteFe (by decide +kernel) ?_⟩
      refine ⟨_, rfl, t2, fun t1' nt => ⟨t1', _, rfl, .inr (SqT.of upd_same), rfl, rfl, _, rfl, iteFe (by decide +kernel) ?_⟩⟩
      have S1 : Same H (upd H t1' (.tup [.str "if", .str "choose"])) := Same.new nt
      generalize upd H t1' (.tup [.str "if", .str "choose"]) = H1 at S1
      refine ⟨t0, fun L nL => ?_⟩
      exact k _ L _ (Same.mut S1 (Same.free S1 nL)) (Same.free S1 nL) new_eq .nil
    | out x =>
      obtain ⟨a, rfl, ha⟩ := st_out hv
      replace ha := Same.seqT s0 ha
      refine ⟨_, rfl, a, _, 0, _, rfl, rfl, ha, rfl, ?_⟩
      refine ⟨_, rfl, rfl, _, rfl, iteFe (by decide +kernel) ?_⟩
      refine ⟨_, rfl, rfl, _, rfl, iteFe (by decide +kernel) ?_⟩
      refine ⟨_, rfl, t2, fun t1' nt => ⟨t1', _, rfl, .inr (SqT.of upd_same), rfl, rfl, _, rfl, iteFe (by decide +kernel) ?_⟩⟩
      have S1 : Same H (upd H t1' (.tup [.str "if", .str "choose"])) := Same.new nt
      generalize upd H t1' (.tup [.str "if", .str "choose"]) = H1 at S1
      refine ⟨t0, fun L nL => ?_⟩
      exact k _ L _ (Same.mut S1 (Same.free S1 nL)) (Same.free S1 nL) new_eq .nil
    | leave  =>
      obtain ⟨a, rfl, ha⟩ := st_leave hv
      replace ha := Same.seqT s0 ha
      refine ⟨_, rfl, a, _, 0, _, rfl, rfl, ha, rfl, ?_⟩
      refine ⟨_, rfl, rfl, _, rfl, iteFe (by decide +kernel) ?_⟩
      refine ⟨_, rfl, rfl, _, rfl, iteFe (by decide +kernel) ?_⟩
      refine ⟨_, rfl, t2, fun t1' nt => ⟨t1', _, rfl, .inr (SqT.of upd_same), rfl, rfl, _, rfl, iteFe (by decide +kernel) ?_⟩⟩
      have S1 : Same H (upd H t1' (.tup [.str "if", .str "choose"])) := Same.new nt
      generalize upd H t1' (.tup [.str "if", .str "choose"]) = H1 at S1
      refine ⟨t0, fun L nL => ?_⟩
      exact k _ L _ (Same.mut S1 (Same.free S1 nL)) (Same.free S1 nL) new_eq .nil
    | again  =>
      obtain ⟨a, rfl, ha⟩ := st_again hv
      replace ha := Same.seqT s0 ha
      refine ⟨_, rfl, a, _, 0, _, rfl, rfl, ha, rfl, ?_⟩
      refine ⟨_, rfl, rfl, _, rfl, iteFe (by decide +kernel) ?_⟩
      refine ⟨_, rfl, rfl, _, rfl, iteFe (by decide +kernel) ?_⟩
      refine ⟨_, rfl, t2, fun t1' nt => ⟨t1', _, rfl, .inr (SqT.of upd_same), rfl, rfl, _, rfl, iteFe (by decide +kernel) ?_⟩⟩
      have S1 : Same H (upd H t1' (.tup [.str "if", .str "choose"])) := Same.new nt
      generalize upd H t1' (.tup [.str "if", .str "choose"]) = H1 at S1
      refine ⟨t0, fun L nL => ?_⟩
      exact k _ L _ (Same.mut S1 (Same.free S1 nL)) (Same.free S1 nL) new_eq .nil
    | loop x t n u m bb cc =>
      obtain ⟨a, y, z, o, q, rfl, ha, hy, hz, hb, hc⟩ := st_loop hv
      replace ha := Same.seqT s0 ha
      refine ⟨_, rfl, a, _, 0, _, rfl, rfl, ha, rfl, ?_⟩
      refine ⟨_, rfl, rfl, _, rfl, iteTe (by decide +kernel) ?_⟩
      refine ⟨_, rfl, a, _, 4, _, rfl, rfl, ha, rfl, _, rfl, a, _, 5, _, rfl, rfl, ha, rfl, t2, fun L nL => ?_⟩
      exact k _ L _ (Same.new nL) nL new_eq (.cons hb (.cons hc .nil))
    | tryy bb hs oo aa =>
      obtain ⟨a, x, y, z, t, rfl, ha, hb, hh, ho, hl⟩ := st_tryy hv
      replace ha := Same.seqT s0 ha
      refine ⟨_, rfl, a, _, 0, _, rfl, rfl, ha, rfl, ?_⟩
      refine ⟨_, rfl, rfl, _, rfl, iteFe (by decide +kernel) ?_⟩
      refine ⟨_, rfl, rfl, _, rfl, iteTe (by decide +kernel) ?_⟩
      refine ⟨_, rfl, a, _, 1, _, rfl, rfl, ha, rfl, t1, fun L1 nL1 => ?_⟩
      have S1 : Same H (upd H L1 (.lst [x])) := Same.new nL1
      have e1 : (upd H L1 (.lst [x])) L1 = some (.lst [x]) := new_eq
      generalize upd H L1 (.lst [x]) = H1 at S1 e1
      obtain ⟨p, xs, rfl, hp, lx, hx⟩ := hs_at hh
      replace hp := Same.seqT s0 hp
      refine ⟨_, rfl, a, _, 2, _, rfl, rfl, Same.seqT S1 ha, rfl, p, rfl, ⟨_, Same.seqT S1 hp⟩, fun D nD => lc_tup (xs := xs) (fun j H' => Same H1 H' ∧ ∃ us, H' D = some (.lst us) ∧ us.length = j ∧ DpAll K H0 us ((hs.list.take j).map fun h => .tuple (encB h.2.2))) ⟨Same.new nD, [], upd_same, rfl, .nil⟩ (fun i H' _ h => Same.seqT (S1.trans h.1) hp) ?_ ?_⟩
      · rintro i u H2 hxi ⟨S2, us, h2, lu, hd⟩
        have hi : i < hs.list.length := by
          rw [← lx]
          exact (List.getElem?_eq_some_iff.mp hxi).1
        have hget := List.getElem?_eq_getElem hi
        obtain ⟨u', hu, hu2⟩ := hx i _ hget
        rw [hxi] at hu
        cases hu
        obtain ⟨c, y1, z1, rfl, hc, _, hz⟩ := hd_at hu2
        have S3 := S1.trans S2
        refine ⟨c, _, rfl, Same.seqT (s0.trans S3) hc, rfl, _, _, rfl, _, _, rfl, _, _, rfl, rfl, rfl, ?_⟩
        refine ⟨_, rfl, us, h2, szw (by have : hs.list.length ≤ 900 := hlen; omega), Same.mut S2 nD, _, upd_same, by rw [List.length_append, lu]; rfl, ?_⟩
        rw [take_snoc hget, List.map_append]
        exact dpAll_app hd (.cons hz .nil)
      · rintro H2 ⟨S2, us, h2, lu, hd⟩
        rw [lx, List.take_length] at hd
        have l9 : hs.list.length ≤ 900 := hlen
        rw [lx] at lu
        refine ⟨L1, D, _, _, rfl, rfl, S2 _ _ e1, h2, szl (by simp; omega), fun L2 nL2 => ?_⟩
        have S3 := Same.mut (o := .lst ([x] ++ us)) S2 (Same.free S2 nL2)
        have e2 : (upd H2 L2 (.lst ([x] ++ us))) L2 = some (.lst ([x] ++ us)) := new_eq
        generalize upd H2 L2 (.lst ([x] ++ us)) = H3 at S3 e2
        have S4 := S1.trans S3
        refine ⟨_, rfl, a, _, 3, _, rfl, rfl, Same.seqT S4 ha, rfl, _, rfl, a, _, 4, _, rfl, rfl, Same.seqT S4 ha, rfl, t2, fun L3 nL3 => ?_⟩
        have S5 := Same.new (o := .lst [z, t]) nL3
        have e3 : (upd H3 L3 (.lst [z, t])) L3 = some (.lst [z, t]) := new_eq
        generalize upd H3 L3 (.lst [z, t]) = H4 at S5 e3
        refine ⟨L2, L3, _, _, rfl, rfl, S5 _ _ e2, e3, szl (by simp; omega), fun L4 nL4 => ?_⟩
        have S6 := S4.trans S5
        have S7 := Same.mut (o := .lst ([x] ++ us ++ [z, t])) S6 (Same.free S6 nL4)
        refine k _ L4 _ S7 (Same.free S6 nL4) new_eq ?_
        have e : bksD (.tryy bb hs oo aa) = [.tuple (encB bb)] ++ (hs.list.map fun h => .tuple (encB h.2.2)) ++ [.tuple (encB oo), .tuple (encB aa)] := by
          unfold bksD blocksOf
          simp
        rw [e]
        exact dpAll_app (dpAll_app (.cons hb .nil) hd) (.cons ho (.cons hl .nil))
    | bad => cases hsh
end
end K17

namespace K17
open PySem L2 Bx Tk Pm RZ
section
variable {P : Program} {w : World} {K : PySem.W.Frag} {mg : Str → Option Value} {base : Heap} {ad : Ad}
def spSettings (K : PySem.W.Frag) : Sp := fun vs H Q _ => ∃ v s pa place, vs = [v, .ref pa] ∧ Dp K H v (encS s) ∧ hasShape s = true ∧ (handlersOf s).length ≤ 900 ∧ SqT K H pa (place.map nV) ∧ place.length ≤ 1000 ∧
  ∀ H' L ts, Same H H' → H L = none → H' L = some (.lst (ts.map .ref)) → Paired (Pm.SetR K H') ts (settingsOf s place) → Q (.ref L) H'
theorem hsD_list (s : Sm) : hsD s = (handlersOf s).map encHd := by
  cases s <;> first | rfl | exact encH_list _
theorem ok_settings_of {f : Addr} {fd : FuncData} (F : C8.Def K mg "settings_of" s_settings_of f fd) (b : Binds K fd ["statement", "place"] []) (T : Txt K mg ad) (K_handlers_of : C8.Cal P w K mg base 1 "handlers_of" (spHandlers K) []) : C8.Cal P w K mg base 2 "settings_of" (spSettings K) [] := by
  refine C8.cal0 F b .nil sc_settings_of (fun vs H Q E h => ?_) (fun cdv A outer s H vs Q E hr h => ?_)
  · obtain ⟨v, s, pa, place, rfl, _⟩ := h
    rfl
  · obtain ⟨v, st, pa, place, rfl, hv, hsh, hlen, hpa, hpl, k⟩ := h
    have t0 : (0 : Nat) ≤ sizeLine := by decide
    have t1 : (1 : Nat) ≤ sizeLine := by decide
    have t2 : (2 : Nat) ≤ sizeLine := by decide
    have t3 : (3 : Nat) ≤ sizeLine := by decide
    refine ⟨_, (pss_cons (ps_if (pt_cmpR op_in_seq (pe_ix ix_tup (pv 0) pe_int (fun _ _ => rfl)) (pe_tup (pa_cons pe_str (pa_cons pe_str (pa_cons pe_str pa_nil)))) (by rfl)) (pss_one (ps_ret (pe_lst (pa_cons (pe_tup (pa_cons (pe_ix ix_tup (pv 0) pe_int (fun _ _ => rfl)) (pa_cons (pv 1) pa_nil))) pa_nil)))) pss_nil)
    (pss_cons (ps_set (i := 2) sc_settings_of.nd rfl (Or.inl rfl) (pe_lst pa_nil))
    (pss_cons (ps_for PassesOwn.never rfl (En.pi_enumT (by rfl) T.z_enumerate (pa_cons (C8.pe_c K_handlers_of hr (by decide) (by rfl) (pa_cons (pv 0) pa_nil)) pa_nil)) (pg_tup (by rfl) (pgs_cons (pg_name (i := 3) sc_settings_of.nd rfl (Or.inl rfl)) (pgs_cons (pg_tup (by rfl) (pgs_cons (pg_name (i := 4) sc_settings_of.nd rfl (Or.inl rfl)) (pgs_cons (pg_name (i := 5) sc_settings_of.nd rfl (Or.inl rfl)) (pgs_cons (pg_name (i := 6) sc_settings_of.nd rfl (Or.inl rfl)) pgs_nil)))) pgs_nil)))
    (pss_one (ps_if (pt_cmpR op_notN (pv 5) pe_non (nomark _)) (pss_one (ps_expr (pe_bm PySem.F.plainAttrs_list PySem.F.slot_list_append PySem.F.type_list_append mt_append (pv 2) (pa_cons (pe_tup (pa_cons (pv 5) (pa_cons (pe_op op_catA (pv 1) (pe_tup (pa_cons (pe_op op_add pe_int (pv 3)) pa_nil))) pa_nil))) pa_nil)))) pss_nil)))
    (pss_one (ps_ret (pv 2)))))), ?_⟩
    obtain ⟨a, r, rfl, ha⟩ := st_word hv hsh
    refine ⟨_, rfl, a, _, 0, _, rfl, rfl, ha, atI_nat (j := 0) rfl, t3, fun t1' nt => ⟨t1', _, rfl, .inr (SqT.of upd_same), rfl, rfl, _, rfl, ?_⟩⟩
    have S1 : Same H (upd H t1' (.tup [.str "set", .str "read", .str "for"])) := Same.new nt
    generalize upd H t1' (.tup [.str "set", .str "read", .str "for"]) = H1 at S1
    show (if inV (.str (wordOf st)) [.str "set", .str "read", .str "for"] = true then _ else _)
    rw [word_sets st hsh]
    cases eo : setsOne st with
    | some x =>
      obtain ⟨_, r, e1, ha⟩ := st_sets hv eo
      cases e1
      refine iteT ⟨_, rfl, a, _, 1, _, rfl, rfl, Same.seqT S1 ha, atI_nat (j := 1) rfl, _, rfl, t2, fun q nq => ⟨t1, fun L nL => ?_⟩⟩
      have S2 : Same H (upd H1 q (.tup [.str x, .ref pa])) := Same.mut S1 (Same.free S1 nq)
      have eq2 : (upd H1 q (.tup [.str x, .ref pa])) q = some (.tup [.str x, .ref pa]) := new_eq
      generalize upd H1 q (.tup [.str x, .ref pa]) = H2 at S2 eq2 nL
      have S3 := Same.mut (o := .lst [.ref q]) S2 (Same.free S2 nL)
      have Sn := Same.new (o := .lst [.ref q]) nL
      refine k _ L [q] S3 (Same.free S2 nL) new_eq ?_
      rw [settings_one eo]
      exact .cons ⟨pa, SqT.of (Sn _ _ eq2), Same.seqT S3 hpa⟩ .nil
    | none =>
      refine iteF ⟨t0, fun L nL => ?_⟩
      have S2 : Same H (upd H1 L (.lst [])) := Same.mut S1 (Same.free S1 nL)
      have n0 : H L = none := Same.free S1 nL
      have eL : (upd H1 L (.lst [])) L = some (.lst ([].map V.ref)) := new_eq
      generalize upd H1 L (.lst []) = H2 at S2 eL
      refine ⟨_, rfl, _, st, rfl, dp_sm S2 hv, hsh, fun H3 u S3 hu => ?_⟩
      obtain ⟨c, xs, rfl, hc, hxs⟩ := Pm.inv_tup hu
      rw [hsD_list] at hxs
      have lx := dpAll_len hxs
      rw [List.length_map] at lx
      have S4 := S2.trans S3
      have eL3 := S3 _ _ eL
      refine ⟨c, xs, rfl, hc, En.for_enumT (fun i σ H' => (∃ v3 v4 v5 v6, σ = [some (.ref a), some (.ref pa), some (.ref L), v3, v4, v5, v6]) ∧ But L H3 H' ∧ ∃ ts : List Addr, H' L = some (.lst (ts.map .ref)) ∧ Paired (Pm.SetR K H') ts (namedAt place 0 ((handlersOf st).take i))) ⟨⟨_, _, _, _, rfl⟩, but_same (Same.refl _), [], eL3, .nil⟩ (fun i σ H' h => But.tupW eL3 h.2.1 hc) ?_ ?_⟩
      · rintro i x t σ H4 hxi ⟨⟨v3, v4, v5, v6, rfl⟩, b4, ts, h4, hts⟩ nT
        have hi : i < (handlersOf st).length := by
          rw [← lx]
          exact (List.getElem?_eq_some_iff.mp hxi).1
        have hget := List.getElem?_eq_getElem hi
        obtain ⟨u, hu1, hu2⟩ := dpAll_get (i := i) (d := encHd (handlersOf st)[i]) hxs (by rw [List.getElem?_map, hget]; rfl)
        rw [hxi] at hu1
        cases hu1
        obtain ⟨d, y, z, rfl, hd, _, _⟩ := hd_at hu2
        have S5 : Same H4 (upd H4 t (.tup [.int (i : Nat), .ref d])) := Same.new nT
        have eT : (upd H4 t (.tup [.int (i : Nat), .ref d])) t = some (.tup [.int (i : Nat), .ref d]) := new_eq
        generalize upd H4 t (.tup [.int (i : Nat), .ref d]) = H5 at S5 eT
        have sqs : ∀ b ks, SqT K H3 b ks → SqT K H5 b ks := fun b ks z => Same.seqT S5 (But.tupW eL3 b4 z)
        refine ⟨t, _, rfl, SqT.of eT, rfl, _, _, rfl, _, _, rfl, d, _, rfl, sqs _ _ hd, rfl, _, _, rfl, _, _, rfl, _, _, rfl, rfl, rfl, ?_⟩
        have etk : namedAt place 0 ((handlersOf st).take (i + 1)) = namedAt place 0 ((handlersOf st).take i) ++ namedAt place i [(handlersOf st)[i]] := by
          rw [take_snoc hget, named_app, List.length_take, Nat.min_eq_left (Nat.le_of_lt hi), Nat.zero_add]
        have lts : ts.length ≤ 900 := by
          have l1 := Paired.length hts
          have l2 := named_len place ((handlersOf st).take i) 0
          have l3 := List.length_take_le i (handlersOf st)
          rw [List.length_take] at l2
          omega
        refine ⟨_, rfl, rfl, _, rfl, ?_⟩
        cases en : (handlersOf st)[i] with
        | mk ks rs =>
        obtain ⟨nm, bk⟩ := rs
        cases nm with
        | none =>
          refine iteFe (by rfl) ⟨⟨_, _, _, _, rfl⟩, but_trans b4 (but_same S5), ts, S5 _ _ h4, ?_⟩
          rw [etk, en]
          show Paired _ ts (namedAt place 0 _ ++ [])
          rw [List.append_nil]
          exact setR_mono (fun b ks z => Same.seqT S5 z) hts
        | some nm =>
          refine iteTe (by rfl) ?_
          refine ⟨_, rfl, .inl ⟨rfl, _, SqL.of (S5 _ _ h4)⟩, _, rfl, _, rfl, _, rfl, _, _, rfl, rfl, t1, fun q nq => ?_⟩
          have S6 : Same H5 (upd H5 q (.tup [.int (1 + (i : Nat))])) := Same.new nq
          have e6 : (upd H5 q (.tup [.int (1 + (i : Nat))])) q = some (.tup ([1 + i].map nV)) := by
            rw [new_eq]
            show some (HO.tup [V.int (1 + (i : Int))]) = some (HO.tup [V.int ((1 + i : Nat) : Int)])
            rw [show ((1 + i : Nat) : Int) = 1 + (i : Int) by omega]
          generalize upd H5 q (.tup [.int (1 + (i : Nat))]) = H6 at S6 e6
          -- the path stands at p2
          have hL6 : ∀ H7, Same H6 H7 → H7 L = some (.lst (ts.map .ref)) := fun H7 S7 => S7 _ _ (S6 _ _ (S5 _ _ h4))
          have fin : ∀ H7 p2, Same H6 H7 → SqT K H7 p2 ((place ++ [1 + i]).map nV) → ∀ q3, H7 q3 = none → But L H3 (upd (upd H7 q3 (.tup [.str nm, .ref p2])) L (.lst (ts.map V.ref ++ [.ref q3]))) ∧
              ∃ ts' : List Addr, (upd (upd H7 q3 (.tup [.str nm, .ref p2])) L (.lst (ts.map V.ref ++ [.ref q3]))) L = some (.lst (ts'.map .ref)) ∧ Paired (Pm.SetR K (upd (upd H7 q3 (.tup [.str nm, .ref p2])) L (.lst (ts.map V.ref ++ [.ref q3])))) ts' (namedAt place 0 ((handlersOf st).take (i + 1))) := fun H7 p2 S7 hp2 q3 nq3 => by
            have S8 : Same H7 (upd H7 q3 (.tup [.str nm, .ref p2])) := Same.new nq3
            have e8 : (upd H7 q3 (.tup [.str nm, .ref p2])) q3 = some (.tup [.str nm, .ref p2]) := new_eq
            have hL8 := S8 _ _ (hL6 _ S7)
            generalize upd H7 q3 (.tup [.str nm, .ref p2]) = H8 at S8 e8 hL8
            have S48 : Same H4 H8 := ((S5.trans S6).trans S7).trans S8
            have sq8 : ∀ b ks, SqT K H8 b ks → SqT K (upd H8 L (.lst (ts.map V.ref ++ [.ref q3]))) b ks := fun b ks z => sq_upd (fun zs e => by rw [hL8] at e; cases e) (fun ob zs e => by rw [hL8] at e; cases e) z
            refine ⟨but_upd (but_trans b4 (but_same S48)), ts ++ [q3], by rw [upd_same, List.map_append]; rfl, ?_⟩
            rw [etk, en]
            show Paired _ (ts ++ [q3]) (namedAt place 0 _ ++ [(nm, place ++ [1 + i])])
            exact Paired.snoc (setR_mono (fun b ks z => sq8 _ _ (Same.seqT S48 z)) hts) ⟨p2, sq8 _ _ (SqT.of e8), sq8 _ _ (Same.seqT S8 hp2)⟩
          refine ⟨pa, q, _, _, rfl, rfl, Same.seqT S6 (sqs _ _ (Same.seqT S4 hpa)), SqT.of e6, szl (by simp; omega), fun e => ?_, fun _ e => ?_, fun _ _ q2 nq2 => ?_⟩
          · have e0 : place = [] := List.map_eq_nil_iff.mp e
            refine ⟨t2, fun q3 nq3 => ⟨L, _, _, rfl, rfl, ?_, ?_, ⟨_, _, _, _, rfl⟩, fin H6 q (Same.refl _) (by rw [e0]; exact SqT.of e6) q3 nq3⟩⟩
            · rw [upd_ne (ne_of_none (hL6 _ (Same.refl _)) nq3)]
              exact hL6 _ (Same.refl _)
            · rw [List.length_map]
              exact szw (by omega)
          · cases e
          · have S7 := Same.new (o := .tup (place.map nV ++ [1 + i].map nV)) nq2
            have e7 : (upd H6 q2 (.tup (place.map nV ++ [1 + i].map nV))) q2 = some (.tup ((place ++ [1 + i]).map nV)) := by rw [new_eq, List.map_append]
            generalize upd H6 q2 (.tup (place.map nV ++ [1 + i].map nV)) = H7 at S7 e7
            refine ⟨t2, fun q3 nq3 => ⟨L, _, _, rfl, rfl, ?_, ?_, ⟨_, _, _, _, rfl⟩, fin H7 q2 S7 (SqT.of e7) q3 nq3⟩⟩
            · rw [upd_ne (ne_of_none (hL6 _ S7) nq3)]
              exact hL6 _ S7
            · rw [List.length_map]
              exact szw (by omega)
      · rintro σ H4 ⟨⟨_, _, _, _, rfl⟩, b4, ts, h4, hts⟩
        rw [lx, List.take_length] at hts
        refine ⟨_, rfl, k _ L ts (fun x o hx => b4 _ _ (S4 _ _ hx) (ne_of_none hx n0)) n0 h4 ?_⟩
        rw [settings_more eo]
        exact hts
end
end K17

namespace K17
open PySem L2 Bx Tk Pm RZ
section
variable {P : Program} {w : World} {K : PySem.W.Frag} {mg : Str → Option Value} {base : Heap} {ad : Ad}
theorem rgc2 (n : Nat) (h : n ≤ 1000) : RgC 0 (n : Int) 2 ((n + 1) / 2) := by
  refine ⟨by decide, by decide, ?_, ?_⟩
  · have f : ∀ z : Int, 0 ≤ z → z ≤ 2000 → Builtin.Range.rangeFitsLong z = true := fun z h1 h2 => by
      unfold Builtin.Range.rangeFitsLong
      simp
      omega
    have e : Builtin.Range.rangeSize 0 (n : Int) 2 = ((n + 1) / 2 : Nat) := by
      unfold Builtin.Range.rangeSize
      simp
      split <;> omega
    unfold Builtin.Range.small
    rw [e, f 0 (by omega) (by omega), f n (by omega) (by omega), f 2 (by omega) (by omega), f ((n + 1) / 2 : Nat) (by omega) (by omega)]
    simp
    right
    exact f _ (by omega) (by omega)
  · unfold Builtin.Range.rangeSize
    simp
    split <;> omega
def spStAt (K : PySem.W.Frag) : Sp := fun vs H Q _ => ∃ (v : V) (pa : Addr) (root : Bk) (place : Pa) (s : Sm), vs = [v, .ref pa] ∧ BkAt K H v root ∧ OkBk root ∧ SqT K H pa (place.map nV) ∧ place.length ≤ 900 ∧ statementAt root place = some s ∧
  ∀ H' u, Same H H' → Dp K H' u (encS s) → Q u H'
theorem ok_statement_at {f : Addr} {fd : FuncData} (F : C8.Def K mg "statement_at" s_statement_at f fd) (b : Binds K fd ["block", "place"] []) (T : Txt K mg ad) (K_is_number : C8.Cal P w K mg base 1 "is_number" (spB K (fun _ => True) isNum) []) (K_blocks_of : C8.Cal P w K mg base 1 "blocks_of" (spBlocks K) []) : C8.Cal P w K mg base 2 "statement_at" (spStAt K) [] := by
  refine C8.cal0 F b .nil sc_statement_at (fun vs H Q E h => ?_) (fun cdv A outer s H vs Q E hr h => ?_)
  · obtain ⟨v, pa, root, place, s, rfl, _⟩ := h
    rfl
  · obtain ⟨v, pa, root, place, st, rfl, hv, hroot, hpa, hpl, hst, k⟩ := h
    have t1 : (1 : Nat) ≤ sizeLine := by decide
    refine ⟨_, (pss_cons (ps_if (PW.pt (pw_or (pt_not (pt_val (pe_callB call_isi (by rfl) T.z_isinstance (by decide +kernel) (pa_cons (pv 1) (pa_cons (pe_bltn (v := .ty "tuple") (by rfl) T.z_tuple (by decide +kernel) rfl) pa_nil))))) (pw_or1 (pt_not (pt_val (pe_callB (cr_all rfl) (by rfl) T.z_all (by decide +kernel) (pa_cons (pe_lc (own := [("step", 6)]) (g := gName 6) (tt := tYes) rfl sc_statement_at.nd ((piTK K) (pv 1)) (blkOk_by (own := [("step", 6)]) (N := N_statement_at) (sc := C8.fnScope s_statement_at) (by decide +kernel)) (fun _ _ _ _ _ => (pg_name (i := 6) sc_statement_at.nd rfl (Or.inl rfl))) (fun _ _ _ _ _ => pts_nil) (fun _ _ _ _ _ => (C8.pe_c K_is_number hr (by decide) (by rfl) (pa_cons (pv 6) pa_nil)))) pa_nil))))))) (pss_one (ps_ret pe_non)) pss_nil)
    (pss_cons (ps_set (i := 2) sc_statement_at.nd rfl (Or.inl rfl) (pe_lst (pa_cons (pv 0) pa_nil)))
    (pss_cons (ps_set (i := 3) sc_statement_at.nd rfl (Or.inl rfl) pe_int)
    (pss_cons (ps_for PassesOwn.never rfl (pi_range3 (by rfl) T.z_range (pa_cons pe_int (pa_cons (pe_callB call_len_seq (by rfl) T.z_len (by decide +kernel) (pa_cons (pv 1) pa_nil)) (pa_cons pe_int pa_nil)))) (pg_name (i := 4) sc_statement_at.nd rfl (Or.inl rfl))
    (pss_cons (ps_if (PW.pt (pw_or (pt_not (pt_chain op_le op_lt pe_int (pv 3) (pe_callB call_len_seq (by rfl) T.z_len (by decide +kernel) (pa_cons (pv 2) pa_nil)))) (pw_or1 (pt_not (pt_chain op_le op_lt pe_int (pe_ix ix_tup (pv 1) (pv 4) (fun _ _ => rfl)) (pe_callB call_len_seq (by rfl) T.z_len (by decide +kernel) (pa_cons (pe_ix ix_list (pv 2) (pv 3) (fun _ _ => rfl)) pa_nil))))))) (pss_one (ps_ret pe_non)) pss_nil)
    (pss_cons (ps_set (i := 5) sc_statement_at.nd rfl (Or.inl rfl) (pe_ix ix_tup (pe_ix ix_list (pv 2) (pv 3) (fun _ _ => rfl)) (pe_ix ix_tup (pv 1) (pv 4) (fun _ _ => rfl)) (fun _ _ => rfl)))
    (pss_cons (ps_if (pt_cmpR op_eq (pe_op op_add (pv 4) pe_int) (pe_callB call_len_seq (by rfl) T.z_len (by decide +kernel) (pa_cons (pv 1) pa_nil)) (nomark _)) (pss_one (ps_ret (pv 5))) pss_nil)
    (pss_cons (ps_set (i := 2) sc_statement_at.nd rfl (Or.inl rfl) (C8.pe_c K_blocks_of hr (by decide) (by rfl) (pa_cons (pv 5) pa_nil)))
    (pss_one (ps_set (i := 3) sc_statement_at.nd rfl (Or.inl rfl) (pe_ix ix_tup (pv 1) (pe_op op_add (pv 4) pe_int) (fun _ _ => rfl)))))))))
    (pss_one (ps_ret pe_non)))))), ?_⟩
    refine ⟨_, rfl, _, _, _, _, true, rfl, .ty _, tyT hpa, rfl, _, rfl, iteF ?_⟩
    refine ⟨_, rfl, pa, rfl, ⟨_, hpa⟩, fun D nD => lc_tup (xs := place.map nV) (fun j H' => Same H H' ∧ H' D = some (.lst ((List.replicate j true).map V.bl))) ⟨Same.new nD, upd_same⟩ (fun i H' _ h => Same.seqT h.1 hpa) ?_ ?_⟩
    · rintro i x H1 hxi ⟨S1, h1⟩
      rw [List.getElem?_map] at hxi
      obtain ⟨n, hn, rfl⟩ := Option.map_eq_some_iff.mp hxi
      have hi := (List.getElem?_eq_some_iff.mp hn).1
      refine ⟨rfl, ?_⟩
      refine ⟨_, rfl, nV n, .int n, rfl, .int _, trivial, fun H2 S2 => ⟨_, S2 _ _ h1, szw (by simp; omega), Same.mut (S1.trans S2) nD, ?_⟩⟩
      rw [upd_same, List.replicate_succ', List.map_append]
      rfl
    · rintro H1 ⟨S1, h1⟩
      refine ⟨D, _, rfl, SqL.of h1, _, rfl, ?_⟩
      have e : (List.replicate (place.map nV).length true).all id = true := by simp
      rw [e]
      refine iteF ?_
      refine ⟨_, rfl, t1, fun L nL => ?_⟩
      have S2 : Same H (upd H1 L (.lst [v])) := Same.mut S1 (Same.free S1 nL)
      have eL : (upd H1 L (.lst [v])) L = some (.lst [v]) := new_eq
      generalize upd H1 L (.lst [v]) = H2 at S2 eL
      refine ⟨_, rfl, pa, _, rfl, .inr (Same.seqT S2 hpa), 0, ((place.map nV).length : Nat), 2, (place.length + 1) / 2, rfl, by rw [List.length_map]; exact rgc2 _ (by omega), ?_⟩
      refine for_rangeC (lo := 0) (c := 2) (n := (place.length + 1) / 2) (fun i σ H' => (∃ (L : Addr) (us : List V) (bs : List Bk) (n : Nat) (v4 v5 v6 : Option V), σ = [some v, some (.ref pa), some (.ref L), some (nV n), v4, v5, v6] ∧ H' L = some (.lst us) ∧ DpAll K H' us (bs.map fun b => .tuple (encB b)) ∧ (∀ b ∈ bs, OkBk b) ∧ stAt bs n (place.drop (2 * i)) = some st) ∧ Same H H') ?_ ?_ ?_
      · exact ⟨⟨L, [v], [root], 0, _, _, _, rfl, eL, .cons (dp_sm S2 hv) .nil, fun b hb => by rw [List.mem_singleton.mp hb]; exact hroot, hst⟩, S2⟩
      · rintro i σ H3 hi ⟨⟨L, us, bs, n, v4, v5, v6, rfl, hL, hus, hbs, hs⟩, S3⟩
        have hlt : 2 * i < place.length := by omega
        have ed : place.drop (2 * i) = place[2 * i] :: place.drop (2 * i + 1) := List.drop_eq_getElem_cons hlt
        rw [ed] at hs
        obtain ⟨bb, s', hb, hs', hcase⟩ := stAt_cons hs
        have hn := (List.getElem?_eq_some_iff.mp hb).1
        have hlen := dpAll_len hus
        rw [List.length_map] at hlen
        have hbb := hbs _ (List.mem_of_getElem? hb)
        obtain ⟨ub, hub, hdb⟩ := dpAll_get hus (i := n) (d := .tuple (encB bb)) (by rw [List.getElem?_map, hb]; rfl)
        obtain ⟨ab, xs, rfl, hab, lxs, hxs⟩ := bk_at hdb
        obtain ⟨us', hus', hds'⟩ := hxs _ _ hs'
        have hi2 := (List.getElem?_eq_some_iff.mp hs').1
        have hp3 := Same.seqT S3 hpa
        have e2i : (0 + (i : Int) * 2) = ((2 * i : Nat) : Int) := by omega
        have atp : atI (place.map nV) (0 + (i : Int) * 2) = some (nV place[2 * i]) := by
          rw [e2i]
          exact atI_nat (by rw [List.getElem?_map, List.getElem?_eq_getElem hlt]; rfl)
        have atb : atI us (n : Int) = some (.ref ab) := atI_nat hub
        have ats : atI xs (place[2 * i] : Int) = some us' := atI_nat hus'
        refine ⟨_, rfl, _, _, rfl, rfl, _, rfl, ?_⟩
        refine iteTe (decide_eq_true (by omega)) ⟨_, rfl, L, _, rfl, .inl (SqL.of hL), _, _, rfl, rfl, _, rfl, ?_⟩
        refine iteFe (by rw [decide_eq_true (by omega)]; rfl) ?_
        refine ⟨_, rfl, _, rfl, pa, _, _, _, rfl, rfl, hp3, atp, _, _, rfl, rfl, _, rfl, ?_⟩
        refine iteTe (decide_eq_true (by omega)) ⟨_, rfl, _, rfl, L, _, _, _, rfl, rfl, SqL.of hL, atb, ab, _, rfl, .inr hab, _, _, rfl, rfl, _, rfl, ?_⟩
        refine iteFe (by rw [decide_eq_true (by omega)]; rfl) ?_
        refine ⟨_, rfl, _, rfl, L, _, _, _, rfl, rfl, SqL.of hL, atb, _, rfl, _, rfl, pa, _, _, _, rfl, rfl, hp3, atp, ab, _, _, _, rfl, rfl, hab, ats, ?_⟩
        refine ⟨_, rfl, _, _, rfl, rfl, _, rfl, pa, _, rfl, .inr hp3, rfl, _, rfl, ?_⟩
        have ld : (place.drop (2 * i + 1)).length = place.length - (2 * i + 1) := List.length_drop
        rcases hcase with ⟨hr0, rfl⟩ | ⟨m, r2, hr0, hs2⟩
        · rw [hr0] at ld
          simp at ld
          refine iteTe (decide_eq_true (by rw [List.length_map]; exact congrArg V.int (by omega))) ⟨_, rfl, k _ _ S3 hds'⟩
        · rw [hr0] at ld
          simp at ld
          refine iteFe (decide_eq_false fun z => by have z := V.int.inj z; rw [List.length_map] at z; omega) ?_
          have hm : ∃ b', b' ∈ blocksOf s' := by
            cases r2 with
            | nil => cases hs2
            | cons i2 r3 =>
              obtain ⟨b', _, hb', _⟩ := stAt_cons hs2
              exact ⟨b', List.mem_of_getElem? hb'⟩
          obtain ⟨b', hb'⟩ := hm
          have oks := okB_mem hbb.o (List.mem_of_getElem? hs')
          refine ⟨_, rfl, us', s', _, rfl, Same.refl _, hds', shape_of_blocks hb', by have := okS_hs oks; omega, fun H4 L4 us4 S4 n4 e4 d4 => ?_⟩
          have am : place[2 * i + 1]? = some m := by
            have : (place.drop (2 * i + 1))[0]? = some m := by rw [hr0]; rfl
            rwa [List.getElem?_drop] at this
          have atm : atI (place.map nV) (0 + (i : Int) * 2 + 1) = some (nV m) := by
            rw [show (0 + (i : Int) * 2 + 1) = ((2 * i + 1 : Nat) : Int) by omega]
            exact atI_nat (by rw [List.getElem?_map, am]; rfl)
          refine ⟨_, rfl, _, rfl, _, _, rfl, rfl, pa, _, _, _, rfl, rfl, Same.seqT S4 hp3, atm, ?_⟩
          refine ⟨⟨L4, us4, blocksOf s', m, _, _, _, rfl, e4, dpA_sm S4 d4, okS_blocks oks, ?_⟩, S3.trans S4⟩
          have e5 : place.drop (2 * (i + 1)) = r2 := by
            have : place.drop (2 * i + 1 + 1) = (place.drop (2 * i + 1)).drop 1 := by rw [List.drop_drop]
            rw [show 2 * (i + 1) = 2 * i + 1 + 1 by omega, this, hr0]
            rfl
          rw [e5]
          exact hs2
      · rintro σ H3 ⟨⟨L, us, bs, n, v4, v5, v6, rfl, hL, hus, hbs, hs⟩, S3⟩
        rw [List.drop_eq_nil_of_le (by omega)] at hs
        cases hs
end
end K17

namespace K17
open PySem L2 Bx Tk Pm RZ
section
variable {P : Program} {w : World} {K : PySem.W.Frag} {mg : Str → Option Value} {base : Heap} {ad : Ad}
def spApart (K : PySem.W.Frag) : Sp := fun vs H Q _ => ∃ (v : V) (pa pb : Addr) (root : Bk) (one other : Pa), vs = [v, .ref pa, .ref pb] ∧ BkAt K H v root ∧ OkBk root ∧ SqT K H pa (one.map nV) ∧ SqT K H pb (other.map nV) ∧ one.length ≤ 900 ∧ other.length ≤ 900 ∧ GoodP root one ∧
  ∀ H', Same H H' → Q (.bl (apart root one other)) H'
theorem ok_are_apart {f : Addr} {fd : FuncData} (F : C8.Def K mg "are_apart" s_are_apart f fd) (b : Binds K fd ["block", "one", "other"] []) (T : Txt K mg ad) (K_handlers_of : C8.Cal P w K mg base 1 "handlers_of" (spHandlers K) []) (K_statement_at : C8.Cal P w K mg base 2 "statement_at" (spStAt K) []) : C8.Cal P w K mg base 3 "are_apart" (spApart K) [] := by
  refine C8.cal0 F b .nil sc_are_apart (fun vs H Q E h => ?_) (fun cdv A outer s H vs Q E hr h => ?_)
  · obtain ⟨v, pa, pb, root, one, other, rfl, _⟩ := h
    rfl
  · obtain ⟨v, pa, pb, root, one, other, rfl, hv, hroot, hpa, hpb, hl1, hl2, hgood, k⟩ := h
    refine ⟨_, (pss_cons (ps_set (i := 3) sc_are_apart.nd rfl (Or.inl rfl) pe_int)
    (C8.pss_cut (ps_while PassesOwn.never (PW.pt (pw_and (pt_cmpR op_lt (pv 3) (pe_callB call_len_seq (by rfl) T.z_len (by decide +kernel) (pa_cons (pv 1) pa_nil)) (nomark _)) (pw_and (pt_cmpR op_lt (pv 3) (pe_callB call_len_seq (by rfl) T.z_len (by decide +kernel) (pa_cons (pv 2) pa_nil)) (nomark _)) (pw_and1 (pt_cmpR op_eq (pe_ix ix_tup (pv 1) (pv 3) (fun _ _ => rfl)) (pe_ix ix_tup (pv 2) (pv 3) (fun _ _ => rfl)) (nomark _)))))) (pss_one (ps_aug (i := 3) sc_are_apart.nd rfl (.inl rfl) pe_int ip_add)))
    (pss_cons (ps_if (pt_cmpR op_eq (pe_op op_mod (pv 3) pe_int) pe_int (nomark _)) (pss_one (ps_ret pe_bl)) pss_nil)
    (pss_cons (ps_set (i := 4) sc_are_apart.nd rfl (Or.inl rfl) (pe_op op_catA (pe_slice sl_tupA (pv 1) (po_some (pv 3)) (po_some (pe_op op_add (pv 3) pe_int))) (pe_slice sl_tupA (pv 2) (po_some (pv 3)) (po_some (pe_op op_add (pv 3) pe_int)))))
    (pss_cons (ps_set (i := 5) sc_are_apart.nd rfl (Or.inr rfl) (C8.pe_c K_statement_at hr (by decide) (by rfl) (pa_cons (pv 0) (pa_cons (pe_slice sl_tupA (pv 1) po_none (po_some (pv 3))) pa_nil))))
    (pss_cons (ps_if (pt_cmpR op_eq (pe_ix ix_tup (pv 5) pe_int (fun _ _ => rfl)) pe_str (nomark _)) (pss_one (ps_ret (pe_cmpR op_in_seq pe_int (pv 4) (by rfl)))) pss_nil)
    (pss_cons (ps_if (pt_cmpR op_eq (pe_ix ix_tup (pv 5) pe_int (fun _ _ => rfl)) pe_str (nomark _)) (pss_one (ps_ret (pe_callB (cr_all rfl) (by rfl) T.z_all (by decide +kernel) (pa_cons (pe_lc (own := [("number", 6)]) (g := gName 6) (tt := tYes) rfl sc_are_apart.nd ((piTK K) (pv 4)) (blkOk_by (own := [("number", 6)]) (N := N_are_apart) (sc := C8.fnScope s_are_apart) (by decide +kernel)) (fun _ _ _ _ _ => (pg_name (i := 6) sc_are_apart.nd rfl (Or.inl rfl))) (fun _ _ _ _ _ => pts_nil) (fun _ _ _ _ _ => (pe_chain op_le op_le pe_int (pv 6) (pe_op op_add pe_int (pe_callB (lenK K) (by rfl) T.z_len (by decide +kernel) (pa_cons (C8.pe_c K_handlers_of hr (by decide) (by rfl) (pa_cons (pv 5) pa_nil)) pa_nil)))))) pa_nil)))) pss_nil)
    (pss_one (ps_ret pe_bl))))))))), ?_⟩
    have hlt := shared_le one other
    refine ⟨fun σ' H' => σ' = [some v, some (.ref pa), some (.ref pb), some (nV (sharedLen one other)), none, none, none] ∧ H' = H, ?_, ?_⟩
    · refine while_by (fun σ H' => (∃ k : Nat, σ = [some v, some (.ref pa), some (.ref pb), some (nV k), none, none, none] ∧ k ≤ one.length ∧ k ≤ other.length ∧ sharedLen one other = k + sharedLen (one.drop k) (other.drop k)) ∧ H' = H)
        (fun σ _ => match σ[3]? with | some (some (V.int i)) => one.length - i.toNat | _ => 0) ⟨⟨0, rfl, Nat.zero_le _, Nat.zero_le _, by simp⟩, rfl⟩ ?_ ?_
      · rintro σ H0 ⟨⟨j, rfl, hj1, hj2, hs⟩, rfl⟩
        refine ⟨_, rfl, _, rfl, pa, _, rfl, .inr hpa, _, _, rfl, rfl, _, rfl, ?_⟩
        by_cases c1 : j < one.length
        · refine iteTe (decide_eq_true (by rw [List.length_map]; omega)) ?_
          refine ⟨_, rfl, _, rfl, pb, _, rfl, .inr hpb, _, _, rfl, rfl, _, rfl, ?_⟩
          by_cases c2 : j < other.length
          · refine iteTe (decide_eq_true (by rw [List.length_map]; omega)) ?_
            refine ⟨_, rfl, _, rfl, pa, _, _, _, rfl, rfl, hpa, atI_nat (by rw [List.getElem?_map, List.getElem?_eq_getElem c1]; rfl), ?_⟩
            refine ⟨_, rfl, _, rfl, pb, _, _, _, rfl, rfl, hpb, atI_nat (by rw [List.getElem?_map, List.getElem?_eq_getElem c2]; rfl), rfl, _, rfl, ?_⟩
            have e3 := shared_step hs c1 c2
            by_cases c3 : one[j] = other[j]
            · rw [if_pos c3] at e3
              refine iteTe (decide_eq_true (by rw [c3])) ?_
              refine ⟨_, rfl, _, _, rfl, rfl, ⟨⟨j + 1, ?_, c1, c2, e3⟩, rfl⟩, ?_⟩
              · show [some v, some (V.ref pa), some (V.ref pb), some (V.int ((j : Int) + 1)), none, none, none] = _
                rw [show ((j : Int) + 1) = ((j + 1 : Nat) : Int) by omega]
                rfl
              · show one.length - ((j : Int) + 1).toNat < one.length - ((j : Int)).toNat
                omega
            · rw [if_neg c3] at e3
              exact iteFe (decide_eq_false fun z => c3 (by have := V.int.inj z; omega)) ⟨by rw [e3], rfl⟩
          · exact iteFe (decide_eq_false (by rw [List.length_map]; omega)) (iteF ⟨by rw [shared_end hs (.inr (by omega))], rfl⟩)
        · exact iteFe (decide_eq_false (by rw [List.length_map]; omega)) (iteF ⟨by rw [shared_end hs (.inl (by omega))], rfl⟩)
      · rintro σ H0 Q0 Q1 hq ⟨a1, a2, a3, a4, a5, a6, a7, a8, i1, i2, a9, a10, kk, a11, q⟩
        refine ⟨a1, a2, a3, a4, a5, a6, a7, a8, i1, i2, a9, a10, kk, a11, ?_⟩
        cases kk with
        | false => exact hq _ _ q
        | true =>
          obtain ⟨b1, b2, b3, b4, b5, b6, b7, b8, j1, j2, b9, b10, kk, b11, q⟩ := q
          refine ⟨b1, b2, b3, b4, b5, b6, b7, b8, j1, j2, b9, b10, kk, b11, ?_⟩
          cases kk with
          | false => exact hq _ _ q
          | true =>
            obtain ⟨c1, c2, c3, c4, c5, c6, c7, c8, c9, c10, c11, c12, d1, d2, d3, d4, d5, d6, d7, d8, d9, d10, d11, d12, d13, d14, d15, q⟩ := q
            exact ⟨c1, c2, c3, c4, c5, c6, c7, c8, c9, c10, c11, c12, d1, d2, d3, d4, d5, d6, d7, d8, d9, d10, d11, d12, d13, d14, d15, hq _ _ q⟩
    · rintro σ' H0 ⟨rfl, rfl⟩
      have ha : ∀ k0 : Nat, sharedLen one other = k0 → apart root one other = (if k0 % 2 = 0 then false else match statementAt root (one.take k0) with
          | some (.loop ..) => decide (1 ∈ (one.drop k0).take 1 ++ (other.drop k0).take 1)
          | some (.tryy _ hs _ _) => ((one.drop k0).take 1 ++ (other.drop k0).take 1).all fun n => decide (1 ≤ n ∧ n ≤ 1 + hs.list.length)
          | _ => true) := fun k0 e => by
        rw [← e]
        rfl
      generalize sharedLen one other = k0 at ha hlt
      rw [ha k0 rfl] at k
      refine ⟨_, rfl, _, _, rfl, rfl, (by show (0 : Int) < 2; decide), rfl, _, rfl, ?_⟩
      by_cases c0 : k0 % 2 = 0
      · rw [if_pos c0] at k
        exact iteTe (decide_eq_true (congrArg V.int (by omega))) (k H0 (Same.refl _))
      rw [if_neg c0] at k
      refine iteFe (decide_eq_false fun z => c0 (by have := V.int.inj z; omega)) ?_
      obtain ⟨s0, hs0, hsh0⟩ := hgood k0 (by omega) hlt.1
      refine ⟨_, rfl, _, rfl, _, rfl, _, rfl, _, _, rfl, rfl, _, rfl, ?_⟩
      refine slA_read hpa fun x1 H1 S1 h1 => ?_
      refine ⟨_, rfl, _, rfl, _, rfl, _, rfl, _, _, rfl, rfl, _, rfl, ?_⟩
      refine slA_read (Same.seqT S1 hpb) fun x2 H2 S2 h2 => ?_
      rw [cut_one, ← List.map_drop, ← List.map_take] at h1 h2
      have l1 := List.length_take_le 1 (one.drop k0)
      have l2 := List.length_take_le 1 (other.drop k0)
      refine catA_read (Same.seqT S2 h1) h2 (szl (by rw [List.length_map, List.length_map]; omega)) fun x3 H3 S3 h3 => ?_
      rw [← List.map_append] at h3
      have S03 := (S1.trans S2).trans S3
      have lst : ((one.drop k0).take 1 ++ (other.drop k0).take 1).length ≤ 2 := by
        rw [List.length_append]
        omega
      generalize (one.drop k0).take 1 ++ (other.drop k0).take 1 = steps at h3 k lst
      refine ⟨_, rfl, _, rfl, _, rfl, _, rfl, ?_⟩
      refine slA_read (Same.seqT S03 hpa) fun x4 H4 S4 h4 => ?_
      rw [cut_to, ← List.map_take] at h4
      have S04 := S03.trans S4
      have lt := List.length_take_le k0 one
      refine ⟨v, x4, root, one.take k0, s0, rfl, dp_sm S04 hv, hroot, h4, by rw [List.length_take]; omega, hs0, fun H5 u S5 hu => ?_⟩
      have S05 := S04.trans S5
      have h5 : SqT K H5 x3 (steps.map nV) := Same.seqT (S4.trans S5) h3
      obtain ⟨a, r, rfl, ha0⟩ := st_word hu hsh0
      rw [hs0] at k
      have at0 : atI ((V.str (wordOf s0)) :: r) 0 = some (.str (wordOf s0)) := atI_nat (j := 0) rfl
      refine ⟨_, rfl, a, _, _, _, rfl, rfl, ha0, at0, rfl, _, rfl, ?_⟩
      by_cases w1 : wordOf s0 = "for"
      · refine iteTe (decide_eq_true (by rw [w1])) ⟨_, rfl, x3, _, rfl, .inr h5, rfl, Pm.flat_nats _, ?_⟩
        show Q (.bl (inV (.int 1) (steps.map nV))) H5
        rw [show ((1 : Int)) = ((1 : Nat) : Int) from rfl, inV_nats]
        obtain ⟨_, _, _, _, _, _, _, rfl⟩ := word_for hsh0 w1
        exact k H5 S05
      refine iteFe (decide_eq_false fun z => w1 (V.str.inj z)) ?_
      refine ⟨_, rfl, a, _, _, _, rfl, rfl, ha0, at0, rfl, _, rfl, ?_⟩
      by_cases w2 : wordOf s0 = "try"
      · refine iteTe (decide_eq_true (by rw [w2])) ?_
        have k2 : ∀ H', Same H0 H' → Q (.bl (steps.all fun n => decide (1 ≤ n ∧ n ≤ 1 + (handlersOf s0).length))) H' := by
          obtain ⟨_, _, _, _, rfl⟩ := word_try hsh0 w2
          exact k
        refine ⟨_, rfl, x3, rfl, ⟨_, h5⟩, fun D nD => lc_tup (xs := steps.map nV) (fun j H' => Same H5 H' ∧ H' D = some (.lst (((steps.take j).map fun n => decide (1 ≤ n ∧ n ≤ 1 + (handlersOf s0).length)).map V.bl))) ⟨Same.new nD, upd_same⟩ (fun i H' _ h => Same.seqT h.1 h5) ?_ ?_⟩
        · rintro i x H6 hxi ⟨S6, h6⟩
          rw [List.getElem?_map] at hxi
          obtain ⟨n, hn, rfl⟩ := Option.map_eq_some_iff.mp hxi
          have hi := (List.getElem?_eq_some_iff.mp hn).1
          refine ⟨rfl, ?_⟩
          refine ⟨_, rfl, _, _, rfl, rfl, _, rfl, ?_⟩
          have fin : ∀ H7 b, Same H6 H7 → b = decide (1 ≤ n ∧ n ≤ 1 + (handlersOf s0).length) → ∃ acc, H7 D = some (HO.lst acc) ∧ acc.length < sizeLine ∧ Same H5 (upd H7 D (.lst (acc ++ [V.bl b]))) ∧ (upd H7 D (.lst (acc ++ [V.bl b]))) D = some (.lst (((steps.take (i + 1)).map fun n => decide (1 ≤ n ∧ n ≤ 1 + (handlersOf s0).length)).map V.bl)) := fun H7 b S7 eb => by
            refine ⟨_, S7 _ _ h6, szw (by simp; omega), Same.mut (S6.trans S7) nD, ?_⟩
            rw [upd_same, take_snoc hn, List.map_append, List.map_append, eb]
            rfl
          by_cases c1 : 1 ≤ n
          · refine iteTe (decide_eq_true (by omega)) ⟨_, rfl, _, s0, rfl, dp_sm S6 hu, hsh0, fun H7 u S7 hu7 => ?_⟩
            obtain ⟨q, xs, rfl, hq, hxs⟩ := Pm.inv_tup hu7
            have lx := dpAll_len hxs
            rw [hsD_list, List.length_map] at lx
            refine ⟨q, _, rfl, .inr hq, _, _, rfl, rfl, _, _, rfl, rfl, fin H7 _ S7 ?_⟩
            rw [lx, Bool.eq_iff_iff, decide_eq_true_eq, decide_eq_true_eq]
            omega
          · refine iteFe (decide_eq_false (by omega)) (fin H6 _ (Same.refl _) ?_)
            rw [decide_eq_false]
            omega
        · rintro H6 ⟨S6, h6⟩
          rw [List.length_map, List.take_length] at h6
          refine ⟨D, _, rfl, SqL.of h6, ?_⟩
          rw [List.all_map]
          exact k2 H6 (S05.trans S6)
      refine iteFe (decide_eq_false fun z => w2 (V.str.inj z)) ?_
      cases s0 <;> first | exact k H5 S05 | exact absurd rfl w1 | exact absurd rfl w2 | cases hsh0
end
end K17

/-! a well formed statement has its shape -/
namespace Pm
open PySem L2 Bx Tk RZ
theorem kd_name {d : PyData} : ofKind "name" d = isName d := if_pos rfl
theorem kd_value {d : PyData} : ofKind "value" d = isValue d := (if_neg (by decide +kernel)).trans (if_pos rfl)
theorem kd_lit {d : PyData} : ofKind "literal" d = isNLit d := (if_neg (by decide +kernel)).trans ((if_neg (by decide +kernel)).trans (if_pos rfl))
theorem kd_block {d : PyData} : ofKind "block" d = isTup d := (if_neg (by decide +kernel)).trans ((if_neg (by decide +kernel)).trans ((if_neg (by decide +kernel)).trans (if_pos rfl)))
theorem kd_hs {d : PyData} : ofKind "handlers" d = handlersB d := (if_neg (by decide +kernel)).trans ((if_neg (by decide +kernel)).trans ((if_neg (by decide +kernel)).trans (if_neg (by decide +kernel))))
theorem shape_at {x : Str} {r : List PyData} {ks : List Str} (h : shapeOf x = some ks) : hasShapeD (.tuple (.str x :: r)) = (decide (r.length = ks.length) && (r.zip ks).all fun p => ofKind p.2 p.1) := by
  show (match shapeOf x with | some ks => decide (r.length = ks.length) && (r.zip ks).all fun p => ofKind p.2 p.1 | none => false) = _
  rw [h]
theorem val_ok {t : Str} {n : Int} (h : termB t = true) : isValue (vD t n) = true := by
  show (isTerm (.str t) && true) = true
  rw [Bool.and_true]
  exact h
theorem lit_ok {l r : Str} {n : Int} (h1 : termB l = true) (h2 : termB r = true) : isNLit (lD l r n) = true := by
  show (true && (true && true) && (termB l && termB r)) = true
  rw [h1, h2]
  rfl
theorem noneOr_ok {x : Option Str} (h : ∀ y, x = some y → nameB y = true) : noneOr (oD x) = true := by
  cases x with
  | none => rfl
  | some y => exact h y rfl
theorem strsOf_map (ks : List Str) : strsOf (ks.map .str) = ks := by
  induction ks with
  | nil => rfl
  | cons k ks ih => rw [List.map_cons, strsOf, ih]
theorem hd_ok {h : List Str × Option Str × Bk} (o : OkHd h) : isHandler (encHd h) = true := by
  show (areNames (.tuple (h.1.map .str)) && (noneOr (oD h.2.1) && true)) = true
  have e : areNames (.tuple (h.1.map .str)) = true := by
    show ((h.1.map PyData.str).all isName && nodupB (strsOf (h.1.map .str))) = true
    rw [strsOf_map, o.nd, Bool.and_true, List.all_eq_true]
    intro d hd
    obtain ⟨k, hk, rfl⟩ := List.mem_map.mp hd
    exact o.ks k hk
  rw [e, noneOr_ok o.x]
  rfl
theorem hs_ok {hs : Hs} (o : okH hs = true) (l : hs.list.length ≤ 3) : handlersB (.tuple (encH hs)) = true := by
  show (decide (((encH hs).length : Int) ≤ 3) && (encH hs).all isHandler) = true
  rw [encH_list, List.length_map, decide_eq_true (by omega), Bool.true_and, List.all_map, List.all_eq_true]
  intro h hh
  exact hd_ok (okH_mem o hh)
theorem sh1_strs {ks : List Str} (l : ks.length ≤ 900) (h : ∀ k ∈ ks, nameB k = true) : sh1 (.tuple (ks.map .str)) := by
  refine ⟨by rw [List.length_map]; exact l, fun d hd => ?_⟩
  obtain ⟨k, hk, rfl⟩ := List.mem_map.mp hd
  exact name_len (h k hk)
theorem sh_str {x : Str} (h : x.length ≤ 1000) : sh3 (.str x) := h
theorem sh3_of1 {d : PyData} (h : sh1 d) : sh3 d ∨ True := .inr trivial
theorem shortS_tup {xs : List PyData} : shortS (.tuple xs) := trivial
theorem short_enc (s : Sm) (h : hasShape s = true) : shortS (encS s) := by
  obtain ⟨xs, e⟩ := st_tup s h
  rw [e]
  trivial
theorem small_val {t : Str} {n : Int} (h : termB t = true) : sh3 (vD t n) := by
  refine ⟨by simp [vD], fun d hd => ?_⟩
  simp only [vD, List.mem_cons, List.not_mem_nil, or_false] at hd
  rcases hd with e | e
  · rw [e]
    exact term_len h
  · rw [e]
    trivial
theorem small_lit {l r : Str} {n : Int} (h1 : termB l = true) (h2 : termB r = true) : sh3 (lD l r n) := by
  refine ⟨by simp [lD], fun d hd => ?_⟩
  simp only [lD, List.mem_cons, List.not_mem_nil, or_false] at hd
  rcases hd with e | e | e
  · rw [e]
    exact term_len h1
  · rw [e]
    exact term_len h2
  · rw [e]
    trivial
end Pm
namespace Pm
open PySem L2 Bx Tk RZ
theorem sh4_3 {d : PyData} (h : sh4 d) : sh3 d := by
  cases d with
  | tuple xs => exact ⟨h.1, fun d hd => sh3_2 (h.2 d hd)⟩
  | _ => exact h
theorem short_ok {s : Sm} (h : okS s = true) : shortS (encS s) := by
  cases s with
  | bad d =>
    rw [okS, Bool.and_eq_true] at h
    exact sh1_s (sh2_1 (sh3_2 (sh4_3 (s4_of h.2))))
  | _ => exact short_enc _ rfl
theorem blk_len (b : Bk) : (encB b).length = b.list.length := by rw [encB_list, List.length_map]
theorem blk_sh1 {b : Bk} (o : OkBk b) : sh1 (.tuple (encB b)) := by
  refine ⟨by rw [blk_len]; exact o.l, fun d hd => ?_⟩
  rw [encB_list] at hd
  obtain ⟨s, hs, rfl⟩ := List.mem_map.mp hd
  exact short_ok (okB_mem o.o hs)
theorem hs_sh1 {hs : Hs} (l : hs.list.length ≤ 3) : sh1 (.tuple (encH hs)) := by
  refine ⟨by rw [encH_list, List.length_map]; omega, fun d hd => ?_⟩
  rw [encH_list] at hd
  obtain ⟨h, hh, rfl⟩ := List.mem_map.mp hd
  trivial
/-- the parts of a well formed statement, each of it small by t -/
theorem parts_ok {t : PyData → Prop} (tn : ∀ x : Str, x.length ≤ 1000 → t (.str x)) (tv : ∀ x n, termB x = true → t (vD x n)) (tl : ∀ l r n, termB l = true → termB r = true → t (lD l r n)) (tb : ∀ b, OkBk b → t (.tuple (encB b))) (th : ∀ hs, okH hs = true → hs.list.length ≤ 3 → t (.tuple (encH hs)))
    {s : Sm} (h : okS s = true) (hs : hasShape s = true) : ∃ xs, encS s = .tuple xs ∧ xs.length ≤ 6 ∧ ∀ d ∈ xs, t d := by
  cases s with
  | set x u n =>
    rw [okS] at h
    simp only [Bool.and_eq_true] at h
    refine ⟨_, by rw [encS], by simp, ?_⟩
    simp only [List.mem_cons, List.not_mem_nil, or_false]
    rintro d (rfl | rfl | rfl)
    · exact tn _ (by decide)
    · exact tn _ (name_len h.1)
    · exact tv _ _ h.2
  | read x =>
    rw [okS] at h
    refine ⟨_, by rw [encS], by simp, ?_⟩
    simp only [List.mem_cons, List.not_mem_nil, or_false]
    rintro d (rfl | rfl)
    · exact tn _ (by decide)
    · exact tn _ (name_len h)
  | ite l r n b c =>
    rw [okS] at h
    simp only [Bool.and_eq_true, decide_eq_true_eq] at h
    refine ⟨_, by rw [encS], by simp, ?_⟩
    simp only [List.mem_cons, List.not_mem_nil, or_false]
    rintro d (rfl | rfl | rfl | rfl)
    · exact tn _ (by decide)
    · exact tl _ _ _ h.1.1.1 h.1.1.2
    · exact tb _ ⟨h.1.2.1, h.2.1⟩
    · exact tb _ ⟨h.1.2.2, h.2.2⟩
  | choose b c =>
    rw [okS] at h
    simp only [Bool.and_eq_true, decide_eq_true_eq] at h
    refine ⟨_, by rw [encS], by simp, ?_⟩
    simp only [List.mem_cons, List.not_mem_nil, or_false]
    rintro d (rfl | rfl | rfl)
    · exact tn _ (by decide)
    · exact tb _ ⟨h.1.1, h.2.1⟩
    · exact tb _ ⟨h.1.2, h.2.2⟩
  | ask l r n k =>
    rw [okS] at h
    simp only [Bool.and_eq_true] at h
    refine ⟨_, by rw [encS], by simp, ?_⟩
    simp only [List.mem_cons, List.not_mem_nil, or_false]
    rintro d (rfl | rfl | rfl)
    · exact tn _ (by decide)
    · exact tl _ _ _ h.1.1 h.1.2
    · exact tn _ (name_len h.2)
  | raise k u n =>
    rw [okS] at h
    simp only [Bool.and_eq_true] at h
    refine ⟨_, by rw [encS], by simp, ?_⟩
    simp only [List.mem_cons, List.not_mem_nil, or_false]
    rintro d (rfl | rfl | rfl)
    · exact tn _ (by decide)
    · exact tn _ (name_len h.1)
    · exact tv _ _ h.2
  | out x =>
    rw [okS] at h
    refine ⟨_, by rw [encS], by simp, ?_⟩
    simp only [List.mem_cons, List.not_mem_nil, or_false]
    rintro d (rfl | rfl)
    · exact tn _ (by decide)
    · exact tn _ (name_len h)
  | leave =>
    refine ⟨_, by rw [encS], by simp, ?_⟩
    simp only [List.mem_cons, List.not_mem_nil, or_false]
    rintro d rfl
    exact tn _ (by decide)
  | again =>
    refine ⟨_, by rw [encS], by simp, ?_⟩
    simp only [List.mem_cons, List.not_mem_nil, or_false]
    rintro d rfl
    exact tn _ (by decide)
  | loop x u n v m b c =>
    rw [okS] at h
    simp only [Bool.and_eq_true, decide_eq_true_eq] at h
    refine ⟨_, by rw [encS], by simp, ?_⟩
    simp only [List.mem_cons, List.not_mem_nil, or_false]
    rintro d (rfl | rfl | rfl | rfl | rfl | rfl)
    · exact tn _ (by decide)
    · exact tn _ (name_len h.1.1.1.1)
    · exact tv _ _ h.1.1.1.2
    · exact tv _ _ h.1.1.2
    · exact tb _ ⟨h.1.2.1, h.2.1⟩
    · exact tb _ ⟨h.1.2.2, h.2.2⟩
  | tryy b hs o a =>
    rw [okS] at h
    simp only [Bool.and_eq_true, decide_eq_true_eq] at h
    obtain ⟨⟨⟨h1, h2⟩, h3, h4⟩, ⟨h5, h6⟩, h7, h8⟩ := h
    refine ⟨_, by rw [encS], by simp, ?_⟩
    simp only [List.mem_cons, List.not_mem_nil, or_false]
    rintro d (rfl | rfl | rfl | rfl | rfl)
    · exact tn _ (by decide)
    · exact tb _ ⟨h1, h5⟩
    · exact th _ h2 h6
    · exact tb _ ⟨h3, h7⟩
    · exact tb _ ⟨h4, h8⟩
  | bad d => cases hs
theorem ok_sh2 {s : Sm} (h : okS s = true) : sh2 (encS s) := by
  cases e : hasShape s with
  | true =>
    obtain ⟨xs, ex, l, hx⟩ := parts_ok (t := sh1) (fun x l => l) (fun x n hx => sh2_1 (sh3_2 (small_val hx))) (fun l r n h1 h2 => sh2_1 (sh3_2 (small_lit h1 h2))) (fun b o => blk_sh1 o) (fun hs _ l => hs_sh1 l) h e
    rw [ex]
    exact ⟨by omega, hx⟩
  | false =>
    cases s <;> first | cases e | skip
    rw [okS, Bool.and_eq_true] at h
    exact sh3_2 (sh4_3 (s4_of h.2))
theorem blk_sh3 {b : Bk} (o : OkBk b) : sh3 (.tuple (encB b)) := by
  refine ⟨by rw [blk_len]; exact o.l, fun d hd => ?_⟩
  rw [encB_list] at hd
  obtain ⟨s, hs, rfl⟩ := List.mem_map.mp hd
  exact ok_sh2 (okB_mem o.o hs)
theorem hs_sh3 {hs : Hs} (o : okH hs = true) (l : hs.list.length ≤ 3) : sh3 (.tuple (encH hs)) := by
  refine ⟨by rw [encH_list, List.length_map]; omega, fun d hd => ?_⟩
  rw [encH_list] at hd
  obtain ⟨h, hh, rfl⟩ := List.mem_map.mp hd
  have q := okH_mem o hh
  refine ⟨by simp, fun d hd => ?_⟩
  simp only [List.mem_cons, List.not_mem_nil, or_false] at hd
  rcases hd with rfl | rfl | rfl
  · exact sh1_strs q.lk q.ks
  · cases e : h.2.1 with
    | none => trivial
    | some y => exact name_len (q.x y e)
  · exact blk_sh1 q.b
theorem ok_sh4 {s : Sm} (h : okS s = true) : sh4 (encS s) := by
  cases e : hasShape s with
  | true =>
    obtain ⟨xs, ex, l, hx⟩ := parts_ok (t := sh3) (fun x l => l) (fun x n hx => small_val hx) (fun l r n h1 h2 => small_lit h1 h2) (fun b o => blk_sh3 o) (fun hs o l => hs_sh3 o l) h e
    rw [ex]
    exact ⟨by omega, hx⟩
  | false =>
    cases s <;> first | cases e | skip
    rw [okS, Bool.and_eq_true] at h
    exact s4_of h.2
theorem ok_shape {s : Sm} (h : okS s = true) : hasShapeD (encS s) = hasShape s := by
  cases s with
  | bad d =>
    rw [okS, Bool.and_eq_true] at h
    have h1 : (!hasShapeD d) = true := h.1
    show hasShapeD d = false
    cases e : hasShapeD d with
    | false => rfl
    | true => rw [e] at h1; cases h1
  | set x u n =>
    rw [okS] at h
    simp only [Bool.and_eq_true] at h
    rw [encS, shape_at (ks := ["name", "value"]) (by decide +kernel)]
    show (true && (ofKind "name" (.str x) && (ofKind "value" (vD u n) && true))) = true
    rw [kd_name, kd_value, val_ok h.2]
    show (true && (nameB x && _)) = true
    rw [h.1]
    rfl
  | read x =>
    rw [okS] at h
    rw [encS, shape_at (ks := ["name"]) (by decide +kernel)]
    show (true && (ofKind "name" (.str x) && true)) = true
    rw [kd_name]
    show (true && (nameB x && true)) = true
    rw [h]
    rfl
  | ite l r n b c =>
    rw [okS] at h
    simp only [Bool.and_eq_true] at h
    rw [encS, shape_at (ks := ["literal", "block", "block"]) (by decide +kernel)]
    show (true && (ofKind "literal" (lD l r n) && (ofKind "block" (.tuple (encB b)) && (ofKind "block" (.tuple (encB c)) && true)))) = true
    rw [kd_lit, kd_block, kd_block, lit_ok h.1.1.1 h.1.1.2]
    rfl
  | choose b c =>
    rw [encS, shape_at (ks := ["block", "block"]) (by decide +kernel)]
    show (true && (ofKind "block" (.tuple (encB b)) && (ofKind "block" (.tuple (encB c)) && true))) = true
    rw [kd_block, kd_block]
    rfl
  | ask l r n k =>
    rw [okS] at h
    simp only [Bool.and_eq_true] at h
    rw [encS, shape_at (ks := ["literal", "name"]) (by decide +kernel)]
    show (true && (ofKind "literal" (lD l r n) && (ofKind "name" (.str k) && true))) = true
    rw [kd_lit, kd_name, lit_ok h.1.1 h.1.2]
    show (true && (true && (nameB k && true))) = true
    rw [h.2]
    rfl
  | raise k u n =>
    rw [okS] at h
    simp only [Bool.and_eq_true] at h
    rw [encS, shape_at (ks := ["name", "value"]) (by decide +kernel)]
    show (true && (ofKind "name" (.str k) && (ofKind "value" (vD u n) && true))) = true
    rw [kd_name, kd_value, val_ok h.2]
    show (true && (nameB k && _)) = true
    rw [h.1]
    rfl
  | out x =>
    rw [okS] at h
    rw [encS, shape_at (ks := ["name"]) (by decide +kernel)]
    show (true && (ofKind "name" (.str x) && true)) = true
    rw [kd_name]
    show (true && (nameB x && true)) = true
    rw [h]
    rfl
  | leave =>
    rw [encS, shape_at (ks := []) (by decide +kernel)]
    rfl
  | again =>
    rw [encS, shape_at (ks := []) (by decide +kernel)]
    rfl
  | loop x u n v m b c =>
    rw [okS] at h
    simp only [Bool.and_eq_true] at h
    rw [encS, shape_at (ks := ["name", "value", "value", "block", "block"]) (by decide +kernel)]
    show (true && (ofKind "name" (.str x) && (ofKind "value" (vD u n) && (ofKind "value" (vD v m) && (ofKind "block" (.tuple (encB b)) && (ofKind "block" (.tuple (encB c)) && true)))))) = true
    rw [kd_name, kd_value, kd_value, kd_block, kd_block, val_ok h.1.1.1.2, val_ok h.1.1.2]
    show (true && (nameB x && _)) = true
    rw [h.1.1.1.1]
    rfl
  | tryy b hs o a =>
    rw [okS] at h
    simp only [Bool.and_eq_true, decide_eq_true_eq] at h
    obtain ⟨⟨⟨h1, h2⟩, h3, h4⟩, ⟨h5, h6⟩, h7, h8⟩ := h
    rw [encS, shape_at (ks := ["block", "handlers", "block", "block"]) (by decide +kernel)]
    show (true && (ofKind "block" (.tuple (encB b)) && (ofKind "handlers" (.tuple (encH hs)) && (ofKind "block" (.tuple (encB o)) && (ofKind "block" (.tuple (encB a)) && true))))) = true
    rw [kd_block, kd_hs, kd_block, kd_block, hs_ok h2 h6]
    rfl
end Pm

/-! what a run of the check keeps, on the mirror alone -/
namespace Pm
open PySem L2 Bx Tk
/-- the check's counts -/
structure Cnt (n : Nat) (m : Sta) : Prop where
  k : m.known.length ≤ n
  s : m.set.length ≤ 3 * n
  p : ∀ q ∈ m.set, q.2.length ≤ 3 * n
theorem addS_len (x : Str) (p : Pa) : ∀ m : List (Str × List Pa), (addS m x p).length ≤ m.length + 1
  | [] => by simp [addS]
  | q :: m => by
    have := addS_len x p m
    rw [addS]
    split
    · simp
    · simp
      omega
theorem addS_rows {x : Str} {p : Pa} {B : Nat} : ∀ {m : List (Str × List Pa)}, (∀ q ∈ m, q.2.length ≤ B) → ∀ q ∈ addS m x p, q.2.length ≤ B + 1
  | [], h, q, hq => by
    rw [addS, List.mem_singleton] at hq
    rw [hq]
    simp
  | q0 :: m, h, q, hq => by
    rw [addS] at hq
    split at hq
    · rcases List.mem_cons.mp hq with e | e
      · rw [e]
        have := h q0 List.mem_cons_self
        simp
        exact this
      · exact Nat.le_succ_of_le (h q (List.mem_cons_of_mem _ e))
    · rcases List.mem_cons.mp hq with e | e
      · rw [e]
        exact Nat.le_succ_of_le (h q0 List.mem_cons_self)
      · exact addS_rows (fun q hq => h q (List.mem_cons_of_mem _ hq)) q e
theorem getS_mem {x : Str} {ps : List Pa} : ∀ {m : List (Str × List Pa)}, getS m x = some ps → (x, ps) ∈ m
  | [], h => by cases h
  | q :: m, h => by
    rw [getS] at h
    by_cases c : q.1 = x
    · rw [if_pos c] at h
      cases h
      rw [← c]
      exact List.mem_cons_self
    · rw [if_neg c] at h
      exact List.mem_cons_of_mem _ (getS_mem h)
theorem settings_len {s : Sm} {place : Pa} (h : okS s = true) : (settingsOf s place).length ≤ 3 := by
  cases e : setsOne s with
  | some x => rw [settings_one e]; simp
  | none =>
    rw [settings_more e]
    have := named_len place (handlersOf s) 0
    have := okS_hs h
    omega
/-- all paths that are noted go over well formed statements, and are not too long -/
def AllGood (root : Bk) (m : Sta) : Prop := ∀ q ∈ m.set, ∀ p ∈ q.2, GoodP root p ∧ p.length ≤ 900
theorem settings_path {s : Sm} {place : Pa} {q : Str × Pa} (h : q ∈ settingsOf s place) : q.2.length ≤ place.length + 1 := by
  cases e : setsOne s with
  | some x =>
    rw [settings_one e, List.mem_singleton] at h
    rw [h]
    simp
  | none =>
    rw [settings_more e] at h
    have : ∀ (l : List (List Str × Option Str × Bk)) (i : Nat), q ∈ namedAt place i l → q.2.length ≤ place.length + 1 := by
      intro l
      induction l with
      | nil => intro i h; cases h
      | cons a l ih =>
        intro i h
        obtain ⟨ks, n, b⟩ := a
        cases n with
        | none => exact ih (i + 1) h
        | some x =>
          rcases List.mem_cons.mp h with e | e
          · rw [e]
            simp
          · exact ih (i + 1) e
    exact this _ _ h

end Pm
namespace Pm
open PySem L2 Bx Tk
mutual
def szS : Sm → Nat
  | .ite _ _ _ b c => 1 + szB b + szB c
  | .choose b c => 1 + szB b + szB c
  | .loop _ _ _ _ _ b c => 1 + szB b + szB c
  | .tryy b hs o a => 1 + szB b + szH hs + szB o + szB a
  | _ => 1
def szB : Bk → Nat
  | .nil => 0
  | .cons s r => szS s + szB r
def szH : Hs → Nat
  | .nil => 0
  | .cons _ _ b r => 1 + szB b + szH r
end
mutual
def waysS : Sm → List Way
  | .ask _ _ _ k => [["raise", k]]
  | .raise k _ _ => [["raise", k]]
  | .out o => [["out", o]]
  | .leave => [["leave"]]
  | .again => [["again"]]
  | .ite _ _ _ b c => waysB b ++ waysB c
  | .choose b c => waysB b ++ waysB c
  | .loop _ _ _ _ _ b c => waysB b ++ waysB c
  | .tryy b hs o a => waysB b ++ (waysH hs ++ (waysB o ++ waysB a))
  | _ => []
def waysB : Bk → List Way
  | .nil => []
  | .cons s r => waysS s ++ waysB r
def waysH : Hs → List Way
  | .nil => []
  | .cons _ _ b r => waysB b ++ waysH r
end
/-- ways among W, names at most B -/
structure Ofb (W : List Way) (B : Nat) (f : Fw) : Prop where
  i : In W f
  n : ∀ p ∈ f, p.2.length ≤ B
section
variable {W : List Way} {A B : Nat} {f g : Fw}
theorem Ofb.le (h : Ofb W A f) (l : A ≤ B) : Ofb W B f := ⟨h.i, fun p hp => Nat.le_trans (h.n p hp) l⟩
theorem Ofb.okf (h : Ofb W B f) (l : B ≤ 1000) : Okf W f := ⟨h.i, fun p hp => Nat.le_trans (h.n p hp) l⟩
theorem Ofb.nil : Ofb W B [] := ⟨fun _ h => (List.not_mem_nil h).elim, fun _ h => (List.not_mem_nil h).elim⟩
theorem Ofb.either (a : Ofb W B f) (b : Ofb W B g) : Ofb W B (eitherF f g) := ⟨either_in a.i b.i, either_names a.n b.n⟩
theorem Ofb.filter (t : Way × Names → Bool) (a : Ofb W B f) : Ofb W B (f.filter t) := ⟨filter_in t a.i, fun p hp => a.n p (List.mem_filter.mp hp).1⟩
theorem Ofb.without (a : Ofb W B f) : Ofb W B (withoutEnd f) := a.filter _
theorem Ofb.put {k : Way} {v : Names} (a : Ofb W B f) (hk : k ∈ W) (hv : v.length ≤ B) : Ofb W B (putF f k v) := ⟨putF_in a.i hk, putF_names a.n hv⟩
theorem Ofb.one {k : Way} {v : Names} (hk : k ∈ W) (hv : v.length ≤ B) : Ofb W B [(k, v)] := ⟨in_one hk, fun p hp => by rw [List.mem_singleton.mp hp]; exact hv⟩
theorem Ofb.get {k : Way} {v : Names} (a : Ofb W B f) (e : getF f k = some v) : v.length ≤ B := a.n _ (getF_names e)
theorem Ofb.way {p : Way × Names} (a : Ofb W B f) (h : p ∈ f) : p.1 ∈ W := a.i _ (List.mem_map_of_mem h)
theorem Ofb.loop (a : Ofb W B f) (b : Ofb W B g) (e : END ∈ W) : Ofb W B (loopF f g) := by
  unfold loopF
  refine b.either ?_
  cases q : getF f LEAVE with
  | none => exact a.filter _
  | some v => exact (a.filter _).put e (a.get q)
theorem ofb_getD {fs : List Fw} (h : ∀ f ∈ fs, Ofb W B f) (i : Nat) : Ofb W B (fs.getD i []) := by
  rw [List.getD_eq_getElem?_getD]
  cases q : fs[i]? with
  | none => exact Ofb.nil
  | some f => exact h f (List.mem_of_getElem? q)
theorem Ofb.try_ {fs : List Fw} (hs : List (List Str × Option Str × Bk)) (h : ∀ f ∈ fs, Ofb W B f) : Ofb W B (tryF hs fs) := by
  have st : ∀ (l : Fw) (fl : Fw), (∀ p ∈ l, p.1 ∈ W ∧ p.2.length ≤ B) → Ofb W B fl → Ofb W B (l.foldl (tryStep hs fs (fs.getD 0 [])) fl) := by
    intro l
    induction l with
    | nil => exact fun fl _ h => h
    | cons p l ih =>
      intro fl hl hf
      refine ih _ (fun q hq => hl q (List.mem_cons_of_mem _ hq)) ?_
      unfold tryStep
      obtain ⟨h1, h2⟩ := hl p List.mem_cons_self
      split
      · exact hf.either (Ofb.one h1 h2)
      · exact hf.either (ofb_getD h _)
  unfold tryF
  have h0 := st (withoutEnd (fs.getD 0 [])) [] (fun p hp => by
    have := (ofb_getD h 0).without
    exact ⟨this.way hp, this.n p hp⟩) Ofb.nil
  have h1 : Ofb W B (if (getF (fs.getD 0 []) END).isSome then eitherF ((withoutEnd (fs.getD 0 [])).foldl (tryStep hs fs (fs.getD 0 [])) []) (fs.getD (fs.length - 2) []) else (withoutEnd (fs.getD 0 [])).foldl (tryStep hs fs (fs.getD 0 [])) []) := by
    split
    · exact h0.either (ofb_getD h _)
    · exact h0
  simp only
  split
  · exact Ofb.either h1 (ofb_getD h _).without
  · exact ofb_getD h _
theorem Ofb.simple {s : Sm} {known : Names} (hw : ∀ k ∈ waysS s, k ∈ W) (e : END ∈ W) : Ofb W (known.length + 1) (simpleF s known) := by
  cases s with
  | set x t n => exact Ofb.one e (by simp)
  | read x => exact Ofb.one e (by simp)
  | ask l r n k =>
    refine ⟨fun a ha => ?_, fun p hp => ?_⟩
    · have ha : a ∈ [END, ["raise", k]] := ha
      rcases List.mem_cons.mp ha with z | z
      · rw [z]; exact e
      · rw [List.mem_singleton.mp z]; exact hw _ (by rw [waysS]; simp)
    · have hp : p ∈ [(END, known), (["raise", k], [])] := hp
      rcases List.mem_cons.mp hp with z | z
      · rw [z]; simp
      · rw [List.mem_singleton.mp z]; simp
  | raise k t n => exact Ofb.one (hw _ (by rw [waysS]; simp)) (by simp)
  | out o => exact Ofb.one (hw _ (by rw [waysS]; simp)) (by simp)
  | leave => exact Ofb.one (hw _ (by rw [waysS]; simp)) (by simp)
  | again => exact Ofb.one (hw _ (by rw [waysS]; simp)) (by simp)
  | ite l r n b c => exact Ofb.nil
  | choose b c => exact Ofb.nil
  | loop x t n u m b c => exact Ofb.nil
  | tryy b hs o a => exact Ofb.nil
  | bad d => exact Ofb.nil
end
/-! where things stand -/
/-- the statements from the i-th on, of the block at before -/
def StR (root : Bk) (before : Pa) (i : Nat) (r : Bk) : Prop := ∀ j q, statementAt root (before ++ (i + j) :: q) = stAt [r] 0 (j :: q)
structure StS (root : Bk) (place : Pa) (s : Sm) : Prop where
  at_ : statementAt root place = some s
  sub : ∀ j q, statementAt root (place ++ j :: q) = stAt (blocksOf s) j q
section
variable {root : Bk} {before place : Pa} {i j : Nat} {s : Sm} {r b : Bk}
theorem stAt_at {bs : List Bk} {n i : Nat} {q : Pa} : stAt bs n (i :: q) = match bs[n]? with
    | none => none
    | some b => match b.list[i]?, q with
      | none, _ => none
      | some s, [] => some s
      | some s, m :: r2 => stAt (blocksOf s) m r2 := by rw [stAt.eq_def]; rfl
theorem StR.tail (h : StR root before i (.cons s r)) : StR root before (i + 1) r := fun j q => by
  have e : i + 1 + j = i + (j + 1) := by omega
  rw [e, h (j + 1) q, stAt_at, stAt_at]
  rfl
theorem StR.head (h : StR root before i (.cons s r)) : StS root (before ++ [i]) s := by
  refine ⟨?_, fun j q => ?_⟩
  · have := h 0 []
    rw [stAt_at] at this
    exact this
  · have := h 0 (j :: q)
    rw [stAt_at] at this
    rw [List.append_assoc]
    exact this
theorem StS.block (h : StS root place s) (e : (blocksOf s)[j]? = some b) : StR root (place ++ [j]) 0 b := fun i q => by
  have := h.sub j (i :: q)
  rw [List.append_assoc]
  show statementAt root (place ++ (j :: (0 + i) :: q)) = _
  rw [Nat.zero_add, this, stAt_at, stAt_at, e]
  rfl
theorem good_place (h : GoodP root before) (ev : before.length % 2 = 0) (st : statementAt root (before ++ [i]) = some s) (hs : hasShape s = true) : GoodP root (before ++ [i]) := fun k hk hl => by
  rw [List.length_append, List.length_singleton] at hl
  by_cases c : k ≤ before.length
  · obtain ⟨s2, h1, h2⟩ := h k hk c
    exact ⟨s2, by rw [List.take_append_of_le_length c]; exact h1, h2⟩
  · have e : k = (before ++ [i]).length := by rw [List.length_append, List.length_singleton]; omega
    rw [e, List.take_length]
    exact ⟨s, st, hs⟩
theorem good_step (h : GoodP root place) (od : place.length % 2 = 1) : GoodP root (place ++ [j]) := fun k hk hl => by
  rw [List.length_append, List.length_singleton] at hl
  have c : k ≤ place.length := by omega
  obtain ⟨s2, h1, h2⟩ := h k hk c
  exact ⟨s2, by rw [List.take_append_of_le_length c]; exact h1, h2⟩
theorem good_nil : GoodP root [] := fun k hk hl => by
  have : k = 0 := Nat.le_zero.mp hl
  omega
theorem str_root : StR root [] 0 root := fun j q => by
  show statementAt root ((0 + j) :: q) = _
  rw [Nat.zero_add]
  rfl
end
end Pm

namespace K17
open PySem L2 Bx Tk Pm RZ
section
variable {P : Program} {w : World} {K : PySem.W.Frag} {mg : Str → Option Value} {base : Heap} {ad : Ad}
theorem ok_BadProgram_init {f : Addr} {fd : FuncData} (F : C8.Fun K "__init__" "BadProgram.__init__" s_BadProgram_init f fd) : FnOk P w K mg base C8.CX0 1 f fd ["self", "place", "why"] (spErr2 K "place" "why") := by
  refine C8.fn0 F sc_BadProgram_init (fun vs H Q E h => ?_) (fun cdv A outer s H vs Q E hr h => ?_)
  · obtain ⟨a, C, v1, v2, rfl, _⟩ := h
    rfl
  · obtain ⟨a, C, v1, v2, rfl, ha, hC, h1, h2, k⟩ := h
    refine ⟨_, pss_cons (ps_ost (pv 0) (pv 1)) (pss_one (ps_ost (pv 0) (pv 2))), ?_⟩
    refine ⟨_, rfl, _, rfl, a, C, rfl, hC, h1, .inl ⟨ha, fun dx n1 n2 => ?_⟩⟩
    refine ⟨_, rfl, _, rfl, a, C, rfl, hC, h2, .inr ⟨dx, [("place", v1)], upd_same, ?_, by simp, k dx n1 n2⟩⟩
    rw [upd_ne n2]
    exact upd_same
def spNote (P : Program) (w : World) (K : PySem.W.Frag) (ad : Ad) : Sp := fun vs H Q _ => ∃ (C : Ck) (m : Sta) (os : List Addr) (v : V) (s : Sm) (pa : Addr) (place : Pa), vs = [.ref C.c, v, .ref pa] ∧ ChkAt P w K C H m os ∧ C.cls = ad.cK ∧ Dp K C.H0 v (encS s) ∧ hasShape s = true ∧ okS s = true ∧
  SqT K H pa (place.map nV) ∧ place.length ≤ 900 ∧ Cnt 10000 m ∧ ∀ H' os', Fr C os H H' → Grow H os os' → ChkAt P w K C H' ⟨noted s place m.set, m.known⟩ os' → Q .non H'
theorem ok_note {f : Addr} {fd : FuncData} (F : C8.Fun K "note" "Check.note" s_Check_note f fd) (me : Meth K ad.cK "note" f) (b : Binds K fd ["self", "statement", "place"] []) (T : Txt K mg ad) (K_settings_of : C8.Cal P w K mg base 2 "settings_of" (spSettings K) []) : C8.Met P w K mg base 3 ad.cK "note" (spNote P w K ad) [] := by
  refine C8.met0 T.cK me F b sc_Check_note (fun vs H Q E h => ?_) (fun cdv A outer s H vs Q E hr h => ?_)
  · obtain ⟨C, m, os, v, st, pa, place, rfl, _⟩ := h
    rfl
  · obtain ⟨C, m, os, v, st, pa, place, rfl, hC, hcls, hv, hsh, hok, hpa, hpl, hcnt, k⟩ := h
    refine ⟨_, (pss_one (ps_for PassesOwn.never rfl (pi_list (C8.pe_c K_settings_of hr (by decide) (by rfl) (pa_cons (pv 1) (pa_cons (pv 2) pa_nil)))) (pg_tup (by rfl) (pgs_cons (pg_name (i := 3) sc_Check_note.nd rfl (Or.inl rfl)) (pgs_cons (pg_name (i := 4) sc_Check_note.nd rfl (Or.inl rfl)) pgs_nil)))
    (pss_one (ps_expr (pe_bm PySem.F.plainAttrs_list PySem.F.slot_list_append PySem.F.type_list_append mt_append (pe_dsetd (pe_fld (pv 0) rfl) (pv 3) (pe_lst pa_nil) ⟨rfl, rfl, rfl, rfl⟩) (pa_cons (pv 4) pa_nil)))))), ?_⟩
    have hhs := okS_hs hok
    refine ⟨_, rfl, _, rfl, v, st, pa, place, rfl, dp_sm hC.s0 hv, hsh, by omega, hpa, by omega, fun H1 L ts S1 nL eL hts => ?_⟩
    have lset := settings_len (place := place) hok
    have lts := Paired.length hts
    refine ⟨L, rfl, ⟨_, SqL.of eL⟩, for_list (xs := ts.map .ref) (fun i σ H' => (∃ v3 v4, σ = [some (.ref C.c), some v, some (.ref pa), v3, v4]) ∧ ∃ os', Fr C os H1 H' ∧ Grow H1 os os' ∧ ChkAt P w K C H' ⟨((settingsOf st place).take i).foldl (fun m q => addS m q.1 q.2) m.set, m.known⟩ os' ∧
      (((settingsOf st place).take i).foldl (fun m q => addS m q.1 q.2) m.set).length ≤ 30000 + i ∧ ∀ q ∈ ((settingsOf st place).take i).foldl (fun m q => addS m q.1 q.2) m.set, q.2.length ≤ 30000 + i) ?_ ?_ ?_ ?_⟩
    · exact ⟨⟨_, _, rfl⟩, os, Fr.refl, Grow.refl, hC.same S1, by simpa using hcnt.s, by simpa using hcnt.p⟩
    · rintro i σ H' _ ⟨_, os', fr, gr, _⟩
      refine SqL.of (fr L _ eL (fun e => ?_) (fun e => ?_) fun e => ?_)
      · obtain ⟨⟨kvs, k1⟩, _, _⟩ := hC.kinds
        rw [e, k1] at nL
        cases nL
      · obtain ⟨_, ⟨es, k2⟩, _⟩ := hC.kinds
        rw [e, k2] at nL
        cases nL
      · obtain ⟨_, _, k3⟩ := hC.kinds
        obtain ⟨xs, k4⟩ := k3 L e
        rw [k4] at nL
        cases nL
    · rintro i x σ H2 hxi ⟨⟨v3, v4, rfl⟩, os2, fr2, gr2, hC2, hl2, hp2⟩
      rw [List.getElem?_map] at hxi
      obtain ⟨t, ht, rfl⟩ := Option.map_eq_some_iff.mp hxi
      obtain ⟨q, hq, pb, h1, h2⟩ := paired_get hts ht
      have hi := (List.getElem?_eq_some_iff.mp hq).1
      have hC1 := hC.same S1
      have ht2 := Fr.sq hC1 fr2 h1
      have hp2' := Fr.sq hC1 fr2 h2
      refine ⟨t, _, rfl, ht2, rfl, _, _, rfl, _, _, rfl, rfl, ?_⟩
      have efold : ((settingsOf st place).take (i + 1)).foldl (fun m q => addS m q.1 q.2) m.set = addS (((settingsOf st place).take i).foldl (fun m q => addS m q.1 q.2) m.set) q.1 q.2 := by
        rw [take_snoc hq, List.foldl_append]
        rfl
      rw [efold]
      generalize ((settingsOf st place).take i).foldl (fun m q => addS m q.1 q.2) m.set = mm at hC2 hl2 hp2
      have tc : Cls K C.cls := by rw [hcls]; exact T.cK
      have tn : NoAttr K C.cls "settings" := by rw [hcls]; exact T.nK.2.2.1
      have t0 : (0 : Nat) ≤ sizeLine := by decide
      refine ⟨_, rfl, C.c, _, _, _, _, rfl, hC2.ins, tc, tn, rfl, C.dS, rfl, .inl ⟨_, .inl hC2.set.d⟩, _, rfl, t0, fun L2 nL2 => ?_⟩
      have S3 : Same H2 (upd H2 L2 (.lst [])) := Same.new nL2
      have e3 : (upd H2 L2 (.lst [])) L2 = some (.lst []) := new_eq
      have hC3 := hC2.same S3
      have hpb3 := Same.seqT S3 hp2'
      generalize upd H2 L2 (.lst []) = H3 at S3 e3 hC3 hpb3
      have lk : (kvsOf mm os2).length ≤ mm.length := by
        have : ∀ (a : List (Str × List Pa)) (b : List Addr), (kvsOf a b).length ≤ a.length := by
          intro a
          induction a with
          | nil => intro b; simp [kvsOf]
          | cons p a ih =>
            intro b
            cases b with
            | nil => simp [kvsOf]
            | cons l b =>
              have := ih b
              simp [kvsOf]
              exact this
        exact this _ _
      have bl : (addS mm q.1 q.2).length ≤ 30000 + (i + 1) := by
        have := addS_len q.1 q.2 mm
        omega
      have bp : ∀ r ∈ addS mm q.1 q.2, r.2.length ≤ 30000 + (i + 1) := addS_rows hp2
      have gr3 : Grow H1 os os2 := gr2
      refine ⟨_, Sum.inr q.1, hC3.set.d, rfl, szw (show (kvsOf mm os2).length ≤ _ by omega), fun u hu => ?_, fun hn => ?_⟩
      · cases eg : getS mm q.1 with
        | none =>
          have z := get_none hC3.set.r eg
          rw [hu] at z
          cases z
        | some ps =>
          obtain ⟨l, tz, h3, h4, h5, h6, h7⟩ := hC3.app eg
          rw [hu] at h3
          cases h3
          obtain ⟨f7, c7⟩ := h7 pb q.2 hpb3
          refine ⟨.inl ⟨rfl, _, SqL.of h4⟩, _, rfl, l, _, _, rfl, rfl, h4, ?_, ⟨_, _, rfl⟩, os2, ?_, gr3, c7, bl, bp⟩
          · rw [List.length_map, h5]
            exact szw (by have z : ps.length ≤ _ := hp2 _ (getS_mem eg); omega)
          · exact Fr.trans gr3 fr2 (Fr.trans Grow.refl (Fr.of_same S3) f7)
      · cases eg : getS mm q.1 with
        | some ps =>
          obtain ⟨l, tz, h3, _⟩ := hC3.app eg
          rw [hn] at h3
          cases h3
        | none =>
          have nl0 : C.H0 L2 = none := by
            cases z : C.H0 L2 with
            | none => rfl
            | some o =>
              rw [hC2.s0 _ _ z] at nL2
              cases nL2
          have nos : L2 ∉ os2 := fun z => by
            obtain ⟨_, _, k3⟩ := hC2.kinds
            obtain ⟨xs, k4⟩ := k3 _ z
            rw [k4] at nL2
            cases nL2
          obtain ⟨⟨kv0, k1⟩, ⟨es0, k2⟩, k3⟩ := hC2.kinds
          have ndS : L2 ≠ C.dS := fun z => by rw [z, k1] at nL2; cases nL2
          have c7 := hC3.add eg e3 nl0 nos pb q.2 hpb3
          refine ⟨.inl ⟨rfl, _, SqL.of (by rw [upd_ne ndS]; exact e3)⟩, _, rfl, L2, _, _, rfl, rfl, by rw [upd_ne ndS]; exact e3, by decide, ⟨_, _, rfl⟩, os2 ++ [L2], ?_, ?_, c7, bl, bp⟩
          · refine Fr.trans gr3 fr2 fun a o ha n1 n2 n3 => ?_
            have na : a ≠ L2 := fun z => by rw [z, nL2] at ha; cases ha
            rw [upd_ne na, upd_ne n1]
            exact S3 a o ha
          · obtain ⟨more, rfl, hm⟩ := gr3
            refine ⟨more ++ [L2], by rw [List.append_assoc], fun l hl => ?_⟩
            rcases List.mem_append.mp hl with z | z
            · exact hm l z
            · rw [List.mem_singleton.mp z]
              exact Fr.free hC2 ⟨more, rfl, hm⟩ fr2 nL2
    · rintro σ H2 ⟨⟨v3, v4, rfl⟩, os2, fr2, gr2, hC2, _, _⟩
      have el : (settingsOf st place).take (ts.map V.ref).length = settingsOf st place := by rw [List.length_map, lts, List.take_length]
      rw [el] at hC2
      refine k H2 os2 (fun a o ha n1 n2 n3 => fr2 a o (S1 _ _ ha) n1 n2 n3) ?_ hC2
      obtain ⟨more, e, hm⟩ := gr2
      exact ⟨more, e, fun l hl => Same.free S1 (hm l hl)⟩
end
end K17

namespace K17
open PySem L2 Bx Tk Pm RZ
section
variable {P : Program} {w : World} {K : PySem.W.Frag} {mg : Str → Option Value} {base : Heap} {ad : Ad}
def spAgain (P : Program) (w : World) (K : PySem.W.Frag) (ad : Ad) : Sp := fun vs H Q _ => ∃ (C : Ck) (m : Sta) (os : List Addr) (v : V) (s : Sm) (pa : Addr) (place : Pa), vs = [.ref C.c, v, .ref pa] ∧ ChkAt P w K C H m os ∧ C.cls = ad.cK ∧ Dp K C.H0 v (encS s) ∧ hasShape s = true ∧ okS s = true ∧
  SqT K H pa (place.map nV) ∧ place.length ≤ 890 ∧ AllGood C.root m ∧ ∀ H', Same H H' → Q (.bl (setsAgain C.inputs C.root m.set s place)) H'
theorem ok_sets_again {f : Addr} {fd : FuncData} (F : C8.Fun K "sets_again" "Check.sets_again" s_Check_sets_again f fd) (me : Meth K ad.cK "sets_again" f) (b : Binds K fd ["self", "statement", "place"] []) (T : Txt K mg ad) (K_settings_of : C8.Cal P w K mg base 2 "settings_of" (spSettings K) []) (K_are_apart : C8.Cal P w K mg base 3 "are_apart" (spApart K) []) : C8.Met P w K mg base 4 ad.cK "sets_again" (spAgain P w K ad) [] := by
  refine C8.met0 T.cK me F b sc_Check_sets_again (fun vs H Q E h => ?_) (fun cdv A outer s H vs Q E hr h => ?_)
  · obtain ⟨C, m, os, v, st, pa, place, rfl, _⟩ := h
    rfl
  · obtain ⟨C, m, os, v, st, pa, place, rfl, hC, hcls, hv, hsh, hok, hpa, hpl, hgood, k⟩ := h
    have hu := hu_of hr
    refine ⟨_, (pss_cons (ps_for PassesOwn.never rfl (pi_list (C8.pe_c K_settings_of hr (by decide) (by rfl) (pa_cons (pv 1) (pa_cons (pv 2) pa_nil)))) (pg_tup (by rfl) (pgs_cons (pg_name (i := 3) sc_Check_sets_again.nd rfl (Or.inl rfl)) (pgs_cons (pg_name (i := 4) sc_Check_sets_again.nd rfl (Or.inl rfl)) pgs_nil)))
    (pss_cons (ps_if (pt_cmpR op_in_seq (pv 3) (pe_fld (pv 0) rfl) (by rfl)) (pss_one (ps_ret pe_bl)) pss_nil)
    (pss_one (ps_for PassesOwn.never rfl (pi_list (pe_dget2 hu (pe_fld (pv 0) rfl) (pv 3) (pe_lst pa_nil) ⟨rfl, rfl, rfl, rfl⟩)) (pg_name (i := 5) sc_Check_sets_again.nd rfl (Or.inl rfl))
    (pss_one (ps_if (pt_not (pt_val (C8.pe_c K_are_apart hr (by decide) (by rfl) (pa_cons (pe_fld (pv 0) rfl) (pa_cons (pv 5) (pa_cons (pv 4) pa_nil)))))) (pss_one (ps_ret pe_bl)) pss_nil))))))
    (pss_one (ps_ret pe_bl))), ?_⟩
    have hhs := okS_hs hok
    have tc : Cls K C.cls := by rw [hcls]; exact T.cK
    have tn1 : NoAttr K C.cls "inputs" := by rw [hcls]; exact T.nK.1
    have tn2 : NoAttr K C.cls "block" := by rw [hcls]; exact T.nK.2.1
    have tn3 : NoAttr K C.cls "settings" := by rw [hcls]; exact T.nK.2.2.1
    have t0 : (0 : Nat) ≤ sizeLine := by decide
    refine ⟨_, rfl, _, rfl, v, st, pa, place, rfl, dp_sm hC.s0 hv, hsh, by omega, hpa, by omega, fun H1 L ts S1 nL eL hts => ?_⟩
    have lts := Paired.length hts
    unfold setsAgain at k
    have hC1 := hC.same S1
    refine ⟨L, rfl, ⟨_, SqL.of eL⟩, for_list (xs := ts.map .ref) (fun i σ H' => (∃ v3 v4 v5, σ = [some (.ref C.c), some v, some (.ref pa), v3, v4, v5]) ∧ Same H1 H' ∧ ((settingsOf st place).any fun q => decide (q.1 ∈ C.inputs) || ((getS m.set q.1).getD []).any fun e => !apart C.root e q.2) = (((settingsOf st place).drop i).any fun q => decide (q.1 ∈ C.inputs) || ((getS m.set q.1).getD []).any fun e => !apart C.root e q.2)) ?_ ?_ ?_ ?_⟩
    · exact ⟨⟨_, _, _, rfl⟩, Same.refl _, by rw [List.drop_zero]⟩
    · rintro i σ H' _ ⟨_, S, _⟩
      exact Same.seq S (SqL.of eL)
    · rintro i x σ H2 hxi ⟨⟨v3, v4, v5, rfl⟩, S2, eany⟩
      rw [List.getElem?_map] at hxi
      obtain ⟨t, ht, rfl⟩ := Option.map_eq_some_iff.mp hxi
      obtain ⟨q, hq, pb, h1, h2⟩ := paired_get hts ht
      obtain ⟨hi, eqi⟩ := List.getElem?_eq_some_iff.mp hq
      have ed : (settingsOf st place).drop i = q :: (settingsOf st place).drop (i + 1) := by
        rw [List.drop_eq_getElem_cons hi, eqi]
      rw [ed, List.any_cons] at eany
      have hC2 := hC1.same S2
      refine ⟨t, _, rfl, Same.seqT S2 h1, rfl, _, _, rfl, _, _, rfl, rfl, ?_⟩
      refine ⟨_, rfl, _, rfl, C.c, _, _, _, _, rfl, hC2.ins, tc, tn1, rfl, C.pin, _, rfl, .inr (Same.seqT hC2.s0 hC.inp), rfl, Pm.flat_strs _, _, rfl, ?_⟩
      rw [inV_strs]
      by_cases c1 : q.1 ∈ C.inputs
      · rw [decide_eq_true c1]
        refine iteT ?_
        have := k H2 (S1.trans S2)
        rw [eany, decide_eq_true c1] at this
        exact this
      rw [decide_eq_false c1]
      rw [decide_eq_false c1, Bool.false_or] at eany
      refine iteF ?_
      refine ⟨_, rfl, C.c, _, _, _, _, rfl, hC2.ins, tc, tn3, rfl, C.dS, rfl, .inl ⟨_, .inl hC2.set.d⟩, _, rfl, t0, fun L2 nL2 => ?_⟩
      have S3 : Same H2 (upd H2 L2 (.lst [])) := Same.new nL2
      have e3 : (upd H2 L2 (.lst [])) L2 = some (.lst []) := new_eq
      have hC3 := hC2.same S3
      generalize upd H2 L2 (.lst []) = H3 at S3 e3 hC3
      -- the inner loop, over the list l of the paths ps
      have row : ∃ (l : Addr) (tz : List Addr), ((valV (kvsOf m.set os) (Sum.inr q.1)).getD (.ref L2)) = .ref l ∧ H3 l = some (.lst (tz.map .ref)) ∧ Paired (PathR K H3) tz ((getS m.set q.1).getD []) := by
        cases eg : getS m.set q.1 with
        | none =>
          rw [get_none hC3.set.r eg]
          exact ⟨L2, [], rfl, e3, .nil⟩
        | some ps =>
          obtain ⟨l, z1, z2, tz, z3, z4⟩ := get_some hC3.set.r eg
          rw [z1]
          exact ⟨l, tz, rfl, z3, z4⟩
      obtain ⟨l, tz, r1, r2, r3⟩ := row
      refine ⟨_, DGet.k (k := Sum.inr q.1) hC3.set.d, ?_⟩
      refine ⟨l, r1, ⟨_, SqL.of r2⟩, ?_⟩
      generalize erows : (getS m.set q.1).getD [] = rows at r3 eany
      have hrows : ∀ p ∈ rows, GoodP C.root p ∧ p.length ≤ 900 := fun p hp => by
        cases eg : getS m.set q.1 with
        | none => rw [eg] at erows; rw [← erows] at hp; cases hp
        | some ps =>
          rw [eg] at erows
          have erows : ps = rows := erows
          rw [← erows] at hp
          exact hgood _ (getS_mem eg) p hp
      have lz := Paired.length r3
      have S13 := (S1.trans S2).trans S3
      refine for_list (xs := tz.map .ref) (fun j σ H' => (∃ v5, σ = [some (.ref C.c), some v, some (.ref pa), some (.str q.1), some (.ref pb), v5]) ∧ Same H3 H' ∧ (rows.any fun e => !apart C.root e q.2) = ((rows.drop j).any fun e => !apart C.root e q.2)) ?_ ?_ ?_ ?_
      · exact ⟨⟨_, rfl⟩, Same.refl _, by rw [List.drop_zero]⟩
      · rintro j σ H' _ ⟨_, S, _⟩
        exact Same.seq S (SqL.of r2)
      · rintro j x σ H4 hxj ⟨⟨v5, rfl⟩, S4, e4⟩
        rw [List.getElem?_map] at hxj
        obtain ⟨t2, ht2, rfl⟩ := Option.map_eq_some_iff.mp hxj
        obtain ⟨p, hp, hpt⟩ := paired_get r3 ht2
        obtain ⟨hj, epj⟩ := List.getElem?_eq_some_iff.mp hp
        have ed2 : rows.drop j = p :: rows.drop (j + 1) := by
          rw [List.drop_eq_getElem_cons hj, epj]
        rw [ed2, List.any_cons] at e4
        obtain ⟨g1, g2⟩ := hrows p (List.mem_of_getElem? hp)
        have hC4 := hC3.same S4
        have lq := settings_path (List.mem_of_getElem? hq)
        refine ⟨_, rfl, C.c, _, _, _, _, rfl, hC4.ins, tc, tn2, rfl, _, rfl, _, rfl, C.pb, t2, pb, C.root, p, q.2, rfl, dp_sm hC4.s0 hC.blk, hC.ok, Same.seqT S4 hpt, Same.seqT ((S2.trans S3).trans S4) h2, g2, by omega, g1, fun H5 S5 => ⟨_, rfl, ?_⟩⟩
        cases ea : apart C.root p q.2 with
        | false =>
          rw [ea] at e4
          refine iteT ?_
          have := k H5 ((S13.trans S4).trans S5)
          rw [eany, e4] at this
          exact this
        | true =>
          rw [ea] at e4
          exact iteF ⟨⟨_, rfl⟩, S4.trans S5, e4⟩
      · rintro σ H4 ⟨⟨v5, rfl⟩, S4, e4⟩
        rw [List.drop_eq_nil_of_le (by rw [List.length_map]; omega)] at e4
        rw [e4] at eany
        exact ⟨⟨_, _, _, rfl⟩, (S2.trans S3).trans S4, eany⟩
    · rintro σ H2 ⟨⟨v3, v4, v5, rfl⟩, S2, eany⟩
      rw [List.drop_eq_nil_of_le (by rw [List.length_map]; omega)] at eany
      have := k H2 (S1.trans S2)
      rw [eany] at this
      exact this
end
end K17

namespace K17
open PySem L2 Bx Tk Pm RZ
section
variable {P : Program} {w : World} {K : PySem.W.Frag} {mg : Str → Option Value} {base : Heap} {ad : Ad}
/-- the known names, or none -/
def KnV (K : PySem.W.Frag) (H : Hp) (v : V) : Option Pm.Names → Prop
  | none => v = .non
  | some kn => ∃ b, v = .ref b ∧ SqT K H b (kn.map V.str)
theorem KnV.st {H H' : Hp} {v : V} {o : Option Pm.Names} (h : KnV K H v o) (st : ∀ b ks, SqT K H b ks → SqT K H' b ks) : KnV K H' v o := by
  cases o with
  | none => exact h
  | some kn =>
    obtain ⟨b, h1, h2⟩ := h
    exact ⟨b, h1, st _ _ h2⟩
def spFault (P : Program) (w : World) (K : PySem.W.Frag) (ad : Ad) : Sp := fun vs H Q _ => ∃ (C : Ck) (m : Sta) (os : List Addr) (v : V) (s : Sm) (pa : Addr) (place : Pa) (kv : V) (known : Option Pm.Names) (looped : Bool), vs = [.ref C.c, v, .ref pa, kv, .bl looped] ∧ ChkAt P w K C H m os ∧ C.cls = ad.cK ∧ Dp K C.H0 v (encS s) ∧ okS s = true ∧
  SqT K H pa (place.map nV) ∧ place.length ≤ 890 ∧ AllGood C.root m ∧ KnV K H kv known ∧ ∀ H', Same H H' → Q (oV (faultOf C.inputs C.root m.set s place known looped)) H'
def loopy : Sm → Bool
  | .leave => true
  | .again => true
  | _ => false
theorem word_loopy (s : Sm) (h : hasShape s = true) : inV (.str (wordOf s)) [.str "leave", .str "again"] = loopy s := by
  cases s <;> first | (simp only [wordOf, loopy]; decide +kernel) | cases h
theorem fault_eq {inputs : Pm.Names} {root : Bk} {m : List (Str × List Pa)} {s : Sm} {place : Pa} {kn : Pm.Names} {looped : Bool} (h : hasShape s = true) : faultOf inputs root m s place (some kn) looped =
    if setsAgain inputs root m s place then some ("name" : Str) else if (termsOf s).any fun t => decide (t ≠ "") && !decide (t ∈ kn) then some ("term" : Str) else if loopy s && !looped then some ("loop" : Str) else none := by
  unfold faultOf
  rw [h]
  cases s <;> rfl
theorem ok_fault {f : Addr} {fd : FuncData} (F : C8.Fun K "fault" "Check.fault" s_Check_fault f fd) (me : Meth K ad.cK "fault" f) (b : Binds K fd ["self", "statement", "place", "known", "looped"] []) (T : Txt K mg ad)
    (K_has_shape : C8.Cal P w K mg base 6 "has_shape" (spB K sh4 hasShapeD) []) (K_sets_again : C8.Met P w K mg base 4 ad.cK "sets_again" (spAgain P w K ad) []) (K_terms_of : C8.Cal P w K mg base 1 "terms_of" (spTerms K) []) : C8.Met P w K mg base 7 ad.cK "fault" (spFault P w K ad) [] := by
  refine C8.met0 T.cK me F b sc_Check_fault (fun vs H Q E h => ?_) (fun cdv A outer s H vs Q E hr h => ?_)
  · obtain ⟨C, m, os, v, st, pa, place, kv, known, looped, rfl, _⟩ := h
    rfl
  · obtain ⟨C, m, os, v, st, pa, place, kv, known, looped, rfl, hC, hcls, hv, hok, hpa, hpl, hgood, hkn, k⟩ := h
    refine ⟨_, (pss_cons (ps_if (pt_not (pt_val (C8.pe_c K_has_shape hr (by decide) (by rfl) (pa_cons (pv 1) pa_nil)))) (pss_one (ps_ret pe_str)) pss_nil)
    (pss_cons (ps_if (pt_cmpR op_isN (pv 3) pe_non (nomark _)) (pss_one (ps_ret pe_str)) pss_nil)
    (pss_cons (ps_if (pt_val (C8.pe_mt K_sets_again hr (by omega) (pv 0) (pa_cons (pv 1) (pa_cons (pv 2) pa_nil)))) (pss_one (ps_ret pe_str)) pss_nil)
    (pss_cons (ps_for PassesOwn.never rfl (pi_list (C8.pe_c K_terms_of hr (by decide) (by rfl) (pa_cons (pv 1) pa_nil))) (pg_name (i := 5) sc_Check_fault.nd rfl (Or.inl rfl))
    (pss_one (ps_if (PW.pt (pw_and (pt_cmpR op_ne (pv 5) pe_str (nomark _)) (pw_and1 (pt_cmpR op_notIn_seq (pv 5) (pv 3) (by rfl))))) (pss_one (ps_ret pe_str)) pss_nil)))
    (pss_cons (ps_if (PW.pt (pw_and (pt_cmpR op_in_seq (pe_ix ix_tup (pv 1) pe_int (fun _ _ => rfl)) (pe_tup (pa_cons pe_str (pa_cons pe_str pa_nil))) (by rfl)) (pw_and1 (pt_not (pt_truth (pv 4) (by intro _; rfl)))))) (pss_one (ps_ret pe_str)) pss_nil)
    (pss_one (ps_ret pe_non))))))), ?_⟩
    refine ⟨_, rfl, v, encS st, rfl, dp_sm hC.s0 hv, ok_sh4 hok, fun H1 S1 => ⟨_, rfl, ?_⟩⟩
    rw [ok_shape hok]
    cases hsh : hasShape st with
    | false =>
      refine iteT ?_
      have := k H1 S1
      unfold faultOf at this
      rw [hsh] at this
      exact this
    | true =>
    refine iteF ?_
    cases known with
    | none =>
      cases hkn
      refine ⟨_, rfl, rfl, true, rfl, iteT ?_⟩
      have := k H1 S1
      unfold faultOf at this
      rw [hsh] at this
      exact this
    | some kn =>
    obtain ⟨b, rfl, hb⟩ := hkn
    rw [fault_eq hsh] at k
    refine ⟨_, rfl, rfl, false, rfl, iteF ?_⟩
    have hC1 := hC.same S1
    refine ⟨_, rfl, C.c, _, _, rfl, hcls ▸ hC1.ins, rfl, _, rfl, _, rfl, C, m, os, v, st, pa, place, rfl, hC1, hcls, hv, hsh, hok, Same.seqT S1 hpa, hpl, hgood, fun H2 S2 => ⟨_, rfl, ?_⟩⟩
    cases e1 : setsAgain C.inputs C.root m.set st place with
    | true =>
      refine iteT ?_
      have := k H2 (S1.trans S2)
      rw [e1] at this
      exact this
    | false =>
    rw [e1, if_neg Bool.false_ne_true] at k
    refine iteF ?_
    have hC2 := hC1.same S2
    refine ⟨_, rfl, v, st, rfl, dp_sm hC2.s0 hv, hsh, fun H3 L S3 nL eL => ?_⟩
    have hC3 := hC2.same S3
    have hb3 := Same.seqT ((S1.trans S2).trans S3) hb
    have S13 := (S1.trans S2).trans S3
    refine ⟨L, rfl, ⟨_, SqL.of eL⟩, for_list (xs := (termsOf st).map V.str) (fun i σ H' => (∃ v5, σ = [some (.ref C.c), some v, some (.ref pa), some (.ref b), some (.bl looped), v5]) ∧ Same H3 H' ∧ ((termsOf st).any fun t => decide (t ≠ "") && !decide (t ∈ kn)) = (((termsOf st).drop i).any fun t => decide (t ≠ "") && !decide (t ∈ kn))) ?_ ?_ ?_ ?_⟩
    · exact ⟨⟨_, rfl⟩, Same.refl _, by rw [List.drop_zero]⟩
    · rintro i σ H' _ ⟨_, S, _⟩
      exact Same.seq S (SqL.of eL)
    · rintro i x σ H4 hxi ⟨⟨v5, rfl⟩, S4, eany⟩
      rw [List.getElem?_map] at hxi
      obtain ⟨t, ht, rfl⟩ := Option.map_eq_some_iff.mp hxi
      obtain ⟨hi, eqi⟩ := List.getElem?_eq_some_iff.mp ht
      have ed : (termsOf st).drop i = t :: (termsOf st).drop (i + 1) := by
        rw [List.drop_eq_getElem_cons hi, eqi]
      rw [ed, List.any_cons] at eany
      refine ⟨_, rfl, rfl, _, rfl, ?_⟩
      by_cases c1 : t = ""
      · rw [c1]
        refine iteFe (by decide +kernel) (iteF ⟨⟨_, rfl⟩, S4, ?_⟩)
        rw [eany, c1, decide_eq_false (fun z => z rfl), Bool.false_and, Bool.false_or]
      · refine iteTe (by rw [decide_eq_false fun z => c1 (V.str.inj z)]; rfl) ?_
        refine ⟨_, rfl, _, rfl, b, _, rfl, .inr (Same.seqT S4 hb3), rfl, Pm.flat_strs _, _, rfl, ?_⟩
        rw [inV_strs]
        rw [decide_eq_true c1, Bool.true_and] at eany
        by_cases c2 : t ∈ kn
        · refine iteFe (by rw [decide_eq_true c2]; rfl) ⟨⟨_, rfl⟩, S4, ?_⟩
          rw [eany, decide_eq_true c2, Bool.not_true, Bool.false_or]
        · refine iteTe (by rw [decide_eq_false c2]; rfl) ?_
          have := k H4 (S13.trans S4)
          rw [eany, decide_eq_false c2, Bool.not_false, Bool.true_or, if_pos rfl] at this
          exact this
    · rintro σ H4 ⟨⟨v5, rfl⟩, S4, eany⟩
      rw [List.drop_eq_nil_of_le (by rw [List.length_map]; omega)] at eany
      rw [eany, List.any_nil, if_neg Bool.false_ne_true] at k
      obtain ⟨a, r, rfl, ha⟩ := st_word (dp_sm (hC3.same S4).s0 hv) hsh
      have t0 : (2 : Nat) ≤ sizeLine := by decide
      refine ⟨_, rfl, a, _, 0, _, rfl, rfl, ha, atI_nat (j := 0) rfl, t0, fun T2 nT2 => ?_⟩
      refine ⟨T2, _, rfl, .inr (SqT.of upd_same), rfl, rfl, _, rfl, ?_⟩
      rw [word_loopy st hsh]
      have S5 : Same H4 (upd H4 T2 (.tup [.str "leave", .str "again"])) := Same.new nT2
      have := k _ ((S13.trans S4).trans S5)
      cases e3 : loopy st with
      | false =>
        refine iteFe rfl ?_
        rw [e3] at this
        exact iteF this
      | true =>
        refine iteTe rfl ?_
        rw [e3] at this
        cases looped with
        | true =>
          exact ⟨_, rfl, _, rfl, iteF this⟩
        | false =>
          exact ⟨_, rfl, _, rfl, iteT this⟩
end
end K17

/-! what a run of the check keeps, on the mirror alone: by the form of the program -/
namespace Pm
open PySem L2 Bx Tk
structure Inv (root : Bk) (n : Nat) (m : Sta) : Prop where
  g : AllGood root m
  c : Cnt n m
theorem fault_none {inputs : Names} {root : Bk} {m : List (Str × List Pa)} {s : Sm} {place : Pa} {known : Option Names} {looped : Bool} (h : faultOf inputs root m s place known looped = none) : hasShape s = true ∧ ∃ kn, known = some kn := by
  unfold faultOf at h
  cases e : hasShape s with
  | false =>
    rw [e] at h
    cases h
  | true =>
    rw [e] at h
    cases known with
    | none => cases h
    | some kn => exact ⟨rfl, kn, rfl⟩
theorem try_first {b o a : Bk} {hs : Hs} : (blocksOf (.tryy b hs o a))[0]? = some b := rfl
theorem try_hand {b o a : Bk} {hs : Hs} {j : Nat} {h : List Str × Option Str × Bk} (e : hs.list[j]? = some h) : (blocksOf (.tryy b hs o a))[1 + j]? = some h.2.2 := by
  show (b :: (hs.list.map (·.2.2)) ++ [o, a])[1 + j]? = _
  have hj := (List.getElem?_eq_some_iff.mp e).1
  rw [Nat.add_comm, List.cons_append, List.getElem?_cons_succ, List.getElem?_append_left (by rw [List.length_map]; exact hj), List.getElem?_map, e]
  rfl
theorem try_other {b o a : Bk} {hs : Hs} : (blocksOf (.tryy b hs o a))[1 + hs.list.length]? = some o := by
  show (b :: (hs.list.map (·.2.2)) ++ [o, a])[1 + hs.list.length]? = _
  rw [Nat.add_comm, List.cons_append, List.getElem?_cons_succ, List.getElem?_append_right (by rw [List.length_map]; exact Nat.le_refl _), List.length_map, Nat.sub_self]
  rfl
theorem try_always {b o a : Bk} {hs : Hs} : (blocksOf (.tryy b hs o a))[2 + hs.list.length]? = some a := by
  show (b :: (hs.list.map (·.2.2)) ++ [o, a])[2 + hs.list.length]? = _
  have e : 2 + hs.list.length = (hs.list.length + 1) + 1 := by omega
  rw [e, List.cons_append, List.getElem?_cons_succ, List.getElem?_append_right (by rw [List.length_map]; omega), List.length_map]
  have e2 : hs.list.length + 1 - hs.list.length = 1 := by omega
  rw [e2]
  rfl
theorem addS_good {root : Bk} {x : Str} {p : Pa} (hp : GoodP root p ∧ p.length ≤ 900) : ∀ {m : List (Str × List Pa)}, (∀ q ∈ m, ∀ p ∈ q.2, GoodP root p ∧ p.length ≤ 900) → ∀ q ∈ addS m x p, ∀ p ∈ q.2, GoodP root p ∧ p.length ≤ 900
  | [], h, q, hq, r, hr => by
    rw [addS, List.mem_singleton] at hq
    rw [hq, List.mem_singleton] at hr
    rw [hr]
    exact hp
  | q0 :: m, h, q, hq, r, hr => by
    rw [addS] at hq
    split at hq
    · rcases List.mem_cons.mp hq with e | e
      · rw [e] at hr
        rcases List.mem_append.mp hr with z | z
        · exact h q0 List.mem_cons_self r z
        · rw [List.mem_singleton.mp z]
          exact hp
      · exact h q (List.mem_cons_of_mem _ e) r hr
    · rcases List.mem_cons.mp hq with e | e
      · rw [e] at hr
        exact h q0 List.mem_cons_self r hr
      · exact addS_good hp (fun q hq => h q (List.mem_cons_of_mem _ hq)) q e r hr
theorem settings_good {root : Bk} {s : Sm} {place : Pa} {q : Str × Pa} (h : q ∈ settingsOf s place) (g : GoodP root place) (od : place.length % 2 = 1) (l : place.length ≤ 890) : GoodP root q.2 ∧ q.2.length ≤ 900 := by
  have lp := settings_path h
  refine ⟨?_, by omega⟩
  cases e : setsOne s with
  | some x =>
    rw [settings_one e, List.mem_singleton] at h
    rw [h]
    exact g
  | none =>
    rw [settings_more e] at h
    have : ∀ (l : List (List Str × Option Str × Bk)) (i : Nat), q ∈ namedAt place i l → GoodP root q.2 := by
      intro l
      induction l with
      | nil => intro i h; cases h
      | cons a l ih =>
        intro i h
        obtain ⟨ks, n, b⟩ := a
        cases n with
        | none => exact ih (i + 1) h
        | some x =>
          rcases List.mem_cons.mp h with e | e
          · rw [e]
            exact good_step g od
          · exact ih (i + 1) e
    exact this _ _ h
theorem putP_len {m : List (Pa × Names)} {p : Pa} {v : Names} : (putP m p v).length ≤ m.length + 1 := by
  unfold putP
  split
  · rw [List.length_map]
    omega
  · simp
theorem inv_noted {root : Bk} {n : Nat} {m : Sta} {s : Sm} {place : Pa} {kn : Names} (h : Inv root n m) (ok : okS s = true) (g : GoodP root place) (od : place.length % 2 = 1) (l : place.length ≤ 890) : Inv root (n + 1) ⟨noted s place m.set, putP m.known place kn⟩ := by
  have key : ∀ (l : List (Str × Pa)) (ms : List (Str × List Pa)) (c : Nat), (∀ q ∈ l, GoodP root q.2 ∧ q.2.length ≤ 900) → (∀ q ∈ ms, ∀ p ∈ q.2, GoodP root p ∧ p.length ≤ 900) → ms.length ≤ c → (∀ q ∈ ms, q.2.length ≤ c) →
      (∀ q ∈ l.foldl (fun m q => addS m q.1 q.2) ms, ∀ p ∈ q.2, GoodP root p ∧ p.length ≤ 900) ∧ (l.foldl (fun m q => addS m q.1 q.2) ms).length ≤ c + l.length ∧ ∀ q ∈ l.foldl (fun m q => addS m q.1 q.2) ms, q.2.length ≤ c + l.length := by
    intro l
    induction l with
    | nil => exact fun ms c _ h2 h3 h4 => ⟨h2, h3, h4⟩
    | cons q l ih =>
      intro ms c h1 h2 h3 h4
      have := ih (addS ms q.1 q.2) (c + 1) (fun r hr => h1 r (List.mem_cons_of_mem _ hr)) (addS_good (h1 q List.mem_cons_self) h2) (Nat.le_trans (addS_len _ _ _) (by omega)) (addS_rows h4)
      have e : c + 1 + l.length = c + (q :: l).length := by rw [List.length_cons]; omega
      rw [e] at this
      exact this
  have sl := settings_len (place := place) ok
  obtain ⟨k1, k2, k3⟩ := key (settingsOf s place) m.set (3 * n) (fun q hq => settings_good hq g od l) h.g h.c.s h.c.p
  refine ⟨k1, ⟨?_, ?_, fun q hq => ?_⟩⟩
  · have := putP_len (m := m.known) (p := place) (v := kn)
    have := h.c.k
    show (putP m.known place kn).length ≤ _
    omega
  · show (noted s place m.set).length ≤ _
    unfold noted
    omega
  · have := k3 q hq
    omega
theorem Inv.le {root : Bk} {n n2 : Nat} {m : Sta} (h : Inv root n m) (l : n ≤ n2) : Inv root n2 m := ⟨h.g, ⟨Nat.le_trans h.c.k l, Nat.le_trans h.c.s (by omega), fun q hq => Nat.le_trans (h.c.p q hq) (by omega)⟩⟩
theorem st_simple {inputs : Names} {root : Bk} {s : Sm} {place : Pa} {known : Names} {looped : Bool} {m : Sta} (hb : blocksOf s = []) : stFlow inputs root s place known looped m = .ok (simpleF s known, m) := by
  cases s <;> first | (rw [stFlow.eq_def]; rfl) | cases hb
theorem szS_pos (s : Sm) : 1 ≤ szS s := by
  cases s <;> (simp only [szS]; try omega)
theorem ok_inj {α β ε : Type} {a b : α} {m m' : β} (h : (Except.ok (a, m) : Except ε (α × β)) = .ok (b, m')) : a = b ∧ m = m' := by cases h; exact ⟨rfl, rfl⟩
def KnL (k : Nat) (known : Option Names) : Prop := ∀ kn, known = some kn → kn.length ≤ k
section
variable (inputs : Names) (root : Bk) (W : List Way)
def StG (s : Sm) : Prop := ∀ (place : Pa) (known : Names) (looped : Bool) (m m' : Sta) (f : Fw) (n k : Nat), StS root place s → GoodP root place → place.length % 2 = 1 → okS s = true → (∀ w ∈ waysS s, w ∈ W) → place.length + 2 * szS s ≤ 890 → known.length ≤ k → Inv root n m →
    stFlow inputs root s place known looped m = .ok (f, m') → Ofb W (k + szS s) f ∧ Inv root (n + (szS s - 1)) m'
def BkG (b : Bk) : Prop := ∀ (before : Pa) (i : Nat) (flow : Fw) (known : Option Names) (looped : Bool) (m m' : Sta) (f : Fw) (n k : Nat), StR root before i b → GoodP root before → before.length % 2 = 0 → okB b = true → (∀ w ∈ waysB b, w ∈ W) → before.length + 2 * szB b ≤ 889 → Ofb W k flow → KnL k known → Inv root n m →
    bkFlow inputs root b before i flow known looped m = .ok (f, m') → Ofb W (k + szB b) f ∧ Inv root (n + szB b) m'
def HsG (hs : Hs) : Prop := ∀ (place : Pa) (i : Nat) (known : Names) (looped : Bool) (m m' : Sta) (fs : List Fw) (n k : Nat), (∀ j h, hs.list[j]? = some h → StR root (place ++ [i + j]) 0 h.2.2) → GoodP root place → place.length % 2 = 1 → okH hs = true → (∀ w ∈ waysH hs, w ∈ W) → place.length + 1 + 2 * szH hs ≤ 889 → known.length ≤ k → Inv root n m →
    hsFlow inputs root hs place i known looped m = .ok (fs, m') → (∀ f ∈ fs, Ofb W (k + szH hs) f) ∧ fs.length = hs.list.length ∧ Inv root (n + szH hs) m'
variable {inputs root W}
theorem bk_nil (hW : END ∈ W) : BkG inputs root W .nil := fun before i flow known looped m m' f n k _ _ _ _ _ _ hf hk hi h => by
  rw [bkFlow.eq_def] at h
  obtain ⟨rfl, rfl⟩ := ok_inj h
  rw [szB]
  refine ⟨?_, hi⟩
  cases known with
  | none => exact hf
  | some kn => exact hf.put hW (hk kn rfl)
theorem bk_cons {s : Sm} {r : Bk} (gs : StG inputs root W s) (gr : BkG inputs root W r) : BkG inputs root W (.cons s r) := fun before i flow known looped m m' f n k hs hg ev ok hw sz hf hk hi h => by
  rw [bkFlow] at h
  rw [waysB] at hw
  rw [szB] at sz ⊢
  rw [okB, Bool.and_eq_true] at ok
  have sp := szS_pos s
  simp only at h
  cases e : faultOf inputs root m.set s (before ++ [i]) known looped with
  | some why =>
    rw [e] at h
    cases h
  | none =>
    rw [e] at h
    obtain ⟨hsh, kn, rfl⟩ := fault_none e
    have hS := hs.head
    have hg2 := good_place hg ev hS.at_ hsh
    have lp : (before ++ [i]).length = before.length + 1 := by simp
    have hk2 := hk kn rfl
    have hi2 := inv_noted (kn := kn) hi ok.1 hg2 (by omega) (by omega)
    simp only [Option.getD_some] at h
    cases e2 : stFlow inputs root s (before ++ [i]) kn looped ⟨noted s (before ++ [i]) m.set, putP m.known (before ++ [i]) kn⟩ with
    | error x =>
      rw [e2] at h
      cases h
    | ok q =>
      obtain ⟨past, m1⟩ := q
      rw [e2] at h
      obtain ⟨a1, a2⟩ := gs (before ++ [i]) kn looped _ m1 past (n + 1) k hS hg2 (by omega) ok.1 (fun w hw' => hw w (List.mem_append_left _ hw')) (by omega) hk2 hi2 e2
      have b0 : Ofb W (k + szS s) (eitherF flow (withoutEnd past)) := (hf.le (by omega)).either a1.without
      obtain ⟨c1, c2⟩ := gr before (i + 1) _ (getF past END) looped m1 m' f (n + szS s) (k + szS s) hs.tail hg ev ok.2 (fun w hw' => hw w (List.mem_append_right _ hw')) (by omega) b0 (fun kn2 z => a1.get z) (a2.le (by omega)) h
      exact ⟨c1.le (by omega), c2.le (by omega)⟩
/-- a block from its start -/
theorem bk_start {b : Bk} (g : BkG inputs root W b) {place : Pa} {j : Nat} {s : Sm} {known : Option Names} {looped : Bool} {m m' : Sta} {f : Fw} {n k : Nat} (hs : StS root place s) (e : (blocksOf s)[j]? = some b) (hg : GoodP root place) (od : place.length % 2 = 1) (ok : okB b = true) (hw : ∀ w ∈ waysB b, w ∈ W) (sz : place.length + 2 * szB b ≤ 888)
    (hk : KnL k known) (hi : Inv root n m) (h : bkFlow inputs root b (place ++ [j]) 0 [] known looped m = .ok (f, m')) : Ofb W (k + szB b) f ∧ Inv root (n + szB b) m' := by
  have lp : (place ++ [j]).length = place.length + 1 := by simp
  exact g _ 0 [] known looped m m' f n k (hs.block e) (good_step hg od) (by omega) ok hw (by omega) Ofb.nil hk hi h
theorem knl {k : Nat} {kn : Names} (h : kn.length ≤ k) : KnL k (some kn) := fun _ e => by cases e; exact h
theorem two_run {b c : Bk} (gb : BkG inputs root W b) (gc : BkG inputs root W c) {s : Sm} {place : Pa} {kb kc : Names} {lb lc : Bool} {m m1 m2 : Sta} {fb fc : Fw} {n k : Nat} (e0 : (blocksOf s)[0]? = some b) (e1 : (blocksOf s)[1]? = some c) (hs : StS root place s) (hg : GoodP root place) (od : place.length % 2 = 1)
    (ok : okS s = true) (hw : ∀ w ∈ waysB b ++ waysB c, w ∈ W) (sz : place.length + 2 * (1 + szB b + szB c) ≤ 890) (lb' : kb.length ≤ k) (lc' : kc.length ≤ k) (hi : Inv root n m)
    (h1 : bkFlow inputs root b (place ++ [0]) 0 [] (some kb) lb m = .ok (fb, m1)) (h2 : bkFlow inputs root c (place ++ [1]) 0 [] (some kc) lc m1 = .ok (fc, m2)) : Ofb W (k + szB b) fb ∧ Ofb W (k + szB c) fc ∧ Inv root (n + szB b + szB c) m2 := by
  obtain ⟨a1, a2⟩ := bk_start gb hs e0 hg od (okS_blocks ok b (List.mem_of_getElem? e0)).o (fun w z => hw w (List.mem_append_left _ z)) (by omega) (knl lb') hi h1
  obtain ⟨c1, c2⟩ := bk_start gc hs e1 hg od (okS_blocks ok c (List.mem_of_getElem? e1)).o (fun w z => hw w (List.mem_append_right _ z)) (by omega) (knl lc') a2 h2
  exact ⟨a1, c1, c2⟩
theorem st_two {b c : Bk} {s : Sm} (gb : BkG inputs root W b) (gc : BkG inputs root W c) (hW : END ∈ W) (e : (∃ l r n, s = .ite l r n b c) ∨ s = .choose b c ∨ ∃ x t n u m, s = .loop x t n u m b c) : StG inputs root W s := fun place known looped m m' f n k hs hg od ok hw sz lk hi h => by
  have ew : waysS s = waysB b ++ waysB c := by rcases e with ⟨l, r, n, rfl⟩ | rfl | ⟨x, t, n, u, m, rfl⟩ <;> rw [waysS]
  have es : szS s = 1 + szB b + szB c := by rcases e with ⟨l, r, n, rfl⟩ | rfl | ⟨x, t, n, u, m, rfl⟩ <;> rw [szS]
  have e0 : (blocksOf s)[0]? = some b := by rcases e with ⟨l, r, n, rfl⟩ | rfl | ⟨x, t, n, u, m, rfl⟩ <;> rfl
  have e1 : (blocksOf s)[1]? = some c := by rcases e with ⟨l, r, n, rfl⟩ | rfl | ⟨x, t, n, u, m, rfl⟩ <;> rfl
  rw [ew] at hw
  rw [es] at sz ⊢
  have fin : ∀ (kb : Names) (lb : Bool) (kk : Nat) (F : Fw → Fw → Fw), kb.length ≤ kk → k ≤ kk → kk + szB b ≤ k + (1 + szB b + szB c) → kk + szB c ≤ k + (1 + szB b + szB c) → (∀ x y, Ofb W (k + (1 + szB b + szB c)) x → Ofb W (k + (1 + szB b + szB c)) y → Ofb W (k + (1 + szB b + szB c)) (F x y)) →
      (do let (fb, m) ← bkFlow inputs root b (place ++ [0]) 0 [] (some kb) lb m
          let (fc, m) ← bkFlow inputs root c (place ++ [1]) 0 [] (some known) looped m
          return (F fb fc, m) : Res (Fw × Sta)) = .ok (f, m') → Ofb W (k + (1 + szB b + szB c)) f ∧ Inv root (n + (1 + szB b + szB c - 1)) m' := by
    intro kb lb kk F l1 l2 l3 l4 hF h
    cases q1 : bkFlow inputs root b (place ++ [0]) 0 [] (some kb) lb m with
    | error x => rw [q1] at h; cases h
    | ok p =>
      obtain ⟨fb, m1⟩ := p
      rw [q1] at h
      replace h : (do let (fc, m) ← bkFlow inputs root c (place ++ [1]) 0 [] (some known) looped m1
                      return (F fb fc, m) : Res (Fw × Sta)) = .ok (f, m') := h
      cases q2 : bkFlow inputs root c (place ++ [1]) 0 [] (some known) looped m1 with
      | error x => rw [q2] at h; cases h
      | ok p =>
        obtain ⟨fc, m2⟩ := p
        rw [q2] at h
        replace h : (Except.ok (F fb fc, m2) : Res (Fw × Sta)) = .ok (f, m') := h
        obtain ⟨rfl, rfl⟩ := ok_inj h
        obtain ⟨r1, r2, r3⟩ := two_run gb gc e0 e1 hs hg od ok hw sz l1 (Nat.le_trans lk l2) hi q1 q2
        exact ⟨hF _ _ (r1.le l3) (r2.le l4), r3.le (by omega)⟩
  rcases e with ⟨l, r, n, rfl⟩ | rfl | ⟨x, t, n, u, m, rfl⟩
  · rw [stFlow] at h
    exact fin known looped k eitherF lk (Nat.le_refl _) (by omega) (by omega) (fun x y a b => a.either b) h
  · rw [stFlow] at h
    exact fin known looped k eitherF lk (Nat.le_refl _) (by omega) (by omega) (fun x y a b => a.either b) h
  · rw [stFlow] at h
    exact fin (known ++ [x]) true (k + 1) loopF (by simp; exact lk) (by omega) (by omega) (by omega) (fun x y a b => a.loop b hW) h
theorem st_one {s : Sm} (hb : blocksOf s = []) (hW : END ∈ W) : StG inputs root W s := fun place known looped m m' f n k hs hg od ok hw sz lk hi h => by
  rw [st_simple hb] at h
  obtain ⟨rfl, rfl⟩ := ok_inj h
  have := szS_pos s
  exact ⟨(Ofb.simple hw hW).le (by omega), hi.le (by omega)⟩
theorem hs_nil : HsG inputs root W .nil := fun place i known looped m m' fs n k hs hg od ok hw sz lk hi h => by
  rw [hsFlow.eq_def] at h
  obtain ⟨rfl, rfl⟩ := ok_inj h
  exact ⟨fun f hf => (List.not_mem_nil hf).elim, rfl, hi.le (by omega)⟩
def thereOf (known : Names) (x : Option Str) : Names := match x with
  | none => known
  | some x => known ++ [x]
theorem there_len (known : Names) (x : Option Str) : (thereOf known x).length ≤ known.length + 1 := by
  cases x with
  | none => exact Nat.le_succ _
  | some x => show (known ++ [x]).length ≤ _; simp
theorem hs_cons {ks : List Str} {x : Option Str} {b : Bk} {r : Hs} (gb : BkG inputs root W b) (gr : HsG inputs root W r) : HsG inputs root W (.cons ks x b r) := fun place i known looped m m' fs n k hs hg od ok hw sz lk hi h => by
  rw [hsFlow.eq_def] at h
  rw [waysH] at hw
  rw [szH] at sz ⊢
  have okb := okH_mem ok List.mem_cons_self
  rw [okH, Bool.and_eq_true] at ok
  replace h : (do let (f, m) ← bkFlow inputs root b (place ++ [i]) 0 [] (some (thereOf known x)) looped m
                  let (fs, m) ← hsFlow inputs root r place (i + 1) known looped m
                  return (f :: fs, m) : Res (List Fw × Sta)) = .ok (fs, m') := h
  cases q1 : bkFlow inputs root b (place ++ [i]) 0 [] (some (thereOf known x)) looped m with
  | error x => rw [q1] at h; cases h
  | ok p =>
    obtain ⟨fb, m1⟩ := p
    rw [q1] at h
    replace h : (do let (fs, m) ← hsFlow inputs root r place (i + 1) known looped m1
                    return (fb :: fs, m) : Res (List Fw × Sta)) = .ok (fs, m') := h
    cases q2 : hsFlow inputs root r place (i + 1) known looped m1 with
    | error x => rw [q2] at h; cases h
    | ok p =>
      obtain ⟨fr, m2⟩ := p
      rw [q2] at h
      replace h : (Except.ok (fb :: fr, m2) : Res (List Fw × Sta)) = .ok (fs, m') := h
      obtain ⟨rfl, rfl⟩ := ok_inj h
      have lp : (place ++ [i]).length = place.length + 1 := by simp
      have lt := there_len known x
      obtain ⟨a1, a2⟩ := gb (place ++ [i]) 0 [] (some (thereOf known x)) looped m m1 fb n (k + 1) (hs 0 _ rfl) (good_step hg od) (by omega) okb.b.o (fun w z => hw w (List.mem_append_left _ z)) (by omega) Ofb.nil (knl (by omega)) hi q1
      obtain ⟨c1, c2, c3⟩ := gr place (i + 1) known looped m1 m2 fr (n + szB b) k (fun j h hj => by
        have := hs (j + 1) h hj
        have e : i + (j + 1) = i + 1 + j := by omega
        rwa [e] at this) hg od ok.2 (fun w z => hw w (List.mem_append_right _ z)) (by omega) lk a2 q2
      refine ⟨fun f hf => ?_, by simp [Hs.list, c2], c3.le (by omega)⟩
      rcases List.mem_cons.mp hf with z | z
      · rw [z]
        exact a1.le (by omega)
      · exact (c1 f z).le (by omega)
/-- the three runs of a try, and what comes of them -/
theorem try_parts {b o a : Bk} {hs : Hs} {place : Pa} {known : Names} {looped : Bool} {m m' : Sta} {f : Fw} (h : stFlow inputs root (.tryy b hs o a) place known looped m = .ok (f, m')) : ∃ fb m1 fh m2 fo m3 fa, bkFlow inputs root b (place ++ [0]) 0 [] (some known) looped m = .ok (fb, m1) ∧
    hsFlow inputs root hs place 1 known looped m1 = .ok (fh, m2) ∧ bkFlow inputs root o (place ++ [1 + hs.list.length]) 0 [] (getF fb END) looped m2 = .ok (fo, m3) ∧ bkFlow inputs root a (place ++ [2 + hs.list.length]) 0 [] (some known) looped m3 = .ok (fa, m') ∧ f = tryF hs.list (fb :: (fh ++ [fo, fa])) := by
  rw [stFlow] at h
  cases q1 : bkFlow inputs root b (place ++ [0]) 0 [] (some known) looped m with
  | error x => rw [q1] at h; cases h
  | ok p =>
    obtain ⟨fb, m1⟩ := p
    rw [q1] at h
    replace h : (do let (fh, m) ← hsFlow inputs root hs place 1 known looped m1
                    let (fo, m) ← bkFlow inputs root o (place ++ [1 + hs.list.length]) 0 [] (getF fb END) looped m
                    let (fa, m) ← bkFlow inputs root a (place ++ [2 + hs.list.length]) 0 [] (some known) looped m
                    return (tryF hs.list (fb :: (fh ++ [fo, fa])), m) : Res (Fw × Sta)) = .ok (f, m') := h
    cases q2 : hsFlow inputs root hs place 1 known looped m1 with
    | error x => rw [q2] at h; cases h
    | ok p =>
      obtain ⟨fh, m2⟩ := p
      rw [q2] at h
      replace h : (do let (fo, m) ← bkFlow inputs root o (place ++ [1 + hs.list.length]) 0 [] (getF fb END) looped m2
                      let (fa, m) ← bkFlow inputs root a (place ++ [2 + hs.list.length]) 0 [] (some known) looped m
                      return (tryF hs.list (fb :: (fh ++ [fo, fa])), m) : Res (Fw × Sta)) = .ok (f, m') := h
      cases q3 : bkFlow inputs root o (place ++ [1 + hs.list.length]) 0 [] (getF fb END) looped m2 with
      | error x => rw [q3] at h; cases h
      | ok p =>
        obtain ⟨fo, m3⟩ := p
        rw [q3] at h
        replace h : (do let (fa, m) ← bkFlow inputs root a (place ++ [2 + hs.list.length]) 0 [] (some known) looped m3
                        return (tryF hs.list (fb :: (fh ++ [fo, fa])), m) : Res (Fw × Sta)) = .ok (f, m') := h
        cases q4 : bkFlow inputs root a (place ++ [2 + hs.list.length]) 0 [] (some known) looped m3 with
        | error x => rw [q4] at h; cases h
        | ok p =>
          obtain ⟨fa, m4⟩ := p
          rw [q4] at h
          replace h : (Except.ok (tryF hs.list (fb :: (fh ++ [fo, fa])), m4) : Res (Fw × Sta)) = .ok (f, m') := h
          obtain ⟨rfl, rfl⟩ := ok_inj h
          exact ⟨fb, m1, fh, m2, fo, m3, fa, rfl, q2, q3, q4, rfl⟩
theorem st_try {b o a : Bk} {hs : Hs} (gb : BkG inputs root W b) (gh : HsG inputs root W hs) (go : BkG inputs root W o) (ga : BkG inputs root W a) : StG inputs root W (.tryy b hs o a) := fun place known looped m m' f n k hS hg od ok hw sz lk hi h => by
  obtain ⟨fb, m1, fh, m2, fo, m3, fa, q1, q2, q3, q4, rfl⟩ := try_parts h
  rw [waysS] at hw
  rw [szS] at sz ⊢
  have okb := okS_blocks ok
  have okh : okH hs = true := by
    rw [okS] at ok
    simp only [Bool.and_eq_true] at ok
    exact ok.1.1.2
  obtain ⟨a1, a2⟩ := bk_start gb hS try_first hg od (okb b (List.mem_of_getElem? try_first)).o (fun w z => hw w (List.mem_append_left _ z)) (by omega) (knl lk) hi q1
  obtain ⟨b1, b2, b3⟩ := gh place 1 known looped m1 m2 fh (n + szB b) k (fun j h hj => hS.block (try_hand hj)) hg od okh (fun w z => hw w (List.mem_append_right _ (List.mem_append_left _ z))) (by omega) lk a2 q2
  obtain ⟨c1, c2⟩ := bk_start go (k := k + szB b) hS try_other hg od (okb o (List.mem_of_getElem? try_other)).o (fun w z => hw w (List.mem_append_right _ (List.mem_append_right _ (List.mem_append_left _ z)))) (by omega) (fun kn z => a1.get z) b3 q3
  obtain ⟨d1, d2⟩ := bk_start ga hS try_always hg od (okb a (List.mem_of_getElem? try_always)).o (fun w z => hw w (List.mem_append_right _ (List.mem_append_right _ (List.mem_append_right _ z)))) (by omega) (knl lk) c2 q4
  refine ⟨Ofb.try_ _ fun f hf => ?_, d2.le (by omega)⟩
  rcases List.mem_cons.mp hf with z | z
  · rw [z]
    exact a1.le (by omega)
  · rcases List.mem_append.mp z with y | y
    · exact (b1 f y).le (by omega)
    · rcases List.mem_cons.mp y with x | x
      · rw [x]
        exact c1.le (by omega)
      · rw [List.mem_singleton.mp x]
        exact d1.le (by omega)
end
section
variable (inputs : Names) (root : Bk) (W : List Way) (hW : END ∈ W)
include hW
mutual
theorem stG : ∀ s : Sm, StG inputs root W s
  | .ite l r n b c => st_two (bkG b) (bkG c) hW (.inl ⟨l, r, n, rfl⟩)
  | .choose b c => st_two (bkG b) (bkG c) hW (.inr (.inl rfl))
  | .loop x t n u m b c => st_two (bkG b) (bkG c) hW (.inr (.inr ⟨x, t, n, u, m, rfl⟩))
  | .tryy b hs o a => st_try (bkG b) (hsG hs) (bkG o) (bkG a)
  | .set x t n => st_one rfl hW
  | .read x => st_one rfl hW
  | .ask l r n k => st_one rfl hW
  | .raise k t n => st_one rfl hW
  | .out o => st_one rfl hW
  | .leave => st_one rfl hW
  | .again => st_one rfl hW
  | .bad d => st_one rfl hW
theorem bkG : ∀ b : Bk, BkG inputs root W b
  | .nil => bk_nil hW
  | .cons s r => bk_cons (stG s) (bkG r)
theorem hsG : ∀ hs : Hs, HsG inputs root W hs
  | .nil => hs_nil
  | .cons ks x b r => hs_cons (bkG b) (hsG r)
end
end
end Pm

/-! the check's run in the heap: what its methods pass on -/
namespace Pm
open PySem L2 Bx Tk
section
variable {P : Program} {w : World} {K : PySem.W.Frag} {C : Ck} {H H1 H2 : Hp} {m : Sta} {os os1 os2 : List Addr} {b c a : Addr} {p : Pa} {v : Names} {f : Fw}
theorem ChkAt.known {N : Hp → Prop} (h : ChkAt P w K C H m os) (hk : SqT K H b (p.map nV)) (hc : SqT K H c (v.map V.str)) (hl : m.known.length ≤ 100000)
    (nx : ∀ H', Fr C os H H' → ChkAt P w K C H' ⟨m.set, putP m.known p v⟩ os → N H') : TPut P w K H C.dK (.ref b) (.ref c) N := by
  obtain ⟨⟨kvs, k1⟩, ⟨es0, k2⟩, k3⟩ := h.kinds
  refine h.kn.put hk hc hl fun es kn st => nx _ (fun x o hx n1 n2 n3 => by rw [upd_ne n2]; exact hx) ?_
  refine ⟨?_, h.inp, h.blk, h.ok, fun x o hx => ?_, h.set.mono st ?_ fun l hl => ?_, kn, h.f1, h.f2, h.f3⟩
  · rw [upd_ne (ne_of h.ins k2 (by intro z; cases z))]
    exact h.ins
  · rw [upd_ne fun z => by rw [z, h.f2] at hx; cases hx]
    exact h.s0 x o hx
  · rw [upd_ne (ne_of k1 k2 (by intro z; cases z))]
  · obtain ⟨xs, e⟩ := k3 l hl
    rw [upd_ne (ne_of e k2 (by intro z; cases z))]
theorem FwAt.fr (hC : ChkAt P w K C H m os) (fr : Fr C os H H1) (h : FwAt P w K H a f) (n1 : a ≠ C.dS) (n2 : a ≠ C.dK) (n3 : a ∉ os) : FwAt P w K H1 a f := by
  obtain ⟨es, e, _⟩ := h.ents
  refine h.mono ?_ fun _ _ z => Fr.sq hC fr z
  rw [e]
  exact fr a _ e n1 n2 n3
/-- a flow that is no part of the check -/
structure Flw (P : Program) (w : World) (K : PySem.W.Frag) (C : Ck) (H0 H : Hp) (os : List Addr) (a : Addr) (f : Fw) : Prop where
  at_ : FwAt P w K H a f
  nw : H0 a = none
  no : a ∉ os
theorem Flw.ne (hC : ChkAt P w K C H m os) (h : Flw P w K C H H1 os1 a f) : a ≠ C.dS ∧ a ≠ C.dK := by
  obtain ⟨⟨kvs, k1⟩, ⟨es, k2⟩, _⟩ := hC.kinds
  have nw := h.nw
  refine ⟨fun z => ?_, fun z => ?_⟩
  · rw [z, k1] at nw
    cases nw
  · rw [z, k2] at nw
    cases nw
/-- a flow goes on over what the check does -/
theorem Flw.fr {H0 : Hp} {m0 : Sta} {os0 : List Addr} (h0 : ChkAt P w K C H0 m0 os0) (h : Flw P w K C H0 H os a f) (hC : ChkAt P w K C H m os) (fr : Fr C os H H1) (gr : Grow H os os1) : Flw P w K C H0 H1 os1 a f := by
  obtain ⟨n1, n2⟩ := h.ne h0
  refine ⟨h.at_.fr hC fr n1 n2 h.no, h.nw, fun z => ?_⟩
  obtain ⟨more, rfl, hm⟩ := gr
  rcases List.mem_append.mp z with y | y
  · exact h.no y
  · have := hm a y
    obtain ⟨es, e, _⟩ := h.at_.ents
    rw [e] at this
    cases this
theorem Flw.same {H0 : Hp} (h : Flw P w K C H0 H os a f) (S : Same H H1) : Flw P w K C H0 H1 os a f := ⟨h.at_.same S, h.nw, h.no⟩
/-- a new flow -/
theorem Flw.new {H0 : Hp} {os0 : List Addr} (hC : ChkAt P w K C H m os) (gr : Grow H0 os0 os) (fr : Fr C os0 H0 H) (S : Same H H1) (n : H a = none) (h : FwAt P w K H1 a f) : Flw P w K C H0 H1 os a f := by
  refine ⟨h, Fr.free hC gr fr n, fun z => ?_⟩
  obtain ⟨_, _, k3⟩ := hC.kinds
  obtain ⟨xs, e⟩ := k3 a z
  rw [e] at n
  cases n
/-- one more way in a flow -/
theorem ChkAt.put {H0 : Hp} {m0 : Sta} {os0 : List Addr} {es : List Ent} {g : Fw} (h0 : ChkAt P w K C H0 m0 os0) (hC : ChkAt P w K C H m os) (gr : Grow H0 os0 os) (fr : Fr C os0 H0 H) (h : Flw P w K C H0 H os a f) (fw : FwAt P w K (upd H a (TO P w a es)) a g) (st : ∀ b ks, SqT K H b ks → SqT K (upd H a (TO P w a es)) b ks) :
    Fr C os0 H0 (upd H a (TO P w a es)) ∧ ChkAt P w K C (upd H a (TO P w a es)) m os ∧ Flw P w K C H0 (upd H a (TO P w a es)) os a g := by
  obtain ⟨es0, e0, _⟩ := h.at_.ents
  obtain ⟨n1, n2⟩ := h.ne h0
  obtain ⟨⟨kvs, k1⟩, ⟨es1, k2⟩, k3⟩ := hC.kinds
  have nw := h.nw
  have no := h.no
  have z0 : C.H0 a = none := by
    cases q : C.H0 a with
    | none => rfl
    | some o =>
      rw [h0.s0 _ _ q] at nw
      cases nw
  refine ⟨fun x o hx y1 y2 y3 => ?_, ⟨?_, hC.inp, hC.blk, hC.ok, fun x o hx => ?_, hC.set.mono st (upd_ne (Ne.symm n1)) fun l hl => upd_ne fun z => no (z ▸ hl), hC.kn.mono (upd_ne (Ne.symm n2)) st, hC.f1, hC.f2, hC.f3⟩, fw, nw, no⟩
  · rw [upd_ne fun z => by rw [z, nw] at hx; cases hx]
    exact fr x o hx y1 y2 y3
  · rw [upd_ne (ne_of hC.ins e0 (by intro z; cases z))]
    exact hC.ins
  · rw [upd_ne fun z => by rw [z, z0] at hx; cases hx]
    exact hC.s0 x o hx
end
/-! what stands ahead of a run -/
structure BkP (C : Ck) (W : List Way) (b : Bk) (before : Pa) (i : Nat) (flow : Fw) (known : Option Names) (m : Sta) (n k : Nat) : Prop where
  st : StR C.root before i b
  g : GoodP C.root before
  ev : before.length % 2 = 0
  ok : okB b = true
  w : ∀ w ∈ waysB b, w ∈ W
  sz : before.length + 2 * szB b ≤ 889
  fl : Ofb W k flow
  kn : KnL k known
  inv : Inv C.root n m
  wok : WOk W
  bk : k + szB b ≤ 890
  bn : n + szB b ≤ 10000
structure StP (C : Ck) (W : List Way) (s : Sm) (place : Pa) (known : Names) (m : Sta) (n k : Nat) : Prop where
  st : StS C.root place s
  g : GoodP C.root place
  od : place.length % 2 = 1
  ok : okS s = true
  sh : hasShape s = true
  w : ∀ w ∈ waysS s, w ∈ W
  sz : place.length + 2 * szS s ≤ 890
  kn : known.length ≤ k
  inv : Inv C.root n m
  wok : WOk W
  bk : k + szS s ≤ 890
  bn : n + szS s ≤ 10001
section
variable {C : Ck} {W : List Way} {b r : Bk} {s : Sm} {before place : Pa} {i j n k : Nat} {flow past f : Fw} {known : Option Names} {kn : Names} {m m1 m' : Sta} {looped : Bool}
theorem bk_err {inputs : Names} {root : Bk} {why : Str} (e : faultOf inputs root m.set s (before ++ [i]) known looped = some why) : bkFlow inputs root (.cons s r) before i flow known looped m = .error (before ++ [i], why) := by
  rw [bkFlow]
  simp only [e]
  rfl
theorem bk_st_err {inputs : Names} {root : Bk} {x : Pa × Str} (e : faultOf inputs root m.set s (before ++ [i]) (some kn) looped = none) (e2 : stFlow inputs root s (before ++ [i]) kn looped ⟨noted s (before ++ [i]) m.set, putP m.known (before ++ [i]) kn⟩ = .error x) :
    bkFlow inputs root (.cons s r) before i flow (some kn) looped m = .error x := by
  rw [bkFlow]
  simp only [e, Option.getD_some, e2]
  rfl
theorem bk_st_ok {inputs : Names} {root : Bk} (e : faultOf inputs root m.set s (before ++ [i]) (some kn) looped = none) (e2 : stFlow inputs root s (before ++ [i]) kn looped ⟨noted s (before ++ [i]) m.set, putP m.known (before ++ [i]) kn⟩ = .ok (past, m1)) :
    bkFlow inputs root (.cons s r) before i flow (some kn) looped m = bkFlow inputs root r before (i + 1) (eitherF flow (withoutEnd past)) (getF past END) looped m1 := by
  rw [bkFlow]
  simp only [e, Option.getD_some, e2]
  rfl
theorem bk_end {inputs : Names} {root : Bk} : bkFlow inputs root .nil before i flow known looped m = .ok (match known with | some kn => putF flow END kn | none => flow, m) := by
  rw [bkFlow.eq_def]
  rfl
theorem BkP.head (h : BkP C W (.cons s r) before i flow (some kn) m n k) (hsh : hasShape s = true) : StP C W s (before ++ [i]) kn ⟨noted s (before ++ [i]) m.set, putP m.known (before ++ [i]) kn⟩ (n + 1) k := by
  obtain ⟨st, g, ev, ok, hw, sz, fl, hk, inv, wok, bk, bn⟩ := h
  rw [okB, Bool.and_eq_true] at ok
  rw [szB] at sz bk bn
  rw [waysB] at hw
  have sp := szS_pos s
  have hS := st.head
  have lp : (before ++ [i]).length = before.length + 1 := by simp
  have hg2 := good_place g ev hS.at_ hsh
  exact ⟨hS, hg2, by omega, ok.1, hsh, fun w z => hw w (List.mem_append_left _ z), by omega, hk kn rfl, inv_noted inv ok.1 hg2 (by omega) (by omega), wok, by omega, by omega⟩
theorem StP.run (h : StP C W s place kn m n k) (e : stFlow C.inputs C.root s place kn looped m = .ok (past, m1)) : Ofb W (k + szS s) past ∧ Inv C.root (n + (szS s - 1)) m1 := stG C.inputs C.root W h.wok.e s place kn looped m m1 past n k h.st h.g h.od h.ok h.w h.sz h.kn h.inv e
theorem BkP.run (h : BkP C W b before i flow known m n k) (e : bkFlow C.inputs C.root b before i flow known looped m = .ok (f, m')) : Ofb W (k + szB b) f ∧ Inv C.root (n + szB b) m' := bkG C.inputs C.root W h.wok.e b before i flow known looped m m' f n k h.st h.g h.ev h.ok h.w h.sz h.fl h.kn h.inv e
theorem BkP.tail (h : BkP C W (.cons s r) before i flow (some kn) m n k) (hsh : hasShape s = true) (e : stFlow C.inputs C.root s (before ++ [i]) kn looped ⟨noted s (before ++ [i]) m.set, putP m.known (before ++ [i]) kn⟩ = .ok (past, m1)) :
    BkP C W r before (i + 1) (eitherF flow (withoutEnd past)) (getF past END) m1 (n + szS s) (k + szS s) := by
  have hP := h.head hsh
  obtain ⟨a1, a2⟩ := hP.run e
  obtain ⟨st, g, ev, ok, hw, sz, fl, hk, inv, wok, bk, bn⟩ := h
  rw [okB, Bool.and_eq_true] at ok
  rw [szB] at sz bk bn
  rw [waysB] at hw
  have sp := szS_pos s
  exact ⟨st.tail, g, ev, ok.2, fun w z => hw w (List.mem_append_right _ z), by omega, (fl.le (by omega)).either a1.without, fun kn2 z => a1.get z, a2.le (by omega), wok, by omega, by omega⟩
theorem StP.block (h : StP C W s place kn m n k) {known : Option Names} {n1 k1 : Nat} {m1 : Sta} (e : (blocksOf s)[j]? = some b) (hw : ∀ w ∈ waysB b, w ∈ W) (sz : szB b + 1 ≤ szS s) (hk : KnL k1 known) (bk : k1 + szB b ≤ 890) (hi : Inv C.root n1 m1) (bn : n1 + szB b ≤ 10000) : BkP C W b (place ++ [j]) 0 [] known m1 n1 k1 := by
  have lp : (place ++ [j]).length = place.length + 1 := by simp
  have := h.sz
  have := h.od
  exact ⟨h.st.block e, good_step h.g h.od, by omega, (okS_blocks h.ok b (List.mem_of_getElem? e)).o, hw, by omega, Ofb.nil, hk, hi, h.wok, bk, bn⟩
end
end Pm

namespace K17
open PySem L2 Bx Tk Pm RZ
section
variable {P : Program} {w : World} {K : PySem.W.Frag} {mg : Str → Option Value} {base : Heap} {ad : Ad} {cB : Addr}
def OutF (P : Program) (w : World) (K : PySem.W.Frag) (C : Ck) (os : List Addr) (H : Hp) (f : Fw) (m' : Sta) (Q : VK) : Prop := ∀ H' os' fl, Fr C os H H' → Grow H os os' → ChkAt P w K C H' m' os' → Flw P w K C H H' os' fl f → Q (.ref fl) H'
def OutE (K : PySem.W.Frag) (C : Ck) (cB : Addr) (E : XK) (x : Pa × Str) : Prop := ∀ H' d t, Same C.H0 H' → SqT K H' t (x.1.map nV) → H' d = some (.xd [("why", .str x.2), ("place", .ref t)]) → E (.ref cB) (some d) H'
def spBF (P : Program) (w : World) (K : PySem.W.Frag) (ad : Ad) (cB : Addr) (n : Nat) : Sp := fun vs H Q E => ∃ (C : Ck) (m : Sta) (os : List Addr) (bv : V) (b : Bk) (pa : Addr) (before : Pa) (kv : V) (known : Option Pm.Names) (looped : Bool) (W : List Way) (N k : Nat), vs = [.ref C.c, bv, .ref pa, kv, .bl looped] ∧
  ChkAt P w K C H m os ∧ C.cls = ad.cK ∧ BkAt K C.H0 bv b ∧ SqT K H pa (before.map nV) ∧ KnV K H kv known ∧ BkP C W b before 0 [] known m N k ∧ szB b ≤ n ∧
  (∀ f m', bkFlow C.inputs C.root b before 0 [] known looped m = .ok (f, m') → OutF P w K C os H f m' Q) ∧ ∀ x, bkFlow C.inputs C.root b before 0 [] known looped m = .error x → OutE K C cB E x
def spSF (P : Program) (w : World) (K : PySem.W.Frag) (ad : Ad) (cB : Addr) (n : Nat) : Sp := fun vs H Q E => ∃ (C : Ck) (m : Sta) (os : List Addr) (v : V) (s : Sm) (pa : Addr) (place : Pa) (kb : Addr) (known : Pm.Names) (looped : Bool) (W : List Way) (N k : Nat), vs = [.ref C.c, v, .ref pa, .ref kb, .bl looped] ∧
  ChkAt P w K C H m os ∧ C.cls = ad.cK ∧ Dp K C.H0 v (encS s) ∧ SqT K H pa (place.map nV) ∧ SqT K H kb (known.map V.str) ∧ StP C W s place known m N k ∧ szS s ≤ n ∧
  (∀ f m', stFlow C.inputs C.root s place known looped m = .ok (f, m') → OutF P w K C os H f m' Q) ∧ ∀ x, stFlow C.inputs C.root s place known looped m = .error x → OutE K C cB E x
theorem szS_mem : ∀ {b : Bk} {s : Sm}, s ∈ b.list → szS s ≤ szB b
  | .nil, _, h => by cases h
  | .cons s r, t, h => by
    rw [szB]
    rcases List.mem_cons.mp h with e | e
    · rw [e]
      omega
    · have := szS_mem e
      omega
/-- the block's rest is the block's rest in the heap too -/
theorem drop_cons {b r : Bk} {i : Nat} {s : Sm} (h : r.list = b.list.drop i) (e : b.list[i]? = some s) : ∃ r2, r = .cons s r2 ∧ r2.list = b.list.drop (i + 1) := by
  obtain ⟨hi, e2⟩ := List.getElem?_eq_some_iff.mp e
  rw [List.drop_eq_getElem_cons hi, e2] at h
  cases r with
  | nil => cases h
  | cons t r2 =>
    have h : t :: r2.list = s :: b.list.drop (i + 1) := h
    injection h with h1 h2
    exact ⟨r2, by rw [h1], h2⟩
theorem drop_nil {b r : Bk} {i : Nat} (h : r.list = b.list.drop i) (e : b.list.length ≤ i) : r = .nil := by
  rw [List.drop_eq_nil_of_le e] at h
  cases r with
  | nil => rfl
  | cons t r2 => cases h
theorem ok_block_flow (n j : Nat) (hj : 9 + 3 * n = j) {f : Addr} {fd : FuncData} (F : C8.Fun K "block_flow" "Check.block_flow" s_Check_block_flow f fd) (me : Meth K ad.cK "block_flow" f) (b : Binds K fd ["self", "block", "before", "known", "looped"] []) (T : Txt K mg ad) (TB : Err2 P w K mg base "BadProgram" "place" "why" cB)
    (K_fault : C8.Met P w K mg base 7 ad.cK "fault" (spFault P w K ad) []) (K_note : C8.Met P w K mg base 3 ad.cK "note" (spNote P w K ad) []) (K_either_flow : C8.Cal P w K mg base 1 "either_flow" (spEither P w K) []) (K_without_end : C8.Cal P w K mg base 1 "without_end" (spWithout P w K) [])
    (K_statement_flow : MetX P w K mg base j ad.cK "statement_flow" (spSF P w K ad cB n)) : MetX P w K mg base (j + 1) ad.cK "block_flow" (spBF P w K ad cB n) := by
  refine ⟨f, fd, _, T.cK, me, fnX F sc_Check_block_flow (fun vs H Q E h => ?_) (fun cdv A outer s H vs Q E hr h => ?_), b⟩
  · obtain ⟨C, m, os, bv, b, pa, before, kv, known, looped, W, N, k, rfl, _⟩ := h
    rfl
  · obtain ⟨C, m, os, bv, b, pa, before, kv, known, looped, W, N, k, rfl, hC, hcls, hb, hpa, hkv, hP, hsz, kOk, kErr⟩ := h
    have hu := hu_of hr
    refine ⟨_, (pss_cons (ps_set (i := 5) sc_Check_block_flow.nd rfl (Or.inl rfl) (Tk.pe_tnew P w))
    (pss_cons (ps_for (passes_of rfl) rfl (En.pi_enumT (by rfl) T.z_enumerate (pa_cons (pv 1) pa_nil)) (pg_tup (by rfl) (pgs_cons (pg_name (i := 6) sc_Check_block_flow.nd rfl (Or.inl rfl)) (pgs_cons (pg_name (i := 7) sc_Check_block_flow.nd rfl (Or.inl rfl)) pgs_nil)))
    (pss_cons (ps_set (i := 8) sc_Check_block_flow.nd rfl (Or.inl rfl) (pe_op op_catA (pv 2) (pe_tup (pa_cons (pv 6) pa_nil))))
    (pss_cons (ps_set (i := 9) sc_Check_block_flow.nd rfl (Or.inl rfl) (C8.pe_mt K_fault hr (by omega) (pv 0) (pa_cons (pv 7) (pa_cons (pv 8) (pa_cons (pv 3) (pa_cons (pv 4) pa_nil))))))
    (pss_cons (ps_if (pt_cmpR op_notN (pv 9) pe_non (nomark _)) (pss_one (ps_raise2 rfl TB (hr.mono (by omega)) (takes_of rfl rfl rfl rfl) (pa_cons (pv 8) (pa_cons (pv 9) pa_nil)) (by rfl))) pss_nil)
    (pss_cons (ps_expr (C8.pe_mt K_note hr (by omega) (pv 0) (pa_cons (pv 7) (pa_cons (pv 8) pa_nil))))
    (pss_cons (Tk.ps_tput P w K hu (pe_fld (pv 0) rfl) (pv 8) (pv 3) rfl)
    (pss_cons (ps_set (i := 10) sc_Check_block_flow.nd rfl (Or.inl rfl) (Pm.pe_mtX K_statement_flow hr (by omega) (takes_of rfl rfl rfl rfl) (pv 0) (pa_cons (pv 7) (pa_cons (pv 8) (pa_cons (pv 3) (pa_cons (pv 4) pa_nil))))))
    (pss_cons (ps_set (i := 3) sc_Check_block_flow.nd rfl (Or.inl rfl) (Tk.pe_tget1 P w K hu (pv 10) (C8.pe_gc (by rfl) T.c_END) ⟨rfl, rfl, rfl, rfl⟩))
    (pss_one (ps_set (i := 5) sc_Check_block_flow.nd rfl (Or.inl rfl) (C8.pe_c K_either_flow hr (by omega) (by rfl) (pa_cons (pv 5) (pa_cons (C8.pe_c K_without_end hr (by omega) (by rfl) (pa_cons (pv 10) pa_nil)) pa_nil)))))))))))))
    (pss_cons (ps_if (pt_cmpR op_notN (pv 3) pe_non (nomark _)) (pss_one (Tk.ps_tput P w K hu (pv 5) (C8.pe_gc (by rfl) T.c_END) (pv 3) rfl)) pss_nil)
    (pss_one (ps_ret (pv 5)))))), ?_⟩
    obtain ⟨a, xs, rfl, ha, lx, hx⟩ := bk_at hb
    refine fun fl0 n0 => ?_
    have S0 : Same H (upd H fl0 (TO P w fl0 [])) := Same.new n0
    have fw0 : FwAt P w K (upd H fl0 (TO P w fl0 [])) fl0 [] := FwAt.new
    have flw0 : Flw P w K C H (upd H fl0 (TO P w fl0 [])) os fl0 [] := Flw.new hC Grow.refl Fr.refl S0 n0 fw0
    generalize upd H fl0 (TO P w fl0 []) = H0 at S0 flw0
    refine ⟨_, rfl, a, xs, rfl, Same.seqT (hC.s0.trans S0) ha, En.for_enumT (xs := xs) (fun i σ H' => ∃ kv fl v6 v7 v8 v9 v10 mi osi fi ki r Ni kn, σ = [some (.ref C.c), some (.ref a), some (.ref pa), some kv, some (.bl looped), some (.ref fl), v6, v7, v8, v9, v10] ∧ Fr C os H H' ∧ Grow H os osi ∧ ChkAt P w K C H' mi osi ∧ Flw P w K C H H' osi fl fi ∧ KnV K H' kv ki ∧
      r.list = b.list.drop i ∧ BkP C W r before i fi ki mi Ni kn ∧ bkFlow C.inputs C.root b before 0 [] known looped m = bkFlow C.inputs C.root r before i fi ki looped mi)
      ⟨kv, fl0, _, _, _, _, _, m, os, [], known, b, N, k, rfl, Fr.of_same S0, Grow.refl, hC.same S0, flw0, hkv.st fun _ _ z => Same.seqT S0 z, rfl, hP, rfl⟩ ?_ ?_ ?_⟩
    · rintro i σ H' ⟨_, _, _, _, _, _, _, _, _, _, _, _, _, _, _, fr, _, hC', _⟩
      exact Same.seqT hC'.s0 ha
    · rintro i x T1 σ H1 hxi ⟨kv, fl, v6, v7, v8, v9, v10, mi, osi, fi, ki, r, Ni, kn, rfl, fr1, gr1, hC1, fl1, hkv1, hr1, hP1, eq1⟩ nT
      have hi : i < b.list.length := by
        rw [← lx]
        exact (List.getElem?_eq_some_iff.mp hxi).1
      obtain ⟨u, hu1, hu2⟩ := hx i _ (List.getElem?_eq_getElem hi)
      rw [hxi] at hu1
      cases hu1
      obtain ⟨r2, rfl, hr2⟩ := drop_cons hr1 (List.getElem?_eq_getElem hi)
      have hsm := szS_mem (List.getElem_mem hi)
      generalize b.list[i] = st at hu2 hP1 eq1 hsm
      have S1 : Same H1 (upd H1 T1 (.tup [.int (i : Nat), x])) := Same.new nT
      have e1 : (upd H1 T1 (.tup [.int (i : Nat), x])) T1 = some (.tup [.int (i : Nat), x]) := upd_same
      generalize upd H1 T1 (.tup [.int (i : Nat), x]) = H2 at S1 e1
      refine ⟨T1, _, rfl, SqT.of e1, rfl, _, _, rfl, _, _, rfl, rfl, ?_⟩
      have t1 : (1 : Nat) ≤ sizeLine := by decide
      have hP1' := hP1
      have sz1 := hP1.sz
      have ok1 := hP1.ok
      rw [szB] at sz1
      rw [okB, Bool.and_eq_true] at ok1
      have sp1 := szS_pos st
      have bn1 := hP1.bn
      rw [szB] at bn1
      have bk1 := hP1.bk
      rw [szB] at bk1
      have lpl : (before ++ [i]).length = before.length + 1 := by simp
      refine ⟨_, rfl, _, rfl, t1, fun q nq => ?_⟩
      have S2 := S1.trans (Same.new (o := .tup [.int (i : Nat)]) nq)
      refine catA_read (Same.seqT S2 (Fr.sq hC fr1 hpa)) (SqT.of upd_same) (szl (by rw [List.length_map]; simp; omega)) fun pl H3 S3 h3 => ?_
      have S13 : Same H1 H3 := S2.trans S3
      have h3 : SqT K H3 pl ((before ++ [i]).map nV) := by rw [List.map_append]; exact h3
      clear S2 S3 nq e1 S1
      have hC3 := hC1.same S13
      refine ⟨_, rfl, C.c, _, _, rfl, hcls ▸ hC3.ins, rfl, _, rfl, _, rfl, _, rfl, _, rfl, C, mi, osi, x, st, pl, before ++ [i], kv, ki, looped, rfl, hC3, hcls, hu2, ok1.1, h3, by omega, hP1.inv.g, hkv1.st fun _ _ z => Same.seqT S13 z, fun H4 S4 => ?_⟩
      have hC4 := hC3.same S4
      have h4 := Same.seqT S4 h3
      have S14 := S13.trans S4
      cases ef : faultOf C.inputs C.root mi.set st (before ++ [i]) ki looped with
      | some why =>
        refine ⟨_, rfl, rfl, true, rfl, iteT ?_⟩
        refine ⟨_, rfl, _, rfl, err2_read TB fun d nd => ?_⟩
        exact kErr _ (eq1.trans (bk_err ef)) _ d pl (hC4.s0.trans (Same.new nd)) (Same.seqT (Same.new nd) h4) upd_same
      | none =>
      refine ⟨_, rfl, rfl, false, rfl, iteF ?_⟩
      obtain ⟨hsh, kn1, rfl⟩ := fault_none ef
      obtain ⟨kb, rfl, hkb1⟩ := hkv1
      have hSP := hP1.head hsh
      have hi1 := hP1.inv
      refine ⟨_, rfl, C.c, _, _, rfl, hcls ▸ hC4.ins, rfl, _, rfl, _, rfl, C, mi, osi, x, st, pl, before ++ [i], rfl, hC4, hcls, hu2, hsh, ok1.1, h4, by omega, (hi1.le (by omega)).c, fun H5 os5 fr5 gr5 hC5 => ?_⟩
      have gr15 : Grow H1 osi os5 := by
        obtain ⟨more, e, hm⟩ := gr5
        exact ⟨more, e, fun l hl => Same.free S14 (hm l hl)⟩
      have fr15 : Fr C osi H1 H5 := Fr.trans Grow.refl (Fr.of_same S14) fr5
      have tc : Cls K C.cls := by rw [hcls]; exact T.cK
      have tn4 : NoAttr K C.cls "known" := by rw [hcls]; exact T.nK.2.2.2.1
      have h5 := Fr.sq hC4 fr5 h4
      have hkb5 := Fr.sq hC1 fr15 hkb1
      refine ⟨_, rfl, _, rfl, C.c, _, _, _, _, rfl, hC5.ins, tc, tn4, rfl, _, rfl, C.dK, rfl, hC5.known h5 hkb5 (Nat.le_trans hi1.c.k (by omega)) fun H6 fr6 hC6 => ?_⟩
      have h6 := Fr.sq hC5 fr6 h5
      have hkb6 := Fr.sq hC5 fr6 hkb5
      have fr16 : Fr C osi H1 H6 := Fr.trans gr15 fr15 fr6
      have fl6 := fl1.fr hC hC1 fr16 gr15
      have frH6 := Fr.trans gr1 fr1 fr16
      have grH6 := Grow.trans hC1 fr1 gr1 gr15
      refine ⟨_, rfl, C.c, _, _, rfl, hcls ▸ hC6.ins, rfl, _, rfl, _, rfl, _, rfl, _, rfl, C, ⟨noted st (before ++ [i]) mi.set, putP mi.known (before ++ [i]) kn1⟩, os5, x, st, pl, before ++ [i], kb, kn1, looped, W, Ni + 1, kn, rfl, hC6, hcls, hu2, h6, hkb6, hSP, by omega, fun past m7 e2 H7 os7 fl7 fr7 gr7 hC7 flw7 => ?_, fun xx e2 => kErr _ (eq1.trans (bk_st_err ef e2))⟩
      obtain ⟨r71, r72⟩ := hSP.run e2
      have hPt := hP1.tail hsh e2
      have eq2 := eq1.trans (bk_st_ok ef e2)
      have flA := fl6.fr hC hC6 fr7 gr7
      have frH7 := Fr.trans grH6 frH6 fr7
      have grH7 := Grow.trans hC6 frH6 grH6 gr7
      obtain ⟨es, eH, _, _, _, kvs, kr⟩ := flw7.at_.ents
      have got : ∃ o, TGet P w K H7 fl7 (.ref ad.eEnd) o ∧ KnV K H7 (o.getD .non) (getF past END) := by
        cases eg : getF past END with
        | none => exact ⟨none, flw7.at_.none_ (k := END) (T.tEnd H7) eg, rfl⟩
        | some v =>
          obtain ⟨c, g1, g2⟩ := flw7.at_.some_ (k := END) (T.tEnd H7) eg
          exact ⟨_, g1, c, rfl, g2⟩
      obtain ⟨o, g1, hkv7⟩ := got
      refine ⟨_, rfl, fl7, es, rfl, .inl eH, ⟨kvs, kr⟩, o, g1, ?_⟩
      refine ⟨_, rfl, _, rfl, fl7, past, W, rfl, flw7.at_, r71.okf (by omega), hSP.wok, fun H8 fl8 S8 n8 fw8 => ?_⟩
      have flB := flA.same S8
      refine ⟨fl, fl8, fi, withoutEnd past, W, rfl, flB.at_, fw8, hP1.fl.okf (by omega), r71.without.okf (by omega), hSP.wok.l, fun H9 fl9 S9 n9 fw9 => ?_⟩
      have S79 := S8.trans S9
      refine ⟨_, fl9, _, _, _, _, _, m7, os7, _, getF past END, r2, _, _, rfl, Fr.trans grH7 frH7 (Fr.of_same S79), grH7, hC7.same S79, Flw.new (hC7.same S8) grH7 (Fr.trans grH7 frH7 (Fr.of_same S8)) S9 n9 fw9, hkv7.st fun _ _ z => Same.seqT S79 z, hr2, hPt, eq2⟩
    · rintro σ H1 ⟨kv, fl, v6, v7, v8, v9, v10, mi, osi, fi, ki, r, Ni, kn, rfl, fr1, gr1, hC1, fl1, hkv1, hr1, hP1, eq1⟩
      have := drop_nil hr1 (by omega)
      subst this
      rw [bk_end] at eq1
      cases ki with
      | none =>
        cases hkv1
        refine ⟨_, rfl, rfl, false, rfl, iteF ?_⟩
        exact ⟨_, rfl, kOk _ _ eq1 H1 osi fl fr1 gr1 hC1 fl1⟩
      | some kn1 =>
        obtain ⟨kb, rfl, hkb⟩ := hkv1
        refine ⟨_, rfl, rfl, true, rfl, iteT ?_⟩
        have wl : W.length < sizeLine := hP1.wok.lt
        refine ⟨_, rfl, _, rfl, fl, rfl, fl1.at_.put (k := END) (T.tEnd H1) hkb hP1.fl.i wl fun es fw st => ?_⟩
        obtain ⟨x1, x2, x3⟩ := ChkAt.put hC hC1 gr1 fr1 fl1 fw st
        exact ⟨_, rfl, kOk _ _ eq1 _ osi fl x1 gr1 x2 x3⟩
end
end K17

/-! the parts of a statement's run -/
namespace Pm
open PySem L2 Bx Tk
/-- a statement of two blocks, and how their flows come together -/
inductive Two : Sm → Bk → Bk → Names → Names → Bool → Bool → (Fw → Fw → Fw) → Prop where
  | ite (l r : Str) (n : Int) (b c : Bk) (known : Names) (looped : Bool) : Two (.ite l r n b c) b c known known looped looped eitherF
  | choose (b c : Bk) (known : Names) (looped : Bool) : Two (.choose b c) b c known known looped looped eitherF
  | loop (x t : Str) (n : Int) (u : Str) (m : Int) (b c : Bk) (known : Names) (looped : Bool) : Two (.loop x t n u m b c) b c known (known ++ [x]) looped true loopF
section
variable {inputs : Names} {root : Bk} {b c o a : Bk} {hs : Hs} {s : Sm} {place : Pa} {known kb : Names} {looped lb : Bool} {m m1 m2 m3 m4 : Sta} {fb fc fo fa : Fw} {fh : List Fw} {x : Pa × Str}
variable {F : Fw → Fw → Fw}
theorem two_eq (t : Two s b c known kb looped lb F) : stFlow inputs root s place known looped m = (do
    let (fb, m) ← bkFlow inputs root b (place ++ [0]) 0 [] (some kb) lb m
    let (fc, m) ← bkFlow inputs root c (place ++ [1]) 0 [] (some known) looped m
    return (F fb fc, m)) := by
  cases t <;> rw [stFlow]
theorem two_err1 (t : Two s b c known kb looped lb F) (q1 : bkFlow inputs root b (place ++ [0]) 0 [] (some kb) lb m = .error x) : stFlow inputs root s place known looped m = .error x := by
  rw [two_eq t, q1]
  rfl
theorem two_err2 (t : Two s b c known kb looped lb F) (q1 : bkFlow inputs root b (place ++ [0]) 0 [] (some kb) lb m = .ok (fb, m1)) (q2 : bkFlow inputs root c (place ++ [1]) 0 [] (some known) looped m1 = .error x) : stFlow inputs root s place known looped m = .error x := by
  rw [two_eq t, q1]
  show (do let (fc, m) ← bkFlow inputs root c (place ++ [1]) 0 [] (some known) looped m1
           return (F fb fc, m) : Res (Fw × Sta)) = _
  rw [q2]
  rfl
theorem two_ok (t : Two s b c known kb looped lb F) (q1 : bkFlow inputs root b (place ++ [0]) 0 [] (some kb) lb m = .ok (fb, m1)) (q2 : bkFlow inputs root c (place ++ [1]) 0 [] (some known) looped m1 = .ok (fc, m2)) : stFlow inputs root s place known looped m = .ok (F fb fc, m2) := by
  rw [two_eq t, q1]
  show (do let (fc, m) ← bkFlow inputs root c (place ++ [1]) 0 [] (some known) looped m1
           return (F fb fc, m) : Res (Fw × Sta)) = _
  rw [q2]
  rfl
theorem two_blocks (t : Two s b c known kb looped lb F) : blocksOf s = [b, c] ∧ waysS s = waysB b ++ waysB c ∧ szS s = 1 + szB b + szB c ∧ kb.length ≤ known.length + 1 := by
  cases t
  · exact ⟨rfl, by rw [waysS], by rw [szS], Nat.le_succ _⟩
  · exact ⟨rfl, by rw [waysS], by rw [szS], Nat.le_succ _⟩
  · exact ⟨rfl, by rw [waysS], by rw [szS], by simp⟩
variable {C : Ck} {W : List Way} {n k : Nat}
theorem StP.two1 (t : Two s b c known kb looped lb F) (h : StP C W s place known m n k) : BkP C W b (place ++ [0]) 0 [] (some kb) m n (k + 1) := by
  obtain ⟨e1, e2, e3, e4⟩ := two_blocks t
  have hk := h.kn
  have hb := h.bk
  have hn := h.bn
  have hw := h.w
  rw [e2] at hw
  rw [e3] at hb hn
  exact h.block (j := 0) (by rw [e1]; rfl) (fun w z => hw w (List.mem_append_left _ z)) (by omega) (knl (by omega)) (by omega) h.inv (by omega)
theorem StP.two2 (t : Two s b c known kb looped lb F) (h : StP C W s place known m n k) (q1 : bkFlow C.inputs C.root b (place ++ [0]) 0 [] (some kb) lb m = .ok (fb, m1)) : BkP C W c (place ++ [1]) 0 [] (some known) m1 (n + szB b) (k + 1) ∧ Ofb W 890 fb := by
  obtain ⟨a1, a2⟩ := (h.two1 t).run q1
  obtain ⟨e1, e2, e3, e4⟩ := two_blocks t
  have hk := h.kn
  have hb := h.bk
  have hn := h.bn
  have hw := h.w
  rw [e2] at hw
  rw [e3] at hb hn
  exact ⟨h.block (j := 1) (by rw [e1]; rfl) (fun w z => hw w (List.mem_append_right _ z)) (by omega) (knl (by omega)) (by omega) a2 (by omega), a1.le (by omega)⟩
/-! try -/
theorem try_eq : stFlow inputs root (.tryy b hs o a) place known looped m = (do
    let (fb, m) ← bkFlow inputs root b (place ++ [0]) 0 [] (some known) looped m
    let (fh, m) ← hsFlow inputs root hs place 1 known looped m
    let (fo, m) ← bkFlow inputs root o (place ++ [1 + hs.list.length]) 0 [] (getF fb END) looped m
    let (fa, m) ← bkFlow inputs root a (place ++ [2 + hs.list.length]) 0 [] (some known) looped m
    return (tryF hs.list (fb :: (fh ++ [fo, fa])), m)) := by rw [stFlow]
section
variable (q1 : bkFlow inputs root b (place ++ [0]) 0 [] (some known) looped m = .ok (fb, m1))
theorem try_err1 (q1 : bkFlow inputs root b (place ++ [0]) 0 [] (some known) looped m = .error x) : stFlow inputs root (.tryy b hs o a) place known looped m = .error x := by
  rw [try_eq, q1]
  rfl
include q1
theorem try_1 : stFlow inputs root (.tryy b hs o a) place known looped m = (do
    let (fh, m) ← hsFlow inputs root hs place 1 known looped m1
    let (fo, m) ← bkFlow inputs root o (place ++ [1 + hs.list.length]) 0 [] (getF fb END) looped m
    let (fa, m) ← bkFlow inputs root a (place ++ [2 + hs.list.length]) 0 [] (some known) looped m
    return (tryF hs.list (fb :: (fh ++ [fo, fa])), m)) := by
  rw [try_eq, q1]
  rfl
theorem try_err2 (q2 : hsFlow inputs root hs place 1 known looped m1 = .error x) : stFlow inputs root (.tryy b hs o a) place known looped m = .error x := by
  rw [try_1 q1, q2]
  rfl
variable (q2 : hsFlow inputs root hs place 1 known looped m1 = .ok (fh, m2))
include q2
theorem try_2 : stFlow inputs root (.tryy b hs o a) place known looped m = (do
    let (fo, m) ← bkFlow inputs root o (place ++ [1 + hs.list.length]) 0 [] (getF fb END) looped m2
    let (fa, m) ← bkFlow inputs root a (place ++ [2 + hs.list.length]) 0 [] (some known) looped m
    return (tryF hs.list (fb :: (fh ++ [fo, fa])), m)) := by
  rw [try_1 q1, q2]
  rfl
theorem try_err3 (q3 : bkFlow inputs root o (place ++ [1 + hs.list.length]) 0 [] (getF fb END) looped m2 = .error x) : stFlow inputs root (.tryy b hs o a) place known looped m = .error x := by
  rw [try_2 q1 q2, q3]
  rfl
variable (q3 : bkFlow inputs root o (place ++ [1 + hs.list.length]) 0 [] (getF fb END) looped m2 = .ok (fo, m3))
include q3
theorem try_3 : stFlow inputs root (.tryy b hs o a) place known looped m = (do
    let (fa, m) ← bkFlow inputs root a (place ++ [2 + hs.list.length]) 0 [] (some known) looped m3
    return (tryF hs.list (fb :: (fh ++ [fo, fa])), m)) := by
  rw [try_2 q1 q2, q3]
  rfl
theorem try_err4 (q4 : bkFlow inputs root a (place ++ [2 + hs.list.length]) 0 [] (some known) looped m3 = .error x) : stFlow inputs root (.tryy b hs o a) place known looped m = .error x := by
  rw [try_3 q1 q2 q3, q4]
  rfl
theorem try_ok (q4 : bkFlow inputs root a (place ++ [2 + hs.list.length]) 0 [] (some known) looped m3 = .ok (fa, m4)) : stFlow inputs root (.tryy b hs o a) place known looped m = .ok (tryF hs.list (fb :: (fh ++ [fo, fa])), m4) := by
  rw [try_3 q1 q2 q3, q4]
  rfl
end
end
end Pm
namespace Pm
open PySem L2 Bx Tk
/-- what the check has done since H -/
structure Run (P : Program) (w : World) (K : PySem.W.Frag) (C : Ck) (H : Hp) (os : List Addr) (H1 : Hp) (os1 : List Addr) (m1 : Sta) : Prop where
  fr : Fr C os H H1
  gr : Grow H os os1
  ck : ChkAt P w K C H1 m1 os1
section
variable {P : Program} {w : World} {K : PySem.W.Frag} {C : Ck} {H H1 H2 H3 : Hp} {m m1 m3 : Sta} {os os1 os3 : List Addr} {a : Addr} {f : Fw}
theorem Run.refl (h : ChkAt P w K C H m os) : Run P w K C H os H os m := ⟨Fr.refl, Grow.refl, h⟩
theorem Run.same (r : Run P w K C H os H1 os1 m1) (S : Same H1 H2) : Run P w K C H os H2 os1 m1 := ⟨Fr.trans r.gr r.fr (Fr.of_same S), r.gr, r.ck.same S⟩
theorem Run.call (r : Run P w K C H os H1 os1 m1) (fr : Fr C os1 H1 H3) (gr : Grow H1 os1 os3) (ck : ChkAt P w K C H3 m3 os3) : Run P w K C H os H3 os3 m3 := ⟨Fr.trans r.gr r.fr fr, Grow.trans r.ck r.fr r.gr gr, ck⟩
theorem Run.flw (r : Run P w K C H os H1 os1 m1) (h : Flw P w K C H1 H3 os3 a f) : Flw P w K C H H3 os3 a f := ⟨h.at_, Fr.free r.ck r.gr r.fr h.nw, h.no⟩
theorem Run.keep (hC : ChkAt P w K C H m os) (r : Run P w K C H os H1 os1 m1) (h : Flw P w K C H H1 os1 a f) (fr : Fr C os1 H1 H3) (gr : Grow H1 os1 os3) : Flw P w K C H H3 os3 a f := h.fr hC r.ck fr gr
theorem Run.new (r : Run P w K C H os H1 os1 m1) (S : Same H1 H2) (n : H1 a = none) (h : FwAt P w K H2 a f) : Flw P w K C H H2 os1 a f := Flw.new r.ck r.gr r.fr S n h
theorem Run.sq (hC : ChkAt P w K C H m os) (r : Run P w K C H os H1 os1 m1) {b : Addr} {ks : List V} (z : SqT K H b ks) : SqT K H1 b ks := Fr.sq hC r.fr z
end
end Pm
namespace Pm
open PySem L2 Bx Tk
structure HsP (C : Ck) (W : List Way) (hs : Hs) (place : Pa) (i : Nat) (known : Names) (m : Sta) (n k : Nat) : Prop where
  st : ∀ j h, hs.list[j]? = some h → StR C.root (place ++ [i + j]) 0 h.2.2
  g : GoodP C.root place
  od : place.length % 2 = 1
  ok : okH hs = true
  w : ∀ w ∈ waysH hs, w ∈ W
  sz : place.length + 1 + 2 * szH hs ≤ 889
  kn : known.length ≤ k
  inv : Inv C.root n m
  wok : WOk W
  bk : k + szH hs ≤ 890
  bn : n + szH hs ≤ 10000
section
variable {C : Ck} {W : List Way} {n k i : Nat} {b c o a : Bk} {hs r : Hs} {ks : List Str} {x : Option Str} {place : Pa} {known : Names} {looped : Bool} {m m1 m2 m3 m4 : Sta} {fb fc fo fa : Fw} {fh : List Fw}
theorem HsP.head (h : HsP C W (.cons ks x b r) place i known m n k) : BkP C W b (place ++ [i]) 0 [] (some (thereOf known x)) m n (k + 1) := by
  obtain ⟨st, g, od, ok, hw, sz, kn, inv, wok, bk, bn⟩ := h
  have okb := okH_mem ok List.mem_cons_self
  rw [waysH] at hw
  rw [szH] at sz bk bn
  have lp : (place ++ [i]).length = place.length + 1 := by simp
  have lt := there_len known x
  exact ⟨st 0 _ rfl, good_step g od, by omega, okb.b.o, fun w z => hw w (List.mem_append_left _ z), by omega, Ofb.nil, knl (by omega), inv, wok, by omega, by omega⟩
theorem HsP.tail (h : HsP C W (.cons ks x b r) place i known m n k) (q : bkFlow C.inputs C.root b (place ++ [i]) 0 [] (some (thereOf known x)) looped m = .ok (fb, m1)) : HsP C W r place (i + 1) known m1 (n + szB b) k := by
  obtain ⟨a1, a2⟩ := h.head.run q
  obtain ⟨st, g, od, ok, hw, sz, kn, inv, wok, bk, bn⟩ := h
  rw [okH, Bool.and_eq_true] at ok
  rw [waysH] at hw
  rw [szH] at sz bk bn
  exact ⟨fun j h hj => by
    have := st (j + 1) h hj
    have e : i + (j + 1) = i + 1 + j := by omega
    rwa [e] at this, g, od, ok.2, fun w z => hw w (List.mem_append_right _ z), by omega, kn, a2, wok, by omega, by omega⟩
theorem HsP.run (h : HsP C W hs place i known m n k) (q : hsFlow C.inputs C.root hs place i known looped m = .ok (fh, m1)) : (∀ f ∈ fh, Ofb W (k + szH hs) f) ∧ fh.length = hs.list.length ∧ Inv C.root (n + szH hs) m1 := hsG C.inputs C.root W h.wok.e hs place i known looped m m1 fh n k h.st h.g h.od h.ok h.w h.sz h.kn h.inv q
section
variable (h : StP C W (.tryy b hs o a) place known m n k)
include h
theorem StP.try1 : BkP C W b (place ++ [0]) 0 [] (some known) m n k := by
  have hw := h.w
  have hb := h.bk
  have hn := h.bn
  rw [waysS] at hw
  rw [szS] at hb hn
  exact h.block try_first (fun w z => hw w (List.mem_append_left _ z)) (by rw [szS]; omega) (knl h.kn) (by omega) h.inv (by omega)
variable (q1 : bkFlow C.inputs C.root b (place ++ [0]) 0 [] (some known) looped m = .ok (fb, m1))
include q1
theorem StP.try2 : HsP C W hs place 1 known m1 (n + szB b) k := by
  obtain ⟨a1, a2⟩ := h.try1.run q1
  have hw := h.w
  have hb := h.bk
  have hn := h.bn
  have hz := h.sz
  have ok := h.ok
  rw [waysS] at hw
  rw [szS] at hb hn hz
  rw [okS] at ok
  simp only [Bool.and_eq_true] at ok
  exact ⟨fun j d hj => h.st.block (try_hand hj), h.g, h.od, ok.1.1.2, fun w z => hw w (List.mem_append_right _ (List.mem_append_left _ z)), by omega, h.kn, a2, h.wok, by omega, by omega⟩
variable (q2 : hsFlow C.inputs C.root hs place 1 known looped m1 = .ok (fh, m2))
include q2
theorem StP.try3 : BkP C W o (place ++ [1 + hs.list.length]) 0 [] (getF fb END) m2 (n + szB b + szH hs) (k + szB b) := by
  obtain ⟨a1, a2⟩ := h.try1.run q1
  obtain ⟨b1, b2, b3⟩ := (h.try2 q1).run q2
  have hw := h.w
  have hb := h.bk
  have hn := h.bn
  rw [waysS] at hw
  rw [szS] at hb hn
  exact h.block try_other (fun w z => hw w (List.mem_append_right _ (List.mem_append_right _ (List.mem_append_left _ z)))) (by rw [szS]; omega) (fun kn z => a1.get z) (by omega) b3 (by omega)
variable (q3 : bkFlow C.inputs C.root o (place ++ [1 + hs.list.length]) 0 [] (getF fb END) looped m2 = .ok (fo, m3))
include q3
theorem StP.try4 : BkP C W a (place ++ [2 + hs.list.length]) 0 [] (some known) m3 (n + szB b + szH hs + szB o) k := by
  obtain ⟨c1, c2⟩ := (h.try3 q1 q2).run q3
  have hw := h.w
  have hb := h.bk
  have hn := h.bn
  rw [waysS] at hw
  rw [szS] at hb hn
  exact h.block try_always (fun w z => hw w (List.mem_append_right _ (List.mem_append_right _ (List.mem_append_right _ z)))) (by rw [szS]; omega) (knl h.kn) (by omega) c2 (by omega)
theorem StP.tryAll (q4 : bkFlow C.inputs C.root a (place ++ [2 + hs.list.length]) 0 [] (some known) looped m3 = .ok (fa, m4)) : (∀ f ∈ fb :: (fh ++ [fo, fa]), Okf W f) ∧ (fb :: (fh ++ [fo, fa])).length = hs.list.length + 3 ∧ hs.list.length ≤ 3 := by
  obtain ⟨a1, a2⟩ := h.try1.run q1
  obtain ⟨b1, b2, b3⟩ := (h.try2 q1).run q2
  obtain ⟨c1, c2⟩ := (h.try3 q1 q2).run q3
  obtain ⟨d1, d2⟩ := (h.try4 q1 q2 q3).run q4
  have hb := h.bk
  rw [szS] at hb
  refine ⟨fun f hf => ?_, by simp [b2], okS_hs h.ok⟩
  rcases List.mem_cons.mp hf with z | z
  · rw [z]
    exact a1.okf (by omega)
  · rcases List.mem_append.mp z with y | y
    · exact (b1 f y).okf (by omega)
    · rcases List.mem_cons.mp y with x | x
      · rw [x]
        exact c1.okf (by omega)
      · rw [List.mem_singleton.mp x]
        exact d1.okf (by omega)
end
end
end Pm

namespace K17
open PySem L2 Bx Tk Pm RZ
section
variable {P : Program} {w : World} {K : PySem.W.Frag} {mg : Str → Option Value} {base : Heap} {ad : Ad} {cB : Addr}
def OutL (P : Program) (w : World) (K : PySem.W.Frag) (C : Ck) (os : List Addr) (H : Hp) (fs : List Fw) (m' : Sta) (Q : VK) : Prop := ∀ H' os' L as, Fr C os H H' → Grow H os os' → ChkAt P w K C H' m' os' → H' L = some (.lst (as.map V.ref)) → Paired (fun a f => Flw P w K C H H' os' a f) as fs → Q (.ref L) H'
def spTF (P : Program) (w : World) (K : PySem.W.Frag) (ad : Ad) (cB : Addr) (n : Nat) : Sp := fun vs H Q E => ∃ (C : Ck) (m : Sta) (os : List Addr) (v : V) (b : Bk) (hs : Hs) (o a : Bk) (pa : Addr) (place : Pa) (kb : Addr) (known : Pm.Names) (looped : Bool) (W : List Way) (N k : Nat), vs = [.ref C.c, v, .ref pa, .ref kb, .bl looped] ∧
  ChkAt P w K C H m os ∧ C.cls = ad.cK ∧ Dp K C.H0 v (encS (.tryy b hs o a)) ∧ SqT K H pa (place.map nV) ∧ SqT K H kb (known.map V.str) ∧ StP C W (.tryy b hs o a) place known m N k ∧ szS (.tryy b hs o a) ≤ n + 1 ∧
  (∀ fb m1 fh m2 fo m3 fa m', bkFlow C.inputs C.root b (place ++ [0]) 0 [] (some known) looped m = .ok (fb, m1) → hsFlow C.inputs C.root hs place 1 known looped m1 = .ok (fh, m2) → bkFlow C.inputs C.root o (place ++ [1 + hs.list.length]) 0 [] (getF fb END) looped m2 = .ok (fo, m3) →
    bkFlow C.inputs C.root a (place ++ [2 + hs.list.length]) 0 [] (some known) looped m3 = .ok (fa, m') → OutL P w K C os H (fb :: (fh ++ [fo, fa])) m' Q) ∧ ∀ x, stFlow C.inputs C.root (.tryy b hs o a) place known looped m = .error x → OutE K C cB E x
/-- place + (n,) -/
theorem step_read {H : Hp} {pa : Addr} {place : Pa} (hpa : SqT K H pa (place.map nV)) (l : place.length ≤ 890) (n : Nat) {Q : VK} (k : ∀ c H', Same H H' → SqT K H' c ((place ++ [n]).map nV) → Q (.ref c) H') : ∀ q, H q = none → rCatA K (.ref pa) (.ref q) (upd H q (.tup [.int (n : Nat)])) Q := fun q nq => by
  have S := Same.new (o := .tup [.int (n : Nat)]) nq
  refine catA_read (Same.seqT S hpa) (SqT.of upd_same) (szl (by rw [List.length_map]; simp; omega)) fun c H' S2 h => k c H' (S.trans S2) ?_
  rw [List.map_append]
  exact h
/-- known + (x,) -/
theorem name_read {H : Hp} {kb : Addr} {known : Pm.Names} (hkb : SqT K H kb (known.map V.str)) (l : known.length ≤ 890) (x : Str) {Q : VK} (k : ∀ c H', Same H H' → SqT K H' c ((known ++ [x]).map V.str) → Q (.ref c) H') : ∀ q, H q = none → rCatA K (.ref kb) (.ref q) (upd H q (.tup [.str x])) Q := fun q nq => by
  have S := Same.new (o := .tup [.str x]) nq
  refine catA_read (Same.seqT S hkb) (SqT.of upd_same) (szl (by rw [List.length_map]; simp; omega)) fun c H' S2 h => k c H' (S.trans S2) ?_
  rw [List.map_append]
  exact h
theorem word_rest {s : Sm} (h : hasShape s = true) (w1 : wordOf s ≠ "for") (w2 : wordOf s ≠ "try") (known : Pm.Names) (looped : Bool) : blocksOf s = [] ∨ ∃ b c, Two s b c known known looped looped eitherF := by
  cases s with
  | ite l r n b c => exact .inr ⟨b, c, .ite l r n b c known looped⟩
  | choose b c => exact .inr ⟨b, c, .choose b c known looped⟩
  | loop x t n u m b c => exact absurd rfl w1
  | tryy b hs o a => exact absurd rfl w2
  | bad d => cases h
  | set x t n => exact .inl rfl
  | read x => exact .inl rfl
  | ask l r n k => exact .inl rfl
  | raise k t n => exact .inl rfl
  | out o => exact .inl rfl
  | leave => exact .inl rfl
  | again => exact .inl rfl
theorem flw_at {H0 H : Hp} {C : Ck} {os as : List Addr} {fs : List Fw} (h : Paired (fun a f => Flw P w K C H0 H os a f) as fs) : Paired (FwAt P w K H) as fs := Paired.mapP h fun _ _ z => z.at_
theorem flw_mem {H0 H : Hp} {C : Ck} {os as : List Addr} {fs : List Fw} (h : Paired (fun a f => Flw P w K C H0 H os a f) as fs) {x : Addr} (hx : x ∈ as) : H0 x = none ∧ x ∉ os := by
  induction h with
  | nil => cases hx
  | cons z t ih =>
    rcases List.mem_cons.mp hx with e | e
    · rw [e]
      exact ⟨z.nw, z.no⟩
    · exact ih e
theorem ok_statement_flow (n l : Nat) (hl : 10 ≤ l) {f : Addr} {fd : FuncData} (F : C8.Fun K "statement_flow" "Check.statement_flow" s_Check_statement_flow f fd) (me : Meth K ad.cK "statement_flow" f) (b : Binds K fd ["self", "statement", "place", "known", "looped"] []) (T : Txt K mg ad)
    (K_loop_flow : C8.Cal P w K mg base 2 "loop_flow" (spLoop P w K) []) (K_try_flow : C8.Cal P w K mg base 2 "try_flow" (spTry P w K) []) (K_blocks_of : C8.Cal P w K mg base 1 "blocks_of" (spBlocks K) []) (K_simple_flow : C8.Cal P w K mg base 1 "simple_flow" (spSimple P w K) [])
    (K_either_flow : C8.Cal P w K mg base 1 "either_flow" (spEither P w K) []) (K_block_flow : MetX P w K mg base l ad.cK "block_flow" (spBF P w K ad cB n)) (K_try_flows : MetX P w K mg base (l + 1) ad.cK "try_flows" (spTF P w K ad cB n)) : MetX P w K mg base (l + 2) ad.cK "statement_flow" (spSF P w K ad cB (n + 1)) := by
  refine ⟨f, fd, _, T.cK, me, fnX F sc_Check_statement_flow (fun vs H Q E h => ?_) (fun cdv A outer s H vs Q E hr h => ?_), b⟩
  · obtain ⟨C, m, os, v, st, pa, place, kb, known, looped, W, N, k, rfl, _⟩ := h
    rfl
  · obtain ⟨C, m, os, v, st, pa, place, kb, known, looped, W, N, k, rfl, hC, hcls, hv, hpa, hkb, hP, hsz, kOk, kErr⟩ := h
    have hu := hu_of hr
    refine ⟨_, (pss_cons (ps_if (pt_cmpR op_eq (pe_ix ix_tup (pv 1) pe_int (fun _ _ => rfl)) pe_str (nomark _)) (pss_cons (ps_set (i := 5) sc_Check_statement_flow.nd rfl (Or.inl rfl) (Pm.pe_mtX K_block_flow hr (by omega) (takes_of rfl rfl rfl rfl) (pv 0) (pa_cons (pe_ix ix_tup (pv 1) pe_int (fun _ _ => rfl)) (pa_cons (pe_op op_catA (pv 2) (pe_tup (pa_cons pe_int pa_nil))) (pa_cons (pe_op op_catA (pv 3) (pe_tup (pa_cons (pe_ix ix_tup (pv 1) pe_int (fun _ _ => rfl)) pa_nil))) (pa_cons pe_bl pa_nil))))))
    (pss_one (ps_ret (C8.pe_c K_loop_flow hr (by omega) (by rfl) (pa_cons (pv 5) (pa_cons (Pm.pe_mtX K_block_flow hr (by omega) (takes_of rfl rfl rfl rfl) (pv 0) (pa_cons (pe_ix ix_tup (pv 1) pe_int (fun _ _ => rfl)) (pa_cons (pe_op op_catA (pv 2) (pe_tup (pa_cons pe_int pa_nil))) (pa_cons (pv 3) (pa_cons (pv 4) pa_nil))))) pa_nil)))))) pss_nil)
    (pss_cons (ps_if (pt_cmpR op_eq (pe_ix ix_tup (pv 1) pe_int (fun _ _ => rfl)) pe_str (nomark _)) (pss_one (ps_ret (C8.pe_c K_try_flow hr (by omega) (by rfl) (pa_cons (pe_ix ix_tup (pv 1) pe_int (fun _ _ => rfl)) (pa_cons (Pm.pe_mtX K_try_flows hr (by omega) (takes_of rfl rfl rfl rfl) (pv 0) (pa_cons (pv 1) (pa_cons (pv 2) (pa_cons (pv 3) (pa_cons (pv 4) pa_nil))))) pa_nil))))) pss_nil)
    (pss_cons (ps_set (i := 6) sc_Check_statement_flow.nd rfl (Or.inl rfl) (C8.pe_c K_blocks_of hr (by omega) (by rfl) (pa_cons (pv 1) pa_nil)))
    (pss_cons (ps_if (pt_not (pt_truth (pv 6) (by intro _; rfl))) (pss_one (ps_ret (C8.pe_c K_simple_flow hr (by omega) (by rfl) (pa_cons (pv 1) (pa_cons (pv 3) pa_nil))))) pss_nil)
    (pss_cons (ps_set (i := 7) sc_Check_statement_flow.nd rfl (Or.inl rfl) (Pm.pe_mtX K_block_flow hr (by omega) (takes_of rfl rfl rfl rfl) (pv 0) (pa_cons (pe_ix ix_list (pv 6) pe_int (fun _ _ => rfl)) (pa_cons (pe_op op_catA (pv 2) (pe_tup (pa_cons pe_int pa_nil))) (pa_cons (pv 3) (pa_cons (pv 4) pa_nil))))))
    (pss_one (ps_ret (C8.pe_c K_either_flow hr (by omega) (by rfl) (pa_cons (pv 7) (pa_cons (Pm.pe_mtX K_block_flow hr (by omega) (takes_of rfl rfl rfl rfl) (pv 0) (pa_cons (pe_ix ix_list (pv 6) pe_int (fun _ _ => rfl)) (pa_cons (pe_op op_catA (pv 2) (pe_tup (pa_cons pe_int pa_nil))) (pa_cons (pv 3) (pa_cons (pv 4) pa_nil))))) pa_nil)))))))))), ?_⟩
    have hsh := hP.sh
    have t1 : (1 : Nat) ≤ sizeLine := by decide
    obtain ⟨a, rest, rfl, ha⟩ := st_word hv hsh
    refine ⟨_, rfl, a, _, 0, _, rfl, rfl, Same.seqT hC.s0 ha, atI_nat (j := 0) rfl, rfl, _, rfl, ?_⟩
    have sz1 := hP.sz
    have kn1 := hP.kn
    have bk1 := hP.bk
    have sp := szS_pos st
    -- the flow that comes of two flows
    by_cases wl : wordOf st = "for"
    · refine iteTe (by rw [wl]; decide +kernel) ?_
      obtain ⟨x, t, n', u, mm, bb, cc, rfl⟩ := word_for hsh wl
      obtain ⟨a2, y, z, o, q, e, ha, hy, hz, hb, hc⟩ := st_loop hv
      cases e
      have tw : Two (.loop x t n' u mm bb cc) bb cc known (known ++ [x]) looped true loopF := .loop x t n' u mm bb cc known looped
      obtain ⟨_, _, es, _⟩ := two_blocks tw
      refine ⟨_, rfl, C.c, _, _, rfl, hcls ▸ hC.ins, rfl, _, rfl, a, _, 4, _, rfl, rfl, Same.seqT hC.s0 ha, rfl, _, rfl, t1, step_read hpa (by omega) 0 fun pl H1 S1 h1 => ?_⟩
      have hC1 := hC.same S1
      refine ⟨_, rfl, _, rfl, a, _, 1, _, rfl, rfl, Same.seqT hC1.s0 ha, rfl, t1, name_read (Same.seqT S1 hkb) (by omega) x fun kb2 H2 S2 h2 => ?_⟩
      have hC2 := hC1.same S2
      have S12 := S1.trans S2
      refine ⟨C, m, os, o, bb, pl, place ++ [0], .ref kb2, some (known ++ [x]), true, W, N, k + 1, rfl, hC2, hcls, hb, Same.seqT S2 h1, ⟨_, rfl, h2⟩, hP.two1 tw, by omega, fun fb m3 q1 H3 os3 fl3 fr3 gr3 hC3 flw3 => ?_, fun xx q1 => kErr _ (two_err1 tw q1)⟩
      obtain ⟨hP2, of3⟩ := hP.two2 tw q1
      have r2 := (Run.refl hC).same S12
      have r3 := r2.call fr3 gr3 hC3
      have f3 := r2.flw flw3
      refine ⟨_, rfl, _, rfl, C.c, _, _, rfl, hcls ▸ hC3.ins, rfl, _, rfl, a, _, 5, _, rfl, rfl, Same.seqT hC3.s0 ha, rfl, _, rfl, t1, step_read (r3.sq hC hpa) (by omega) 1 fun pl2 H4 S4 h4 => ?_⟩
      have r4 := r3.same S4
      have f4 := f3.same S4
      refine ⟨_, rfl, _, rfl, C, m3, os3, q, cc, pl2, place ++ [1], .ref kb, some known, looped, W, N + szB bb, k + 1, rfl, r4.ck, hcls, hc, h4, ⟨_, rfl, r4.sq hC hkb⟩, hP2, by omega, fun fc m5 q2 H5 os5 fl5 fr5 gr5 hC5 flw5 => ?_, fun xx q2 => kErr _ (two_err2 tw q1 q2)⟩
      have r5 := r4.call fr5 gr5 hC5
      have f5 := r4.flw flw5
      have f3' := Run.keep hC r4 f4 fr5 gr5
      have of5 := (hP2.run q2).1
      have bk2 := hP2.bk
      refine ⟨fl3, fl5, fb, fc, W, rfl, f3'.at_, f5.at_, of3.okf (by omega), of5.okf (by omega), hP.wok, fun H6 fl6 S6 n6 fw6 => ?_⟩
      have r6 := r5.same S6
      exact kOk _ _ (two_ok tw q1 q2) H6 os5 fl6 r6.fr r6.gr r6.ck (r5.new S6 n6 fw6)
    refine iteFe (by rw [decide_eq_false fun z => wl (V.str.inj z)]) ?_
    refine ⟨_, rfl, a, _, 0, _, rfl, rfl, Same.seqT hC.s0 ha, atI_nat (j := 0) rfl, rfl, _, rfl, ?_⟩
    by_cases wt : wordOf st = "try"
    · refine iteTe (by rw [wt]; decide +kernel) ?_
      obtain ⟨bb, hs, oo, aa, rfl⟩ := word_try hsh wt
      obtain ⟨a2, x, y, z, t, e, ha, hb, hh, ho, hl'⟩ := st_tryy hv
      cases e
      refine ⟨_, rfl, a, _, 2, _, rfl, rfl, Same.seqT hC.s0 ha, rfl, _, rfl, C.c, _, _, rfl, hcls ▸ hC.ins, rfl, _, rfl, _, rfl, _, rfl, _, rfl, C, m, os, .ref a, bb, hs, oo, aa, pa, place, kb, known, looped, W, N, k, rfl, hC, hcls, hv, hpa, hkb, hP, by omega, fun fb m1 fh m2 fo m3 fa m' q1 q2 q3 q4 H1 os1 L as fr1 gr1 hC1 eL hfs => ?_, kErr⟩
      obtain ⟨of, lf, l3⟩ := hP.tryAll q1 q2 q3 q4
      refine ⟨y, L, hs, as, _, W, rfl, dp_sm hC1.s0 hh, eL, flw_at hfs, lf, of, hP.wok, by omega, fun H2 fl S2 n2 fw2 => ?_⟩
      have r1 := (Run.refl hC).call fr1 gr1 hC1
      have r2 := r1.same S2
      refine kOk _ _ (try_ok q1 q2 q3 q4) H2 os1 fl r2.fr r2.gr r2.ck ?_
      rcases n2 with n2 | n2
      · exact r1.new S2 n2 fw2
      · obtain ⟨x1, x2⟩ := flw_mem hfs n2
        exact ⟨fw2, x1, x2⟩
    refine iteFe (by rw [decide_eq_false fun z => wt (V.str.inj z)]) ?_
    refine ⟨_, rfl, .ref a, st, C.H0, rfl, hC.s0, hv, hsh, by have := okS_hs hP.ok; omega, fun H1 L us S1 nL eL hus => ?_⟩
    have r1 := (Run.refl hC).same S1
    rcases word_rest hsh wl wt known looped with hb | ⟨bb, cc, tw⟩
    · have hus' : DpAll K C.H0 us [] := by
        unfold bksD at hus
        rw [hb] at hus
        exact hus
      cases inv_nil hus'
      refine ⟨_, rfl, _, .inl ⟨_, SqL.of eL, rfl⟩, iteT ?_⟩
      refine ⟨_, rfl, _, rfl, .ref a, kb, st, known, rfl, dp_sm r1.ck.s0 hv, hb, hsh, r1.sq hC hkb, by omega, fun H2 fl S2 n2 fw2 => ?_⟩
      have r2 := r1.same S2
      exact kOk _ _ (st_simple hb) H2 os fl r2.fr r2.gr r2.ck (r1.new S2 n2 fw2)
    · obtain ⟨eb, _, es, _⟩ := two_blocks tw
      have hus' : DpAll K C.H0 us [.tuple (encB bb), .tuple (encB cc)] := by
        unfold bksD at hus
        rw [eb] at hus
        exact hus
      obtain ⟨o, r, rfl, hb, hus2⟩ := inv_cons hus'
      obtain ⟨q, r', rfl, hc, hus3⟩ := inv_cons hus2
      cases inv_nil hus3
      refine ⟨_, rfl, _, .inl ⟨_, SqL.of eL, rfl⟩, iteF ?_⟩
      refine ⟨_, rfl, C.c, _, _, rfl, hcls ▸ r1.ck.ins, rfl, _, rfl, L, _, 0, _, rfl, rfl, SqL.of eL, atI_nat (j := 0) rfl, _, rfl, t1, step_read (r1.sq hC hpa) (by omega) 0 fun pl H2 S2 h2 => ?_⟩
      have r2 := r1.same S2
      refine ⟨_, rfl, _, rfl, C, m, os, o, bb, pl, place ++ [0], .ref kb, some known, looped, W, N, k + 1, rfl, r2.ck, hcls, hb, h2, ⟨_, rfl, r2.sq hC hkb⟩, hP.two1 tw, by omega, fun fb m3 q1 H3 os3 fl3 fr3 gr3 hC3 flw3 => ?_, fun xx q1 => kErr _ (two_err1 tw q1)⟩
      obtain ⟨hP2, of3⟩ := hP.two2 tw q1
      have r3 := r2.call fr3 gr3 hC3
      have f3 := r2.flw flw3
      have eL2 := S2 _ _ eL
      have eL3 : H3 L = some (.lst [o, q]) := fr3 L _ eL2 (fun z => by
        obtain ⟨⟨kvs, k1⟩, _⟩ := r2.ck.kinds
        rw [z, k1] at eL2
        cases eL2) (fun z => by
        obtain ⟨_, ⟨es, k1⟩, _⟩ := r2.ck.kinds
        rw [z, k1] at eL2
        cases eL2) fun z => by
        obtain ⟨_, _, k3⟩ := hC.kinds
        obtain ⟨xs, k4⟩ := k3 L z
        rw [k4] at nL
        cases nL
      refine ⟨_, rfl, _, rfl, C.c, _, _, rfl, hcls ▸ hC3.ins, rfl, _, rfl, L, _, 1, _, rfl, rfl, SqL.of eL3, atI_nat (j := 1) rfl, _, rfl, t1, step_read (r3.sq hC hpa) (by omega) 1 fun pl2 H4 S4 h4 => ?_⟩
      have r4 := r3.same S4
      have f4 := f3.same S4
      refine ⟨_, rfl, _, rfl, C, m3, os3, q, cc, pl2, place ++ [1], .ref kb, some known, looped, W, N + szB bb, k + 1, rfl, r4.ck, hcls, hc, h4, ⟨_, rfl, r4.sq hC hkb⟩, hP2, by omega, fun fc m5 q2 H5 os5 fl5 fr5 gr5 hC5 flw5 => ?_, fun xx q2 => kErr _ (two_err2 tw q1 q2)⟩
      have r5 := r4.call fr5 gr5 hC5
      have f5 := r4.flw flw5
      have f3' := Run.keep hC r4 f4 fr5 gr5
      have of5 := (hP2.run q2).1
      have bk2 := hP2.bk
      refine ⟨fl3, fl5, fb, fc, W, rfl, f3'.at_, f5.at_, of3.okf (by omega), of5.okf (by omega), hP.wok.l, fun H6 fl6 S6 n6 fw6 => ?_⟩
      have r6 := r5.same S6
      exact kOk _ _ (two_ok tw q1 q2) H6 os5 fl6 r6.fr r6.gr r6.ck (r5.new S6 n6 fw6)
end
end K17

/-! the handlers' run, and a list of its own -/
namespace Pm
open PySem L2 Bx Tk
section
variable {inputs : Names} {root : Bk} {b : Bk} {r : Hs} {ks : List Str} {x : Option Str} {place : Pa} {i : Nat} {known : Names} {looped : Bool} {m m1 m2 : Sta} {f : Fw} {fs : List Fw} {e : Pa × Str}
theorem hs_eq : hsFlow inputs root (.cons ks x b r) place i known looped m = (do
    let (f, m) ← bkFlow inputs root b (place ++ [i]) 0 [] (some (thereOf known x)) looped m
    let (fs, m) ← hsFlow inputs root r place (i + 1) known looped m
    return (f :: fs, m)) := by
  rw [hsFlow.eq_def]
  rfl
theorem hs_err1 (q : bkFlow inputs root b (place ++ [i]) 0 [] (some (thereOf known x)) looped m = .error e) : hsFlow inputs root (.cons ks x b r) place i known looped m = .error e := by
  rw [hs_eq, q]
  rfl
theorem hs_1 (q : bkFlow inputs root b (place ++ [i]) 0 [] (some (thereOf known x)) looped m = .ok (f, m1)) : hsFlow inputs root (.cons ks x b r) place i known looped m = (do
    let (fs, m) ← hsFlow inputs root r place (i + 1) known looped m1
    return (f :: fs, m)) := by
  rw [hs_eq, q]
  rfl
theorem hs_err2 (q : bkFlow inputs root b (place ++ [i]) 0 [] (some (thereOf known x)) looped m = .ok (f, m1)) (q2 : hsFlow inputs root r place (i + 1) known looped m1 = .error e) : hsFlow inputs root (.cons ks x b r) place i known looped m = .error e := by
  rw [hs_1 q, q2]
  rfl
theorem hs_ok2 (q : bkFlow inputs root b (place ++ [i]) 0 [] (some (thereOf known x)) looped m = .ok (f, m1)) (q2 : hsFlow inputs root r place (i + 1) known looped m1 = .ok (fs, m2)) : hsFlow inputs root (.cons ks x b r) place i known looped m = .ok (f :: fs, m2) := by
  rw [hs_1 q, q2]
  rfl
theorem hs_end : hsFlow inputs root .nil place i known looped m = .ok ([], m) := by
  rw [hsFlow.eq_def]
  rfl
end
theorem hdrop_cons {hs r : Hs} {i : Nat} {h : List Str × Option Str × Bk} (e0 : r.list = hs.list.drop i) (e : hs.list[i]? = some h) : ∃ r2, r = .cons h.1 h.2.1 h.2.2 r2 ∧ r2.list = hs.list.drop (i + 1) := by
  obtain ⟨hi, e2⟩ := List.getElem?_eq_some_iff.mp e
  rw [List.drop_eq_getElem_cons hi, e2] at e0
  cases r with
  | nil => cases e0
  | cons ks x b r2 =>
    have e0 : (ks, x, b) :: r2.list = h :: hs.list.drop (i + 1) := e0
    injection e0 with h1 h2
    exact ⟨r2, by rw [← h1], h2⟩
theorem hdrop_nil {hs r : Hs} {i : Nat} (h : r.list = hs.list.drop i) (e : hs.list.length ≤ i) : r = .nil := by
  rw [List.drop_eq_nil_of_le e] at h
  cases r with
  | nil => rfl
  | cons ks x b r2 => cases h
section
variable {P : Program} {w : World} {K : PySem.W.Frag} {C : Ck} {H H0 H1 H2 : Hp} {m m0 m1 : Sta} {os os0 os1 : List Addr} {a L : Addr} {f : Fw} {xs ys : List V}
/-- a list that is no part of the check -/
structure Own (C : Ck) (H0 H : Hp) (os : List Addr) (L : Addr) (xs : List V) : Prop where
  at_ : H L = some (.lst xs)
  nw : H0 L = none
  no : L ∉ os
theorem Own.ne (h0 : ChkAt P w K C H0 m0 os0) (h : Own C H0 H os L xs) : L ≠ C.dS ∧ L ≠ C.dK := by
  obtain ⟨⟨kvs, k1⟩, ⟨es, k2⟩, _⟩ := h0.kinds
  have nw := h.nw
  refine ⟨fun z => ?_, fun z => ?_⟩
  · rw [z, k1] at nw
    cases nw
  · rw [z, k2] at nw
    cases nw
theorem Own.same (h : Own C H0 H os L xs) (S : Same H H1) : Own C H0 H1 os L xs := ⟨S _ _ h.at_, h.nw, h.no⟩
theorem Own.keep (h0 : ChkAt P w K C H0 m0 os0) (h : Own C H0 H os L xs) (fr : Fr C os H H1) (gr : Grow H os os1) : Own C H0 H1 os1 L xs := by
  obtain ⟨n1, n2⟩ := h.ne h0
  refine ⟨fr _ _ h.at_ n1 n2 h.no, h.nw, fun z => ?_⟩
  obtain ⟨more, rfl, hm⟩ := gr
  rcases List.mem_append.mp z with y | y
  · exact h.no y
  · have := hm L y
    rw [h.at_] at this
    cases this
theorem Own.new (r : Run P w K C H0 os0 H os m) (n : H L = none) : Own C H0 (upd H L (.lst xs)) os L xs := by
  refine ⟨upd_same, Fr.free r.ck r.gr r.fr n, fun z => ?_⟩
  obtain ⟨_, _, k3⟩ := r.ck.kinds
  obtain ⟨ys, e⟩ := k3 L z
  rw [e] at n
  cases n
/-- one more in the list -/
theorem Run.own (h0 : ChkAt P w K C H0 m0 os0) (r : Run P w K C H0 os0 H os m) (h : Own C H0 H os L xs) : Run P w K C H0 os0 (upd H L (.lst ys)) os m ∧ Own C H0 (upd H L (.lst ys)) os L ys ∧ (∀ b ks, SqT K H b ks → SqT K (upd H L (.lst ys)) b ks) ∧ ∀ a f, Flw P w K C H0 H os a f → Flw P w K C H0 (upd H L (.lst ys)) os a f := by
  obtain ⟨n1, n2⟩ := h.ne h0
  obtain ⟨⟨kvs, k1⟩, ⟨es1, k2⟩, k3⟩ := r.ck.kinds
  have nw := h.nw
  have no := h.no
  have e0 := h.at_
  have st : ∀ b ks, SqT K H b ks → SqT K (upd H L (.lst ys)) b ks := fun b ks z => sq_upd (fun zs e => by rw [e0] at e; cases e) (fun ob zs e => by rw [e0] at e; cases e) z
  have z0 : C.H0 L = none := by
    cases q : C.H0 L with
    | none => rfl
    | some o =>
      rw [h0.s0 _ _ q] at nw
      cases nw
  have hC := r.ck
  refine ⟨⟨fun x o hx y1 y2 y3 => ?_, r.gr, ?_, hC.inp, hC.blk, hC.ok, fun x o hx => ?_, hC.set.mono st (upd_ne (Ne.symm n1)) fun l hl => upd_ne fun z => no (z ▸ hl), hC.kn.mono (upd_ne (Ne.symm n2)) st, hC.f1, hC.f2, hC.f3⟩, ⟨upd_same, nw, no⟩, st, fun a f g => ?_⟩
  · rw [upd_ne fun z => by rw [z, nw] at hx; cases hx]
    exact r.fr x o hx y1 y2 y3
  · rw [upd_ne (ne_of hC.ins e0 (by intro z; cases z))]
    exact hC.ins
  · rw [upd_ne fun z => by rw [z, z0] at hx; cases hx]
    exact hC.s0 x o hx
  · obtain ⟨es, eH, _⟩ := g.at_.ents
    exact ⟨g.at_.mono (upd_ne (ne_of eH e0 (by intro z; cases z))) st, g.nw, g.no⟩
end
end Pm

namespace K17
open PySem L2 Bx Tk Pm RZ
section
variable {P : Program} {w : World} {K : PySem.W.Frag} {mg : Str → Option Value} {base : Heap} {ad : Ad} {cB : Addr}
/-- known if name is None else known + (name,) -/
theorem there_read {σ : L2.St} {H : Hp} {Q : VK} {kb : Addr} {known : Pm.Names} {x : Option Str} (i3 : ∀ H (Q : VK), Q (.ref kb) H → tVar 3 σ H Q) (i13 : ∀ H (Q : VK), Q (oV x) H → tVar 13 σ H Q) (hkb : SqT K H kb (known.map V.str)) (l : known.length ≤ 890)
    (k : ∀ kb5 H5, Same H H5 → SqT K H5 kb5 ((thereOf known x).map V.str) → Q (.ref kb5) H5) : tIf (tTest (tOp (fun x y H Q => y = V.non ∧ Q (V.bl (decide (x = V.non))) H) (tVar 13) (tC V.non))) (tVar 3) (tOp (rCatA K) (tVar 3) (tTup (tCons (tVar 13) tNil))) σ H Q := by
  have t1 : (1 : Nat) ≤ sizeLine := by decide
  unfold tIf tTest tOp
  cases x with
  | none =>
    refine i13 H _ ?_
    refine ⟨rfl, true, rfl, iteT ?_⟩
    exact i3 _ _ (k _ _ (Same.refl H) hkb)
  | some x =>
    refine i13 H _ ?_
    refine ⟨rfl, false, rfl, iteF ?_⟩
    refine i3 H _ ?_
    refine i13 H _ ?_
    exact ⟨t1, name_read hkb l x fun kb5 H5 S5 h5 => k kb5 H5 S5 h5⟩
theorem szH_mem : ∀ {hs : Hs} {d : List Str × Option Str × Bk}, d ∈ hs.list → szB d.2.2 + 1 ≤ szH hs
  | .nil, _, h => by cases h
  | .cons ks x b r, d, h => by
    rw [szH]
    rcases List.mem_cons.mp h with e | e
    · rw [e]
      simp only
      omega
    · have := szH_mem e
      omega
theorem ok_try_flows (n l : Nat) (hl : 10 ≤ l) {f : Addr} {fd : FuncData} (F : C8.Fun K "try_flows" "Check.try_flows" s_Check_try_flows f fd) (me : Meth K ad.cK "try_flows" f) (b : Binds K fd ["self", "statement", "place", "known", "looped"] []) (T : Txt K mg ad)
    (K_block_flow : MetX P w K mg base l ad.cK "block_flow" (spBF P w K ad cB n)) : MetX P w K mg base (l + 1) ad.cK "try_flows" (spTF P w K ad cB n) := by
  refine ⟨f, fd, _, T.cK, me, fnX F sc_Check_try_flows (fun vs H Q E h => ?_) (fun cdv A outer s H vs Q E hr h => ?_), b⟩
  · obtain ⟨C, m, os, v, bb, hs, oo, aa, pa, place, kb, known, looped, W, N, k, rfl, _⟩ := h
    rfl
  · obtain ⟨C, m, os, v, bb, hs, oo, aa, pa, place, kb, known, looped, W, N, k, rfl, hC, hcls, hv, hpa, hkb, hP, hsz, kOk, kErr⟩ := h
    have hu := hu_of hr
    refine ⟨_, (pss_cons (ps_asg (pv 1) (pg_tup (by rfl) (pgs_cons (pg_name (i := 5) sc_Check_try_flows.nd rfl (Or.inl rfl)) (pgs_cons (pg_name (i := 6) sc_Check_try_flows.nd rfl (Or.inl rfl)) (pgs_cons (pg_name (i := 7) sc_Check_try_flows.nd rfl (Or.inl rfl)) (pgs_cons (pg_name (i := 8) sc_Check_try_flows.nd rfl (Or.inl rfl)) (pgs_cons (pg_name (i := 9) sc_Check_try_flows.nd rfl (Or.inl rfl)) pgs_nil)))))))
    (pss_cons (ps_set (i := 10) sc_Check_try_flows.nd rfl (Or.inl rfl) (pe_lst (pa_cons (Pm.pe_mtX K_block_flow hr (by omega) (takes_of rfl rfl rfl rfl) (pv 0) (pa_cons (pv 6) (pa_cons (pe_op op_catA (pv 2) (pe_tup (pa_cons pe_int pa_nil))) (pa_cons (pv 3) (pa_cons (pv 4) pa_nil))))) pa_nil)))
    (pss_cons (ps_set (i := 11) sc_Check_try_flows.nd rfl (Or.inl rfl) (Tk.pe_tget1 P w K hu (pe_ix ix_list (pv 10) pe_int (fun _ _ => rfl)) (C8.pe_gc (by rfl) T.c_END) ⟨rfl, rfl, rfl, rfl⟩))
    (pss_cons (ps_for (passes_of rfl) rfl (pi_tup (pv 7)) (pg_tup (by rfl) (pgs_cons (pg_name (i := 12) sc_Check_try_flows.nd rfl (Or.inl rfl)) (pgs_cons (pg_name (i := 13) sc_Check_try_flows.nd rfl (Or.inl rfl)) (pgs_cons (pg_name (i := 14) sc_Check_try_flows.nd rfl (Or.inl rfl)) pgs_nil))))
    (pss_cons (ps_set (i := 15) sc_Check_try_flows.nd rfl (Or.inl rfl) (pe_ifExp (pt_cmpR op_isN (pv 13) pe_non (nomark _)) (pv 3) (pe_op op_catA (pv 3) (pe_tup (pa_cons (pv 13) pa_nil)))))
    (pss_one (ps_expr (pe_bm PySem.F.plainAttrs_list PySem.F.slot_list_append PySem.F.type_list_append mt_append (pv 10) (pa_cons (Pm.pe_mtX K_block_flow hr (by omega) (takes_of rfl rfl rfl rfl) (pv 0) (pa_cons (pv 14) (pa_cons (pe_op op_catA (pv 2) (pe_tup (pa_cons (pe_callB call_len_seq (by rfl) T.z_len (by decide +kernel) (pa_cons (pv 10) pa_nil)) pa_nil))) (pa_cons (pv 15) (pa_cons (pv 4) pa_nil))))) pa_nil))))))
    (pss_cons (ps_expr (pe_bm PySem.F.plainAttrs_list PySem.F.slot_list_append PySem.F.type_list_append mt_append (pv 10) (pa_cons (Pm.pe_mtX K_block_flow hr (by omega) (takes_of rfl rfl rfl rfl) (pv 0) (pa_cons (pv 8) (pa_cons (pe_op op_catA (pv 2) (pe_tup (pa_cons (pe_callB call_len_seq (by rfl) T.z_len (by decide +kernel) (pa_cons (pv 10) pa_nil)) pa_nil))) (pa_cons (pv 11) (pa_cons (pv 4) pa_nil))))) pa_nil)))
    (pss_cons (ps_expr (pe_bm PySem.F.plainAttrs_list PySem.F.slot_list_append PySem.F.type_list_append mt_append (pv 10) (pa_cons (Pm.pe_mtX K_block_flow hr (by omega) (takes_of rfl rfl rfl rfl) (pv 0) (pa_cons (pv 9) (pa_cons (pe_op op_catA (pv 2) (pe_tup (pa_cons (pe_callB call_len_seq (by rfl) T.z_len (by decide +kernel) (pa_cons (pv 10) pa_nil)) pa_nil))) (pa_cons (pv 3) (pa_cons (pv 4) pa_nil))))) pa_nil)))
    (pss_one (ps_ret (pv 10))))))))), ?_⟩
    have t1 : (1 : Nat) ≤ sizeLine := by decide
    obtain ⟨a, x, y, z, t, rfl, ha, hb, hh, ho, hal⟩ := st_tryy hv
    have sz1 := hP.sz
    have kn1 := hP.kn
    have bk1 := hP.bk
    have hlen : hs.list.length ≤ 3 := okS_hs hP.ok
    rw [szS] at hsz bk1 sz1
    refine ⟨_, rfl, a, _, rfl, Same.seqT hC.s0 ha, rfl, _, _, rfl, _, _, rfl, _, _, rfl, _, _, rfl, _, _, rfl, rfl, ?_⟩
    refine ⟨_, rfl, C.c, _, _, rfl, hcls ▸ hC.ins, rfl, _, rfl, _, rfl, t1, step_read hpa (by omega) 0 fun pl H1 S1 h1 => ?_⟩
    have r1 := (Run.refl hC).same S1
    refine ⟨_, rfl, _, rfl, C, m, os, x, bb, pl, place ++ [0], .ref kb, some known, looped, W, N, k, rfl, r1.ck, hcls, hb, h1, ⟨_, rfl, r1.sq hC hkb⟩, hP.try1, by omega, fun fb m2 q1 H2 os2 fl2 fr2 gr2 hC2 flw2 => ?_, fun xx q1 => kErr _ (try_err1 q1)⟩
    have r2 := r1.call fr2 gr2 hC2
    have f2 := r1.flw flw2
    refine ⟨t1, fun L nL => ?_⟩
    have o3 : Own C H (upd H2 L (.lst [.ref fl2])) os2 L [.ref fl2] := Own.new r2 nL
    have S3 : Same H2 (upd H2 L (.lst [.ref fl2])) := Same.new nL
    generalize upd H2 L (.lst [.ref fl2]) = H3 at o3 S3
    have r3 := r2.same S3
    have f3 := f2.same S3
    obtain ⟨es, eH, _, _, _, kvs, kr⟩ := f3.at_.ents
    have got : ∃ o, TGet P w K H3 fl2 (.ref ad.eEnd) o ∧ KnV K H3 (o.getD .non) (getF fb END) := by
      cases eg : getF fb END with
      | none => exact ⟨none, f3.at_.none_ (k := END) (T.tEnd H3) eg, rfl⟩
      | some v =>
        obtain ⟨c, g1, g2⟩ := f3.at_.some_ (k := END) (T.tEnd H3) eg
        exact ⟨_, g1, c, rfl, g2⟩
    obtain ⟨o, g1, hkv3⟩ := got
    refine ⟨_, rfl, L, _, 0, _, rfl, rfl, SqL.of o3.at_, atI_nat (j := 0) rfl, fl2, es, rfl, .inl eH, ⟨kvs, kr⟩, o, g1, ?_⟩
    generalize o.getD .non = kvb at hkv3
    obtain ⟨p, xs, rfl, hp, lx, hx⟩ := hs_at hh
    have hH := hP.try2 q1
    refine ⟨_, rfl, p, rfl, ⟨_, Same.seqT r3.ck.s0 hp⟩, for_tup (xs := xs) (fun i σ H' => ∃ v12 v13 v14 v15 mi osi as done r Ni, σ = [some (.ref C.c), some (.ref a), some (.ref pa), some (.ref kb), some (.bl looped), some (.str "try"), some x, some (.ref p), some z, some t, some (.ref L), some kvb, v12, v13, v14, v15] ∧ Run P w K C H os H' osi mi ∧ Own C H H' osi L (as.map V.ref) ∧
      Paired (fun a f => Flw P w K C H H' osi a f) as (fb :: done) ∧ done.length = i ∧ r.list = hs.list.drop i ∧ HsP C W r place (1 + i) known mi Ni k ∧ KnV K H' kvb (getF fb END) ∧ (∀ fr m', hsFlow C.inputs C.root r place (1 + i) known looped mi = .ok (fr, m') → hsFlow C.inputs C.root hs place 1 known looped m2 = .ok (done ++ fr, m')) ∧
      ∀ x, hsFlow C.inputs C.root r place (1 + i) known looped mi = .error x → hsFlow C.inputs C.root hs place 1 known looped m2 = .error x)
      ⟨_, _, _, _, m2, os2, [fl2], [], hs, _, rfl, r3, o3, .cons f3 .nil, rfl, rfl, hH, hkv3, fun fr m' h => h, fun x h => h⟩ ?_ ?_ ?_⟩
    · rintro i σ H' _ ⟨_, _, _, _, _, _, _, _, _, _, _, r', _⟩
      exact Same.seqT r'.ck.s0 hp
    · rintro i u σ H4 hui ⟨v12, v13, v14, v15, mi, osi, as, done, r, Ni, rfl, r4, o4, f4, ld, er, hHi, hkv4, eOk, eErr⟩
      have hi : i < hs.list.length := by
        rw [← lx]
        exact (List.getElem?_eq_some_iff.mp hui).1
      obtain ⟨u', hu1, hu2⟩ := hx i _ (List.getElem?_eq_getElem hi)
      rw [hui] at hu1
      cases hu1
      obtain ⟨rr, rfl, er2⟩ := hdrop_cons er (List.getElem?_eq_getElem hi)
      have hmem := List.getElem_mem hi
      generalize hs.list[i] = d at hu2 hHi eOk eErr hmem
      obtain ⟨ks, xo, db⟩ := d
      obtain ⟨c, yk, wv, rfl, hc, _, hdb⟩ := hd_at hu2
      refine ⟨c, _, rfl, Same.seqT r4.ck.s0 hc, rfl, _, _, rfl, _, _, rfl, _, _, rfl, rfl, ?_⟩
      have las : as.length = 1 + i := by
        have := Paired.length f4
        rw [List.length_cons] at this
        omega
      refine there_read (x := xo) (fun H Q h => ⟨_, rfl, h⟩) (fun H Q h => ⟨_, rfl, h⟩) (r4.sq hC hkb) (by omega) fun kb5 H5 S5 h5 => ?_
      have r5 := r4.same S5
      have o5 := o4.same S5
      refine ⟨_, rfl, .inl ⟨rfl, _, SqL.of o5.at_⟩, _, rfl, C.c, _, _, rfl, hcls ▸ r5.ck.ins, rfl, _, rfl, _, rfl, _, rfl, L, _, rfl, .inl (SqL.of o5.at_), t1, step_read (r5.sq hC hpa) (by omega) _ fun pl H6 S6 h6 => ?_⟩
      rw [List.length_map, las] at h6
      have r6 := r5.same S6
      have o6 := o5.same S6
      refine ⟨_, rfl, _, rfl, C, mi, osi, wv, db, pl, place ++ [1 + i], .ref kb5, some (thereOf known xo), looped, W, Ni, k + 1, rfl, r6.ck, hcls, hdb, h6, ⟨_, rfl, Same.seqT S6 h5⟩, hHi.head, by have : szB db + 1 ≤ szH hs := szH_mem hmem; omega, fun fd m7 q7 H7 os7 fl7 fr7 gr7 hC7 flw7 => ?_, fun xx q7 => kErr _ (try_err2 q1 (eErr _ (hs_err1 q7)))⟩
      have r7 := r6.call fr7 gr7 hC7
      have o7 := Own.keep hC o6 fr7 gr7
      have f7 := r6.flw flw7
      have f47 : Paired (fun a f => Flw P w K C H H7 os7 a f) as (fb :: done) := Paired.mapP f4 fun _ _ g => Run.keep hC r6 ((g.same S5).same S6) fr7 gr7
      refine ⟨L, _, _, rfl, rfl, o7.at_, szw (by rw [List.length_map]; omega), ?_⟩
      obtain ⟨r8, o8, st8, k8⟩ := Run.own (ys := as.map V.ref ++ [.ref fl7]) hC r7 o7
      refine ⟨_, _, _, _, m7, os7, as ++ [fl7], done ++ [fd], rr, _, rfl, r8, by rw [List.map_append]; exact o8, Paired.snoc (Paired.mapP f47 fun _ _ g => k8 _ _ g) (k8 _ _ f7), by simp [ld], er2, hHi.tail q7, ?_, fun fr m' h => ?_, fun x h => eErr _ (hs_err2 q7 h)⟩
      · refine hkv4.st fun _ _ zz => st8 _ _ (Fr.sq r6.ck fr7 (Same.seqT (S5.trans S6) zz))
      · rw [List.append_assoc]
        exact eOk _ _ (hs_ok2 q7 h)
    · rintro σ H4 ⟨v12, v13, v14, v15, mi, osi, as, done, r, Ni, rfl, r4, o4, f4, ld, er, hHi, hkv4, eOk, eErr⟩
      have := hdrop_nil er (by omega)
      subst this
      have las : as.length = 1 + hs.list.length := by
        have := Paired.length f4
        rw [List.length_cons] at this
        omega
      have q2 : hsFlow C.inputs C.root hs place 1 known looped m2 = .ok (done, mi) := by
        have := eOk [] mi hs_end
        rwa [List.append_nil] at this
      have hO := hP.try3 q1 q2
      refine ⟨_, rfl, .inl ⟨rfl, _, SqL.of o4.at_⟩, _, rfl, C.c, _, _, rfl, hcls ▸ r4.ck.ins, rfl, _, rfl, _, rfl, _, rfl, L, _, rfl, .inl (SqL.of o4.at_), t1, step_read (r4.sq hC hpa) (by omega) _ fun pl H6 S6 h6 => ?_⟩
      rw [List.length_map, las] at h6
      have r6 := r4.same S6
      have o6 := o4.same S6
      refine ⟨_, rfl, _, rfl, C, mi, osi, z, oo, pl, place ++ [1 + hs.list.length], kvb, getF fb END, looped, W, _, _, rfl, r6.ck, hcls, ho, h6, hkv4.st fun _ _ zz => Same.seqT S6 zz, hO, by omega, fun fo m7 q3 H7 os7 fl7 fr7 gr7 hC7 flw7 => ?_, fun xx q3 => kErr _ (try_err3 q1 q2 q3)⟩
      have r7 := r6.call fr7 gr7 hC7
      have o7 := Own.keep hC o6 fr7 gr7
      have f7 := r6.flw flw7
      have f47 : Paired (fun a f => Flw P w K C H H7 os7 a f) as (fb :: done) := Paired.mapP f4 fun _ _ g => Run.keep hC r6 (g.same S6) fr7 gr7
      refine ⟨L, _, _, rfl, rfl, o7.at_, szw (by rw [List.length_map]; omega), ?_⟩
      obtain ⟨r8, o8, st8, k8⟩ := Run.own (ys := as.map V.ref ++ [.ref fl7]) hC r7 o7
      have f8 : Paired (fun a f => Flw P w K C H (upd H7 L (.lst (as.map V.ref ++ [.ref fl7]))) os7 a f) (as ++ [fl7]) ((fb :: done) ++ [fo]) := Paired.snoc (Paired.mapP f47 fun _ _ g => k8 _ _ g) (k8 _ _ f7)
      rw [← show (as ++ [fl7]).map V.ref = as.map V.ref ++ [.ref fl7] from by rw [List.map_append]; rfl] at r8 o8 st8 f8 ⊢
      generalize upd H7 L (.lst ((as ++ [fl7]).map V.ref)) = H8 at r8 o8 st8 f8
      have hA := hP.try4 q1 q2 q3
      refine ⟨_, rfl, .inl ⟨rfl, _, SqL.of o8.at_⟩, _, rfl, C.c, _, _, rfl, hcls ▸ r8.ck.ins, rfl, _, rfl, _, rfl, _, rfl, L, _, rfl, .inl (SqL.of o8.at_), t1, step_read (r8.sq hC hpa) (by omega) _ fun pl2 H9 S9 h9 => ?_⟩
      rw [List.length_map, List.length_append, las, List.length_singleton, show 1 + hs.list.length + 1 = 2 + hs.list.length from by omega] at h9
      have r9 := r8.same S9
      have o9 := o8.same S9
      refine ⟨_, rfl, _, rfl, C, m7, os7, t, aa, pl2, place ++ [2 + hs.list.length], .ref kb, some known, looped, W, _, _, rfl, r9.ck, hcls, hal, h9, ⟨_, rfl, r9.sq hC hkb⟩, hA, by omega, fun fa mA q4 HA osA flA frA grA hCA flwA => ?_, fun xx q4 => kErr _ (try_err4 q1 q2 q3 q4)⟩
      have rA := r9.call frA grA hCA
      have oA := Own.keep hC o9 frA grA
      have fA := r9.flw flwA
      have f8A : Paired (fun a f => Flw P w K C H HA osA a f) (as ++ [fl7]) ((fb :: done) ++ [fo]) := Paired.mapP f8 fun _ _ g => Run.keep hC r9 (g.same S9) frA grA
      refine ⟨L, _, _, rfl, rfl, oA.at_, szw (by rw [List.length_map, List.length_append, List.length_singleton]; omega), ?_⟩
      obtain ⟨rB, oB, stB, kB⟩ := Run.own (ys := (as ++ [fl7]).map V.ref ++ [.ref flA]) hC rA oA
      refine ⟨_, rfl, kOk fb m2 done mi fo m7 fa mA q1 q2 q3 q4 _ osA L ((as ++ [fl7]) ++ [flA]) rB.fr rB.gr rB.ck (by rw [List.map_append (l₁ := as ++ [fl7])]; exact oB.at_) ?_⟩
      have fin := Paired.snoc (Paired.mapP f8A fun _ _ g => kB _ _ g) (kB _ _ fA)
      have e : (fb :: done) ++ [fo] ++ [fa] = fb :: (done ++ [fo, fa]) := by simp
      rwa [e] at fin
end
end K17

/-! a class whose __init__ may raise -/
namespace Pm
open PySem L2 Bx Tk
structure MakX (P : Program) (w : World) (K : PySem.W.Frag) (mg : Str → Option Value) (base : Heap) (k : Nat) (x : Str) (C : Addr) (sp : Sp) : Prop where
  ex : ∃ (f : Addr) (fd : FuncData) (ps : List Str), Mk K C f ∧ FnOk P w K mg base (L2.CX P w) k f fd ps sp ∧ mg x = some (.ref C) ∧ Binds K fd ps []
section
variable {X : Cx} {k j : Nat} {C : Addr} {x : Str} {sp : Sp} {E : XK} {p pos : Pos} {e : Expr} {es : List Expr} {t : TA}
theorem pe_mkX (c : MakX X.prog X.w X.K X.mg X.base k x C sp) (hr : Room j X.A) (hk : k + 1 ≤ j) (tk : Takes X (fun cls d _ H => E cls d H)) (hg : Gl X x) (ha : PA X (e :: es) t)
    (hdb : (x == ("__debug__" : Str)) = false := by decide) (he : starEach (e :: es) X.env = (false, eval e X.env) :: starEach es X.env := by rfl) (hpl : (backTo pos (starEach es X.env)).any (·.1) = false := by rfl) :
    PE X (.Call (.Name x p) (e :: es) [] pos) (tMake C sp [] E t) := by
  obtain ⟨f, fd, ps, M, F, hm, b⟩ := c.ex
  exact pe_make M F (hr.mono hk) hg hm b .nil (passes_call tk fun _ _ _ _ h => h) ha hdb he hpl
end
end Pm

namespace K17
open PySem L2 Bx Tk Pm RZ
section
variable {P : Program} {w : World} {K : PySem.W.Frag} {mg : Str → Option Value} {base : Heap} {ad : Ad} {cB : Addr}
/-- no statement is so small -/
theorem no_statement {f : Addr} {fd : FuncData} (F : C8.Fun K "statement_flow" "Check.statement_flow" s_Check_statement_flow f fd) (me : Meth K ad.cK "statement_flow" f) (b : Binds K fd ["self", "statement", "place", "known", "looped"] []) (T : Txt K mg ad) : MetX P w K mg base 9 ad.cK "statement_flow" (spSF P w K ad cB 0) := by
  refine ⟨f, fd, _, T.cK, me, fnX F sc_Check_statement_flow (fun vs H Q E h => ?_) (fun cdv A outer s H vs Q E hr h => ?_), b⟩
  · obtain ⟨C, m, os, v, st, pa, place, kb, known, looped, W, N, k, rfl, _⟩ := h
    rfl
  · obtain ⟨C, m, os, v, st, pa, place, kb, known, looped, W, N, k, rfl, hC, hcls, hv, hpa, hkb, hP, hsz, kOk, kErr⟩ := h
    have := szS_pos st
    omega
/-- the three methods that call each other -/
theorem block_all {f1 f2 f3 : Addr} {fd1 fd2 fd3 : FuncData} (F1 : C8.Fun K "block_flow" "Check.block_flow" s_Check_block_flow f1 fd1) (me1 : Meth K ad.cK "block_flow" f1) (b1 : Binds K fd1 ["self", "block", "before", "known", "looped"] [])
    (F2 : C8.Fun K "statement_flow" "Check.statement_flow" s_Check_statement_flow f2 fd2) (me2 : Meth K ad.cK "statement_flow" f2) (b2 : Binds K fd2 ["self", "statement", "place", "known", "looped"] [])
    (F3 : C8.Fun K "try_flows" "Check.try_flows" s_Check_try_flows f3 fd3) (me3 : Meth K ad.cK "try_flows" f3) (b3 : Binds K fd3 ["self", "statement", "place", "known", "looped"] [])
    (T : Txt K mg ad) (TB : Err2 P w K mg base "BadProgram" "place" "why" cB)
    (K_fault : C8.Met P w K mg base 7 ad.cK "fault" (spFault P w K ad) []) (K_note : C8.Met P w K mg base 3 ad.cK "note" (spNote P w K ad) []) (K_either_flow : C8.Cal P w K mg base 1 "either_flow" (spEither P w K) []) (K_without_end : C8.Cal P w K mg base 1 "without_end" (spWithout P w K) [])
    (K_loop_flow : C8.Cal P w K mg base 2 "loop_flow" (spLoop P w K) []) (K_try_flow : C8.Cal P w K mg base 2 "try_flow" (spTry P w K) []) (K_blocks_of : C8.Cal P w K mg base 1 "blocks_of" (spBlocks K) []) (K_simple_flow : C8.Cal P w K mg base 1 "simple_flow" (spSimple P w K) []) :
    ∀ n, MetX P w K mg base (10 + 3 * n) ad.cK "block_flow" (spBF P w K ad cB n)
  | 0 => ok_block_flow 0 9 rfl F1 me1 b1 T TB K_fault K_note K_either_flow K_without_end (no_statement F2 me2 b2 T)
  | n + 1 => by
    have B := block_all F1 me1 b1 F2 me2 b2 F3 me3 b3 T TB K_fault K_note K_either_flow K_without_end K_loop_flow K_try_flow K_blocks_of K_simple_flow n
    have Tn := ok_try_flows n (10 + 3 * n) (by omega) F3 me3 b3 T B
    have S := ok_statement_flow n (10 + 3 * n) (by omega) F2 me2 b2 T K_loop_flow K_try_flow K_blocks_of K_simple_flow K_either_flow B Tn
    exact ok_block_flow (n + 1) (10 + 3 * n + 2) (by omega) F1 me1 b1 T TB K_fault K_note K_either_flow K_without_end S
end
end K17

namespace K17
open PySem L2 Bx Tk Pm RZ
section
variable {P : Program} {w : World} {K : PySem.W.Frag} {mg : Str → Option Value} {base : Heap} {ad : Ad} {cB : Addr}
/-- what a program's inputs and block are, ahead of its check -/
structure Fit (K : PySem.W.Frag) (H0 : Hp) (pin : Addr) (bv : V) (inputs : Pm.Names) (root : Bk) (W : List Way) (n : Nat) : Prop where
  inp : SqT K H0 pin (inputs.map V.str)
  ok : areNames (.tuple (inputs.map .str)) = true
  blk : BkAt K H0 bv root
  okb : OkBk root
  w : ∀ w ∈ waysB root, w ∈ W
  wok : WOk W
  sz : 2 * szB root ≤ 889
  bk : inputs.length + szB root ≤ 890
  n : szB root ≤ n
theorem Fit.head {H0 : Hp} {pin : Addr} {bv : V} {inputs : Pm.Names} {root : Bk} {W : List Way} {n : Nat} (h : Fit K H0 pin bv inputs root W n) (C : Ck) (e : C.root = root) : BkP C W root [] 0 [] (some inputs) ⟨[], []⟩ 0 inputs.length := by
  have sz := h.sz
  have := h.bk
  subst e
  exact ⟨str_root, good_nil, rfl, h.okb.o, h.w, by simpa using sz, Ofb.nil, knl (Nat.le_refl _), ⟨fun q hq => (List.not_mem_nil hq).elim, ⟨Nat.le_refl _, Nat.le_refl _, fun q hq => (List.not_mem_nil hq).elim⟩⟩, h.wok, h.bk, by omega⟩
def OutB (H0 : Hp) (K : PySem.W.Frag) (cB : Addr) (E : XK) (x : Pa × Str) : Prop := ∀ H' d t, Same H0 H' → SqT K H' t (x.1.map nV) → H' d = some (.xd [("why", .str x.2), ("place", .ref t)]) → E (.ref cB) (some d) H'
def spCheck (P : Program) (w : World) (K : PySem.W.Frag) (ad : Ad) (cB : Addr) (n : Nat) : Sp := fun vs H Q E => ∃ (H0 : Hp) (c dx pin : Addr) (bv : V) (inputs : Pm.Names) (root : Bk) (W : List Way), vs = [.ref c, .ref pin, bv] ∧ Same H0 H ∧ H0 c = none ∧ H c = some (.ins ad.cK dx []) ∧ Fit K H0 pin bv inputs root W n ∧
  (∀ f m', checked inputs root = .ok (f, m') → ∀ H' dS dK fl os, Same H0 H' → H' c = some (.ins ad.cK dx [("inputs", .ref pin), ("block", bv), ("settings", .ref dS), ("known", .ref dK), ("flow", .ref fl)]) → SetA K H' dS m'.set os → KnA P w K H' dK m'.known → FwAt P w K H' fl f → Q .non H') ∧
  ∀ x, checked inputs root = .error x → OutB H0 K cB E x
theorem ok_Check_init (n l : Nat) (hl : 10 ≤ l) {f : Addr} {fd : FuncData} (M : Mk K ad.cK f) (F : C8.Fun K "__init__" "Check.__init__" s_Check_init f fd) (b : Binds K fd ["self", "inputs", "block"] []) (T : Txt K mg ad) (TB : Err2 P w K mg base "BadProgram" "place" "why" cB)
    (K_are_names : C8.Cal P w K mg base 3 "are_names" (spB K sh1 areNames) []) (K_block_flow : MetX P w K mg base l ad.cK "block_flow" (spBF P w K ad cB n)) : MakX P w K mg base (l + 1) "Check" ad.cK (spCheck P w K ad cB n) := by
  refine ⟨f, fd, _, M, fnX F sc_Check_init (fun vs H Q E h => ?_) (fun cdv A outer s H vs Q E hr h => ?_), T.g_Check, b⟩
  · obtain ⟨H0, c, dx, pin, bv, inputs, root, W, rfl, _⟩ := h
    rfl
  · obtain ⟨H0, c, dx, pin, bv, inputs, root, W, rfl, s0, n0, hc, hF, kOk, kErr⟩ := h
    have hu := hu_of hr
    refine ⟨_, (pss_cons (ps_if (pt_not (pt_val (C8.pe_c K_are_names hr (by omega) (by rfl) (pa_cons (pv 1) pa_nil)))) (pss_one (ps_raise2 rfl TB (hr.mono (by omega)) (takes_of rfl rfl rfl rfl) (pa_cons (pe_tup pa_nil) (pa_cons pe_str pa_nil)) (by rfl))) pss_nil)
    (pss_cons (ps_if (pt_not (pt_val (pe_callB call_isi (by rfl) T.z_isinstance (by decide +kernel) (pa_cons (pv 2) (pa_cons (pe_bltn (v := .ty "tuple") (by rfl) T.z_tuple (by decide +kernel) rfl) pa_nil))))) (pss_one (ps_raise2 rfl TB (hr.mono (by omega)) (takes_of rfl rfl rfl rfl) (pa_cons (pe_tup pa_nil) (pa_cons pe_str pa_nil)) (by rfl))) pss_nil)
    (pss_cons (ps_fld (pv 0) (pv 1) rfl)
    (pss_cons (ps_fld (pv 0) (pv 2) rfl)
    (pss_cons (ps_fld (pv 0) pe_dnewK rfl)
    (pss_cons (ps_fld (pv 0) (Tk.pe_tnew P w) rfl)
    (pss_one (ps_fld (pv 0) (Pm.pe_mtX K_block_flow hr (by omega) (takes_of rfl rfl rfl rfl) (pv 0) (pa_cons (pv 2) (pa_cons (pe_tup pa_nil) (pa_cons (pv 1) (pa_cons pe_bl pa_nil))))) rfl)))))))), ?_⟩
    have t0 : (0 : Nat) ≤ sizeLine := by decide
    have lin : inputs.length ≤ 890 := by have := hF.bk; omega
    obtain ⟨a, xs, rfl, ha, lx, hx⟩ := bk_at hF.blk
    have hin := Same.seqT s0 hF.inp
    have nms : ∀ x ∈ inputs, nameB x = true := by
      have h := hF.ok
      unfold areNames at h
      rw [Bool.and_eq_true, List.all_eq_true] at h
      exact fun x hx => h.1 (.str x) (List.mem_map_of_mem hx)
    refine ⟨_, rfl, .ref pin, .tuple (inputs.map .str), rfl, .tup hin (dp_strs inputs), sh1_strs (by omega) nms, fun H1 S1 => ⟨_, rfl, ?_⟩⟩
    rw [hF.ok]
    refine iteF ?_
    refine ⟨_, rfl, _, _, _, _, _, rfl, .ty _, dp_ty (d := .tuple (encB root)) (dp_sm (s0.trans S1) hF.blk), kit_tuple, _, rfl, iteF ?_⟩
    have S01 := s0.trans S1
    have hc1 := S1 _ _ hc
    clear hc s0
    have ic : ∀ (Hk : Hp) (fs : List (Str × V)), Same H0 Hk → Same H0 (upd Hk c (.ins ad.cK dx fs)) := fun Hk fs S => Same.mut S n0
    refine ⟨_, rfl, _, rfl, c, ad.cK, dx, _, rfl, hc1, T.cK, T.nK.1, by simp, ?_⟩
    have S2 := ic H1 [("inputs", .ref pin)] S01
    have e2 : (upd H1 c (.ins ad.cK dx [("inputs", .ref pin)])) c = some (.ins ad.cK dx [("inputs", .ref pin)]) := upd_same
    show tSeq _ _ _ _ (upd H1 c (.ins ad.cK dx [("inputs", .ref pin)]))
    generalize upd H1 c (.ins ad.cK dx [("inputs", .ref pin)]) = H2 at S2 e2 ⊢
    refine ⟨_, rfl, _, rfl, c, ad.cK, dx, _, rfl, e2, T.cK, T.nK.2.1, by simp, ?_⟩
    have S3 := ic H2 [("inputs", .ref pin), ("block", .ref a)] S2
    have e3 : (upd H2 c (.ins ad.cK dx [("inputs", .ref pin), ("block", .ref a)])) c = some (.ins ad.cK dx [("inputs", .ref pin), ("block", .ref a)]) := upd_same
    show tSeq _ _ _ _ (upd H2 c (.ins ad.cK dx [("inputs", .ref pin), ("block", .ref a)]))
    generalize upd H2 c (.ins ad.cK dx [("inputs", .ref pin), ("block", .ref a)]) = H3 at S3 e3 ⊢
    refine fun dS nS => ?_
    have S4 : Same H0 (upd H3 dS (.dK [])) := Same.mut S3 (Same.free S3 nS)
    have c4 : (upd H3 dS (.dK [])) c = _ := (upd_ne (ne_of_none e3 nS)).trans e3
    have d4 : (upd H3 dS (.dK [])) dS = some (.dK []) := upd_same
    have z1 := Same.free S3 nS
    generalize upd H3 dS (.dK []) = H4 at S4 c4 d4 ⊢
    refine ⟨_, rfl, c, ad.cK, dx, _, rfl, c4, T.cK, T.nK.2.2.1, by simp, ?_⟩
    have ndc : dS ≠ c := ne_of d4 c4 (by intro q; cases q)
    have S5 := ic H4 [("inputs", .ref pin), ("block", .ref a), ("settings", .ref dS)] S4
    have c5 : (upd H4 c (.ins ad.cK dx [("inputs", .ref pin), ("block", .ref a), ("settings", .ref dS)])) c = some (.ins ad.cK dx [("inputs", .ref pin), ("block", .ref a), ("settings", .ref dS)]) := upd_same
    have d5 : (upd H4 c (.ins ad.cK dx [("inputs", .ref pin), ("block", .ref a), ("settings", .ref dS)])) dS = some (.dK []) := (upd_ne ndc).trans d4
    show tSeq _ _ _ _ (upd H4 c (.ins ad.cK dx [("inputs", .ref pin), ("block", .ref a), ("settings", .ref dS)]))
    generalize upd H4 c (.ins ad.cK dx [("inputs", .ref pin), ("block", .ref a), ("settings", .ref dS)]) = H5 at S5 c5 d5 ⊢
    refine fun dK nK => ?_
    have S6 : Same H0 (upd H5 dK (TO P w dK [])) := Same.mut S5 (Same.free S5 nK)
    have c6 : (upd H5 dK (TO P w dK [])) c = _ := (upd_ne (ne_of_none c5 nK)).trans c5
    have d6 : (upd H5 dK (TO P w dK [])) dS = some (.dK []) := (upd_ne (ne_of_none d5 nK)).trans d5
    have k6 : (upd H5 dK (TO P w dK [])) dK = some (TO P w dK []) := upd_same
    have z2 := Same.free S5 nK
    generalize upd H5 dK (TO P w dK []) = H6 at S6 c6 d6 k6 ⊢
    refine ⟨_, rfl, c, ad.cK, dx, _, rfl, c6, T.cK, T.nK.2.2.2.1, by simp, ?_⟩
    have nkc : dK ≠ c := ne_of k6 c6 (by intro q; cases q)
    have S7 := ic H6 [("inputs", .ref pin), ("block", .ref a), ("settings", .ref dS), ("known", .ref dK)] S6
    have c7 : (upd H6 c (.ins ad.cK dx [("inputs", .ref pin), ("block", .ref a), ("settings", .ref dS), ("known", .ref dK)])) c = some (.ins ad.cK dx [("inputs", .ref pin), ("block", .ref a), ("settings", .ref dS), ("known", .ref dK)]) := upd_same
    have d7 : (upd H6 c (.ins ad.cK dx [("inputs", .ref pin), ("block", .ref a), ("settings", .ref dS), ("known", .ref dK)])) dS = some (.dK []) := (upd_ne ndc).trans d6
    have k7 : (upd H6 c (.ins ad.cK dx [("inputs", .ref pin), ("block", .ref a), ("settings", .ref dS), ("known", .ref dK)])) dK = some (TO P w dK []) := (upd_ne nkc).trans k6
    show Ends.nx _ _ (upd H6 c (.ins ad.cK dx [("inputs", .ref pin), ("block", .ref a), ("settings", .ref dS), ("known", .ref dK)]))
    generalize upd H6 c (.ins ad.cK dx [("inputs", .ref pin), ("block", .ref a), ("settings", .ref dS), ("known", .ref dK)]) = H7 at S7 c7 d7 k7 ⊢
    have hC : ChkAt P w K ⟨H0, c, dx, pin, .ref a, dS, dK, ad.cK, inputs, root⟩ H7 ⟨[], []⟩ [] := ⟨c7, hF.inp, hF.blk, hF.okb, S7, ⟨d7, .nil, List.nodup_nil⟩, ⟨[], ⟨[], k7, .nil⟩, .nil⟩, z1, z2, fun l hl => (List.not_mem_nil hl).elim⟩
    refine ⟨_, rfl, c, _, _, rfl, c7, rfl, _, rfl, t0, fun q nq => ⟨_, rfl, ?_⟩⟩
    have S8 : Same H7 (upd H7 q (.tup [])) := Same.new nq
    have e8 : (upd H7 q (.tup [])) q = some (.tup []) := upd_same
    generalize upd H7 q (.tup []) = H8 at S8 e8
    have hC8 := hC.same S8
    refine ⟨_, ⟨[], []⟩, [], .ref a, root, q, [], .ref pin, some inputs, false, W, 0, inputs.length, rfl, hC8, rfl, hF.blk, SqT.of e8, ⟨_, rfl, Same.seqT hC8.s0 hF.inp⟩, hF.head _ rfl, hF.n, fun f m' e H9 os9 fl fr gr hC9 flw => ?_, fun x e => ?_⟩
    · refine ⟨_, rfl, c, ad.cK, dx, _, rfl, hC9.ins, T.cK, T.nK.2.2.2.2, by simp, ?_⟩
      have i9 := hC9.ins
      obtain ⟨⟨kvs, k1⟩, ⟨es1, k2⟩, k3⟩ := hC9.kinds
      have st : ∀ b ks, SqT K H9 b ks → SqT K (upd H9 c (.ins ad.cK dx [("inputs", .ref pin), ("block", .ref a), ("settings", .ref dS), ("known", .ref dK), ("flow", .ref fl)])) b ks := fun b ks z => sq_upd (fun zs e => by rw [i9] at e; cases e) (fun ob zs e => by rw [i9] at e; cases e) z
      refine kOk f m' e (upd H9 c (.ins ad.cK dx [("inputs", .ref pin), ("block", .ref a), ("settings", .ref dS), ("known", .ref dK), ("flow", .ref fl)])) dS dK fl os9 (Same.mut hC9.s0 n0) upd_same (hC9.set.mono st (upd_ne (ne_of k1 i9 (by intro q; cases q))) fun l hl => ?_) (hC9.kn.mono (upd_ne (ne_of k2 i9 (by intro q; cases q))) st) (flw.at_.mono ?_ st)
      · obtain ⟨ys, k4⟩ := k3 l hl
        exact upd_ne (ne_of k4 i9 (by intro q; cases q))
      · obtain ⟨es2, k5, _⟩ := flw.at_.ents
        exact upd_ne (ne_of k5 i9 (by intro q; cases q))
    · exact kErr x e
end
end K17

namespace K17
open PySem L2 Bx Tk Pm RZ Td
section
variable {P : Program} {w : World} {K : PySem.W.Frag} {mg : Str → Option Value} {base : Heap} {ad : Ad} {cB : Addr}
theorem butI {K : PySem.W.Frag} {l C dx : Addr} {fs : List (Str × V)} {H H' : Hp} {ys : List V} {a : Addr} (hl : H l = some (.ins C dx fs)) (e : But l H H') (h : SqT K H a ys) : SqT K H' a ys := by
  rcases h with (h | ⟨o, h⟩) | h
  · exact .inl (.inl (e _ _ h fun z => by rw [z, hl] at h; cases h))
  · exact .inl (.inr ⟨o, e _ _ h fun z => by rw [z, hl] at h; cases h⟩)
  · exact .inr h
theorem Fit.same {H0 H1 : Hp} {pin : Addr} {bv : V} {inputs : Pm.Names} {root : Bk} {W : List Way} {n : Nat} (h : Fit K H0 pin bv inputs root W n) (S : Same H0 H1) : Fit K H1 pin bv inputs root W n := ⟨Same.seqT S h.inp, h.ok, dp_sm S h.blk, h.okb, h.w, h.wok, h.sz, h.bk, h.n⟩
theorem kvs_names {m : List (Str × List Pa)} {os : List Addr} {H : Hp} (r : Paired (RowR K H) m os) : (kvsOf m os).map (fun kv => kV kv.1) = m.map fun q => V.str q.1 := by
  induction r with
  | nil => rfl
  | @cons p l ps ls h t ih =>
    rw [kvsOf, List.map_cons, List.map_cons, ih]
    rfl
/-- a program that was told -/
structure PrgAt (P : Program) (w : World) (K : PySem.W.Frag) (ad : Ad) (H : Hp) (p dx pin : Addr) (bv : V) (f : Fw) (m : Sta) : Prop where
  ex : ∃ fl dK ts dE, H p = some (.ins ad.cP dx [("inputs", .ref pin), ("block", bv), ("flow", .ref fl), ("known_before", .ref dK), ("settings", .ref ts), ("kept", .ref dE)]) ∧ FwAt P w K H fl f ∧ KnA P w K H dK m.known ∧ SqT K H ts (m.set.map fun q => V.str q.1) ∧ H dE = some (.dK [])
def spProg (P : Program) (w : World) (K : PySem.W.Frag) (ad : Ad) (cB : Addr) (n : Nat) : Sp := fun vs H Q E => ∃ (H0 : Hp) (p dx pin : Addr) (bv : V) (inputs : Pm.Names) (root : Bk) (W : List Way), vs = [.ref p, .ref pin, bv] ∧ Same H0 H ∧ H0 p = none ∧ H p = some (.ins ad.cP dx []) ∧ Fit K H0 pin bv inputs root W n ∧
  (∀ f m', checked inputs root = .ok (f, m') → ∀ H', Same H0 H' → PrgAt P w K ad H' p dx pin bv f m' → Q .non H') ∧ ∀ x, checked inputs root = .error x → OutB H0 K cB E x
theorem ok_Program_init (n l : Nat) {f : Addr} {fd : FuncData} (M : Mk K ad.cP f) (F : C8.Fun K "__init__" "Program.__init__" s_Program_init f fd) (b : Binds K fd ["self", "inputs", "block"] []) (T : Txt K mg ad)
    (K_Check : MakX P w K mg base l "Check" ad.cK (spCheck P w K ad cB n)) : MakX P w K mg base (l + 2) "Program" ad.cP (spProg P w K ad cB n) := by
  refine ⟨f, fd, _, M, fnX F sc_Program_init (fun vs H Q E h => ?_) (fun cdv A outer s H vs Q E hr h => ?_), T.g_Program, b⟩
  · obtain ⟨H0, c, dx, pin, bv, inputs, root, W, rfl, _⟩ := h
    rfl
  · obtain ⟨H0, x, dx, pin, bv, inputs, root, W, rfl, s0, n0, hx, hF, kOk, kErr⟩ := h
    have hu := hu_of hr
    refine ⟨_, (pss_cons (ps_set (i := 3) sc_Program_init.nd rfl (Or.inl rfl) (Pm.pe_mkX K_Check hr (by omega) (takes_of rfl rfl rfl rfl) (by rfl) (pa_cons (pv 1) (pa_cons (pv 2) pa_nil))))
    (pss_cons (ps_fld (pv 0) (pv 1) rfl)
    (pss_cons (ps_fld (pv 0) (pv 2) rfl)
    (pss_cons (ps_fld (pv 0) (pe_fld (pv 3) rfl) rfl)
    (pss_cons (ps_fld (pv 0) (pe_fld (pv 3) rfl) rfl)
    (pss_cons (ps_fld (pv 0) (pe_callTy (call_tuple_dK rfl) (by rfl) T.z_tuple (by decide +kernel) (pa_cons (pe_fld (pv 3) rfl) pa_nil)) rfl)
    (pss_one (ps_fld (pv 0) pe_dnewK rfl)))))))), ?_⟩
    refine ⟨_, rfl, _, rfl, fun y dy ny ndy hne => ?_⟩
    have S2 : Same H (upd (upd H dy (.own y)) y (.ins ad.cK dy [])) := Same.mut (Same.new ndy) ny
    refine ⟨H, y, dy, pin, bv, inputs, root, W, rfl, S2, ny, upd_same, hF.same s0, fun f m' e H3 dS dK fl os S3 h3 hs hk hf => ⟨rfl, ?_⟩, fun z e H3 d t S3 ht hd => kErr z e H3 d t (s0.trans S3) ht hd⟩
    have hx3 := S3 _ _ hx
    have nyx : y ≠ x := fun z => by rw [z, hx] at ny; cases ny
    have S03 := s0.trans S3
    obtain ⟨es1, k5, _⟩ := hf.ents
    have hk0 := hk
    obtain ⟨kk, ⟨es2, k6, _⟩, _⟩ := hk
    have ndx : dS ≠ x := fun z => by have q := hs.d; rw [z, hx3] at q; cases q
    have flx : fl ≠ x := ne_of k5 hx3 (by intro q; cases q)
    have dkx : dK ≠ x := ne_of k6 hx3 (by intro q; cases q)
    have hd := hs.d
    have keep : ∀ {o : HO} {H' : Hp} {u : HO}, H' y = some u → upd H' x o y = some u := fun h => by rw [upd_ne nyx]; exact h
    have keepD : ∀ {o : HO} {H' : Hp} {u : HO}, H' dS = some u → upd H' x o dS = some u := fun h => by rw [upd_ne ndx]; exact h
    refine ⟨_, rfl, _, rfl, x, ad.cP, dx, _, rfl, hx3, T.cP, T.nP.1, by decide, ?_⟩
    refine ⟨_, rfl, _, rfl, x, ad.cP, dx, _, rfl, upd_same, T.cP, T.nP.2.1, (show (1 : Nat) < 1000 by decide), ?_⟩
    refine ⟨_, rfl, y, ad.cK, dy, _, _, rfl, keep (keep h3), T.cK, T.nK.2.2.2.2, rfl, _, rfl, x, ad.cP, dx, _, rfl, upd_same, T.cP, T.nP.2.2.1, (show (2 : Nat) < 1000 by decide), ?_⟩
    refine ⟨_, rfl, y, ad.cK, dy, _, _, rfl, keep (keep (keep h3)), T.cK, T.nK.2.2.2.1, rfl, _, rfl, x, ad.cP, dx, _, rfl, upd_same, T.cP, T.nP.2.2.2.1, (show (3 : Nat) < 1000 by decide), ?_⟩
    refine ⟨_, rfl, y, ad.cK, dy, _, _, rfl, keep (keep (keep (keep h3))), T.cK, T.nK.2.2.1, rfl, dS, _, rfl, keepD (keepD (keepD (keepD hd))), fun t nt => ?_⟩
    rw [kvs_names hs.r] at *
    have St := Same.new (o := HO.tup (m'.set.map fun q => V.str q.1)) nt
    have ntx := ne_of_none upd_same nt
    refine ⟨_, rfl, x, ad.cP, dx, _, rfl, St _ _ upd_same, T.cP, T.nP.2.2.2.2.1, (show (4 : Nat) < 1000 by decide), ?_⟩
    intro u nu
    have Su := Same.new (o := HO.dK []) nu
    have nux := ne_of_none upd_same nu
    refine ⟨_, rfl, x, ad.cP, dx, _, rfl, Su _ _ upd_same, T.cP, T.nP.2.2.2.2.2, (show (5 : Nat) < 1000 by decide), ?_⟩
    have B := ((((((((But.of (l := x) (Same.refl H3)).trans But.upd).trans But.upd).trans But.upd).trans But.upd).trans (But.of St)).trans But.upd).trans (But.of Su)).trans (But.upd (o := .ins ad.cP dx [("inputs", .ref pin), ("block", bv), ("flow", .ref fl), ("known_before", .ref dK), ("settings", .ref t), ("kept", .ref u)]))
    have B2 := ((But.upd (l := x)).trans (But.of Su)).trans (But.upd (o := .ins ad.cP dx [("inputs", .ref pin), ("block", bv), ("flow", .ref fl), ("known_before", .ref dK), ("settings", .ref t), ("kept", .ref u)]))
    have st : ∀ b ks, SqT K H3 b ks → SqT K _ b ks := fun b ks h => butI hx3 B h
    refine kOk f m' e _ (fun a o h => B a o (S03 a o h) fun q => by rw [q, n0] at h; cases h) ⟨fl, dK, t, u, upd_same, hf.mono ((B _ _ k5 flx).trans k5.symm) st, (KnA.mono hk0 ((B _ _ k6 dkx).trans k6.symm) st), SqT.of (B2 t _ upd_same (Ne.symm ntx)), (upd_ne (Ne.symm nux)).trans upd_same⟩
end
end K17

namespace K17
open PySem L2 Bx Tk Pm RZ Td
section
variable {P : Program} {w : World} {K : PySem.W.Frag} {mg : Str → Option Value} {base : Heap} {ad : Ad} {cB : Addr}
theorem takes_by {X : Cx} {W : WX} {Ech : XK} (tk : Takes X W) (hW : ∀ cls d σ H, Ech cls d H → σ.length = X.N.length → W cls d σ H) : Takes X (fun cls d _ H => Ech cls d H) := fun u s' ⟨a, B, sI, pins, σ, H, cls, d, e, I, nb, up, sky, na, os, ag, w⟩ =>
  tk u s' ⟨a, B, sI, pins, σ, H, cls, d, e, I, nb, up, sky, na, os, ag, hW _ _ _ _ w I.len⟩
/-- what _law_refusal asks of the class of the errors -/
structure Rf (K : PySem.W.Frag) (cB : Addr) : Prop where
  e : PySem.W.exmOne K (.ref cB) (.ref cB) = some true
  x : XfC K cB
/-- the answer, as data -/
def refD : Res (Fw × Sta) → PyData
  | .ok _ => .tuple [.str "told"]
  | .error x => .tuple [.tuple (x.1.map fun (n : Nat) => .int (n : Int)), .str x.2]
structure Told (root : Bk) (n : Nat) : Prop where
  ok : OkBk root
  wok : WOk (END :: waysB root)
  sz : 2 * szB root ≤ 880
  n : szB root ≤ n
def spRef (K : PySem.W.Frag) (n : Nat) : Sp := fun vs H Q _ => ∃ (bv : V) (root : Bk), vs = [bv] ∧ BkAt K H bv root ∧ Told root n ∧ ∀ H' u, Same H H' → Dp K H' u (refD (checked ["n"] root)) → Q u H'
theorem dp_nats {H : Hp} {p : List Nat} : DpAll K H (p.map nV) (p.map fun (n : Nat) => .int (n : Int)) := by
  induction p with
  | nil => exact .nil
  | cons a p ih => exact .cons (.int _) ih
theorem ok_l_refusal (n l : Nat) {f : Addr} {fd : FuncData} (F : C8.Def K mg "_law_refusal" s_l_refusal f fd) (b : Binds K fd ["_law_block"] []) (T : Txt K mg ad) (TB : Err2 P w K mg base "BadProgram" "place" "why" cB) (R : Rf K cB)
    (K_Program : MakX P w K mg base l "Program" ad.cP (spProg P w K ad cB n)) : C8.Cal P w K mg base (l + 2) "_law_refusal" (spRef K n) [] := by
  refine C8.cal0 F b .nil sc_l_refusal (fun vs H Q E h => ?_) (fun cdv A outer s H vs Q E hr h => ?_)
  · obtain ⟨bv, root, rfl, _⟩ := h
    rfl
  · obtain ⟨bv, root, rfl, hb, hT, k⟩ := h
    refine ⟨_, pss_cons (ps_try_as (X := (cxOf C8.CX0 P w K mg base N_l_refusal "_law_refusal" (C8.fnScope s_l_refusal) f cdv A outer s H E).nox) (c := .ref cB) (i := 1)
      (tb := fun W D σ H => ∃ Ech : XK, (∀ cls d σ' H', Ech cls d H' → σ'.length = N_l_refusal.length → W cls d σ' H') ∧ tDrop (tMake ad.cP (spProg P w K ad cB n) [] Ech (tCons (tTup (tCons (tC (.str "n")) tNil)) (tCons (tVar 0) tNil))) D σ H)
      rfl rfl sc_l_refusal.nd rfl rfl ⟨rfl, by decide, .inl TB.g⟩ LamX.takes0 (fun W pn xe tk _ => ?_) (fun a oe cls d pn hz hf => (pss_one (ps_ret (pe_tup (pa_cons (pe_xf R.x TB.n1 hz hf (pv 1)) (pa_cons (pe_xf R.x TB.n2 hz hf (pv 1)) pa_nil))))))) (pss_one (ps_ret (pe_tup (pa_cons pe_str pa_nil)))), ?_⟩
    · refine ⟨fun pins s' σ H' D I h' => ?_⟩
      obtain ⟨Ech, hW, h3⟩ := h'
      exact (pss_one (ps_expr (pe_mkX (E := Ech) K_Program hr (by omega) (takes_by tk hW) (by rfl) (pa_cons (pe_tup (pa_cons pe_str pa_nil)) (pa_cons (pv 0) pa_nil))))).run pins s' σ H' D I h3
    · have t1 : (1 : Nat) ≤ sizeLine := by decide
      have t2 : (2 : Nat) ≤ sizeLine := by decide
      refine ⟨fun cls d H' => cls = .ref cB ∧ ∃ dd t x, d = some dd ∧ checked ["n"] root = .error x ∧ Same H H' ∧ SqT K H' t (x.1.map nV) ∧ H' dd = some (.xd [("why", .str x.2), ("place", .ref t)]), ?_, ?_⟩
      · rintro cls d σ' H' ⟨rfl, dd, t, x, rfl, e, S, ht, hd⟩ hlen
        obtain ⟨x0, x1, rfl⟩ : ∃ x0 x1, σ' = [x0, x1] := by
          match σ', hlen with
          | [x0, x1], _ => exact ⟨x0, x1, rfl⟩
        refine ⟨true, R.e, fun _ a na => ?_, fun z => (by cases z)⟩
        refine ⟨_, rfl, rfl, rfl, dd, _, .ref t, rfl, hd, rfl, _, rfl, rfl, rfl, dd, _, .str x.2, rfl, hd, rfl, t2, fun p np => ?_⟩
        refine k _ _ (S.trans (Same.new np)) ?_
        rw [e]
        exact .tup (SqT.of upd_same) (.cons (.tup (Same.seqT (Same.new np) ht) dp_nats) (.cons (.str _) .nil))
      · refine ⟨t1, fun q nq => ⟨_, rfl, fun p dp np ndp hne => ?_⟩⟩
        have S1 : Same H (upd H q (.tup [.str "n"])) := Same.new nq
        have e1 : (upd H q (.tup [.str "n"])) q = some (.tup [.str "n"]) := upd_same
        generalize upd H q (.tup [.str "n"]) = H1 at S1 e1 np ndp
        have sz := hT.sz
        refine ⟨H1, p, dp, q, bv, ["n"], root, END :: waysB root, rfl, Same.mut (Same.new ndp) np, np, upd_same, ⟨SqT.of e1, by decide +kernel, dp_sm S1 hb, hT.ok, fun w z => List.mem_cons_of_mem _ z, hT.wok, by omega, by show 1 + szB root ≤ 890; omega, hT.n⟩, fun f' m' e H' S2 hP => ⟨rfl, ?_⟩, fun x e H' d t S2 ht hd => ⟨rfl, d, t, x, rfl, e, S1.trans S2, ht, hd⟩⟩
        refine ⟨t1, fun pp npp => ?_⟩
        refine k _ _ ((S1.trans S2).trans (Same.new npp)) ?_
        rw [e]
        exact .tup (SqT.of upd_same) (.cons (.str _) .nil)
end
end K17

namespace K17
open PySem L2 Bx Tk Pm RZ Td
theorem lg {n : Nat} (h : n < 2 ^ 64) : n.log2 < 9000 := Nat.lt_trans (PySem.Flt.log2_lt_of (by decide) h) (by decide)
def WellAt (H : Hp) (l : Addr) : Prop := ∃ x y z : Int, H l = some (.lst [.int x, .int y, .int z])
section
variable {P : Program} {w : World} {K : PySem.W.Frag} {mg : Str → Option Value} {base : Heap} {ad : Ad}
def spWell : Sp := fun vs H Q _ => ∃ (c : Int), vs = [.int c] ∧ ∀ p H', H p = none → Same H H' → WellAt H' p → Q (.ref p) H'
theorem ok_l_well {f : Addr} {fd : FuncData} (F : C8.Def K mg "_law_well" s_l_well f fd) (b : Binds K fd ["_law_cell"] []) (T : Txt K mg ad) : C8.Cal P w K mg base 1 "_law_well" spWell [] := by
  refine C8.cal0 F b .nil sc_l_well (fun vs H Q E h => ?_) (fun cdv A outer s H vs Q E hr h => ?_)
  · obtain ⟨c, rfl, _⟩ := h
    rfl
  · obtain ⟨c, rfl, k⟩ := h
    refine ⟨_, (pss_one (ps_ret (pe_lst (pa_cons (pe_op op_mul (pv 0) (pe_callTy call_int1 (by rfl) T.z_int (by decide +kernel) (pa_cons (pe_cmpR op_ge (pv 0) (pe_op op_pow pe_int pe_int) (nomark _)) pa_nil))) (pa_cons (pe_op op_mod (pe_callTy call_int1 (by rfl) T.z_int (by decide +kernel) (pa_cons (pv 0) pa_nil)) pe_int) (pa_cons pe_int pa_nil)))))), ?_⟩
    refine ⟨_, rfl, _, rfl, _, _, rfl, rfl, ⟨by decide, by decide, by decide⟩, _, _, rfl, rfl, .inr ⟨_, rfl, _, _, rfl, rfl, .inr ⟨by split <;> decide, by split <;> decide⟩, _, rfl, .inl ⟨_, rfl, _, _, rfl, rfl, (by show (0 : Int) < 2147483587; decide), (by show 3 ≤ sizeLine; decide), fun p hp => ?_⟩⟩⟩
    exact k p _ hp (Same.new hp) ⟨_, _, _, upd_same⟩
def spDraw : Sp := fun vs H Q _ => ∃ (l : Addr) (b : Int), vs = [.ref l, .int b] ∧ WellAt H l ∧ 0 < b ∧ b.natAbs.log2 < 9000 ∧ ∀ (r : Int) (H' : Hp), 0 ≤ r → r < b → WellAt H' l → But l H H' → Q (.int r) H'
theorem ok_l_draw {f : Addr} {fd : FuncData} (F : C8.Def K mg "_law_draw" s_l_draw f fd) (b : Binds K fd ["_law_well_here", "_law_base"] []) (T : Txt K mg ad) : C8.Cal P w K mg base 1 "_law_draw" spDraw [] := by
  refine C8.cal0 F b .nil sc_l_draw (fun vs H Q E h => ?_) (fun cdv A outer s H vs Q E hr h => ?_)
  · obtain ⟨l, b, rfl, _⟩ := h
    rfl
  · obtain ⟨l, b, rfl, ⟨x, y, z, hW⟩, hb, hlg, k⟩ := h
    refine ⟨_, (pss_cons (ps_if (pt_cmpR op_gt (pe_ix ix_list (pv 0) pe_int (fun _ _ => rfl)) pe_int (nomark _)) (pss_cons (ps_set (i := 2) sc_l_draw.nd rfl (Or.inl rfl) (pe_op op_mod (pe_callTy call_int1 (by rfl) T.z_int (by decide +kernel) (pa_cons (pe_ix ix_list (pv 0) pe_int (fun _ _ => rfl)) pa_nil)) (pv 1)))
    (pss_cons (ps_asg (pe_op op_fdivW (pe_ix ix_list (pv 0) pe_int (fun _ _ => rfl)) (pv 1)) (pg_sub (pv 0) pe_int set_list))
    (pss_one (ps_ret (pv 2))))) pss_nil)
    (pss_cons (ps_asg (pe_op op_add (pe_ix ix_list (pv 0) pe_int (fun _ _ => rfl)) pe_int) (pg_sub (pv 0) pe_int set_list))
    (pss_cons (ps_set (i := 3) sc_l_draw.nd rfl (Or.inl rfl) (pe_op op_mod (pe_callTy call_int1 (by rfl) T.z_int (by decide +kernel) (pa_cons (pe_op op_mul (pe_callTy call_int1 (by rfl) T.z_int (by decide +kernel) (pa_cons (pe_op op_add (pe_op op_add (pe_ix ix_list (pv 0) pe_int (fun _ _ => rfl)) (pe_op op_mul pe_int (pe_ix ix_list (pv 0) pe_int (fun _ _ => rfl)))) pe_int) pa_nil)) pe_int) pa_nil)) pe_int))
    (pss_cons (ps_set (i := 3) sc_l_draw.nd rfl (Or.inl rfl) (pe_op op_mod (pe_callTy call_int1 (by rfl) T.z_int (by decide +kernel) (pa_cons (pe_op op_mul (pv 3) (pe_op op_add (pe_op op_fdiv (pv 3) pe_int) pe_int)) pa_nil)) pe_int))
    (pss_one (ps_ret (pe_op op_mod (pe_op op_fdiv (pe_op op_mod (pe_callTy call_int1 (by rfl) T.z_int (by decide +kernel) (pa_cons (pe_op op_mul (pv 3) (pe_op op_add (pe_op op_fdiv (pv 3) pe_int) pe_int)) pa_nil)) pe_int) pe_int) (pv 1)))))))), ?_⟩
    refine ⟨_, rfl, l, _, _, _, rfl, rfl, SqL.of hW, rfl, _, _, rfl, rfl, _, rfl, ?_⟩
    refine ite2 (fun hx => ?_) (fun hx => ?_)
    · refine ⟨_, rfl, l, _, _, _, rfl, rfl, SqL.of hW, rfl, .inl ⟨_, rfl, _, rfl, _, _, rfl, rfl, hb, ?_⟩⟩
      refine ⟨_, rfl, l, _, _, _, rfl, rfl, SqL.of hW, rfl, _, rfl, _, _, rfl, rfl, ⟨hb, hlg⟩, _, rfl, l, _, _, _, rfl, rfl, hW, rfl, ?_⟩
      refine ⟨_, rfl, ?_⟩
      exact k _ _ (Int.emod_nonneg _ (by omega)) (Int.emod_lt_of_pos _ hb) ⟨_, _, _, upd_same⟩ But.upd
    · refine ⟨_, rfl, l, _, _, _, rfl, rfl, SqL.of hW, rfl, _, _, rfl, rfl, _, rfl, l, _, _, _, rfl, rfl, hW, rfl, ?_⟩
      refine ⟨_, rfl, l, _, _, _, rfl, rfl, SqL.of upd_same, rfl, _, rfl, l, _, _, _, rfl, rfl, SqL.of upd_same, rfl, _, _, rfl, rfl, .inl ⟨by decide, by decide⟩, _, _, rfl, rfl, _, _, rfl, rfl, .inl ⟨_, rfl, _, _, rfl, rfl, .inr ⟨by decide, by decide⟩, .inl ⟨_, rfl, _, _, rfl, rfl, (by show (0 : Int) < 2147483647; decide), ?_⟩⟩⟩
      generalize hn : ((y + 6131 * (z + 1) + 17) * 48271) % 2147483647 = n
      have n0 : 0 ≤ n := by omega
      have n1 : n < 2147483647 := by omega
      refine ⟨_, rfl, _, rfl, _, _, rfl, rfl, ⟨by decide, by decide⟩, _, _, rfl, rfl, _, _, rfl, rfl, .inl ⟨by omega, by omega⟩, .inl ⟨_, rfl, _, _, rfl, rfl, (by show (0 : Int) < 2147483647; decide), ?_⟩⟩
      generalize hm : (n * (n / 1013 + 69621)) % 2147483647 = m
      have m0 : 0 ≤ m := by rw [← hm]; exact Int.emod_nonneg _ (by decide)
      have m1 : m < 2147483647 := by rw [← hm]; exact Int.emod_lt_of_pos _ (by decide)
      refine ⟨_, rfl, _, rfl, _, _, rfl, rfl, ⟨by decide, by decide⟩, _, _, rfl, rfl, _, _, rfl, rfl, .inl ⟨by omega, by omega⟩, .inl ⟨_, rfl, _, _, rfl, rfl, (by show (0 : Int) < 2147483399; decide), _, _, rfl, rfl, ⟨by decide, by decide⟩, _, rfl, _, _, rfl, rfl, hb, ?_⟩⟩
      exact k _ _ (Int.emod_nonneg _ (by omega)) (Int.emod_lt_of_pos _ hb) ⟨_, _, _, upd_same⟩ But.upd
theorem WellAt.same {H H' : Hp} {l : Addr} (S : Same H H') (W : WellAt H l) : WellAt H' l := by
  obtain ⟨x, y, z, hw⟩ := W
  exact ⟨x, y, z, S _ _ hw⟩
theorem WellAt.ne {H : Hp} {l p : Addr} (W : WellAt H l) (h : H p = none) : p ≠ l := fun e => by
  obtain ⟨x, y, z, hw⟩ := W
  rw [e, hw] at h
  cases h
theorem WellAt.upd {H : Hp} {l p : Addr} {o : HO} (W : WellAt H l) (h : p ≠ l) : WellAt (upd H p o) l := by
  obtain ⟨x, y, z, hw⟩ := W
  exact ⟨x, y, z, by rw [upd_ne h.symm]; exact hw⟩
/-- a tuple of data, made anew -/
theorem tup_dp {H : Hp} {xs : List V} {ds : List PyData} {Q : VK} (hd : DpAll K H xs ds) (l : xs.length ≤ sizeLine) (k : ∀ p H', Same H H' → Dp K H' (.ref p) (.tuple ds) → Q (.ref p) H') : xs.length ≤ sizeLine ∧ ∀ p, H p = none → Q (.ref p) (upd H p (.tup xs)) :=
  ⟨l, fun p np => k p _ (Same.new np) (.tup (SqT.of upd_same) (dpA_sm (Same.new np) hd))⟩
end
end K17

/-! data without lists: it stays where all tuples stay -/
namespace Pm
open PySem L2 Bx Tk
inductive NL : PyData → Prop where
  | non : NL .none
  | int (i : Int) : NL (.int i)
  | str (x : Str) : NL (.str x)
  | tup (xs : List PyData) : (∀ d ∈ xs, NL d) → NL (.tuple xs)
theorem NL.strs (ks : List Str) : NL (.tuple (ks.map .str)) := .tup _ fun d hd => by
  obtain ⟨x, _, rfl⟩ := List.mem_map.mp hd
  exact .str x
mutual
def nbS : Sm → Bool
  | .ite _ _ _ b c => nbB b && nbB c
  | .choose b c => nbB b && nbB c
  | .loop _ _ _ _ _ b c => nbB b && nbB c
  | .tryy b hs o a => nbB b && nbH hs && (nbB o && nbB a)
  | .bad _ => false
  | _ => true
def nbB : Bk → Bool
  | .nil => true
  | .cons s r => nbS s && nbB r
def nbH : Hs → Bool
  | .nil => true
  | .cons _ _ b r => nbB b && nbH r
end
theorem nl_cons {d : PyData} {ds : List PyData} (h : NL d) (t : ∀ e ∈ ds, NL e) : ∀ e ∈ d :: ds, NL e := fun e he => by
  rcases List.mem_cons.mp he with z | z
  · rw [z]
    exact h
  · exact t e z
theorem nl_nil : ∀ e ∈ ([] : List PyData), NL e := fun _ h => (List.not_mem_nil h).elim
theorem nl_v (t : Str) (n : Int) : NL (vD t n) := .tup _ (nl_cons (.str _) (nl_cons (.int _) nl_nil))
theorem nl_l (l r : Str) (n : Int) : NL (lD l r n) := .tup _ (nl_cons (.str _) (nl_cons (.str _) (nl_cons (.int _) nl_nil)))
theorem nl_o (o : Option Str) : NL (oD o) := by cases o with
  | none => exact .non
  | some x => exact .str x
mutual
theorem nlS : ∀ s : Sm, nbS s = true → NL (encS s)
  | .set x t n, _ => by rw [encS]; exact .tup _ (nl_cons (.str _) (nl_cons (.str _) (nl_cons (nl_v _ _) nl_nil)))
  | .read x, _ => by rw [encS]; exact .tup _ (nl_cons (.str _) (nl_cons (.str _) nl_nil))
  | .ite l r n b c, h => by
    rw [nbS, Bool.and_eq_true] at h
    rw [encS]
    exact .tup _ (nl_cons (.str _) (nl_cons (nl_l _ _ _) (nl_cons (.tup _ (nlB b h.1)) (nl_cons (.tup _ (nlB c h.2)) nl_nil))))
  | .choose b c, h => by
    rw [nbS, Bool.and_eq_true] at h
    rw [encS]
    exact .tup _ (nl_cons (.str _) (nl_cons (.tup _ (nlB b h.1)) (nl_cons (.tup _ (nlB c h.2)) nl_nil)))
  | .ask l r n k, _ => by rw [encS]; exact .tup _ (nl_cons (.str _) (nl_cons (nl_l _ _ _) (nl_cons (.str _) nl_nil)))
  | .raise k t n, _ => by rw [encS]; exact .tup _ (nl_cons (.str _) (nl_cons (.str _) (nl_cons (nl_v _ _) nl_nil)))
  | .out o, _ => by rw [encS]; exact .tup _ (nl_cons (.str _) (nl_cons (.str _) nl_nil))
  | .leave, _ => by rw [encS]; exact .tup _ (nl_cons (.str _) nl_nil)
  | .again, _ => by rw [encS]; exact .tup _ (nl_cons (.str _) nl_nil)
  | .loop x t n u m b c, h => by
    rw [nbS, Bool.and_eq_true] at h
    rw [encS]
    exact .tup _ (nl_cons (.str _) (nl_cons (.str _) (nl_cons (nl_v _ _) (nl_cons (nl_v _ _) (nl_cons (.tup _ (nlB b h.1)) (nl_cons (.tup _ (nlB c h.2)) nl_nil))))))
  | .tryy b hs o a, h => by
    rw [nbS, Bool.and_eq_true, Bool.and_eq_true, Bool.and_eq_true] at h
    rw [encS]
    exact .tup _ (nl_cons (.str _) (nl_cons (.tup _ (nlB b h.1.1)) (nl_cons (.tup _ (nlH hs h.1.2)) (nl_cons (.tup _ (nlB o h.2.1)) (nl_cons (.tup _ (nlB a h.2.2)) nl_nil)))))
  | .bad d, h => by rw [nbS] at h; cases h
theorem nlB : ∀ b : Bk, nbB b = true → ∀ d ∈ encB b, NL d
  | .nil, _ => by rw [encB]; exact nl_nil
  | .cons s r, h => by
    rw [nbB, Bool.and_eq_true] at h
    rw [encB]
    exact nl_cons (nlS s h.1) (nlB r h.2)
theorem nlH : ∀ hs : Hs, nbH hs = true → ∀ d ∈ encH hs, NL d
  | .nil, _ => by rw [encH]; exact nl_nil
  | .cons ks x b r, h => by
    rw [nbH, Bool.and_eq_true] at h
    rw [encH]
    exact nl_cons (.tup _ (nl_cons (NL.strs ks) (nl_cons (nl_o x) (nl_cons (.tup _ (nlB b h.1)) nl_nil)))) (nlH r h.2)
end
theorem dp_nl {K : PySem.W.Frag} {H H' : Hp} (st : ∀ a xs, SqT K H a xs → SqT K H' a xs) {d : PyData} (n : NL d) : ∀ {v : V}, Dp K H v d → Dp K H' v d := by
  induction n with
  | non => intro v h; cases h; exact .non
  | int i => intro v h; cases h; exact .int _
  | str x => intro v h; cases h; exact .str _
  | tup xs h ih =>
    intro v hv
    obtain ⟨a, ys, rfl, ha, hd⟩ := inv_tup hv
    refine .tup (st _ _ ha) ?_
    clear ha hv
    induction xs generalizing ys with
    | nil =>
      cases inv_nil hd
      exact .nil
    | cons d ds ih2 =>
      obtain ⟨y, r, rfl, h1, h2⟩ := inv_cons hd
      exact .cons (ih d List.mem_cons_self h1) (ih2 (fun e he => h e (List.mem_cons_of_mem _ he)) (fun e he => ih e (List.mem_cons_of_mem _ he)) r h2)
end Pm

/-! a tuple times 0 or 1 -/
namespace Tm
open PySem PySem.Spec PyProof.Rows L2
theorem mul1 (l : Addr) (items : Array Value) (n : Nat) (dd : Option Addr) (sl : Array (Option Value)) (u : Tok) :
    Meets (Builtin.«tuple.__mul__» ⟨[.ref l, .int 1 u], []⟩) (fun _ R s => s.heap.get? l = some { cls := .type "tuple", dict := dd, data := .seq items n, slots := sl } ∧
      R (.ok (.ret (Value.ref l))) s) :=
  .of_wp fun prog w A R s h => by
    obtain ⟨hp, g, d, tk, os⟩ := s
    obtain ⟨hl, h⟩ := h
    have f1 := AutoSeq1.idx_int
    wp_walk using wpAny_loadPart' hl
    exact ⟨_, rfl, h⟩
theorem mul0 (l : Addr) (items : Array Value) (n : Nat) (dd : Option Addr) (sl : Array (Option Value)) (u : Tok) (c1 : items.isEmpty = false) :
    Meets (Builtin.«tuple.__mul__» ⟨[.ref l, .int 0 u], []⟩) (fun _ R s => s.heap.get? l = some { cls := .type "tuple", dict := dd, data := .seq items n, slots := sl } ∧
      R (.ok (.ret (Value.ref s.heap.objs.size))) { s with heap := s.heap.push { cls := Value.type "tuple", data := Data.seq #[] }, toks := s.toks }) :=
  .of_wp fun prog w A R s h => by
    obtain ⟨hp, g, d, tk, os⟩ := s
    obtain ⟨hl, h⟩ := h
    have f1 := AutoSeq1.idx_int
    wp_walk using wpAny_loadPart' hl
    repeat (first
      | (refine wpAny_ite_false (decide_eq_false (by rw [c1]; simp)) ?_; wp_walk using wpAny_loadPart' hl)
      | (refine wpAny_ite_true (decide_eq_true (by rfl)) ?_; wp_walk using wpAny_loadPart' hl))
    exact ⟨_, rfl, h⟩
/-- a tuple (not empty) times 0, 1 or more -/
def rRepU (K : PySem.W.Frag) : R2 := fun x y H Q => ∃ (l : Addr) (k : Nat) (xs : List V), x = .ref l ∧ y = .int (k : Int) ∧ SqT K H l xs ∧ xs ≠ [] ∧ k ≤ 1000 ∧ xs.length ≤ 1000 ∧
  (k = 1 → Q (.ref l) H) ∧ (k ≠ 1 → ∀ p, H p = none → Q (.ref p) (upd H p (.tup (List.replicate k xs).flatten)))
section
variable {X : Cx}
theorem op_repU : OpR X (binaryOp .Mult) (rRepU X.K) := by
  intro pins s σ H x y v u Q I rx ry h
  obtain ⟨l, k, xs, rfl, rfl, hT, hne, h2, hz, q1, q2⟩ := h
  have k0 : ∀ i : Int, ∃ e : (i = 0 ∨ i = 1 ∨ (2 : Int) ≤ i ∨ i < 0), True := fun i => ⟨by omega, trivial⟩
  by_cases hk : 2 ≤ k
  · refine op_repT pins s σ H _ _ v u Q I rx ry ⟨l, k, xs, rfl, rfl, hT, hne, by omega, by omega, hz, fun p np => ?_⟩
    have := q2 (by omega) p np
    rwa [Int.toNat_natCast]
  · cases rx
    obtain ⟨t, rfl⟩ := ry
    obtain ⟨its, r, ⟨⟨cls, dd, data, sl⟩, ho, hc, n, hd⟩, hs⟩ := I.tuple hT
    simp only at hc hd
    subst hc hd
    have hle : its.length = xs.length := r.length.symm
    have hi : its.toArray.isEmpty = false := by
      cases its with
      | nil => exact absurd (List.eq_nil_of_length_eq_zero hle.symm) hne
      | cons a b => rfl
    rcases (by omega : k = 0 ∨ k = 1) with e | e
    · subst e
      refine wpAny_binaryOp_repeat_ref (T := "tuple") (U := "int") (by decide) ⟨_, ho, rfl⟩ (fun s' => typeIs_int s' _ t) noFill_tuple_mul F.fills_int_mul F.slot_int_rmul repeat_tuple F.slot_int_index.lookup
        (call_meets F.slot_int_rmul (typeIs_int s _ t) F.entry_int_rmul (F.args_int_rmul_2 _ _) (int_rmul_tuple _ t l its.toArray n dd sl)
          ⟨ho, rfl, ⟨_, ho, rfl⟩, call_meets F.slot_tuple_mul ⟨_, ho, rfl⟩ F.entry_tuple_mul (F.args_tuple_mul_2 _ _) (mul0 l its.toArray n dd sl t hi) ⟨ho, ?_⟩⟩)
      refine ⟨.ref s.heap.objs.size, _, I.laid (t' := s.toks) (o := .tup []) (fun b ob q => Heap.get?_push_of_some _ q) (Nat.le_refl _) ?_, rfl, q2 (by decide) _ (I.hok.fresh (Nat.le_refl _))⟩
      exact ⟨Nat.zero_le _, _, .nil, IsTup.new _ _⟩
    · subst e
      refine wpAny_binaryOp_repeat_ref (T := "tuple") (U := "int") (by decide) ⟨_, ho, rfl⟩ (fun s' => typeIs_int s' _ t) noFill_tuple_mul F.fills_int_mul F.slot_int_rmul repeat_tuple F.slot_int_index.lookup
        (call_meets F.slot_int_rmul (typeIs_int s _ t) F.entry_int_rmul (F.args_int_rmul_2 _ _) (int_rmul_tuple _ t l its.toArray n dd sl)
          ⟨ho, rfl, ⟨_, ho, rfl⟩, call_meets F.slot_tuple_mul ⟨_, ho, rfl⟩ F.entry_tuple_mul (F.args_tuple_mul_2 _ _) (mul1 l its.toArray n dd sl t) ⟨ho, ?_⟩⟩)
      exact ⟨.ref l, _, I, (show RelV (.ref l) (.ref l) from rfl), q1 rfl⟩
end
end Tm

/-! readings that make data: a new value holds d, whatever tuples stay -/
namespace Mkk
open PySem L2 Bx Tk Pm RZ
section
variable {K : PySem.W.Frag} {σ : L2.St} {H H' H'' : Hp}
theorem dpAll_app {K : PySem.W.Frag} {H : Hp} : ∀ {xs ys : List V} {ds es : List PyData}, DpAll K H xs ds → DpAll K H ys es → DpAll K H (xs ++ ys) (ds ++ es)
  | _, _, [], _, h, h2 => by cases inv_nil h; exact h2
  | _, _, d :: ds, _, h, h2 => by
    obtain ⟨x, r, rfl, h3, h4⟩ := inv_cons h
    exact .cons h3 (dpAll_app h4 h2)
/-- tuples stay -/
def Tups (K : PySem.W.Frag) (H H' : Hp) : Prop := ∀ b ks, SqT K H b ks → SqT K H' b ks
theorem Tups.refl (H : Hp) : Tups K H H := fun _ _ h => h
theorem Tups.trans (a : Tups K H H') (b : Tups K H' H'') : Tups K H H'' := fun c ks h => b c ks (a c ks h)
theorem Tups.of (S : Same H H') : Tups K H H' := fun _ _ h => Same.seqT S h
theorem Tups.dp {v : V} {d : PyData} (T : Tups K H H') (n : NL d) (h : Dp K H v d) : Dp K H' v d := dp_nl T n h
theorem Tups.dpA (T : Tups K H H') : ∀ {ds : List PyData} {us : List V}, (∀ d ∈ ds, NL d) → DpAll K H us ds → DpAll K H' us ds
  | [], _, _, h => by cases inv_nil h; exact .nil
  | d :: ds, _, n, h => by
    obtain ⟨x, r, rfl, h1, h2⟩ := inv_cons h
    exact .cons (T.dp (n d List.mem_cons_self) h1) (Tups.dpA T (fun e he => n e (List.mem_cons_of_mem _ he)) h2)
theorem Tups.set {l : Addr} {us vs : List V} (h : H l = some (.lst us)) : Tups K H (upd H l (.lst vs)) := fun b ks z => sq_upd (fun zs e => by rw [h] at e; cases e) (fun ob zs e => by rw [h] at e; cases e) z
/-- data that is known, and has no list in it -/
structure Fx (K : PySem.W.Frag) (H : Hp) (v : V) (d : PyData) : Prop where
  p : Dp K H v d
  n : NL d
theorem Fx.up {v : V} {d : PyData} (h : Fx K H v d) (T : Tups K H H') : Fx K H' v d := ⟨T.dp h.n h.p, h.n⟩
theorem Fx.same {v : V} {d : PyData} (h : Fx K H v d) (S : Same H H') : Fx K H' v d := h.up (.of S)
def Mk (K : PySem.W.Frag) (t : TE) (σ : L2.St) (H : Hp) (d : PyData) : Prop := NL d ∧ ∀ H1, Tups K H H1 → ∀ Q : VK, (∀ H2 v, Same H1 H2 → Dp K H2 v d → Q v H2) → t σ H1 Q
def MkA (K : PySem.W.Frag) (t : TA) (σ : L2.St) (H : Hp) (ds : List PyData) : Prop := (∀ d ∈ ds, NL d) ∧ ∀ H1, Tups K H H1 → ∀ Q : List V → Hp → Prop, (∀ H2 vs, Same H1 H2 → DpAll K H2 vs ds → Q vs H2) → t σ H1 Q
theorem mk_str {x : Str} : Mk K (tC (.str x)) σ H (.str x) := ⟨.str x, fun H1 _ Q k => k H1 _ (Same.refl H1) (.str x)⟩
theorem mk_int {n : Int} : Mk K (tC (.int n)) σ H (.int n) := ⟨.int n, fun H1 _ Q k => k H1 _ (Same.refl H1) (.int n)⟩
theorem mk_non : Mk K (tC .non) σ H .none := ⟨.non, fun H1 _ Q k => k H1 _ (Same.refl H1) .non⟩
theorem mk_var {i : Nat} {v : V} {d : PyData} (h : σ[i]? = some (some v)) (f : Fx K H v d) : Mk K (tVar i) σ H d := ⟨f.n, fun H1 T Q k => ⟨v, h, k H1 v (Same.refl H1) (T.dp f.n f.p)⟩⟩
theorem mk_nil : MkA K tNil σ H [] := ⟨fun d h => (by cases h), fun H1 _ Q k => k H1 [] (Same.refl H1) .nil⟩
theorem mk_cons {ta : TE} {tr : TA} {d : PyData} {ds : List PyData} (a : Mk K ta σ H d) (r : MkA K tr σ H ds) : MkA K (tCons ta tr) σ H (d :: ds) :=
  ⟨fun e h => (List.mem_cons.mp h).elim (fun z => z ▸ a.1) (r.1 e), fun H1 T Q k => a.2 H1 T _ fun H2 v S2 h2 => r.2 H2 (T.trans (.of S2)) _ fun H3 vs S3 h3 => k H3 (v :: vs) (S2.trans S3) (.cons (dp_sm S3 h2) h3)⟩
theorem mk_tup {t : TA} {ds : List PyData} (a : MkA K t σ H ds) (l : Nat.ble ds.length 1000 = true := by rfl) : Mk K (tTup t) σ H (.tuple ds) :=
  ⟨.tup ds a.1, fun H1 T Q k => a.2 H1 T _ fun H2 vs S2 h2 => ⟨szl (by rw [dpAll_len h2]; have := Nat.le_of_ble_eq_true l; omega), fun p np => k _ _ (S2.trans (Same.new np)) (.tup (SqT.of upd_same) (dpA_sm (Same.new np) h2))⟩⟩
theorem mk_cat {ta tb : TE} {xs ys : List PyData} (a : Mk K ta σ H (.tuple xs)) (b : Mk K tb σ H (.tuple ys)) (l : Nat.ble (xs.length + ys.length) 1000 = true := by rfl) : Mk K (tOp (rCatA K) ta tb) σ H (.tuple (xs ++ ys)) := by
  refine ⟨.tup _ fun d h => ?_, fun H1 T Q k => a.2 H1 T _ fun H2 v S2 h2 => b.2 H2 (T.trans (.of S2)) _ fun H3 u S3 h3 => ?_⟩
  · rcases List.mem_append.mp h with z | z
    · cases a.1 with
      | tup _ n => exact n d z
    · cases b.1 with
      | tup _ n => exact n d z
  · obtain ⟨p, us, rfl, hp, hus⟩ := inv_tup (dp_sm S3 h2)
    obtain ⟨q, vs, rfl, hq, hvs⟩ := inv_tup h3
    exact catA_read hp hq (szl (by rw [dpAll_len hus, dpAll_len hvs]; have := Nat.le_of_ble_eq_true l; omega)) fun c H4 S4 h4 => k _ _ (S2.trans (S3.trans S4)) (.tup h4 (dpAll_app (dpA_sm S4 hus) (dpA_sm S4 hvs)))
theorem mk_i0 {g : Int → Int → V} {gi : Int → Int → Int} {ta tb : TE} {x y : Int} (e : ∀ x y, g x y = .int (gi x y)) (a : Mk K ta σ H (.int x)) (b : Mk K tb σ H (.int y)) : Mk K (tOp (rI0 g) ta tb) σ H (.int (gi x y)) :=
  ⟨.int _, fun H1 T Q k => a.2 H1 T _ fun H2 v S2 h2 => b.2 H2 (T.trans (.of S2)) _ fun H3 u S3 h3 => by
    cases inv_int h2
    cases inv_int h3
    refine ⟨x, y, rfl, rfl, ?_⟩
    rw [e]
    exact k H3 _ (S2.trans S3) (.int _)⟩
theorem mk_add {ta tb : TE} {x y : Int} (a : Mk K ta σ H (.int x)) (b : Mk K tb σ H (.int y)) : Mk K (tOp (rI0 fun i j => .int (i + j)) ta tb) σ H (.int (x + y)) := mk_i0 (gi := fun x y => x + y) (fun _ _ => rfl) a b
theorem mk_sub {ta tb : TE} {x y : Int} (a : Mk K ta σ H (.int x)) (b : Mk K tb σ H (.int y)) : Mk K (tOp (rI0 fun i j => .int (i - j)) ta tb) σ H (.int (x - y)) := mk_i0 (gi := fun x y => x - y) (fun _ _ => rfl) a b
theorem mk_ix {ta : TE} {ds : List PyData} {i : Nat} {d : PyData} (a : Mk K ta σ H (.tuple ds)) (h : ds[i]? = some d) : Mk K (tOp (rIxT K) ta (tC (.int (i : Int)))) σ H d := by
  refine ⟨?_, fun H1 T Q k => a.2 H1 T _ fun H2 v S2 h2 => ?_⟩
  · cases a.1 with
    | tup _ n => exact n d (List.mem_of_getElem? h)
  · obtain ⟨p, us, rfl, hp, hus⟩ := inv_tup h2
    obtain ⟨u, hu, hd⟩ := dpAll_get hus h
    exact ⟨p, us, _, u, rfl, rfl, hp, atI_nat hu, k H2 u S2 hd⟩
structure FxA (K : PySem.W.Frag) (H : Hp) (vs : List V) (ds : List PyData) : Prop where
  p : DpAll K H vs ds
  n : ∀ d ∈ ds, NL d
theorem Mk.use {t : TE} {d : PyData} {Q : VK} (m : Mk K t σ H d) (k : ∀ H2 v, Same H H2 → Fx K H2 v d → Q v H2) : t σ H Q := m.2 H (.refl H) Q fun H2 v S h => k H2 v S ⟨h, m.1⟩
theorem MkA.use {t : TA} {ds : List PyData} {Q : List V → Hp → Prop} (m : MkA K t σ H ds) (k : ∀ H2 vs, Same H H2 → FxA K H2 vs ds → Q vs H2) : t σ H Q := m.2 H (.refl H) Q fun H2 v S h => k H2 v S ⟨h, m.1⟩
theorem fx_tup {v : V} {ds : List PyData} (f : Fx K H v (.tuple ds)) : ∃ a xs, v = .ref a ∧ SqT K H a xs ∧ FxA K H xs ds := by
  obtain ⟨a, xs, e, h1, h2⟩ := inv_tup f.p
  refine ⟨a, xs, e, h1, h2, ?_⟩
  cases f.n with
  | tup _ n => exact n
theorem fxa_cons {vs : List V} {d : PyData} {ds : List PyData} (f : FxA K H vs (d :: ds)) : ∃ x r, vs = x :: r ∧ Fx K H x d ∧ FxA K H r ds := by
  obtain ⟨x, r, e, h1, h2⟩ := inv_cons f.p
  exact ⟨x, r, e, ⟨h1, f.n d List.mem_cons_self⟩, h2, fun e he => f.n e (List.mem_cons_of_mem _ he)⟩
theorem fxa_nil {vs : List V} (f : FxA K H vs []) : vs = [] := inv_nil f.p
theorem same_none {p : Addr} (S : Same H H') (n : H' p = none) : H p = none := by
  cases e : H p with
  | none => rfl
  | some o => rw [S _ _ e] at n; cases n
/-! lists of data -/
structure LsAt (K : PySem.W.Frag) (H : Hp) (l : Addr) (ds : List PyData) : Prop where
  ex : ∃ us, H l = some (.lst us) ∧ DpAll K H us ds
  n : ∀ d ∈ ds, NL d
theorem LsAt.up {l : Addr} {ds : List PyData} (h : LsAt K H l ds) (T : Tups K H H') (e : H' l = H l) : LsAt K H' l ds := by
  obtain ⟨us, h1, h2⟩ := h.ex
  exact ⟨⟨us, e.trans h1, T.dpA h.n h2⟩, h.n⟩
theorem LsAt.same {l : Addr} {ds : List PyData} (h : LsAt K H l ds) (S : Same H H') : LsAt K H' l ds := by
  obtain ⟨us, h1, h2⟩ := h.ex
  exact ⟨⟨us, S _ _ h1, dpA_sm S h2⟩, h.n⟩
theorem LsAt.ne {l p : Addr} {ds : List PyData} (h : LsAt K H l ds) (n : H p = none) : p ≠ l := fun e => by
  obtain ⟨us, h1, _⟩ := h.ex
  rw [e, h1] at n
  cases n
theorem nl_app {xs ys : List PyData} (a : ∀ d ∈ xs, NL d) (b : ∀ d ∈ ys, NL d) : ∀ d ∈ xs ++ ys, NL d := fun d h => (List.mem_append.mp h).elim (a d) (b d)
/-- [a, b, ..] -/
theorem lst_mk {t : TA} {ds : List PyData} {Q : VK} (a : MkA K t σ H ds) (l : ds.length ≤ 1000) (k : ∀ H' p, Same H H' → H p = none → LsAt K H' p ds → Q (.ref p) H') : tLst t σ H Q :=
  a.2 H (.refl H) _ fun H2 vs S2 h2 => ⟨szl (by rw [dpAll_len h2]; omega), fun p np => k _ _ (S2.trans (Same.new np)) (by
    cases e : H p with
    | none => rfl
    | some o => rw [S2 _ _ e] at np; cases np) ⟨⟨vs, upd_same, dpA_sm (Same.new np) h2⟩, a.1⟩⟩
/-- l.append(x) -/
theorem app_mk {te : TE} {i : Nat} {l : Addr} {ds : List PyData} {d : PyData} {Q : VK} (hi : σ[i]? = some (some (.ref l))) (L : LsAt K H l ds) (hl : ds.length < 1000) (m : Mk K te σ H d) (k : ∀ H', Tups K H H' → But l H H' → LsAt K H' l (ds ++ [d]) → Q .non H') :
    tBM K "list" rAppend (tVar i) (tCons te tNil) σ H Q := by
  obtain ⟨us, h1, h2⟩ := L.ex
  refine ⟨_, hi, .inl ⟨rfl, us, SqL.of h1⟩, m.2 H (.refl H) _ fun H2 v S2 hv => ?_⟩
  have h3 := S2 _ _ h1
  refine ⟨l, us, v, rfl, rfl, h3, by rw [dpAll_len h2]; exact Nat.lt_of_lt_of_le hl (by decide), ?_⟩
  have T : Tups K H2 (upd H2 l (.lst (us ++ [v]))) := Tups.set h3
  exact k _ ((Tups.of S2).trans T) (fun a o ha n => by rw [upd_ne n]; exact S2 a o ha) ⟨⟨_, upd_same, T.dpA (nl_app L.n (nl_cons m.1 nl_nil)) (dpAll_app (dpA_sm S2 h2) (.cons hv .nil))⟩, nl_app L.n (nl_cons m.1 nl_nil)⟩
/-- l + [a, ..] -/
theorem cat_mk {t : TA} {i : Nat} {l : Addr} {ds es : List PyData} {Q : VK} (hi : σ[i]? = some (some (.ref l))) (L : LsAt K H l ds) (a : MkA K t σ H es) (hl : ds.length + es.length ≤ 1000) (k : ∀ H' p, Same H H' → H p = none → LsAt K H' p (ds ++ es) → Q (.ref p) H') :
    tOp rCat (tVar i) (tLst t) σ H Q := by
  refine ⟨_, hi, lst_mk a (by omega) fun H2 b S2 nb hb => ?_⟩
  obtain ⟨us, h1, h2⟩ := L.ex
  obtain ⟨vs, h3, h4⟩ := hb.ex
  refine ⟨l, b, us, vs, rfl, rfl, S2 _ _ h1, h3, szl (by rw [dpAll_len h2, dpAll_len h4]; omega), fun p np => ?_⟩
  have S3 : Same H2 (upd H2 p (.lst (us ++ vs))) := Same.new np
  refine k _ p (S2.trans S3) ?_ ⟨⟨_, upd_same, dpA_sm S3 (dpAll_app (dpA_sm S2 h2) h4)⟩, nl_app L.n a.1⟩
  cases e : H p with
  | none => rfl
  | some o => rw [S2 _ _ e] at np; cases np
theorem Mk.up {t : TE} {d : PyData} (m : Mk K t σ H d) (T : Tups K H H') : Mk K t σ H' d := ⟨m.1, fun H1 T1 => m.2 H1 (T.trans T1)⟩
theorem MkA.up {t : TA} {ds : List PyData} (m : MkA K t σ H ds) (T : Tups K H H') : MkA K t σ H' ds := ⟨m.1, fun H1 T1 => m.2 H1 (T.trans T1)⟩
theorem same_but {l : Addr} {H1 H2 : Hp} (n : H l = none) (S : Same H H1) (b : But l H1 H2) : Same H H2 := fun a o h => b a o (S a o h) fun e => by
  rw [e, n] at h
  cases h
/-- [te for x in l]: what the list holds then -/
theorem comp_mk {te : TE} {j : Nat} {l : Addr} {ds : List PyData} {f : PyData → PyData} {Q : Addr → Hp → Prop} {vs : List Nat} (L : LsAt K H l ds) (hl : ds.length ≤ 1000) (hj : ∀ x, wipe ((wipe σ vs).set j (some x)) vs = wipe σ vs)
    (m : ∀ d ∈ ds, ∀ x H1, Same H H1 → Fx K H1 x d → Mk K te ((wipe σ vs).set j (some x)) H1 (f d)) (k : ∀ H' p, Same H H' → H p = none → LsAt K H' p (ds.map f) → Q p H') :
    ∀ D, H D = none → ∃ W : Nat → Nat → Hp → Prop, (∃ m, W 0 m (upd H D (.lst []))) ∧ ∀ i m H, W i m H →
      ((Itl K l).stop i H ∧ Q D H) ∨ ((Itl K l).go i H ∧ ∃ Nx : Hp → Prop, (∀ H', Nx H' → ∃ m', m' < m ∧ W (i + 1) m' H') ∧ ∀ x H', (Itl K l).yld i H x H' → gName j x (wipe σ vs) H' fun σ2 H2 => wipe σ2 vs = wipe σ vs ∧ tYes σ2 H2 fun b H3 =>
        if b = true then te σ2 H3 fun y H4 => ∃ acc, H4 D = some (.lst acc) ∧ acc.length < sizeLine ∧ Nx (upd H4 D (.lst (acc ++ [y]))) else Nx H3) := by
  intro D nD
  obtain ⟨us, hu, hd⟩ := L.ex
  have lu := dpAll_len hd
  refine lc_list (xs := us) (fun i H' => Same H H' ∧ LsAt K H' D ((ds.take i).map f)) ⟨Same.new nD, ⟨[], upd_same, .nil⟩, fun d h => by simp at h⟩ (fun i H' _ h => SqL.of (h.1 _ _ hu)) ?_ ?_
  · rintro i x H1 hx ⟨S1, L1⟩
    have hi : i < ds.length := by
      rw [← lu]
      exact (List.getElem?_eq_some_iff.mp hx).1
    have hq := List.getElem?_eq_getElem hi
    obtain ⟨v, hv1, hv2⟩ := dpAll_get hd hq
    rw [hv1] at hx
    cases hx
    have hm := List.getElem_mem hi
    refine ⟨hj _, ?_⟩
    show te _ H1 _
    have M := m _ hm x H1 S1 ⟨dp_sm S1 hv2, L.n _ hm⟩
    refine M.2 H1 (.refl H1) _ fun H2 y S2 hy => ?_
    obtain ⟨acc, ha, hacc⟩ := L1.ex
    refine ⟨acc, S2 _ _ ha, ?_, ?_⟩
    · rw [dpAll_len hacc, List.length_map, List.length_take]
      exact Nat.lt_of_le_of_lt (by omega) (show 1000 < sizeLine by decide)
    · have nd : D ≠ l := L.ne nD
      have T : Tups K H2 (upd H2 D (.lst (acc ++ [y]))) := Tups.set (S2 _ _ ha)
      refine ⟨fun a o h => ?_, ?_⟩
      · rw [upd_ne (fun e => by rw [e, nD] at h; cases h)]
        exact S2 _ _ (S1 _ _ h)
      · have e : (ds.take (i + 1)).map f = (ds.take i).map f ++ [f ds[i]] := by
          rw [List.take_succ, hq, List.map_append]
          rfl
        rw [e]
        have n1 := nl_app L1.n (nl_cons M.1 nl_nil)
        exact ⟨⟨_, upd_same, T.dpA n1 (dpAll_app (dpA_sm S2 hacc) (.cons hy .nil))⟩, n1⟩
  · rintro H1 ⟨S1, L1⟩
    rw [lu, List.take_length] at L1
    exact k H1 D S1 nD L1
end
end Mkk
namespace Mkk
open PySem L2
theorem s_asg {te : TE} {g : TG} {u : TS} {D : Ends} {σ : L2.St} {H : Hp} (h : te σ H fun x H1 => g x σ H1 (u D)) : tSeq (tAsg te g) u D σ H := h
theorem s_drop {te : TE} {u : TS} {D : Ends} {σ : L2.St} {H : Hp} (h : te σ H fun _ H1 => u D σ H1) : tSeq (tDrop te) u D σ H := h
theorem s_par {i j : Nat} {ta : TA} {u : TS} {D : Ends} {σ : L2.St} {H : Hp} (h : ta σ H fun vs H1 => ∃ v w, vs = [v, w] ∧ u D ((σ.set i (some v)).set j (some w)) H1) : tSeq (tPar i j ta) u D σ H := h
theorem s_par3 {i j l : Nat} {ta : TA} {u : TS} {D : Ends} {σ : L2.St} {H : Hp} (h : ta σ H fun vs H1 => ∃ x v w, vs = [x, v, w] ∧ u D (((σ.set i (some x)).set j (some v)).set l (some w)) H1) : tSeq (tPar3 i j l ta) u D σ H := h
theorem s_ret {te : TE} {D : Ends} {σ : L2.St} {H : Hp} (h : te σ H D.rt) : tRet te D σ H := h
end Mkk
namespace Mkk
open PySem L2 Bx Tk Pm RZ
section
variable {K : PySem.W.Frag} {σ : L2.St} {H H' H'' : Hp}
theorem ble_of {a b : Nat} (h : a ≤ b) : Nat.ble a b = true := Nat.ble_eq_true_of_le h
/-- t * k, t not empty -/
theorem mk_rep {ta : TE} {i k : Nat} {ds : List PyData} (a : Mk K ta σ H (.tuple ds)) (hk : σ[i]? = some (some (.int (k : Int)))) (hne : ds ≠ []) (h1 : k ≤ 1000) (h2 : ds.length ≤ 1000) : Mk K (tOp (Tm.rRepU K) ta (tVar i)) σ H (.tuple (List.replicate k ds).flatten) := by
  have n1 : ∀ d ∈ ds, NL d := by
    cases a.1 with
    | tup _ n => exact n
  refine ⟨.tup _ fun d h => ?_, fun H1 T Q q => a.2 H1 T _ fun H2 v S2 h => ?_⟩
  · obtain ⟨l, hl, hd⟩ := List.mem_flatten.mp h
    rw [(List.mem_replicate.mp hl).2] at hd
    exact n1 d hd
  · obtain ⟨p, us, rfl, hp, hus⟩ := inv_tup h
    have lu := dpAll_len hus
    have hrep : ∀ m : Nat, DpAll K H2 (List.replicate m us).flatten (List.replicate m ds).flatten := fun m => by
      induction m with
      | zero => exact .nil
      | succ m ih => rw [List.replicate_succ, List.replicate_succ, List.flatten_cons, List.flatten_cons]; exact dpAll_app hus ih
    refine ⟨_, hk, p, k, us, rfl, rfl, hp, fun e => hne (by rw [e] at lu; exact List.eq_nil_of_length_eq_zero lu.symm), h1, by omega, fun e => ?_, fun _ c nc => ?_⟩
    · subst e
      refine q H2 _ S2 (.tup hp ?_)
      have e1 : (List.replicate 1 ds).flatten = ds := by simp
      rw [e1]
      exact hus
    · have Sc := Same.new (o := .tup (List.replicate k us).flatten) nc
      exact q _ _ (S2.trans Sc) (.tup (SqT.of upd_same) (dpA_sm Sc (hrep k)))
/-- t[1:], t not empty -/
theorem mk_sl1 {ta : TE} {d : PyData} {ds : List PyData} (a : Mk K ta σ H (.tuple (d :: ds))) : Mk K (tSl (rSlA K) ta (tPart (tC (.int 1))) tNoPart) σ H (.tuple ds) := by
  have n1 : ∀ e ∈ d :: ds, NL e := by
    cases a.1 with
    | tup _ n => exact n
  refine ⟨.tup _ fun e he => n1 e (List.mem_cons_of_mem _ he), fun H1 T Q q => a.2 H1 T _ fun H2 v S2 h => ?_⟩
  obtain ⟨p, us, rfl, hp, hus⟩ := inv_tup h
  obtain ⟨x, r, rfl, hx, hr⟩ := inv_cons hus
  have e0 : HT.sIx (x :: r).length 0 (some 1) = 1 := by
    have := HT.sIx_nat (x :: r).length 0 1
    rw [List.length_cons] at this ⊢
    exact this.trans (by omega)
  have ec : cutV (x :: r) (some 1) none = r := by
    unfold cutV
    rw [e0, HT.sIx_none]
    simp
  refine ⟨1, rfl, p, x :: r, rfl, hp, fun e => ?_, fun _ c nc => ?_⟩
  · rw [e0] at e
    exact absurd e.1 (by decide)
  · rw [ec]
    have Sc := Same.new (o := .tup r) nc
    exact q _ _ (S2.trans Sc) (.tup (SqT.of upd_same) (dpA_sm Sc hr))
/-- x if b else y, b a bool of the scope -/
theorem mk_if {i : Nat} {b : Bool} {ta tb : TE} {x y : PyData} (h : σ[i]? = some (some (.bl b))) (a : b = true → Mk K ta σ H x) (c : b = false → Mk K tb σ H y) : Mk K (tIf (fun σ H Q => tVar i σ H fun x H' => ∃ k, TruV K x H' k ∧ Q k H') ta tb) σ H (if b = true then x else y) := by
  cases b with
  | true => exact ⟨(a rfl).1, fun H1 T Q q => ⟨_, h, true, rfl, iteT ((a rfl).2 H1 T Q q)⟩⟩
  | false => exact ⟨(c rfl).1, fun H1 T Q q => ⟨_, h, false, rfl, iteF ((c rfl).2 H1 T Q q)⟩⟩
end
section
variable {X : Cx}
theorem catAK (K : PySem.W.Frag) (e : X.K = K := by rfl) : OpR X (binaryOp .Add) (rCatA K) := by
  subst e
  exact op_catA
end
end Mkk

namespace K17
open PySem L2 Bx Tk Pm RZ Td Mkk
section
variable {P : Program} {w : World} {K : PySem.W.Frag} {mg : Str → Option Value} {base : Heap} {ad : Ad}
def blkD (b : Bk) : PyData := .tuple (encB b)
def pD (p : Pa) : PyData := .tuple (p.map fun (n : Nat) => .int (n : Int))
def rowD (r : Bk × Pa) : PyData := .tuple [blkD r.1, pD r.2]
theorem row_eq {H : Hp} {p : Addr} {xs ys : List PyData} (e : ys = xs) (h : LsAt K H p xs) : LsAt K H p ys := by rw [e]; exact h
def unknownM (x : Str) (i : Str) (use : Sm) : List (Bk × Pa) := [((.cons (.choose (.cons (.read x) .nil) .nil) (.cons use .nil)), [1]), ((.cons (.ite "n" "" 3 .nil (.cons (.read x) .nil)) (.cons use .nil)), [1]), ((.cons (.loop i "" 0 "n" 0 (.cons (.read x) .nil) .nil) (.cons use .nil)), [1]), ((.cons (.loop i "" 0 "n" 0 (.cons (.read x) .nil) (.cons use .nil)) .nil), [0, 1, 0]), ((.cons (.loop x "" 0 "n" 0 .nil .nil) (.cons use .nil)), [1]), ((.cons (.loop x "" 0 "n" 0 .nil (.cons use .nil)) .nil), [0, 1, 0]), ((.cons (.loop i "" 0 "n" 0 (.cons (.read x) (.cons .leave .nil)) .nil) (.cons use .nil)), [1]), ((.cons (.tryy (.cons (.read x) (.cons (.ask "n" "" 0 "ka") .nil)) (.cons [] none (.cons use .nil) .nil) .nil .nil) .nil), [0, 1, 0]), ((.cons (.tryy (.cons (.read x) .nil) .nil .nil (.cons use .nil)) .nil), [0, 2, 0]), ((.cons (.tryy (.cons (.read x) (.cons (.ask "n" "" 0 "ka") .nil)) (.cons ["ka"] none .nil .nil) .nil .nil) (.cons use .nil)), [1]), ((.cons (.tryy (.cons (.ask "n" "" 0 "ka") .nil) (.cons ["ka"] (some x) .nil .nil) (.cons use .nil) .nil) .nil), [0, 2, 0]), ((.cons (.tryy (.cons (.ask "n" "" 0 "ka") .nil) (.cons ["ka"] (some x) .nil .nil) .nil .nil) (.cons use .nil)), [1]), ((.cons (.tryy .nil .nil .nil (.cons (.read x) .nil)) (.cons use .nil)), [1]), ((.cons (.tryy (.cons (.read x) .nil) (.cons ["ka"] none (.cons (.out "oa") .nil) .nil) .nil (.cons use .nil)) .nil), [0, 3, 0])]
def spUnknown (K : PySem.W.Frag) : Sp := fun vs H Q _ => ∃ (x : Str) (i : Str) (use : Sm) (v_use : V), vs = [.str x, .str i, v_use] ∧ Fx K H v_use (encS use) ∧  ∀ H' p, Same H H' → H p = none → LsAt K H' p ((unknownM x i use).map rowD) → Q (.ref p) H'
theorem ok_l_unknown {f : Addr} {fd : FuncData} (F : C8.Def K mg "_law_unknown" s_l_unknown f fd) (b : Binds K fd ["_law_x", "_law_i", "_law_use"] []) (T : Txt K mg ad) : C8.Cal P w K mg base 1 "_law_unknown" (spUnknown K) [] := by
  refine C8.cal0 F b .nil sc_l_unknown (fun vs H Q E h => ?_) (fun cdv A outer s H vs Q E hr h => ?_)
  · obtain ⟨x, i, use, v_use, rfl, _⟩ := h
    rfl
  · obtain ⟨x, i, use, v_use, rfl, h_use, k⟩ := h
    refine ⟨_, (pss_cons (ps_asg (pe_tup (pa_cons (pe_tup (pa_cons pe_str (pa_cons pe_int pa_nil))) (pa_cons (pe_tup (pa_cons pe_str (pa_cons pe_int pa_nil))) (pa_cons (pe_tup (pa_cons (pe_tup (pa_cons pe_str (pa_cons pe_str pa_nil))) pa_nil)) (pa_cons (pe_tup (pa_cons pe_str (pa_cons (pe_tup (pa_cons pe_str (pa_cons pe_str (pa_cons pe_int pa_nil)))) (pa_cons pe_str pa_nil)))) pa_nil))))) (pg_tup (by rfl) (pgs_cons (pg_name (i := 3) sc_l_unknown.nd rfl (Or.inl rfl)) (pgs_cons (pg_name (i := 4) sc_l_unknown.nd rfl (Or.inl rfl)) (pgs_cons (pg_name (i := 5) sc_l_unknown.nd rfl (Or.inl rfl)) (pgs_cons (pg_name (i := 6) sc_l_unknown.nd rfl (Or.inl rfl)) pgs_nil))))))
    (pss_cons (ps_par (i := 7) (j := 8) (by rfl) sc_l_unknown.nd rfl rfl (by decide) rfl rfl (pa_cons (pe_tup (pa_cons pe_str (pa_cons (pv 0) pa_nil))) (pa_cons (pe_tup (pa_cons (pe_tup (pa_cons (pe_tup (pa_cons pe_str pa_nil)) (pa_cons pe_non (pa_cons (pe_tup pa_nil) pa_nil)))) pa_nil)) pa_nil)) (by rfl))
    (pss_cons (ps_set (i := 9) sc_l_unknown.nd rfl (Or.inl rfl) (pe_lst (pa_cons (pe_tup (pa_cons (pe_tup (pa_cons (pe_tup (pa_cons pe_str (pa_cons (pe_tup (pa_cons (pv 7) pa_nil)) (pa_cons (pe_tup pa_nil) pa_nil)))) (pa_cons (pv 2) pa_nil))) (pa_cons (pe_tup (pa_cons pe_int pa_nil)) pa_nil))) (pa_cons (pe_tup (pa_cons (pe_tup (pa_cons (pe_tup (pa_cons pe_str (pa_cons (pe_tup (pa_cons pe_str (pa_cons pe_str (pa_cons pe_int pa_nil)))) (pa_cons (pe_tup pa_nil) (pa_cons (pe_tup (pa_cons (pv 7) pa_nil)) pa_nil))))) (pa_cons (pv 2) pa_nil))) (pa_cons (pe_tup (pa_cons pe_int pa_nil)) pa_nil))) pa_nil))))
    (pss_cons (ps_expr (pe_bm PySem.F.plainAttrs_list PySem.F.slot_list_append PySem.F.type_list_append mt_append (pv 9) (pa_cons (pe_tup (pa_cons (pe_tup (pa_cons (pe_tup (pa_cons pe_str (pa_cons (pv 1) (pa_cons (pv 3) (pa_cons (pv 4) (pa_cons (pe_tup (pa_cons (pv 7) pa_nil)) (pa_cons (pe_tup pa_nil) pa_nil))))))) (pa_cons (pv 2) pa_nil))) (pa_cons (pe_tup (pa_cons pe_int pa_nil)) pa_nil))) pa_nil)))
    (pss_cons (ps_expr (pe_bm PySem.F.plainAttrs_list PySem.F.slot_list_append PySem.F.type_list_append mt_append (pv 9) (pa_cons (pe_tup (pa_cons (pe_tup (pa_cons (pe_tup (pa_cons pe_str (pa_cons (pv 1) (pa_cons (pv 3) (pa_cons (pv 4) (pa_cons (pe_tup (pa_cons (pv 7) pa_nil)) (pa_cons (pe_tup (pa_cons (pv 2) pa_nil)) pa_nil))))))) pa_nil)) (pa_cons (pe_tup (pa_cons pe_int (pa_cons pe_int (pa_cons pe_int pa_nil)))) pa_nil))) pa_nil)))
    (pss_cons (ps_expr (pe_bm PySem.F.plainAttrs_list PySem.F.slot_list_append PySem.F.type_list_append mt_append (pv 9) (pa_cons (pe_tup (pa_cons (pe_tup (pa_cons (pe_tup (pa_cons pe_str (pa_cons (pv 0) (pa_cons (pv 3) (pa_cons (pv 4) (pa_cons (pe_tup pa_nil) (pa_cons (pe_tup pa_nil) pa_nil))))))) (pa_cons (pv 2) pa_nil))) (pa_cons (pe_tup (pa_cons pe_int pa_nil)) pa_nil))) pa_nil)))
    (pss_cons (ps_expr (pe_bm PySem.F.plainAttrs_list PySem.F.slot_list_append PySem.F.type_list_append mt_append (pv 9) (pa_cons (pe_tup (pa_cons (pe_tup (pa_cons (pe_tup (pa_cons pe_str (pa_cons (pv 0) (pa_cons (pv 3) (pa_cons (pv 4) (pa_cons (pe_tup pa_nil) (pa_cons (pe_tup (pa_cons (pv 2) pa_nil)) pa_nil))))))) pa_nil)) (pa_cons (pe_tup (pa_cons pe_int (pa_cons pe_int (pa_cons pe_int pa_nil)))) pa_nil))) pa_nil)))
    (pss_cons (ps_expr (pe_bm PySem.F.plainAttrs_list PySem.F.slot_list_append PySem.F.type_list_append mt_append (pv 9) (pa_cons (pe_tup (pa_cons (pe_tup (pa_cons (pe_tup (pa_cons pe_str (pa_cons (pv 1) (pa_cons (pv 3) (pa_cons (pv 4) (pa_cons (pe_tup (pa_cons (pv 7) (pa_cons (pe_tup (pa_cons pe_str pa_nil)) pa_nil))) (pa_cons (pe_tup pa_nil) pa_nil))))))) (pa_cons (pv 2) pa_nil))) (pa_cons (pe_tup (pa_cons pe_int pa_nil)) pa_nil))) pa_nil)))
    (pss_cons (ps_expr (pe_bm PySem.F.plainAttrs_list PySem.F.slot_list_append PySem.F.type_list_append mt_append (pv 9) (pa_cons (pe_tup (pa_cons (pe_tup (pa_cons (pe_tup (pa_cons pe_str (pa_cons (pe_tup (pa_cons (pv 7) (pa_cons (pv 6) pa_nil))) (pa_cons (pe_tup (pa_cons (pe_tup (pa_cons (pe_tup pa_nil) (pa_cons pe_non (pa_cons (pe_tup (pa_cons (pv 2) pa_nil)) pa_nil)))) pa_nil)) (pa_cons (pe_tup pa_nil) (pa_cons (pe_tup pa_nil) pa_nil)))))) pa_nil)) (pa_cons (pe_tup (pa_cons pe_int (pa_cons pe_int (pa_cons pe_int pa_nil)))) pa_nil))) pa_nil)))
    (pss_cons (ps_expr (pe_bm PySem.F.plainAttrs_list PySem.F.slot_list_append PySem.F.type_list_append mt_append (pv 9) (pa_cons (pe_tup (pa_cons (pe_tup (pa_cons (pe_tup (pa_cons pe_str (pa_cons (pe_tup (pa_cons (pv 7) pa_nil)) (pa_cons (pe_tup pa_nil) (pa_cons (pe_tup pa_nil) (pa_cons (pe_tup (pa_cons (pv 2) pa_nil)) pa_nil)))))) pa_nil)) (pa_cons (pe_tup (pa_cons pe_int (pa_cons pe_int (pa_cons pe_int pa_nil)))) pa_nil))) pa_nil)))
    (pss_cons (ps_expr (pe_bm PySem.F.plainAttrs_list PySem.F.slot_list_append PySem.F.type_list_append mt_append (pv 9) (pa_cons (pe_tup (pa_cons (pe_tup (pa_cons (pe_tup (pa_cons pe_str (pa_cons (pe_tup (pa_cons (pv 7) (pa_cons (pv 6) pa_nil))) (pa_cons (pv 8) (pa_cons (pe_tup pa_nil) (pa_cons (pe_tup pa_nil) pa_nil)))))) (pa_cons (pv 2) pa_nil))) (pa_cons (pe_tup (pa_cons pe_int pa_nil)) pa_nil))) pa_nil)))
    (pss_cons (ps_expr (pe_bm PySem.F.plainAttrs_list PySem.F.slot_list_append PySem.F.type_list_append mt_append (pv 9) (pa_cons (pe_tup (pa_cons (pe_tup (pa_cons (pe_tup (pa_cons pe_str (pa_cons (pe_tup (pa_cons (pv 6) pa_nil)) (pa_cons (pe_tup (pa_cons (pe_tup (pa_cons (pe_tup (pa_cons pe_str pa_nil)) (pa_cons (pv 0) (pa_cons (pe_tup pa_nil) pa_nil)))) pa_nil)) (pa_cons (pe_tup (pa_cons (pv 2) pa_nil)) (pa_cons (pe_tup pa_nil) pa_nil)))))) pa_nil)) (pa_cons (pe_tup (pa_cons pe_int (pa_cons pe_int (pa_cons pe_int pa_nil)))) pa_nil))) pa_nil)))
    (pss_cons (ps_expr (pe_bm PySem.F.plainAttrs_list PySem.F.slot_list_append PySem.F.type_list_append mt_append (pv 9) (pa_cons (pe_tup (pa_cons (pe_tup (pa_cons (pe_tup (pa_cons pe_str (pa_cons (pe_tup (pa_cons (pv 6) pa_nil)) (pa_cons (pe_tup (pa_cons (pe_tup (pa_cons (pe_tup (pa_cons pe_str pa_nil)) (pa_cons (pv 0) (pa_cons (pe_tup pa_nil) pa_nil)))) pa_nil)) (pa_cons (pe_tup pa_nil) (pa_cons (pe_tup pa_nil) pa_nil)))))) (pa_cons (pv 2) pa_nil))) (pa_cons (pe_tup (pa_cons pe_int pa_nil)) pa_nil))) pa_nil)))
    (pss_cons (ps_expr (pe_bm PySem.F.plainAttrs_list PySem.F.slot_list_append PySem.F.type_list_append mt_append (pv 9) (pa_cons (pe_tup (pa_cons (pe_tup (pa_cons (pe_tup (pa_cons pe_str (pa_cons (pe_tup pa_nil) (pa_cons (pe_tup pa_nil) (pa_cons (pe_tup pa_nil) (pa_cons (pe_tup (pa_cons (pv 7) pa_nil)) pa_nil)))))) (pa_cons (pv 2) pa_nil))) (pa_cons (pe_tup (pa_cons pe_int pa_nil)) pa_nil))) pa_nil)))
    (pss_one (ps_ret (pe_op op_cat (pv 9) (pe_lst (pa_cons (pe_tup (pa_cons (pe_tup (pa_cons (pe_tup (pa_cons pe_str (pa_cons (pe_tup (pa_cons (pv 7) pa_nil)) (pa_cons (pe_tup (pa_cons (pe_tup (pa_cons (pe_tup (pa_cons pe_str pa_nil)) (pa_cons pe_non (pa_cons (pv 5) pa_nil)))) pa_nil)) (pa_cons (pe_tup pa_nil) (pa_cons (pe_tup (pa_cons (pv 2) pa_nil)) pa_nil)))))) pa_nil)) (pa_cons (pe_tup (pa_cons pe_int (pa_cons pe_int (pa_cons pe_int pa_nil)))) pa_nil))) pa_nil))))))))))))))))))), ?_⟩
    have f0 : Fx K H (.str x) (.str x) := ⟨.str _, .str _⟩
    have f1 : Fx K H (.str i) (.str i) := ⟨.str _, .str _⟩
    have f2 := h_use
    have R : Same H H := Same.refl H
    refine s_asg (Mk.use (K := K) (mk_tup (mk_cons (mk_tup (mk_cons mk_str (mk_cons mk_int mk_nil))) (mk_cons (mk_tup (mk_cons mk_str (mk_cons mk_int mk_nil))) (mk_cons (mk_tup (mk_cons (mk_tup (mk_cons mk_str (mk_cons mk_str mk_nil))) mk_nil)) (mk_cons (mk_tup (mk_cons mk_str (mk_cons (mk_tup (mk_cons mk_str (mk_cons mk_str (mk_cons mk_int mk_nil)))) (mk_cons mk_str mk_nil)))) mk_nil))))) fun H1 w1 S1 d1 => ?_)
    obtain ⟨a1, xs1, rfl, ha1, d1⟩ := fx_tup d1
    have T1 := Tups.of (K := K) S1
    replace R := R.trans S1
    replace f0 := f0.up T1
    replace f1 := f1.up T1
    replace f2 := f2.up T1
    obtain ⟨v1_0, r1, rfl, f3, d1⟩ := fxa_cons d1
    obtain ⟨v1_1, r1, rfl, f4, d1⟩ := fxa_cons d1
    obtain ⟨v1_2, r1, rfl, f5, d1⟩ := fxa_cons d1
    obtain ⟨v1_3, r1, rfl, f6, d1⟩ := fxa_cons d1
    cases fxa_nil d1
    refine ⟨a1, _, rfl, ha1, rfl, _, _, rfl, _, _, rfl, _, _, rfl, _, _, rfl, rfl, ?_⟩
    refine s_par (MkA.use (K := K) (mk_cons (mk_tup (mk_cons mk_str (mk_cons (mk_var (i := 0) rfl f0) mk_nil))) (mk_cons (mk_tup (mk_cons (mk_tup (mk_cons (mk_tup (mk_cons mk_str mk_nil)) (mk_cons mk_non (mk_cons (mk_tup mk_nil) mk_nil)))) mk_nil)) mk_nil)) fun H2 vs2 S2 d2 => ?_)
    have T2 := Tups.of (K := K) S2
    replace R := R.trans S2
    replace f0 := f0.up T2
    replace f1 := f1.up T2
    replace f2 := f2.up T2
    replace f3 := f3.up T2
    replace f4 := f4.up T2
    replace f5 := f5.up T2
    replace f6 := f6.up T2
    obtain ⟨v2_0, r2, rfl, f7, d2⟩ := fxa_cons d2
    obtain ⟨v2_1, r2, rfl, f8, d2⟩ := fxa_cons d2
    cases fxa_nil d2
    refine ⟨_, _, rfl, ?_⟩
    refine s_asg (lst_mk (K := K) (mk_cons (mk_tup (mk_cons (mk_tup (mk_cons (mk_tup (mk_cons mk_str (mk_cons (mk_tup (mk_cons (mk_var (i := 7) rfl f7) mk_nil)) (mk_cons (mk_tup mk_nil) mk_nil)))) (mk_cons (mk_var (i := 2) rfl f2) mk_nil))) (mk_cons (mk_tup (mk_cons mk_int mk_nil)) mk_nil))) (mk_cons (mk_tup (mk_cons (mk_tup (mk_cons (mk_tup (mk_cons mk_str (mk_cons (mk_tup (mk_cons mk_str (mk_cons mk_str (mk_cons mk_int mk_nil)))) (mk_cons (mk_tup mk_nil) (mk_cons (mk_tup (mk_cons (mk_var (i := 7) rfl f7) mk_nil)) mk_nil))))) (mk_cons (mk_var (i := 2) rfl f2) mk_nil))) (mk_cons (mk_tup (mk_cons mk_int mk_nil)) mk_nil))) mk_nil)) (by simp) fun H3 l S3 nl L3 => ?_)
    have T3 := Tups.of (K := K) S3
    have n0 := same_none R nl
    replace R := R.trans S3
    replace f0 := f0.up T3
    replace f1 := f1.up T3
    replace f2 := f2.up T3
    replace f3 := f3.up T3
    replace f4 := f4.up T3
    replace f5 := f5.up T3
    replace f6 := f6.up T3
    replace f7 := f7.up T3
    replace f8 := f8.up T3
    refine s_drop (app_mk (i := 9) rfl L3 (by simp) (mk_tup (mk_cons (mk_tup (mk_cons (mk_tup (mk_cons mk_str (mk_cons (mk_var (i := 1) rfl f1) (mk_cons (mk_var (i := 3) rfl f3) (mk_cons (mk_var (i := 4) rfl f4) (mk_cons (mk_tup (mk_cons (mk_var (i := 7) rfl f7) mk_nil)) (mk_cons (mk_tup mk_nil) mk_nil))))))) (mk_cons (mk_var (i := 2) rfl f2) mk_nil))) (mk_cons (mk_tup (mk_cons mk_int mk_nil)) mk_nil))) fun H4 T4 B4 L4 => ?_)
    replace R := same_but n0 R B4
    replace f0 := f0.up T4
    replace f1 := f1.up T4
    replace f2 := f2.up T4
    replace f3 := f3.up T4
    replace f4 := f4.up T4
    replace f5 := f5.up T4
    replace f6 := f6.up T4
    replace f7 := f7.up T4
    replace f8 := f8.up T4
    refine s_drop (app_mk (i := 9) rfl L4 (by simp) (mk_tup (mk_cons (mk_tup (mk_cons (mk_tup (mk_cons mk_str (mk_cons (mk_var (i := 1) rfl f1) (mk_cons (mk_var (i := 3) rfl f3) (mk_cons (mk_var (i := 4) rfl f4) (mk_cons (mk_tup (mk_cons (mk_var (i := 7) rfl f7) mk_nil)) (mk_cons (mk_tup (mk_cons (mk_var (i := 2) rfl f2) mk_nil)) mk_nil))))))) mk_nil)) (mk_cons (mk_tup (mk_cons mk_int (mk_cons mk_int (mk_cons mk_int mk_nil)))) mk_nil))) fun H5 T5 B5 L5 => ?_)
    replace R := same_but n0 R B5
    replace f0 := f0.up T5
    replace f1 := f1.up T5
    replace f2 := f2.up T5
    replace f3 := f3.up T5
    replace f4 := f4.up T5
    replace f5 := f5.up T5
    replace f6 := f6.up T5
    replace f7 := f7.up T5
    replace f8 := f8.up T5
    refine s_drop (app_mk (i := 9) rfl L5 (by simp) (mk_tup (mk_cons (mk_tup (mk_cons (mk_tup (mk_cons mk_str (mk_cons (mk_var (i := 0) rfl f0) (mk_cons (mk_var (i := 3) rfl f3) (mk_cons (mk_var (i := 4) rfl f4) (mk_cons (mk_tup mk_nil) (mk_cons (mk_tup mk_nil) mk_nil))))))) (mk_cons (mk_var (i := 2) rfl f2) mk_nil))) (mk_cons (mk_tup (mk_cons mk_int mk_nil)) mk_nil))) fun H6 T6 B6 L6 => ?_)
    replace R := same_but n0 R B6
    replace f0 := f0.up T6
    replace f1 := f1.up T6
    replace f2 := f2.up T6
    replace f3 := f3.up T6
    replace f4 := f4.up T6
    replace f5 := f5.up T6
    replace f6 := f6.up T6
    replace f7 := f7.up T6
    replace f8 := f8.up T6
    refine s_drop (app_mk (i := 9) rfl L6 (by simp) (mk_tup (mk_cons (mk_tup (mk_cons (mk_tup (mk_cons mk_str (mk_cons (mk_var (i := 0) rfl f0) (mk_cons (mk_var (i := 3) rfl f3) (mk_cons (mk_var (i := 4) rfl f4) (mk_cons (mk_tup mk_nil) (mk_cons (mk_tup (mk_cons (mk_var (i := 2) rfl f2) mk_nil)) mk_nil))))))) mk_nil)) (mk_cons (mk_tup (mk_cons mk_int (mk_cons mk_int (mk_cons mk_int mk_nil)))) mk_nil))) fun H7 T7 B7 L7 => ?_)
    replace R := same_but n0 R B7
    replace f0 := f0.up T7
    replace f1 := f1.up T7
    replace f2 := f2.up T7
    replace f3 := f3.up T7
    replace f4 := f4.up T7
    replace f5 := f5.up T7
    replace f6 := f6.up T7
    replace f7 := f7.up T7
    replace f8 := f8.up T7
    refine s_drop (app_mk (i := 9) rfl L7 (by simp) (mk_tup (mk_cons (mk_tup (mk_cons (mk_tup (mk_cons mk_str (mk_cons (mk_var (i := 1) rfl f1) (mk_cons (mk_var (i := 3) rfl f3) (mk_cons (mk_var (i := 4) rfl f4) (mk_cons (mk_tup (mk_cons (mk_var (i := 7) rfl f7) (mk_cons (mk_tup (mk_cons mk_str mk_nil)) mk_nil))) (mk_cons (mk_tup mk_nil) mk_nil))))))) (mk_cons (mk_var (i := 2) rfl f2) mk_nil))) (mk_cons (mk_tup (mk_cons mk_int mk_nil)) mk_nil))) fun H8 T8 B8 L8 => ?_)
    replace R := same_but n0 R B8
    replace f0 := f0.up T8
    replace f1 := f1.up T8
    replace f2 := f2.up T8
    replace f3 := f3.up T8
    replace f4 := f4.up T8
    replace f5 := f5.up T8
    replace f6 := f6.up T8
    replace f7 := f7.up T8
    replace f8 := f8.up T8
    refine s_drop (app_mk (i := 9) rfl L8 (by simp) (mk_tup (mk_cons (mk_tup (mk_cons (mk_tup (mk_cons mk_str (mk_cons (mk_tup (mk_cons (mk_var (i := 7) rfl f7) (mk_cons (mk_var (i := 6) rfl f6) mk_nil))) (mk_cons (mk_tup (mk_cons (mk_tup (mk_cons (mk_tup mk_nil) (mk_cons mk_non (mk_cons (mk_tup (mk_cons (mk_var (i := 2) rfl f2) mk_nil)) mk_nil)))) mk_nil)) (mk_cons (mk_tup mk_nil) (mk_cons (mk_tup mk_nil) mk_nil)))))) mk_nil)) (mk_cons (mk_tup (mk_cons mk_int (mk_cons mk_int (mk_cons mk_int mk_nil)))) mk_nil))) fun H9 T9 B9 L9 => ?_)
    replace R := same_but n0 R B9
    replace f0 := f0.up T9
    replace f1 := f1.up T9
    replace f2 := f2.up T9
    replace f3 := f3.up T9
    replace f4 := f4.up T9
    replace f5 := f5.up T9
    replace f6 := f6.up T9
    replace f7 := f7.up T9
    replace f8 := f8.up T9
    refine s_drop (app_mk (i := 9) rfl L9 (by simp) (mk_tup (mk_cons (mk_tup (mk_cons (mk_tup (mk_cons mk_str (mk_cons (mk_tup (mk_cons (mk_var (i := 7) rfl f7) mk_nil)) (mk_cons (mk_tup mk_nil) (mk_cons (mk_tup mk_nil) (mk_cons (mk_tup (mk_cons (mk_var (i := 2) rfl f2) mk_nil)) mk_nil)))))) mk_nil)) (mk_cons (mk_tup (mk_cons mk_int (mk_cons mk_int (mk_cons mk_int mk_nil)))) mk_nil))) fun H10 T10 B10 L10 => ?_)
    replace R := same_but n0 R B10
    replace f0 := f0.up T10
    replace f1 := f1.up T10
    replace f2 := f2.up T10
    replace f3 := f3.up T10
    replace f4 := f4.up T10
    replace f5 := f5.up T10
    replace f6 := f6.up T10
    replace f7 := f7.up T10
    replace f8 := f8.up T10
    refine s_drop (app_mk (i := 9) rfl L10 (by simp) (mk_tup (mk_cons (mk_tup (mk_cons (mk_tup (mk_cons mk_str (mk_cons (mk_tup (mk_cons (mk_var (i := 7) rfl f7) (mk_cons (mk_var (i := 6) rfl f6) mk_nil))) (mk_cons (mk_var (i := 8) rfl f8) (mk_cons (mk_tup mk_nil) (mk_cons (mk_tup mk_nil) mk_nil)))))) (mk_cons (mk_var (i := 2) rfl f2) mk_nil))) (mk_cons (mk_tup (mk_cons mk_int mk_nil)) mk_nil))) fun H11 T11 B11 L11 => ?_)
    replace R := same_but n0 R B11
    replace f0 := f0.up T11
    replace f1 := f1.up T11
    replace f2 := f2.up T11
    replace f3 := f3.up T11
    replace f4 := f4.up T11
    replace f5 := f5.up T11
    replace f6 := f6.up T11
    replace f7 := f7.up T11
    replace f8 := f8.up T11
    refine s_drop (app_mk (i := 9) rfl L11 (by simp) (mk_tup (mk_cons (mk_tup (mk_cons (mk_tup (mk_cons mk_str (mk_cons (mk_tup (mk_cons (mk_var (i := 6) rfl f6) mk_nil)) (mk_cons (mk_tup (mk_cons (mk_tup (mk_cons (mk_tup (mk_cons mk_str mk_nil)) (mk_cons (mk_var (i := 0) rfl f0) (mk_cons (mk_tup mk_nil) mk_nil)))) mk_nil)) (mk_cons (mk_tup (mk_cons (mk_var (i := 2) rfl f2) mk_nil)) (mk_cons (mk_tup mk_nil) mk_nil)))))) mk_nil)) (mk_cons (mk_tup (mk_cons mk_int (mk_cons mk_int (mk_cons mk_int mk_nil)))) mk_nil))) fun H12 T12 B12 L12 => ?_)
    replace R := same_but n0 R B12
    replace f0 := f0.up T12
    replace f1 := f1.up T12
    replace f2 := f2.up T12
    replace f3 := f3.up T12
    replace f4 := f4.up T12
    replace f5 := f5.up T12
    replace f6 := f6.up T12
    replace f7 := f7.up T12
    replace f8 := f8.up T12
    refine s_drop (app_mk (i := 9) rfl L12 (by simp) (mk_tup (mk_cons (mk_tup (mk_cons (mk_tup (mk_cons mk_str (mk_cons (mk_tup (mk_cons (mk_var (i := 6) rfl f6) mk_nil)) (mk_cons (mk_tup (mk_cons (mk_tup (mk_cons (mk_tup (mk_cons mk_str mk_nil)) (mk_cons (mk_var (i := 0) rfl f0) (mk_cons (mk_tup mk_nil) mk_nil)))) mk_nil)) (mk_cons (mk_tup mk_nil) (mk_cons (mk_tup mk_nil) mk_nil)))))) (mk_cons (mk_var (i := 2) rfl f2) mk_nil))) (mk_cons (mk_tup (mk_cons mk_int mk_nil)) mk_nil))) fun H13 T13 B13 L13 => ?_)
    replace R := same_but n0 R B13
    replace f0 := f0.up T13
    replace f1 := f1.up T13
    replace f2 := f2.up T13
    replace f3 := f3.up T13
    replace f4 := f4.up T13
    replace f5 := f5.up T13
    replace f6 := f6.up T13
    replace f7 := f7.up T13
    replace f8 := f8.up T13
    refine s_drop (app_mk (i := 9) rfl L13 (by simp) (mk_tup (mk_cons (mk_tup (mk_cons (mk_tup (mk_cons mk_str (mk_cons (mk_tup mk_nil) (mk_cons (mk_tup mk_nil) (mk_cons (mk_tup mk_nil) (mk_cons (mk_tup (mk_cons (mk_var (i := 7) rfl f7) mk_nil)) mk_nil)))))) (mk_cons (mk_var (i := 2) rfl f2) mk_nil))) (mk_cons (mk_tup (mk_cons mk_int mk_nil)) mk_nil))) fun H14 T14 B14 L14 => ?_)
    replace R := same_but n0 R B14
    replace f0 := f0.up T14
    replace f1 := f1.up T14
    replace f2 := f2.up T14
    replace f3 := f3.up T14
    replace f4 := f4.up T14
    replace f5 := f5.up T14
    replace f6 := f6.up T14
    replace f7 := f7.up T14
    replace f8 := f8.up T14
    refine s_ret (cat_mk (i := 9) rfl L14 (mk_cons (mk_tup (mk_cons (mk_tup (mk_cons (mk_tup (mk_cons mk_str (mk_cons (mk_tup (mk_cons (mk_var (i := 7) rfl f7) mk_nil)) (mk_cons (mk_tup (mk_cons (mk_tup (mk_cons (mk_tup (mk_cons mk_str mk_nil)) (mk_cons mk_non (mk_cons (mk_var (i := 5) rfl f5) mk_nil)))) mk_nil)) (mk_cons (mk_tup mk_nil) (mk_cons (mk_tup (mk_cons (mk_var (i := 2) rfl f2) mk_nil)) mk_nil)))))) mk_nil)) (mk_cons (mk_tup (mk_cons mk_int (mk_cons mk_int (mk_cons mk_int mk_nil)))) mk_nil))) mk_nil) (by simp) fun H15 l15 S15 nl15 L15 => ?_)
    refine k _ l15 (R.trans S15) (same_none R nl15) ?_
    --have e : (unknownM x i use).map rowD = _ := by simp only [unknownM, List.map, rowD, encB, encS, encH, vD, lD, oD, pD]; rfl
    exact row_eq (by simp only [unknownM, List.map, rowD, encB, encS, encH, vD, lD, oD, pD, List.cons_append, List.nil_append]; first | done | rfl) L15
end
end K17

namespace K17
open PySem L2 Bx Tk Pm RZ Td Mkk
section
variable {P : Program} {w : World} {K : PySem.W.Frag} {mg : Str → Option Value} {base : Heap} {ad : Ad}
def deadM (i : Str) (more : Sm) : List (Bk × Pa) := [((.cons (.choose (.cons (.out "oa") .nil) (.cons (.raise "ka" "n" 1) .nil)) (.cons more .nil)), [1]), ((.cons (.ite "n" "" 0 (.cons (.raise "ka" "n" 1) .nil) (.cons (.out "oa") .nil)) (.cons more .nil)), [1]), ((.cons (.loop i "n" 0 "" 0 .nil (.cons (.out "oa") .nil)) (.cons more .nil)), [1]), ((.cons (.tryy (.cons (.out "oa") .nil) .nil .nil .nil) (.cons more .nil)), [1]), ((.cons (.tryy .nil .nil .nil (.cons (.raise "ka" "n" 1) .nil)) (.cons more .nil)), [1]), ((.cons (.tryy (.cons (.out "oa") .nil) .nil (.cons more .nil) .nil) .nil), [0, 1, 0]), ((.cons (.tryy (.cons (.raise "ka" "n" 1) .nil) (.cons ["kb"] none .nil .nil) .nil .nil) (.cons more .nil)), [1]), ((.cons (.loop i "n" 0 "" 0 (.cons (.tryy (.cons .leave .nil) .nil .nil (.cons (.out "oa") .nil)) .nil) (.cons (.out "oa") .nil)) (.cons more .nil)), [1])]
def spDead (K : PySem.W.Frag) : Sp := fun vs H Q _ => ∃ (i : Str) (more : Sm) (v_more : V), vs = [.str i, v_more] ∧ Fx K H v_more (encS more) ∧  ∀ H' p, Same H H' → H p = none → LsAt K H' p ((deadM i more).map rowD) → Q (.ref p) H'
theorem ok_l_dead {f : Addr} {fd : FuncData} (F : C8.Def K mg "_law_dead" s_l_dead f fd) (b : Binds K fd ["_law_i", "_law_more"] []) (T : Txt K mg ad) : C8.Cal P w K mg base 1 "_law_dead" (spDead K) [] := by
  refine C8.cal0 F b .nil sc_l_dead (fun vs H Q E h => ?_) (fun cdv A outer s H vs Q E hr h => ?_)
  · obtain ⟨i, more, v_more, rfl, _⟩ := h
    rfl
  · obtain ⟨i, more, v_more, rfl, h_more, k⟩ := h
    refine ⟨_, (pss_cons (ps_asg (pe_tup (pa_cons (pe_tup (pa_cons pe_str (pa_cons pe_str pa_nil))) (pa_cons (pe_tup (pa_cons pe_str (pa_cons pe_str (pa_cons (pe_tup (pa_cons pe_str (pa_cons pe_int pa_nil))) pa_nil)))) (pa_cons (pe_tup (pa_cons pe_str (pa_cons pe_int pa_nil))) (pa_cons (pe_tup (pa_cons pe_str (pa_cons pe_int pa_nil))) pa_nil))))) (pg_tup (by rfl) (pgs_cons (pg_name (i := 2) sc_l_dead.nd rfl (Or.inl rfl)) (pgs_cons (pg_name (i := 3) sc_l_dead.nd rfl (Or.inl rfl)) (pgs_cons (pg_name (i := 4) sc_l_dead.nd rfl (Or.inl rfl)) (pgs_cons (pg_name (i := 5) sc_l_dead.nd rfl (Or.inl rfl)) pgs_nil))))))
    (pss_cons (ps_set (i := 6) sc_l_dead.nd rfl (Or.inl rfl) (pe_lst (pa_cons (pe_tup (pa_cons (pe_tup (pa_cons (pe_tup (pa_cons pe_str (pa_cons (pe_tup (pa_cons (pv 2) pa_nil)) (pa_cons (pe_tup (pa_cons (pv 3) pa_nil)) pa_nil)))) (pa_cons (pv 1) pa_nil))) (pa_cons (pe_tup (pa_cons pe_int pa_nil)) pa_nil))) (pa_cons (pe_tup (pa_cons (pe_tup (pa_cons (pe_tup (pa_cons pe_str (pa_cons (pe_tup (pa_cons pe_str (pa_cons pe_str (pa_cons pe_int pa_nil)))) (pa_cons (pe_tup (pa_cons (pv 3) pa_nil)) (pa_cons (pe_tup (pa_cons (pv 2) pa_nil)) pa_nil))))) (pa_cons (pv 1) pa_nil))) (pa_cons (pe_tup (pa_cons pe_int pa_nil)) pa_nil))) pa_nil))))
    (pss_cons (ps_expr (pe_bm PySem.F.plainAttrs_list PySem.F.slot_list_append PySem.F.type_list_append mt_append (pv 6) (pa_cons (pe_tup (pa_cons (pe_tup (pa_cons (pe_tup (pa_cons pe_str (pa_cons (pv 0) (pa_cons (pv 4) (pa_cons (pv 5) (pa_cons (pe_tup pa_nil) (pa_cons (pe_tup (pa_cons (pv 2) pa_nil)) pa_nil))))))) (pa_cons (pv 1) pa_nil))) (pa_cons (pe_tup (pa_cons pe_int pa_nil)) pa_nil))) pa_nil)))
    (pss_cons (ps_expr (pe_bm PySem.F.plainAttrs_list PySem.F.slot_list_append PySem.F.type_list_append mt_append (pv 6) (pa_cons (pe_tup (pa_cons (pe_tup (pa_cons (pe_tup (pa_cons pe_str (pa_cons (pe_tup (pa_cons (pv 2) pa_nil)) (pa_cons (pe_tup pa_nil) (pa_cons (pe_tup pa_nil) (pa_cons (pe_tup pa_nil) pa_nil)))))) (pa_cons (pv 1) pa_nil))) (pa_cons (pe_tup (pa_cons pe_int pa_nil)) pa_nil))) pa_nil)))
    (pss_cons (ps_expr (pe_bm PySem.F.plainAttrs_list PySem.F.slot_list_append PySem.F.type_list_append mt_append (pv 6) (pa_cons (pe_tup (pa_cons (pe_tup (pa_cons (pe_tup (pa_cons pe_str (pa_cons (pe_tup pa_nil) (pa_cons (pe_tup pa_nil) (pa_cons (pe_tup pa_nil) (pa_cons (pe_tup (pa_cons (pv 3) pa_nil)) pa_nil)))))) (pa_cons (pv 1) pa_nil))) (pa_cons (pe_tup (pa_cons pe_int pa_nil)) pa_nil))) pa_nil)))
    (pss_cons (ps_expr (pe_bm PySem.F.plainAttrs_list PySem.F.slot_list_append PySem.F.type_list_append mt_append (pv 6) (pa_cons (pe_tup (pa_cons (pe_tup (pa_cons (pe_tup (pa_cons pe_str (pa_cons (pe_tup (pa_cons (pv 2) pa_nil)) (pa_cons (pe_tup pa_nil) (pa_cons (pe_tup (pa_cons (pv 1) pa_nil)) (pa_cons (pe_tup pa_nil) pa_nil)))))) pa_nil)) (pa_cons (pe_tup (pa_cons pe_int (pa_cons pe_int (pa_cons pe_int pa_nil)))) pa_nil))) pa_nil)))
    (pss_cons (ps_expr (pe_bm PySem.F.plainAttrs_list PySem.F.slot_list_append PySem.F.type_list_append mt_append (pv 6) (pa_cons (pe_tup (pa_cons (pe_tup (pa_cons (pe_tup (pa_cons pe_str (pa_cons (pe_tup (pa_cons (pv 3) pa_nil)) (pa_cons (pe_tup (pa_cons (pe_tup (pa_cons (pe_tup (pa_cons pe_str pa_nil)) (pa_cons pe_non (pa_cons (pe_tup pa_nil) pa_nil)))) pa_nil)) (pa_cons (pe_tup pa_nil) (pa_cons (pe_tup pa_nil) pa_nil)))))) (pa_cons (pv 1) pa_nil))) (pa_cons (pe_tup (pa_cons pe_int pa_nil)) pa_nil))) pa_nil)))
    (pss_one (ps_ret (pe_op op_cat (pv 6) (pe_lst (pa_cons (pe_tup (pa_cons (pe_tup (pa_cons (pe_tup (pa_cons pe_str (pa_cons (pv 0) (pa_cons (pv 4) (pa_cons (pv 5) (pa_cons (pe_tup (pa_cons (pe_tup (pa_cons pe_str (pa_cons (pe_tup (pa_cons (pe_tup (pa_cons pe_str pa_nil)) pa_nil)) (pa_cons (pe_tup pa_nil) (pa_cons (pe_tup pa_nil) (pa_cons (pe_tup (pa_cons (pv 2) pa_nil)) pa_nil)))))) pa_nil)) (pa_cons (pe_tup (pa_cons (pv 2) pa_nil)) pa_nil))))))) (pa_cons (pv 1) pa_nil))) (pa_cons (pe_tup (pa_cons pe_int pa_nil)) pa_nil))) pa_nil)))))))))))), ?_⟩
    have f0 : Fx K H (.str i) (.str i) := ⟨.str _, .str _⟩
    have f1 := h_more
    have R : Same H H := Same.refl H
    refine s_asg (Mk.use (K := K) (mk_tup (mk_cons (mk_tup (mk_cons mk_str (mk_cons mk_str mk_nil))) (mk_cons (mk_tup (mk_cons mk_str (mk_cons mk_str (mk_cons (mk_tup (mk_cons mk_str (mk_cons mk_int mk_nil))) mk_nil)))) (mk_cons (mk_tup (mk_cons mk_str (mk_cons mk_int mk_nil))) (mk_cons (mk_tup (mk_cons mk_str (mk_cons mk_int mk_nil))) mk_nil))))) fun H1 w1 S1 d1 => ?_)
    obtain ⟨a1, xs1, rfl, ha1, d1⟩ := fx_tup d1
    have T1 := Tups.of (K := K) S1
    replace R := R.trans S1
    replace f0 := f0.up T1
    replace f1 := f1.up T1
    obtain ⟨v1_0, r1, rfl, f2, d1⟩ := fxa_cons d1
    obtain ⟨v1_1, r1, rfl, f3, d1⟩ := fxa_cons d1
    obtain ⟨v1_2, r1, rfl, f4, d1⟩ := fxa_cons d1
    obtain ⟨v1_3, r1, rfl, f5, d1⟩ := fxa_cons d1
    cases fxa_nil d1
    refine ⟨a1, _, rfl, ha1, rfl, _, _, rfl, _, _, rfl, _, _, rfl, _, _, rfl, rfl, ?_⟩
    refine s_asg (lst_mk (K := K) (mk_cons (mk_tup (mk_cons (mk_tup (mk_cons (mk_tup (mk_cons mk_str (mk_cons (mk_tup (mk_cons (mk_var (i := 2) rfl f2) mk_nil)) (mk_cons (mk_tup (mk_cons (mk_var (i := 3) rfl f3) mk_nil)) mk_nil)))) (mk_cons (mk_var (i := 1) rfl f1) mk_nil))) (mk_cons (mk_tup (mk_cons mk_int mk_nil)) mk_nil))) (mk_cons (mk_tup (mk_cons (mk_tup (mk_cons (mk_tup (mk_cons mk_str (mk_cons (mk_tup (mk_cons mk_str (mk_cons mk_str (mk_cons mk_int mk_nil)))) (mk_cons (mk_tup (mk_cons (mk_var (i := 3) rfl f3) mk_nil)) (mk_cons (mk_tup (mk_cons (mk_var (i := 2) rfl f2) mk_nil)) mk_nil))))) (mk_cons (mk_var (i := 1) rfl f1) mk_nil))) (mk_cons (mk_tup (mk_cons mk_int mk_nil)) mk_nil))) mk_nil)) (by simp) fun H2 l S2 nl L2 => ?_)
    have T2 := Tups.of (K := K) S2
    have n0 := same_none R nl
    replace R := R.trans S2
    replace f0 := f0.up T2
    replace f1 := f1.up T2
    replace f2 := f2.up T2
    replace f3 := f3.up T2
    replace f4 := f4.up T2
    replace f5 := f5.up T2
    refine s_drop (app_mk (i := 6) rfl L2 (by simp) (mk_tup (mk_cons (mk_tup (mk_cons (mk_tup (mk_cons mk_str (mk_cons (mk_var (i := 0) rfl f0) (mk_cons (mk_var (i := 4) rfl f4) (mk_cons (mk_var (i := 5) rfl f5) (mk_cons (mk_tup mk_nil) (mk_cons (mk_tup (mk_cons (mk_var (i := 2) rfl f2) mk_nil)) mk_nil))))))) (mk_cons (mk_var (i := 1) rfl f1) mk_nil))) (mk_cons (mk_tup (mk_cons mk_int mk_nil)) mk_nil))) fun H3 T3 B3 L3 => ?_)
    replace R := same_but n0 R B3
    replace f0 := f0.up T3
    replace f1 := f1.up T3
    replace f2 := f2.up T3
    replace f3 := f3.up T3
    replace f4 := f4.up T3
    replace f5 := f5.up T3
    refine s_drop (app_mk (i := 6) rfl L3 (by simp) (mk_tup (mk_cons (mk_tup (mk_cons (mk_tup (mk_cons mk_str (mk_cons (mk_tup (mk_cons (mk_var (i := 2) rfl f2) mk_nil)) (mk_cons (mk_tup mk_nil) (mk_cons (mk_tup mk_nil) (mk_cons (mk_tup mk_nil) mk_nil)))))) (mk_cons (mk_var (i := 1) rfl f1) mk_nil))) (mk_cons (mk_tup (mk_cons mk_int mk_nil)) mk_nil))) fun H4 T4 B4 L4 => ?_)
    replace R := same_but n0 R B4
    replace f0 := f0.up T4
    replace f1 := f1.up T4
    replace f2 := f2.up T4
    replace f3 := f3.up T4
    replace f4 := f4.up T4
    replace f5 := f5.up T4
    refine s_drop (app_mk (i := 6) rfl L4 (by simp) (mk_tup (mk_cons (mk_tup (mk_cons (mk_tup (mk_cons mk_str (mk_cons (mk_tup mk_nil) (mk_cons (mk_tup mk_nil) (mk_cons (mk_tup mk_nil) (mk_cons (mk_tup (mk_cons (mk_var (i := 3) rfl f3) mk_nil)) mk_nil)))))) (mk_cons (mk_var (i := 1) rfl f1) mk_nil))) (mk_cons (mk_tup (mk_cons mk_int mk_nil)) mk_nil))) fun H5 T5 B5 L5 => ?_)
    replace R := same_but n0 R B5
    replace f0 := f0.up T5
    replace f1 := f1.up T5
    replace f2 := f2.up T5
    replace f3 := f3.up T5
    replace f4 := f4.up T5
    replace f5 := f5.up T5
    refine s_drop (app_mk (i := 6) rfl L5 (by simp) (mk_tup (mk_cons (mk_tup (mk_cons (mk_tup (mk_cons mk_str (mk_cons (mk_tup (mk_cons (mk_var (i := 2) rfl f2) mk_nil)) (mk_cons (mk_tup mk_nil) (mk_cons (mk_tup (mk_cons (mk_var (i := 1) rfl f1) mk_nil)) (mk_cons (mk_tup mk_nil) mk_nil)))))) mk_nil)) (mk_cons (mk_tup (mk_cons mk_int (mk_cons mk_int (mk_cons mk_int mk_nil)))) mk_nil))) fun H6 T6 B6 L6 => ?_)
    replace R := same_but n0 R B6
    replace f0 := f0.up T6
    replace f1 := f1.up T6
    replace f2 := f2.up T6
    replace f3 := f3.up T6
    replace f4 := f4.up T6
    replace f5 := f5.up T6
    refine s_drop (app_mk (i := 6) rfl L6 (by simp) (mk_tup (mk_cons (mk_tup (mk_cons (mk_tup (mk_cons mk_str (mk_cons (mk_tup (mk_cons (mk_var (i := 3) rfl f3) mk_nil)) (mk_cons (mk_tup (mk_cons (mk_tup (mk_cons (mk_tup (mk_cons mk_str mk_nil)) (mk_cons mk_non (mk_cons (mk_tup mk_nil) mk_nil)))) mk_nil)) (mk_cons (mk_tup mk_nil) (mk_cons (mk_tup mk_nil) mk_nil)))))) (mk_cons (mk_var (i := 1) rfl f1) mk_nil))) (mk_cons (mk_tup (mk_cons mk_int mk_nil)) mk_nil))) fun H7 T7 B7 L7 => ?_)
    replace R := same_but n0 R B7
    replace f0 := f0.up T7
    replace f1 := f1.up T7
    replace f2 := f2.up T7
    replace f3 := f3.up T7
    replace f4 := f4.up T7
    replace f5 := f5.up T7
    refine s_ret (cat_mk (i := 6) rfl L7 (mk_cons (mk_tup (mk_cons (mk_tup (mk_cons (mk_tup (mk_cons mk_str (mk_cons (mk_var (i := 0) rfl f0) (mk_cons (mk_var (i := 4) rfl f4) (mk_cons (mk_var (i := 5) rfl f5) (mk_cons (mk_tup (mk_cons (mk_tup (mk_cons mk_str (mk_cons (mk_tup (mk_cons (mk_tup (mk_cons mk_str mk_nil)) mk_nil)) (mk_cons (mk_tup mk_nil) (mk_cons (mk_tup mk_nil) (mk_cons (mk_tup (mk_cons (mk_var (i := 2) rfl f2) mk_nil)) mk_nil)))))) mk_nil)) (mk_cons (mk_tup (mk_cons (mk_var (i := 2) rfl f2) mk_nil)) mk_nil))))))) (mk_cons (mk_var (i := 1) rfl f1) mk_nil))) (mk_cons (mk_tup (mk_cons mk_int mk_nil)) mk_nil))) mk_nil) (by simp) fun H8 l8 S8 nl8 L8 => ?_)
    refine k _ l8 (R.trans S8) (same_none R nl8) ?_
    --have e : (deadM i more).map rowD = _ := by simp only [deadM, List.map, rowD, encB, encS, encH, vD, lD, oD, pD]; rfl
    exact row_eq (by simp only [deadM, List.map, rowD, encB, encS, encH, vD, lD, oD, pD, List.cons_append, List.nil_append]; first | done | rfl) L8
end
end K17

namespace K17
open PySem L2 Bx Tk Pm RZ Td Mkk
section
variable {P : Program} {w : World} {K : PySem.W.Frag} {mg : Str → Option Value} {base : Heap} {ad : Ad}
def takenM (x : Str) (i : Str) (use : Sm) : List Bk := [(.cons (.choose (.cons (.read x) .nil) (.cons (.out "oa") .nil)) (.cons use .nil)), (.cons (.loop i "" 0 "n" 0 (.cons (.read x) (.cons .leave .nil)) (.cons (.out "oa") .nil)) (.cons use .nil)), (.cons (.tryy (.cons (.read x) .nil) (.cons ["ka"] none .nil .nil) .nil .nil) (.cons use .nil)), (.cons (.loop x "" 0 "n" 0 (.cons .leave .nil) (.cons (.out "oa") .nil)) (.cons use .nil)), (.cons (.loop i "" 0 "n" 0 (.cons (.tryy (.cons .leave .nil) .nil .nil (.cons .again .nil)) .nil) (.cons (.read x) .nil)) (.cons use .nil)), (.cons (.tryy (.cons (.read x) (.cons (.ask "n" "" 0 "ka") .nil)) (.cons ["ka"] none (.cons (.out "oa") .nil) .nil) .nil .nil) (.cons use .nil)), (.cons (.loop i "" 0 "n" 0 (.cons (.out "oa") .nil) .nil) (.cons (.read x) (.cons use .nil)))]
def spTaken (K : PySem.W.Frag) : Sp := fun vs H Q _ => ∃ (x : Str) (i : Str) (use : Sm) (v_use : V), vs = [.str x, .str i, v_use] ∧ Fx K H v_use (encS use) ∧  ∀ H' p, Same H H' → H p = none → LsAt K H' p ((takenM x i use).map blkD) → Q (.ref p) H'
theorem ok_l_taken {f : Addr} {fd : FuncData} (F : C8.Def K mg "_law_taken" s_l_taken f fd) (b : Binds K fd ["_law_x", "_law_i", "_law_use"] []) (T : Txt K mg ad) : C8.Cal P w K mg base 1 "_law_taken" (spTaken K) [] := by
  refine C8.cal0 F b .nil sc_l_taken (fun vs H Q E h => ?_) (fun cdv A outer s H vs Q E hr h => ?_)
  · obtain ⟨x, i, use, v_use, rfl, _⟩ := h
    rfl
  · obtain ⟨x, i, use, v_use, rfl, h_use, k⟩ := h
    refine ⟨_, (pss_cons (ps_asg (pe_tup (pa_cons (pe_tup (pa_cons pe_str (pa_cons pe_int pa_nil))) (pa_cons (pe_tup (pa_cons pe_str (pa_cons pe_int pa_nil))) (pa_cons (pe_tup (pa_cons (pe_tup (pa_cons pe_str (pa_cons pe_str pa_nil))) pa_nil)) (pa_cons (pe_tup (pa_cons pe_str (pa_cons (pe_tup (pa_cons pe_str (pa_cons pe_str (pa_cons pe_int pa_nil)))) (pa_cons pe_str pa_nil)))) pa_nil))))) (pg_tup (by rfl) (pgs_cons (pg_name (i := 3) sc_l_taken.nd rfl (Or.inl rfl)) (pgs_cons (pg_name (i := 4) sc_l_taken.nd rfl (Or.inl rfl)) (pgs_cons (pg_name (i := 5) sc_l_taken.nd rfl (Or.inl rfl)) (pgs_cons (pg_name (i := 6) sc_l_taken.nd rfl (Or.inl rfl)) pgs_nil))))))
    (pss_cons (ps_par3 (i := 7) (j := 8) (l := 9) (by rfl) sc_l_taken.nd rfl rfl rfl (by decide) (by decide) (by decide) rfl rfl rfl (pa_cons (pe_tup (pa_cons pe_str (pa_cons (pv 0) pa_nil))) (pa_cons (pe_tup (pa_cons (pe_tup (pa_cons (pe_tup (pa_cons pe_str pa_nil)) (pa_cons pe_non (pa_cons (pe_tup pa_nil) pa_nil)))) pa_nil)) (pa_cons (pe_tup (pa_cons pe_str pa_nil)) pa_nil))) (by rfl))
    (pss_cons (ps_set (i := 10) sc_l_taken.nd rfl (Or.inl rfl) (pe_lst (pa_cons (pe_tup (pa_cons (pe_tup (pa_cons pe_str (pa_cons (pe_tup (pa_cons (pv 7) pa_nil)) (pa_cons (pv 5) pa_nil)))) (pa_cons (pv 2) pa_nil))) (pa_cons (pe_tup (pa_cons (pe_tup (pa_cons pe_str (pa_cons (pv 1) (pa_cons (pv 3) (pa_cons (pv 4) (pa_cons (pe_tup (pa_cons (pv 7) (pa_cons (pv 9) pa_nil))) (pa_cons (pv 5) pa_nil))))))) (pa_cons (pv 2) pa_nil))) pa_nil))))
    (pss_cons (ps_set (i := 10) sc_l_taken.nd rfl (Or.inl rfl) (pe_op op_cat (pv 10) (pe_lst (pa_cons (pe_tup (pa_cons (pe_tup (pa_cons pe_str (pa_cons (pe_tup (pa_cons (pv 7) pa_nil)) (pa_cons (pv 8) (pa_cons (pe_tup pa_nil) (pa_cons (pe_tup pa_nil) pa_nil)))))) (pa_cons (pv 2) pa_nil))) (pa_cons (pe_tup (pa_cons (pe_tup (pa_cons pe_str (pa_cons (pv 0) (pa_cons (pv 3) (pa_cons (pv 4) (pa_cons (pe_tup (pa_cons (pv 9) pa_nil)) (pa_cons (pv 5) pa_nil))))))) (pa_cons (pv 2) pa_nil))) pa_nil)))))
    (pss_cons (ps_expr (pe_bm PySem.F.plainAttrs_list PySem.F.slot_list_append PySem.F.type_list_append mt_append (pv 10) (pa_cons (pe_tup (pa_cons (pe_tup (pa_cons pe_str (pa_cons (pv 1) (pa_cons (pv 3) (pa_cons (pv 4) (pa_cons (pe_tup (pa_cons (pe_tup (pa_cons pe_str (pa_cons (pe_tup (pa_cons (pv 9) pa_nil)) (pa_cons (pe_tup pa_nil) (pa_cons (pe_tup pa_nil) (pa_cons (pe_tup (pa_cons (pe_tup (pa_cons pe_str pa_nil)) pa_nil)) pa_nil)))))) pa_nil)) (pa_cons (pe_tup (pa_cons (pv 7) pa_nil)) pa_nil))))))) (pa_cons (pv 2) pa_nil))) pa_nil)))
    (pss_cons (ps_expr (pe_bm PySem.F.plainAttrs_list PySem.F.slot_list_append PySem.F.type_list_append mt_append (pv 10) (pa_cons (pe_tup (pa_cons (pe_tup (pa_cons pe_str (pa_cons (pe_tup (pa_cons (pv 7) (pa_cons (pv 6) pa_nil))) (pa_cons (pe_tup (pa_cons (pe_tup (pa_cons (pe_tup (pa_cons pe_str pa_nil)) (pa_cons pe_non (pa_cons (pv 5) pa_nil)))) pa_nil)) (pa_cons (pe_tup pa_nil) (pa_cons (pe_tup pa_nil) pa_nil)))))) (pa_cons (pv 2) pa_nil))) pa_nil)))
    (pss_one (ps_ret (pe_op op_cat (pv 10) (pe_lst (pa_cons (pe_tup (pa_cons (pe_tup (pa_cons pe_str (pa_cons (pv 1) (pa_cons (pv 3) (pa_cons (pv 4) (pa_cons (pv 5) (pa_cons (pe_tup pa_nil) pa_nil))))))) (pa_cons (pv 7) (pa_cons (pv 2) pa_nil)))) pa_nil))))))))))), ?_⟩
    have f0 : Fx K H (.str x) (.str x) := ⟨.str _, .str _⟩
    have f1 : Fx K H (.str i) (.str i) := ⟨.str _, .str _⟩
    have f2 := h_use
    have R : Same H H := Same.refl H
    refine s_asg (Mk.use (K := K) (mk_tup (mk_cons (mk_tup (mk_cons mk_str (mk_cons mk_int mk_nil))) (mk_cons (mk_tup (mk_cons mk_str (mk_cons mk_int mk_nil))) (mk_cons (mk_tup (mk_cons (mk_tup (mk_cons mk_str (mk_cons mk_str mk_nil))) mk_nil)) (mk_cons (mk_tup (mk_cons mk_str (mk_cons (mk_tup (mk_cons mk_str (mk_cons mk_str (mk_cons mk_int mk_nil)))) (mk_cons mk_str mk_nil)))) mk_nil))))) fun H1 w1 S1 d1 => ?_)
    obtain ⟨a1, xs1, rfl, ha1, d1⟩ := fx_tup d1
    have T1 := Tups.of (K := K) S1
    replace R := R.trans S1
    replace f0 := f0.up T1
    replace f1 := f1.up T1
    replace f2 := f2.up T1
    obtain ⟨v1_0, r1, rfl, f3, d1⟩ := fxa_cons d1
    obtain ⟨v1_1, r1, rfl, f4, d1⟩ := fxa_cons d1
    obtain ⟨v1_2, r1, rfl, f5, d1⟩ := fxa_cons d1
    obtain ⟨v1_3, r1, rfl, f6, d1⟩ := fxa_cons d1
    cases fxa_nil d1
    refine ⟨a1, _, rfl, ha1, rfl, _, _, rfl, _, _, rfl, _, _, rfl, _, _, rfl, rfl, ?_⟩
    refine s_par3 (MkA.use (K := K) (mk_cons (mk_tup (mk_cons mk_str (mk_cons (mk_var (i := 0) rfl f0) mk_nil))) (mk_cons (mk_tup (mk_cons (mk_tup (mk_cons (mk_tup (mk_cons mk_str mk_nil)) (mk_cons mk_non (mk_cons (mk_tup mk_nil) mk_nil)))) mk_nil)) (mk_cons (mk_tup (mk_cons mk_str mk_nil)) mk_nil))) fun H2 vs2 S2 d2 => ?_)
    have T2 := Tups.of (K := K) S2
    replace R := R.trans S2
    replace f0 := f0.up T2
    replace f1 := f1.up T2
    replace f2 := f2.up T2
    replace f3 := f3.up T2
    replace f4 := f4.up T2
    replace f5 := f5.up T2
    replace f6 := f6.up T2
    obtain ⟨v2_0, r2, rfl, f7, d2⟩ := fxa_cons d2
    obtain ⟨v2_1, r2, rfl, f8, d2⟩ := fxa_cons d2
    obtain ⟨v2_2, r2, rfl, f9, d2⟩ := fxa_cons d2
    cases fxa_nil d2
    refine ⟨_, _, _, rfl, ?_⟩
    refine s_asg (lst_mk (K := K) (mk_cons (mk_tup (mk_cons (mk_tup (mk_cons mk_str (mk_cons (mk_tup (mk_cons (mk_var (i := 7) rfl f7) mk_nil)) (mk_cons (mk_var (i := 5) rfl f5) mk_nil)))) (mk_cons (mk_var (i := 2) rfl f2) mk_nil))) (mk_cons (mk_tup (mk_cons (mk_tup (mk_cons mk_str (mk_cons (mk_var (i := 1) rfl f1) (mk_cons (mk_var (i := 3) rfl f3) (mk_cons (mk_var (i := 4) rfl f4) (mk_cons (mk_tup (mk_cons (mk_var (i := 7) rfl f7) (mk_cons (mk_var (i := 9) rfl f9) mk_nil))) (mk_cons (mk_var (i := 5) rfl f5) mk_nil))))))) (mk_cons (mk_var (i := 2) rfl f2) mk_nil))) mk_nil)) (by simp) fun H3 l S3 nl L3 => ?_)
    have T3 := Tups.of (K := K) S3
    have n0 := same_none R nl
    replace R := R.trans S3
    replace f0 := f0.up T3
    replace f1 := f1.up T3
    replace f2 := f2.up T3
    replace f3 := f3.up T3
    replace f4 := f4.up T3
    replace f5 := f5.up T3
    replace f6 := f6.up T3
    replace f7 := f7.up T3
    replace f8 := f8.up T3
    replace f9 := f9.up T3
    refine s_asg (cat_mk (i := 10) rfl L3 (mk_cons (mk_tup (mk_cons (mk_tup (mk_cons mk_str (mk_cons (mk_tup (mk_cons (mk_var (i := 7) rfl f7) mk_nil)) (mk_cons (mk_var (i := 8) rfl f8) (mk_cons (mk_tup mk_nil) (mk_cons (mk_tup mk_nil) mk_nil)))))) (mk_cons (mk_var (i := 2) rfl f2) mk_nil))) (mk_cons (mk_tup (mk_cons (mk_tup (mk_cons mk_str (mk_cons (mk_var (i := 0) rfl f0) (mk_cons (mk_var (i := 3) rfl f3) (mk_cons (mk_var (i := 4) rfl f4) (mk_cons (mk_tup (mk_cons (mk_var (i := 9) rfl f9) mk_nil)) (mk_cons (mk_var (i := 5) rfl f5) mk_nil))))))) (mk_cons (mk_var (i := 2) rfl f2) mk_nil))) mk_nil)) (by simp) fun H4 l4 S4 nl4 L4 => ?_)
    have n0 := same_none R nl4
    replace R := R.trans S4
    have T4 := Tups.of (K := K) S4
    replace f0 := f0.up T4
    replace f1 := f1.up T4
    replace f2 := f2.up T4
    replace f3 := f3.up T4
    replace f4 := f4.up T4
    replace f5 := f5.up T4
    replace f6 := f6.up T4
    replace f7 := f7.up T4
    replace f8 := f8.up T4
    replace f9 := f9.up T4
    refine s_drop (app_mk (i := 10) rfl L4 (by simp) (mk_tup (mk_cons (mk_tup (mk_cons mk_str (mk_cons (mk_var (i := 1) rfl f1) (mk_cons (mk_var (i := 3) rfl f3) (mk_cons (mk_var (i := 4) rfl f4) (mk_cons (mk_tup (mk_cons (mk_tup (mk_cons mk_str (mk_cons (mk_tup (mk_cons (mk_var (i := 9) rfl f9) mk_nil)) (mk_cons (mk_tup mk_nil) (mk_cons (mk_tup mk_nil) (mk_cons (mk_tup (mk_cons (mk_tup (mk_cons mk_str mk_nil)) mk_nil)) mk_nil)))))) mk_nil)) (mk_cons (mk_tup (mk_cons (mk_var (i := 7) rfl f7) mk_nil)) mk_nil))))))) (mk_cons (mk_var (i := 2) rfl f2) mk_nil))) fun H5 T5 B5 L5 => ?_)
    replace R := same_but n0 R B5
    replace f0 := f0.up T5
    replace f1 := f1.up T5
    replace f2 := f2.up T5
    replace f3 := f3.up T5
    replace f4 := f4.up T5
    replace f5 := f5.up T5
    replace f6 := f6.up T5
    replace f7 := f7.up T5
    replace f8 := f8.up T5
    replace f9 := f9.up T5
    refine s_drop (app_mk (i := 10) rfl L5 (by simp) (mk_tup (mk_cons (mk_tup (mk_cons mk_str (mk_cons (mk_tup (mk_cons (mk_var (i := 7) rfl f7) (mk_cons (mk_var (i := 6) rfl f6) mk_nil))) (mk_cons (mk_tup (mk_cons (mk_tup (mk_cons (mk_tup (mk_cons mk_str mk_nil)) (mk_cons mk_non (mk_cons (mk_var (i := 5) rfl f5) mk_nil)))) mk_nil)) (mk_cons (mk_tup mk_nil) (mk_cons (mk_tup mk_nil) mk_nil)))))) (mk_cons (mk_var (i := 2) rfl f2) mk_nil))) fun H6 T6 B6 L6 => ?_)
    replace R := same_but n0 R B6
    replace f0 := f0.up T6
    replace f1 := f1.up T6
    replace f2 := f2.up T6
    replace f3 := f3.up T6
    replace f4 := f4.up T6
    replace f5 := f5.up T6
    replace f6 := f6.up T6
    replace f7 := f7.up T6
    replace f8 := f8.up T6
    replace f9 := f9.up T6
    refine s_ret (cat_mk (i := 10) rfl L6 (mk_cons (mk_tup (mk_cons (mk_tup (mk_cons mk_str (mk_cons (mk_var (i := 1) rfl f1) (mk_cons (mk_var (i := 3) rfl f3) (mk_cons (mk_var (i := 4) rfl f4) (mk_cons (mk_var (i := 5) rfl f5) (mk_cons (mk_tup mk_nil) mk_nil))))))) (mk_cons (mk_var (i := 7) rfl f7) (mk_cons (mk_var (i := 2) rfl f2) mk_nil)))) mk_nil) (by simp) fun H7 l7 S7 nl7 L7 => ?_)
    refine k _ l7 (R.trans S7) (same_none R nl7) ?_
    --have e : (takenM x i use).map blkD = _ := by simp only [takenM, List.map, blkD, encB, encS, encH, vD, lD, oD, pD]; rfl
    exact row_eq (by simp only [takenM, List.map, blkD, encB, encS, encH, vD, lD, oD, pD, List.cons_append, List.nil_append]; first | done | rfl) L7
end
end K17

namespace K17
open PySem L2 Bx Tk Pm RZ Td Mkk
section
variable {P : Program} {w : World} {K : PySem.W.Frag} {mg : Str → Option Value} {base : Heap} {ad : Ad}
theorem butT {H H' : Hp} {l : Addr} (W : WellAt H l) (b : But l H H') : Tups K H H' := fun a xs h => by
  obtain ⟨x, y, z, e⟩ := W
  rcases h with (h | ⟨o, h⟩) | h
  · exact .inl (.inl (b _ _ h fun q => by rw [q, e] at h; cases h))
  · exact .inl (.inr ⟨o, b _ _ h fun q => by rw [q, e] at h; cases h⟩)
  · exact .inr h
def spOne (K : PySem.W.Frag) : Sp := fun vs H Q _ => ∃ (wl l : Addr) (ds : List PyData), vs = [.ref wl, .ref l] ∧ WellAt H wl ∧ LsAt K H l ds ∧ l ≠ wl ∧ 0 < ds.length ∧ ds.length ≤ 1000 ∧
  ∀ (i : Nat) d v H', ds[i]? = some d → But wl H H' → Tups K H H' → WellAt H' wl → Fx K H' v d → Q v H'
theorem ok_l_one {f : Addr} {fd : FuncData} (F : C8.Def K mg "_law_one" s_l_one f fd) (b : Binds K fd ["_law_well_here", "_law_some"] []) (T : Txt K mg ad) (K_l_draw : C8.Cal P w K mg base 1 "_law_draw" spDraw []) : C8.Cal P w K mg base 2 "_law_one" (spOne K) [] := by
  refine C8.cal0 F b .nil sc_l_one (fun vs H Q E h => ?_) (fun cdv A outer s H vs Q E hr h => ?_)
  · obtain ⟨wl, l, ds, rfl, _⟩ := h
    rfl
  · obtain ⟨wl, l, ds, rfl, hW, hL, hne, h0, h1, k⟩ := h
    refine ⟨_, (pss_one (ps_ret (pe_ix ix_list (pv 1) (C8.pe_c K_l_draw hr (by decide) (by rfl) (pa_cons (pv 0) (pa_cons (pe_callB call_len_seq (by rfl) T.z_len (by decide +kernel) (pa_cons (pv 1) pa_nil)) pa_nil))) (fun _ _ => rfl)))), ?_⟩
    obtain ⟨us, hu, hd⟩ := hL.ex
    have lu := dpAll_len hd
    refine ⟨_, rfl, _, rfl, _, rfl, l, us, rfl, .inl (SqL.of hu), wl, ((us.length : Nat) : Int), rfl, hW, by omega, lg (by omega), fun r H1 r0 r1 W1 B1 => ?_⟩
    obtain ⟨i, rfl⟩ : ∃ i : Nat, r = (i : Int) := ⟨r.toNat, by omega⟩
    have hi : i < ds.length := by omega
    have hq := List.getElem?_eq_getElem hi
    obtain ⟨v, hv1, hv2⟩ := dpAll_get hd hq
    have B := butT (K := K) hW B1
    refine ⟨l, us, _, v, rfl, rfl, SqL.of (B1 _ _ hu hne), atI_nat hv1, ?_⟩
    exact k i _ v H1 hq B1 B W1 ((show Fx K H v _ from ⟨hv2, hL.n _ (List.mem_of_getElem? hq)⟩).up B)
def choosesB : Nat → Bk → Bk
  | 0, r => r
  | n + 1, r => .cons (.choose .nil .nil) (choosesB n r)
def withB (many : Nat) (inner : Bool) (root : Bk) : Bk := if inner = true then .cons (.choose .nil (choosesB many root)) .nil else choosesB many root
def withP (many : Nat) (inner : Bool) (p : Pa) : Pa := if inner = true then 0 :: 1 :: (p.headD 0 + many) :: p.tail else (p.headD 0 + many) :: p.tail
theorem enc_chooses (root : Bk) : ∀ n, encB (choosesB n root) = (List.replicate n [encS (.choose .nil .nil)]).flatten ++ encB root
  | 0 => rfl
  | n + 1 => by rw [choosesB, encB, enc_chooses root n, List.replicate_succ, List.flatten_cons]; rfl
theorem len_chooses (root : Bk) : ∀ n, (choosesB n root).list.length = n + root.list.length
  | 0 => by rw [choosesB, Nat.zero_add]
  | n + 1 => by
    have := len_chooses root n
    rw [choosesB, Bk.list, List.length_cons, this]
    omega
def spWithin (K : PySem.W.Frag) : Sp := fun vs H Q _ => ∃ (bv pw : V) (many : Nat) (inner : Bool) (root : Bk) (a : Nat) (p : Pa), vs = [bv, pw, .int (many : Int), .bl inner] ∧ Fx K H bv (blkD root) ∧ Fx K H pw (pD (a :: p)) ∧ many ≤ 10 ∧ root.list.length ≤ 100 ∧ p.length ≤ 100 ∧
  ∀ v H', Same H H' → Fx K H' v (.tuple [blkD (withB many inner root), pD (withP many inner (a :: p))]) → Q v H'
theorem ok_l_within {f : Addr} {fd : FuncData} (F : C8.Def K mg "_law_within" s_l_within f fd) (b : Binds K fd ["_law_block", "_law_place", "_law_many", "_law_inner"] []) (T : Txt K mg ad) : C8.Cal P w K mg base 1 "_law_within" (spWithin K) [] := by
  refine C8.cal0 F b .nil sc_l_within (fun vs H Q E h => ?_) (fun cdv A outer s H vs Q E hr h => ?_)
  · obtain ⟨bv, pw, many, inner, root, a, p, rfl, _⟩ := h
    rfl
  · obtain ⟨bv, pw, many, inner, root, a, p, rfl, f0, f1, hm, hl, hp, k⟩ := h
    refine ⟨_, (pss_cons (ps_set (i := 0) sc_l_within.nd rfl (Or.inl rfl) (pe_op op_catA (pe_op Tm.op_repU (pe_tup (pa_cons (pe_tup (pa_cons pe_str (pa_cons (pe_tup pa_nil) (pa_cons (pe_tup pa_nil) pa_nil)))) pa_nil)) (pv 2)) (pv 0)))
    (pss_cons (ps_set (i := 1) sc_l_within.nd rfl (Or.inl rfl) (pe_op op_catA (pe_tup (pa_cons (pe_op op_add (pe_ix ix_tup (pv 1) pe_int (fun _ _ => rfl)) (pv 2)) pa_nil)) (pe_slice sl_tupA (pv 1) (po_some pe_int) po_none)))
    (pss_one (ps_ret (pe_ifExp (pt_truth (pv 3) (by intro _; rfl)) (pe_tup (pa_cons (pe_tup (pa_cons (pe_tup (pa_cons pe_str (pa_cons (pe_tup pa_nil) (pa_cons (pv 0) pa_nil)))) pa_nil)) (pa_cons (pe_op op_catA (pe_tup (pa_cons pe_int (pa_cons pe_int pa_nil))) (pv 1)) pa_nil))) (pe_tup (pa_cons (pv 0) (pa_cons (pv 1) pa_nil)))))))), ?_⟩
    have f2 : Fx K H (.int (many : Int)) (.int (many : Int)) := ⟨.int _, .int _⟩
    have ll : (encB root).length = root.list.length := blk_len root
    refine s_asg (Mk.use (K := K) (mk_cat (mk_rep (mk_tup (mk_cons (mk_tup (mk_cons mk_str (mk_cons (mk_tup mk_nil) (mk_cons (mk_tup mk_nil) mk_nil)))) mk_nil)) rfl (by simp) (by omega) (by simp)) (mk_var (i := 0) rfl f0) (ble_of (by simp; omega))) fun H1 v1 S1 g0 => ?_)
    replace f1 := f1.same S1
    replace f2 := f2.same S1
    refine s_asg (Mk.use (K := K) (mk_cat (mk_tup (mk_cons (mk_add (mk_ix (i := 0) (mk_var (i := 1) rfl f1) rfl) (mk_var (i := 2) rfl f2)) mk_nil)) (mk_sl1 (mk_var (i := 1) rfl f1)) (ble_of (by simp; omega))) fun H2 v2 S2 g1 => ?_)
    replace g0 := g0.same S2
    have e0 : (PyData.tuple ((List.replicate many [PyData.tuple [.str "choose", .tuple [], .tuple []]]).flatten ++ encB root)) = blkD (choosesB many root) := by
      rw [blkD, enc_chooses]
      simp only [encS, encB]
    have e1 : (PyData.tuple ([PyData.int ((a : Int) + (many : Int))] ++ p.map fun (n : Nat) => .int (n : Int))) = pD ((a + many) :: p) := by
      rw [pD, List.map_cons]
      congr 1
    have h0 : Fx K H2 v1 (blkD (choosesB many root)) := e0 ▸ g0
    have h1 : Fx K H2 v2 (pD ((a + many) :: p)) := e1 ▸ g1
    refine s_ret (Mk.use (K := K) (mk_if (b := inner) (x := .tuple [blkD (.cons (.choose .nil (choosesB many root)) .nil), pD (0 :: 1 :: (a + many) :: p)]) (y := .tuple [blkD (choosesB many root), pD ((a + many) :: p)]) rfl (fun _ => ?_) fun _ => ?_) fun H3 v3 S3 g3 => ?_)
    · have m1 := mk_tup (mk_cons (mk_tup (mk_cons (mk_tup (mk_cons (K := K) (σ := [some v1, some v2, some (.int (many : Int)), some (.bl inner)]) (H := H2) (mk_str (x := "choose")) (mk_cons (mk_tup mk_nil) (mk_cons (mk_var (i := 0) rfl h0) mk_nil)))) mk_nil)) (mk_cons (mk_cat (mk_tup (mk_cons (mk_int (n := 0)) (mk_cons (mk_int (n := 1)) mk_nil))) (mk_var (i := 1) rfl h1) (ble_of (by simp; omega))) mk_nil))
      have e2 : blkD (.cons (.choose .nil (choosesB many root)) .nil) = .tuple [.tuple [.str "choose", .tuple [], blkD (choosesB many root)]] := by
        simp only [blkD, encB, encS]
      rw [e2]
      exact m1
    · exact mk_tup (mk_cons (mk_var (i := 0) rfl h0) (mk_cons (mk_var (i := 1) rfl h1) mk_nil))
    · refine k v3 H3 (S1.trans (S2.trans S3)) ?_
      cases inner with
      | true => exact g3
      | false => exact g3
end
end K17

set_option maxHeartbeats 40000000
namespace K17
open PySem L2 Bx Tk Pm
def wokB (W : List Way) : Bool := decide (W.length ≤ 1000) && W.all fun k => (k.all fun s => PyData.strOk s) && (!k.isEmpty && (!decide (k.head? = some ("raise" : Str)) || decide (k.length = 2)))
theorem wok_of {W : List Way} (h : wokB (END :: W) = true) : WOk (END :: W) := by
  unfold wokB at h
  rw [Bool.and_eq_true, decide_eq_true_eq, List.all_eq_true] at h
  obtain ⟨h1, h2⟩ := h
  have h3 : ∀ k ∈ END :: W, (∀ s ∈ k, PyData.strOk s = true) ∧ k ≠ [] ∧ (k.head? = some ("raise" : Str) → k.length = 2) := fun k hk => by
    have := h2 k hk
    rw [Bool.and_eq_true, Bool.and_eq_true, List.all_eq_true] at this
    obtain ⟨a, b, c⟩ := this
    refine ⟨a, fun z => (by rw [z] at b; cases b), fun z => ?_⟩
    rw [z, decide_eq_true rfl] at c
    exact of_decide_eq_true c
  refine ⟨by omega, fun k hk => (h3 k hk).1, fun k hk => (h3 k hk).2.1, fun k hk hh => ?_, List.mem_cons_self⟩
  have l2 := (h3 k hk).2.2 hh
  match k, l2 with
  | [a, b], _ =>
    cases hh
    exact ⟨b, rfl⟩
def toldB (root : Bk) : Bool := okB root && (decide (root.list.length ≤ 900) && (wokB (END :: waysB root) && (decide (2 * szB root ≤ 880) && (decide (szB root ≤ 14) && nbB root))))
theorem told_of {root : Bk} (h : toldB root = true) : Told root 14 ∧ nbB root = true := by
  unfold toldB at h
  simp only [Bool.and_eq_true, decide_eq_true_eq] at h
  obtain ⟨h1, h2, h3, h4, h5, h6⟩ := h
  exact ⟨⟨⟨h1, h2⟩, wok_of h3, h4, h5⟩, h6⟩
def nameOf (a : Nat) : Str × Str × Str := match a with
  | 0 => ("x", "i", "y")
  | 1 => ("qq", "q", "qqq")
  | 2 => ("b", "ab", "a")
  | _ => ("nn", "m", "longname")
def useOf (a c : Nat) : Sm := .set (nameOf a).2.2 (nameOf a).1 ((c : Int) - 3)
def rowsOf (a c : Nat) : List ((Bk × Pa) × Str) := (unknownM (nameOf a).1 (nameOf a).2.1 (useOf a c)).map (fun r => (r, ("term" : Str))) ++ (deadM (nameOf a).2.1 (.read (nameOf a).2.2)).map (fun r => (r, ("dead" : Str)))
def rowOk (many : Nat) (inner : Bool) (r : (Bk × Pa) × Str) : Bool :=
  toldB (withB many inner r.1.1) && (!r.1.2.isEmpty && decide (r.1.2.length ≤ 100) && decide (r.1.1.list.length ≤ 100)) && (SeqAt.shaped (refD (checked ["n"] (withB many inner r.1.1))) && SeqAt.shaped (.tuple [pD (withP many inner r.1.2), .str r.2]) && PyData.eqv (refD (checked ["n"] (withB many inner r.1.1))) (.tuple [pD (withP many inner r.1.2), .str r.2]))
def takenOk (many : Nat) (inner : Bool) (b : Bk) : Bool :=
  toldB (withB many inner b) && decide (b.list.length ≤ 100) && (SeqAt.shaped (refD (checked ["n"] (withB many inner b))) && PyData.eqv (refD (checked ["n"] (withB many inner b))) (.tuple [.str "told"]))
theorem rows_all : ((List.range 4).all fun a => (List.range 7).all fun c => (List.range 3).all fun many => [false, true].all fun inner => (rowsOf a c).all (rowOk many inner)) = true := by decide +kernel
theorem taken_all : ((List.range 4).all fun a => (List.range 7).all fun c => (List.range 3).all fun many => [false, true].all fun inner => (takenM (nameOf a).1 (nameOf a).2.1 (useOf a c)).all (takenOk many inner)) = true := by decide +kernel
theorem row_get {a c many : Nat} {inner : Bool} (ha : a < 4) (hc : c < 7) (hm : many < 3) {r : (Bk × Pa) × Str} (hr : r ∈ rowsOf a c) : rowOk many inner r = true := by
  have h := rows_all
  simp only [List.all_eq_true, List.mem_range] at h
  exact h a ha c hc many hm inner (by cases inner <;> simp) r hr
theorem taken_get {a c many : Nat} {inner : Bool} (ha : a < 4) (hc : c < 7) (hm : many < 3) {b : Bk} (hb : b ∈ takenM (nameOf a).1 (nameOf a).2.1 (useOf a c)) : takenOk many inner b = true := by
  have h := taken_all
  simp only [List.all_eq_true, List.mem_range] at h
  exact h a ha c hc many hm inner (by cases inner <;> simp) b hb
end K17

namespace K17
open PySem L2 Bx Tk Pm RZ Td Mkk
section
variable {P : Program} {w : World} {K : PySem.W.Frag} {mg : Str → Option Value} {base : Heap} {ad : Ad} {cB : Addr}
theorem cut_mem {xs : List V} {lo hi : Option Int} {x : V} (h : x ∈ cutV xs lo hi) : x ∈ xs := by
  unfold cutV at h
  exact List.mem_of_mem_drop (List.mem_of_mem_take h)
theorem sz {n : Nat} (h : n ≤ 1000) : n ≤ sizeLine := Nat.le_trans h (by decide)
def namesD (a : Nat) : PyData := .tuple [.str (nameOf a).1, .str (nameOf a).2.1, .str (nameOf a).2.2]
def rowW (r : (Bk × Pa) × Str) : PyData := .tuple [blkD r.1.1, pD r.1.2, .str r.2]
def addW (y : Str) : PyData → PyData
  | .tuple ds => .tuple (ds ++ [.str y])
  | d => d
theorem tell {H : Hp} {d : PyData} {u : V} (h : Dp K H u d) (n : NL d) : Fx K H u d := ⟨h, n⟩
def spLaw (K : PySem.W.Frag) : Sp := fun vs H Q _ => ∃ (a : Addr) (ns : List Int), vs = [.ref a] ∧ SqL K H a (ns.map V.int) ∧ ns.length ≤ 63 ∧ ∀ H', Q (.bl true) H'
theorem ok_law {f : Addr} {fd : FuncData} (F : C8.Fun K "law" "law" s_law f fd) (T : Txt K mg ad)
    (K_l_well : C8.Cal P w K mg base 1 "_law_well" spWell []) (K_l_draw : C8.Cal P w K mg base 1 "_law_draw" spDraw []) (K_l_one : C8.Cal P w K mg base 2 "_law_one" (spOne K) []) (K_l_unknown : C8.Cal P w K mg base 1 "_law_unknown" (spUnknown K) []) (K_l_dead : C8.Cal P w K mg base 1 "_law_dead" (spDead K) []) (K_l_taken : C8.Cal P w K mg base 1 "_law_taken" (spTaken K) []) (K_l_within : C8.Cal P w K mg base 1 "_law_within" (spWithin K) [])
    (K_l_refusal : C8.Cal P w K mg base 57 "_law_refusal" (spRef K 14) []) : FnOk P w K mg base C8.CX0 58 f fd ["_law_script"] (spLaw K) := by
  refine C8.fn0 F sc_law (fun vs H Q E h => ?_) (fun cdv A outer s H vs Q E hr h => ?_)
  · obtain ⟨a, ns, rfl, _⟩ := h
    rfl
  · obtain ⟨a, ns, rfl, hS, hlen, k⟩ := h
    have hu := hu_of hr
    refine ⟨_, (pss_cons (ps_for PassesOwn.never rfl (pi_list (pe_slice sl_list (pe_op op_catS (pv 0) (pe_lst (pa_cons pe_int pa_nil))) po_none (po_some pe_int))) (pg_name (i := 1) sc_law.nd rfl (Or.inl rfl))
    (pss_cons (ps_set (i := 2) sc_law.nd rfl (Or.inl rfl) (C8.pe_c K_l_well hr (by decide) (by rfl) (pa_cons (pv 1) pa_nil)))
    (pss_cons (ps_set (i := 3) sc_law.nd rfl (Or.inl rfl) (C8.pe_c K_l_one hr (by decide) (by rfl) (pa_cons (pv 2) (pa_cons (pe_lst (pa_cons (pe_tup (pa_cons pe_str (pa_cons pe_str (pa_cons pe_str pa_nil)))) (pa_cons (pe_tup (pa_cons pe_str (pa_cons pe_str (pa_cons pe_str pa_nil)))) (pa_cons (pe_tup (pa_cons pe_str (pa_cons pe_str (pa_cons pe_str pa_nil)))) (pa_cons (pe_tup (pa_cons pe_str (pa_cons pe_str (pa_cons pe_str pa_nil)))) pa_nil))))) pa_nil))))
    (pss_cons (ps_set (i := 4) sc_law.nd rfl (Or.inl rfl) (pe_tup (pa_cons pe_str (pa_cons (pe_ix ix_tup (pv 3) pe_int (fun _ _ => rfl)) (pa_cons (pe_tup (pa_cons (pe_ix ix_tup (pv 3) pe_int (fun _ _ => rfl)) (pa_cons (pe_op op_sub (C8.pe_c K_l_draw hr (by decide) (by rfl) (pa_cons (pv 2) (pa_cons pe_int pa_nil))) pe_int) pa_nil))) pa_nil)))))
    (pss_cons (ps_par (i := 5) (j := 6) (by rfl) sc_law.nd rfl rfl (by decide) rfl rfl (pa_cons (C8.pe_c K_l_draw hr (by decide) (by rfl) (pa_cons (pv 2) (pa_cons pe_int pa_nil))) (pa_cons (pe_cmpR op_eq (C8.pe_c K_l_draw hr (by decide) (by rfl) (pa_cons (pv 2) (pa_cons pe_int pa_nil))) pe_int (nomark _)) pa_nil)) (by rfl))
    (pss_cons (ps_setLc (i := 7) (own := [("_law_row", 11)]) (g := gName 11) (tt := tYes) rfl sc_law.nd rfl rfl (sw_true rfl rfl rfl (by decide +kernel)) (pi_list (C8.pe_c K_l_unknown hr (by decide) (by rfl) (pa_cons (pe_ix ix_tup (pv 3) pe_int (fun _ _ => rfl)) (pa_cons (pe_ix ix_tup (pv 3) pe_int (fun _ _ => rfl)) (pa_cons (pv 4) pa_nil))))) (blkOk_by (own := [("_law_row", 11)]) (N := N_law) (sc := C8.fnScope s_law) (by decide +kernel)) (fun _ _ _ _ _ => (pg_name (i := 11) sc_law.nd rfl (Or.inl rfl))) (fun _ _ _ _ _ => pts_nil) (fun _ _ _ _ _ => (pe_op (catAK K) (pv 11) (pe_tup (pa_cons pe_str pa_nil)))))
    (pss_cons (ps_set (i := 7) sc_law.nd rfl (Or.inl rfl) (pe_op op_cat (pv 7) (pe_lc (own := [("_law_row", 11)]) (g := gName 11) (tt := tYes) rfl sc_law.nd (pi_list (C8.pe_c K_l_dead hr (by decide) (by rfl) (pa_cons (pe_ix ix_tup (pv 3) pe_int (fun _ _ => rfl)) (pa_cons (pe_tup (pa_cons pe_str (pa_cons (pe_ix ix_tup (pv 3) pe_int (fun _ _ => rfl)) pa_nil))) pa_nil)))) (blkOk_by (own := [("_law_row", 11)]) (N := N_law) (sc := C8.fnScope s_law) (by decide +kernel)) (fun _ _ _ _ _ => (pg_name (i := 11) sc_law.nd rfl (Or.inl rfl))) (fun _ _ _ _ _ => pts_nil) (fun _ _ _ _ _ => (pe_op (catAK K) (pv 11) (pe_tup (pa_cons pe_str pa_nil)))))))
    (pss_cons (ps_for PassesOwn.never rfl (pi_list (pv 7)) (pg_tup (by rfl) (pgs_cons (pg_name (i := 8) sc_law.nd rfl (Or.inl rfl)) (pgs_cons (pg_name (i := 9) sc_law.nd rfl (Or.inl rfl)) (pgs_cons (pg_name (i := 10) sc_law.nd rfl (Or.inl rfl)) pgs_nil))))
    (pss_cons (ps_asg (C8.pe_c K_l_within hr (by decide) (by rfl) (pa_cons (pv 8) (pa_cons (pv 9) (pa_cons (pv 5) (pa_cons (pv 6) pa_nil))))) (pg_tup (by rfl) (pgs_cons (pg_name (i := 8) sc_law.nd rfl (Or.inl rfl)) (pgs_cons (pg_name (i := 9) sc_law.nd rfl (Or.inl rfl)) pgs_nil))))
    (pss_one (ps_if (pt_cmpR (neDK K hr) (C8.pe_c K_l_refusal hr (by decide) (by rfl) (pa_cons (pv 8) pa_nil)) (pe_tup (pa_cons (pv 9) (pa_cons (pv 10) pa_nil))) (nomark _)) (pss_one (ps_ret pe_bl)) pss_nil))))
    (pss_one (ps_for PassesOwn.never rfl (pi_list (C8.pe_c K_l_taken hr (by decide) (by rfl) (pa_cons (pe_ix ix_tup (pv 3) pe_int (fun _ _ => rfl)) (pa_cons (pe_ix ix_tup (pv 3) pe_int (fun _ _ => rfl)) (pa_cons (pv 4) pa_nil))))) (pg_name (i := 8) sc_law.nd rfl (Or.inl rfl))
    (pss_one (ps_if (pt_cmpR (neDK K hr) (C8.pe_c K_l_refusal hr (by decide) (by rfl) (pa_cons (pe_ix ix_tup (C8.pe_c K_l_within hr (by decide) (by rfl) (pa_cons (pv 8) (pa_cons (pe_tup (pa_cons pe_int pa_nil)) (pa_cons (pv 5) (pa_cons (pv 6) pa_nil))))) pe_int (fun _ _ => rfl)) pa_nil)) (pe_tup (pa_cons pe_str pa_nil)) (nomark _)) (pss_one (ps_ret pe_bl)) pss_nil))))))))))))
    (pss_one (ps_ret pe_bl))), ?_⟩
    refine ⟨_, rfl, sz (by simp), fun z nz => ⟨a, z, _, _, rfl, rfl, (Same.new nz).seq hS, SqL.of upd_same, sz (by simp; omega), fun y ny => ⟨_, rfl, y, _, rfl, SqL.of upd_same, fun t nt => ⟨t, rfl, ⟨_, SqL.of upd_same⟩, ?_⟩⟩⟩⟩
    generalize hcs : cutV (ns.map V.int ++ [.int 0]) none (some 10) = cs
    have hint : ∀ x ∈ cs, ∃ c, x = V.int c := fun x hx => by
      rw [← hcs] at hx
      rcases List.mem_append.mp (cut_mem hx) with h | h
      · obtain ⟨c, _, rfl⟩ := List.mem_map.mp h
        exact ⟨c, rfl⟩
      · exact ⟨0, by simpa using h⟩
    refine for_list (xs := cs) (fun i σ H' => ∃ (v1 v2 v3 v4 v5 v6 v7 v8 v9 v10 v11 : Option V), σ = [some (.ref a), v1, v2, v3, v4, v5, v6, v7, v8, v9, v10, v11] ∧ H' t = some (.lst cs)) ⟨none, none, none, none, none, none, none, none, none, none, none, rfl, upd_same⟩ (fun i σ H' _ h => ?_) ?_ ?_
    · obtain ⟨_, _, _, _, _, _, _, _, _, _, _, _, h⟩ := h
      exact SqL.of h
    · rintro i x σ H0 hx ⟨v1, v2, v3, v4, v5, v6, v7, v8, v9, v10, v11, rfl, ht⟩
      obtain ⟨cc, rfl⟩ := hint x (List.mem_of_getElem? hx)
      refine ⟨_, rfl, cc, rfl, fun wl H1 nl S1 W1 => ?_⟩
      have ht1 := S1 _ _ ht
      have htl : t ≠ wl := fun z => by rw [z, nl] at ht; cases ht
      refine ⟨_, rfl, ?_⟩
      refine lst_mk (K := K) (ds := [namesD 0, namesD 1, namesD 2, namesD 3]) (mk_cons (mk_tup (mk_cons mk_str (mk_cons mk_str (mk_cons mk_str mk_nil)))) (mk_cons (mk_tup (mk_cons mk_str (mk_cons mk_str (mk_cons mk_str mk_nil)))) (mk_cons (mk_tup (mk_cons mk_str (mk_cons mk_str (mk_cons mk_str mk_nil)))) (mk_cons (mk_tup (mk_cons mk_str (mk_cons mk_str (mk_cons mk_str mk_nil)))) mk_nil)))) (by simp) fun H2 ln S2 nln L2 => ?_
      have W2 := W1.same S2
      refine ⟨wl, ln, _, rfl, W2, L2, W1.ne nln, by simp, by simp, fun ai d v3 H3 hd B3 T3 W3 f3 => ?_⟩
      have ht3 := B3 _ _ (S2 _ _ ht1) htl
      obtain ⟨ha, rfl⟩ : ai < 4 ∧ d = namesD ai := by
        match ai, hd with
        | 0, hd => cases hd; exact ⟨by decide, rfl⟩
        | 1, hd => cases hd; exact ⟨by decide, rfl⟩
        | 2, hd => cases hd; exact ⟨by decide, rfl⟩
        | 3, hd => cases hd; exact ⟨by decide, rfl⟩
        | n + 4, hd => cases hd
      obtain ⟨n3, xs3, rfl, hn3, g3⟩ := fx_tup f3
      obtain ⟨u0, _, rfl, gx, g3⟩ := fxa_cons g3
      obtain ⟨u1, _, rfl, gi, g3⟩ := fxa_cons g3
      obtain ⟨u2, _, rfl, gy, g3⟩ := fxa_cons g3
      cases fxa_nil g3
      cases inv_str gx.p
      cases inv_str gi.p
      cases inv_str gy.p
      refine ⟨_, rfl, n3, _, 2, _, rfl, rfl, hn3, rfl, _, rfl, n3, _, 0, _, rfl, rfl, hn3, rfl, ?_⟩
      refine ⟨_, rfl, wl, 7, rfl, W3, by decide, lg (by decide), fun r H4 r0 r7 W4 B4 => ⟨r, 3, rfl, rfl, ?_⟩⟩
      obtain ⟨ci, rfl⟩ : ∃ ci : Nat, r = (ci : Int) := ⟨r.toNat, by omega⟩
      have hc : ci < 7 := by omega
      have ht4 := B4 _ _ ht3 htl
      have hn4 := butT (K := K) W3 B4 _ _ hn3
      refine ⟨sz (by simp), fun p5 n5 => ?_⟩
      have S5 := Same.new (o := .tup [.str (nameOf ai).1, .int ((ci : Int) - 3)]) n5
      have d5 : Dp K (upd H4 p5 (.tup [.str (nameOf ai).1, .int ((ci : Int) - 3)])) (.ref p5) (vD (nameOf ai).1 ((ci : Int) - 3)) := .tup (SqT.of upd_same) (.cons (.str _) (.cons (.int _) .nil))
      generalize upd H4 p5 (.tup [.str (nameOf ai).1, .int ((ci : Int) - 3)]) = H5 at S5 d5 ⊢
      refine ⟨sz (by simp), fun p6 n6 => ?_⟩
      have S6 := Same.new (o := .tup [.str "set", .str (nameOf ai).2.2, .ref p5]) n6
      have d6 : Dp K (upd H5 p6 (.tup [.str "set", .str (nameOf ai).2.2, .ref p5])) (.ref p6) (encS (useOf ai ci)) := by
        rw [useOf, encS]
        exact .tup (SqT.of upd_same) (.cons (.str _) (.cons (.str _) (.cons (dp_sm S6 d5) .nil)))
      have f6 : Fx K (upd H5 p6 (.tup [.str "set", .str (nameOf ai).2.2, .ref p5])) (.ref p6) (encS (useOf ai ci)) := ⟨d6, nlS _ rfl⟩
      generalize upd H5 p6 (.tup [.str "set", .str (nameOf ai).2.2, .ref p5]) = H6 at S6 f6 ⊢
      clear d6 d5
      have W6 := W4.same (S5.trans S6)
      have ht6 := S6 _ _ (S5 _ _ ht4)
      have hn6 := Same.seqT (S5.trans S6) hn4
      refine ⟨_, rfl, wl, 3, rfl, W6, by decide, lg (by decide), fun m H7 m0 m3 W7 B7 => ?_⟩
      obtain ⟨mi, rfl⟩ : ∃ mi : Nat, m = (mi : Int) := ⟨m.toNat, by omega⟩
      have hm : mi < 3 := by omega
      refine ⟨_, rfl, wl, 2, rfl, W7, by decide, lg (by decide), fun q H8 q0 q2 W8 B8 => ⟨rfl, _, _, rfl, ?_⟩⟩
      generalize decide (V.int q = V.int 0) = inner
      have T8 := (butT (K := K) W6 B7).trans (butT W7 B8)
      have ht8 := B8 _ _ (B7 _ _ ht6 htl) htl
      have hn8 := T8 _ _ hn6
      have f8 := f6.up T8
      clear ht1 ht3 ht4 ht6 hn3 hn4 hn6 f6 W1 W2 W3 W4 W6 W7 B3 B4 B7 B8 S1 S2 S5 S6 T3 f3 gx gi gy L2 n5 n6
      refine ⟨_, rfl, n3, _, 0, _, rfl, rfl, hn8, rfl, _, rfl, n3, _, 1, _, rfl, rfl, hn8, rfl, _, rfl, (nameOf ai).1, (nameOf ai).2.1, useOf ai ci, .ref p6, rfl, f8, fun H9 lu S9 nlu L9 => ?_⟩
      obtain ⟨us9, hu9, hd9⟩ := L9.ex
      refine ⟨lu, rfl, ⟨_, SqL.of hu9⟩, ?_⟩
      refine comp_mk (f := addW "term") (vs := [11]) (j := 11) L9 (by simp [unknownM]) (by intro _; rfl) (fun d hd x Hx Sx fx => ?_) fun H10 lt S10 nlt L10 => ?_
      · obtain ⟨row, _, rfl⟩ := List.mem_map.mp hd
        exact mk_cat (mk_var rfl fx) (mk_tup (mk_cons mk_str mk_nil))
      have W10 := W8.same (S9.trans S10)
      have ht10 := S10 _ _ (S9 _ _ ht8)
      have hn10 := Same.seqT (S9.trans S10) hn8
      have f10 := f8.same (S9.trans S10)
      refine ⟨_, rfl, ?_⟩
      refine ⟨_, rfl, n3, _, 1, _, rfl, rfl, hn10, rfl, _, rfl, n3, _, 2, _, rfl, rfl, hn10, rfl, sz (by simp), fun p11 n11 => ?_⟩
      have S11 := Same.new (o := .tup [.str "read", .str (nameOf ai).2.2]) n11
      have f11 : Fx K (upd H10 p11 (.tup [.str "read", .str (nameOf ai).2.2])) (.ref p11) (encS (.read (nameOf ai).2.2)) := ⟨.tup (SqT.of upd_same) (.cons (.str _) (.cons (.str _) .nil)), nlS _ rfl⟩
      generalize upd H10 p11 (.tup [.str "read", .str (nameOf ai).2.2]) = H11 at S11 f11 ⊢
      refine ⟨(nameOf ai).2.1, .read (nameOf ai).2.2, .ref p11, rfl, f11, fun H12 ld S12 nld L12 => ?_⟩
      obtain ⟨us12, hu12, hd12⟩ := L12.ex
      refine ⟨ld, rfl, ⟨_, SqL.of hu12⟩, ?_⟩
      refine comp_mk (f := addW "dead") (vs := [11]) (j := 11) L12 (by simp [deadM]) (by intro _; rfl) (fun d hd x Hx Sx fx => ?_) fun H13 le S13 nle L13 => ?_
      · obtain ⟨row, _, rfl⟩ := List.mem_map.mp hd
        exact mk_cat (mk_var rfl fx) (mk_tup (mk_cons mk_str mk_nil))
      have S1013 := S11.trans (S12.trans S13)
      obtain ⟨us10, hu10, hd10⟩ := L10.ex
      obtain ⟨us13, hu13, hd13⟩ := L13.ex
      refine ⟨lt, le, us10, us13, rfl, rfl, S1013 _ _ hu10, hu13, szl (by rw [dpAll_len hd10, dpAll_len hd13]; simp [unknownM, deadM]), fun lr nlr => ?_⟩
      have S14 := Same.new (o := .lst (us10 ++ us13)) nlr
      have S1014 := S1013.trans S14
      have L14 : LsAt K (upd H13 lr (.lst (us10 ++ us13))) lr ((rowsOf ai ci).map rowW) := by
        have e : (rowsOf ai ci).map rowW = ((unknownM (nameOf ai).1 (nameOf ai).2.1 (useOf ai ci)).map rowD).map (addW "term") ++ ((deadM (nameOf ai).2.1 (.read (nameOf ai).2.2)).map rowD).map (addW "dead") := by
          simp only [rowsOf, List.map_append, List.map_map]
          rfl
        rw [e]
        exact ⟨⟨_, upd_same, dpA_sm S14 (dpAll_app (dpA_sm S1013 hd10) hd13)⟩, nl_app L10.n L13.n⟩
      generalize upd H13 lr (.lst (us10 ++ us13)) = H14 at S14 S1014 L14 ⊢
      have ht14 := S1014 _ _ ht10
      have hn14 := Same.seqT S1014 hn10
      have f14 := f10.same S1014
      obtain ⟨us14, hu14, hd14⟩ := L14.ex
      refine ⟨_, rfl, lr, rfl, ⟨_, SqL.of hu14⟩, ?_⟩
      refine for_list (xs := us14) (fun i σ H' => ∃ (v8 v9 v10 v11 : Option V), σ = [some (.ref a), some (.int cc), some (.ref wl), some (.ref n3), some (.ref p6), some (.int (mi : Int)), some (.bl inner), some (.ref lr), v8, v9, v10, v11] ∧ Same H14 H') ⟨_, _, _, _, rfl, Same.refl _⟩ (fun i σ H' _ h => ?_) ?_ ?_
      · obtain ⟨_, _, _, _, _, S⟩ := h
        exact SqL.of (S _ _ hu14)
      · rintro i x σ H15 hx ⟨v8, v9, v10, v11, rfl, S15⟩
        have hi : i < (rowsOf ai ci).length := by
          have := dpAll_len hd14
          rw [List.length_map] at this
          rw [← this]
          exact (List.getElem?_eq_some_iff.mp hx).1
        have hq := List.getElem?_eq_getElem hi
        have hr := List.getElem_mem hi
        generalize (rowsOf ai ci)[i] = r at hq hr
        obtain ⟨v, hv1, hv2⟩ := dpAll_get hd14 (i := i) (d := rowW r) (by rw [List.getElem?_map, hq]; rfl)
        rw [hx] at hv1
        cases hv1
        have ok := row_get (inner := inner) ha hc hm hr
        have fr : Fx K H15 x (rowW r) := ⟨dp_sm S15 hv2, L14.n _ (List.mem_map.mpr ⟨r, hr, rfl⟩)⟩
        clear hv2 hx hq
        obtain ⟨⟨root, pl⟩, why⟩ := r
        unfold rowOk at ok
        simp only [Bool.and_eq_true, decide_eq_true_eq] at ok
        obtain ⟨⟨o1, ⟨o2, o3⟩, o4⟩, ⟨s1, s2⟩, s3⟩ := ok
        obtain ⟨tl, nb⟩ := told_of o1
        obtain ⟨pa, pl, rfl⟩ : ∃ a p, pl = a :: p := by
          match pl, o2 with
          | a :: p, _ => exact ⟨a, p, rfl⟩
        obtain ⟨ra, rx, rfl, hra, g⟩ := fx_tup fr
        obtain ⟨r0, _, rfl, gb, g⟩ := fxa_cons g
        obtain ⟨r1, _, rfl, gp, g⟩ := fxa_cons g
        obtain ⟨r2, _, rfl, gw, g⟩ := fxa_cons g
        cases fxa_nil g
        cases inv_str gw.p
        refine ⟨ra, _, rfl, hra, rfl, _, _, rfl, _, _, rfl, _, _, rfl, rfl, ?_⟩
        refine ⟨_, rfl, _, rfl, _, rfl, _, rfl, r0, r1, mi, inner, root, pa, pl, rfl, gb, gp, by omega, o4, by rw [List.length_cons] at o3; omega, fun v H16 S16 f16 => ?_⟩
        obtain ⟨wa, wx, rfl, hwa, g⟩ := fx_tup f16
        obtain ⟨w0, _, rfl, fb, g⟩ := fxa_cons g
        obtain ⟨w1, _, rfl, fp, g⟩ := fxa_cons g
        cases fxa_nil g
        refine ⟨wa, _, rfl, hwa, rfl, _, _, rfl, _, _, rfl, rfl, ?_⟩
        refine ⟨_, rfl, w0, withB mi inner root, rfl, fb.p, tl, fun H17 u S17 d17 => ?_⟩
        refine ⟨_, rfl, _, rfl, sz (by simp), fun p18 n18 => ?_⟩
        have S18 := Same.new (o := .tup [w1, .str why]) n18
        refine ⟨_, .tuple [pD (withP mi inner (pa :: pl)), .str why], dp_sm S18 d17, .tup (SqT.of upd_same) (.cons (dp_sm (S17.trans S18) fp.p) (.cons (.str _) .nil)), s1, s2, _, rfl, ?_⟩
        rw [s3]
        refine iteF ?_
        exact ⟨_, _, _, _, rfl, S15.trans (S16.trans (S17.trans S18))⟩
      · rintro σ H15 ⟨v8, v9, v10, v11, rfl, S15⟩
        have hn15 := Same.seqT S15 hn14
        refine ⟨_, rfl, n3, _, 0, _, rfl, rfl, hn15, rfl, _, rfl, n3, _, 1, _, rfl, rfl, hn15, rfl, _, rfl, (nameOf ai).1, (nameOf ai).2.1, useOf ai ci, .ref p6, rfl, f14.same S15, fun H16 lk S16 nlk L16 => ?_⟩
        obtain ⟨us16, hu16, hd16⟩ := L16.ex
        have ht16 := S16 _ _ (S15 _ _ ht14)
        refine ⟨lk, rfl, ⟨_, SqL.of hu16⟩, ?_⟩
        refine for_list (xs := us16) (fun i σ H' => ∃ (v8 v9 v10 v11 : Option V), σ = [some (.ref a), some (.int cc), some (.ref wl), some (.ref n3), some (.ref p6), some (.int (mi : Int)), some (.bl inner), some (.ref lr), v8, v9, v10, v11] ∧ Same H16 H') ⟨_, _, _, _, rfl, Same.refl _⟩ (fun i σ H' _ h => ?_) ?_ ?_
        · obtain ⟨_, _, _, _, _, S⟩ := h
          exact SqL.of (S _ _ hu16)
        · rintro i x σ H17 hx ⟨v8, v9, v10, v11, rfl, S17⟩
          have hi : i < (takenM (nameOf ai).1 (nameOf ai).2.1 (useOf ai ci)).length := by
            have := dpAll_len hd16
            rw [List.length_map] at this
            rw [← this]
            exact (List.getElem?_eq_some_iff.mp hx).1
          have hq := List.getElem?_eq_getElem hi
          have hr := List.getElem_mem hi
          generalize (takenM (nameOf ai).1 (nameOf ai).2.1 (useOf ai ci))[i] = root at hq hr
          obtain ⟨v, hv1, hv2⟩ := dpAll_get hd16 (i := i) (d := blkD root) (by rw [List.getElem?_map, hq]; rfl)
          rw [hx] at hv1
          cases hv1
          have ok := taken_get (inner := inner) ha hc hm hr
          have fr : Fx K H17 x (blkD root) := ⟨dp_sm S17 hv2, L16.n _ (List.mem_map.mpr ⟨root, hr, rfl⟩)⟩
          clear hv2 hx hq
          unfold takenOk at ok
          simp only [Bool.and_eq_true, decide_eq_true_eq] at ok
          obtain ⟨⟨o1, o4⟩, s1, s3⟩ := ok
          obtain ⟨tl, nb⟩ := told_of o1
          refine ⟨_, rfl, ?_⟩
          refine ⟨sz (by simp), fun p18 n18 => ?_⟩
          have S18 := Same.new (o := .tup [.int 0]) n18
          have f18 : Fx K (upd H17 p18 (.tup [.int 0])) (.ref p18) (pD [0]) := ⟨.tup (SqT.of upd_same) (.cons (.int _) .nil), .tup _ (nl_cons (.int _) nl_nil)⟩
          generalize upd H17 p18 (.tup [.int 0]) = H18 at S18 f18 ⊢
          refine ⟨_, rfl, _, rfl, x, .ref p18, mi, inner, root, 0, [], rfl, fr.same S18, f18, by omega, o4, by simp, fun v H19 S19 f19 => ?_⟩
          obtain ⟨wa, wx, rfl, hwa, g⟩ := fx_tup f19
          obtain ⟨w0, _, rfl, fb, g⟩ := fxa_cons g
          obtain ⟨w1, _, rfl, fp, g⟩ := fxa_cons g
          cases fxa_nil g
          refine ⟨wa, _, 0, _, rfl, rfl, hwa, rfl, ?_⟩
          refine ⟨w0, withB mi inner root, rfl, fb.p, tl, fun H20 u S20 d20 => ?_⟩
          refine ⟨sz (by simp), fun p21 n21 => ?_⟩
          have S21 := Same.new (o := .tup [.str "told"]) n21
          refine ⟨_, .tuple [.str "told"], dp_sm S21 d20, .tup (SqT.of upd_same) (.cons (.str _) .nil), s1, by decide +kernel, _, rfl, ?_⟩
          rw [s3]
          refine iteF ?_
          exact ⟨_, _, _, _, rfl, S17.trans (S18.trans (S19.trans (S20.trans S21)))⟩
        · rintro σ H17 ⟨v8, v9, v10, v11, rfl, S17⟩
          exact ⟨_, _, _, _, _, _, _, _, _, _, _, rfl, S17 _ _ ht16⟩
    · rintro σ H0 _
      exact k H0
end
end K17

namespace K17
open PySem L2 Bx He Pm
theorem facts {l : PySem.W.OpenLaw} {w : World} {K : PySem.W.Frag} {h : Heap} {mg : Str → Option Value} {fa : Addr} (X : K.In h) (G : h.Ns mainGlobals mg) (hfa : mg ("law" : Str) = some (.ref fa)) (c : Hy.obsY BX hfnX tsX K = Hy.valY hfnX tsX w) :
    ∃ fd : FuncData, (∀ (s : Shared) (v : Value), BindsTo s fd ⟨[v], []⟩ [("_law_script", v)]) ∧ ∀ base : Heap, K.In base → base.Ns mainGlobals mg → FnOk l.prog w K mg base C8.CX0 58 fa fd ["_law_script"] (spLaw K) := by
  have hB := Hy.says_fact c
  obtain ⟨hf, mm⟩ := ba (show ((faX.all fun f => f.ok K) && moreX K) = true from hB)
  have fact : ∀ (i : Nat) {f : Fa}, faX[i]? = some f → f.ok K = true := fun i {f} h => List.all_eq_true.mp hf f (List.mem_of_getElem? h)
  obtain ⟨m0, mm⟩ := ba mm
  obtain ⟨m1, mm⟩ := ba mm
  obtain ⟨m2, mm⟩ := ba mm
  obtain ⟨m3, mm⟩ := ba mm
  obtain ⟨m4, mm⟩ := ba mm
  obtain ⟨m5, mm⟩ := ba mm
  obtain ⟨m6, mm⟩ := ba mm
  obtain ⟨m7, mm⟩ := ba mm
  obtain ⟨m8, mm⟩ := ba mm
  obtain ⟨m9, mm⟩ := ba mm
  have e := hfa.symm.trans (glo_ok X G (fact 31 (f := .glo "law") rfl))
  cases e
  have BB_BARRED : Kd.SD K w (ga K "BARRED") barredW := Hy.says_tab c 0 (t := (fun K => ga K "BARRED", barredW)) rfl
  have BB_SHAPES : Kd.SD K w (ga K "SHAPES") (shapes.map (·.1)) := Hy.says_tab c 1 (t := (fun K => ga K "SHAPES", (shapes.map (·.1)))) rfl
  have T : Txt K mg (AD K) := { g_Check := (glo_ok X G (fact 32 (f := .glo "Check") rfl)), g_Program := (glo_ok X G (fact 33 (f := .glo "Program") rfl)), cK := cls_ok (fact 58 (f := .cls "Check") rfl), cP := cls_ok (fact 59 (f := .cls "Program") rfl), nK := ⟨noat_ok (fact 60 (f := .noat "Check" "inputs") rfl), noat_ok (fact 61 (f := .noat "Check" "block") rfl), noat_ok (fact 62 (f := .noat "Check" "settings") rfl), noat_ok (fact 63 (f := .noat "Check" "known") rfl), noat_ok (fact 64 (f := .noat "Check" "flow") rfl)⟩, nP := ⟨noat_ok (fact 65 (f := .noat "Program" "inputs") rfl), noat_ok (fact 66 (f := .noat "Program" "block") rfl), noat_ok (fact 67 (f := .noat "Program" "flow") rfl), noat_ok (fact 68 (f := .noat "Program" "known_before") rfl), noat_ok (fact 69 (f := .noat "Program" "settings") rfl), noat_ok (fact 70 (f := .noat "Program" "kept") rfl)⟩, c_END := ⟨_, (glo_ok X G (fact 35 (f := .glo "END") rfl)), rfl⟩, c_LEAVE := ⟨_, (glo_ok X G (fact 36 (f := .glo "LEAVE") rfl)), rfl⟩, c_LONGEST := (by obtain ⟨t, h⟩ := int_ok X G (fact 40 (f := .int "LONGEST" 8) rfl); exact ⟨_, h, t, rfl⟩), c_MOST_HANDLERS := (by obtain ⟨t, h⟩ := int_ok X G (fact 41 (f := .int "MOST_HANDLERS" 3) rfl); exact ⟨_, h, t, rfl⟩), c_BARRED := ⟨_, (glo_ok X G (fact 34 (f := .glo "BARRED") rfl)), rfl⟩, c_SHAPES := ⟨_, (glo_ok X G (fact 37 (f := .glo "SHAPES") rfl)), rfl⟩, tEnd := fun H => seqB_ok m7 H, tLeave := fun H => seqB_ok m8 H, z_sum := free_ok X G (fact 42 (f := .free "sum") rfl), z_isinstance := free_ok X G (fact 43 (f := .free "isinstance") rfl), z_len := free_ok X G (fact 44 (f := .free "len") rfl), z_int := free_ok X G (fact 45 (f := .free "int") rfl), z_bool := free_ok X G (fact 46 (f := .free "bool") rfl), z_str := free_ok X G (fact 47 (f := .free "str") rfl), z_tuple := free_ok X G (fact 48 (f := .free "tuple") rfl), z_list := free_ok X G (fact 49 (f := .free "list") rfl), z_dict := free_ok X G (fact 50 (f := .free "dict") rfl), z_set := free_ok X G (fact 51 (f := .free "set") rfl), z_range := free_ok X G (fact 52 (f := .free "range") rfl), z_enumerate := free_ok X G (fact 53 (f := .free "enumerate") rfl), z_zip := free_ok X G (fact 54 (f := .free "zip") rfl), z_sorted := free_ok X G (fact 55 (f := .free "sorted") rfl), z_all := free_ok X G (fact 56 (f := .free "all") rfl), z_any := free_ok X G (fact 57 (f := .free "any") rfl) }
  have SS : ShpOk K w (ga K "SHAPES") := shpB_ok BB_SHAPES m9
  have RR : Rf K (ga K "BadProgram") := ⟨of_decide_eq_true m5, xfB_ok m6⟩
  obtain ⟨oc0, od0, kV0, dc0, pm0, an0, cd0, ct0, sl0, l0, c0, k0⟩ := Hy.says_fun c 0 (d := ⟨fun K => ga K "either_flow", "either_flow", "either_flow", C8.fnArgs s_either_flow, C8.fnBody s_either_flow, C8.fnScope s_either_flow⟩) rfl
  have F0 : C8.Fun K "either_flow" "either_flow" s_either_flow (ga K "either_flow") _ := ⟨⟨_, _, _, _, _, _, _, _, _, _, rfl, l0, c0⟩⟩
  have D0 : C8.Def K mg "either_flow" s_either_flow (ga K "either_flow") _ := ⟨F0, (glo_ok X G (fact 0 (f := .glo "either_flow") rfl)), k0⟩
  have b0 : Binds K _ ["one", "other"] [] := C8.Fun.binds F0 rfl fun _ _ _ _ _ _ us hl => match us, hl with | [_, _], _ => rfl
  obtain ⟨oc1, od1, kV1, dc1, pm1, an1, cd1, ct1, sl1, l1, c1, k1⟩ := Hy.says_fun c 1 (d := ⟨fun K => ga K "without_end", "without_end", "without_end", C8.fnArgs s_without_end, C8.fnBody s_without_end, C8.fnScope s_without_end⟩) rfl
  have F1 : C8.Fun K "without_end" "without_end" s_without_end (ga K "without_end") _ := ⟨⟨_, _, _, _, _, _, _, _, _, _, rfl, l1, c1⟩⟩
  have D1 : C8.Def K mg "without_end" s_without_end (ga K "without_end") _ := ⟨F1, (glo_ok X G (fact 1 (f := .glo "without_end") rfl)), k1⟩
  have b1 : Binds K _ ["flow"] [] := C8.Fun.binds F1 rfl fun _ _ _ _ _ _ us hl => match us, hl with | [_], _ => rfl
  obtain ⟨oc2, od2, kV2, dc2, pm2, an2, cd2, ct2, sl2, l2, c2, k2⟩ := Hy.says_fun c 2 (d := ⟨fun K => ga K "simple_flow", "simple_flow", "simple_flow", C8.fnArgs s_simple_flow, C8.fnBody s_simple_flow, C8.fnScope s_simple_flow⟩) rfl
  have F2 : C8.Fun K "simple_flow" "simple_flow" s_simple_flow (ga K "simple_flow") _ := ⟨⟨_, _, _, _, _, _, _, _, _, _, rfl, l2, c2⟩⟩
  have D2 : C8.Def K mg "simple_flow" s_simple_flow (ga K "simple_flow") _ := ⟨F2, (glo_ok X G (fact 2 (f := .glo "simple_flow") rfl)), k2⟩
  have b2 : Binds K _ ["statement", "known"] [] := C8.Fun.binds F2 rfl fun _ _ _ _ _ _ us hl => match us, hl with | [_, _], _ => rfl
  obtain ⟨oc3, od3, kV3, dc3, pm3, an3, cd3, ct3, sl3, l3, c3, k3⟩ := Hy.says_fun c 3 (d := ⟨fun K => ga K "loop_flow", "loop_flow", "loop_flow", C8.fnArgs s_loop_flow, C8.fnBody s_loop_flow, C8.fnScope s_loop_flow⟩) rfl
  have F3 : C8.Fun K "loop_flow" "loop_flow" s_loop_flow (ga K "loop_flow") _ := ⟨⟨_, _, _, _, _, _, _, _, _, _, rfl, l3, c3⟩⟩
  have D3 : C8.Def K mg "loop_flow" s_loop_flow (ga K "loop_flow") _ := ⟨F3, (glo_ok X G (fact 3 (f := .glo "loop_flow") rfl)), k3⟩
  have b3 : Binds K _ ["body", "other"] [] := C8.Fun.binds F3 rfl fun _ _ _ _ _ _ us hl => match us, hl with | [_, _], _ => rfl
  obtain ⟨oc4, od4, kV4, dc4, pm4, an4, cd4, ct4, sl4, l4, c4, k4⟩ := Hy.says_fun c 4 (d := ⟨fun K => ga K "first_fit", "first_fit", "first_fit", C8.fnArgs s_first_fit, C8.fnBody s_first_fit, C8.fnScope s_first_fit⟩) rfl
  have F4 : C8.Fun K "first_fit" "first_fit" s_first_fit (ga K "first_fit") _ := ⟨⟨_, _, _, _, _, _, _, _, _, _, rfl, l4, c4⟩⟩
  have D4 : C8.Def K mg "first_fit" s_first_fit (ga K "first_fit") _ := ⟨F4, (glo_ok X G (fact 4 (f := .glo "first_fit") rfl)), k4⟩
  have b4 : Binds K _ ["handlers", "kind"] [] := C8.Fun.binds F4 rfl fun _ _ _ _ _ _ us hl => match us, hl with | [_, _], _ => rfl
  obtain ⟨oc5, od5, kV5, dc5, pm5, an5, cd5, ct5, sl5, l5, c5, k5⟩ := Hy.says_fun c 5 (d := ⟨fun K => ga K "try_flow", "try_flow", "try_flow", C8.fnArgs s_try_flow, C8.fnBody s_try_flow, C8.fnScope s_try_flow⟩) rfl
  have F5 : C8.Fun K "try_flow" "try_flow" s_try_flow (ga K "try_flow") _ := ⟨⟨_, _, _, _, _, _, _, _, _, _, rfl, l5, c5⟩⟩
  have D5 : C8.Def K mg "try_flow" s_try_flow (ga K "try_flow") _ := ⟨F5, (glo_ok X G (fact 5 (f := .glo "try_flow") rfl)), k5⟩
  have b5 : Binds K _ ["handlers", "flows"] [] := C8.Fun.binds F5 rfl fun _ _ _ _ _ _ us hl => match us, hl with | [_, _], _ => rfl
  obtain ⟨oc6, od6, kV6, dc6, pm6, an6, cd6, ct6, sl6, l6, c6, k6⟩ := Hy.says_fun c 6 (d := ⟨fun K => ga K "is_number", "is_number", "is_number", C8.fnArgs s_is_number, C8.fnBody s_is_number, C8.fnScope s_is_number⟩) rfl
  have F6 : C8.Fun K "is_number" "is_number" s_is_number (ga K "is_number") _ := ⟨⟨_, _, _, _, _, _, _, _, _, _, rfl, l6, c6⟩⟩
  have D6 : C8.Def K mg "is_number" s_is_number (ga K "is_number") _ := ⟨F6, (glo_ok X G (fact 6 (f := .glo "is_number") rfl)), k6⟩
  have b6 : Binds K _ ["thing"] [] := C8.Fun.binds F6 rfl fun _ _ _ _ _ _ us hl => match us, hl with | [_], _ => rfl
  obtain ⟨oc7, od7, kV7, dc7, pm7, an7, cd7, ct7, sl7, l7, c7, k7⟩ := Hy.says_fun c 7 (d := ⟨fun K => ga K "is_word", "is_word", "is_word", C8.fnArgs s_is_word, C8.fnBody s_is_word, C8.fnScope s_is_word⟩) rfl
  have F7 : C8.Fun K "is_word" "is_word" s_is_word (ga K "is_word") _ := ⟨⟨_, _, _, _, _, _, _, _, _, _, rfl, l7, c7⟩⟩
  have D7 : C8.Def K mg "is_word" s_is_word (ga K "is_word") _ := ⟨F7, (glo_ok X G (fact 7 (f := .glo "is_word") rfl)), k7⟩
  have b7 : Binds K _ ["thing"] [] := C8.Fun.binds F7 rfl fun _ _ _ _ _ _ us hl => match us, hl with | [_], _ => rfl
  obtain ⟨oc8, od8, kV8, dc8, pm8, an8, cd8, ct8, sl8, l8, c8, k8⟩ := Hy.says_fun c 8 (d := ⟨fun K => ga K "is_name", "is_name", "is_name", C8.fnArgs s_is_name, C8.fnBody s_is_name, C8.fnScope s_is_name⟩) rfl
  have F8 : C8.Fun K "is_name" "is_name" s_is_name (ga K "is_name") _ := ⟨⟨_, _, _, _, _, _, _, _, _, _, rfl, l8, c8⟩⟩
  have D8 : C8.Def K mg "is_name" s_is_name (ga K "is_name") _ := ⟨F8, (glo_ok X G (fact 8 (f := .glo "is_name") rfl)), k8⟩
  have b8 : Binds K _ ["thing"] [] := C8.Fun.binds F8 rfl fun _ _ _ _ _ _ us hl => match us, hl with | [_], _ => rfl
  obtain ⟨oc9, od9, kV9, dc9, pm9, an9, cd9, ct9, sl9, l9, c9, k9⟩ := Hy.says_fun c 9 (d := ⟨fun K => ga K "are_different", "are_different", "are_different", C8.fnArgs s_are_different, C8.fnBody s_are_different, C8.fnScope s_are_different⟩) rfl
  have F9 : C8.Fun K "are_different" "are_different" s_are_different (ga K "are_different") _ := ⟨⟨_, _, _, _, _, _, _, _, _, _, rfl, l9, c9⟩⟩
  have D9 : C8.Def K mg "are_different" s_are_different (ga K "are_different") _ := ⟨F9, (glo_ok X G (fact 9 (f := .glo "are_different") rfl)), k9⟩
  have b9 : Binds K _ ["things"] [] := C8.Fun.binds F9 rfl fun _ _ _ _ _ _ us hl => match us, hl with | [_], _ => rfl
  obtain ⟨oc10, od10, kV10, dc10, pm10, an10, cd10, ct10, sl10, l10, c10, k10⟩ := Hy.says_fun c 10 (d := ⟨fun K => ga K "are_names", "are_names", "are_names", C8.fnArgs s_are_names, C8.fnBody s_are_names, C8.fnScope s_are_names⟩) rfl
  have F10 : C8.Fun K "are_names" "are_names" s_are_names (ga K "are_names") _ := ⟨⟨_, _, _, _, _, _, _, _, _, _, rfl, l10, c10⟩⟩
  have D10 : C8.Def K mg "are_names" s_are_names (ga K "are_names") _ := ⟨F10, (glo_ok X G (fact 10 (f := .glo "are_names") rfl)), k10⟩
  have b10 : Binds K _ ["thing"] [] := C8.Fun.binds F10 rfl fun _ _ _ _ _ _ us hl => match us, hl with | [_], _ => rfl
  obtain ⟨oc11, od11, kV11, dc11, pm11, an11, cd11, ct11, sl11, l11, c11, k11⟩ := Hy.says_fun c 11 (d := ⟨fun K => ga K "is_literal", "is_literal", "is_literal", C8.fnArgs s_is_literal, C8.fnBody s_is_literal, C8.fnScope s_is_literal⟩) rfl
  have F11 : C8.Fun K "is_literal" "is_literal" s_is_literal (ga K "is_literal") _ := ⟨⟨_, _, _, _, _, _, _, _, _, _, rfl, l11, c11⟩⟩
  have D11 : C8.Def K mg "is_literal" s_is_literal (ga K "is_literal") _ := ⟨F11, (glo_ok X G (fact 11 (f := .glo "is_literal") rfl)), k11⟩
  have b11 : Binds K _ ["thing"] [] := C8.Fun.binds F11 rfl fun _ _ _ _ _ _ us hl => match us, hl with | [_], _ => rfl
  obtain ⟨oc12, od12, kV12, dc12, pm12, an12, cd12, ct12, sl12, l12, c12, k12⟩ := Hy.says_fun c 12 (d := ⟨fun K => ga K "is_term", "is_term", "is_term", C8.fnArgs s_is_term, C8.fnBody s_is_term, C8.fnScope s_is_term⟩) rfl
  have F12 : C8.Fun K "is_term" "is_term" s_is_term (ga K "is_term") _ := ⟨⟨_, _, _, _, _, _, _, _, _, _, rfl, l12, c12⟩⟩
  have D12 : C8.Def K mg "is_term" s_is_term (ga K "is_term") _ := ⟨F12, (glo_ok X G (fact 12 (f := .glo "is_term") rfl)), k12⟩
  have b12 : Binds K _ ["thing"] [] := C8.Fun.binds F12 rfl fun _ _ _ _ _ _ us hl => match us, hl with | [_], _ => rfl
  obtain ⟨oc13, od13, kV13, dc13, pm13, an13, cd13, ct13, sl13, l13, c13, k13⟩ := Hy.says_fun c 13 (d := ⟨fun K => ga K "is_named_literal", "is_named_literal", "is_named_literal", C8.fnArgs s_is_named_literal, C8.fnBody s_is_named_literal, C8.fnScope s_is_named_literal⟩) rfl
  have F13 : C8.Fun K "is_named_literal" "is_named_literal" s_is_named_literal (ga K "is_named_literal") _ := ⟨⟨_, _, _, _, _, _, _, _, _, _, rfl, l13, c13⟩⟩
  have D13 : C8.Def K mg "is_named_literal" s_is_named_literal (ga K "is_named_literal") _ := ⟨F13, (glo_ok X G (fact 13 (f := .glo "is_named_literal") rfl)), k13⟩
  have b13 : Binds K _ ["thing"] [] := C8.Fun.binds F13 rfl fun _ _ _ _ _ _ us hl => match us, hl with | [_], _ => rfl
  obtain ⟨oc14, od14, kV14, dc14, pm14, an14, cd14, ct14, sl14, l14, c14, k14⟩ := Hy.says_fun c 14 (d := ⟨fun K => ga K "is_value", "is_value", "is_value", C8.fnArgs s_is_value, C8.fnBody s_is_value, C8.fnScope s_is_value⟩) rfl
  have F14 : C8.Fun K "is_value" "is_value" s_is_value (ga K "is_value") _ := ⟨⟨_, _, _, _, _, _, _, _, _, _, rfl, l14, c14⟩⟩
  have D14 : C8.Def K mg "is_value" s_is_value (ga K "is_value") _ := ⟨F14, (glo_ok X G (fact 14 (f := .glo "is_value") rfl)), k14⟩
  have b14 : Binds K _ ["thing"] [] := C8.Fun.binds F14 rfl fun _ _ _ _ _ _ us hl => match us, hl with | [_], _ => rfl
  obtain ⟨oc15, od15, kV15, dc15, pm15, an15, cd15, ct15, sl15, l15, c15, k15⟩ := Hy.says_fun c 15 (d := ⟨fun K => ga K "is_handler", "is_handler", "is_handler", C8.fnArgs s_is_handler, C8.fnBody s_is_handler, C8.fnScope s_is_handler⟩) rfl
  have F15 : C8.Fun K "is_handler" "is_handler" s_is_handler (ga K "is_handler") _ := ⟨⟨_, _, _, _, _, _, _, _, _, _, rfl, l15, c15⟩⟩
  have D15 : C8.Def K mg "is_handler" s_is_handler (ga K "is_handler") _ := ⟨F15, (glo_ok X G (fact 15 (f := .glo "is_handler") rfl)), k15⟩
  have b15 : Binds K _ ["thing"] [] := C8.Fun.binds F15 rfl fun _ _ _ _ _ _ us hl => match us, hl with | [_], _ => rfl
  obtain ⟨oc16, od16, kV16, dc16, pm16, an16, cd16, ct16, sl16, l16, c16, k16⟩ := Hy.says_fun c 16 (d := ⟨fun K => ga K "is_of_kind", "is_of_kind", "is_of_kind", C8.fnArgs s_is_of_kind, C8.fnBody s_is_of_kind, C8.fnScope s_is_of_kind⟩) rfl
  have F16 : C8.Fun K "is_of_kind" "is_of_kind" s_is_of_kind (ga K "is_of_kind") _ := ⟨⟨_, _, _, _, _, _, _, _, _, _, rfl, l16, c16⟩⟩
  have D16 : C8.Def K mg "is_of_kind" s_is_of_kind (ga K "is_of_kind") _ := ⟨F16, (glo_ok X G (fact 16 (f := .glo "is_of_kind") rfl)), k16⟩
  have b16 : Binds K _ ["part", "kind"] [] := C8.Fun.binds F16 rfl fun _ _ _ _ _ _ us hl => match us, hl with | [_, _], _ => rfl
  obtain ⟨oc17, od17, kV17, dc17, pm17, an17, cd17, ct17, sl17, l17, c17, k17⟩ := Hy.says_fun c 17 (d := ⟨fun K => ga K "has_shape", "has_shape", "has_shape", C8.fnArgs s_has_shape, C8.fnBody s_has_shape, C8.fnScope s_has_shape⟩) rfl
  have F17 : C8.Fun K "has_shape" "has_shape" s_has_shape (ga K "has_shape") _ := ⟨⟨_, _, _, _, _, _, _, _, _, _, rfl, l17, c17⟩⟩
  have D17 : C8.Def K mg "has_shape" s_has_shape (ga K "has_shape") _ := ⟨F17, (glo_ok X G (fact 17 (f := .glo "has_shape") rfl)), k17⟩
  have b17 : Binds K _ ["thing"] [] := C8.Fun.binds F17 rfl fun _ _ _ _ _ _ us hl => match us, hl with | [_], _ => rfl
  obtain ⟨oc18, od18, kV18, dc18, pm18, an18, cd18, ct18, sl18, l18, c18, k18⟩ := Hy.says_fun c 18 (d := ⟨fun K => ga K "terms_of", "terms_of", "terms_of", C8.fnArgs s_terms_of, C8.fnBody s_terms_of, C8.fnScope s_terms_of⟩) rfl
  have F18 : C8.Fun K "terms_of" "terms_of" s_terms_of (ga K "terms_of") _ := ⟨⟨_, _, _, _, _, _, _, _, _, _, rfl, l18, c18⟩⟩
  have D18 : C8.Def K mg "terms_of" s_terms_of (ga K "terms_of") _ := ⟨F18, (glo_ok X G (fact 18 (f := .glo "terms_of") rfl)), k18⟩
  have b18 : Binds K _ ["statement"] [] := C8.Fun.binds F18 rfl fun _ _ _ _ _ _ us hl => match us, hl with | [_], _ => rfl
  obtain ⟨oc19, od19, kV19, dc19, pm19, an19, cd19, ct19, sl19, l19, c19, k19⟩ := Hy.says_fun c 19 (d := ⟨fun K => ga K "handlers_of", "handlers_of", "handlers_of", C8.fnArgs s_handlers_of, C8.fnBody s_handlers_of, C8.fnScope s_handlers_of⟩) rfl
  have F19 : C8.Fun K "handlers_of" "handlers_of" s_handlers_of (ga K "handlers_of") _ := ⟨⟨_, _, _, _, _, _, _, _, _, _, rfl, l19, c19⟩⟩
  have D19 : C8.Def K mg "handlers_of" s_handlers_of (ga K "handlers_of") _ := ⟨F19, (glo_ok X G (fact 19 (f := .glo "handlers_of") rfl)), k19⟩
  have b19 : Binds K _ ["statement"] [] := C8.Fun.binds F19 rfl fun _ _ _ _ _ _ us hl => match us, hl with | [_], _ => rfl
  obtain ⟨oc20, od20, kV20, dc20, pm20, an20, cd20, ct20, sl20, l20, c20, k20⟩ := Hy.says_fun c 20 (d := ⟨fun K => ga K "blocks_of", "blocks_of", "blocks_of", C8.fnArgs s_blocks_of, C8.fnBody s_blocks_of, C8.fnScope s_blocks_of⟩) rfl
  have F20 : C8.Fun K "blocks_of" "blocks_of" s_blocks_of (ga K "blocks_of") _ := ⟨⟨_, _, _, _, _, _, _, _, _, _, rfl, l20, c20⟩⟩
  have D20 : C8.Def K mg "blocks_of" s_blocks_of (ga K "blocks_of") _ := ⟨F20, (glo_ok X G (fact 20 (f := .glo "blocks_of") rfl)), k20⟩
  have b20 : Binds K _ ["statement"] [] := C8.Fun.binds F20 rfl fun _ _ _ _ _ _ us hl => match us, hl with | [_], _ => rfl
  obtain ⟨oc21, od21, kV21, dc21, pm21, an21, cd21, ct21, sl21, l21, c21, k21⟩ := Hy.says_fun c 21 (d := ⟨fun K => ga K "settings_of", "settings_of", "settings_of", C8.fnArgs s_settings_of, C8.fnBody s_settings_of, C8.fnScope s_settings_of⟩) rfl
  have F21 : C8.Fun K "settings_of" "settings_of" s_settings_of (ga K "settings_of") _ := ⟨⟨_, _, _, _, _, _, _, _, _, _, rfl, l21, c21⟩⟩
  have D21 : C8.Def K mg "settings_of" s_settings_of (ga K "settings_of") _ := ⟨F21, (glo_ok X G (fact 21 (f := .glo "settings_of") rfl)), k21⟩
  have b21 : Binds K _ ["statement", "place"] [] := C8.Fun.binds F21 rfl fun _ _ _ _ _ _ us hl => match us, hl with | [_, _], _ => rfl
  obtain ⟨oc22, od22, kV22, dc22, pm22, an22, cd22, ct22, sl22, l22, c22, k22⟩ := Hy.says_fun c 22 (d := ⟨fun K => ga K "statement_at", "statement_at", "statement_at", C8.fnArgs s_statement_at, C8.fnBody s_statement_at, C8.fnScope s_statement_at⟩) rfl
  have F22 : C8.Fun K "statement_at" "statement_at" s_statement_at (ga K "statement_at") _ := ⟨⟨_, _, _, _, _, _, _, _, _, _, rfl, l22, c22⟩⟩
  have D22 : C8.Def K mg "statement_at" s_statement_at (ga K "statement_at") _ := ⟨F22, (glo_ok X G (fact 22 (f := .glo "statement_at") rfl)), k22⟩
  have b22 : Binds K _ ["block", "place"] [] := C8.Fun.binds F22 rfl fun _ _ _ _ _ _ us hl => match us, hl with | [_, _], _ => rfl
  obtain ⟨oc23, od23, kV23, dc23, pm23, an23, cd23, ct23, sl23, l23, c23, k23⟩ := Hy.says_fun c 23 (d := ⟨fun K => ga K "are_apart", "are_apart", "are_apart", C8.fnArgs s_are_apart, C8.fnBody s_are_apart, C8.fnScope s_are_apart⟩) rfl
  have F23 : C8.Fun K "are_apart" "are_apart" s_are_apart (ga K "are_apart") _ := ⟨⟨_, _, _, _, _, _, _, _, _, _, rfl, l23, c23⟩⟩
  have D23 : C8.Def K mg "are_apart" s_are_apart (ga K "are_apart") _ := ⟨F23, (glo_ok X G (fact 23 (f := .glo "are_apart") rfl)), k23⟩
  have b23 : Binds K _ ["block", "one", "other"] [] := C8.Fun.binds F23 rfl fun _ _ _ _ _ _ us hl => match us, hl with | [_, _, _], _ => rfl
  obtain ⟨oc24, od24, kV24, dc24, pm24, an24, cd24, ct24, sl24, l24, c24, k24⟩ := Hy.says_fun c 24 (d := ⟨fun K => ga K "_law_well", "_law_well", "_law_well", C8.fnArgs s_l_well, C8.fnBody s_l_well, C8.fnScope s_l_well⟩) rfl
  have F24 : C8.Fun K "_law_well" "_law_well" s_l_well (ga K "_law_well") _ := ⟨⟨_, _, _, _, _, _, _, _, _, _, rfl, l24, c24⟩⟩
  have D24 : C8.Def K mg "_law_well" s_l_well (ga K "_law_well") _ := ⟨F24, (glo_ok X G (fact 24 (f := .glo "_law_well") rfl)), k24⟩
  have b24 : Binds K _ ["_law_cell"] [] := C8.Fun.binds F24 rfl fun _ _ _ _ _ _ us hl => match us, hl with | [_], _ => rfl
  obtain ⟨oc25, od25, kV25, dc25, pm25, an25, cd25, ct25, sl25, l25, c25, k25⟩ := Hy.says_fun c 25 (d := ⟨fun K => ga K "_law_draw", "_law_draw", "_law_draw", C8.fnArgs s_l_draw, C8.fnBody s_l_draw, C8.fnScope s_l_draw⟩) rfl
  have F25 : C8.Fun K "_law_draw" "_law_draw" s_l_draw (ga K "_law_draw") _ := ⟨⟨_, _, _, _, _, _, _, _, _, _, rfl, l25, c25⟩⟩
  have D25 : C8.Def K mg "_law_draw" s_l_draw (ga K "_law_draw") _ := ⟨F25, (glo_ok X G (fact 25 (f := .glo "_law_draw") rfl)), k25⟩
  have b25 : Binds K _ ["_law_well_here", "_law_base"] [] := C8.Fun.binds F25 rfl fun _ _ _ _ _ _ us hl => match us, hl with | [_, _], _ => rfl
  obtain ⟨oc26, od26, kV26, dc26, pm26, an26, cd26, ct26, sl26, l26, c26, k26⟩ := Hy.says_fun c 26 (d := ⟨fun K => ga K "_law_one", "_law_one", "_law_one", C8.fnArgs s_l_one, C8.fnBody s_l_one, C8.fnScope s_l_one⟩) rfl
  have F26 : C8.Fun K "_law_one" "_law_one" s_l_one (ga K "_law_one") _ := ⟨⟨_, _, _, _, _, _, _, _, _, _, rfl, l26, c26⟩⟩
  have D26 : C8.Def K mg "_law_one" s_l_one (ga K "_law_one") _ := ⟨F26, (glo_ok X G (fact 26 (f := .glo "_law_one") rfl)), k26⟩
  have b26 : Binds K _ ["_law_well_here", "_law_some"] [] := C8.Fun.binds F26 rfl fun _ _ _ _ _ _ us hl => match us, hl with | [_, _], _ => rfl
  obtain ⟨oc27, od27, kV27, dc27, pm27, an27, cd27, ct27, sl27, l27, c27, k27⟩ := Hy.says_fun c 27 (d := ⟨fun K => ga K "_law_within", "_law_within", "_law_within", C8.fnArgs s_l_within, C8.fnBody s_l_within, C8.fnScope s_l_within⟩) rfl
  have F27 : C8.Fun K "_law_within" "_law_within" s_l_within (ga K "_law_within") _ := ⟨⟨_, _, _, _, _, _, _, _, _, _, rfl, l27, c27⟩⟩
  have D27 : C8.Def K mg "_law_within" s_l_within (ga K "_law_within") _ := ⟨F27, (glo_ok X G (fact 27 (f := .glo "_law_within") rfl)), k27⟩
  have b27 : Binds K _ ["_law_block", "_law_place", "_law_many", "_law_inner"] [] := C8.Fun.binds F27 rfl fun _ _ _ _ _ _ us hl => match us, hl with | [_, _, _, _], _ => rfl
  obtain ⟨oc28, od28, kV28, dc28, pm28, an28, cd28, ct28, sl28, l28, c28, k28⟩ := Hy.says_fun c 28 (d := ⟨fun K => ga K "_law_unknown", "_law_unknown", "_law_unknown", C8.fnArgs s_l_unknown, C8.fnBody s_l_unknown, C8.fnScope s_l_unknown⟩) rfl
  have F28 : C8.Fun K "_law_unknown" "_law_unknown" s_l_unknown (ga K "_law_unknown") _ := ⟨⟨_, _, _, _, _, _, _, _, _, _, rfl, l28, c28⟩⟩
  have D28 : C8.Def K mg "_law_unknown" s_l_unknown (ga K "_law_unknown") _ := ⟨F28, (glo_ok X G (fact 28 (f := .glo "_law_unknown") rfl)), k28⟩
  have b28 : Binds K _ ["_law_x", "_law_i", "_law_use"] [] := C8.Fun.binds F28 rfl fun _ _ _ _ _ _ us hl => match us, hl with | [_, _, _], _ => rfl
  obtain ⟨oc29, od29, kV29, dc29, pm29, an29, cd29, ct29, sl29, l29, c29, k29⟩ := Hy.says_fun c 29 (d := ⟨fun K => ga K "_law_dead", "_law_dead", "_law_dead", C8.fnArgs s_l_dead, C8.fnBody s_l_dead, C8.fnScope s_l_dead⟩) rfl
  have F29 : C8.Fun K "_law_dead" "_law_dead" s_l_dead (ga K "_law_dead") _ := ⟨⟨_, _, _, _, _, _, _, _, _, _, rfl, l29, c29⟩⟩
  have D29 : C8.Def K mg "_law_dead" s_l_dead (ga K "_law_dead") _ := ⟨F29, (glo_ok X G (fact 29 (f := .glo "_law_dead") rfl)), k29⟩
  have b29 : Binds K _ ["_law_i", "_law_more"] [] := C8.Fun.binds F29 rfl fun _ _ _ _ _ _ us hl => match us, hl with | [_, _], _ => rfl
  obtain ⟨oc30, od30, kV30, dc30, pm30, an30, cd30, ct30, sl30, l30, c30, k30⟩ := Hy.says_fun c 30 (d := ⟨fun K => ga K "_law_taken", "_law_taken", "_law_taken", C8.fnArgs s_l_taken, C8.fnBody s_l_taken, C8.fnScope s_l_taken⟩) rfl
  have F30 : C8.Fun K "_law_taken" "_law_taken" s_l_taken (ga K "_law_taken") _ := ⟨⟨_, _, _, _, _, _, _, _, _, _, rfl, l30, c30⟩⟩
  have D30 : C8.Def K mg "_law_taken" s_l_taken (ga K "_law_taken") _ := ⟨F30, (glo_ok X G (fact 30 (f := .glo "_law_taken") rfl)), k30⟩
  have b30 : Binds K _ ["_law_x", "_law_i", "_law_use"] [] := C8.Fun.binds F30 rfl fun _ _ _ _ _ _ us hl => match us, hl with | [_, _, _], _ => rfl
  obtain ⟨oc31, od31, kV31, dc31, pm31, an31, cd31, ct31, sl31, l31, c31, k31⟩ := Hy.says_fun c 31 (d := ⟨fun K => ga K "law", "law", "law", C8.fnArgs s_law, C8.fnBody s_law, C8.fnScope s_law⟩) rfl
  have F31 : C8.Fun K "law" "law" s_law (ga K "law") _ := ⟨⟨_, _, _, _, _, _, _, _, _, _, rfl, l31, c31⟩⟩
  obtain ⟨oc_ci, od_ci, kV_ci, dc_ci, pm_ci, an_ci, cd_ci, ct_ci, sl_ci, l_ci, c_ci, k_ci⟩ := Hy.says_fun c 32 (d := ⟨fun K => ma K (ga K "Check") "__init__", "__init__", "Check.__init__", C8.fnArgs s_Check_init, C8.fnBody s_Check_init, C8.fnScope s_Check_init⟩) rfl
  have F_ci : C8.Fun K "__init__" "Check.__init__" s_Check_init (ma K (ga K "Check") "__init__") _ := ⟨⟨_, _, _, _, _, _, _, _, _, _, rfl, l_ci, c_ci⟩⟩
  have b_ci : Binds K _ ["self", "inputs", "block"] [] := C8.Fun.binds F_ci rfl fun _ _ _ _ _ _ us hl => match us, hl with | [_, _, _], _ => rfl
  obtain ⟨oc_bf, od_bf, kV_bf, dc_bf, pm_bf, an_bf, cd_bf, ct_bf, sl_bf, l_bf, c_bf, k_bf⟩ := Hy.says_fun c 33 (d := ⟨fun K => ma K (ga K "Check") "block_flow", "block_flow", "Check.block_flow", C8.fnArgs s_Check_block_flow, C8.fnBody s_Check_block_flow, C8.fnScope s_Check_block_flow⟩) rfl
  have F_bf : C8.Fun K "block_flow" "Check.block_flow" s_Check_block_flow (ma K (ga K "Check") "block_flow") _ := ⟨⟨_, _, _, _, _, _, _, _, _, _, rfl, l_bf, c_bf⟩⟩
  have b_bf : Binds K _ ["self", "block", "before", "known", "looped"] [] := C8.Fun.binds F_bf rfl fun _ _ _ _ _ _ us hl => match us, hl with | [_, _, _, _, _], _ => rfl
  obtain ⟨oc_fa, od_fa, kV_fa, dc_fa, pm_fa, an_fa, cd_fa, ct_fa, sl_fa, l_fa, c_fa, k_fa⟩ := Hy.says_fun c 34 (d := ⟨fun K => ma K (ga K "Check") "fault", "fault", "Check.fault", C8.fnArgs s_Check_fault, C8.fnBody s_Check_fault, C8.fnScope s_Check_fault⟩) rfl
  have F_fa : C8.Fun K "fault" "Check.fault" s_Check_fault (ma K (ga K "Check") "fault") _ := ⟨⟨_, _, _, _, _, _, _, _, _, _, rfl, l_fa, c_fa⟩⟩
  have b_fa : Binds K _ ["self", "statement", "place", "known", "looped"] [] := C8.Fun.binds F_fa rfl fun _ _ _ _ _ _ us hl => match us, hl with | [_, _, _, _, _], _ => rfl
  obtain ⟨oc_sa, od_sa, kV_sa, dc_sa, pm_sa, an_sa, cd_sa, ct_sa, sl_sa, l_sa, c_sa, k_sa⟩ := Hy.says_fun c 35 (d := ⟨fun K => ma K (ga K "Check") "sets_again", "sets_again", "Check.sets_again", C8.fnArgs s_Check_sets_again, C8.fnBody s_Check_sets_again, C8.fnScope s_Check_sets_again⟩) rfl
  have F_sa : C8.Fun K "sets_again" "Check.sets_again" s_Check_sets_again (ma K (ga K "Check") "sets_again") _ := ⟨⟨_, _, _, _, _, _, _, _, _, _, rfl, l_sa, c_sa⟩⟩
  have b_sa : Binds K _ ["self", "statement", "place"] [] := C8.Fun.binds F_sa rfl fun _ _ _ _ _ _ us hl => match us, hl with | [_, _, _], _ => rfl
  obtain ⟨oc_no, od_no, kV_no, dc_no, pm_no, an_no, cd_no, ct_no, sl_no, l_no, c_no, k_no⟩ := Hy.says_fun c 36 (d := ⟨fun K => ma K (ga K "Check") "note", "note", "Check.note", C8.fnArgs s_Check_note, C8.fnBody s_Check_note, C8.fnScope s_Check_note⟩) rfl
  have F_no : C8.Fun K "note" "Check.note" s_Check_note (ma K (ga K "Check") "note") _ := ⟨⟨_, _, _, _, _, _, _, _, _, _, rfl, l_no, c_no⟩⟩
  have b_no : Binds K _ ["self", "statement", "place"] [] := C8.Fun.binds F_no rfl fun _ _ _ _ _ _ us hl => match us, hl with | [_, _, _], _ => rfl
  obtain ⟨oc_sf, od_sf, kV_sf, dc_sf, pm_sf, an_sf, cd_sf, ct_sf, sl_sf, l_sf, c_sf, k_sf⟩ := Hy.says_fun c 37 (d := ⟨fun K => ma K (ga K "Check") "statement_flow", "statement_flow", "Check.statement_flow", C8.fnArgs s_Check_statement_flow, C8.fnBody s_Check_statement_flow, C8.fnScope s_Check_statement_flow⟩) rfl
  have F_sf : C8.Fun K "statement_flow" "Check.statement_flow" s_Check_statement_flow (ma K (ga K "Check") "statement_flow") _ := ⟨⟨_, _, _, _, _, _, _, _, _, _, rfl, l_sf, c_sf⟩⟩
  have b_sf : Binds K _ ["self", "statement", "place", "known", "looped"] [] := C8.Fun.binds F_sf rfl fun _ _ _ _ _ _ us hl => match us, hl with | [_, _, _, _, _], _ => rfl
  obtain ⟨oc_tf, od_tf, kV_tf, dc_tf, pm_tf, an_tf, cd_tf, ct_tf, sl_tf, l_tf, c_tf, k_tf⟩ := Hy.says_fun c 38 (d := ⟨fun K => ma K (ga K "Check") "try_flows", "try_flows", "Check.try_flows", C8.fnArgs s_Check_try_flows, C8.fnBody s_Check_try_flows, C8.fnScope s_Check_try_flows⟩) rfl
  have F_tf : C8.Fun K "try_flows" "Check.try_flows" s_Check_try_flows (ma K (ga K "Check") "try_flows") _ := ⟨⟨_, _, _, _, _, _, _, _, _, _, rfl, l_tf, c_tf⟩⟩
  have b_tf : Binds K _ ["self", "statement", "place", "known", "looped"] [] := C8.Fun.binds F_tf rfl fun _ _ _ _ _ _ us hl => match us, hl with | [_, _, _, _, _], _ => rfl
  obtain ⟨oc_pi, od_pi, kV_pi, dc_pi, pm_pi, an_pi, cd_pi, ct_pi, sl_pi, l_pi, c_pi, k_pi⟩ := Hy.says_fun c 39 (d := ⟨fun K => ma K (ga K "Program") "__init__", "__init__", "Program.__init__", C8.fnArgs s_Program_init, C8.fnBody s_Program_init, C8.fnScope s_Program_init⟩) rfl
  have F_pi : C8.Fun K "__init__" "Program.__init__" s_Program_init (ma K (ga K "Program") "__init__") _ := ⟨⟨_, _, _, _, _, _, _, _, _, _, rfl, l_pi, c_pi⟩⟩
  have b_pi : Binds K _ ["self", "inputs", "block"] [] := C8.Fun.binds F_pi rfl fun _ _ _ _ _ _ us hl => match us, hl with | [_, _, _], _ => rfl
  obtain ⟨oc_be, od_be, kV_be, dc_be, pm_be, an_be, cd_be, ct_be, sl_be, l_be, c_be, k_be⟩ := Hy.says_fun c 40 (d := ⟨fun K => ma K (ga K "BadProgram") "__init__", "__init__", "BadProgram.__init__", C8.fnArgs s_BadProgram_init, C8.fnBody s_BadProgram_init, C8.fnScope s_BadProgram_init⟩) rfl
  have F_be : C8.Fun K "__init__" "BadProgram.__init__" s_BadProgram_init (ma K (ga K "BadProgram") "__init__") _ := ⟨⟨_, _, _, _, _, _, _, _, _, _, rfl, l_be, c_be⟩⟩
  have b_be : Binds K _ ["self", "place", "why"] [] := C8.Fun.binds F_be rfl fun _ _ _ _ _ _ us hl => match us, hl with | [_, _, _], _ => rfl
  obtain ⟨oc_rf, od_rf, kV_rf, dc_rf, pm_rf, an_rf, cd_rf, ct_rf, sl_rf, l_rf, c_rf, k_rf⟩ := Hy.says_fun c 41 (d := ⟨fun K => ga K "_law_refusal", "_law_refusal", "_law_refusal", C8.fnArgs s_l_refusal, C8.fnBody s_l_refusal, C8.fnScope s_l_refusal⟩) rfl
  have F_rf : C8.Fun K "_law_refusal" "_law_refusal" s_l_refusal (ga K "_law_refusal") _ := ⟨⟨_, _, _, _, _, _, _, _, _, _, rfl, l_rf, c_rf⟩⟩
  have b_rf : Binds K _ ["_law_block"] [] := C8.Fun.binds F_rf rfl fun _ _ _ _ _ _ us hl => match us, hl with | [_], _ => rfl
  refine ⟨PySem.W.fnOf "law" "law" (C8.fnArgs s_law) (C8.fnBody s_law) (C8.fnScope s_law) .none kV31 dc31 pm31 an31 cd31 ct31, fun s v => .of_eq rfl, fun base _ _ => ?_⟩
  have TB : Err2 l.prog w K mg base "BadProgram" "place" "why" (ga K "BadProgram") := ⟨oexB_ok m0, (glo_ok X G (fact 38 (f := .glo "BadProgram") rfl)), eqO_ok m1, eqO_ok m2, ⟨_, _, eqO_ok m3, of_decide_eq_true m4, b_be, ok_BadProgram_init F_be⟩⟩
  have Q_either_flow : C8.Cal l.prog w K mg base 1 "either_flow" (spEither l.prog w K) [] := ok_either_flow D0 b0 T
  have Q_without_end : C8.Cal l.prog w K mg base 1 "without_end" (spWithout l.prog w K) [] := ok_without_end D1 b1 T
  have Q_simple_flow : C8.Cal l.prog w K mg base 1 "simple_flow" (spSimple l.prog w K) [] := ok_simple_flow D2 b2 T
  have Q_loop_flow : C8.Cal l.prog w K mg base 2 "loop_flow" (spLoop l.prog w K) [] := ok_loop_flow D3 b3 T Q_either_flow
  have Q_first_fit : C8.Cal l.prog w K mg base 1 "first_fit" (spFit K) [] := ok_first_fit D4 b4 T
  have Q_try_flow : C8.Cal l.prog w K mg base 2 "try_flow" (spTry l.prog w K) [] := ok_try_flow D5 b5 T Q_either_flow Q_without_end Q_first_fit
  have Q_is_number : C8.Cal l.prog w K mg base 1 "is_number" (spB K (fun _ => True) isNum) [] := ok_is_number D6 b6 T
  have Q_is_word : C8.Cal l.prog w K mg base 1 "is_word" (spB K shortS isWord) [] := ok_is_word D7 b7 T
  have Q_is_name : C8.Cal l.prog w K mg base 2 "is_name" (spB K shortS isName) [] := ok_is_name D8 b8 T BB_BARRED Q_is_word
  have Q_are_different : C8.Cal l.prog w K mg base 1 "are_different" (spDiff K) [] := ok_are_different D9 b9 T
  have Q_are_names : C8.Cal l.prog w K mg base 3 "are_names" (spB K sh1 areNames) [] := ok_are_names D10 b10 T Q_is_name Q_are_different
  have Q_is_literal : C8.Cal l.prog w K mg base 2 "is_literal" (spB K (fun _ => True) isLit) [] := ok_is_literal D11 b11 T Q_is_number
  have Q_is_term : C8.Cal l.prog w K mg base 3 "is_term" (spB K shortS isTerm) [] := ok_is_term D12 b12 T Q_is_name
  have Q_is_named_literal : C8.Cal l.prog w K mg base 4 "is_named_literal" (spB K sh1 isNLit) [] := ok_is_named_literal D13 b13 T Q_is_literal Q_is_term
  have Q_is_value : C8.Cal l.prog w K mg base 4 "is_value" (spB K sh1 isValue) [] := ok_is_value D14 b14 T Q_is_number Q_is_term
  have Q_is_handler : C8.Cal l.prog w K mg base 4 "is_handler" (spB K sh2 isHandler) [] := ok_is_handler D15 b15 T Q_are_names Q_is_name
  have Q_is_of_kind : C8.Cal l.prog w K mg base 5 "is_of_kind" (spKind K) [] := ok_is_of_kind D16 b16 T Q_is_name Q_is_value Q_is_named_literal Q_is_handler
  have Q_has_shape : C8.Cal l.prog w K mg base 6 "has_shape" (spB K sh4 hasShapeD) [] := ok_has_shape D17 b17 T SS Q_is_of_kind
  have Q_terms_of : C8.Cal l.prog w K mg base 1 "terms_of" (spTerms K) [] := ok_terms_of D18 b18 T
  have Q_handlers_of : C8.Cal l.prog w K mg base 1 "handlers_of" (spHandlers K) [] := ok_handlers_of D19 b19 T
  have Q_blocks_of : C8.Cal l.prog w K mg base 1 "blocks_of" (spBlocks K) [] := ok_blocks_of D20 b20 T
  have Q_settings_of : C8.Cal l.prog w K mg base 2 "settings_of" (spSettings K) [] := ok_settings_of D21 b21 T Q_handlers_of
  have Q_statement_at : C8.Cal l.prog w K mg base 2 "statement_at" (spStAt K) [] := ok_statement_at D22 b22 T Q_is_number Q_blocks_of
  have Q_are_apart : C8.Cal l.prog w K mg base 3 "are_apart" (spApart K) [] := ok_are_apart D23 b23 T Q_handlers_of Q_statement_at
  have Q_note : C8.Met l.prog w K mg base 3 (ga K "Check") "note" (spNote l.prog w K (AD K)) [] := ok_note F_no (meth_ok (fact 76 (f := .meth "Check" "note") rfl)) b_no T Q_settings_of
  have Q_sets_again : C8.Met l.prog w K mg base 4 (ga K "Check") "sets_again" (spAgain l.prog w K (AD K)) [] := ok_sets_again F_sa (meth_ok (fact 75 (f := .meth "Check" "sets_again") rfl)) b_sa T Q_settings_of Q_are_apart
  have Q_fault : C8.Met l.prog w K mg base 7 (ga K "Check") "fault" (spFault l.prog w K (AD K)) [] := ok_fault F_fa (meth_ok (fact 74 (f := .meth "Check" "fault") rfl)) b_fa T Q_has_shape Q_sets_again Q_terms_of
  have QB := block_all F_bf (meth_ok (fact 73 (f := .meth "Check" "block_flow") rfl)) b_bf F_sf (meth_ok (fact 77 (f := .meth "Check" "statement_flow") rfl)) b_sf F_tf (meth_ok (fact 78 (f := .meth "Check" "try_flows") rfl)) b_tf T TB Q_fault Q_note Q_either_flow Q_without_end Q_loop_flow Q_try_flow Q_blocks_of Q_simple_flow 14
  have Q_Check := ok_Check_init 14 52 (by decide) (mkr_ok (fact 71 (f := .mkr "Check") rfl)) F_ci b_ci T TB Q_are_names QB
  have Q_Program := ok_Program_init 14 53 (mkr_ok (fact 72 (f := .mkr "Program") rfl)) F_pi b_pi T Q_Check
  have D_rf : C8.Def K mg "_law_refusal" s_l_refusal (ga K "_law_refusal") _ := ⟨F_rf, (glo_ok X G (fact 39 (f := .glo "_law_refusal") rfl)), k_rf⟩
  have Q_l_refusal : C8.Cal l.prog w K mg base 57 "_law_refusal" (spRef K 14) [] := ok_l_refusal 14 55 D_rf b_rf T TB RR Q_Program
  have Q_l_well : C8.Cal l.prog w K mg base 1 "_law_well" spWell [] := ok_l_well D24 b24 T
  have Q_l_draw : C8.Cal l.prog w K mg base 1 "_law_draw" spDraw [] := ok_l_draw D25 b25 T
  have Q_l_one : C8.Cal l.prog w K mg base 2 "_law_one" (spOne K) [] := ok_l_one D26 b26 T Q_l_draw
  have Q_l_within : C8.Cal l.prog w K mg base 1 "_law_within" (spWithin K) [] := ok_l_within D27 b27 T
  have Q_l_unknown : C8.Cal l.prog w K mg base 1 "_law_unknown" (spUnknown K) [] := ok_l_unknown D28 b28 T
  have Q_l_dead : C8.Cal l.prog w K mg base 1 "_law_dead" (spDead K) [] := ok_l_dead D29 b29 T
  have Q_l_taken : C8.Cal l.prog w K mg base 1 "_law_taken" (spTaken K) [] := ok_l_taken D30 b30 T
  exact ok_law F31 T Q_l_well Q_l_draw Q_l_one Q_l_unknown Q_l_dead Q_l_taken Q_l_within Q_l_refusal
end K17

set_option maxHeartbeats 0
open PySem PySem.W PySem.Calls PyProof.Rows
theorem PySem.Challenge.cw_behindexits_k17_known_and_dead_by_hand_holds : PySem.Challenge.rw_behindexits_k17_known_and_dead_by_hand.Holds := by
  w_on; o_law
  refine HandSHeadRun.head_any (r := OpenLaw.row PySem.Challenge.rw_behindexits_k17_known_and_dead_by_hand) (q := view (OpenLaw.row PySem.Challenge.rw_behindexits_k17_known_and_dead_by_hand).prog [51]) (H := K17.hkX) (ob := K17.obX) (M := 8000) (loose := K17.nms) (d := HandSHeadRun.topDef (OpenLaw.row PySem.Challenge.rw_behindexits_k17_known_and_dead_by_hand).prog 51) (kwd := []) K17.obX_eq
    (by kernel_rfl) (fun s => by kernel_rfl) K17.run (by kernel_rfl) (by kernel_rfl) (by kernel_rfl) (by rfl) (by first | assumption | decide +kernel) (by decide +kernel) ⟨rfl, rfl, rfl, rfl, rfl, by decide +kernel⟩ ?hw ?hc
  case hw => w_witness2
  case hc =>
    refine L2.walk_ofE (l := PySem.Challenge.rw_behindexits_k17_known_and_dead_by_hand) (n := 63) (k := 58) (x := "_law_script") (CX := C8.CX0) rfl (by decide) (by kernel_rfl) ⟨rfl, by decide, by decide⟩ ?F (fun _ _ _ _ z => z)
    intro w mg fa h Y G hmg0
    obtain ⟨K, KX, c⟩ := Y
    have hmg : mg ("law" : PySem.Str) = some (.ref fa) := by
      have e : (HandSHeadRun.topDef (OpenLaw.row PySem.Challenge.rw_behindexits_k17_known_and_dead_by_hand).prog 51).name = ("law" : PySem.Str) := by kernel_rfl
      rw [← e]
      exact hmg0
    obtain ⟨fd, hb, hF⟩ := K17.facts (l := PySem.Challenge.rw_behindexits_k17_known_and_dead_by_hand) (w := w) KX G hmg c
    exact ⟨K, fd, K17.spLaw K, KX, hb, fun H a ns hl _ hS => ⟨a, ns, rfl, hS, hl, fun _ => rfl⟩, hF⟩

