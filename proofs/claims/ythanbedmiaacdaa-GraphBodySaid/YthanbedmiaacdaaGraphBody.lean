/- What is proved: a loop's body is come into by its header alone: no edge goes into it from a reached block but to that; the header dominates all of it, and from all of it one comes to the header within (law GraphBody): for every row of numbers and every number the law answers true. Conditions: none beside those that the given row's own sentence names. -/
import Derived.Test.YthanbedmiaacdaaRows
import Derived.Test.YthanbedmiaacdaaMade
import Derived.Test.YthanbedmiaacdaaHeadC
import Derived.Test.YthanbedmiaacdaaBodyC
import Derived.Test.YthanbedmiaacdaaSameAll
import Derived.Maps.Own
import Derived.Maps.Views
import Derived.WalkKit
import Derived.ProofKit
import Derived.OpenShut
import Derived.ShutString
import Derived.ChangeOld
import Derived.Below
namespace Go.Proofs.Ythanbedmiaacdaa.Gl
open Go.ChangeShapes Go.WideShapes Go.ChangeAt Go.RowKit Go.Proofs.Ythanbedmiaacdaa.Mem Go.Proofs.Ythanbedmiaacdaa.Gr Go.Proofs.Ythanbedmiaacdaa.Gn Go.Proofs.Ythanbedmiaacdaa.Gc
set_option linter.unusedVariables false

theorem Loop.dom {g : List (List Int)} {h x : Nat} (l : Loop g h x) : domB g (h : Nat) (x : Nat) = true := by
  induction l with
  | src _ hd => exact hd
  | head _ hd => exact domB_iff.2 ⟨(domB_iff.1 hd).1, (domB_iff.1 hd).1, Or.inl rfl⟩
  | step hw he hne l ih =>
    rename_i a b
    have hd := domB_iff.1 ih
    refine domB_iff.2 ⟨hd.1, hw, ?_⟩
    by_cases e : h = a
    · exact Or.inl e
    · right
      intro k
      rcases hd.2.2 with e2 | n
      · exact hne e2.symm
      · exact n (Way.step k he (by omega))
theorem Loop.cross {g : List (List Int)} {h : Nat} {S : Nat → Prop} (h0 : S h) (no : ∀ y x, Loop g h y → Loop g h x → ¬ S y → S x → edgeB g y x = true → False) {x : Nat} (l : Loop g h x) : S x := by
  induction l with
  | src he hd =>
    rename_i a
    exact Classical.byContradiction fun n => no a h (Loop.src he hd) (Loop.head he hd) n h0 he
  | head _ _ => exact h0
  | step hw he hne l ih =>
    rename_i a b
    exact Classical.byContradiction fun n => no a b (Loop.step hw he hne l) l n ih he
/-- How many of a list. -/
def cntB (bs : List Nat) (f : Int → Bool) : Nat := (bs.filter fun b : Nat => f (b : Int)).length
theorem cntB_le (bs : List Nat) (f : Int → Bool) : cntB bs f ≤ bs.length := List.length_filter_le _ _
theorem cntB_mono {f f' : Int → Bool} : ∀ (bs : List Nat), (∀ b ∈ bs, f (b : Nat) = true → f' (b : Nat) = true) → cntB bs f ≤ cntB bs f'
  | [], _ => Nat.le_refl _
  | b :: bs, h => by
    have ih := cntB_mono bs fun x hx => h x (List.mem_cons_of_mem _ hx)
    unfold cntB at ih ⊢
    have hb := h b List.mem_cons_self
    cases e : f (b : Nat) with
    | true =>
      rw [List.filter_cons, if_pos e, List.filter_cons, if_pos (hb e), List.length_cons, List.length_cons]; omega
    | false =>
      rw [List.filter_cons, if_neg (by rw [e]; simp), List.filter_cons]
      split
      · rw [List.length_cons]; omega
      · exact ih
theorem cntB_more {f f' : Int → Bool} : ∀ (bs : List Nat), (∀ b ∈ bs, f (b : Nat) = true → f' (b : Nat) = true) → (∃ b ∈ bs, f (b : Nat) = false ∧ f' (b : Nat) = true) → cntB bs f < cntB bs f'
  | [], _, ⟨b, hb, _⟩ => by cases hb
  | b :: bs, h, ⟨x, hx, h1, h2⟩ => by
    have hm := cntB_mono bs fun x hx => h x (List.mem_cons_of_mem _ hx)
    have hb := h b List.mem_cons_self
    rcases List.mem_cons.1 hx with rfl | hx
    · unfold cntB at hm ⊢
      rw [List.filter_cons, if_neg (by rw [h1]; simp), List.filter_cons, if_pos h2, List.length_cons]; omega
    · have ih := cntB_more bs (fun x hx => h x (List.mem_cons_of_mem _ hx)) ⟨x, hx, h1, h2⟩
      unfold cntB at ih ⊢
      cases e : f (b : Nat) with
      | true => rw [List.filter_cons, if_pos e, List.filter_cons, if_pos (hb e), List.length_cons, List.length_cons]; omega
      | false =>
        rw [List.filter_cons, if_neg (by rw [e]; simp), List.filter_cons]
        split
        · rw [List.length_cons]; omega
        · exact ih
theorem cntB_all {bs : List Nat} {f : Int → Bool} (h : bs.length ≤ cntB bs f) : ∀ b ∈ bs, f (b : Nat) = true := by
  have e : bs.filter (fun b : Nat => f (b : Int)) = bs := (List.filter_sublist).eq_of_length_le h
  intro b hb
  rw [← e] at hb
  exact (List.mem_filter.1 hb).2
theorem cntB_one {bs : List Nat} {f : Int → Bool} {h : Nat} (hm : h ∈ bs) (hf : f (h : Nat) = true) : 1 ≤ cntB bs f := by
  unfold cntB
  exact List.length_pos_of_mem (List.mem_filter.2 ⟨hm, hf⟩)
/-- A whole round: one more goes there, if not all do. -/
theorem round_more {g : List (List Int)} {h : Nat} (hh : h < g.length) {f f' : Int → Bool} {i : Nat} (h0 : f (h : Nat) = true) (hm : ∀ x : Nat, f (x : Nat) = true → f' (x : Nat) = true)
    (hr : ∀ y ∈ bodyN (tidyN g) (h : Nat), ∀ x ∈ bodyN (tidyN g) (h : Nat), edgeB g (y : Nat) (x : Nat) = true → f (x : Nat) = true → f' (y : Nat) = true)
    (hi : i + 1 ≤ cntB (bodyN (tidyN g) (h : Nat)) f ∨ (bodyN (tidyN g) (h : Nat)).length ≤ cntB (bodyN (tidyN g) (h : Nat)) f) :
    i + 2 ≤ cntB (bodyN (tidyN g) (h : Nat)) f' ∨ (bodyN (tidyN g) (h : Nat)).length ≤ cntB (bodyN (tidyN g) (h : Nat)) f' := by
  have hmo := cntB_mono (bodyN (tidyN g) (h : Nat)) fun b _ => hm b
  by_cases hex : ∃ b ∈ bodyN (tidyN g) (h : Nat), f (b : Nat) = false ∧ f' (b : Nat) = true
  · have := cntB_more _ (fun b _ => hm b) hex
    rcases hi with k | k
    · left; omega
    · right; omega
  · right
    have hall : ∀ x, Loop g h x → f (x : Nat) = true := fun x l => Loop.cross (S := fun x => f (x : Nat) = true) h0 (fun y x ly lx ny sx he => by
      refine hex ⟨y, (mem_bodyN hh).2 ly, Bool.eq_false_iff.2 ny, ?_⟩
      exact hr y ((mem_bodyN hh).2 ly) x ((mem_bodyN hh).2 lx) he sx) l
    have e : cntB (bodyN (tidyN g) (h : Nat)) f = (bodyN (tidyN g) (h : Nat)).length := by
      unfold cntB
      rw [List.filter_eq_self.2 fun b hb => hall b ((mem_bodyN hh).1 hb)]
    omega
/-- What is told of a header. -/
theorem header_some {g : List (List Int)} {x : Int} (h : x ∈ li (headersN (tidyN g))) : ∃ h : Nat, x = (h : Int) ∧ h < g.length ∧ Loop g h h := by
  rw [headers_same] at h
  unfold headersL headersTo at h
  obtain ⟨k, hk, e⟩ := List.mem_map.1 h
  rw [List.mem_filter, List.mem_range] at hk
  unfold backTo at hk
  obtain ⟨a, ha, h2⟩ := List.any_eq_true.1 hk.2
  rw [Bool.and_eq_true] at h2
  exact ⟨k, e.symm, hk.1, Loop.head h2.1 h2.2⟩
theorem body_lt {g : List (List Int)} {h : Nat} (hh : h < g.length) : ∀ x ∈ bodyN (tidyN g) (h : Nat), x < g.length := fun x hx => (((mem_bodyN hh).1 hx).way).lt
theorem body_len {g : List (List Int)} {h : Nat} (hh : h < g.length) : (bodyN (tidyN g) (h : Nat)).length ≤ g.length := by
  rw [bodyN_is hh]
  exact Nat.le_trans (List.length_filter_le _ _) (by rw [List.length_range]; exact Nat.le_refl _)
end Go.Proofs.Ythanbedmiaacdaa.Gl
/- A map of numbers to bools that a call made itself. -/
namespace Go.Proofs.Ythanbedmiaacdaa.Gc
open Go.ChangeShapes Go.WideShapes Go.ChangeAt Go.RowKit Go.Maps Go.WideElems Go.ChangeMaps Go.Proofs.Ythanbedmiaacdaa.Mem
set_option linter.unusedVariables false
def rdB (v : Value) : Option (DataW Unit × List MemPlace) :=
  match v with
  | .bool x => some (.lit (.bool x), [])
  | _ => none
theorem rdB_inv {v : Value} {x : Bool} {ps : List MemPlace} (h : rdB v = some (.lit (.bool x), ps)) : v = .bool x := by
  unfold rdB at h
  split at h
  · injection h with h
    injection h with h _
    injection h with h
    injection h with h
    rw [h]
  · cases h
def keyN (n : Int) : Lit := .int .i64 n
/-- The map in block b says f. -/
def SetAt (w : World) (b c : Nat) (f : Int → Bool) : Prop :=
  ∃ D : DataW Unit, w.ownsMap Try.prog 3 rdB b c D ∧ IsMap D ∧ ∀ x, D.atKey (keyN x) (.lit (.bool false)) = .lit (.bool (f x))
def updB (f : Int → Bool) (x : Int) (v : Bool) : Int → Bool := fun y => if y = x then v else f y
theorem keyed : Keyed Try.prog 3 := int_keyed Try.underlying3
theorem zeroBool (w : World) : (zeroValue 4).run Try.prog w = .ok (.bool false) w := by kernel_rfl
theorem keyIs {n : Int} (h : -9223372036854775808 ≤ n ∧ n ≤ 9223372036854775807) : keyOf Try.prog 3 (.int .i64 n) = some (keyN n) := keyOf_int_mk Try.underlying3 (WalkArith.wf_i64 h)
theorem SetAt.made (w : World) : SetAt (w.alloc (.map #[] 0)) w.heap.size 0 (fun _ => false) := ⟨.map [], World.ownsMap_made _ _ _ _, isMap_empty, fun x => rfl⟩
theorem SetAt.look {w : World} {b c : Nat} {f : Int → Bool} (h : SetAt w b c f) {x : Int} (hx : -9223372036854775808 ≤ x ∧ x ≤ 9223372036854775807) :
    (Instr.lookup 50 (.map (some b)) (.int .i64 x) false).run Try.prog w = .ok (.bool (f x)) w := by
  obtain ⟨D, h1, h2, h3⟩ := h
  obtain ⟨v, ps, hrun, hR⟩ := h1.lookup keyed Try.underlying50 (zeroBool w) (zd := .lit (.bool false)) (zp := []) rfl (keyIs hx)
  rw [h3] at hR
  rw [hrun, rdB_inv hR]
theorem SetAt.kept {w w' : World} {b c : Nat} {f : Int → Bool} {row : Option Nat} (h : SetAt w b c f) (hg : w.grownBy w' row) (hne : some b ≠ row) : SetAt w' b c f := by
  obtain ⟨D, h1, h2, h3⟩ := h
  exact ⟨D, h1.kept hg hne, h2, h3⟩
theorem SetAt.below {w w' : World} {b c : Nat} {f : Int → Bool} (h : SetAt w b c f) (hb : Below w.heap.size w w') : SetAt w' b c f := h.kept (grown_of_below hb) (by simp)
theorem SetAt.lt {w : World} {b c : Nat} {f : Int → Bool} (h : SetAt w b c f) : b < w.heap.size := by obtain ⟨D, h1, _⟩ := h; exact h1.lt
theorem SetAt.drewN {w : World} {b c : Nat} {f : Int → Bool} (h : SetAt w b c f) (n : Nat) : SetAt (w.drewN n) b c f := h
theorem SetAt.put {w' : World} {b c : Nat} {D : DataW Unit} {x : Int} {v : Bool} {f : Int → Bool} (h2 : IsMap D) (h3 : ∀ x, D.atKey (keyN x) (.lit (.bool false)) = .lit (.bool (f x))) (h : w'.ownsMap Try.prog 3 rdB b c (D.put (keyN x) (.lit (.bool v)))) : SetAt w' b c (updB f x v) := by
  refine ⟨_, h, h2.put _ _, fun y => ?_⟩
  unfold updB
  by_cases e : y = x
  · subst e
    rw [if_pos rfl]
    exact atKey_put_same h2 (by trivial) _ _
  · rw [if_neg e, atKey_put_other (by simp [keyN]; omega), h3]
/-- m[x] = v, at the operation. -/
theorem wpList_set {w : World} {ops : Array Oper} {rest : List Oper} {o : Oper} {a : Act} {Q : Exit → Act → World → Prop} (hg : o.guard = none) (m x v : Operand)
    (hop : o.op = Op.mapUpdate 50 m x v ∨ o.op = Op.insert 50 m x v) (b c : Nat) (f : Int → Bool) (hm : a.eval m = .map (some b)) (h : SetAt w b c f) (hn : c < 1000000) (k : Int) (y : Bool)
    (hx : a.eval x = .int .i64 k) (hv : a.eval v = .bool y) (hk : -9223372036854775808 ≤ k ∧ k ≤ 9223372036854775807)
    (hK : ∀ w', SetAt w' b (c + 1) (updB f k y) → w.grownBy w' (some b) → wpList Try.prog ops Q rest (a.put o.dst undef) w') : wpList Try.prog ops Q (o :: rest) a w := by
  obtain ⟨D, h1, h2, h3⟩ := h
  refine wpList_plain hg fun K' hK' => ?_
  obtain ⟨w', hrun, r1, r2⟩ := h1.update keyed Try.underlying50 (by unfold maxLen; omega) (keyIs hk) (val := .bool y) (d := .lit (.bool y)) (ps := []) rfl
  unfold Oper.wp
  rcases hop with hop | hop <;> simp [execOp, hop, hm, hx, hv, hrun, Result.andThen] <;> exact hK' _ _ (hK w' (SetAt.put h2 h3 r1) r2)
end Go.Proofs.Ythanbedmiaacdaa.Gc

namespace Go.Proofs.Ythanbedmiaacdaa.graphBody
open Go.ChangeShapes Go.WideShapes Go.ChangeAt Go.RowKit
open Go.ChangeMaps (open_string shut_string)
set_option linter.unusedVariables false

theorem own : ownKnob Try.prog.godebug = none := by kernel_rfl
theorem laidOut : laidOutB Try.prog = true := by kernel_rfl

/-- WHAT THE WALK IS TOLD OF A SLICE OF INTEGERS THAT CAME IN: it is nil; or it leads to a row of 'cap' cells, the numbers 'zs' (the first 'len' are its elements, the rest its spare room), each fitting its kind. -/
def IsRow (k : IntKind) (w : World) (a : Option Addr) (len cap : Nat) (zs : List Int) : Prop :=
  (a = none ∧ len = 0 ∧ cap = 0 ∧ zs = []) ∨
  ∃ x, a = some x ∧ len ≤ cap ∧ cap ≤ maxLen ∧ zs.length = cap ∧ (∀ i, i < zs.length → w.cell? (x.add i) = some (.int k (zs.getD i 0))) ∧ ∀ n ∈ zs, (Lit.int k n).wf = true

open Go.Proofs.Ythanbedmiaacdaa.Gl Go.Proofs.Ythanbedmiaacdaa.Mem Go.Proofs.Ythanbedmiaacdaa.Gr Go.Proofs.Ythanbedmiaacdaa.Gn Go.Proofs.Ythanbedmiaacdaa.Gc Go.Proofs.Ythanbedmiaacdaa.Br Go.Proofs.Ythanbedmiaacdaa.Rp
theorem header_len (g : List (List Int)) : (li (headersN (tidyN g))).length ≤ g.length := by
  rw [headers_same]
  unfold headersL headersTo
  rw [List.length_map]
  exact Nat.le_trans (List.length_filter_le _ _) (by rw [List.length_range]; exact Nat.le_refl _)
/-- The blocks of the first k of a list. -/
def inTo (bs : List Nat) (k : Nat) : Int → Bool := fun x => (li (bs.take k)).contains x
theorem inTo_step {bs : List Nat} {k : Nat} (h : k < bs.length) : updB (inTo bs k) (bs[k] : Nat) true = inTo bs (k + 1) := by
  funext y
  unfold updB inTo
  rw [List.take_succ_eq_append_getElem h]
  unfold li
  rw [List.map_append]
  by_cases e : y = ((bs[k] : Nat) : Int)
  · rw [if_pos e, e]; simp
  · rw [if_neg e, Bool.eq_iff_iff]; simp [e]
theorem inTo_zero (bs : List Nat) : inTo bs 0 = fun _ => false := by funext y; unfold inTo li; simp
theorem inTo_all {bs : List Nat} {x : Nat} : inTo bs bs.length (x : Int) = true ↔ x ∈ bs := by
  unfold inTo li
  rw [List.take_length, List.contains_iff_mem, List.mem_map]
  exact ⟨fun ⟨a, h, e⟩ => by injection e with e; subst e; exact h, fun h => ⟨x, h, rfl⟩⟩
theorem upd_mono {f : Int → Bool} {y : Nat} {v : Bool} (hv : f (y : Nat) = true → v = true) : ∀ z : Nat, f (z : Nat) = true → updB f (y : Nat) v (z : Nat) = true := by
  intro z hz
  unfold updB
  split
  · rename_i e
    rw [e] at hz
    exact hv hz
  · exact hz
theorem setAt_heap {w w' : World} {b c : Nat} {f : Int → Bool} (h : SetAt w b c f) (e : w'.heap = w.heap) : SetAt w' b c f := by
  obtain ⟨D, ⟨es, clock, h1, h2⟩, h3⟩ := h
  exact ⟨D, ⟨es, clock, by rw [e]; exact h1, h2⟩, h3⟩
/-- What is already known of a round: of the first k, all that go to one that went there before the round, do so. -/
def Upto (g : List (List Int)) (bs : List Nat) (f0 f : Int → Bool) (k : Nat) : Prop :=
  ∀ j, j < k → ∀ y, bs[j]? = some y → ∀ x ∈ bs, edgeB g (y : Nat) (x : Nat) = true → f0 (x : Nat) = true → f (y : Nat) = true
def Part (g : List (List Int)) (bs : List Nat) (f0 f : Int → Bool) (y n : Nat) : Prop :=
  ∀ x, x < n → x ∈ bs → edgeB g (y : Nat) (x : Nat) = true → f0 (x : Nat) = true → f (y : Nat) = true
theorem Upto.mono {g : List (List Int)} {bs : List Nat} {f0 f f' : Int → Bool} {k : Nat} (h : Upto g bs f0 f k) (hm : ∀ z : Nat, f (z : Nat) = true → f' (z : Nat) = true) : Upto g bs f0 f' k :=
  fun j hj y hy x hx he h0 => hm y (h j hj y hy x hx he h0)
theorem Upto.next {g : List (List Int)} {bs : List Nat} {f0 f : Int → Bool} {k y : Nat} (h : Upto g bs f0 f k) (hy : bs[k]? = some y) (hp : Part g bs f0 f y g.length) (hl : ∀ x ∈ bs, x < g.length) : Upto g bs f0 f (k + 1) := by
  intro j hj z hz x hx he h0
  by_cases e : j < k
  · exact h j e z hz x hx he h0
  · obtain rfl : j = k := by omega
    rw [hy] at hz
    injection hz with hz
    subst hz
    exact hp x (hl x hx) hx he h0
/-- One test of a round. -/
theorem step_round {g : List (List Int)} {bs : List Nat} {f0 f : Int → Bool} {k y x : Nat} {v : Bool} (hv : v = (f (y : Nat) || (edgeB g (y : Nat) (x : Nat) && inTo bs bs.length (x : Nat) && f (x : Nat))))
    (hm : ∀ z : Nat, f0 (z : Nat) = true → f (z : Nat) = true) (hu : Upto g bs f0 f k) (hp : Part g bs f0 f y x) :
    (∀ z : Nat, f0 (z : Nat) = true → updB f (y : Nat) v (z : Nat) = true) ∧ Upto g bs f0 (updB f (y : Nat) v) k ∧ Part g bs f0 (updB f (y : Nat) v) y (x + 1) := by
  have hmo := upd_mono (f := f) (y := y) (v := v) (fun h => by rw [hv, h]; rfl)
  refine ⟨fun z h => hmo z (hm z h), hu.mono hmo, fun z hz hzb he h0 => ?_⟩
  by_cases e : z < x
  · exact hmo y (hp z e hzb he h0)
  · obtain rfl : z = x := by omega
    unfold updB
    rw [if_pos rfl, hv, he, inTo_all.2 hzb, hm z h0]; simp

/-! ### STEP 1: THE WALK: the Go text returns true, AND WRITES NOTHING THAT WAS THERE: 'Below w.heap.size w w'' (Derived/Below.lean: '.refl', '.alloc', '.drew', '.setCell' at a new block, '.trans'). Open each 'IsRow' by 'rcases' AHEAD of 'go_enter'; part every test ahead of the walk. -/
set_option maxRecDepth 100000 in
set_option maxHeartbeats 1000000 in
theorem walk (a0 : Option Addr) (len0 cap0 : Nat) (z0 : List Int) (a1 : Int) (w : World) (w0 : IsRow .i64 w a0 len0 cap0 z0) (w1 : (Lit.int .i64 a1).wf = true) :
    Calls Try.prog 8 #[.slice a0 len0 cap0, .int .i64 a1] w fun e w' => e = .returned (.bool true) ∧ Below w.heap.size w w' := by
  have W0 := Lib.hid w0
  clear w0
  obtain ⟨hl0, hi0⟩ := row_ints W0.out (Nat.le_refl len0)
  have HI0 := Lib.hid hi0
  generalize z0.take len0 = s at *
  clear hl0 hi0 W0 w1
  have hmm := @run_makeMap Try.prog
  go_enter Try.func8, Try.ntmps8
  go_wp2_with fail
  refine (awake_any _).mono ?_
  rintro e v1 ⟨rfl, hb1⟩
  have HB1 := Lib.hid hb1
  have HI1 := Lib.hid (HI0.out.keep hb1)
  clear hb1 HI0
  go_wp2_with fail
  refine (made_any v1 _ s HI1.out).mono ?_
  rintro e v2 ⟨vg, rfl, hog, hb2⟩
  have hg2 := hog.grid
  have HG2 := Lib.hid hg2
  have HB2 := Lib.hid (HB1.out.trans (hb2.mono HB1.out.size))
  have hS := madeL_small s
  have HS := Lib.hid hS
  have hgl := hS.1
  have hg0 : 0 < (madeL s).length := by rw [madeL_len]; have := madeN_bd s; omega
  have hg10 : (madeL s).length ≤ 10 := by rw [madeL_len]; have := madeN_bd s; omega
  obtain ⟨Ag, cg, rfl, hrest⟩ := hg2
  generalize madeL s = g at *
  have HSP := Lib.hid (spans_all (g := g) hgl)
  clear hog hb2 hS HB1 HI1 hrest
  go_wp2_with fail
  refine (headers_code v2 _ g HG2.out HS.out HSP.out).mono ?_
  rintro e v3 ⟨vl, rfl, hol, hb3⟩
  have HG3 := Lib.hid (HG2.out.keep hb3)
  have HB3 := Lib.hid (HB2.out.trans (hb3.mono HB2.out.size))
  have HHS := Lib.hid (fun x (hx : x ∈ li (headersN (tidyN g))) => header_some hx)
  obtain ⟨Al, cl, rfl⟩ := own_form hol
  have HL := Lib.hid hol
  have hlg := header_len g
  generalize li (headersN (tidyN g)) = l at *
  clear hol hb3 HB2 HG2
  by_cases hl0 : l.length = 0
  · have hlb : ((l.length : Int) == 0) = true := beq_iff_eq.2 (by omega)
    go_wp2
    go_ret
    exact ⟨rfl, HB3.out⟩
  have hlb : ((l.length : Int) == 0) = false := beq_eq_false_iff_ne.2 (by omega)
  have hll : 0 < l.length := by omega
  obtain ⟨lb, rfl⟩ := OwnInts.block HL.out hll
  go_wp2_with fail
  refine (rest_any a1 (l.length : Int) (by omega) (by omega) _).mono ?_
  rintro e v4 ⟨rfl, hv4⟩
  have hv5 := hv4.symm
  subst hv5
  clear hv4
  have hx0 := Int.emod_nonneg a1 (show (l.length : Int) ≠ 0 by omega)
  have hx1 := Int.emod_lt_of_pos a1 (show (0 : Int) < (l.length : Int) by omega)
  obtain ⟨c, hc⟩ := Int.eq_ofNat_of_zero_le hx0
  rw [hc] at hx1 ⊢
  have hcl : c < l.length := by omega
  have hlc := (OwnInts.cell HL.out hcl).1
  obtain ⟨h, ehh, hhn, hlh⟩ := HHS.out l[c] (List.getElem_mem hcl)
  rw [ehh] at hlc
  have HLH := Lib.hid hlh
  clear hx0 hc ehh hlh HHS
  go_wp2_with fail
  refine (body_code _ _ g (h : Int) HG3.out HS.out HSP.out).mono ?_
  rintro e v6 ⟨vb, rfl, hob, hb⟩
  have HG6 := Lib.hid (HG3.out.keep hb)
  have HB6 := Lib.hid (HB3.out.trans (hb.mono HB3.out.size))
  have HMEM := Lib.hid (fun x => mem_bodyN (g := g) (h := h) hhn (x := x))
  have HBLT := Lib.hid (body_lt (g := g) (h := h) hhn)
  have hbsl := body_len (g := g) (h := h) hhn
  have HRM := Lib.hid (fun f f' i => round_more (g := g) (h := h) hhn (f := f) (f' := f') (i := i))
  obtain ⟨Ab, cb, rfl⟩ := own_form hob
  rw [li_len]
  have HOB := Lib.hid hob
  generalize bodyN (tidyN g) (h : Nat) = bs at *
  clear hob hb HB3 HG3 hlc HL
  have hhm : h ∈ bs := (HMEM.out h).2 HLH.out
  have hL0 : 0 < bs.length := List.length_pos_of_mem hhm
  have HHM := Lib.hid hhm
  obtain ⟨bb, rfl⟩ := OwnInts.block HOB.out (by rw [li_len]; exact hL0)
  clear hhm
  go_wp2_with fail
  refine (without_any _ _ g (-1) HG6.out (by omega)).mono ?_
  rintro e v7 ⟨rfl, hoa, hb⟩
  have HG7 := Lib.hid (HG6.out.keep hb)
  have HB7 := Lib.hid (HB6.out.trans (hb.mono HB6.out.size))
  have HCB := Lib.hid (show ∀ k (hk : k < bs.length), v7.cell? ⟨bb, k, none⟩ = some (.int .i64 (bs[k] : Nat)) from fun k hk => by
    have hk2 : k < (li bs).length := by rw [li_len]; exact hk
    have := cell_keep hb (Nat.le_refl _) (OwnInts.cell HOB.out hk2).1
    rw [li_at hk hk2] at this; exact this)
  have hwl := withoutL_len g (-1)
  have HWAY := Lib.hid (fun a => without_iff (g := g) (gone := -1) (c := a))
  have HCA := Lib.hid (show ∀ a (ha : a < g.length), v7.cell? ⟨v6.heap.size, a, none⟩ = some (.bool ((withoutL g (-1)).getD a false)) from fun a ha => by
    have ha2 : a < (withoutL g (-1)).length := by rw [hwl]; exact ha
    rw [getD_at ha2]; exact OwnBools.cell hoa ha2)
  rw [hwl]
  generalize withoutL g (-1) = al at *
  clear hoa hb HB6 HG6 HOB hwl
  go_upto_region 10 with (fail)
  obtain ⟨V, hV⟩ : ∃ V, v7.alloc (.map #[] 0) = V := ⟨_, rfl⟩
  rw [hV]
  have hbV : Below v7.heap.size v7 V := by rw [← hV]; exact (Below.refl _ _).alloc (Nat.le_refl _) _
  have hsV : SetAt V v7.heap.size 0 (inTo bs 0) := by rw [← hV, inTo_zero]; exact SetAt.made v7
  have HBV := Lib.hid hbV
  have HSV := Lib.hid hsV
  clear hV hbV hsV
  go_wp2_with fail
  go_loopw [12] (fun i wr => ∃ k : Nat, k ≤ bs.length ∧ i = .int .i64 k ∧ SetAt wr v7.heap.size k (inTo bs k) ∧ Below v7.heap.size v7 wr) (fun i _ => bs.length - (intOf i).toNat)
  case atStart => exact ⟨0, by omega, rfl, HSV.out, HBV.out⟩
  case round =>
    obtain ⟨k, hk, rfl, hset, hb⟩ := hrel
    obtain ⟨wo, rfl⟩ : ∃ wo : World, wo = wr := ⟨_, rfl⟩
    have HO := Lib.hid hset
    have HB := Lib.hid hb
    have HGo := Lib.hid (HG7.out.keep hb)
    by_cases hlt : k < bs.length
    · have hck := cell_keep hb (Nat.le_refl _) (HCB.out k hlt)
      have HST := Lib.hid (inTo_step hlt)
      have HDM := Lib.hid ((HMEM.out bs[k]).1 (List.getElem_mem hlt)).dom
      have hyl := HBLT.out bs[k] (List.getElem_mem hlt)
      generalize bs[k] = y at *
      clear hset hb
      go_wp2_with fail
      refine (dom_any wo _ g (h : Int) (y : Int) HGo.out (by omega)).mono ?_
      rintro e w5 ⟨rfl, hb5⟩
      rw [HDM.out]
      have hck5 := cell_keep hb5 (Nat.le_refl _) hck
      have HO5 := Lib.hid (HO.out.below hb5)
      have HB5 := Lib.hid (HB.out.trans (hb5.mono HB.out.size))
      clear hb5 hck HO HB HGo
      go_wp2_with (at_mapUpdate; refine wpList_set rfl _ _ _ (Or.inl rfl) v7.heap.size k (inTo bs k) rfl HO5.out (by omega) (y : Int) true rfl rfl (by omega) ?_)
      intro w6 hs6 hg6
      rw [HST.out] at hs6
      have HS6 := Lib.hid hs6
      have HB6' := Lib.hid (HB5.out.grown hg6 HB5.out.size (fun j hj => by injection hj with hj; omega))
      clear hs6 hg6 hck5
      go_wp2
      go_roundw
      case rel => exact ⟨k + 1, by omega, by go_num, HS6.out, HB6'.out⟩
      case measure => simp [intOf]; omega
    · obtain rfl : k = bs.length := by omega
      clear hset hb
      go_upto_region 17 with (fail)
      go_wp2_with (refine wpList_set rfl _ _ _ (Or.inr rfl) wo.heap.size 0 (fun _ => false) rfl (SetAt.made wo) (by omega) (h : Int) true rfl rfl (by omega) ?_)
      intro wa hsa hga
      have hibl := HO.out.lt
      have HSIA := Lib.hid ((HO.out.below ((Below.refl _ _).alloc (Nat.le_refl _) (.map #[] 0))).kept hga (by simp; omega))
      have HBA := Lib.hid ((HB.out.alloc HB.out.size (.map #[] 0)).grown hga (by rw [World.size_alloc]; have := HB.out.size; omega) (fun j hj => by injection hj with hj; omega))
      have HSGA := Lib.hid hsa
      have HC1 := Lib.hid (show 1 ≤ cntB bs (updB (fun _ => false) (h : Int) true) from cntB_one HHM.out (by unfold updB; rw [if_pos rfl]))
      clear hsa hga
      go_wp2_with fail
      go_loopw [15] (fun v wr => ∃ i : Nat, i ≤ bs.length ∧ v = .int .i64 i ∧ ∃ (f : Int → Bool) (c : Nat), c ≤ 1 + i * 100 ∧ SetAt wr wo.heap.size c f ∧ SetAt wr v7.heap.size bs.length (inTo bs bs.length) ∧ Below v7.heap.size v7 wr ∧ f (h : Nat) = true ∧ (i + 1 ≤ cntB bs f ∨ bs.length ≤ cntB bs f)) (fun v _ => bs.length - (intOf v).toNat)
      case atStart => exact ⟨0, by omega, rfl, _, 1, by omega, HSGA.out, HSIA.out, HBA.out, by unfold updB; rw [if_pos rfl], Or.inl HC1.out⟩
      case round =>
        obtain ⟨i, hi, rfl, f0, c0, hcc0, hsg, hsi, hb, hh0, hcn⟩ := hrel
        obtain ⟨w0', rfl⟩ : ∃ w0' : World, w0' = wr := ⟨_, rfl⟩
        have HSG0 := Lib.hid hsg
        have HSI0 := Lib.hid hsi
        have HB0 := Lib.hid hb
        have HH0 := Lib.hid hh0
        have HCN := Lib.hid hcn
        clear hsg hsi hb hh0 hcn
        by_cases hil : i < bs.length
        · go_wp2_with fail
          go_loopw [16] (fun v wr => ∃ k : Nat, k ≤ bs.length ∧ v = .int .i64 k ∧ ∃ (f : Int → Bool) (c : Nat), c ≤ 1 + i * 100 + k * 10 ∧ SetAt wr wo.heap.size c f ∧ SetAt wr v7.heap.size bs.length (inTo bs bs.length) ∧ Below v7.heap.size v7 wr ∧ (∀ z : Nat, f0 (z : Nat) = true → f (z : Nat) = true) ∧ Upto g bs f0 f k) (fun v _ => bs.length - (intOf v).toNat)
          case atStart => exact ⟨0, by omega, rfl, f0, c0, by omega, HSG0.out, HSI0.out, HB0.out, fun z h => h, fun j hj => by omega⟩
          case round =>
            obtain ⟨k, hk, rfl, f1, c1, hcc1, hsg, hsi, hb, hmo, hup⟩ := hrel
            obtain ⟨wk, rfl⟩ : ∃ wk : World, wk = wr := ⟨_, rfl⟩
            have HSG1 := Lib.hid hsg
            have HSI1 := Lib.hid hsi
            have HBK := Lib.hid hb
            have HMO := Lib.hid hmo
            have HUP := Lib.hid hup
            clear hsg hsi hb hmo hup
            by_cases hkl : k < bs.length
            · obtain ⟨y, hyk⟩ : ∃ y, bs[k] = y := ⟨_, rfl⟩
              have HYK := Lib.hid hyk
              have hyl := HBLT.out bs[k] (List.getElem_mem hkl)
              rw [hyk] at hyl
              clear hyk
              go_wp2_with fail
              go_loopw [17] (fun v wr => ∃ x : Nat, x ≤ g.length ∧ v = .int .i64 x ∧ ∃ (f : Int → Bool) (c : Nat), c ≤ 1 + i * 100 + k * 10 + x ∧ SetAt wr wo.heap.size c f ∧ SetAt wr v7.heap.size bs.length (inTo bs bs.length) ∧ Below v7.heap.size v7 wr ∧ (∀ z : Nat, f0 (z : Nat) = true → f (z : Nat) = true) ∧ Upto g bs f0 f k ∧ Part g bs f0 f y x) (fun v _ => g.length - (intOf v).toNat)
              case atStart => exact ⟨0, by omega, rfl, f1, c1, by omega, HSG1.out, HSI1.out, HBK.out, HMO.out, HUP.out, fun x hx => by omega⟩
              case round =>
                obtain ⟨x, hx, rfl, f, c, hcc, hsg, hsi, hb, hmo, hup, hpa⟩ := hrel
                obtain ⟨wi, rfl⟩ : ∃ wi : World, wi = wr := ⟨_, rfl⟩
                have HSG := Lib.hid hsg
                have HSI := Lib.hid hsi
                have HBI := Lib.hid hb
                by_cases hxl : x < g.length
                · have HGI := Lib.hid (HG7.out.keep hb)
                  have hcy := cell_keep hb (Nat.le_refl _) (HCB.out k hkl)
                  rw [HYK.out] at hcy
                  have HSTEP := Lib.hid (fun v (hv : v = (f (y : Int) || (edgeB g (y : Int) (x : Int) && inTo bs bs.length (x : Int) && f (x : Int)))) => step_round (g := g) (bs := bs) (f0 := f0) (f := f) (k := k) (y := y) (x := x) (v := v) hv hmo hup hpa)
                  have hfy := hsg.look (x := (y : Int)) (by omega)
                  have hfx := hsg.look (x := (x : Int)) (by omega)
                  have hix := hsi.look (x := (x : Int)) (by omega)
                  clear hsg hsi hb hmo hup hpa
                  go_wp2_with fail
                  refine (edge_any wi _ g (y : Int) (x : Int) HGI.out).mono ?_
                  rintro e w' ⟨rfl, hww⟩
                  have hww2 := hww.symm
                  subst hww2
                  clear hww
                  have hfy : ∀ W : World, W.heap = wi.heap → (Instr.lookup 50 (.map (some wo.heap.size)) (.int .i64 (y : Int)) false).run Try.prog W = .ok (.bool (f (y : Int))) W := fun W e => (setAt_heap HSG.out e).look (by omega)
                  have hfx : ∀ W : World, W.heap = wi.heap → (Instr.lookup 50 (.map (some wo.heap.size)) (.int .i64 (x : Int)) false).run Try.prog W = .ok (.bool (f (x : Int))) W := fun W e => (setAt_heap HSG.out e).look (by omega)
                  have hix : ∀ W : World, W.heap = wi.heap → (Instr.lookup 50 (.map (some v7.heap.size)) (.int .i64 (x : Int)) false).run Try.prog W = .ok (.bool (inTo bs bs.length (x : Int))) W := fun W e => (setAt_heap HSI.out e).look (by omega)
                  replace hfy := hfy wi.drew rfl
                  replace hfx := hfx wi.drew rfl
                  replace hix := hix wi.drew rfl
                  have HWI := Lib.hid (show Below wi.heap.size wi wi from Below.refl _ _)
                  go_wp2_with fail
                  cases hfyv : f (y : Int) with
                  | true =>
                    rw [hfyv] at hfy HSTEP
                    refine region_held_wp (fun w' => w'.cell? ⟨bb, k, none⟩ = some (.int .i64 (y : Int)) ∧ (Instr.lookup 50 (.map (some wo.heap.size)) (.int .i64 (y : Int)) false).run Try.prog w' = .ok (.bool true) w' ∧ (Instr.lookup 50 (.map (some v7.heap.size)) (.int .i64 (x : Int)) false).run Try.prog w' = .ok (.bool (inTo bs bs.length (x : Int))) w' ∧ (Instr.lookup 50 (.map (some wo.heap.size)) (.int .i64 (x : Int)) false).run Try.prog w' = .ok (.bool (f (x : Int))) w') [0, 1, 2, 3, 4, 5, 6, 7, 8, 9, 10, 11, 12, 13, 14, 15, 16, 17, 18, 19, 20, 21, 22, 23] [0, 1, 2, 3, 4, 5, 6, 7, 8, 9, 10, 11, 12, 13, 14, 15, 16, 17, 18, 19, 20, 21, 22, 23, 24] (by kernel_rfl) (by kernel_rfl) (by kernel_rfl) rfl ?gapan ⟨hcy, hfy, hix, hfx⟩ ?_
                    case gapan => intro c a d v w h; cases d <;> exact h
                    refine walkH_still _ ?ga0 rfl rfl (by kernel_rfl) ?gay0 ?_
                    case gay0 => intro w hS; obtain ⟨hS, hS1, hS2, hS3⟩ := hS; go_simp; first | done | with_reducible rfl
                    simp only [Act.put]
                    refine walkH_still _ ?ga1 rfl rfl (by kernel_rfl) ?gay1 ?_
                    case gay1 => intro w hS; obtain ⟨hS, hS1, hS2, hS3⟩ := hS; go_simp; first | done | with_reducible rfl
                    simp only [Act.put]
                    refine walkH_still _ ?ga2 rfl rfl (by kernel_rfl) ?gay2 ?_
                    case gay2 => intro w hS; obtain ⟨hS, hS1, hS2, hS3⟩ := hS; go_simp; first | done | with_reducible rfl
                    simp only [Act.put]
                    refine walkH_still _ ?ga3 rfl rfl (by kernel_rfl) ?gay3 ?_
                    case gay3 => intro w hS; obtain ⟨hS, hS1, hS2, hS3⟩ := hS; go_simp; first | done | with_reducible rfl
                    simp only [Act.put]
                    refine walkH_still _ ?ga4 rfl rfl (by kernel_rfl) ?gay4 ?_
                    case gay4 => intro w hS; obtain ⟨hS, hS1, hS2, hS3⟩ := hS; go_simp; first | done | with_reducible rfl
                    simp only [Act.put]
                    refine walkH_still _ ?ga5 rfl rfl (by kernel_rfl) ?gay5 ?_
                    case gay5 => intro w hS; obtain ⟨hS, hS1, hS2, hS3⟩ := hS; go_simp; first | done | with_reducible rfl
                    simp only [Act.put]
                    refine walkH_still _ ?ga6 rfl rfl (by kernel_rfl) ?gay6 ?_
                    case gay6 => intro w hS; obtain ⟨hS, hS1, hS2, hS3⟩ := hS; go_simp; first | done | with_reducible rfl
                    simp only [Act.put]
                    refine walkH_still _ ?ga7 rfl rfl (by kernel_rfl) ?gay7 ?_
                    case gay7 => intro w hS; obtain ⟨hS, hS1, hS2, hS3⟩ := hS; go_simp; first | done | with_reducible rfl
                    simp only [Act.put]
                    refine walkH_still _ ?ga8 rfl rfl (by kernel_rfl) ?gay8 ?_
                    case gay8 => intro w hS; obtain ⟨hS, hS1, hS2, hS3⟩ := hS; go_simp; first | done | with_reducible rfl
                    simp only [Act.put]
                    refine walkH_still _ ?ga9 rfl rfl (by kernel_rfl) ?gay9 ?_
                    case gay9 => intro w hS; obtain ⟨hS, hS1, hS2, hS3⟩ := hS; go_simp; first | done | with_reducible rfl
                    simp only [Act.put]
                    refine walkH_still _ ?ga10 rfl rfl (by kernel_rfl) ?gay10 ?_
                    case gay10 => intro w hS; obtain ⟨hS, hS1, hS2, hS3⟩ := hS; go_simp; first | done | with_reducible rfl
                    simp only [Act.put]
                    refine walkH_still _ ?ga11 rfl rfl (by kernel_rfl) ?gay11 ?_
                    case gay11 => intro w hS; obtain ⟨hS, hS1, hS2, hS3⟩ := hS; go_simp; first | done | with_reducible rfl
                    simp only [Act.put]
                    refine walkH_skip _ rfl rfl (by kernel_rfl) ?_
                    simp only [Act.put]
                    refine walkH_skip _ rfl rfl (by kernel_rfl) ?_
                    simp only [Act.put]
                    refine walkH_skip _ rfl rfl (by kernel_rfl) ?_
                    simp only [Act.put]
                    refine walkH_skip _ rfl rfl (by kernel_rfl) ?_
                    simp only [Act.put]
                    refine walkH_skip _ rfl rfl (by kernel_rfl) ?_
                    simp only [Act.put]
                    refine walkH_skip _ rfl rfl (by kernel_rfl) ?_
                    simp only [Act.put]
                    refine walkH_skip _ rfl rfl (by kernel_rfl) ?_
                    simp only [Act.put]
                    refine walkH_skip _ rfl rfl (by kernel_rfl) ?_
                    simp only [Act.put]
                    refine walkH_skip _ rfl rfl (by kernel_rfl) ?_
                    simp only [Act.put]
                    refine walkH_skip _ rfl rfl (by kernel_rfl) ?_
                    simp only [Act.put]
                    refine walkH_skip _ rfl rfl (by kernel_rfl) ?_
                    simp only [Act.put]
                    refine walkH_still _ ?ga23 rfl rfl (by kernel_rfl) ?gay23 ?_
                    case gay23 => intro w hS; obtain ⟨hS, hS1, hS2, hS3⟩ := hS; go_simp; first | done | with_reducible rfl
                    simp only [Act.put]
                    simp only [List.setIfInBounds_toArray, List.set_cons_zero, List.set_cons_succ]
                    refine walkH_does _ rfl rfl ?_
                    go_loud (refine wpList_set rfl _ _ _ (Or.inl rfl) wo.heap.size c f rfl (show SetAt wi.drew wo.heap.size c f from HSG.out) (by omega) (y : Int) true rfl rfl (by omega) ?_)
                    intro w6 hs6 hg6
                    have HSG6 := Lib.hid hs6
                    have HSI6 := Lib.hid (SetAt.kept (w := wi.drew) (show SetAt wi.drew v7.heap.size bs.length (inTo bs bs.length) from HSI.out) hg6 (by simp; omega))
                    have HB6 := Lib.hid ((show Below v7.heap.size v7 wi.drew from HBI.out.drew).grown hg6 (by have := HBI.out.size; exact this) (fun j hj => by injection hj with hj; omega))
                    have HNX := Lib.hid (HSTEP.out true (by first | rfl | simp))
                    clear hs6 hg6 hcy hfy hix hfx
                    go_wp2
                    refine walkH_nil ?_
                    go_wp2
                    go_roundw
                    case rel => exact ⟨x + 1, by omega, by go_num, _, c + 1, by omega, HSG6.out, HSI6.out, HB6.out, HNX.out.1, HNX.out.2.1, HNX.out.2.2⟩
                    case measure => simp [intOf]; omega
                  | false =>
                    rw [hfyv] at hfy HSTEP
                    cases hev : edgeB g (y : Int) (x : Int) with
                    | false =>
                      rw [hev] at HSTEP
                      refine region_held_wp (fun w' => w'.cell? ⟨bb, k, none⟩ = some (.int .i64 (y : Int)) ∧ (Instr.lookup 50 (.map (some wo.heap.size)) (.int .i64 (y : Int)) false).run Try.prog w' = .ok (.bool false) w' ∧ (Instr.lookup 50 (.map (some v7.heap.size)) (.int .i64 (x : Int)) false).run Try.prog w' = .ok (.bool (inTo bs bs.length (x : Int))) w' ∧ (Instr.lookup 50 (.map (some wo.heap.size)) (.int .i64 (x : Int)) false).run Try.prog w' = .ok (.bool (f (x : Int))) w') [0, 1, 2, 3, 4, 5, 6, 7, 8, 9, 10, 11, 12, 13, 14, 15, 16, 17, 18, 19, 20, 21, 22, 23] [0, 1, 2, 3, 4, 5, 6, 7, 8, 9, 10, 11, 12, 13, 14, 15, 16, 17, 18, 19, 20, 21, 22, 23, 24] (by kernel_rfl) (by kernel_rfl) (by kernel_rfl) rfl ?gbpan ⟨hcy, hfy, hix, hfx⟩ ?_
                      case gbpan => intro c a d v w h; cases d <;> exact h
                      refine walkH_still _ ?gb0 rfl rfl (by kernel_rfl) ?gby0 ?_
                      case gby0 => intro w hS; obtain ⟨hS, hS1, hS2, hS3⟩ := hS; go_simp; first | done | with_reducible rfl
                      simp only [Act.put]
                      refine walkH_still _ ?gb1 rfl rfl (by kernel_rfl) ?gby1 ?_
                      case gby1 => intro w hS; obtain ⟨hS, hS1, hS2, hS3⟩ := hS; go_simp; first | done | with_reducible rfl
                      simp only [Act.put]
                      refine walkH_still _ ?gb2 rfl rfl (by kernel_rfl) ?gby2 ?_
                      case gby2 => intro w hS; obtain ⟨hS, hS1, hS2, hS3⟩ := hS; go_simp; first | done | with_reducible rfl
                      simp only [Act.put]
                      refine walkH_still _ ?gb3 rfl rfl (by kernel_rfl) ?gby3 ?_
                      case gby3 => intro w hS; obtain ⟨hS, hS1, hS2, hS3⟩ := hS; go_simp; first | done | with_reducible rfl
                      simp only [Act.put]
                      refine walkH_still _ ?gb4 rfl rfl (by kernel_rfl) ?gby4 ?_
                      case gby4 => intro w hS; obtain ⟨hS, hS1, hS2, hS3⟩ := hS; go_simp; first | done | with_reducible rfl
                      simp only [Act.put]
                      refine walkH_still _ ?gb5 rfl rfl (by kernel_rfl) ?gby5 ?_
                      case gby5 => intro w hS; obtain ⟨hS, hS1, hS2, hS3⟩ := hS; go_simp; first | done | with_reducible rfl
                      simp only [Act.put]
                      refine walkH_still _ ?gb6 rfl rfl (by kernel_rfl) ?gby6 ?_
                      case gby6 => intro w hS; obtain ⟨hS, hS1, hS2, hS3⟩ := hS; go_simp; first | done | with_reducible rfl
                      simp only [Act.put]
                      refine walkH_still _ ?gb7 rfl rfl (by kernel_rfl) ?gby7 ?_
                      case gby7 => intro w hS; obtain ⟨hS, hS1, hS2, hS3⟩ := hS; go_simp; first | done | with_reducible rfl
                      simp only [Act.put]
                      refine walkH_still _ ?gb8 rfl rfl (by kernel_rfl) ?gby8 ?_
                      case gby8 => intro w hS; obtain ⟨hS, hS1, hS2, hS3⟩ := hS; go_simp; first | done | with_reducible rfl
                      simp only [Act.put]
                      refine walkH_still _ ?gb9 rfl rfl (by kernel_rfl) ?gby9 ?_
                      case gby9 => intro w hS; obtain ⟨hS, hS1, hS2, hS3⟩ := hS; go_simp; first | done | with_reducible rfl
                      simp only [Act.put]
                      refine walkH_still _ ?gb10 rfl rfl (by kernel_rfl) ?gby10 ?_
                      case gby10 => intro w hS; obtain ⟨hS, hS1, hS2, hS3⟩ := hS; go_simp; first | done | with_reducible rfl
                      simp only [Act.put]
                      refine walkH_still _ ?gb11 rfl rfl (by kernel_rfl) ?gby11 ?_
                      case gby11 => intro w hS; obtain ⟨hS, hS1, hS2, hS3⟩ := hS; go_simp; first | done | with_reducible rfl
                      simp only [Act.put]
                      refine walkH_still _ ?gb12 rfl rfl (by kernel_rfl) ?gby12 ?_
                      case gby12 => intro w hS; obtain ⟨hS, hS1, hS2, hS3⟩ := hS; go_simp; first | done | with_reducible rfl
                      simp only [Act.put]
                      refine walkH_still _ ?gb13 rfl rfl (by kernel_rfl) ?gby13 ?_
                      case gby13 => intro w hS; obtain ⟨hS, hS1, hS2, hS3⟩ := hS; go_simp; first | done | with_reducible rfl
                      simp only [Act.put]
                      refine walkH_skip _ rfl rfl (by kernel_rfl) ?_
                      simp only [Act.put]
                      refine walkH_skip _ rfl rfl (by kernel_rfl) ?_
                      simp only [Act.put]
                      refine walkH_skip _ rfl rfl (by kernel_rfl) ?_
                      simp only [Act.put]
                      refine walkH_still _ ?gb17 rfl rfl (by kernel_rfl) ?gby17 ?_
                      case gby17 => intro w hS; obtain ⟨hS, hS1, hS2, hS3⟩ := hS; go_simp; first | done | with_reducible rfl
                      simp only [Act.put]
                      refine walkH_still _ ?gb18 rfl rfl (by kernel_rfl) ?gby18 ?_
                      case gby18 => intro w hS; obtain ⟨hS, hS1, hS2, hS3⟩ := hS; go_simp; first | done | with_reducible rfl
                      simp only [Act.put]
                      refine walkH_skip _ rfl rfl (by kernel_rfl) ?_
                      simp only [Act.put]
                      refine walkH_skip _ rfl rfl (by kernel_rfl) ?_
                      simp only [Act.put]
                      refine walkH_skip _ rfl rfl (by kernel_rfl) ?_
                      simp only [Act.put]
                      refine walkH_still _ ?gb22 rfl rfl (by kernel_rfl) ?gby22 ?_
                      case gby22 => intro w hS; obtain ⟨hS, hS1, hS2, hS3⟩ := hS; go_simp; first | done | with_reducible rfl
                      simp only [Act.put]
                      refine walkH_still _ ?gb23 rfl rfl (by kernel_rfl) ?gby23 ?_
                      case gby23 => intro w hS; obtain ⟨hS, hS1, hS2, hS3⟩ := hS; go_simp; first | done | with_reducible rfl
                      simp only [Act.put]
                      simp only [List.setIfInBounds_toArray, List.set_cons_zero, List.set_cons_succ]
                      refine walkH_does _ rfl rfl ?_
                      go_loud (refine wpList_set rfl _ _ _ (Or.inl rfl) wo.heap.size c f rfl (show SetAt wi.drew wo.heap.size c f from HSG.out) (by omega) (y : Int) false rfl rfl (by omega) ?_)
                      intro w6 hs6 hg6
                      have HSG6 := Lib.hid hs6
                      have HSI6 := Lib.hid (SetAt.kept (w := wi.drew) (show SetAt wi.drew v7.heap.size bs.length (inTo bs bs.length) from HSI.out) hg6 (by simp; omega))
                      have HB6 := Lib.hid ((show Below v7.heap.size v7 wi.drew from HBI.out.drew).grown hg6 (by have := HBI.out.size; exact this) (fun j hj => by injection hj with hj; omega))
                      have HNX := Lib.hid (HSTEP.out false (by first | rfl | simp))
                      clear hs6 hg6 hcy hfy hix hfx
                      go_wp2
                      refine walkH_nil ?_
                      go_wp2
                      go_roundw
                      case rel => exact ⟨x + 1, by omega, by go_num, _, c + 1, by omega, HSG6.out, HSI6.out, HB6.out, HNX.out.1, HNX.out.2.1, HNX.out.2.2⟩
                      case measure => simp [intOf]; omega
                    | true =>
                      rw [hev] at HSTEP
                      cases hixv : inTo bs bs.length (x : Int) with
                      | false =>
                        rw [hixv] at hix HSTEP
                        refine region_held_wp (fun w' => w'.cell? ⟨bb, k, none⟩ = some (.int .i64 (y : Int)) ∧ (Instr.lookup 50 (.map (some wo.heap.size)) (.int .i64 (y : Int)) false).run Try.prog w' = .ok (.bool false) w' ∧ (Instr.lookup 50 (.map (some v7.heap.size)) (.int .i64 (x : Int)) false).run Try.prog w' = .ok (.bool false) w' ∧ (Instr.lookup 50 (.map (some wo.heap.size)) (.int .i64 (x : Int)) false).run Try.prog w' = .ok (.bool (f (x : Int))) w') [0, 1, 2, 3, 4, 5, 6, 7, 8, 9, 10, 11, 12, 13, 14, 15, 16, 17, 18, 19, 20, 21, 22, 23] [0, 1, 2, 3, 4, 5, 6, 7, 8, 9, 10, 11, 12, 13, 14, 15, 16, 17, 18, 19, 20, 21, 22, 23, 24] (by kernel_rfl) (by kernel_rfl) (by kernel_rfl) rfl ?gcpan ⟨hcy, hfy, hix, hfx⟩ ?_
                        case gcpan => intro c a d v w h; cases d <;> exact h
                        refine walkH_still _ ?gc0 rfl rfl (by kernel_rfl) ?gcy0 ?_
                        case gcy0 => intro w hS; obtain ⟨hS, hS1, hS2, hS3⟩ := hS; go_simp; first | done | with_reducible rfl
                        simp only [Act.put]
                        refine walkH_still _ ?gc1 rfl rfl (by kernel_rfl) ?gcy1 ?_
                        case gcy1 => intro w hS; obtain ⟨hS, hS1, hS2, hS3⟩ := hS; go_simp; first | done | with_reducible rfl
                        simp only [Act.put]
                        refine walkH_still _ ?gc2 rfl rfl (by kernel_rfl) ?gcy2 ?_
                        case gcy2 => intro w hS; obtain ⟨hS, hS1, hS2, hS3⟩ := hS; go_simp; first | done | with_reducible rfl
                        simp only [Act.put]
                        refine walkH_still _ ?gc3 rfl rfl (by kernel_rfl) ?gcy3 ?_
                        case gcy3 => intro w hS; obtain ⟨hS, hS1, hS2, hS3⟩ := hS; go_simp; first | done | with_reducible rfl
                        simp only [Act.put]
                        refine walkH_still _ ?gc4 rfl rfl (by kernel_rfl) ?gcy4 ?_
                        case gcy4 => intro w hS; obtain ⟨hS, hS1, hS2, hS3⟩ := hS; go_simp; first | done | with_reducible rfl
                        simp only [Act.put]
                        refine walkH_still _ ?gc5 rfl rfl (by kernel_rfl) ?gcy5 ?_
                        case gcy5 => intro w hS; obtain ⟨hS, hS1, hS2, hS3⟩ := hS; go_simp; first | done | with_reducible rfl
                        simp only [Act.put]
                        refine walkH_still _ ?gc6 rfl rfl (by kernel_rfl) ?gcy6 ?_
                        case gcy6 => intro w hS; obtain ⟨hS, hS1, hS2, hS3⟩ := hS; go_simp; first | done | with_reducible rfl
                        simp only [Act.put]
                        refine walkH_still _ ?gc7 rfl rfl (by kernel_rfl) ?gcy7 ?_
                        case gcy7 => intro w hS; obtain ⟨hS, hS1, hS2, hS3⟩ := hS; go_simp; first | done | with_reducible rfl
                        simp only [Act.put]
                        refine walkH_still _ ?gc8 rfl rfl (by kernel_rfl) ?gcy8 ?_
                        case gcy8 => intro w hS; obtain ⟨hS, hS1, hS2, hS3⟩ := hS; go_simp; first | done | with_reducible rfl
                        simp only [Act.put]
                        refine walkH_still _ ?gc9 rfl rfl (by kernel_rfl) ?gcy9 ?_
                        case gcy9 => intro w hS; obtain ⟨hS, hS1, hS2, hS3⟩ := hS; go_simp; first | done | with_reducible rfl
                        simp only [Act.put]
                        refine walkH_still _ ?gc10 rfl rfl (by kernel_rfl) ?gcy10 ?_
                        case gcy10 => intro w hS; obtain ⟨hS, hS1, hS2, hS3⟩ := hS; go_simp; first | done | with_reducible rfl
                        simp only [Act.put]
                        refine walkH_still _ ?gc11 rfl rfl (by kernel_rfl) ?gcy11 ?_
                        case gcy11 => intro w hS; obtain ⟨hS, hS1, hS2, hS3⟩ := hS; go_simp; first | done | with_reducible rfl
                        simp only [Act.put]
                        refine walkH_still _ ?gc12 rfl rfl (by kernel_rfl) ?gcy12 ?_
                        case gcy12 => intro w hS; obtain ⟨hS, hS1, hS2, hS3⟩ := hS; go_simp; first | done | with_reducible rfl
                        simp only [Act.put]
                        refine walkH_still _ ?gc13 rfl rfl (by kernel_rfl) ?gcy13 ?_
                        case gcy13 => intro w hS; obtain ⟨hS, hS1, hS2, hS3⟩ := hS; go_simp; first | done | with_reducible rfl
                        simp only [Act.put]
                        refine walkH_still _ ?gc14 rfl rfl (by kernel_rfl) ?gcy14 ?_
                        case gcy14 => intro w hS; obtain ⟨hS, hS1, hS2, hS3⟩ := hS; go_simp; first | done | with_reducible rfl
                        simp only [Act.put]
                        refine walkH_still _ ?gc15 rfl rfl (by kernel_rfl) ?gcy15 ?_
                        case gcy15 => intro w hS; obtain ⟨hS, hS1, hS2, hS3⟩ := hS; go_simp; first | done | with_reducible rfl
                        simp only [Act.put]
                        refine walkH_still _ ?gc16 rfl rfl (by kernel_rfl) ?gcy16 ?_
                        case gcy16 => intro w hS; obtain ⟨hS, hS1, hS2, hS3⟩ := hS; go_simp; first | done | with_reducible rfl
                        simp only [Act.put]
                        refine walkH_still _ ?gc17 rfl rfl (by kernel_rfl) ?gcy17 ?_
                        case gcy17 => intro w hS; obtain ⟨hS, hS1, hS2, hS3⟩ := hS; go_simp; first | done | with_reducible rfl
                        simp only [Act.put]
                        refine walkH_still _ ?gc18 rfl rfl (by kernel_rfl) ?gcy18 ?_
                        case gcy18 => intro w hS; obtain ⟨hS, hS1, hS2, hS3⟩ := hS; go_simp; first | done | with_reducible rfl
                        simp only [Act.put]
                        refine walkH_skip _ rfl rfl (by kernel_rfl) ?_
                        simp only [Act.put]
                        refine walkH_skip _ rfl rfl (by kernel_rfl) ?_
                        simp only [Act.put]
                        refine walkH_skip _ rfl rfl (by kernel_rfl) ?_
                        simp only [Act.put]
                        refine walkH_still _ ?gc22 rfl rfl (by kernel_rfl) ?gcy22 ?_
                        case gcy22 => intro w hS; obtain ⟨hS, hS1, hS2, hS3⟩ := hS; go_simp; first | done | with_reducible rfl
                        simp only [Act.put]
                        refine walkH_still _ ?gc23 rfl rfl (by kernel_rfl) ?gcy23 ?_
                        case gcy23 => intro w hS; obtain ⟨hS, hS1, hS2, hS3⟩ := hS; go_simp; first | done | with_reducible rfl
                        simp only [Act.put]
                        simp only [List.setIfInBounds_toArray, List.set_cons_zero, List.set_cons_succ]
                        refine walkH_does _ rfl rfl ?_
                        go_loud (refine wpList_set rfl _ _ _ (Or.inl rfl) wo.heap.size c f rfl (show SetAt wi.drew wo.heap.size c f from HSG.out) (by omega) (y : Int) false rfl rfl (by omega) ?_)
                        intro w6 hs6 hg6
                        have HSG6 := Lib.hid hs6
                        have HSI6 := Lib.hid (SetAt.kept (w := wi.drew) (show SetAt wi.drew v7.heap.size bs.length (inTo bs bs.length) from HSI.out) hg6 (by simp; omega))
                        have HB6 := Lib.hid ((show Below v7.heap.size v7 wi.drew from HBI.out.drew).grown hg6 (by have := HBI.out.size; exact this) (fun j hj => by injection hj with hj; omega))
                        have HNX := Lib.hid (HSTEP.out false (by first | rfl | simp))
                        clear hs6 hg6 hcy hfy hix hfx
                        go_wp2
                        refine walkH_nil ?_
                        go_wp2
                        go_roundw
                        case rel => exact ⟨x + 1, by omega, by go_num, _, c + 1, by omega, HSG6.out, HSI6.out, HB6.out, HNX.out.1, HNX.out.2.1, HNX.out.2.2⟩
                        case measure => simp [intOf]; omega
                      | true =>
                        rw [hixv] at hix HSTEP
                        cases hfxv : f (x : Int) with
                        | false =>
                          rw [hfxv] at hfx HSTEP
                          refine region_held_wp (fun w' => w'.cell? ⟨bb, k, none⟩ = some (.int .i64 (y : Int)) ∧ (Instr.lookup 50 (.map (some wo.heap.size)) (.int .i64 (y : Int)) false).run Try.prog w' = .ok (.bool false) w' ∧ (Instr.lookup 50 (.map (some v7.heap.size)) (.int .i64 (x : Int)) false).run Try.prog w' = .ok (.bool true) w' ∧ (Instr.lookup 50 (.map (some wo.heap.size)) (.int .i64 (x : Int)) false).run Try.prog w' = .ok (.bool false) w') [0, 1, 2, 3, 4, 5, 6, 7, 8, 9, 10, 11, 12, 13, 14, 15, 16, 17, 18, 19, 20, 21, 22, 23] [0, 1, 2, 3, 4, 5, 6, 7, 8, 9, 10, 11, 12, 13, 14, 15, 16, 17, 18, 19, 20, 21, 22, 23, 24] (by kernel_rfl) (by kernel_rfl) (by kernel_rfl) rfl ?gdpan ⟨hcy, hfy, hix, hfx⟩ ?_
                          case gdpan => intro c a d v w h; cases d <;> exact h
                          refine walkH_still _ ?gd0 rfl rfl (by kernel_rfl) ?gdy0 ?_
                          case gdy0 => intro w hS; obtain ⟨hS, hS1, hS2, hS3⟩ := hS; go_simp; first | done | with_reducible rfl
                          simp only [Act.put]
                          refine walkH_still _ ?gd1 rfl rfl (by kernel_rfl) ?gdy1 ?_
                          case gdy1 => intro w hS; obtain ⟨hS, hS1, hS2, hS3⟩ := hS; go_simp; first | done | with_reducible rfl
                          simp only [Act.put]
                          refine walkH_still _ ?gd2 rfl rfl (by kernel_rfl) ?gdy2 ?_
                          case gdy2 => intro w hS; obtain ⟨hS, hS1, hS2, hS3⟩ := hS; go_simp; first | done | with_reducible rfl
                          simp only [Act.put]
                          refine walkH_still _ ?gd3 rfl rfl (by kernel_rfl) ?gdy3 ?_
                          case gdy3 => intro w hS; obtain ⟨hS, hS1, hS2, hS3⟩ := hS; go_simp; first | done | with_reducible rfl
                          simp only [Act.put]
                          refine walkH_still _ ?gd4 rfl rfl (by kernel_rfl) ?gdy4 ?_
                          case gdy4 => intro w hS; obtain ⟨hS, hS1, hS2, hS3⟩ := hS; go_simp; first | done | with_reducible rfl
                          simp only [Act.put]
                          refine walkH_still _ ?gd5 rfl rfl (by kernel_rfl) ?gdy5 ?_
                          case gdy5 => intro w hS; obtain ⟨hS, hS1, hS2, hS3⟩ := hS; go_simp; first | done | with_reducible rfl
                          simp only [Act.put]
                          refine walkH_still _ ?gd6 rfl rfl (by kernel_rfl) ?gdy6 ?_
                          case gdy6 => intro w hS; obtain ⟨hS, hS1, hS2, hS3⟩ := hS; go_simp; first | done | with_reducible rfl
                          simp only [Act.put]
                          refine walkH_still _ ?gd7 rfl rfl (by kernel_rfl) ?gdy7 ?_
                          case gdy7 => intro w hS; obtain ⟨hS, hS1, hS2, hS3⟩ := hS; go_simp; first | done | with_reducible rfl
                          simp only [Act.put]
                          refine walkH_still _ ?gd8 rfl rfl (by kernel_rfl) ?gdy8 ?_
                          case gdy8 => intro w hS; obtain ⟨hS, hS1, hS2, hS3⟩ := hS; go_simp; first | done | with_reducible rfl
                          simp only [Act.put]
                          refine walkH_still _ ?gd9 rfl rfl (by kernel_rfl) ?gdy9 ?_
                          case gdy9 => intro w hS; obtain ⟨hS, hS1, hS2, hS3⟩ := hS; go_simp; first | done | with_reducible rfl
                          simp only [Act.put]
                          refine walkH_still _ ?gd10 rfl rfl (by kernel_rfl) ?gdy10 ?_
                          case gdy10 => intro w hS; obtain ⟨hS, hS1, hS2, hS3⟩ := hS; go_simp; first | done | with_reducible rfl
                          simp only [Act.put]
                          refine walkH_still _ ?gd11 rfl rfl (by kernel_rfl) ?gdy11 ?_
                          case gdy11 => intro w hS; obtain ⟨hS, hS1, hS2, hS3⟩ := hS; go_simp; first | done | with_reducible rfl
                          simp only [Act.put]
                          refine walkH_still _ ?gd12 rfl rfl (by kernel_rfl) ?gdy12 ?_
                          case gdy12 => intro w hS; obtain ⟨hS, hS1, hS2, hS3⟩ := hS; go_simp; first | done | with_reducible rfl
                          simp only [Act.put]
                          refine walkH_still _ ?gd13 rfl rfl (by kernel_rfl) ?gdy13 ?_
                          case gdy13 => intro w hS; obtain ⟨hS, hS1, hS2, hS3⟩ := hS; go_simp; first | done | with_reducible rfl
                          simp only [Act.put]
                          refine walkH_still _ ?gd14 rfl rfl (by kernel_rfl) ?gdy14 ?_
                          case gdy14 => intro w hS; obtain ⟨hS, hS1, hS2, hS3⟩ := hS; go_simp; first | done | with_reducible rfl
                          simp only [Act.put]
                          refine walkH_still _ ?gd15 rfl rfl (by kernel_rfl) ?gdy15 ?_
                          case gdy15 => intro w hS; obtain ⟨hS, hS1, hS2, hS3⟩ := hS; go_simp; first | done | with_reducible rfl
                          simp only [Act.put]
                          refine walkH_still _ ?gd16 rfl rfl (by kernel_rfl) ?gdy16 ?_
                          case gdy16 => intro w hS; obtain ⟨hS, hS1, hS2, hS3⟩ := hS; go_simp; first | done | with_reducible rfl
                          simp only [Act.put]
                          refine walkH_still _ ?gd17 rfl rfl (by kernel_rfl) ?gdy17 ?_
                          case gdy17 => intro w hS; obtain ⟨hS, hS1, hS2, hS3⟩ := hS; go_simp; first | done | with_reducible rfl
                          simp only [Act.put]
                          refine walkH_still _ ?gd18 rfl rfl (by kernel_rfl) ?gdy18 ?_
                          case gdy18 => intro w hS; obtain ⟨hS, hS1, hS2, hS3⟩ := hS; go_simp; first | done | with_reducible rfl
                          simp only [Act.put]
                          refine walkH_still _ ?gd19 rfl rfl (by kernel_rfl) ?gdy19 ?_
                          case gdy19 => intro w hS; obtain ⟨hS, hS1, hS2, hS3⟩ := hS; go_simp; first | done | with_reducible rfl
                          simp only [Act.put]
                          refine walkH_still _ ?gd20 rfl rfl (by kernel_rfl) ?gdy20 ?_
                          case gdy20 => intro w hS; obtain ⟨hS, hS1, hS2, hS3⟩ := hS; go_simp; first | done | with_reducible rfl
                          simp only [Act.put]
                          refine walkH_still _ ?gd21 rfl rfl (by kernel_rfl) ?gdy21 ?_
                          case gdy21 => intro w hS; obtain ⟨hS, hS1, hS2, hS3⟩ := hS; go_simp; first | done | with_reducible rfl
                          simp only [Act.put]
                          refine walkH_still _ ?gd22 rfl rfl (by kernel_rfl) ?gdy22 ?_
                          case gdy22 => intro w hS; obtain ⟨hS, hS1, hS2, hS3⟩ := hS; go_simp; first | done | with_reducible rfl
                          simp only [Act.put]
                          refine walkH_still _ ?gd23 rfl rfl (by kernel_rfl) ?gdy23 ?_
                          case gdy23 => intro w hS; obtain ⟨hS, hS1, hS2, hS3⟩ := hS; go_simp; first | done | with_reducible rfl
                          simp only [Act.put]
                          simp only [List.setIfInBounds_toArray, List.set_cons_zero, List.set_cons_succ]
                          refine walkH_does _ rfl rfl ?_
                          go_loud (refine wpList_set rfl _ _ _ (Or.inl rfl) wo.heap.size c f rfl (show SetAt wi.drew wo.heap.size c f from HSG.out) (by omega) (y : Int) false rfl rfl (by omega) ?_)
                          intro w6 hs6 hg6
                          have HSG6 := Lib.hid hs6
                          have HSI6 := Lib.hid (SetAt.kept (w := wi.drew) (show SetAt wi.drew v7.heap.size bs.length (inTo bs bs.length) from HSI.out) hg6 (by simp; omega))
                          have HB6 := Lib.hid ((show Below v7.heap.size v7 wi.drew from HBI.out.drew).grown hg6 (by have := HBI.out.size; exact this) (fun j hj => by injection hj with hj; omega))
                          have HNX := Lib.hid (HSTEP.out false (by first | rfl | simp))
                          clear hs6 hg6 hcy hfy hix hfx
                          go_wp2
                          refine walkH_nil ?_
                          go_wp2
                          go_roundw
                          case rel => exact ⟨x + 1, by omega, by go_num, _, c + 1, by omega, HSG6.out, HSI6.out, HB6.out, HNX.out.1, HNX.out.2.1, HNX.out.2.2⟩
                          case measure => simp [intOf]; omega
                        | true =>
                          rw [hfxv] at hfx HSTEP
                          refine region_held_wp (fun w' => w'.cell? ⟨bb, k, none⟩ = some (.int .i64 (y : Int)) ∧ (Instr.lookup 50 (.map (some wo.heap.size)) (.int .i64 (y : Int)) false).run Try.prog w' = .ok (.bool false) w' ∧ (Instr.lookup 50 (.map (some v7.heap.size)) (.int .i64 (x : Int)) false).run Try.prog w' = .ok (.bool true) w' ∧ (Instr.lookup 50 (.map (some wo.heap.size)) (.int .i64 (x : Int)) false).run Try.prog w' = .ok (.bool true) w') [0, 1, 2, 3, 4, 5, 6, 7, 8, 9, 10, 11, 12, 13, 14, 15, 16, 17, 18, 19, 20, 21, 22, 23] [0, 1, 2, 3, 4, 5, 6, 7, 8, 9, 10, 11, 12, 13, 14, 15, 16, 17, 18, 19, 20, 21, 22, 23, 24] (by kernel_rfl) (by kernel_rfl) (by kernel_rfl) rfl ?gepan ⟨hcy, hfy, hix, hfx⟩ ?_
                          case gepan => intro c a d v w h; cases d <;> exact h
                          refine walkH_still _ ?ge0 rfl rfl (by kernel_rfl) ?gey0 ?_
                          case gey0 => intro w hS; obtain ⟨hS, hS1, hS2, hS3⟩ := hS; go_simp; first | done | with_reducible rfl
                          simp only [Act.put]
                          refine walkH_still _ ?ge1 rfl rfl (by kernel_rfl) ?gey1 ?_
                          case gey1 => intro w hS; obtain ⟨hS, hS1, hS2, hS3⟩ := hS; go_simp; first | done | with_reducible rfl
                          simp only [Act.put]
                          refine walkH_still _ ?ge2 rfl rfl (by kernel_rfl) ?gey2 ?_
                          case gey2 => intro w hS; obtain ⟨hS, hS1, hS2, hS3⟩ := hS; go_simp; first | done | with_reducible rfl
                          simp only [Act.put]
                          refine walkH_still _ ?ge3 rfl rfl (by kernel_rfl) ?gey3 ?_
                          case gey3 => intro w hS; obtain ⟨hS, hS1, hS2, hS3⟩ := hS; go_simp; first | done | with_reducible rfl
                          simp only [Act.put]
                          refine walkH_still _ ?ge4 rfl rfl (by kernel_rfl) ?gey4 ?_
                          case gey4 => intro w hS; obtain ⟨hS, hS1, hS2, hS3⟩ := hS; go_simp; first | done | with_reducible rfl
                          simp only [Act.put]
                          refine walkH_still _ ?ge5 rfl rfl (by kernel_rfl) ?gey5 ?_
                          case gey5 => intro w hS; obtain ⟨hS, hS1, hS2, hS3⟩ := hS; go_simp; first | done | with_reducible rfl
                          simp only [Act.put]
                          refine walkH_still _ ?ge6 rfl rfl (by kernel_rfl) ?gey6 ?_
                          case gey6 => intro w hS; obtain ⟨hS, hS1, hS2, hS3⟩ := hS; go_simp; first | done | with_reducible rfl
                          simp only [Act.put]
                          refine walkH_still _ ?ge7 rfl rfl (by kernel_rfl) ?gey7 ?_
                          case gey7 => intro w hS; obtain ⟨hS, hS1, hS2, hS3⟩ := hS; go_simp; first | done | with_reducible rfl
                          simp only [Act.put]
                          refine walkH_still _ ?ge8 rfl rfl (by kernel_rfl) ?gey8 ?_
                          case gey8 => intro w hS; obtain ⟨hS, hS1, hS2, hS3⟩ := hS; go_simp; first | done | with_reducible rfl
                          simp only [Act.put]
                          refine walkH_still _ ?ge9 rfl rfl (by kernel_rfl) ?gey9 ?_
                          case gey9 => intro w hS; obtain ⟨hS, hS1, hS2, hS3⟩ := hS; go_simp; first | done | with_reducible rfl
                          simp only [Act.put]
                          refine walkH_still _ ?ge10 rfl rfl (by kernel_rfl) ?gey10 ?_
                          case gey10 => intro w hS; obtain ⟨hS, hS1, hS2, hS3⟩ := hS; go_simp; first | done | with_reducible rfl
                          simp only [Act.put]
                          refine walkH_still _ ?ge11 rfl rfl (by kernel_rfl) ?gey11 ?_
                          case gey11 => intro w hS; obtain ⟨hS, hS1, hS2, hS3⟩ := hS; go_simp; first | done | with_reducible rfl
                          simp only [Act.put]
                          refine walkH_still _ ?ge12 rfl rfl (by kernel_rfl) ?gey12 ?_
                          case gey12 => intro w hS; obtain ⟨hS, hS1, hS2, hS3⟩ := hS; go_simp; first | done | with_reducible rfl
                          simp only [Act.put]
                          refine walkH_still _ ?ge13 rfl rfl (by kernel_rfl) ?gey13 ?_
                          case gey13 => intro w hS; obtain ⟨hS, hS1, hS2, hS3⟩ := hS; go_simp; first | done | with_reducible rfl
                          simp only [Act.put]
                          refine walkH_still _ ?ge14 rfl rfl (by kernel_rfl) ?gey14 ?_
                          case gey14 => intro w hS; obtain ⟨hS, hS1, hS2, hS3⟩ := hS; go_simp; first | done | with_reducible rfl
                          simp only [Act.put]
                          refine walkH_still _ ?ge15 rfl rfl (by kernel_rfl) ?gey15 ?_
                          case gey15 => intro w hS; obtain ⟨hS, hS1, hS2, hS3⟩ := hS; go_simp; first | done | with_reducible rfl
                          simp only [Act.put]
                          refine walkH_still _ ?ge16 rfl rfl (by kernel_rfl) ?gey16 ?_
                          case gey16 => intro w hS; obtain ⟨hS, hS1, hS2, hS3⟩ := hS; go_simp; first | done | with_reducible rfl
                          simp only [Act.put]
                          refine walkH_still _ ?ge17 rfl rfl (by kernel_rfl) ?gey17 ?_
                          case gey17 => intro w hS; obtain ⟨hS, hS1, hS2, hS3⟩ := hS; go_simp; first | done | with_reducible rfl
                          simp only [Act.put]
                          refine walkH_still _ ?ge18 rfl rfl (by kernel_rfl) ?gey18 ?_
                          case gey18 => intro w hS; obtain ⟨hS, hS1, hS2, hS3⟩ := hS; go_simp; first | done | with_reducible rfl
                          simp only [Act.put]
                          refine walkH_still _ ?ge19 rfl rfl (by kernel_rfl) ?gey19 ?_
                          case gey19 => intro w hS; obtain ⟨hS, hS1, hS2, hS3⟩ := hS; go_simp; first | done | with_reducible rfl
                          simp only [Act.put]
                          refine walkH_still _ ?ge20 rfl rfl (by kernel_rfl) ?gey20 ?_
                          case gey20 => intro w hS; obtain ⟨hS, hS1, hS2, hS3⟩ := hS; go_simp; first | done | with_reducible rfl
                          simp only [Act.put]
                          refine walkH_still _ ?ge21 rfl rfl (by kernel_rfl) ?gey21 ?_
                          case gey21 => intro w hS; obtain ⟨hS, hS1, hS2, hS3⟩ := hS; go_simp; first | done | with_reducible rfl
                          simp only [Act.put]
                          refine walkH_still _ ?ge22 rfl rfl (by kernel_rfl) ?gey22 ?_
                          case gey22 => intro w hS; obtain ⟨hS, hS1, hS2, hS3⟩ := hS; go_simp; first | done | with_reducible rfl
                          simp only [Act.put]
                          refine walkH_still _ ?ge23 rfl rfl (by kernel_rfl) ?gey23 ?_
                          case gey23 => intro w hS; obtain ⟨hS, hS1, hS2, hS3⟩ := hS; go_simp; first | done | with_reducible rfl
                          simp only [Act.put]
                          simp only [List.setIfInBounds_toArray, List.set_cons_zero, List.set_cons_succ]
                          refine walkH_does _ rfl rfl ?_
                          go_loud (refine wpList_set rfl _ _ _ (Or.inl rfl) wo.heap.size c f rfl (show SetAt wi.drew wo.heap.size c f from HSG.out) (by omega) (y : Int) true rfl rfl (by omega) ?_)
                          intro w6 hs6 hg6
                          have HSG6 := Lib.hid hs6
                          have HSI6 := Lib.hid (SetAt.kept (w := wi.drew) (show SetAt wi.drew v7.heap.size bs.length (inTo bs bs.length) from HSI.out) hg6 (by simp; omega))
                          have HB6 := Lib.hid ((show Below v7.heap.size v7 wi.drew from HBI.out.drew).grown hg6 (by have := HBI.out.size; exact this) (fun j hj => by injection hj with hj; omega))
                          have HNX := Lib.hid (HSTEP.out true (by first | rfl | simp))
                          clear hs6 hg6 hcy hfy hix hfx
                          go_wp2
                          refine walkH_nil ?_
                          go_wp2
                          go_roundw
                          case rel => exact ⟨x + 1, by omega, by go_num, _, c + 1, by omega, HSG6.out, HSI6.out, HB6.out, HNX.out.1, HNX.out.2.1, HNX.out.2.2⟩
                          case measure => simp [intOf]; omega
                · obtain rfl : x = g.length := by omega
                  have HUN := Lib.hid (hup.next (by rw [List.getElem?_eq_getElem hkl, HYK.out]) hpa HBLT.out)
                  have HMN := Lib.hid hmo
                  clear hsg hsi hb hmo hup hpa
                  go_wp2
                  go_roundw
                  case rel => exact ⟨k + 1, by omega, by go_num, f, c, by omega, HSG.out, HSI.out, HBI.out, HMN.out, HUN.out⟩
                  case measure => simp [intOf]; omega
            · obtain rfl : k = bs.length := by omega
              have HRND := Lib.hid (HRM.out f0 f1 i HH0.out HMO.out (fun y hy x hx he h0 => by
                obtain ⟨j, hj⟩ := List.getElem?_of_mem hy
                have hjl : j < bs.length := (List.getElem?_eq_some_iff.1 hj).1
                exact HUP.out j hjl y hj x hx he h0) HCN.out)
              have HH1 := Lib.hid (HMO.out h HH0.out)
              go_wp2
              go_roundw
              case rel => exact ⟨i + 1, by omega, by go_num, f1, c1, by omega, HSG1.out, HSI1.out, HBK.out, HH1.out, HRND.out⟩
              case measure => simp [intOf]; omega
        · obtain rfl : i = bs.length := by omega
          have HALL := Lib.hid (show ∀ y ∈ bs, f0 (y : Nat) = true from cntB_all (by rcases HCN.out with k | k <;> omega))
          have HGF := Lib.hid (HG7.out.keep HB0.out)
          go_wp2_with fail
          go_loopw [19] (fun v wr => ∃ a : Nat, a ≤ g.length ∧ v = .int .i64 a ∧ wr = w0') (fun v _ => g.length - (intOf v).toNat)
          case atStart => exact ⟨0, by omega, rfl, rfl⟩
          case round =>
            obtain ⟨a, ha, rfl, hwr⟩ := hrel
            obtain rfl : w0' = wr := hwr.symm
            by_cases hal : a < g.length
            · go_wp2_with fail
              go_loopw [20] (fun v wr => ∃ k : Nat, k ≤ bs.length ∧ v = .int .i64 k ∧ wr = w0') (fun v _ => bs.length - (intOf v).toNat)
              case atStart => exact ⟨0, by omega, rfl, rfl⟩
              case round =>
                obtain ⟨k, hk, rfl, hwr⟩ := hrel
                obtain rfl : w0' = wr := hwr.symm
                by_cases hkl : k < bs.length
                · obtain ⟨y, hyk⟩ : ∃ y, bs[k] = y := ⟨_, rfl⟩
                  have hmy : y ∈ bs := by rw [← hyk]; exact List.getElem_mem hkl
                  have hyl := HBLT.out y hmy
                  have hcy := cell_keep HB0.out (Nat.le_refl _) (HCB.out k hkl)
                  rw [hyk] at hcy
                  have hca := cell_keep HB0.out (Nat.le_refl _) (HCA.out a hal)
                  have hlk1 := HSI0.out.look (x := (a : Int)) (by omega)
                  have hlk2 := HSG0.out.look (x := (y : Int)) (by omega)
                  rw [HALL.out y hmy] at hlk2
                  have HNO := Lib.hid (show edgeB g (a : Nat) (y : Nat) = true → al.getD a false = true → inTo bs bs.length (a : Nat) = false → y = h from fun he hw hi =>
                    Classical.byContradiction fun ne => by
                      have := (HMEM.out a).2 (Loop.step ((HWAY.out a).1 hw) he ne ((HMEM.out y).1 hmy))
                      rw [inTo_all.2 this] at hi
                      cases hi)
                  clear hyk hmy
                  go_wp2_with fail
                  refine (edge_any w0' _ g (a : Int) (y : Int) HGF.out).mono ?_
                  rintro e w' ⟨rfl, hww⟩
                  have hww2 := hww.symm
                  subst hww2
                  clear hww
                  cases hev : edgeB g (a : Int) (y : Int) with
                  | false =>
                    clear HNO hev
                    go_wp2
                    go_roundw
                    case rel => exact ⟨k + 1, by omega, by go_num, trivial⟩
                    case measure => simp [intOf]; omega
                  | true =>
                    cases hwv : al.getD a false with
                    | false =>
                      rw [hwv] at hca
                      clear HNO hev hwv
                      go_wp2
                      go_roundw
                      case rel => exact ⟨k + 1, by omega, by go_num, trivial⟩
                      case measure => simp [intOf]; omega
                    | true =>
                      rw [hwv] at hca
                      cases hiv : inTo bs bs.length (a : Int) with
                      | true =>
                        rw [hiv] at hlk1
                        clear HNO hev hwv hiv
                        go_wp2
                        go_roundw
                        case rel => exact ⟨k + 1, by omega, by go_num, trivial⟩
                        case measure => simp [intOf]; omega
                      | false =>
                        rw [hiv] at hlk1
                        have hyh : ((y : Int) != (h : Int)) = false := by rw [HNO.out hev hwv hiv]; simp
                        clear HNO hev hwv hiv
                        go_wp2
                        go_roundw
                        case rel => exact ⟨k + 1, by omega, by go_num, trivial⟩
                        case measure => simp [intOf]; omega
                · obtain rfl : k = bs.length := by omega
                  go_wp2
                  go_roundw
                  case rel => exact ⟨a + 1, by omega, by go_num, trivial⟩
                  case measure => simp [intOf]; omega
            · obtain rfl : a = g.length := by omega
              have hlk := HSI0.out.look (x := (h : Int)) (by omega)
              rw [inTo_all.2 HHM.out] at hlk
              go_wp2
              go_ret
              exact ⟨rfl, HB7.out.trans (HB0.out.mono HB7.out.size)⟩

/-! ### THE ROW's STEP: WRITTEN OUT: LEAVE IT -/
set_option maxRecDepth 100000 in
theorem lifted (os : Os) (started : os.Started) (H : Type) (enc : TypeId × Value → H) :
    ReturnsInHanded {} Try.checked os 8 .any (Rows.graphBodySpec.pre6 enc Try.prog Try.f8 Rows.graphBodyRow.domain false) (Rows.graphBodySpec.post enc Try.prog Try.f8 false true false false) := by
  refine returnsInHanded_of_change (C := Try.checked) own started (by kernel_rfl) Try.func8
    (ChangeSpec.witness6 (enc := enc) (C := Try.checked) false ⟨#[], #[.slice none 0 0, .int .i64 0], []⟩ 8 (by kernel_rfl) (by kernel_rfl) (by kernel_rfl) (by kernel_rfl)) ?_
  intro W base args ds gs before hval0 hW hcnd _
  have hval : ∀ (j : Nat) t v, Try.f8.params[j]? = some t → args[j]? = some v → Value.okWide Try.prog W .any base t v := hval0
  have hW' := hW
  obtain ⟨p, q, hA0, hV, rfl, hfz, hnd⟩ := hW
  have hA : DataW.TrodAll enc Try.prog W 0 (fun _ => true) true Try.f8.params.toList args.toList ds p := hA0
  rw [Try.params8] at hA hval
  obtain ⟨v0, vs0, d0, ds0, p0, q0, hargs, rfl, rfl, h0, r0⟩ := trodAll_cons hA
  obtain ⟨v1, vs1, d1, ds1, p1, q1, rfl, rfl, rfl, h1, r1⟩ := trodAll_cons r0
  obtain ⟨rfl, rfl, rfl⟩ := trodAll_nil r1
  obtain rfl : args = #[v0, v1] := by cases args; simp_all
  obtain ⟨rfl, rfl⟩ := trodVars_none hV
  obtain ⟨a0, len0, cap0, rfl⟩ := okWide_slice Try.underlying23 (hval 0 23 v0 rfl rfl)
  have k0 := h0
  have lt0 : ∀ x ∈ p0, x.block < W.heap.size := by obtain ⟨m, hm⟩ := k0; exact DataW.trod_lt m _ _ _ hm
  obtain ⟨z0, w0⟩ : ∃ zs, IsRow .i64 W a0 len0 cap0 zs := by
    obtain ⟨fuel, hf⟩ := h0
    rcases open_ints Try.underlying23 Try.underlying3 (by kernel_rfl) hf with ⟨hcs, _⟩ | ⟨x, l, c, zs, hcs, _, hl, hm, hz, _, hcell, hwz⟩
    · simp [Value.cells] at hcs
      obtain ⟨rfl, rfl, rfl⟩ := hcs
      exact ⟨[], .inl ⟨rfl, rfl, rfl, rfl⟩⟩
    · simp [Value.cells] at hcs
      obtain ⟨rfl, rfl, rfl⟩ := hcs
      exact ⟨zs, .inr ⟨_, rfl, hl, hm, by simpa using hz, hcell, hwz⟩⟩
  obtain ⟨a1, rfl, rfl, rfl, w1⟩ := open_int Try.underlying3 (hval 1 3 v1 rfl rfl) h1
  clear hA0 hval0
  refine (walk a0 len0 cap0 z0 a1 W w0 w1).mono fun e W' ⟨he, bel⟩ => ?_
  subst he
  exact ⟨_, rfl, _, _, _, [], _, [], hW', trodAll_mk1 (shut_bool Try.underlying4 _), (trodAll_cons_mk (Below.trod laidOut (by kernel_rfl) (of_decide_eq_true (by kernel_rfl)) k0 bel lt0) (trodAll_cons_mk (shut_int Try.underlying3 w1) trodAll_mk0)), rfl, bel.frame _, fun h => by cases h⟩

theorem over : Rows.graphBodyRow.holds Try.pinned (OpenSpec.ofChange Rows.graphBodySpec) :=
  OpenClaim.holds_of_wide 8 Try.f8 rfl rfl rfl rfl rfl rfl rfl ⟨rfl, rfl, rfl, rfl, rfl⟩ rfl rfl rfl rfl rfl (by kernel_rfl) Try.func8 (by kernel_rfl)
    (of_decide_eq_true (by kernel_rfl)) (by unfold Func.isWrapper; first | (rw [if_pos (by decide +kernel)]; kernel_rfl) | (rw [if_neg (by decide +kernel)]; exact ⟨rfl, rfl⟩))
    (fun os started H enc _ => lifted os started H enc)

/-- ████ THE STATEMENT ████ -/
theorem proved : Rows.GraphBodySaid := over
#print axioms proved
end Go.Proofs.Ythanbedmiaacdaa.graphBody
