/- Stage 7: rows of registers, and where ends go. -/
import Derived.Test.YtdidacjmcafcpaaMB
namespace Go.Proofs.Ytdidacjmcafcpaa.Mc
open Go.ChangeShapes Go.WideShapes Go.ChangeAt Go.RowKit Go.Proofs.Ytdidacjmcafcpaa.Mem Go.Proofs.Ytdidacjmcafcpaa.Kc Go.Proofs.Ytdidacjmcafcpaa.Pl Go.Proofs.Ytdidacjmcafcpaa.Mw
set_option linter.unusedVariables false
set_option linter.unusedSimpArgs false
theorem ret_int {k : IntKind} {a b : Int} (h : a = b) : Ending.returned (.int k a) = .returned (.int k b) := by rw [h]
theorem below_drewK {B : Nat} {w w' : World} (h : Below B w w') (n : Nat) : Below B w (w'.drewN n) := ⟨h.os, h.tape, h.output, h.size, h.block⟩
def hasP (n : Nat) (r : Int) : Bool := decide (0 ≤ r) && decide (r < n)
theorem hasP_iff {n : Nat} {r : Int} : hasP n r = true ↔ 0 ≤ r ∧ r < n := by unfold hasP; simp
set_option maxRecDepth 100000 in
set_option maxHeartbeats 4000000 in
theorem rowhas_any (w : World) (A : Option Addr) (n c : Nat) (r : Int) :
    Calls Try.prog 119 #[.slice A n c, .int .i64 r] w fun e w' => e = .returned (.bool (hasP n r)) ∧ w' = w := by
  by_cases h : 0 ≤ r
  · by_cases hl : r < n
    · have HW := Lib.hid (show hasP n r = true by unfold hasP; rw [decide_eq_true h, decide_eq_true hl]; rfl)
      go_enter Try.func119, Try.ntmps119
      go_wp2
      go_ret
      rw [HW.out]
      exact ⟨rfl, rfl⟩
    · have HW := Lib.hid (show hasP n r = false by unfold hasP; rw [decide_eq_false hl, Bool.and_false])
      have hl' : (n : Int) ≤ r := by omega
      go_enter Try.func119, Try.ntmps119
      go_wp2
      go_ret
      rw [HW.out]
      exact ⟨rfl, rfl⟩
  · have HW := Lib.hid (show hasP n r = false by unfold hasP; rw [decide_eq_false h, Bool.false_and])
    have h' : r < 0 := by omega
    go_enter Try.func119, Try.ntmps119
    go_wp2
    go_ret
    rw [HW.out]
    exact ⟨rfl, rfl⟩
set_option maxRecDepth 100000 in
set_option maxHeartbeats 4000000 in
theorem rowget_any (w : World) (v : Value) (l : List Int) (r : Int) (hv : WordsAt w v l) :
    Calls Try.prog 117 #[v, .int .i64 r] w fun e w' => e = .returned (.int .i32 (getP l r)) ∧ w' = w := by
  obtain ⟨A, c, rfl, h1, h2, h3⟩ := hv
  cases hB : hasP l.length r with
  | false =>
    have HW := Lib.hid (show getP l r = 0 by unfold getP; rw [if_neg (fun h => by rw [hasP_iff.2 h] at hB; cases hB)])
    have HBH := Lib.hid hB
    clear hB h3
    go_enter Try.func117, Try.ntmps117
    go_wp2_with fail
    refine (rowhas_any w A l.length c r).mono ?_
    rintro e w' ⟨rfl, rfl⟩
    rw [HBH.out]
    go_wp2
    go_ret
    rw [HW.out]
    exact ⟨rfl, rfl⟩
  | true =>
    have hp := hasP_iff.1 hB
    obtain ⟨k, rfl⟩ : ∃ k : Nat, r = (k : Int) := ⟨r.toNat, by omega⟩
    have hk : k < l.length := by omega
    obtain ⟨ad, rfl, hc⟩ := h3 k hk
    have HW := Lib.hid (show getP l k = l[k] by unfold getP; rw [if_pos ⟨by omega, by omega⟩, Int.toNat_natCast, List.getD_eq_getElem?_getD, List.getElem?_eq_getElem hk]; rfl)
    have HBH := Lib.hid hB
    clear hB h3 hp
    go_enter Try.func117, Try.ntmps117
    go_wp2_with fail
    refine (rowhas_any w _ l.length c k).mono ?_
    rintro e w' ⟨rfl, rfl⟩
    rw [HBH.out]
    go_wp2
    go_ret
    rw [HW.out]
    exact ⟨rfl, rfl⟩
/-- A register of a row of the call's own was set. -/
def SetPost (B : Nat) (v : Value) (l : List Int) (r x : Int) (w : World) (e : Ending) (w' : World) : Prop :=
  e = .returned (.tuple #[]) ∧ OwnWords B w' v (setP l r x) ∧ (w' = w ∨ ∃ g, v.ownBlock = some g ∧ But g w w')
set_option maxRecDepth 100000 in
set_option maxHeartbeats 4000000 in
theorem rowset_any (w : World) (B : Nat) (v : Value) (l : List Int) (r x : Int) (hv : OwnWords B w v l) :
    Calls Try.prog 118 #[v, .int .i64 r, .int .i32 x] w (SetPost B v l r x w) := by
  cases hB : hasP l.length r with
  | false =>
    have HW := Lib.hid (show setP l r x = l by unfold setP; rw [if_neg (fun h => by rw [hasP_iff.2 h] at hB; cases hB)])
    have HV := Lib.hid hv
    obtain ⟨A, c, rfl⟩ := own_form hv
    have HBH := Lib.hid hB
    clear hB hv
    go_enter Try.func118, Try.ntmps118
    go_wp2_with fail
    refine (rowhas_any w A l.length c r).mono ?_
    rintro e w' ⟨rfl, rfl⟩
    rw [HBH.out]
    go_wp2
    refine ⟨rfl, .tuple #[], ?_, rfl, by rw [HW.out]; exact HV.out, Or.inl rfl⟩
    simp only [results]
    go_simp
  | true =>
    have hp := hasP_iff.1 hB
    obtain ⟨k, rfl⟩ : ∃ k : Nat, r = (k : Int) := ⟨r.toNat, by omega⟩
    have hk : k < l.length := by omega
    have HW := Lib.hid (show setP l k x = l.set k x by unfold setP; rw [if_pos ⟨by omega, by omega⟩, Int.toNat_natCast])
    rcases hv.2 with ⟨rfl, h0⟩ | ⟨g, c, cur, rfl, h1, h2, h3, h4, h5⟩
    · omega
    unfold maxLen at h4
    have hc : w.cell? ⟨g, k, none⟩ = some (.int .i32 l[k]) := by rw [World.ownsRow.cellAt hv k (by omega), List.getElem?_map, List.getElem?_eq_getElem hk]; rfl
    have hf : w.frozen? ⟨g, k, none⟩ = false := World.ownsRow.frozenAt hv k
    have HS := Lib.hid (show But g w (w.setCell ⟨g, k, none⟩ (.int .i32 x)) ∧ OwnWords B (w.setCell ⟨g, k, none⟩ (.int .i32 x)) (.slice (some ⟨g, 0, none⟩) l.length c) (l.set k x) by
      obtain ⟨s1, s2⟩ := World.ownsRow.stored hv k (.int .i32 x)
      refine ⟨But.of_grown s2, ?_⟩
      unfold OwnWords
      rw [List.length_set, List.map_set]
      exact s1)
    have HBH := Lib.hid hB
    generalize l[k] = z at *
    clear hB hp hv h2 h5
    go_enter Try.func118, Try.ntmps118
    go_wp2_with fail
    refine (rowhas_any w _ l.length c k).mono ?_
    rintro e w' ⟨rfl, rfl⟩
    rw [HBH.out]
    go_wp2
    refine ⟨rfl, .tuple #[], ?_, rfl, by rw [HW.out]; exact HS.out.2, Or.inr ⟨g, rfl, HS.out.1⟩⟩
    simp only [results]
    go_simp
set_option maxRecDepth 100000 in
set_option maxHeartbeats 4000000 in
theorem unless_any (c : Bool) (w : World) :
    Calls Try.prog 82 #[.bool c] w fun e w' => e = .returned (.int .i64 (if c = true then 0 else 1)) ∧ w' = w := by
  cases c
  all_goals
    go_enter Try.func82, Try.ntmps82
    go_wp2
    go_ret
    exact ⟨rfl, rfl⟩
theorem row_get (f : Nat) (A : Option Addr) (n c : Nat) (w : World) : (method (f + 1) 118 (.slice A n c) "jacquard/mach.get").run Try.prog w = .ok (117, .slice A n c) w := by kernel_rfl
set_option maxRecDepth 100000 in
set_option maxHeartbeats 4000000 in
theorem goesrow_any (w : World) (e : PEnd) (A : Option Addr) (n k : Nat) (v : Value) (l : List Int) (hv : WordsAt w v l) (hn2 : n ≤ 1000000) (hr : ∀ r, InW (getP l r)) :
    Calls Try.prog 77 #[.agg #[.int .i64 e.op, .int .i64 e.a, .int .i64 e.b, .slice A n k, .int .i32 e.imm], v] w (fun en w' => en = .returned (.int .i64 (goesF e.op (getP l e.a) (getP l e.b) n)) ∧ Below w.heap.size w w') := by
  have HV := Lib.hid hv
  obtain ⟨vA, vc, rfl, v1, v2, v3⟩ := hv
  have hm := fun f w => row_get f vA l.length vc w
  have hra := hr e.a
  have hrb := hr e.b
  obtain ⟨x, hx⟩ : ∃ x, getP l e.a = x := ⟨_, rfl⟩
  obtain ⟨y, hy⟩ : ∃ y, getP l e.b = y := ⟨_, rfl⟩
  rw [hx, hy]
  rw [hx] at hra
  rw [hy] at hrb
  have HX := Lib.hid hx
  have HY := Lib.hid hy
  have HRA := Lib.hid hra
  have HRB := Lib.hid hrb
  clear v3 hr hx hy hra hrb
  by_cases h1 : e.op = 1
  · have g1 : (e.op == 1) = true := beq_iff_eq.2 h1
    have HT := Lib.hid (show ∀ a b, goesF e.op a b n = goesF 1 a b n by intro a b; rw [h1])
    clear h1
    rw [HT.out]
    clear HT
    go_enter Try.func77, Try.ntmps77
    go_upto_region 1 with (fail)
    obtain ⟨W1, hW1⟩ : ∃ W1, w.alloc (.cells #[.int .i64 e.op, .int .i64 e.a, .int .i64 e.b, .slice A n k, .int .i32 e.imm] 26) = W1 := ⟨_, rfl⟩
    have hbW1 : Below w.heap.size w W1 := by rw [← hW1]; exact (Below.refl _ _).alloc (Nat.le_refl _) _
    have hsW1 : Str W1 w.heap.size 26 [.int .i64 e.op, .int .i64 e.a, .int .i64 e.b, .slice A n k, .int .i32 e.imm] := by rw [← hW1]; exact World.alloc_heap_new w _
    rw [hW1]
    clear hW1
    have m0 : W1.cell? ⟨w.heap.size, 0, none⟩ = some (.int .i64 e.op) := hsW1.cell 0
    have m1 : W1.cell? ⟨w.heap.size, 1, none⟩ = some (.int .i64 e.a) := hsW1.cell 1
    have m2 : W1.cell? ⟨w.heap.size, 2, none⟩ = some (.int .i64 e.b) := hsW1.cell 2
    have m3 : W1.cell? ⟨w.heap.size, 3, none⟩ = some (.slice A n k) := hsW1.cell 3
    have HB1 := Lib.hid hbW1
    have HV1 := Lib.hid (HV.out.below hbW1)
    clear hsW1 hbW1
    go_wp2_with fail
    go_ret
    exact ⟨rfl, HB1.out⟩
  have g1 : (e.op == 1) = false := beq_eq_false_iff_ne.2 h1
  by_cases h2 : e.op = 2
  · have g2 : (e.op == 2) = true := beq_iff_eq.2 h2
    have HT := Lib.hid (show ∀ a b, goesF e.op a b n = goesF 2 a b n by intro a b; rw [h2])
    clear h2
    rw [HT.out]
    clear HT
    go_enter Try.func77, Try.ntmps77
    go_upto_region 1 with (fail)
    obtain ⟨W1, hW1⟩ : ∃ W1, w.alloc (.cells #[.int .i64 e.op, .int .i64 e.a, .int .i64 e.b, .slice A n k, .int .i32 e.imm] 26) = W1 := ⟨_, rfl⟩
    have hbW1 : Below w.heap.size w W1 := by rw [← hW1]; exact (Below.refl _ _).alloc (Nat.le_refl _) _
    have hsW1 : Str W1 w.heap.size 26 [.int .i64 e.op, .int .i64 e.a, .int .i64 e.b, .slice A n k, .int .i32 e.imm] := by rw [← hW1]; exact World.alloc_heap_new w _
    rw [hW1]
    clear hW1
    have m0 : W1.cell? ⟨w.heap.size, 0, none⟩ = some (.int .i64 e.op) := hsW1.cell 0
    have m1 : W1.cell? ⟨w.heap.size, 1, none⟩ = some (.int .i64 e.a) := hsW1.cell 1
    have m2 : W1.cell? ⟨w.heap.size, 2, none⟩ = some (.int .i64 e.b) := hsW1.cell 2
    have m3 : W1.cell? ⟨w.heap.size, 3, none⟩ = some (.slice A n k) := hsW1.cell 3
    have HB1 := Lib.hid hbW1
    have HV1 := Lib.hid (HV.out.below hbW1)
    clear hsW1 hbW1
    have HQ := Lib.hid (show (if (x != 0) = true then 0 else 1) = goesF 2 x y n from rfl)
    go_wp2_with fail
    refine (rowget_any W1 _ l _ HV1.out).mono ?_
    rintro e' w2 ⟨rfl, rfl⟩
    rw [HX.out]
    go_wp2_with fail
    refine (unless_any _ _).mono ?_
    rintro e' w3 ⟨rfl, rfl⟩
    rw [HQ.out]
    go_wp2_with fail
    go_ret
    exact ⟨rfl, HB1.out⟩
  have g2 : (e.op == 2) = false := beq_eq_false_iff_ne.2 h2
  by_cases h3 : e.op = 3
  · have g3 : (e.op == 3) = true := beq_iff_eq.2 h3
    have HT := Lib.hid (show ∀ a b, goesF e.op a b n = goesF 3 a b n by intro a b; rw [h3])
    clear h3
    rw [HT.out]
    clear HT
    go_enter Try.func77, Try.ntmps77
    go_upto_region 1 with (fail)
    obtain ⟨W1, hW1⟩ : ∃ W1, w.alloc (.cells #[.int .i64 e.op, .int .i64 e.a, .int .i64 e.b, .slice A n k, .int .i32 e.imm] 26) = W1 := ⟨_, rfl⟩
    have hbW1 : Below w.heap.size w W1 := by rw [← hW1]; exact (Below.refl _ _).alloc (Nat.le_refl _) _
    have hsW1 : Str W1 w.heap.size 26 [.int .i64 e.op, .int .i64 e.a, .int .i64 e.b, .slice A n k, .int .i32 e.imm] := by rw [← hW1]; exact World.alloc_heap_new w _
    rw [hW1]
    clear hW1
    have m0 : W1.cell? ⟨w.heap.size, 0, none⟩ = some (.int .i64 e.op) := hsW1.cell 0
    have m1 : W1.cell? ⟨w.heap.size, 1, none⟩ = some (.int .i64 e.a) := hsW1.cell 1
    have m2 : W1.cell? ⟨w.heap.size, 2, none⟩ = some (.int .i64 e.b) := hsW1.cell 2
    have m3 : W1.cell? ⟨w.heap.size, 3, none⟩ = some (.slice A n k) := hsW1.cell 3
    have HB1 := Lib.hid hbW1
    have HV1 := Lib.hid (HV.out.below hbW1)
    clear hsW1 hbW1
    have HQ := Lib.hid (show (if (x == y) = true then 0 else 1) = goesF 3 x y n from rfl)
    go_wp2_with fail
    go_quiet (first | exact Calls.quiet_of_same (rowget_any _ _ _ _ HV1.out) | exact Calls.quiet_of_same (unless_any _ _))
    simp only [HX.out, HY.out, HQ.out]
    go_wp2_with fail
    go_ret
    exact ⟨rfl, below_drewK HB1.out _⟩
  have g3 : (e.op == 3) = false := beq_eq_false_iff_ne.2 h3
  by_cases h4 : e.op = 4
  · have g4 : (e.op == 4) = true := beq_iff_eq.2 h4
    have HT := Lib.hid (show ∀ a b, goesF e.op a b n = goesF 4 a b n by intro a b; rw [h4])
    clear h4
    rw [HT.out]
    clear HT
    go_enter Try.func77, Try.ntmps77
    go_upto_region 1 with (fail)
    obtain ⟨W1, hW1⟩ : ∃ W1, w.alloc (.cells #[.int .i64 e.op, .int .i64 e.a, .int .i64 e.b, .slice A n k, .int .i32 e.imm] 26) = W1 := ⟨_, rfl⟩
    have hbW1 : Below w.heap.size w W1 := by rw [← hW1]; exact (Below.refl _ _).alloc (Nat.le_refl _) _
    have hsW1 : Str W1 w.heap.size 26 [.int .i64 e.op, .int .i64 e.a, .int .i64 e.b, .slice A n k, .int .i32 e.imm] := by rw [← hW1]; exact World.alloc_heap_new w _
    rw [hW1]
    clear hW1
    have m0 : W1.cell? ⟨w.heap.size, 0, none⟩ = some (.int .i64 e.op) := hsW1.cell 0
    have m1 : W1.cell? ⟨w.heap.size, 1, none⟩ = some (.int .i64 e.a) := hsW1.cell 1
    have m2 : W1.cell? ⟨w.heap.size, 2, none⟩ = some (.int .i64 e.b) := hsW1.cell 2
    have m3 : W1.cell? ⟨w.heap.size, 3, none⟩ = some (.slice A n k) := hsW1.cell 3
    have HB1 := Lib.hid hbW1
    have HV1 := Lib.hid (HV.out.below hbW1)
    clear hsW1 hbW1
    have HQ := Lib.hid (show (if decide (x < y) = true then 0 else 1) = goesF 4 x y n from rfl)
    go_wp2_with fail
    go_quiet (first | exact Calls.quiet_of_same (rowget_any _ _ _ _ HV1.out) | exact Calls.quiet_of_same (unless_any _ _))
    simp only [HX.out, HY.out, HQ.out]
    go_wp2_with fail
    go_ret
    exact ⟨rfl, below_drewK HB1.out _⟩
  have g4 : (e.op == 4) = false := beq_eq_false_iff_ne.2 h4
  by_cases h5 : e.op = 5
  · have g5 : (e.op == 5) = true := beq_iff_eq.2 h5
    have HT := Lib.hid (show ∀ a b, goesF e.op a b n = goesF 5 a b n by intro a b; rw [h5])
    clear h5
    rw [HT.out]
    clear HT
    go_enter Try.func77, Try.ntmps77
    go_upto_region 1 with (fail)
    obtain ⟨W1, hW1⟩ : ∃ W1, w.alloc (.cells #[.int .i64 e.op, .int .i64 e.a, .int .i64 e.b, .slice A n k, .int .i32 e.imm] 26) = W1 := ⟨_, rfl⟩
    have hbW1 : Below w.heap.size w W1 := by rw [← hW1]; exact (Below.refl _ _).alloc (Nat.le_refl _) _
    have hsW1 : Str W1 w.heap.size 26 [.int .i64 e.op, .int .i64 e.a, .int .i64 e.b, .slice A n k, .int .i32 e.imm] := by rw [← hW1]; exact World.alloc_heap_new w _
    rw [hW1]
    clear hW1
    have m0 : W1.cell? ⟨w.heap.size, 0, none⟩ = some (.int .i64 e.op) := hsW1.cell 0
    have m1 : W1.cell? ⟨w.heap.size, 1, none⟩ = some (.int .i64 e.a) := hsW1.cell 1
    have m2 : W1.cell? ⟨w.heap.size, 2, none⟩ = some (.int .i64 e.b) := hsW1.cell 2
    have m3 : W1.cell? ⟨w.heap.size, 3, none⟩ = some (.slice A n k) := hsW1.cell 3
    have HB1 := Lib.hid hbW1
    have HV1 := Lib.hid (HV.out.below hbW1)
    clear hsW1 hbW1
    have HQ := Lib.hid (show (if decide (x % 4294967296 < y % 4294967296) = true then 0 else 1) = goesF 5 x y n from rfl)
    go_wp2_with fail
    go_quiet (first | exact Calls.quiet_of_same (rowget_any _ _ _ _ HV1.out) | exact Calls.quiet_of_same (unless_any _ _))
    simp only [HX.out, HY.out, HQ.out]
    go_wp2_with fail
    go_ret
    exact ⟨rfl, below_drewK HB1.out _⟩
  have g5 : (e.op == 5) = false := beq_eq_false_iff_ne.2 h5
  by_cases h6 : e.op = 6
  · have g6 : (e.op == 6) = true := beq_iff_eq.2 h6
    have HT := Lib.hid (show ∀ a b, goesF e.op a b n = goesF 6 a b n by intro a b; rw [h6])
    clear h6
    rw [HT.out]
    clear HT
    go_enter Try.func77, Try.ntmps77
    go_upto_region 1 with (fail)
    obtain ⟨W1, hW1⟩ : ∃ W1, w.alloc (.cells #[.int .i64 e.op, .int .i64 e.a, .int .i64 e.b, .slice A n k, .int .i32 e.imm] 26) = W1 := ⟨_, rfl⟩
    have hbW1 : Below w.heap.size w W1 := by rw [← hW1]; exact (Below.refl _ _).alloc (Nat.le_refl _) _
    have hsW1 : Str W1 w.heap.size 26 [.int .i64 e.op, .int .i64 e.a, .int .i64 e.b, .slice A n k, .int .i32 e.imm] := by rw [← hW1]; exact World.alloc_heap_new w _
    rw [hW1]
    clear hW1
    have m0 : W1.cell? ⟨w.heap.size, 0, none⟩ = some (.int .i64 e.op) := hsW1.cell 0
    have m1 : W1.cell? ⟨w.heap.size, 1, none⟩ = some (.int .i64 e.a) := hsW1.cell 1
    have m2 : W1.cell? ⟨w.heap.size, 2, none⟩ = some (.int .i64 e.b) := hsW1.cell 2
    have m3 : W1.cell? ⟨w.heap.size, 3, none⟩ = some (.slice A n k) := hsW1.cell 3
    have HB1 := Lib.hid hbW1
    have HV1 := Lib.hid (HV.out.below hbW1)
    clear hsW1 hbW1
    have HQ := Lib.hid (show min (x % 4294967296) ((n : Int) - 1) = goesF 6 x y n from rfl)
    go_wp2_with fail
    go_quiet (first | exact Calls.quiet_of_same (rowget_any _ _ _ _ HV1.out) | exact Calls.quiet_of_same (unless_any _ _))
    simp only [HX.out, HY.out, HQ.out]
    go_wp2_with fail
    go_ret
    exact ⟨rfl, below_drewK HB1.out _⟩
  have g6 : (e.op == 6) = false := beq_eq_false_iff_ne.2 h6
  have HT := Lib.hid (show ∀ a b, goesF e.op a b n = -1 by intro a b; unfold goesF; rw [if_neg h1, if_neg h2, if_neg h3, if_neg h4, if_neg h5, if_neg h6])
  clear h1 h2 h3 h4 h5 h6
  rw [HT.out]
  clear HT
  go_enter Try.func77, Try.ntmps77
  go_upto_region 1 with (fail)
  obtain ⟨W1, hW1⟩ : ∃ W1, w.alloc (.cells #[.int .i64 e.op, .int .i64 e.a, .int .i64 e.b, .slice A n k, .int .i32 e.imm] 26) = W1 := ⟨_, rfl⟩
  have hbW1 : Below w.heap.size w W1 := by rw [← hW1]; exact (Below.refl _ _).alloc (Nat.le_refl _) _
  have hsW1 : Str W1 w.heap.size 26 [.int .i64 e.op, .int .i64 e.a, .int .i64 e.b, .slice A n k, .int .i32 e.imm] := by rw [← hW1]; exact World.alloc_heap_new w _
  rw [hW1]
  clear hW1
  have m0 : W1.cell? ⟨w.heap.size, 0, none⟩ = some (.int .i64 e.op) := hsW1.cell 0
  have m1 : W1.cell? ⟨w.heap.size, 1, none⟩ = some (.int .i64 e.a) := hsW1.cell 1
  have m2 : W1.cell? ⟨w.heap.size, 2, none⟩ = some (.int .i64 e.b) := hsW1.cell 2
  have m3 : W1.cell? ⟨w.heap.size, 3, none⟩ = some (.slice A n k) := hsW1.cell 3
  have HB1 := Lib.hid hbW1
  clear hsW1 hbW1
  go_wp2_with fail
  go_ret
  exact ⟨rfl, HB1.out⟩
set_option maxRecDepth 100000 in
set_option maxHeartbeats 4000000 in
theorem goes_any (w : World) (e : PEnd) (A : Option Addr) (n k : Nat) (v : Value) (l : List Int) (hv : WordsAt w v l) (hn2 : n ≤ 1000000) (hr : ∀ r, InW (getP l r)) :
    Calls Try.prog 72 #[.agg #[.int .i64 e.op, .int .i64 e.a, .int .i64 e.b, .slice A n k, .int .i32 e.imm], v] w (fun en w' => en = .returned (.int .i64 (goesF e.op (getP l e.a) (getP l e.b) n)) ∧ Below w.heap.size w w') := by
  have HV := Lib.hid hv
  have HR := Lib.hid hr
  obtain ⟨vA, vc, rfl, v1, v2, v3⟩ := hv
  clear v3 hr
  obtain ⟨g, hg⟩ : ∃ g, goesF e.op (getP l e.a) (getP l e.b) n = g := ⟨_, rfl⟩
  have HG := Lib.hid hg
  rw [hg]
  clear hg
  go_enter Try.func72, Try.ntmps72
  go_upto_region 1 with (fail)
  obtain ⟨W1, hW1⟩ : ∃ W1, w.alloc (.cells #[.int .i64 e.op, .int .i64 e.a, .int .i64 e.b, .slice A n k, .int .i32 e.imm] 26) = W1 := ⟨_, rfl⟩
  have hbW1 : Below w.heap.size w W1 := by rw [← hW1]; exact (Below.refl _ _).alloc (Nat.le_refl _) _
  have hsW1 : Str W1 w.heap.size 26 [.int .i64 e.op, .int .i64 e.a, .int .i64 e.b, .slice A n k, .int .i32 e.imm] := by rw [← hW1]; exact World.alloc_heap_new w _
  rw [hW1]
  clear hW1
  have m0 : W1.cell? ⟨w.heap.size, 0, none⟩ = some (.int .i64 e.op) := hsW1.cell 0
  have m1 : W1.cell? ⟨w.heap.size, 1, none⟩ = some (.int .i64 e.a) := hsW1.cell 1
  have m2 : W1.cell? ⟨w.heap.size, 2, none⟩ = some (.int .i64 e.b) := hsW1.cell 2
  have m3 : W1.cell? ⟨w.heap.size, 3, none⟩ = some (.slice A n k) := hsW1.cell 3
  have m4 : W1.cell? ⟨w.heap.size, 4, none⟩ = some (.int .i32 e.imm) := hsW1.cell 4
  have HB1 := Lib.hid hbW1
  have HV1 := Lib.hid (HV.out.below hbW1)
  clear hsW1 hbW1
  go_wp2_with fail
  refine (goesrow_any W1 e A n k _ l HV1.out hn2 HR.out).mono ?_
  rintro e' w2 ⟨rfl, hb2⟩
  rw [HG.out]
  have HB2 := Lib.hid (HB1.out.trans (hb2.mono HB1.out.size))
  clear hb2
  go_wp2
  go_ret
  exact ⟨rfl, HB2.out⟩
theorem row_set (f : Nat) (A : Option Addr) (n c : Nat) (w : World) : (method (f + 1) 118 (.slice A n c) "jacquard/mach.set").run Try.prog w = .ok (118, .slice A n c) w := by kernel_rfl
end Go.Proofs.Ytdidacjmcafcpaa.Mc
