/- Moves: jacquardlaw11.awake. -/
import Derived.Test.YtdohaoomckhbgaaVU
namespace Go.Proofs.Ytdohaoomckhbgaa.Vm
open Go.ChangeShapes Go.WideShapes Go.ChangeAt Go.RowKit Go.Maps Go.WideElems Go.ChangeMaps Go.Sort Go.Shelf Go.Proofs.Ytdohaoomckhbgaa.Mem Go.Proofs.Ytdohaoomckhbgaa.Br Go.Proofs.Ytdohaoomckhbgaa.Va Go.Proofs.Ytdohaoomckhbgaa.Vr
set_option linter.unusedVariables false
set_option linter.unusedSimpArgs false
attribute [local go_sem] Oper.semAt_some
theorem flat_getG {α β : Type} (f : α → List β) (n : Nat) (hf : ∀ x, (f x).length = n) (l : List α) (k j : Nat) (hk : k < l.length) (hj : j < n) : (l.flatMap f)[k * n + j]? = (f l[k])[j]? := by
  induction l generalizing k with
  | nil => cases hk
  | cons x xs ih =>
    cases k with
    | zero => rw [List.flatMap_cons, Nat.zero_mul, Nat.zero_add, List.getElem?_append_left (by rw [hf]; exact hj)]; rfl
    | succ k =>
      have e : (k + 1) * n + j - n = k * n + j := by rw [Nat.succ_mul]; omega
      rw [List.flatMap_cons, List.getElem?_append_right (by rw [hf, Nat.succ_mul]; omega), hf, e, ih k (by simpa using hk)]
      rfl
def rngB (l : List Mov) : Bool := l.all fun m => decide (-9223372036854775808 ≤ m.1) && decide (m.1 ≤ 9223372036854775807) && (decide (-9223372036854775808 ≤ m.2) && decide (m.2 ≤ 9223372036854775807))
theorem rng_lit {l : List Mov} (h : rngB l = true) : Rng l := by
  intro m hm
  have := List.all_eq_true.1 h m hm
  simp only [Bool.and_eq_true, decide_eq_true_eq] at this
  exact ⟨this.1, this.2⟩
theorem keys_lit : keysN [(0, 1), (1, 0)] = [0, 1] := by
  simp [keysN, List.mergeSort]
theorem ord0 : orderN [(2, 1), (1, 0)] (-1) (-1) = ([⟨1, 2, 0, 1, 0, 0, 0, 0⟩, ⟨1, 1, 0, 0, 0, 0, 0, 0⟩], 0) := by decide +kernel
theorem ord1 : orderN [(0, 1), (1, 0)] 5 (-1) = ([⟨1, 5, 0, 0, 0, 0, 0, 0⟩, ⟨1, 0, 0, 1, 0, 0, 0, 0⟩, ⟨1, 1, 0, 5, 0, 0, 0, 0⟩], 0) := by 
  unfold orderN
  rw [if_pos (by decide +kernel), show greedyN ([(0, 1), (1, 0)] : List Mov).length (pendN [(0, 1), (1, 0)]) = ([], [(0, 1), (1, 0)]) by decide +kernel]
  unfold carryN leastN
  rw [keys_lit]
  decide +kernel
theorem ord2 : orderN [(16, 17)] (-1) 7 = ([⟨31, 0, 0, 0, 0, 0, 8, 0⟩, ⟨30, 0, 0, 0, 0, 0, 1, 0⟩, ⟨31, 0, 0, 0, 0, 0, 0, 0⟩, ⟨30, 0, 0, 0, 0, 0, 8, 0⟩], 0) := by decide +kernel
theorem ord3 : orderN [(16, 17)] (-1) (-1) = ([], 43) := by decide +kernel
def cellsV (m : Mov) : List Value := [.int .i64 m.1, .int .i64 m.2]
theorem moves_lit {w : World} {g : Nat} {T : TypeId} (l : List Mov) (h : Str w g T (l.flatMap cellsV)) (hl : l.length ≤ 1000) : MovesAt w (.slice (some ⟨g, 0, none⟩) l.length l.length) l := by
  refine ⟨some ⟨g, 0, none⟩, l.length, g, 0, rfl, Nat.le_refl _, by unfold maxLen; omega, fun _ => rfl, fun k hk => ⟨?_, ?_⟩⟩
  · rw [Nat.zero_add, h.cell (k * 2)]
    have := flat_getG cellsV 2 (fun _ => rfl) l k 0 hk (by omega)
    rw [Nat.add_zero] at this
    rw [this]; rfl
  · rw [Nat.zero_add, h.cell (k * 2 + 1), flat_getG cellsV 2 (fun _ => rfl) l k 1 hk (by omega)]; rfl
theorem mach_lit {w : World} {g : Nat} {T : TypeId} (l : List PM) (h : Str w g T (l.flatMap cellsM)) (hl : l.length ≤ 1000) : MachAt w (.slice (some ⟨g, 0, none⟩) l.length l.length) l := by
  have hj : ∀ (k : Nat) (hk : k < l.length) (j : Nat), j < 8 → w.cell? ⟨g, 0 + k * 8 + j, none⟩ = (cellsM l[k])[j]? := by
    intro k hk j hj
    rw [Nat.zero_add, h.cell (k * 8 + j), flat_getG cellsM 8 (fun _ => rfl) l k j hk hj]
  refine ⟨some ⟨g, 0, none⟩, l.length, g, 0, rfl, Nat.le_refl _, by unfold maxLen; omega, fun _ => rfl, fun k hk => ⟨hj k hk 0 (by omega), hj k hk 1 (by omega), hj k hk 2 (by omega), hj k hk 3 (by omega), hj k hk 4 (by omega), hj k hk 5 (by omega), hj k hk 6 (by omega), ⟨none, 0, hj k hk 7 (by omega)⟩⟩⟩
set_option maxRecDepth 100000 in
set_option maxHeartbeats 4000000 in
theorem awake_any (w : World) : Calls Try.prog 13 #[] w fun e w' => e = .returned (.bool true) ∧ Below w.heap.size w w' := by
  go_enter Try.func13, Try.ntmps13
  obtain ⟨A0, hA0⟩ : ∃ A, w.alloc (.cells #[.int .i64 2, .int .i64 1, .int .i64 1, .int .i64 0] 43) = A := ⟨_, rfl⟩
  have hs0 : Str A0 w.heap.size 43 [.int .i64 2, .int .i64 1, .int .i64 1, .int .i64 0] := by rw [← hA0]; exact World.alloc_heap_new w _
  have hb0 : Below w.heap.size w A0 := by rw [← hA0]; exact (Below.refl _ _).alloc (Nat.le_refl _) _
  have HM0 := Lib.hid (moves_lit (w := A0) [(2, 1), (1, 0)] hs0 (by decide))
  have HB0 := Lib.hid hb0
  clear hs0 hb0
  go_wp2_with fail
  refine (order_any A0 _ [(2, 1), (1, 0)] (-1) (-1) HM0.out (by decide) (rng_lit rfl)).mono ?_
  rintro e w0 ⟨v0, rfl, ho, hb⟩
  rw [ord0] at ho ⊢
  have hm0 := MachAt.of_own ho
  have HC0 := Lib.hid (HB0.out.trans (hb.mono HB0.out.size))
  have HO0 := Lib.hid hm0
  clear hm0 ho hb HM0
  obtain ⟨A1, hA1⟩ : ∃ A, w0.alloc (.cells #[.int .i64 0, .int .i64 1, .int .i64 1, .int .i64 0] 43) = A := ⟨_, rfl⟩
  have hs1 : Str A1 w0.heap.size 43 [.int .i64 0, .int .i64 1, .int .i64 1, .int .i64 0] := by rw [← hA1]; exact World.alloc_heap_new w0 _
  have hb1 : Below w0.heap.size w0 A1 := by rw [← hA1]; exact (Below.refl _ _).alloc (Nat.le_refl _) _
  have HM1 := Lib.hid (moves_lit (w := A1) [(0, 1), (1, 0)] hs1 (by decide))
  have HB1 := Lib.hid (HC0.out.trans (hb1.mono HC0.out.size))
  have HO0' := Lib.hid (MachAt.keep HO0.out hb1)
  clear hs1 hb1
  go_wp2_with fail
  refine (order_any A1 _ [(0, 1), (1, 0)] 5 (-1) HM1.out (by decide) (rng_lit rfl)).mono ?_
  rintro e w1 ⟨v1, rfl, ho, hb⟩
  rw [ord1] at ho ⊢
  have hm1 := MachAt.of_own ho
  have HC1 := Lib.hid (HB1.out.trans (hb.mono HB1.out.size))
  have HO0x := Lib.hid (MachAt.keep HO0'.out hb)
  clear HO0 HO0'
  have HO1 := Lib.hid hm1
  clear hm1 ho hb HM1
  obtain ⟨A2, hA2⟩ : ∃ A, w1.alloc (.cells #[.int .i64 16, .int .i64 17] 43) = A := ⟨_, rfl⟩
  have hs2 : Str A2 w1.heap.size 43 [.int .i64 16, .int .i64 17] := by rw [← hA2]; exact World.alloc_heap_new w1 _
  have hb2 : Below w1.heap.size w1 A2 := by rw [← hA2]; exact (Below.refl _ _).alloc (Nat.le_refl _) _
  have HM2 := Lib.hid (moves_lit (w := A2) [(16, 17)] hs2 (by decide))
  have HB2 := Lib.hid (HC1.out.trans (hb2.mono HC1.out.size))
  have HO0x' := Lib.hid (MachAt.keep HO0x.out hb2)
  have HO1' := Lib.hid (MachAt.keep HO1.out hb2)
  clear hs2 hb2
  go_wp2_with fail
  refine (order_any A2 _ [(16, 17)] (-1) 7 HM2.out (by decide) (rng_lit rfl)).mono ?_
  rintro e w2 ⟨v2, rfl, ho, hb⟩
  rw [ord2] at ho ⊢
  have hm2 := MachAt.of_own ho
  have HC2 := Lib.hid (HB2.out.trans (hb.mono HB2.out.size))
  have HO0xx := Lib.hid (MachAt.keep HO0x'.out hb)
  clear HO0x HO0x'
  have HO1x := Lib.hid (MachAt.keep HO1'.out hb)
  clear HO1 HO1'
  have HO2 := Lib.hid hm2
  clear hm2 ho hb HM2
  obtain ⟨A3, hA3⟩ : ∃ A, w2.alloc (.cells #[.int .i64 16, .int .i64 17] 43) = A := ⟨_, rfl⟩
  have hs3 : Str A3 w2.heap.size 43 [.int .i64 16, .int .i64 17] := by rw [← hA3]; exact World.alloc_heap_new w2 _
  have hb3 : Below w2.heap.size w2 A3 := by rw [← hA3]; exact (Below.refl _ _).alloc (Nat.le_refl _) _
  have HM3 := Lib.hid (moves_lit (w := A3) [(16, 17)] hs3 (by decide))
  have HB3 := Lib.hid (HC2.out.trans (hb3.mono HC2.out.size))
  have HO0xx' := Lib.hid (MachAt.keep HO0xx.out hb3)
  have HO1x' := Lib.hid (MachAt.keep HO1x.out hb3)
  have HO2' := Lib.hid (MachAt.keep HO2.out hb3)
  clear hs3 hb3
  go_wp2_with fail
  refine (order_any A3 _ [(16, 17)] (-1) (-1) HM3.out (by decide) (rng_lit rfl)).mono ?_
  rintro e w3 ⟨v3, rfl, ho, hb⟩
  rw [ord3] at ho ⊢
  have hm3 := MachAt.of_own ho
  have HC3 := Lib.hid (HB3.out.trans (hb.mono HB3.out.size))
  have HO0xxx := Lib.hid (MachAt.keep HO0xx'.out hb)
  clear HO0xx HO0xx'
  have HO1xx := Lib.hid (MachAt.keep HO1x'.out hb)
  clear HO1x HO1x'
  have HO2x := Lib.hid (MachAt.keep HO2'.out hb)
  clear HO2 HO2'
  clear hm3 ho hb HM3
  obtain ⟨A4, hA4⟩ : ∃ A, w3.alloc (.cells #[.int .i64 1, .int .i64 2, .int .i64 0, .int .i64 1, .int .i64 0, .int .i64 0, .int .i32 0, .slice none 0 0, .int .i64 1, .int .i64 1, .int .i64 0, .int .i64 0, .int .i64 0, .int .i64 0, .int .i32 0, .slice none 0 0] 48) = A := ⟨_, rfl⟩
  have hs4 : Str A4 w3.heap.size 48 [.int .i64 1, .int .i64 2, .int .i64 0, .int .i64 1, .int .i64 0, .int .i64 0, .int .i32 0, .slice none 0 0, .int .i64 1, .int .i64 1, .int .i64 0, .int .i64 0, .int .i64 0, .int .i64 0, .int .i32 0, .slice none 0 0] := by rw [← hA4]; exact World.alloc_heap_new w3 _
  have hb4 : Below w3.heap.size w3 A4 := by rw [← hA4]; exact (Below.refl _ _).alloc (Nat.le_refl _) _
  have HM4 := Lib.hid (mach_lit (w := A4) [⟨1, 2, 0, 1, 0, 0, 0, 0⟩, ⟨1, 1, 0, 0, 0, 0, 0, 0⟩] hs4 (by decide))
  have HB4 := Lib.hid (HC3.out.trans (hb4.mono HC3.out.size))
  have HP0_4 := Lib.hid (MachAt.keep HO0xxx.out hb4)
  have HP1_4 := Lib.hid (MachAt.keep HO1xx.out hb4)
  have HP2_4 := Lib.hid (MachAt.keep HO2x.out hb4)
  clear hs4 hb4
  go_wp2_with fail
  refine (same_any A4 _ _ _ _ HP0_4.out HM4.out (by decide)).mono ?_
  rintro e w4 ⟨rfl, hb⟩
  rw [show sameN [⟨1, 2, 0, 1, 0, 0, 0, 0⟩, ⟨1, 1, 0, 0, 0, 0, 0, 0⟩] [⟨1, 2, 0, 1, 0, 0, 0, 0⟩, ⟨1, 1, 0, 0, 0, 0, 0, 0⟩] = true by decide +kernel]
  have HC4 := Lib.hid (HB4.out.trans (hb.mono HB4.out.size))
  have HQ1_4 := Lib.hid (MachAt.keep HP1_4.out hb)
  have HQ2_4 := Lib.hid (MachAt.keep HP2_4.out hb)
  clear hb HM4
  obtain ⟨A5, hA5⟩ : ∃ A, w4.alloc (.cells #[.int .i64 1, .int .i64 5, .int .i64 0, .int .i64 0, .int .i64 0, .int .i64 0, .int .i32 0, .slice none 0 0, .int .i64 1, .int .i64 0, .int .i64 0, .int .i64 1, .int .i64 0, .int .i64 0, .int .i32 0, .slice none 0 0, .int .i64 1, .int .i64 1, .int .i64 0, .int .i64 5, .int .i64 0, .int .i64 0, .int .i32 0, .slice none 0 0] 48) = A := ⟨_, rfl⟩
  have hs5 : Str A5 w4.heap.size 48 [.int .i64 1, .int .i64 5, .int .i64 0, .int .i64 0, .int .i64 0, .int .i64 0, .int .i32 0, .slice none 0 0, .int .i64 1, .int .i64 0, .int .i64 0, .int .i64 1, .int .i64 0, .int .i64 0, .int .i32 0, .slice none 0 0, .int .i64 1, .int .i64 1, .int .i64 0, .int .i64 5, .int .i64 0, .int .i64 0, .int .i32 0, .slice none 0 0] := by rw [← hA5]; exact World.alloc_heap_new w4 _
  have hb5 : Below w4.heap.size w4 A5 := by rw [← hA5]; exact (Below.refl _ _).alloc (Nat.le_refl _) _
  have HM5 := Lib.hid (mach_lit (w := A5) [⟨1, 5, 0, 0, 0, 0, 0, 0⟩, ⟨1, 0, 0, 1, 0, 0, 0, 0⟩, ⟨1, 1, 0, 5, 0, 0, 0, 0⟩] hs5 (by decide))
  have HB5 := Lib.hid (HC4.out.trans (hb5.mono HC4.out.size))
  have HP1_5 := Lib.hid (MachAt.keep HQ1_4.out hb5)
  have HP2_5 := Lib.hid (MachAt.keep HQ2_4.out hb5)
  clear hs5 hb5
  go_wp2_with fail
  refine (same_any A5 _ _ _ _ HP1_5.out HM5.out (by decide)).mono ?_
  rintro e w5 ⟨rfl, hb⟩
  rw [show sameN [⟨1, 5, 0, 0, 0, 0, 0, 0⟩, ⟨1, 0, 0, 1, 0, 0, 0, 0⟩, ⟨1, 1, 0, 5, 0, 0, 0, 0⟩] [⟨1, 5, 0, 0, 0, 0, 0, 0⟩, ⟨1, 0, 0, 1, 0, 0, 0, 0⟩, ⟨1, 1, 0, 5, 0, 0, 0, 0⟩] = true by decide +kernel]
  have HC5 := Lib.hid (HB5.out.trans (hb.mono HB5.out.size))
  have HQ2_5 := Lib.hid (MachAt.keep HP2_5.out hb)
  clear hb HM5
  obtain ⟨A6, hA6⟩ : ∃ A, w5.alloc (.cells #[.int .i64 31, .int .i64 0, .int .i64 0, .int .i64 0, .int .i64 0, .int .i64 0, .int .i32 8, .slice none 0 0, .int .i64 30, .int .i64 0, .int .i64 0, .int .i64 0, .int .i64 0, .int .i64 0, .int .i32 1, .slice none 0 0, .int .i64 31, .int .i64 0, .int .i64 0, .int .i64 0, .int .i64 0, .int .i64 0, .int .i32 0, .slice none 0 0, .int .i64 30, .int .i64 0, .int .i64 0, .int .i64 0, .int .i64 0, .int .i64 0, .int .i32 8, .slice none 0 0] 48) = A := ⟨_, rfl⟩
  have hs6 : Str A6 w5.heap.size 48 [.int .i64 31, .int .i64 0, .int .i64 0, .int .i64 0, .int .i64 0, .int .i64 0, .int .i32 8, .slice none 0 0, .int .i64 30, .int .i64 0, .int .i64 0, .int .i64 0, .int .i64 0, .int .i64 0, .int .i32 1, .slice none 0 0, .int .i64 31, .int .i64 0, .int .i64 0, .int .i64 0, .int .i64 0, .int .i64 0, .int .i32 0, .slice none 0 0, .int .i64 30, .int .i64 0, .int .i64 0, .int .i64 0, .int .i64 0, .int .i64 0, .int .i32 8, .slice none 0 0] := by rw [← hA6]; exact World.alloc_heap_new w5 _
  have hb6 : Below w5.heap.size w5 A6 := by rw [← hA6]; exact (Below.refl _ _).alloc (Nat.le_refl _) _
  have HM6 := Lib.hid (mach_lit (w := A6) [⟨31, 0, 0, 0, 0, 0, 8, 0⟩, ⟨30, 0, 0, 0, 0, 0, 1, 0⟩, ⟨31, 0, 0, 0, 0, 0, 0, 0⟩, ⟨30, 0, 0, 0, 0, 0, 8, 0⟩] hs6 (by decide))
  have HB6 := Lib.hid (HC5.out.trans (hb6.mono HC5.out.size))
  have HP2_6 := Lib.hid (MachAt.keep HQ2_5.out hb6)
  clear hs6 hb6
  go_wp2_with fail
  refine (same_any A6 _ _ _ _ HP2_6.out HM6.out (by decide)).mono ?_
  rintro e w6 ⟨rfl, hb⟩
  rw [show sameN [⟨31, 0, 0, 0, 0, 0, 8, 0⟩, ⟨30, 0, 0, 0, 0, 0, 1, 0⟩, ⟨31, 0, 0, 0, 0, 0, 0, 0⟩, ⟨30, 0, 0, 0, 0, 0, 8, 0⟩] [⟨31, 0, 0, 0, 0, 0, 8, 0⟩, ⟨30, 0, 0, 0, 0, 0, 1, 0⟩, ⟨31, 0, 0, 0, 0, 0, 0, 0⟩, ⟨30, 0, 0, 0, 0, 0, 8, 0⟩] = true by decide +kernel]
  have HC6 := Lib.hid (HB6.out.trans (hb.mono HB6.out.size))
  clear hb HM6
  go_wp2
  go_ret
  exact ⟨rfl, HC6.out⟩
end Go.Proofs.Ytdohaoomckhbgaa.Vm
