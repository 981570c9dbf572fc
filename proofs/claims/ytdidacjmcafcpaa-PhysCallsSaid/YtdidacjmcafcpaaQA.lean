/- Stage 12: phys: which operation an Op has; what instructions take, make and spoil. -/
import Derived.Test.YtdidacjmcafcpaaMB
import Derived.Test.YtdidacjmcafcpaaHeld
namespace Go.Proofs.Ytdidacjmcafcpaa.Ph
open Go.ChangeShapes Go.WideShapes Go.ChangeAt Go.RowKit Go.Proofs.Ytdidacjmcafcpaa.Mem Go.Proofs.Ytdidacjmcafcpaa.Kc Go.Proofs.Ytdidacjmcafcpaa.Pl Go.Proofs.Ytdidacjmcafcpaa.Mw Go.Proofs.Ytdidacjmcafcpaa.Mc Go.Proofs.Ytdidacjmcafcpaa.Br
set_option linter.unusedVariables false
set_option linter.unusedSimpArgs false
attribute [local go_sem] Oper.semAt_some
/-- The operation of an Op, as a type. -/
def kindT (op : Int) : TypeId := if op = 28 then 86 else if op = 30 then 87 else if op = 31 then 88 else 84
theorem op_any (w : World) (op : Int) : Calls Try.prog 29 #[.int .i64 op] w fun e w' => e = .returned (.iface (kindT op) (.agg #[])) ∧ w' = w := by
  by_cases h1 : op = 28
  · have e1 : (op == 28) = true := beq_iff_eq.2 h1
    have HK := Lib.hid (show kindT op = 86 by unfold kindT; rw [if_pos h1])
    clear h1
    go_enter Try.func29, Try.ntmps29
    go_wp2
    go_ret
    exact ⟨by rw [HK.out]; rfl, rfl⟩
  · have e1 : (op == 28) = false := beq_eq_false_iff_ne.2 h1
    by_cases h2 : op = 30
    · have e2 : (op == 30) = true := beq_iff_eq.2 h2
      have HK := Lib.hid (show kindT op = 87 by unfold kindT; rw [if_neg h1, if_pos h2])
      clear h1 h2
      go_enter Try.func29, Try.ntmps29
      go_wp2
      go_ret
      exact ⟨by rw [HK.out]; rfl, rfl⟩
    · have e2 : (op == 30) = false := beq_eq_false_iff_ne.2 h2
      by_cases h3 : op = 31
      · have e3 : (op == 31) = true := beq_iff_eq.2 h3
        have HK := Lib.hid (show kindT op = 88 by unfold kindT; rw [if_neg h1, if_neg h2, if_pos h3])
        clear h1 h2 h3
        go_enter Try.func29, Try.ntmps29
        go_wp2
        go_ret
        exact ⟨by rw [HK.out]; rfl, rfl⟩
      · have e3 : (op == 31) = false := beq_eq_false_iff_ne.2 h3
        have HK := Lib.hid (show kindT op = 84 by unfold kindT; rw [if_neg h1, if_neg h2, if_neg h3])
        clear h1 h2 h3
        go_enter Try.func29, Try.ntmps29
        go_wp2
        go_ret
        exact ⟨by rw [HK.out]; rfl, rfl⟩
theorem ints_low {w w' : World} {v : Value} {l : List Int} (h : Ints w v l) (hb : Below w.heap.size w w') : Ints w' v l := by
  obtain ⟨A, c, e, h1, h2, h3⟩ := h
  exact ⟨A, c, e, h1, h2, fun k hk => by obtain ⟨ad, e2, hc⟩ := h3 k hk; exact ⟨ad, e2, cell_keep hb (Nat.le_refl _) hc⟩⟩
theorem row_late {l : List Int} {w w1 w' : World} {e : Ending} (h : RowPost l w1 e w') (hb : Below w.heap.size w w1) : RowPost l w e w' := by
  obtain ⟨v, e1, h1, h2⟩ := h
  exact ⟨v, e1, own_base h1 hb.size, hb.trans (h2.mono hb.size)⟩
theorem ints_wcap {w : World} {v : Value} {l : List Int} (h : Ints w v l) : ∃ A c, v = .slice A l.length c := by obtain ⟨A, c, e, _⟩ := h; exact ⟨A, c, e⟩
def takesQ (i : PMach) : List Int := if i.op = 30 then [16 + i.imm] else takesL i
def makesQ (i : PMach) : List Int := if i.op = 31 then [16 + i.imm] else makesL i
def spoilsQ (i : PMach) : List Int := if i.op = 28 then [1, 2, 3] else []
set_option maxRecDepth 100000 in
set_option maxHeartbeats 1000000 in
theorem plain_takes (w : World) (i : PMach) (A : Option Addr) (n k : Nat) (hv : Ints w (.slice A n k) i.args) (hl : i.args.length ≤ 1000000) : Calls Try.prog 106 #[.agg #[], .agg #[.int .i64 i.op, .int .i64 i.d, .int .i64 i.e, .int .i64 i.a, .int .i64 i.b, .int .i64 i.c, .int .i32 i.imm, .slice A n k]] w (RowPost (takesL i) w) := by
  obtain ⟨W0, hW0⟩ : ∃ W0, w.alloc (.cells #[] 84) = W0 := ⟨_, rfl⟩
  have hb0 : Below w.heap.size w W0 := by rw [← hW0]; exact (Below.refl _ _).alloc (Nat.le_refl _) _
  obtain ⟨W1, hW1⟩ : ∃ W1, W0.alloc (.cells #[.int .i64 i.op, .int .i64 i.d, .int .i64 i.e, .int .i64 i.a, .int .i64 i.b, .int .i64 i.c, .int .i32 i.imm, .slice A n k] 24) = W1 := ⟨_, rfl⟩
  have hb1 : Below W0.heap.size W0 W1 := by rw [← hW1]; exact (Below.refl _ _).alloc (Nat.le_refl _) _
  have hs1 : Str W1 W0.heap.size 24 [.int .i64 i.op, .int .i64 i.d, .int .i64 i.e, .int .i64 i.a, .int .i64 i.b, .int .i64 i.c, .int .i32 i.imm, .slice A n k] := by rw [← hW1]; exact World.alloc_heap_new W0 _
  have HB1 := Lib.hid (hb0.trans (hb1.mono hb0.size))
  have m0 : W1.cell? ⟨W0.heap.size, 0, none⟩ = some (.int .i64 i.op) := hs1.cell 0
  have m1 : W1.cell? ⟨W0.heap.size, 1, none⟩ = some (.int .i64 i.d) := hs1.cell 1
  have m2 : W1.cell? ⟨W0.heap.size, 2, none⟩ = some (.int .i64 i.e) := hs1.cell 2
  have m3 : W1.cell? ⟨W0.heap.size, 3, none⟩ = some (.int .i64 i.a) := hs1.cell 3
  have m4 : W1.cell? ⟨W0.heap.size, 4, none⟩ = some (.int .i64 i.b) := hs1.cell 4
  have m5 : W1.cell? ⟨W0.heap.size, 5, none⟩ = some (.int .i64 i.c) := hs1.cell 5
  have m6 : W1.cell? ⟨W0.heap.size, 6, none⟩ = some (.int .i32 i.imm) := hs1.cell 6
  have m7 : W1.cell? ⟨W0.heap.size, 7, none⟩ = some (.slice A n k) := hs1.cell 7
  clear hb0 hb1 hs1
  go_enter Try.func106, Try.ntmps106
  go_wp2_with fail
  clear hW0 hW1
  refine (takes_any W1 i A n k (ints_low hv HB1.out) hl).mono ?_
  rintro e w2 h2
  obtain ⟨v, rfl, ho, hb⟩ := row_late h2 HB1.out
  have HO := Lib.hid ho
  have HB := Lib.hid hb
  clear h2 ho hb
  go_wp2
  go_ret
  exact ⟨v, rfl, HO.out, HB.out⟩
set_option maxRecDepth 100000 in
set_option maxHeartbeats 1000000 in
theorem plain_makes (w : World) (i : PMach) (A : Option Addr) (n k : Nat) : Calls Try.prog 104 #[.agg #[], .agg #[.int .i64 i.op, .int .i64 i.d, .int .i64 i.e, .int .i64 i.a, .int .i64 i.b, .int .i64 i.c, .int .i32 i.imm, .slice A n k]] w (RowPost (makesL i) w) := by
  obtain ⟨W0, hW0⟩ : ∃ W0, w.alloc (.cells #[] 84) = W0 := ⟨_, rfl⟩
  have hb0 : Below w.heap.size w W0 := by rw [← hW0]; exact (Below.refl _ _).alloc (Nat.le_refl _) _
  obtain ⟨W1, hW1⟩ : ∃ W1, W0.alloc (.cells #[.int .i64 i.op, .int .i64 i.d, .int .i64 i.e, .int .i64 i.a, .int .i64 i.b, .int .i64 i.c, .int .i32 i.imm, .slice A n k] 24) = W1 := ⟨_, rfl⟩
  have hb1 : Below W0.heap.size W0 W1 := by rw [← hW1]; exact (Below.refl _ _).alloc (Nat.le_refl _) _
  have hs1 : Str W1 W0.heap.size 24 [.int .i64 i.op, .int .i64 i.d, .int .i64 i.e, .int .i64 i.a, .int .i64 i.b, .int .i64 i.c, .int .i32 i.imm, .slice A n k] := by rw [← hW1]; exact World.alloc_heap_new W0 _
  have HB1 := Lib.hid (hb0.trans (hb1.mono hb0.size))
  have m0 : W1.cell? ⟨W0.heap.size, 0, none⟩ = some (.int .i64 i.op) := hs1.cell 0
  have m1 : W1.cell? ⟨W0.heap.size, 1, none⟩ = some (.int .i64 i.d) := hs1.cell 1
  have m2 : W1.cell? ⟨W0.heap.size, 2, none⟩ = some (.int .i64 i.e) := hs1.cell 2
  have m3 : W1.cell? ⟨W0.heap.size, 3, none⟩ = some (.int .i64 i.a) := hs1.cell 3
  have m4 : W1.cell? ⟨W0.heap.size, 4, none⟩ = some (.int .i64 i.b) := hs1.cell 4
  have m5 : W1.cell? ⟨W0.heap.size, 5, none⟩ = some (.int .i64 i.c) := hs1.cell 5
  have m6 : W1.cell? ⟨W0.heap.size, 6, none⟩ = some (.int .i32 i.imm) := hs1.cell 6
  have m7 : W1.cell? ⟨W0.heap.size, 7, none⟩ = some (.slice A n k) := hs1.cell 7
  clear hb0 hb1 hs1
  go_enter Try.func104, Try.ntmps104
  go_wp2_with fail
  clear hW0 hW1
  refine (makes_any W1 i A n k).mono ?_
  rintro e w2 h2
  obtain ⟨v, rfl, ho, hb⟩ := row_late h2 HB1.out
  have HO := Lib.hid ho
  have HB := Lib.hid hb
  clear h2 ho hb
  go_wp2
  go_ret
  exact ⟨v, rfl, HO.out, HB.out⟩
set_option maxRecDepth 100000 in
theorem place_slot (w : World) (i : PMach) (A : Option Addr) (n k : Nat) (hw : InW i.imm) : Calls Try.prog 114 #[.agg #[.int .i64 i.op, .int .i64 i.d, .int .i64 i.e, .int .i64 i.a, .int .i64 i.b, .int .i64 i.c, .int .i32 i.imm, .slice A n k]] w fun e w' => e = .returned (.int .i64 (16 + i.imm)) ∧ Below w.heap.size w w' := by
  have hw1 := hw.1
  have hw2 := hw.2
  obtain ⟨W1, hW1⟩ : ∃ W1, w.alloc (.cells #[.int .i64 i.op, .int .i64 i.d, .int .i64 i.e, .int .i64 i.a, .int .i64 i.b, .int .i64 i.c, .int .i32 i.imm, .slice A n k] 24) = W1 := ⟨_, rfl⟩
  have hb1 : Below w.heap.size w W1 := by rw [← hW1]; exact (Below.refl _ _).alloc (Nat.le_refl _) _
  have hs1 : Str W1 w.heap.size 24 [.int .i64 i.op, .int .i64 i.d, .int .i64 i.e, .int .i64 i.a, .int .i64 i.b, .int .i64 i.c, .int .i32 i.imm, .slice A n k] := by rw [← hW1]; exact World.alloc_heap_new w _
  have HB1 := Lib.hid hb1
  have HS1 := Lib.hid hs1
  have m0 : W1.cell? ⟨w.heap.size, 0, none⟩ = some (.int .i64 i.op) := hs1.cell 0
  have m1 : W1.cell? ⟨w.heap.size, 1, none⟩ = some (.int .i64 i.d) := hs1.cell 1
  have m2 : W1.cell? ⟨w.heap.size, 2, none⟩ = some (.int .i64 i.e) := hs1.cell 2
  have m3 : W1.cell? ⟨w.heap.size, 3, none⟩ = some (.int .i64 i.a) := hs1.cell 3
  have m4 : W1.cell? ⟨w.heap.size, 4, none⟩ = some (.int .i64 i.b) := hs1.cell 4
  have m5 : W1.cell? ⟨w.heap.size, 5, none⟩ = some (.int .i64 i.c) := hs1.cell 5
  have m6 : W1.cell? ⟨w.heap.size, 6, none⟩ = some (.int .i32 i.imm) := hs1.cell 6
  have m7 : W1.cell? ⟨w.heap.size, 7, none⟩ = some (.slice A n k) := hs1.cell 7
  clear hb1 hs1
  go_enter Try.func114, Try.ntmps114
  go_wp2
  go_ret
  exact ⟨rfl, HB1.out⟩
set_option maxRecDepth 100000 in
set_option maxHeartbeats 1000000 in
theorem slot_takes (w : World) (i : PMach) (A : Option Addr) (n k : Nat) (hw : InW i.imm) : Calls Try.prog 113 #[.agg #[], .agg #[.int .i64 i.op, .int .i64 i.d, .int .i64 i.e, .int .i64 i.a, .int .i64 i.b, .int .i64 i.c, .int .i32 i.imm, .slice A n k]] w (RowPost [16 + i.imm] w) := by
  obtain ⟨W0, hW0⟩ : ∃ W0, w.alloc (.cells #[] 87) = W0 := ⟨_, rfl⟩
  have hb0 : Below w.heap.size w W0 := by rw [← hW0]; exact (Below.refl _ _).alloc (Nat.le_refl _) _
  obtain ⟨W1, hW1⟩ : ∃ W1, W0.alloc (.cells #[.int .i64 i.op, .int .i64 i.d, .int .i64 i.e, .int .i64 i.a, .int .i64 i.b, .int .i64 i.c, .int .i32 i.imm, .slice A n k] 24) = W1 := ⟨_, rfl⟩
  have hb1 : Below W0.heap.size W0 W1 := by rw [← hW1]; exact (Below.refl _ _).alloc (Nat.le_refl _) _
  have hs1 : Str W1 W0.heap.size 24 [.int .i64 i.op, .int .i64 i.d, .int .i64 i.e, .int .i64 i.a, .int .i64 i.b, .int .i64 i.c, .int .i32 i.imm, .slice A n k] := by rw [← hW1]; exact World.alloc_heap_new W0 _
  have HB1 := Lib.hid (hb0.trans (hb1.mono hb0.size))
  have m0 : W1.cell? ⟨W0.heap.size, 0, none⟩ = some (.int .i64 i.op) := hs1.cell 0
  have m1 : W1.cell? ⟨W0.heap.size, 1, none⟩ = some (.int .i64 i.d) := hs1.cell 1
  have m2 : W1.cell? ⟨W0.heap.size, 2, none⟩ = some (.int .i64 i.e) := hs1.cell 2
  have m3 : W1.cell? ⟨W0.heap.size, 3, none⟩ = some (.int .i64 i.a) := hs1.cell 3
  have m4 : W1.cell? ⟨W0.heap.size, 4, none⟩ = some (.int .i64 i.b) := hs1.cell 4
  have m5 : W1.cell? ⟨W0.heap.size, 5, none⟩ = some (.int .i64 i.c) := hs1.cell 5
  have m6 : W1.cell? ⟨W0.heap.size, 6, none⟩ = some (.int .i32 i.imm) := hs1.cell 6
  have m7 : W1.cell? ⟨W0.heap.size, 7, none⟩ = some (.slice A n k) := hs1.cell 7
  clear hb0 hb1 hs1
  go_enter Try.func113, Try.ntmps113
  go_wp2_with fail
  clear hW0 hW1
  refine (place_slot W1 i A n k hw).mono ?_
  rintro e w2 ⟨rfl, hb⟩
  have HB2 := Lib.hid (HB1.out.trans (hb.mono HB1.out.size))
  have hz := HB2.out.size
  clear hb
  obtain ⟨q, hq⟩ : ∃ q : Int, 16 + i.imm = q := ⟨_, rfl⟩
  rw [hq]
  have HQ := Lib.hid hq
  obtain ⟨W3, hW3⟩ : ∃ W3, w2.alloc (.cells #[.int .i64 q] 3) = W3 := ⟨_, rfl⟩
  have hb3 : Below w2.heap.size w2 W3 := by rw [← hW3]; exact (Below.refl _ _).alloc (Nat.le_refl _) _
  have HO := Lib.hid (show OwnInts w.heap.size W3 (.slice (some ⟨w2.heap.size, 0, none⟩) 1 1) [q] by
    rw [← hW3]
    exact World.ownsRow_lit (size := 1) (e := 3) (base := w.heap.size) w2 #[.int .i64 q] 1 hz (by unfold maxLen; omega) (by simp))
  have HB3 := Lib.hid (HB2.out.trans (hb3.mono hz))
  clear hb3 hq
  go_wp2
  go_ret
  exact ⟨_, rfl, by rw [HQ.out]; exact HO.out, HB3.out⟩
set_option maxRecDepth 100000 in
set_option maxHeartbeats 1000000 in
theorem slot_makes (w : World) (i : PMach) (A : Option Addr) (n k : Nat) (hw : InW i.imm) : Calls Try.prog 116 #[.agg #[], .agg #[.int .i64 i.op, .int .i64 i.d, .int .i64 i.e, .int .i64 i.a, .int .i64 i.b, .int .i64 i.c, .int .i32 i.imm, .slice A n k]] w (RowPost [16 + i.imm] w) := by
  obtain ⟨W0, hW0⟩ : ∃ W0, w.alloc (.cells #[] 88) = W0 := ⟨_, rfl⟩
  have hb0 : Below w.heap.size w W0 := by rw [← hW0]; exact (Below.refl _ _).alloc (Nat.le_refl _) _
  obtain ⟨W1, hW1⟩ : ∃ W1, W0.alloc (.cells #[.int .i64 i.op, .int .i64 i.d, .int .i64 i.e, .int .i64 i.a, .int .i64 i.b, .int .i64 i.c, .int .i32 i.imm, .slice A n k] 24) = W1 := ⟨_, rfl⟩
  have hb1 : Below W0.heap.size W0 W1 := by rw [← hW1]; exact (Below.refl _ _).alloc (Nat.le_refl _) _
  have hs1 : Str W1 W0.heap.size 24 [.int .i64 i.op, .int .i64 i.d, .int .i64 i.e, .int .i64 i.a, .int .i64 i.b, .int .i64 i.c, .int .i32 i.imm, .slice A n k] := by rw [← hW1]; exact World.alloc_heap_new W0 _
  have HB1 := Lib.hid (hb0.trans (hb1.mono hb0.size))
  have m0 : W1.cell? ⟨W0.heap.size, 0, none⟩ = some (.int .i64 i.op) := hs1.cell 0
  have m1 : W1.cell? ⟨W0.heap.size, 1, none⟩ = some (.int .i64 i.d) := hs1.cell 1
  have m2 : W1.cell? ⟨W0.heap.size, 2, none⟩ = some (.int .i64 i.e) := hs1.cell 2
  have m3 : W1.cell? ⟨W0.heap.size, 3, none⟩ = some (.int .i64 i.a) := hs1.cell 3
  have m4 : W1.cell? ⟨W0.heap.size, 4, none⟩ = some (.int .i64 i.b) := hs1.cell 4
  have m5 : W1.cell? ⟨W0.heap.size, 5, none⟩ = some (.int .i64 i.c) := hs1.cell 5
  have m6 : W1.cell? ⟨W0.heap.size, 6, none⟩ = some (.int .i32 i.imm) := hs1.cell 6
  have m7 : W1.cell? ⟨W0.heap.size, 7, none⟩ = some (.slice A n k) := hs1.cell 7
  clear hb0 hb1 hs1
  go_enter Try.func116, Try.ntmps116
  go_wp2_with fail
  clear hW0 hW1
  refine (place_slot W1 i A n k hw).mono ?_
  rintro e w2 ⟨rfl, hb⟩
  have HB2 := Lib.hid (HB1.out.trans (hb.mono HB1.out.size))
  have hz := HB2.out.size
  clear hb
  obtain ⟨q, hq⟩ : ∃ q : Int, 16 + i.imm = q := ⟨_, rfl⟩
  rw [hq]
  have HQ := Lib.hid hq
  obtain ⟨W3, hW3⟩ : ∃ W3, w2.alloc (.cells #[.int .i64 q] 3) = W3 := ⟨_, rfl⟩
  have hb3 : Below w2.heap.size w2 W3 := by rw [← hW3]; exact (Below.refl _ _).alloc (Nat.le_refl _) _
  have HO := Lib.hid (show OwnInts w.heap.size W3 (.slice (some ⟨w2.heap.size, 0, none⟩) 1 1) [q] by
    rw [← hW3]
    exact World.ownsRow_lit (size := 1) (e := 3) (base := w.heap.size) w2 #[.int .i64 q] 1 hz (by unfold maxLen; omega) (by simp))
  have HB3 := Lib.hid (HB2.out.trans (hb3.mono hz))
  clear hb3 hq
  go_wp2
  go_ret
  exact ⟨_, rfl, by rw [HQ.out]; exact HO.out, HB3.out⟩
set_option maxRecDepth 100000 in
set_option maxHeartbeats 4000000 in
theorem takesQ_any (w : World) (i : PMach) (A : Option Addr) (n k : Nat) (hw : InW i.imm) (hv : Ints w (.slice A n k) i.args) (hl : i.args.length ≤ 1000000) : Calls Try.prog 9 #[.agg #[.int .i64 i.op, .int .i64 i.d, .int .i64 i.e, .int .i64 i.a, .int .i64 i.b, .int .i64 i.c, .int .i32 i.imm, .slice A n k]] w (RowPost (takesQ i) w) := by
  obtain ⟨W1, hW1⟩ : ∃ W1, w.alloc (.cells #[.int .i64 i.op, .int .i64 i.d, .int .i64 i.e, .int .i64 i.a, .int .i64 i.b, .int .i64 i.c, .int .i32 i.imm, .slice A n k] 24) = W1 := ⟨_, rfl⟩
  have hb1 : Below w.heap.size w W1 := by rw [← hW1]; exact (Below.refl _ _).alloc (Nat.le_refl _) _
  have hs1 : Str W1 w.heap.size 24 [.int .i64 i.op, .int .i64 i.d, .int .i64 i.e, .int .i64 i.a, .int .i64 i.b, .int .i64 i.c, .int .i32 i.imm, .slice A n k] := by rw [← hW1]; exact World.alloc_heap_new w _
  have HB1 := Lib.hid hb1
  have HS1 := Lib.hid hs1
  have m0 : W1.cell? ⟨w.heap.size, 0, none⟩ = some (.int .i64 i.op) := hs1.cell 0
  have m1 : W1.cell? ⟨w.heap.size, 1, none⟩ = some (.int .i64 i.d) := hs1.cell 1
  have m2 : W1.cell? ⟨w.heap.size, 2, none⟩ = some (.int .i64 i.e) := hs1.cell 2
  have m3 : W1.cell? ⟨w.heap.size, 3, none⟩ = some (.int .i64 i.a) := hs1.cell 3
  have m4 : W1.cell? ⟨w.heap.size, 4, none⟩ = some (.int .i64 i.b) := hs1.cell 4
  have m5 : W1.cell? ⟨w.heap.size, 5, none⟩ = some (.int .i64 i.c) := hs1.cell 5
  have m6 : W1.cell? ⟨w.heap.size, 6, none⟩ = some (.int .i32 i.imm) := hs1.cell 6
  have m7 : W1.cell? ⟨w.heap.size, 7, none⟩ = some (.slice A n k) := hs1.cell 7
  clear hb1 hs1
  have HV := Lib.hid (ints_low hv HB1.out)
  clear hv
  by_cases h1 : i.op = 28
  · have HK := Lib.hid (show kindT i.op = 86 by unfold kindT; rw [if_pos h1])
    have HT := Lib.hid (show takesQ i = takesL i by unfold takesQ; rw [if_neg (by omega)])
    clear h1
    have hm : ∀ (f : Nat) (w : World), (method (f + 1) 86 (.agg #[]) "jacquard/phys.takes").run Try.prog w = .ok (106, .agg #[]) w := fun f w => by kernel_rfl
    go_enter Try.func9, Try.ntmps9
    go_wp2_with fail
    clear hW1
    refine region_heldT_wp (fun w' => w'.cell? ⟨w.heap.size, 0, none⟩ = some (.int .i64 i.op) ∧ w'.cell? ⟨w.heap.size, 1, none⟩ = some (.int .i64 i.d) ∧ w'.cell? ⟨w.heap.size, 2, none⟩ = some (.int .i64 i.e) ∧ w'.cell? ⟨w.heap.size, 3, none⟩ = some (.int .i64 i.a) ∧ w'.cell? ⟨w.heap.size, 4, none⟩ = some (.int .i64 i.b) ∧ w'.cell? ⟨w.heap.size, 5, none⟩ = some (.int .i64 i.c) ∧ w'.cell? ⟨w.heap.size, 6, none⟩ = some (.int .i32 i.imm) ∧ w'.cell? ⟨w.heap.size, 7, none⟩ = some (.slice A n k)) [0, 1, 3] [0, 1, 3, 2, 4, 5] 5 (by kernel_rfl) (by kernel_rfl) (by kernel_rfl) (by kernel_rfl) rfl (by intro c a d v w h; cases d <;> exact h) ⟨m0, m1, m2, m3, m4, m5, m6, m7⟩ ?_
    refine walkH_still _ ?gall0 rfl rfl rfl ?gally0 ?_
    case gally0 => intro w hS; go_simp; first | done | with_reducible rfl
    simp only [Act.put]
    refine walkH_still _ ?gall1 rfl rfl rfl ?gally1 ?_
    case gally1 => intro w hS; go_simp; first | done | with_reducible rfl
    simp only [Act.put]
    refine walkH_still _ ?gall3 rfl rfl rfl ?gally3 ?_
    case gally3 => intro w hS; go_simp; first | done | with_reducible rfl
    simp only [Act.put]
    try simp only [List.setIfInBounds_toArray, List.set_cons_zero, List.set_cons_succ]
    refine walkHd _ rfl rfl ?_
    go_wp2_with fail
    refine (op_any W1.drew i.op).mono ?_
    rintro e w2 ⟨rfl, hw2⟩
    obtain rfl : W1.drew = w2 := hw2.symm
    rw [HK.out]
    go_wp2_with fail
    refine behindH (Or.inl ⟨m0, m1, m2, m3, m4, m5, m6, m7⟩) ?_
    try simp only [List.setIfInBounds_toArray, List.set_cons_zero, List.set_cons_succ]
    refine walkHd _ rfl rfl ?_
    go_wp2_with fail
    refine (plain_takes W1.drew i A n k HV.out hl).mono ?_
    rintro e w3 h3
    obtain ⟨v, rfl, ho, hb⟩ := row_late h3 ((Below.refl _ W1).drew)
    have HO := Lib.hid (own_base ho HB1.out.size)
    have HB := Lib.hid (HB1.out.trans (hb.mono HB1.out.size))
    have n0 : w3.cell? ⟨w.heap.size, 0, none⟩ = some (.int .i64 i.op) := cell_keep hb (Nat.le_refl _) m0
    have n1 : w3.cell? ⟨w.heap.size, 1, none⟩ = some (.int .i64 i.d) := cell_keep hb (Nat.le_refl _) m1
    have n2 : w3.cell? ⟨w.heap.size, 2, none⟩ = some (.int .i64 i.e) := cell_keep hb (Nat.le_refl _) m2
    have n3 : w3.cell? ⟨w.heap.size, 3, none⟩ = some (.int .i64 i.a) := cell_keep hb (Nat.le_refl _) m3
    have n4 : w3.cell? ⟨w.heap.size, 4, none⟩ = some (.int .i64 i.b) := cell_keep hb (Nat.le_refl _) m4
    have n5 : w3.cell? ⟨w.heap.size, 5, none⟩ = some (.int .i64 i.c) := cell_keep hb (Nat.le_refl _) m5
    have n6 : w3.cell? ⟨w.heap.size, 6, none⟩ = some (.int .i32 i.imm) := cell_keep hb (Nat.le_refl _) m6
    have n7 : w3.cell? ⟨w.heap.size, 7, none⟩ = some (.slice A n k) := cell_keep hb (Nat.le_refl _) m7
    clear h3 ho hb
    go_wp2_with fail
    refine behindH (Or.inl ⟨n0, n1, n2, n3, n4, n5, n6, n7⟩) ?_
    try simp only [List.setIfInBounds_toArray, List.set_cons_zero, List.set_cons_succ]
    refine walkHd _ rfl rfl ?_
    go_wp2_with fail
    refine behindH (Or.inr rfl) (walkH_nil ?_)
    go_wp2
    go_ret
    exact ⟨v, rfl, by rw [HT.out]; exact HO.out, HB.out⟩
  · by_cases h2 : i.op = 30
    · have HK := Lib.hid (show kindT i.op = 87 by unfold kindT; rw [if_neg h1, if_pos h2])
      have HT := Lib.hid (show takesQ i = [16 + i.imm] by unfold takesQ; rw [if_pos h2])
      clear h1 h2
      have hm : ∀ (f : Nat) (w : World), (method (f + 1) 87 (.agg #[]) "jacquard/phys.takes").run Try.prog w = .ok (113, .agg #[]) w := fun f w => by kernel_rfl
      go_enter Try.func9, Try.ntmps9
      go_wp2_with fail
      clear hW1
      refine region_heldT_wp (fun w' => w'.cell? ⟨w.heap.size, 0, none⟩ = some (.int .i64 i.op) ∧ w'.cell? ⟨w.heap.size, 1, none⟩ = some (.int .i64 i.d) ∧ w'.cell? ⟨w.heap.size, 2, none⟩ = some (.int .i64 i.e) ∧ w'.cell? ⟨w.heap.size, 3, none⟩ = some (.int .i64 i.a) ∧ w'.cell? ⟨w.heap.size, 4, none⟩ = some (.int .i64 i.b) ∧ w'.cell? ⟨w.heap.size, 5, none⟩ = some (.int .i64 i.c) ∧ w'.cell? ⟨w.heap.size, 6, none⟩ = some (.int .i32 i.imm) ∧ w'.cell? ⟨w.heap.size, 7, none⟩ = some (.slice A n k)) [0, 1, 3] [0, 1, 3, 2, 4, 5] 5 (by kernel_rfl) (by kernel_rfl) (by kernel_rfl) (by kernel_rfl) rfl (by intro c a d v w h; cases d <;> exact h) ⟨m0, m1, m2, m3, m4, m5, m6, m7⟩ ?_
      refine walkH_still _ ?goad0 rfl rfl rfl ?goady0 ?_
      case goady0 => intro w hS; go_simp; first | done | with_reducible rfl
      simp only [Act.put]
      refine walkH_still _ ?goad1 rfl rfl rfl ?goady1 ?_
      case goady1 => intro w hS; go_simp; first | done | with_reducible rfl
      simp only [Act.put]
      refine walkH_still _ ?goad3 rfl rfl rfl ?goady3 ?_
      case goady3 => intro w hS; go_simp; first | done | with_reducible rfl
      simp only [Act.put]
      try simp only [List.setIfInBounds_toArray, List.set_cons_zero, List.set_cons_succ]
      refine walkHd _ rfl rfl ?_
      go_wp2_with fail
      refine (op_any W1.drew i.op).mono ?_
      rintro e w2 ⟨rfl, hw2⟩
      obtain rfl : W1.drew = w2 := hw2.symm
      rw [HK.out]
      go_wp2_with fail
      refine behindH (Or.inl ⟨m0, m1, m2, m3, m4, m5, m6, m7⟩) ?_
      try simp only [List.setIfInBounds_toArray, List.set_cons_zero, List.set_cons_succ]
      refine walkHd _ rfl rfl ?_
      go_wp2_with fail
      refine (slot_takes W1.drew i A n k hw).mono ?_
      rintro e w3 h3
      obtain ⟨v, rfl, ho, hb⟩ := row_late h3 ((Below.refl _ W1).drew)
      have HO := Lib.hid (own_base ho HB1.out.size)
      have HB := Lib.hid (HB1.out.trans (hb.mono HB1.out.size))
      have n0 : w3.cell? ⟨w.heap.size, 0, none⟩ = some (.int .i64 i.op) := cell_keep hb (Nat.le_refl _) m0
      have n1 : w3.cell? ⟨w.heap.size, 1, none⟩ = some (.int .i64 i.d) := cell_keep hb (Nat.le_refl _) m1
      have n2 : w3.cell? ⟨w.heap.size, 2, none⟩ = some (.int .i64 i.e) := cell_keep hb (Nat.le_refl _) m2
      have n3 : w3.cell? ⟨w.heap.size, 3, none⟩ = some (.int .i64 i.a) := cell_keep hb (Nat.le_refl _) m3
      have n4 : w3.cell? ⟨w.heap.size, 4, none⟩ = some (.int .i64 i.b) := cell_keep hb (Nat.le_refl _) m4
      have n5 : w3.cell? ⟨w.heap.size, 5, none⟩ = some (.int .i64 i.c) := cell_keep hb (Nat.le_refl _) m5
      have n6 : w3.cell? ⟨w.heap.size, 6, none⟩ = some (.int .i32 i.imm) := cell_keep hb (Nat.le_refl _) m6
      have n7 : w3.cell? ⟨w.heap.size, 7, none⟩ = some (.slice A n k) := cell_keep hb (Nat.le_refl _) m7
      clear h3 ho hb
      go_wp2_with fail
      refine behindH (Or.inl ⟨n0, n1, n2, n3, n4, n5, n6, n7⟩) ?_
      try simp only [List.setIfInBounds_toArray, List.set_cons_zero, List.set_cons_succ]
      refine walkHd _ rfl rfl ?_
      go_wp2_with fail
      refine behindH (Or.inr rfl) (walkH_nil ?_)
      go_wp2
      go_ret
      exact ⟨v, rfl, by rw [HT.out]; exact HO.out, HB.out⟩
    · by_cases h3 : i.op = 31
      · have HK := Lib.hid (show kindT i.op = 88 by unfold kindT; rw [if_neg h1, if_neg h2, if_pos h3])
        have HT := Lib.hid (show takesQ i = takesL i by unfold takesQ; rw [if_neg (by omega)])
        clear h1 h2 h3
        have hm : ∀ (f : Nat) (w : World), (method (f + 1) 88 (.agg #[]) "jacquard/phys.takes").run Try.prog w = .ok (106, .agg #[]) w := fun f w => by kernel_rfl
        go_enter Try.func9, Try.ntmps9
        go_wp2_with fail
        clear hW1
        refine region_heldT_wp (fun w' => w'.cell? ⟨w.heap.size, 0, none⟩ = some (.int .i64 i.op) ∧ w'.cell? ⟨w.heap.size, 1, none⟩ = some (.int .i64 i.d) ∧ w'.cell? ⟨w.heap.size, 2, none⟩ = some (.int .i64 i.e) ∧ w'.cell? ⟨w.heap.size, 3, none⟩ = some (.int .i64 i.a) ∧ w'.cell? ⟨w.heap.size, 4, none⟩ = some (.int .i64 i.b) ∧ w'.cell? ⟨w.heap.size, 5, none⟩ = some (.int .i64 i.c) ∧ w'.cell? ⟨w.heap.size, 6, none⟩ = some (.int .i32 i.imm) ∧ w'.cell? ⟨w.heap.size, 7, none⟩ = some (.slice A n k)) [0, 1, 3] [0, 1, 3, 2, 4, 5] 5 (by kernel_rfl) (by kernel_rfl) (by kernel_rfl) (by kernel_rfl) rfl (by intro c a d v w h; cases d <;> exact h) ⟨m0, m1, m2, m3, m4, m5, m6, m7⟩ ?_
        refine walkH_still _ ?gore0 rfl rfl rfl ?gorey0 ?_
        case gorey0 => intro w hS; go_simp; first | done | with_reducible rfl
        simp only [Act.put]
        refine walkH_still _ ?gore1 rfl rfl rfl ?gorey1 ?_
        case gorey1 => intro w hS; go_simp; first | done | with_reducible rfl
        simp only [Act.put]
        refine walkH_still _ ?gore3 rfl rfl rfl ?gorey3 ?_
        case gorey3 => intro w hS; go_simp; first | done | with_reducible rfl
        simp only [Act.put]
        try simp only [List.setIfInBounds_toArray, List.set_cons_zero, List.set_cons_succ]
        refine walkHd _ rfl rfl ?_
        go_wp2_with fail
        refine (op_any W1.drew i.op).mono ?_
        rintro e w2 ⟨rfl, hw2⟩
        obtain rfl : W1.drew = w2 := hw2.symm
        rw [HK.out]
        go_wp2_with fail
        refine behindH (Or.inl ⟨m0, m1, m2, m3, m4, m5, m6, m7⟩) ?_
        try simp only [List.setIfInBounds_toArray, List.set_cons_zero, List.set_cons_succ]
        refine walkHd _ rfl rfl ?_
        go_wp2_with fail
        refine (plain_takes W1.drew i A n k HV.out hl).mono ?_
        rintro e w3 h3
        obtain ⟨v, rfl, ho, hb⟩ := row_late h3 ((Below.refl _ W1).drew)
        have HO := Lib.hid (own_base ho HB1.out.size)
        have HB := Lib.hid (HB1.out.trans (hb.mono HB1.out.size))
        have n0 : w3.cell? ⟨w.heap.size, 0, none⟩ = some (.int .i64 i.op) := cell_keep hb (Nat.le_refl _) m0
        have n1 : w3.cell? ⟨w.heap.size, 1, none⟩ = some (.int .i64 i.d) := cell_keep hb (Nat.le_refl _) m1
        have n2 : w3.cell? ⟨w.heap.size, 2, none⟩ = some (.int .i64 i.e) := cell_keep hb (Nat.le_refl _) m2
        have n3 : w3.cell? ⟨w.heap.size, 3, none⟩ = some (.int .i64 i.a) := cell_keep hb (Nat.le_refl _) m3
        have n4 : w3.cell? ⟨w.heap.size, 4, none⟩ = some (.int .i64 i.b) := cell_keep hb (Nat.le_refl _) m4
        have n5 : w3.cell? ⟨w.heap.size, 5, none⟩ = some (.int .i64 i.c) := cell_keep hb (Nat.le_refl _) m5
        have n6 : w3.cell? ⟨w.heap.size, 6, none⟩ = some (.int .i32 i.imm) := cell_keep hb (Nat.le_refl _) m6
        have n7 : w3.cell? ⟨w.heap.size, 7, none⟩ = some (.slice A n k) := cell_keep hb (Nat.le_refl _) m7
        clear h3 ho hb
        go_wp2_with fail
        refine behindH (Or.inl ⟨n0, n1, n2, n3, n4, n5, n6, n7⟩) ?_
        try simp only [List.setIfInBounds_toArray, List.set_cons_zero, List.set_cons_succ]
        refine walkHd _ rfl rfl ?_
        go_wp2_with fail
        refine behindH (Or.inr rfl) (walkH_nil ?_)
        go_wp2
        go_ret
        exact ⟨v, rfl, by rw [HT.out]; exact HO.out, HB.out⟩
      · have HK := Lib.hid (show kindT i.op = 84 by unfold kindT; rw [if_neg h1, if_neg h2, if_neg h3])
        have HT := Lib.hid (show takesQ i = takesL i by unfold takesQ; rw [if_neg (by omega)])
        clear h1 h2 h3
        have hm : ∀ (f : Nat) (w : World), (method (f + 1) 84 (.agg #[]) "jacquard/phys.takes").run Try.prog w = .ok (106, .agg #[]) w := fun f w => by kernel_rfl
        go_enter Try.func9, Try.ntmps9
        go_wp2_with fail
        clear hW1
        refine region_heldT_wp (fun w' => w'.cell? ⟨w.heap.size, 0, none⟩ = some (.int .i64 i.op) ∧ w'.cell? ⟨w.heap.size, 1, none⟩ = some (.int .i64 i.d) ∧ w'.cell? ⟨w.heap.size, 2, none⟩ = some (.int .i64 i.e) ∧ w'.cell? ⟨w.heap.size, 3, none⟩ = some (.int .i64 i.a) ∧ w'.cell? ⟨w.heap.size, 4, none⟩ = some (.int .i64 i.b) ∧ w'.cell? ⟨w.heap.size, 5, none⟩ = some (.int .i64 i.c) ∧ w'.cell? ⟨w.heap.size, 6, none⟩ = some (.int .i32 i.imm) ∧ w'.cell? ⟨w.heap.size, 7, none⟩ = some (.slice A n k)) [0, 1, 3] [0, 1, 3, 2, 4, 5] 5 (by kernel_rfl) (by kernel_rfl) (by kernel_rfl) (by kernel_rfl) rfl (by intro c a d v w h; cases d <;> exact h) ⟨m0, m1, m2, m3, m4, m5, m6, m7⟩ ?_
        refine walkH_still _ ?gain0 rfl rfl rfl ?gainy0 ?_
        case gainy0 => intro w hS; go_simp; first | done | with_reducible rfl
        simp only [Act.put]
        refine walkH_still _ ?gain1 rfl rfl rfl ?gainy1 ?_
        case gainy1 => intro w hS; go_simp; first | done | with_reducible rfl
        simp only [Act.put]
        refine walkH_still _ ?gain3 rfl rfl rfl ?gainy3 ?_
        case gainy3 => intro w hS; go_simp; first | done | with_reducible rfl
        simp only [Act.put]
        try simp only [List.setIfInBounds_toArray, List.set_cons_zero, List.set_cons_succ]
        refine walkHd _ rfl rfl ?_
        go_wp2_with fail
        refine (op_any W1.drew i.op).mono ?_
        rintro e w2 ⟨rfl, hw2⟩
        obtain rfl : W1.drew = w2 := hw2.symm
        rw [HK.out]
        go_wp2_with fail
        refine behindH (Or.inl ⟨m0, m1, m2, m3, m4, m5, m6, m7⟩) ?_
        try simp only [List.setIfInBounds_toArray, List.set_cons_zero, List.set_cons_succ]
        refine walkHd _ rfl rfl ?_
        go_wp2_with fail
        refine (plain_takes W1.drew i A n k HV.out hl).mono ?_
        rintro e w3 h3
        obtain ⟨v, rfl, ho, hb⟩ := row_late h3 ((Below.refl _ W1).drew)
        have HO := Lib.hid (own_base ho HB1.out.size)
        have HB := Lib.hid (HB1.out.trans (hb.mono HB1.out.size))
        have n0 : w3.cell? ⟨w.heap.size, 0, none⟩ = some (.int .i64 i.op) := cell_keep hb (Nat.le_refl _) m0
        have n1 : w3.cell? ⟨w.heap.size, 1, none⟩ = some (.int .i64 i.d) := cell_keep hb (Nat.le_refl _) m1
        have n2 : w3.cell? ⟨w.heap.size, 2, none⟩ = some (.int .i64 i.e) := cell_keep hb (Nat.le_refl _) m2
        have n3 : w3.cell? ⟨w.heap.size, 3, none⟩ = some (.int .i64 i.a) := cell_keep hb (Nat.le_refl _) m3
        have n4 : w3.cell? ⟨w.heap.size, 4, none⟩ = some (.int .i64 i.b) := cell_keep hb (Nat.le_refl _) m4
        have n5 : w3.cell? ⟨w.heap.size, 5, none⟩ = some (.int .i64 i.c) := cell_keep hb (Nat.le_refl _) m5
        have n6 : w3.cell? ⟨w.heap.size, 6, none⟩ = some (.int .i32 i.imm) := cell_keep hb (Nat.le_refl _) m6
        have n7 : w3.cell? ⟨w.heap.size, 7, none⟩ = some (.slice A n k) := cell_keep hb (Nat.le_refl _) m7
        clear h3 ho hb
        go_wp2_with fail
        refine behindH (Or.inl ⟨n0, n1, n2, n3, n4, n5, n6, n7⟩) ?_
        try simp only [List.setIfInBounds_toArray, List.set_cons_zero, List.set_cons_succ]
        refine walkHd _ rfl rfl ?_
        go_wp2_with fail
        refine behindH (Or.inr rfl) (walkH_nil ?_)
        go_wp2
        go_ret
        exact ⟨v, rfl, by rw [HT.out]; exact HO.out, HB.out⟩
set_option maxRecDepth 100000 in
set_option maxHeartbeats 4000000 in
theorem makesQ_any (w : World) (i : PMach) (A : Option Addr) (n k : Nat) (hw : InW i.imm) (hv : Ints w (.slice A n k) i.args) (hl : i.args.length ≤ 1000000) : Calls Try.prog 11 #[.agg #[.int .i64 i.op, .int .i64 i.d, .int .i64 i.e, .int .i64 i.a, .int .i64 i.b, .int .i64 i.c, .int .i32 i.imm, .slice A n k]] w (RowPost (makesQ i) w) := by
  obtain ⟨W1, hW1⟩ : ∃ W1, w.alloc (.cells #[.int .i64 i.op, .int .i64 i.d, .int .i64 i.e, .int .i64 i.a, .int .i64 i.b, .int .i64 i.c, .int .i32 i.imm, .slice A n k] 24) = W1 := ⟨_, rfl⟩
  have hb1 : Below w.heap.size w W1 := by rw [← hW1]; exact (Below.refl _ _).alloc (Nat.le_refl _) _
  have hs1 : Str W1 w.heap.size 24 [.int .i64 i.op, .int .i64 i.d, .int .i64 i.e, .int .i64 i.a, .int .i64 i.b, .int .i64 i.c, .int .i32 i.imm, .slice A n k] := by rw [← hW1]; exact World.alloc_heap_new w _
  have HB1 := Lib.hid hb1
  have HS1 := Lib.hid hs1
  have m0 : W1.cell? ⟨w.heap.size, 0, none⟩ = some (.int .i64 i.op) := hs1.cell 0
  have m1 : W1.cell? ⟨w.heap.size, 1, none⟩ = some (.int .i64 i.d) := hs1.cell 1
  have m2 : W1.cell? ⟨w.heap.size, 2, none⟩ = some (.int .i64 i.e) := hs1.cell 2
  have m3 : W1.cell? ⟨w.heap.size, 3, none⟩ = some (.int .i64 i.a) := hs1.cell 3
  have m4 : W1.cell? ⟨w.heap.size, 4, none⟩ = some (.int .i64 i.b) := hs1.cell 4
  have m5 : W1.cell? ⟨w.heap.size, 5, none⟩ = some (.int .i64 i.c) := hs1.cell 5
  have m6 : W1.cell? ⟨w.heap.size, 6, none⟩ = some (.int .i32 i.imm) := hs1.cell 6
  have m7 : W1.cell? ⟨w.heap.size, 7, none⟩ = some (.slice A n k) := hs1.cell 7
  clear hb1 hs1
  have HV := Lib.hid (ints_low hv HB1.out)
  clear hv
  by_cases h1 : i.op = 28
  · have HK := Lib.hid (show kindT i.op = 86 by unfold kindT; rw [if_pos h1])
    have HT := Lib.hid (show makesQ i = makesL i by unfold makesQ; rw [if_neg (by omega)])
    clear h1
    have hm : ∀ (f : Nat) (w : World), (method (f + 1) 86 (.agg #[]) "jacquard/phys.makes").run Try.prog w = .ok (104, .agg #[]) w := fun f w => by kernel_rfl
    go_enter Try.func11, Try.ntmps11
    go_wp2_with fail
    clear hW1
    refine region_heldT_wp (fun w' => w'.cell? ⟨w.heap.size, 0, none⟩ = some (.int .i64 i.op) ∧ w'.cell? ⟨w.heap.size, 1, none⟩ = some (.int .i64 i.d) ∧ w'.cell? ⟨w.heap.size, 2, none⟩ = some (.int .i64 i.e) ∧ w'.cell? ⟨w.heap.size, 3, none⟩ = some (.int .i64 i.a) ∧ w'.cell? ⟨w.heap.size, 4, none⟩ = some (.int .i64 i.b) ∧ w'.cell? ⟨w.heap.size, 5, none⟩ = some (.int .i64 i.c) ∧ w'.cell? ⟨w.heap.size, 6, none⟩ = some (.int .i32 i.imm) ∧ w'.cell? ⟨w.heap.size, 7, none⟩ = some (.slice A n k)) [0, 1, 3] [0, 1, 3, 2, 4, 5] 5 (by kernel_rfl) (by kernel_rfl) (by kernel_rfl) (by kernel_rfl) rfl (by intro c a d v w h; cases d <;> exact h) ⟨m0, m1, m2, m3, m4, m5, m6, m7⟩ ?_
    refine walkH_still _ ?gall0 rfl rfl rfl ?gally0 ?_
    case gally0 => intro w hS; go_simp; first | done | with_reducible rfl
    simp only [Act.put]
    refine walkH_still _ ?gall1 rfl rfl rfl ?gally1 ?_
    case gally1 => intro w hS; go_simp; first | done | with_reducible rfl
    simp only [Act.put]
    refine walkH_still _ ?gall3 rfl rfl rfl ?gally3 ?_
    case gally3 => intro w hS; go_simp; first | done | with_reducible rfl
    simp only [Act.put]
    try simp only [List.setIfInBounds_toArray, List.set_cons_zero, List.set_cons_succ]
    refine walkHd _ rfl rfl ?_
    go_wp2_with fail
    refine (op_any W1.drew i.op).mono ?_
    rintro e w2 ⟨rfl, hw2⟩
    obtain rfl : W1.drew = w2 := hw2.symm
    rw [HK.out]
    go_wp2_with fail
    refine behindH (Or.inl ⟨m0, m1, m2, m3, m4, m5, m6, m7⟩) ?_
    try simp only [List.setIfInBounds_toArray, List.set_cons_zero, List.set_cons_succ]
    refine walkHd _ rfl rfl ?_
    go_wp2_with fail
    refine (plain_makes W1.drew i A n k).mono ?_
    rintro e w3 h3
    obtain ⟨v, rfl, ho, hb⟩ := row_late h3 ((Below.refl _ W1).drew)
    have HO := Lib.hid (own_base ho HB1.out.size)
    have HB := Lib.hid (HB1.out.trans (hb.mono HB1.out.size))
    have n0 : w3.cell? ⟨w.heap.size, 0, none⟩ = some (.int .i64 i.op) := cell_keep hb (Nat.le_refl _) m0
    have n1 : w3.cell? ⟨w.heap.size, 1, none⟩ = some (.int .i64 i.d) := cell_keep hb (Nat.le_refl _) m1
    have n2 : w3.cell? ⟨w.heap.size, 2, none⟩ = some (.int .i64 i.e) := cell_keep hb (Nat.le_refl _) m2
    have n3 : w3.cell? ⟨w.heap.size, 3, none⟩ = some (.int .i64 i.a) := cell_keep hb (Nat.le_refl _) m3
    have n4 : w3.cell? ⟨w.heap.size, 4, none⟩ = some (.int .i64 i.b) := cell_keep hb (Nat.le_refl _) m4
    have n5 : w3.cell? ⟨w.heap.size, 5, none⟩ = some (.int .i64 i.c) := cell_keep hb (Nat.le_refl _) m5
    have n6 : w3.cell? ⟨w.heap.size, 6, none⟩ = some (.int .i32 i.imm) := cell_keep hb (Nat.le_refl _) m6
    have n7 : w3.cell? ⟨w.heap.size, 7, none⟩ = some (.slice A n k) := cell_keep hb (Nat.le_refl _) m7
    clear h3 ho hb
    go_wp2_with fail
    refine behindH (Or.inl ⟨n0, n1, n2, n3, n4, n5, n6, n7⟩) ?_
    try simp only [List.setIfInBounds_toArray, List.set_cons_zero, List.set_cons_succ]
    refine walkHd _ rfl rfl ?_
    go_wp2_with fail
    refine behindH (Or.inr rfl) (walkH_nil ?_)
    go_wp2
    go_ret
    exact ⟨v, rfl, by rw [HT.out]; exact HO.out, HB.out⟩
  · by_cases h2 : i.op = 30
    · have HK := Lib.hid (show kindT i.op = 87 by unfold kindT; rw [if_neg h1, if_pos h2])
      have HT := Lib.hid (show makesQ i = makesL i by unfold makesQ; rw [if_neg (by omega)])
      clear h1 h2
      have hm : ∀ (f : Nat) (w : World), (method (f + 1) 87 (.agg #[]) "jacquard/phys.makes").run Try.prog w = .ok (104, .agg #[]) w := fun f w => by kernel_rfl
      go_enter Try.func11, Try.ntmps11
      go_wp2_with fail
      clear hW1
      refine region_heldT_wp (fun w' => w'.cell? ⟨w.heap.size, 0, none⟩ = some (.int .i64 i.op) ∧ w'.cell? ⟨w.heap.size, 1, none⟩ = some (.int .i64 i.d) ∧ w'.cell? ⟨w.heap.size, 2, none⟩ = some (.int .i64 i.e) ∧ w'.cell? ⟨w.heap.size, 3, none⟩ = some (.int .i64 i.a) ∧ w'.cell? ⟨w.heap.size, 4, none⟩ = some (.int .i64 i.b) ∧ w'.cell? ⟨w.heap.size, 5, none⟩ = some (.int .i64 i.c) ∧ w'.cell? ⟨w.heap.size, 6, none⟩ = some (.int .i32 i.imm) ∧ w'.cell? ⟨w.heap.size, 7, none⟩ = some (.slice A n k)) [0, 1, 3] [0, 1, 3, 2, 4, 5] 5 (by kernel_rfl) (by kernel_rfl) (by kernel_rfl) (by kernel_rfl) rfl (by intro c a d v w h; cases d <;> exact h) ⟨m0, m1, m2, m3, m4, m5, m6, m7⟩ ?_
      refine walkH_still _ ?goad0 rfl rfl rfl ?goady0 ?_
      case goady0 => intro w hS; go_simp; first | done | with_reducible rfl
      simp only [Act.put]
      refine walkH_still _ ?goad1 rfl rfl rfl ?goady1 ?_
      case goady1 => intro w hS; go_simp; first | done | with_reducible rfl
      simp only [Act.put]
      refine walkH_still _ ?goad3 rfl rfl rfl ?goady3 ?_
      case goady3 => intro w hS; go_simp; first | done | with_reducible rfl
      simp only [Act.put]
      try simp only [List.setIfInBounds_toArray, List.set_cons_zero, List.set_cons_succ]
      refine walkHd _ rfl rfl ?_
      go_wp2_with fail
      refine (op_any W1.drew i.op).mono ?_
      rintro e w2 ⟨rfl, hw2⟩
      obtain rfl : W1.drew = w2 := hw2.symm
      rw [HK.out]
      go_wp2_with fail
      refine behindH (Or.inl ⟨m0, m1, m2, m3, m4, m5, m6, m7⟩) ?_
      try simp only [List.setIfInBounds_toArray, List.set_cons_zero, List.set_cons_succ]
      refine walkHd _ rfl rfl ?_
      go_wp2_with fail
      refine (plain_makes W1.drew i A n k).mono ?_
      rintro e w3 h3
      obtain ⟨v, rfl, ho, hb⟩ := row_late h3 ((Below.refl _ W1).drew)
      have HO := Lib.hid (own_base ho HB1.out.size)
      have HB := Lib.hid (HB1.out.trans (hb.mono HB1.out.size))
      have n0 : w3.cell? ⟨w.heap.size, 0, none⟩ = some (.int .i64 i.op) := cell_keep hb (Nat.le_refl _) m0
      have n1 : w3.cell? ⟨w.heap.size, 1, none⟩ = some (.int .i64 i.d) := cell_keep hb (Nat.le_refl _) m1
      have n2 : w3.cell? ⟨w.heap.size, 2, none⟩ = some (.int .i64 i.e) := cell_keep hb (Nat.le_refl _) m2
      have n3 : w3.cell? ⟨w.heap.size, 3, none⟩ = some (.int .i64 i.a) := cell_keep hb (Nat.le_refl _) m3
      have n4 : w3.cell? ⟨w.heap.size, 4, none⟩ = some (.int .i64 i.b) := cell_keep hb (Nat.le_refl _) m4
      have n5 : w3.cell? ⟨w.heap.size, 5, none⟩ = some (.int .i64 i.c) := cell_keep hb (Nat.le_refl _) m5
      have n6 : w3.cell? ⟨w.heap.size, 6, none⟩ = some (.int .i32 i.imm) := cell_keep hb (Nat.le_refl _) m6
      have n7 : w3.cell? ⟨w.heap.size, 7, none⟩ = some (.slice A n k) := cell_keep hb (Nat.le_refl _) m7
      clear h3 ho hb
      go_wp2_with fail
      refine behindH (Or.inl ⟨n0, n1, n2, n3, n4, n5, n6, n7⟩) ?_
      try simp only [List.setIfInBounds_toArray, List.set_cons_zero, List.set_cons_succ]
      refine walkHd _ rfl rfl ?_
      go_wp2_with fail
      refine behindH (Or.inr rfl) (walkH_nil ?_)
      go_wp2
      go_ret
      exact ⟨v, rfl, by rw [HT.out]; exact HO.out, HB.out⟩
    · by_cases h3 : i.op = 31
      · have HK := Lib.hid (show kindT i.op = 88 by unfold kindT; rw [if_neg h1, if_neg h2, if_pos h3])
        have HT := Lib.hid (show makesQ i = [16 + i.imm] by unfold makesQ; rw [if_pos h3])
        clear h1 h2 h3
        have hm : ∀ (f : Nat) (w : World), (method (f + 1) 88 (.agg #[]) "jacquard/phys.makes").run Try.prog w = .ok (116, .agg #[]) w := fun f w => by kernel_rfl
        go_enter Try.func11, Try.ntmps11
        go_wp2_with fail
        clear hW1
        refine region_heldT_wp (fun w' => w'.cell? ⟨w.heap.size, 0, none⟩ = some (.int .i64 i.op) ∧ w'.cell? ⟨w.heap.size, 1, none⟩ = some (.int .i64 i.d) ∧ w'.cell? ⟨w.heap.size, 2, none⟩ = some (.int .i64 i.e) ∧ w'.cell? ⟨w.heap.size, 3, none⟩ = some (.int .i64 i.a) ∧ w'.cell? ⟨w.heap.size, 4, none⟩ = some (.int .i64 i.b) ∧ w'.cell? ⟨w.heap.size, 5, none⟩ = some (.int .i64 i.c) ∧ w'.cell? ⟨w.heap.size, 6, none⟩ = some (.int .i32 i.imm) ∧ w'.cell? ⟨w.heap.size, 7, none⟩ = some (.slice A n k)) [0, 1, 3] [0, 1, 3, 2, 4, 5] 5 (by kernel_rfl) (by kernel_rfl) (by kernel_rfl) (by kernel_rfl) rfl (by intro c a d v w h; cases d <;> exact h) ⟨m0, m1, m2, m3, m4, m5, m6, m7⟩ ?_
        refine walkH_still _ ?gore0 rfl rfl rfl ?gorey0 ?_
        case gorey0 => intro w hS; go_simp; first | done | with_reducible rfl
        simp only [Act.put]
        refine walkH_still _ ?gore1 rfl rfl rfl ?gorey1 ?_
        case gorey1 => intro w hS; go_simp; first | done | with_reducible rfl
        simp only [Act.put]
        refine walkH_still _ ?gore3 rfl rfl rfl ?gorey3 ?_
        case gorey3 => intro w hS; go_simp; first | done | with_reducible rfl
        simp only [Act.put]
        try simp only [List.setIfInBounds_toArray, List.set_cons_zero, List.set_cons_succ]
        refine walkHd _ rfl rfl ?_
        go_wp2_with fail
        refine (op_any W1.drew i.op).mono ?_
        rintro e w2 ⟨rfl, hw2⟩
        obtain rfl : W1.drew = w2 := hw2.symm
        rw [HK.out]
        go_wp2_with fail
        refine behindH (Or.inl ⟨m0, m1, m2, m3, m4, m5, m6, m7⟩) ?_
        try simp only [List.setIfInBounds_toArray, List.set_cons_zero, List.set_cons_succ]
        refine walkHd _ rfl rfl ?_
        go_wp2_with fail
        refine (slot_makes W1.drew i A n k hw).mono ?_
        rintro e w3 h3
        obtain ⟨v, rfl, ho, hb⟩ := row_late h3 ((Below.refl _ W1).drew)
        have HO := Lib.hid (own_base ho HB1.out.size)
        have HB := Lib.hid (HB1.out.trans (hb.mono HB1.out.size))
        have n0 : w3.cell? ⟨w.heap.size, 0, none⟩ = some (.int .i64 i.op) := cell_keep hb (Nat.le_refl _) m0
        have n1 : w3.cell? ⟨w.heap.size, 1, none⟩ = some (.int .i64 i.d) := cell_keep hb (Nat.le_refl _) m1
        have n2 : w3.cell? ⟨w.heap.size, 2, none⟩ = some (.int .i64 i.e) := cell_keep hb (Nat.le_refl _) m2
        have n3 : w3.cell? ⟨w.heap.size, 3, none⟩ = some (.int .i64 i.a) := cell_keep hb (Nat.le_refl _) m3
        have n4 : w3.cell? ⟨w.heap.size, 4, none⟩ = some (.int .i64 i.b) := cell_keep hb (Nat.le_refl _) m4
        have n5 : w3.cell? ⟨w.heap.size, 5, none⟩ = some (.int .i64 i.c) := cell_keep hb (Nat.le_refl _) m5
        have n6 : w3.cell? ⟨w.heap.size, 6, none⟩ = some (.int .i32 i.imm) := cell_keep hb (Nat.le_refl _) m6
        have n7 : w3.cell? ⟨w.heap.size, 7, none⟩ = some (.slice A n k) := cell_keep hb (Nat.le_refl _) m7
        clear h3 ho hb
        go_wp2_with fail
        refine behindH (Or.inl ⟨n0, n1, n2, n3, n4, n5, n6, n7⟩) ?_
        try simp only [List.setIfInBounds_toArray, List.set_cons_zero, List.set_cons_succ]
        refine walkHd _ rfl rfl ?_
        go_wp2_with fail
        refine behindH (Or.inr rfl) (walkH_nil ?_)
        go_wp2
        go_ret
        exact ⟨v, rfl, by rw [HT.out]; exact HO.out, HB.out⟩
      · have HK := Lib.hid (show kindT i.op = 84 by unfold kindT; rw [if_neg h1, if_neg h2, if_neg h3])
        have HT := Lib.hid (show makesQ i = makesL i by unfold makesQ; rw [if_neg (by omega)])
        clear h1 h2 h3
        have hm : ∀ (f : Nat) (w : World), (method (f + 1) 84 (.agg #[]) "jacquard/phys.makes").run Try.prog w = .ok (104, .agg #[]) w := fun f w => by kernel_rfl
        go_enter Try.func11, Try.ntmps11
        go_wp2_with fail
        clear hW1
        refine region_heldT_wp (fun w' => w'.cell? ⟨w.heap.size, 0, none⟩ = some (.int .i64 i.op) ∧ w'.cell? ⟨w.heap.size, 1, none⟩ = some (.int .i64 i.d) ∧ w'.cell? ⟨w.heap.size, 2, none⟩ = some (.int .i64 i.e) ∧ w'.cell? ⟨w.heap.size, 3, none⟩ = some (.int .i64 i.a) ∧ w'.cell? ⟨w.heap.size, 4, none⟩ = some (.int .i64 i.b) ∧ w'.cell? ⟨w.heap.size, 5, none⟩ = some (.int .i64 i.c) ∧ w'.cell? ⟨w.heap.size, 6, none⟩ = some (.int .i32 i.imm) ∧ w'.cell? ⟨w.heap.size, 7, none⟩ = some (.slice A n k)) [0, 1, 3] [0, 1, 3, 2, 4, 5] 5 (by kernel_rfl) (by kernel_rfl) (by kernel_rfl) (by kernel_rfl) rfl (by intro c a d v w h; cases d <;> exact h) ⟨m0, m1, m2, m3, m4, m5, m6, m7⟩ ?_
        refine walkH_still _ ?gain0 rfl rfl rfl ?gainy0 ?_
        case gainy0 => intro w hS; go_simp; first | done | with_reducible rfl
        simp only [Act.put]
        refine walkH_still _ ?gain1 rfl rfl rfl ?gainy1 ?_
        case gainy1 => intro w hS; go_simp; first | done | with_reducible rfl
        simp only [Act.put]
        refine walkH_still _ ?gain3 rfl rfl rfl ?gainy3 ?_
        case gainy3 => intro w hS; go_simp; first | done | with_reducible rfl
        simp only [Act.put]
        try simp only [List.setIfInBounds_toArray, List.set_cons_zero, List.set_cons_succ]
        refine walkHd _ rfl rfl ?_
        go_wp2_with fail
        refine (op_any W1.drew i.op).mono ?_
        rintro e w2 ⟨rfl, hw2⟩
        obtain rfl : W1.drew = w2 := hw2.symm
        rw [HK.out]
        go_wp2_with fail
        refine behindH (Or.inl ⟨m0, m1, m2, m3, m4, m5, m6, m7⟩) ?_
        try simp only [List.setIfInBounds_toArray, List.set_cons_zero, List.set_cons_succ]
        refine walkHd _ rfl rfl ?_
        go_wp2_with fail
        refine (plain_makes W1.drew i A n k).mono ?_
        rintro e w3 h3
        obtain ⟨v, rfl, ho, hb⟩ := row_late h3 ((Below.refl _ W1).drew)
        have HO := Lib.hid (own_base ho HB1.out.size)
        have HB := Lib.hid (HB1.out.trans (hb.mono HB1.out.size))
        have n0 : w3.cell? ⟨w.heap.size, 0, none⟩ = some (.int .i64 i.op) := cell_keep hb (Nat.le_refl _) m0
        have n1 : w3.cell? ⟨w.heap.size, 1, none⟩ = some (.int .i64 i.d) := cell_keep hb (Nat.le_refl _) m1
        have n2 : w3.cell? ⟨w.heap.size, 2, none⟩ = some (.int .i64 i.e) := cell_keep hb (Nat.le_refl _) m2
        have n3 : w3.cell? ⟨w.heap.size, 3, none⟩ = some (.int .i64 i.a) := cell_keep hb (Nat.le_refl _) m3
        have n4 : w3.cell? ⟨w.heap.size, 4, none⟩ = some (.int .i64 i.b) := cell_keep hb (Nat.le_refl _) m4
        have n5 : w3.cell? ⟨w.heap.size, 5, none⟩ = some (.int .i64 i.c) := cell_keep hb (Nat.le_refl _) m5
        have n6 : w3.cell? ⟨w.heap.size, 6, none⟩ = some (.int .i32 i.imm) := cell_keep hb (Nat.le_refl _) m6
        have n7 : w3.cell? ⟨w.heap.size, 7, none⟩ = some (.slice A n k) := cell_keep hb (Nat.le_refl _) m7
        clear h3 ho hb
        go_wp2_with fail
        refine behindH (Or.inl ⟨n0, n1, n2, n3, n4, n5, n6, n7⟩) ?_
        try simp only [List.setIfInBounds_toArray, List.set_cons_zero, List.set_cons_succ]
        refine walkHd _ rfl rfl ?_
        go_wp2_with fail
        refine behindH (Or.inr rfl) (walkH_nil ?_)
        go_wp2
        go_ret
        exact ⟨v, rfl, by rw [HT.out]; exact HO.out, HB.out⟩
theorem none_own (B : Nat) (w : World) : OwnInts B w (.slice none 0 0) [] := World.ownsRow_nil _ _ _ _
theorem plain_spoils (w : World) : Calls Try.prog 105 #[.agg #[]] w (RowPost [] w) := by
  go_enter Try.func105, Try.ntmps105
  go_wp2
  go_ret
  exact ⟨_, rfl, none_own _ _, (Below.refl _ _).alloc (Nat.le_refl _) _⟩
theorem call_spoils (w : World) : Calls Try.prog 110 #[.agg #[]] w (RowPost [1, 2, 3] w) := by
  obtain ⟨W0, hW0⟩ : ∃ W0, w.alloc (.cells #[] 86) = W0 := ⟨_, rfl⟩
  have hb0 : Below w.heap.size w W0 := by rw [← hW0]; exact (Below.refl _ _).alloc (Nat.le_refl _) _
  obtain ⟨W1, hW1⟩ : ∃ W1, W0.alloc (.cells #[.int .i64 1, .int .i64 2, .int .i64 3] 3) = W1 := ⟨_, rfl⟩
  have hb1 : Below W0.heap.size W0 W1 := by rw [← hW1]; exact (Below.refl _ _).alloc (Nat.le_refl _) _
  have HO := Lib.hid (show OwnInts w.heap.size W1 (.slice (some ⟨W0.heap.size, 0, none⟩) 3 3) [1, 2, 3] by
    rw [← hW1]
    exact World.ownsRow_lit (size := 1) (e := 3) (base := w.heap.size) W0 #[.int .i64 1, .int .i64 2, .int .i64 3] 3 hb0.size (by unfold maxLen; omega) (by simp))
  have HB := Lib.hid (hb0.trans (hb1.mono hb0.size))
  clear hb0 hb1
  go_enter Try.func110, Try.ntmps110
  go_wp2
  go_ret
  exact ⟨_, rfl, HO.out, HB.out⟩
set_option maxRecDepth 100000 in
set_option maxHeartbeats 4000000 in
theorem spoilsQ_any (w : World) (i : PMach) (A : Option Addr) (n k : Nat) : Calls Try.prog 13 #[.agg #[.int .i64 i.op, .int .i64 i.d, .int .i64 i.e, .int .i64 i.a, .int .i64 i.b, .int .i64 i.c, .int .i32 i.imm, .slice A n k]] w (RowPost (spoilsQ i) w) := by
  obtain ⟨W1, hW1⟩ : ∃ W1, w.alloc (.cells #[.int .i64 i.op, .int .i64 i.d, .int .i64 i.e, .int .i64 i.a, .int .i64 i.b, .int .i64 i.c, .int .i32 i.imm, .slice A n k] 24) = W1 := ⟨_, rfl⟩
  have hb1 : Below w.heap.size w W1 := by rw [← hW1]; exact (Below.refl _ _).alloc (Nat.le_refl _) _
  have hs1 : Str W1 w.heap.size 24 [.int .i64 i.op, .int .i64 i.d, .int .i64 i.e, .int .i64 i.a, .int .i64 i.b, .int .i64 i.c, .int .i32 i.imm, .slice A n k] := by rw [← hW1]; exact World.alloc_heap_new w _
  have HB1 := Lib.hid hb1
  have HS1 := Lib.hid hs1
  have m0 : W1.cell? ⟨w.heap.size, 0, none⟩ = some (.int .i64 i.op) := hs1.cell 0
  have m1 : W1.cell? ⟨w.heap.size, 1, none⟩ = some (.int .i64 i.d) := hs1.cell 1
  have m2 : W1.cell? ⟨w.heap.size, 2, none⟩ = some (.int .i64 i.e) := hs1.cell 2
  have m3 : W1.cell? ⟨w.heap.size, 3, none⟩ = some (.int .i64 i.a) := hs1.cell 3
  have m4 : W1.cell? ⟨w.heap.size, 4, none⟩ = some (.int .i64 i.b) := hs1.cell 4
  have m5 : W1.cell? ⟨w.heap.size, 5, none⟩ = some (.int .i64 i.c) := hs1.cell 5
  have m6 : W1.cell? ⟨w.heap.size, 6, none⟩ = some (.int .i32 i.imm) := hs1.cell 6
  have m7 : W1.cell? ⟨w.heap.size, 7, none⟩ = some (.slice A n k) := hs1.cell 7
  clear hb1 hs1
  by_cases h1 : i.op = 28
  · have HK := Lib.hid (show kindT i.op = 86 by unfold kindT; rw [if_pos h1])
    have HT := Lib.hid (show spoilsQ i = [1, 2, 3] by unfold spoilsQ; rw [if_pos h1])
    clear h1
    have hm : ∀ (f : Nat) (w : World), (method (f + 1) 86 (.agg #[]) "jacquard/phys.spoils").run Try.prog w = .ok (110, .agg #[]) w := fun f w => by kernel_rfl
    go_enter Try.func13, Try.ntmps13
    go_wp2_with fail
    clear hW1
    refine (op_any W1 i.op).mono ?_
    rintro e w2 ⟨rfl, hw2⟩
    obtain rfl : W1 = w2 := hw2.symm
    rw [HK.out]
    go_wp2_with fail
    refine (call_spoils W1).mono ?_
    rintro e w3 h3
    obtain ⟨v, rfl, ho, hb⟩ := row_late h3 HB1.out
    have HO := Lib.hid ho
    have HB := Lib.hid hb
    clear h3 ho hb
    go_wp2
    go_ret
    exact ⟨v, rfl, by rw [HT.out]; exact HO.out, HB.out⟩
  · have HT := Lib.hid (show spoilsQ i = [] by unfold spoilsQ; rw [if_neg h1])
    by_cases h2 : i.op = 30
    · have HK := Lib.hid (show kindT i.op = 87 by unfold kindT; rw [if_neg h1, if_pos h2])
      clear h1 h2
      have hm : ∀ (f : Nat) (w : World), (method (f + 1) 87 (.agg #[]) "jacquard/phys.spoils").run Try.prog w = .ok (105, .agg #[]) w := fun f w => by kernel_rfl
      go_enter Try.func13, Try.ntmps13
      go_wp2_with fail
      clear hW1
      refine (op_any W1 i.op).mono ?_
      rintro e w2 ⟨rfl, hw2⟩
      obtain rfl : W1 = w2 := hw2.symm
      rw [HK.out]
      go_wp2_with fail
      refine (plain_spoils W1).mono ?_
      rintro e w3 h3
      obtain ⟨v, rfl, ho, hb⟩ := row_late h3 HB1.out
      have HO := Lib.hid ho
      have HB := Lib.hid hb
      clear h3 ho hb
      go_wp2
      go_ret
      exact ⟨v, rfl, by rw [HT.out]; exact HO.out, HB.out⟩
    · by_cases h3 : i.op = 31
      · have HK := Lib.hid (show kindT i.op = 88 by unfold kindT; rw [if_neg h1, if_neg h2, if_pos h3])
        clear h1 h2 h3
        have hm : ∀ (f : Nat) (w : World), (method (f + 1) 88 (.agg #[]) "jacquard/phys.spoils").run Try.prog w = .ok (105, .agg #[]) w := fun f w => by kernel_rfl
        go_enter Try.func13, Try.ntmps13
        go_wp2_with fail
        clear hW1
        refine (op_any W1 i.op).mono ?_
        rintro e w2 ⟨rfl, hw2⟩
        obtain rfl : W1 = w2 := hw2.symm
        rw [HK.out]
        go_wp2_with fail
        refine (plain_spoils W1).mono ?_
        rintro e w3 h3
        obtain ⟨v, rfl, ho, hb⟩ := row_late h3 HB1.out
        have HO := Lib.hid ho
        have HB := Lib.hid hb
        clear h3 ho hb
        go_wp2
        go_ret
        exact ⟨v, rfl, by rw [HT.out]; exact HO.out, HB.out⟩
      · have HK := Lib.hid (show kindT i.op = 84 by unfold kindT; rw [if_neg h1, if_neg h2, if_neg h3])
        clear h1 h2 h3
        have hm : ∀ (f : Nat) (w : World), (method (f + 1) 84 (.agg #[]) "jacquard/phys.spoils").run Try.prog w = .ok (105, .agg #[]) w := fun f w => by kernel_rfl
        go_enter Try.func13, Try.ntmps13
        go_wp2_with fail
        clear hW1
        refine (op_any W1 i.op).mono ?_
        rintro e w2 ⟨rfl, hw2⟩
        obtain rfl : W1 = w2 := hw2.symm
        rw [HK.out]
        go_wp2_with fail
        refine (plain_spoils W1).mono ?_
        rintro e w3 h3
        obtain ⟨v, rfl, ho, hb⟩ := row_late h3 HB1.out
        have HO := Lib.hid ho
        have HB := Lib.hid hb
        clear h3 ho hb
        go_wp2
        go_ret
        exact ⟨v, rfl, by rw [HT.out]; exact HO.out, HB.out⟩
set_option maxRecDepth 100000 in
set_option maxHeartbeats 1000000 in
theorem needsQ_any (w : World) (e : PEnd) (A : Option Addr) (n k : Nat) : Calls Try.prog 15 #[.agg #[.int .i64 e.op, .int .i64 e.a, .int .i64 e.b, .slice A n k, .int .i32 e.imm]] w (RowPost (needsL e) w) := by
  obtain ⟨W1, hW1⟩ : ∃ W1, w.alloc (.cells #[.int .i64 e.op, .int .i64 e.a, .int .i64 e.b, .slice A n k, .int .i32 e.imm] 26) = W1 := ⟨_, rfl⟩
  have hb1 : Below w.heap.size w W1 := by rw [← hW1]; exact (Below.refl _ _).alloc (Nat.le_refl _) _
  have hs1 : Str W1 w.heap.size 26 [.int .i64 e.op, .int .i64 e.a, .int .i64 e.b, .slice A n k, .int .i32 e.imm] := by rw [← hW1]; exact World.alloc_heap_new w _
  have HB1 := Lib.hid hb1
  have m0 : W1.cell? ⟨w.heap.size, 0, none⟩ = some (.int .i64 e.op) := hs1.cell 0
  have m1 : W1.cell? ⟨w.heap.size, 1, none⟩ = some (.int .i64 e.a) := hs1.cell 1
  have m2 : W1.cell? ⟨w.heap.size, 2, none⟩ = some (.int .i64 e.b) := hs1.cell 2
  have m3 : W1.cell? ⟨w.heap.size, 3, none⟩ = some (.slice A n k) := hs1.cell 3
  have m4 : W1.cell? ⟨w.heap.size, 4, none⟩ = some (.int .i32 e.imm) := hs1.cell 4
  clear hb1 hs1
  go_enter Try.func15, Try.ntmps15
  go_wp2_with fail
  clear hW1
  refine (needs_any W1 e A n k).mono ?_
  rintro e w2 h2
  obtain ⟨v, rfl, ho, hb⟩ := row_late h2 HB1.out
  have HO := Lib.hid ho
  have HB := Lib.hid hb
  clear h2 ho hb
  go_wp2
  go_ret
  exact ⟨v, rfl, HO.out, HB.out⟩
end Go.Proofs.Ytdidacjmcafcpaa.Ph
