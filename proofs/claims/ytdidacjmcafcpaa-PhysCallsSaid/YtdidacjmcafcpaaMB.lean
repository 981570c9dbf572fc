/- Stage 7: what mach's Takes, Makes, Needs and Goes answer; rows of registers. -/
import Derived.Test.YtdidacjmcafcpaaMA
import Derived.Test.YtdidacjmcafcpaaMW
import Derived.Deep.Cut
import Derived.Deep.DeepCutAuto
namespace Go.Proofs.Ytdidacjmcafcpaa.Mc
open Go.ChangeShapes Go.WideShapes Go.ChangeAt Go.RowKit Go.Proofs.Ytdidacjmcafcpaa.Mem Go.Proofs.Ytdidacjmcafcpaa.Kc Go.Proofs.Ytdidacjmcafcpaa.Pl Go.Proofs.Ytdidacjmcafcpaa.Mw
set_option linter.unusedVariables false
set_option linter.unusedSimpArgs false
theorem ite_le {p : Prop} [Decidable p] {a b c : Nat} (h1 : a ≤ c) (h2 : b ≤ c) : (if p then a else b) ≤ c := by
  split
  · exact h1
  · exact h2
theorem takesN_le (op : Int) : takesN op ≤ 3 := by
  unfold takesN
  repeat (refine ite_le (by decide) ?_)
  exact by decide
theorem makesN_le (op : Int) : makesN op ≤ 2 := by
  unfold makesN
  repeat (refine ite_le (by decide) ?_)
  exact by decide
set_option maxRecDepth 100000 in
theorem run_cut3 (w : World) (g n : Nat) (hn : n ≤ 3) : (Instr.sliceAt 27 (.pointer (some ⟨g, 0, none⟩)) none (some (.int .i64 n)) none).run Try.prog w = .ok (.slice (some ⟨g, 0, none⟩) n 3) w := by
  have h : n = 0 ∨ n = 1 ∨ n = 2 ∨ n = 3 := by omega
  have ha : Try.prog.arrayLen 27 = 3 := by kernel_rfl
  have hr := run_sliceAt_array_h (P := Try.prog) w 27 ⟨g, 0, none⟩ Try.underlying27 .i64 (n : Int) (by omega) (by rw [ha]; omega)
  rw [hr, ha]
  rcases h with rfl | rfl | rfl | rfl <;> rfl
set_option maxRecDepth 100000 in
theorem run_cut2 (w : World) (g n : Nat) (hn : n ≤ 2) : (Instr.sliceAt 90 (.pointer (some ⟨g, 0, none⟩)) none (some (.int .i64 n)) none).run Try.prog w = .ok (.slice (some ⟨g, 0, none⟩) n 2) w := by
  have h : n = 0 ∨ n = 1 ∨ n = 2 := by omega
  have ha : Try.prog.arrayLen 90 = 2 := by kernel_rfl
  have hr := run_sliceAt_array_h (P := Try.prog) w 90 ⟨g, 0, none⟩ Try.underlying90 .i64 (n : Int) (by omega) (by rw [ha]; omega)
  rw [hr, ha]
  rcases h with rfl | rfl | rfl <;> rfl
theorem ints_box {w : World} {g n c : Nat} {t : TypeId} {l : List Int} (h : Str w g t (l.map (Value.int .i64))) (hn : n ≤ l.length) (hc : n ≤ c) (hm : c ≤ 100) : Ints w (.slice (some ⟨g, 0, none⟩) n c) (l.take n) := by
  have hl : (l.take n).length = n := by rw [List.length_take]; omega
  refine ⟨some ⟨g, 0, none⟩, c, by rw [hl], by omega, by unfold maxLen; omega, fun k hk => ⟨_, rfl, ?_⟩⟩
  rw [at_add0, h.cell k, List.getElem?_map, List.getElem?_eq_getElem (by omega), List.getElem_take]; rfl
theorem fld_takes (x y : Int) (f : Value) (w : World) : (Instr.field 96 (.agg #[.int .i64 x, .int .i64 y, f]) 1).run Try.prog w = .ok (.int .i64 y) w := by kernel_rfl
theorem fld_makes (x y : Int) (f : Value) (w : World) : (Instr.field 96 (.agg #[.int .i64 x, .int .i64 y, f]) 0).run Try.prog w = .ok (.int .i64 x) w := by kernel_rfl
/-- A row of numbers of the call's own. -/
def RowPost (l : List Int) (w : World) (e : Ending) (w' : World) : Prop := ∃ v, e = .returned v ∧ OwnInts w.heap.size w' v l ∧ Below w.heap.size w w'
set_option maxRecDepth 100000 in
set_option maxHeartbeats 4000000 in
theorem takes_any (w : World) (i : PMach) (A : Option Addr) (n k : Nat) (hv : Ints w (.slice A n k) i.args) (hl : i.args.length ≤ 1000000) :
    Calls Try.prog 36 #[.agg #[.int .i64 i.op, .int .i64 i.d, .int .i64 i.e, .int .i64 i.a, .int .i64 i.b, .int .i64 i.c, .int .i32 i.imm, .slice A n k]] w (RowPost (takesL i) w) := by
  have HV := Lib.hid hv
  clear hv
  by_cases h : i.op = 28
  · have e1 : (i.op == 28) = true := beq_iff_eq.2 h
    have HT := Lib.hid (show takesL i = i.args from if_pos h)
    clear h
    go_enter Try.func36, Try.ntmps36
    go_upto_region 1 with (fail)
    obtain ⟨W1, hW1⟩ : ∃ W1, w.alloc (.cells #[.int .i64 i.op, .int .i64 i.d, .int .i64 i.e, .int .i64 i.a, .int .i64 i.b, .int .i64 i.c, .int .i32 i.imm, .slice A n k] 24) = W1 := ⟨_, rfl⟩
    have hbW1 : Below w.heap.size w W1 := by rw [← hW1]; exact (Below.refl _ _).alloc (Nat.le_refl _) _
    have hsW1 : Str W1 w.heap.size 24 [.int .i64 i.op, .int .i64 i.d, .int .i64 i.e, .int .i64 i.a, .int .i64 i.b, .int .i64 i.c, .int .i32 i.imm, .slice A n k] := by rw [← hW1]; exact World.alloc_heap_new w _
    rw [hW1]
    clear hW1
    have m0 : W1.cell? ⟨w.heap.size, 0, none⟩ = some (.int .i64 i.op) := hsW1.cell 0
    have m7 : W1.cell? ⟨w.heap.size, 7, none⟩ = some (.slice A n k) := hsW1.cell 7
    have HBW1 := Lib.hid hbW1
    have HV1 := Lib.hid (HV.out.keep hbW1)
    clear hsW1 hbW1
    go_wp2_with fail
    refine (clone_own _ _ i.args HV1.out hl).mono ?_
    rintro e w2 ⟨v, rfl, ho, hb2⟩
    have HO := Lib.hid (own_base (show w2.ownsRow _ _ _ _ _ _ from ho) HBW1.out.size)
    have HB := Lib.hid (HBW1.out.trans (hb2.mono HBW1.out.size))
    clear ho hb2
    go_wp2
    go_ret
    exact ⟨v, rfl, by rw [HT.out]; exact HO.out, HB.out⟩
  · have e1 : (i.op == 28) = false := beq_eq_false_iff_ne.2 h
    have HT := Lib.hid (show takesL i = [i.a, i.b, i.c].take (takesN i.op) from if_neg h)
    clear h
    go_enter Try.func36, Try.ntmps36
    go_upto_region 1 with (fail)
    obtain ⟨W1, hW1⟩ : ∃ W1, w.alloc (.cells #[.int .i64 i.op, .int .i64 i.d, .int .i64 i.e, .int .i64 i.a, .int .i64 i.b, .int .i64 i.c, .int .i32 i.imm, .slice A n k] 24) = W1 := ⟨_, rfl⟩
    have hbW1 : Below w.heap.size w W1 := by rw [← hW1]; exact (Below.refl _ _).alloc (Nat.le_refl _) _
    have hsW1 : Str W1 w.heap.size 24 [.int .i64 i.op, .int .i64 i.d, .int .i64 i.e, .int .i64 i.a, .int .i64 i.b, .int .i64 i.c, .int .i32 i.imm, .slice A n k] := by rw [← hW1]; exact World.alloc_heap_new w _
    rw [hW1]
    clear hW1
    have m0 : W1.cell? ⟨w.heap.size, 0, none⟩ = some (.int .i64 i.op) := hsW1.cell 0
    have m1 : W1.cell? ⟨w.heap.size, 1, none⟩ = some (.int .i64 i.d) := hsW1.cell 1
    have m2 : W1.cell? ⟨w.heap.size, 2, none⟩ = some (.int .i64 i.e) := hsW1.cell 2
    have m3 : W1.cell? ⟨w.heap.size, 3, none⟩ = some (.int .i64 i.a) := hsW1.cell 3
    have m4 : W1.cell? ⟨w.heap.size, 4, none⟩ = some (.int .i64 i.b) := hsW1.cell 4
    have m5 : W1.cell? ⟨w.heap.size, 5, none⟩ = some (.int .i64 i.c) := hsW1.cell 5
    have m6 : W1.cell? ⟨w.heap.size, 6, none⟩ = some (.int .i32 i.imm) := hsW1.cell 6
    have m7 : W1.cell? ⟨w.heap.size, 7, none⟩ = some (.slice A n k) := hsW1.cell 7
    have HBW1 := Lib.hid hbW1
    clear hsW1 hbW1
    go_wp2_with fail
    refine (sources_any W1 _ _ _ _ _ _ _ _ _ _).mono ?_
    rintro e w2 ⟨rfl, hb2⟩
    have HB2 := Lib.hid (HBW1.out.trans (hb2.mono HBW1.out.size))
    have m0 : w2.cell? ⟨w.heap.size, 0, none⟩ = some (.int .i64 i.op) := cell_keep hb2 (Nat.le_refl _) m0
    clear hb2 m1 m2 m3 m4 m5 m6 m7
    go_upto_region 4 with (fail)
    obtain ⟨W3, hW3⟩ : ∃ W3, w2.alloc (.cells #[.int .i64 i.a, .int .i64 i.b, .int .i64 i.c] 27) = W3 := ⟨_, rfl⟩
    have hbW3 : Below w2.heap.size w2 W3 := by rw [← hW3]; exact (Below.refl _ _).alloc (Nat.le_refl _) _
    have hsW3 : Str W3 w2.heap.size 27 [.int .i64 i.a, .int .i64 i.b, .int .i64 i.c] := by rw [← hW3]; exact World.alloc_heap_new w2 _
    rw [hW3]
    clear hW3
    have hs3 : Str W3 w2.heap.size 27 ([i.a, i.b, i.c].map (Value.int .i64)) := hsW3
    have m0 : W3.cell? ⟨w.heap.size, 0, none⟩ = some (.int .i64 i.op) := cell_keep hbW3 (Nat.le_refl _) m0
    have HB3 := Lib.hid (HB2.out.trans (hbW3.mono HB2.out.size))
    have HS3 := Lib.hid hs3
    clear hbW3 hs3 hsW3
    go_wp2_with fail
    refine (operation_any i.op W3).mono ?_
    rintro e w4 ⟨rfl, hb4⟩
    have hle := takesN_le i.op
    have HC := Lib.hid (fun w => run_cut3 w w2.heap.size (takesN i.op) hle)
    have HI := Lib.hid (ints_box (n := takesN i.op) (c := 3) (HS3.out.below hb4) (by simpa using hle) hle (by omega))
    have HB4 := Lib.hid (HB3.out.trans (hb4.mono HB3.out.size))
    have HFLD := Lib.hid (fld_takes (makesN i.op) (takesN i.op) (fnV i.op))
    generalize takesN i.op = tn at *
    generalize makesN i.op = mn at *
    generalize fnV i.op = fv at *
    have hfl := HFLD.out
    have hcut := HC.out
    clear hb4 HS3 m0 HB2 HBW1
    go_wp2_with fail
    refine (clone_own _ _ _ HI.out (by rw [List.length_take]; simp; omega)).mono ?_
    rintro e w5 ⟨v, rfl, ho, hb5⟩
    have HO := Lib.hid (own_base (show w5.ownsRow _ _ _ _ _ _ from ho) HB4.out.size)
    have HB := Lib.hid (HB4.out.trans (hb5.mono HB4.out.size))
    clear ho hb5 hfl hcut
    go_wp2
    go_ret
    exact ⟨v, rfl, by rw [HT.out]; exact HO.out, HB.out⟩
set_option maxRecDepth 100000 in
set_option maxHeartbeats 4000000 in
theorem makes_any (w : World) (i : PMach) (A : Option Addr) (n k : Nat) :
    Calls Try.prog 35 #[.agg #[.int .i64 i.op, .int .i64 i.d, .int .i64 i.e, .int .i64 i.a, .int .i64 i.b, .int .i64 i.c, .int .i32 i.imm, .slice A n k]] w (RowPost (makesL i) w) := by
  have HT := Lib.hid (show makesL i = [if i.op = 2 then i.a else i.d, if i.op = 2 then i.b else i.e].take (makesN i.op) by unfold makesL; split <;> rfl)
  go_enter Try.func35, Try.ntmps35
  go_upto_region 1 with (fail)
  obtain ⟨W1, hW1⟩ : ∃ W1, w.alloc (.cells #[.int .i64 i.op, .int .i64 i.d, .int .i64 i.e, .int .i64 i.a, .int .i64 i.b, .int .i64 i.c, .int .i32 i.imm, .slice A n k] 24) = W1 := ⟨_, rfl⟩
  have hbW1 : Below w.heap.size w W1 := by rw [← hW1]; exact (Below.refl _ _).alloc (Nat.le_refl _) _
  have hsW1 : Str W1 w.heap.size 24 [.int .i64 i.op, .int .i64 i.d, .int .i64 i.e, .int .i64 i.a, .int .i64 i.b, .int .i64 i.c, .int .i32 i.imm, .slice A n k] := by rw [← hW1]; exact World.alloc_heap_new w _
  rw [hW1]
  clear hW1
  have m0 : W1.cell? ⟨w.heap.size, 0, none⟩ = some (.int .i64 i.op) := hsW1.cell 0
  have m1 : W1.cell? ⟨w.heap.size, 1, none⟩ = some (.int .i64 i.d) := hsW1.cell 1
  have m2 : W1.cell? ⟨w.heap.size, 2, none⟩ = some (.int .i64 i.e) := hsW1.cell 2
  have m3 : W1.cell? ⟨w.heap.size, 3, none⟩ = some (.int .i64 i.a) := hsW1.cell 3
  have m4 : W1.cell? ⟨w.heap.size, 4, none⟩ = some (.int .i64 i.b) := hsW1.cell 4
  have m5 : W1.cell? ⟨w.heap.size, 5, none⟩ = some (.int .i64 i.c) := hsW1.cell 5
  have m6 : W1.cell? ⟨w.heap.size, 6, none⟩ = some (.int .i32 i.imm) := hsW1.cell 6
  have m7 : W1.cell? ⟨w.heap.size, 7, none⟩ = some (.slice A n k) := hsW1.cell 7
  have HBW1 := Lib.hid hbW1
  clear hsW1 hbW1
  go_wp2_with fail
  refine (targets_any W1 _ _ _ _ _ _ _ _ _ _).mono ?_
  rintro e w2 ⟨rfl, hb2⟩
  have HB2 := Lib.hid (HBW1.out.trans (hb2.mono HBW1.out.size))
  have m0 : w2.cell? ⟨w.heap.size, 0, none⟩ = some (.int .i64 i.op) := cell_keep hb2 (Nat.le_refl _) m0
  clear hb2 m1 m2 m3 m4 m5 m6 m7
  generalize (if i.op = 2 then i.a else i.d) = xa at *
  generalize (if i.op = 2 then i.b else i.e) = xb at *
  go_upto_region 2 with (fail)
  obtain ⟨W3, hW3⟩ : ∃ W3, w2.alloc (.cells #[.int .i64 xa, .int .i64 xb] 90) = W3 := ⟨_, rfl⟩
  have hbW3 : Below w2.heap.size w2 W3 := by rw [← hW3]; exact (Below.refl _ _).alloc (Nat.le_refl _) _
  have hsW3 : Str W3 w2.heap.size 90 [.int .i64 xa, .int .i64 xb] := by rw [← hW3]; exact World.alloc_heap_new w2 _
  rw [hW3]
  clear hW3
  have hs3 : Str W3 w2.heap.size 90 ([xa, xb].map (Value.int .i64)) := hsW3
  have m0 : W3.cell? ⟨w.heap.size, 0, none⟩ = some (.int .i64 i.op) := cell_keep hbW3 (Nat.le_refl _) m0
  have HB3 := Lib.hid (HB2.out.trans (hbW3.mono HB2.out.size))
  have HS3 := Lib.hid hs3
  clear hbW3 hs3 hsW3
  go_wp2_with fail
  refine (operation_any i.op W3).mono ?_
  rintro e w4 ⟨rfl, hb4⟩
  have hle := makesN_le i.op
  have HC := Lib.hid (fun w => run_cut2 w w2.heap.size (makesN i.op) hle)
  have HI := Lib.hid (ints_box (n := makesN i.op) (c := 2) (HS3.out.below hb4) (by simpa using hle) hle (by omega))
  have HB4 := Lib.hid (HB3.out.trans (hb4.mono HB3.out.size))
  have HFLD := Lib.hid (fld_makes (makesN i.op) (takesN i.op) (fnV i.op))
  generalize takesN i.op = tn at *
  generalize makesN i.op = mn at *
  generalize fnV i.op = fv at *
  have hfl := HFLD.out
  have hcut := HC.out
  clear hb4 HS3 m0 HB2 HBW1
  go_wp2_with fail
  refine (clone_own _ _ _ HI.out (by rw [List.length_take]; simp; omega)).mono ?_
  rintro e w5 ⟨v, rfl, ho, hb5⟩
  have HO := Lib.hid (own_base (show w5.ownsRow _ _ _ _ _ _ from ho) HB4.out.size)
  have HB := Lib.hid (HB4.out.trans (hb5.mono HB4.out.size))
  clear ho hb5 hfl hcut
  go_wp2
  go_ret
  exact ⟨v, rfl, by rw [HT.out]; exact HO.out, HB.out⟩
set_option maxRecDepth 100000 in
set_option maxHeartbeats 4000000 in
theorem needs_any (w : World) (e : PEnd) (A : Option Addr) (n k : Nat) :
    Calls Try.prog 32 #[.agg #[.int .i64 e.op, .int .i64 e.a, .int .i64 e.b, .slice A n k, .int .i32 e.imm]] w (RowPost (needsL e) w) := by
  by_cases h2 : e.op = 2
  · have e1 : (e.op == 2) = true := beq_iff_eq.2 h2
    have HT := Lib.hid (show needsL e = [e.a] by unfold needsL; rw [if_pos h2])
    clear h2
    go_enter Try.func32, Try.ntmps32
    go_upto_region 1 with (fail)
    obtain ⟨W1, hW1⟩ : ∃ W1, w.alloc (.cells #[.int .i64 e.op, .int .i64 e.a, .int .i64 e.b, .slice A n k, .int .i32 e.imm] 26) = W1 := ⟨_, rfl⟩
    have hbW1 : Below w.heap.size w W1 := by rw [← hW1]; exact (Below.refl _ _).alloc (Nat.le_refl _) _
    have hsW1 : Str W1 w.heap.size 26 [.int .i64 e.op, .int .i64 e.a, .int .i64 e.b, .slice A n k, .int .i32 e.imm] := by rw [← hW1]; exact World.alloc_heap_new w _
    rw [hW1]
    clear hW1
    have m0 : W1.cell? ⟨w.heap.size, 0, none⟩ = some (.int .i64 e.op) := hsW1.cell 0
    have m1 : W1.cell? ⟨w.heap.size, 1, none⟩ = some (.int .i64 e.a) := hsW1.cell 1
    have m2 : W1.cell? ⟨w.heap.size, 2, none⟩ = some (.int .i64 e.b) := hsW1.cell 2
    have HB := Lib.hid hbW1
    clear hsW1 hbW1
    go_wp2
    go_ret
    refine ⟨_, rfl, ?_, HB.out.alloc HB.out.size _⟩
    rw [HT.out]
    exact World.ownsRow_lit W1 #[.int .i64 e.a] 1 HB.out.size (by decide) rfl
  have g2 : (e.op == 2) = false := beq_eq_false_iff_ne.2 h2
  by_cases h6 : e.op = 6
  · have e1 : (e.op == 6) = true := beq_iff_eq.2 h6
    have HT := Lib.hid (show needsL e = [e.a] by unfold needsL; rw [if_neg h2]; rw [if_pos h6])
    clear h6
    go_enter Try.func32, Try.ntmps32
    go_upto_region 1 with (fail)
    obtain ⟨W1, hW1⟩ : ∃ W1, w.alloc (.cells #[.int .i64 e.op, .int .i64 e.a, .int .i64 e.b, .slice A n k, .int .i32 e.imm] 26) = W1 := ⟨_, rfl⟩
    have hbW1 : Below w.heap.size w W1 := by rw [← hW1]; exact (Below.refl _ _).alloc (Nat.le_refl _) _
    have hsW1 : Str W1 w.heap.size 26 [.int .i64 e.op, .int .i64 e.a, .int .i64 e.b, .slice A n k, .int .i32 e.imm] := by rw [← hW1]; exact World.alloc_heap_new w _
    rw [hW1]
    clear hW1
    have m0 : W1.cell? ⟨w.heap.size, 0, none⟩ = some (.int .i64 e.op) := hsW1.cell 0
    have m1 : W1.cell? ⟨w.heap.size, 1, none⟩ = some (.int .i64 e.a) := hsW1.cell 1
    have m2 : W1.cell? ⟨w.heap.size, 2, none⟩ = some (.int .i64 e.b) := hsW1.cell 2
    have HB := Lib.hid hbW1
    clear hsW1 hbW1
    go_wp2
    go_ret
    refine ⟨_, rfl, ?_, HB.out.alloc HB.out.size _⟩
    rw [HT.out]
    exact World.ownsRow_lit W1 #[.int .i64 e.a] 1 HB.out.size (by decide) rfl
  have g6 : (e.op == 6) = false := beq_eq_false_iff_ne.2 h6
  by_cases h3 : e.op = 3
  · have e1 : (e.op == 3) = true := beq_iff_eq.2 h3
    have HT := Lib.hid (show needsL e = [e.a, e.b] by unfold needsL; rw [if_neg h2]; rw [if_neg h6]; rw [if_pos h3])
    clear h3
    go_enter Try.func32, Try.ntmps32
    go_upto_region 1 with (fail)
    obtain ⟨W1, hW1⟩ : ∃ W1, w.alloc (.cells #[.int .i64 e.op, .int .i64 e.a, .int .i64 e.b, .slice A n k, .int .i32 e.imm] 26) = W1 := ⟨_, rfl⟩
    have hbW1 : Below w.heap.size w W1 := by rw [← hW1]; exact (Below.refl _ _).alloc (Nat.le_refl _) _
    have hsW1 : Str W1 w.heap.size 26 [.int .i64 e.op, .int .i64 e.a, .int .i64 e.b, .slice A n k, .int .i32 e.imm] := by rw [← hW1]; exact World.alloc_heap_new w _
    rw [hW1]
    clear hW1
    have m0 : W1.cell? ⟨w.heap.size, 0, none⟩ = some (.int .i64 e.op) := hsW1.cell 0
    have m1 : W1.cell? ⟨w.heap.size, 1, none⟩ = some (.int .i64 e.a) := hsW1.cell 1
    have m2 : W1.cell? ⟨w.heap.size, 2, none⟩ = some (.int .i64 e.b) := hsW1.cell 2
    have HB := Lib.hid hbW1
    clear hsW1 hbW1
    go_wp2
    go_ret
    refine ⟨_, rfl, ?_, HB.out.alloc HB.out.size _⟩
    rw [HT.out]
    exact World.ownsRow_lit W1 #[.int .i64 e.a, .int .i64 e.b] 2 HB.out.size (by decide) rfl
  have g3 : (e.op == 3) = false := beq_eq_false_iff_ne.2 h3
  by_cases h4 : e.op = 4
  · have e1 : (e.op == 4) = true := beq_iff_eq.2 h4
    have HT := Lib.hid (show needsL e = [e.a, e.b] by unfold needsL; rw [if_neg h2]; rw [if_neg h6]; rw [if_neg h3]; rw [if_pos h4])
    clear h4
    go_enter Try.func32, Try.ntmps32
    go_upto_region 1 with (fail)
    obtain ⟨W1, hW1⟩ : ∃ W1, w.alloc (.cells #[.int .i64 e.op, .int .i64 e.a, .int .i64 e.b, .slice A n k, .int .i32 e.imm] 26) = W1 := ⟨_, rfl⟩
    have hbW1 : Below w.heap.size w W1 := by rw [← hW1]; exact (Below.refl _ _).alloc (Nat.le_refl _) _
    have hsW1 : Str W1 w.heap.size 26 [.int .i64 e.op, .int .i64 e.a, .int .i64 e.b, .slice A n k, .int .i32 e.imm] := by rw [← hW1]; exact World.alloc_heap_new w _
    rw [hW1]
    clear hW1
    have m0 : W1.cell? ⟨w.heap.size, 0, none⟩ = some (.int .i64 e.op) := hsW1.cell 0
    have m1 : W1.cell? ⟨w.heap.size, 1, none⟩ = some (.int .i64 e.a) := hsW1.cell 1
    have m2 : W1.cell? ⟨w.heap.size, 2, none⟩ = some (.int .i64 e.b) := hsW1.cell 2
    have HB := Lib.hid hbW1
    clear hsW1 hbW1
    go_wp2
    go_ret
    refine ⟨_, rfl, ?_, HB.out.alloc HB.out.size _⟩
    rw [HT.out]
    exact World.ownsRow_lit W1 #[.int .i64 e.a, .int .i64 e.b] 2 HB.out.size (by decide) rfl
  have g4 : (e.op == 4) = false := beq_eq_false_iff_ne.2 h4
  by_cases h5 : e.op = 5
  · have e1 : (e.op == 5) = true := beq_iff_eq.2 h5
    have HT := Lib.hid (show needsL e = [e.a, e.b] by unfold needsL; rw [if_neg h2]; rw [if_neg h6]; rw [if_neg h3]; rw [if_neg h4]; rw [if_pos h5])
    clear h5
    go_enter Try.func32, Try.ntmps32
    go_upto_region 1 with (fail)
    obtain ⟨W1, hW1⟩ : ∃ W1, w.alloc (.cells #[.int .i64 e.op, .int .i64 e.a, .int .i64 e.b, .slice A n k, .int .i32 e.imm] 26) = W1 := ⟨_, rfl⟩
    have hbW1 : Below w.heap.size w W1 := by rw [← hW1]; exact (Below.refl _ _).alloc (Nat.le_refl _) _
    have hsW1 : Str W1 w.heap.size 26 [.int .i64 e.op, .int .i64 e.a, .int .i64 e.b, .slice A n k, .int .i32 e.imm] := by rw [← hW1]; exact World.alloc_heap_new w _
    rw [hW1]
    clear hW1
    have m0 : W1.cell? ⟨w.heap.size, 0, none⟩ = some (.int .i64 e.op) := hsW1.cell 0
    have m1 : W1.cell? ⟨w.heap.size, 1, none⟩ = some (.int .i64 e.a) := hsW1.cell 1
    have m2 : W1.cell? ⟨w.heap.size, 2, none⟩ = some (.int .i64 e.b) := hsW1.cell 2
    have HB := Lib.hid hbW1
    clear hsW1 hbW1
    go_wp2
    go_ret
    refine ⟨_, rfl, ?_, HB.out.alloc HB.out.size _⟩
    rw [HT.out]
    exact World.ownsRow_lit W1 #[.int .i64 e.a, .int .i64 e.b] 2 HB.out.size (by decide) rfl
  have g5 : (e.op == 5) = false := beq_eq_false_iff_ne.2 h5
  by_cases h7 : e.op = 7
  · have e1 : (e.op == 7) = true := beq_iff_eq.2 h7
    by_cases h0 : 0 ≤ e.a
    · have HT := Lib.hid (show needsL e = [e.a] by unfold needsL; rw [if_neg h2]; rw [if_neg h6]; rw [if_neg h3]; rw [if_neg h4]; rw [if_neg h5]; rw [if_pos h7, if_pos h0])
      clear h7 h2 h6 h3 h4 h5
      go_enter Try.func32, Try.ntmps32
      go_upto_region 1 with (fail)
      obtain ⟨W1, hW1⟩ : ∃ W1, w.alloc (.cells #[.int .i64 e.op, .int .i64 e.a, .int .i64 e.b, .slice A n k, .int .i32 e.imm] 26) = W1 := ⟨_, rfl⟩
      have hbW1 : Below w.heap.size w W1 := by rw [← hW1]; exact (Below.refl _ _).alloc (Nat.le_refl _) _
      have hsW1 : Str W1 w.heap.size 26 [.int .i64 e.op, .int .i64 e.a, .int .i64 e.b, .slice A n k, .int .i32 e.imm] := by rw [← hW1]; exact World.alloc_heap_new w _
      rw [hW1]
      clear hW1
      have m0 : W1.cell? ⟨w.heap.size, 0, none⟩ = some (.int .i64 e.op) := hsW1.cell 0
      have m1 : W1.cell? ⟨w.heap.size, 1, none⟩ = some (.int .i64 e.a) := hsW1.cell 1
      have m2 : W1.cell? ⟨w.heap.size, 2, none⟩ = some (.int .i64 e.b) := hsW1.cell 2
      have HB := Lib.hid hbW1
      clear hsW1 hbW1
      go_wp2
      go_ret
      refine ⟨_, rfl, ?_, HB.out.alloc HB.out.size _⟩
      rw [HT.out]
      exact World.ownsRow_lit W1 #[.int .i64 e.a] 1 HB.out.size (by decide) rfl
    · have HT := Lib.hid (show needsL e = [] by unfold needsL; rw [if_neg h2]; rw [if_neg h6]; rw [if_neg h3]; rw [if_neg h4]; rw [if_neg h5]; rw [if_pos h7, if_neg h0])
      have h0 : e.a < 0 := by omega
      clear h7 h2 h6 h3 h4 h5
      go_enter Try.func32, Try.ntmps32
      go_upto_region 1 with (fail)
      obtain ⟨W1, hW1⟩ : ∃ W1, w.alloc (.cells #[.int .i64 e.op, .int .i64 e.a, .int .i64 e.b, .slice A n k, .int .i32 e.imm] 26) = W1 := ⟨_, rfl⟩
      have hbW1 : Below w.heap.size w W1 := by rw [← hW1]; exact (Below.refl _ _).alloc (Nat.le_refl _) _
      have hsW1 : Str W1 w.heap.size 26 [.int .i64 e.op, .int .i64 e.a, .int .i64 e.b, .slice A n k, .int .i32 e.imm] := by rw [← hW1]; exact World.alloc_heap_new w _
      rw [hW1]
      clear hW1
      have m0 : W1.cell? ⟨w.heap.size, 0, none⟩ = some (.int .i64 e.op) := hsW1.cell 0
      have m1 : W1.cell? ⟨w.heap.size, 1, none⟩ = some (.int .i64 e.a) := hsW1.cell 1
      have m2 : W1.cell? ⟨w.heap.size, 2, none⟩ = some (.int .i64 e.b) := hsW1.cell 2
      have HB := Lib.hid hbW1
      clear hsW1 hbW1
      go_wp2
      go_ret
      refine ⟨_, rfl, ?_, HB.out⟩
      rw [HT.out]
      exact World.ownsRow_nil _ _ _ _
  · have g7 : (e.op == 7) = false := beq_eq_false_iff_ne.2 h7
    have HT := Lib.hid (show needsL e = [] by unfold needsL; rw [if_neg h2]; rw [if_neg h6]; rw [if_neg h3]; rw [if_neg h4]; rw [if_neg h5]; rw [if_neg h7])
    clear h7 h2 h6 h3 h4 h5
    go_enter Try.func32, Try.ntmps32
    go_upto_region 1 with (fail)
    obtain ⟨W1, hW1⟩ : ∃ W1, w.alloc (.cells #[.int .i64 e.op, .int .i64 e.a, .int .i64 e.b, .slice A n k, .int .i32 e.imm] 26) = W1 := ⟨_, rfl⟩
    have hbW1 : Below w.heap.size w W1 := by rw [← hW1]; exact (Below.refl _ _).alloc (Nat.le_refl _) _
    have hsW1 : Str W1 w.heap.size 26 [.int .i64 e.op, .int .i64 e.a, .int .i64 e.b, .slice A n k, .int .i32 e.imm] := by rw [← hW1]; exact World.alloc_heap_new w _
    rw [hW1]
    clear hW1
    have m0 : W1.cell? ⟨w.heap.size, 0, none⟩ = some (.int .i64 e.op) := hsW1.cell 0
    have m1 : W1.cell? ⟨w.heap.size, 1, none⟩ = some (.int .i64 e.a) := hsW1.cell 1
    have m2 : W1.cell? ⟨w.heap.size, 2, none⟩ = some (.int .i64 e.b) := hsW1.cell 2
    have HB := Lib.hid hbW1
    clear hsW1 hbW1
    go_wp2
    go_ret
    refine ⟨_, rfl, ?_, HB.out⟩
    rw [HT.out]
    exact World.ownsRow_nil _ _ _ _
end Go.Proofs.Ytdidacjmcafcpaa.Mc
