/- Stage 12: what the reference says of all code. -/
import Derived.Test.YtdidacjmcafcpaaQL
import Derived.Test.YtdidacjmcafcpaaQH
import Derived.Test.YtdidacjmcafcpaaQI
namespace Go.Proofs.Ytdidacjmcafcpaa.Ph
open Go.ChangeShapes Go.WideShapes Go.ChangeAt Go.RowKit Go.Proofs.Ytdidacjmcafcpaa.Mem Go.Proofs.Ytdidacjmcafcpaa.Kc Go.Proofs.Ytdidacjmcafcpaa.Pl Go.Proofs.Ytdidacjmcafcpaa.Mw Go.Proofs.Ytdidacjmcafcpaa.Mc Go.Proofs.Ytdidacjmcafcpaa.Br Go.Proofs.Ytdidacjmcafcpaa.Gr
set_option linter.unusedVariables false
set_option linter.unusedSimpArgs false
theorem three_but (R : Nat) (w : World) (a b c : Value) : But R w (((w.setCell ⟨R, 0, none⟩ a).setCell ⟨R, 1, none⟩ b).setCell ⟨R, 2, none⟩ c) := ((but_set _ _ _ _).trans (but_set _ _ _ _)).trans (but_set _ _ _ _)
theorem funcQ_bad {params r sl : Int} {bs : List PPB} {e : Int} (h : limQ params r sl bs = e) (he : e ≠ 0) : funcQ params r sl bs = (e, 0, 0) := by unfold funcQ; rw [h]; exact if_neg he
theorem funcQ_fine {params r sl : Int} {bs : List PPB} (h : limQ params r sl bs = 0) : funcQ params r sl bs = firstQ r sl bs.length 0 bs := by unfold funcQ; exact if_pos h
set_option maxRecDepth 100000 in
set_option maxHeartbeats 8000000 in
theorem rfuncQ_any (w : World) (params r sl : Int) (A : Option Addr) (c : Nat) (bs : List PPB) (hA : PBlocksAt w (.slice A bs.length c) bs) (hwf : WfQ bs) (hsm : ∀ x ∈ bs, ∀ y ∈ x.ins, y.i.args.length ≤ 900000) :
    Calls Try.prog 26 #[.agg #[.int .i64 params, .int .i64 r, .int .i64 sl, .slice A bs.length c]] w fun en w' => en = .returned (.agg #[.int .i64 (funcQ params r sl bs).1, .int .i64 (funcQ params r sl bs).2.1, .int .i64 (funcQ params r sl bs).2.2]) ∧ Below w.heap.size w w' := by
  have HWF := Lib.hid hwf
  have HSM := Lib.hid hsm
  have hfew := hwf.few
  clear hwf hsm
  by_cases h : params < 0
  · have HW := Lib.hid (funcQ_bad (show limQ params r sl bs = 1 from if_pos (Or.inl (Or.inl h))) (by decide))
    go_enter Try.func26, Try.ntmps26
    go_upto_region 1 with (fail)
    obtain ⟨Wa, hWa⟩ : ∃ V, w.alloc (.cells #[.int .i64 params, .int .i64 r, .int .i64 sl, .slice A bs.length c] 51) = V := ⟨_, rfl⟩
    have hba : Below w.heap.size w Wa := by rw [← hWa]; exact (Below.refl _ _).alloc (Nat.le_refl _) _
    have hsa : Str Wa w.heap.size 51 [.int .i64 params, .int .i64 r, .int .i64 sl, .slice A bs.length c] := by rw [← hWa]; exact World.alloc_heap_new w _
    have hza : Wa.heap.size = w.heap.size + 1 := by rw [← hWa, World.size_alloc]
    rw [hWa]
    clear hWa
    obtain ⟨W1, hW1⟩ : ∃ V, Wa.alloc (.cells #[.int .i64 0, .int .i64 0, .int .i64 0] 61) = V := ⟨_, rfl⟩
    have hbb : Below Wa.heap.size Wa W1 := by rw [← hW1]; exact (Below.refl _ _).alloc (Nat.le_refl _) _
    have hsb : Str W1 Wa.heap.size 61 [.int .i64 0, .int .i64 0, .int .i64 0] := by rw [← hW1]; exact World.alloc_heap_new Wa _
    rw [hW1]
    clear hW1
    rw [hza] at hsb
    have HF := Lib.hid (hsa.below hbb)
    have HR := Lib.hid hsb
    have HB1 := Lib.hid (hba.trans (hbb.mono hba.size))
    have HX := Lib.hid (hA.keep HB1.out)
    have m0 : W1.cell? ⟨w.heap.size, 0, none⟩ = some (.int .i64 params) := HF.out.cell 0
    have m1 : W1.cell? ⟨w.heap.size, 1, none⟩ = some (.int .i64 r) := HF.out.cell 1
    have m2 : W1.cell? ⟨w.heap.size, 2, none⟩ = some (.int .i64 sl) := HF.out.cell 2
    have m3 : W1.cell? ⟨w.heap.size, 3, none⟩ = some (.slice A bs.length c) := HF.out.cell 3
    clear hsa hsb hza hba hbb hA
    have z0 : W1.cell? ⟨w.heap.size + 1, 0, none⟩ = some (.int .i64 0) := (HR.out).cell 0
    have y0 : W1.frozen? ⟨w.heap.size + 1, 0, none⟩ = false := (HR.out).frozen 0
    have z1 : W1.cell? ⟨w.heap.size + 1, 1, none⟩ = some (.int .i64 0) := (HR.out).cell 1
    have y1 : W1.frozen? ⟨w.heap.size + 1, 1, none⟩ = false := (HR.out).frozen 1
    have z2 : W1.cell? ⟨w.heap.size + 1, 2, none⟩ = some (.int .i64 0) := (HR.out).cell 2
    have y2 : W1.frozen? ⟨w.heap.size + 1, 2, none⟩ = false := (HR.out).frozen 2
    have HEND := Lib.hid (fun a b c => (HB1.out).trans (below_of_but (three_but (w.heap.size + 1) W1 a b c) (by omega) (HB1.out).size))
    go_wp2_with fail
    refine ⟨rfl, .agg #[.int .i64 1, .int .i64 0, .int .i64 0], ?_, by rw [HW.out], HEND.out _ _ _⟩
    simp only [results]
    go_simp
  have g0 : 0 ≤ params := by omega
  clear h
  by_cases h : 4 < params
  · have HW := Lib.hid (funcQ_bad (show limQ params r sl bs = 1 from if_pos (Or.inl (Or.inr h))) (by decide))
    go_enter Try.func26, Try.ntmps26
    go_upto_region 1 with (fail)
    obtain ⟨Wa, hWa⟩ : ∃ V, w.alloc (.cells #[.int .i64 params, .int .i64 r, .int .i64 sl, .slice A bs.length c] 51) = V := ⟨_, rfl⟩
    have hba : Below w.heap.size w Wa := by rw [← hWa]; exact (Below.refl _ _).alloc (Nat.le_refl _) _
    have hsa : Str Wa w.heap.size 51 [.int .i64 params, .int .i64 r, .int .i64 sl, .slice A bs.length c] := by rw [← hWa]; exact World.alloc_heap_new w _
    have hza : Wa.heap.size = w.heap.size + 1 := by rw [← hWa, World.size_alloc]
    rw [hWa]
    clear hWa
    obtain ⟨W1, hW1⟩ : ∃ V, Wa.alloc (.cells #[.int .i64 0, .int .i64 0, .int .i64 0] 61) = V := ⟨_, rfl⟩
    have hbb : Below Wa.heap.size Wa W1 := by rw [← hW1]; exact (Below.refl _ _).alloc (Nat.le_refl _) _
    have hsb : Str W1 Wa.heap.size 61 [.int .i64 0, .int .i64 0, .int .i64 0] := by rw [← hW1]; exact World.alloc_heap_new Wa _
    rw [hW1]
    clear hW1
    rw [hza] at hsb
    have HF := Lib.hid (hsa.below hbb)
    have HR := Lib.hid hsb
    have HB1 := Lib.hid (hba.trans (hbb.mono hba.size))
    have HX := Lib.hid (hA.keep HB1.out)
    have m0 : W1.cell? ⟨w.heap.size, 0, none⟩ = some (.int .i64 params) := HF.out.cell 0
    have m1 : W1.cell? ⟨w.heap.size, 1, none⟩ = some (.int .i64 r) := HF.out.cell 1
    have m2 : W1.cell? ⟨w.heap.size, 2, none⟩ = some (.int .i64 sl) := HF.out.cell 2
    have m3 : W1.cell? ⟨w.heap.size, 3, none⟩ = some (.slice A bs.length c) := HF.out.cell 3
    clear hsa hsb hza hba hbb hA
    have z0 : W1.cell? ⟨w.heap.size + 1, 0, none⟩ = some (.int .i64 0) := (HR.out).cell 0
    have y0 : W1.frozen? ⟨w.heap.size + 1, 0, none⟩ = false := (HR.out).frozen 0
    have z1 : W1.cell? ⟨w.heap.size + 1, 1, none⟩ = some (.int .i64 0) := (HR.out).cell 1
    have y1 : W1.frozen? ⟨w.heap.size + 1, 1, none⟩ = false := (HR.out).frozen 1
    have z2 : W1.cell? ⟨w.heap.size + 1, 2, none⟩ = some (.int .i64 0) := (HR.out).cell 2
    have y2 : W1.frozen? ⟨w.heap.size + 1, 2, none⟩ = false := (HR.out).frozen 2
    have HEND := Lib.hid (fun a b c => (HB1.out).trans (below_of_but (three_but (w.heap.size + 1) W1 a b c) (by omega) (HB1.out).size))
    go_wp2_with fail
    refine ⟨rfl, .agg #[.int .i64 1, .int .i64 0, .int .i64 0], ?_, by rw [HW.out], HEND.out _ _ _⟩
    simp only [results]
    go_simp
  have g1 : params ≤ 4 := by omega
  clear h
  by_cases h : r < 4
  · have HW := Lib.hid (funcQ_bad (show limQ params r sl bs = 1 from if_pos (Or.inr (Or.inl (Or.inl h)))) (by decide))
    go_enter Try.func26, Try.ntmps26
    go_upto_region 1 with (fail)
    obtain ⟨Wa, hWa⟩ : ∃ V, w.alloc (.cells #[.int .i64 params, .int .i64 r, .int .i64 sl, .slice A bs.length c] 51) = V := ⟨_, rfl⟩
    have hba : Below w.heap.size w Wa := by rw [← hWa]; exact (Below.refl _ _).alloc (Nat.le_refl _) _
    have hsa : Str Wa w.heap.size 51 [.int .i64 params, .int .i64 r, .int .i64 sl, .slice A bs.length c] := by rw [← hWa]; exact World.alloc_heap_new w _
    have hza : Wa.heap.size = w.heap.size + 1 := by rw [← hWa, World.size_alloc]
    rw [hWa]
    clear hWa
    obtain ⟨W1, hW1⟩ : ∃ V, Wa.alloc (.cells #[.int .i64 0, .int .i64 0, .int .i64 0] 61) = V := ⟨_, rfl⟩
    have hbb : Below Wa.heap.size Wa W1 := by rw [← hW1]; exact (Below.refl _ _).alloc (Nat.le_refl _) _
    have hsb : Str W1 Wa.heap.size 61 [.int .i64 0, .int .i64 0, .int .i64 0] := by rw [← hW1]; exact World.alloc_heap_new Wa _
    rw [hW1]
    clear hW1
    rw [hza] at hsb
    have HF := Lib.hid (hsa.below hbb)
    have HR := Lib.hid hsb
    have HB1 := Lib.hid (hba.trans (hbb.mono hba.size))
    have HX := Lib.hid (hA.keep HB1.out)
    have m0 : W1.cell? ⟨w.heap.size, 0, none⟩ = some (.int .i64 params) := HF.out.cell 0
    have m1 : W1.cell? ⟨w.heap.size, 1, none⟩ = some (.int .i64 r) := HF.out.cell 1
    have m2 : W1.cell? ⟨w.heap.size, 2, none⟩ = some (.int .i64 sl) := HF.out.cell 2
    have m3 : W1.cell? ⟨w.heap.size, 3, none⟩ = some (.slice A bs.length c) := HF.out.cell 3
    clear hsa hsb hza hba hbb hA
    have z0 : W1.cell? ⟨w.heap.size + 1, 0, none⟩ = some (.int .i64 0) := (HR.out).cell 0
    have y0 : W1.frozen? ⟨w.heap.size + 1, 0, none⟩ = false := (HR.out).frozen 0
    have z1 : W1.cell? ⟨w.heap.size + 1, 1, none⟩ = some (.int .i64 0) := (HR.out).cell 1
    have y1 : W1.frozen? ⟨w.heap.size + 1, 1, none⟩ = false := (HR.out).frozen 1
    have z2 : W1.cell? ⟨w.heap.size + 1, 2, none⟩ = some (.int .i64 0) := (HR.out).cell 2
    have y2 : W1.frozen? ⟨w.heap.size + 1, 2, none⟩ = false := (HR.out).frozen 2
    have HEND := Lib.hid (fun a b c => (HB1.out).trans (below_of_but (three_but (w.heap.size + 1) W1 a b c) (by omega) (HB1.out).size))
    go_wp2_with fail
    refine ⟨rfl, .agg #[.int .i64 1, .int .i64 0, .int .i64 0], ?_, by rw [HW.out], HEND.out _ _ _⟩
    simp only [results]
    go_simp
  have g2 : 4 ≤ r := by omega
  clear h
  by_cases h : 16 < r
  · have HW := Lib.hid (funcQ_bad (show limQ params r sl bs = 1 from if_pos (Or.inr (Or.inl (Or.inr h)))) (by decide))
    go_enter Try.func26, Try.ntmps26
    go_upto_region 1 with (fail)
    obtain ⟨Wa, hWa⟩ : ∃ V, w.alloc (.cells #[.int .i64 params, .int .i64 r, .int .i64 sl, .slice A bs.length c] 51) = V := ⟨_, rfl⟩
    have hba : Below w.heap.size w Wa := by rw [← hWa]; exact (Below.refl _ _).alloc (Nat.le_refl _) _
    have hsa : Str Wa w.heap.size 51 [.int .i64 params, .int .i64 r, .int .i64 sl, .slice A bs.length c] := by rw [← hWa]; exact World.alloc_heap_new w _
    have hza : Wa.heap.size = w.heap.size + 1 := by rw [← hWa, World.size_alloc]
    rw [hWa]
    clear hWa
    obtain ⟨W1, hW1⟩ : ∃ V, Wa.alloc (.cells #[.int .i64 0, .int .i64 0, .int .i64 0] 61) = V := ⟨_, rfl⟩
    have hbb : Below Wa.heap.size Wa W1 := by rw [← hW1]; exact (Below.refl _ _).alloc (Nat.le_refl _) _
    have hsb : Str W1 Wa.heap.size 61 [.int .i64 0, .int .i64 0, .int .i64 0] := by rw [← hW1]; exact World.alloc_heap_new Wa _
    rw [hW1]
    clear hW1
    rw [hza] at hsb
    have HF := Lib.hid (hsa.below hbb)
    have HR := Lib.hid hsb
    have HB1 := Lib.hid (hba.trans (hbb.mono hba.size))
    have HX := Lib.hid (hA.keep HB1.out)
    have m0 : W1.cell? ⟨w.heap.size, 0, none⟩ = some (.int .i64 params) := HF.out.cell 0
    have m1 : W1.cell? ⟨w.heap.size, 1, none⟩ = some (.int .i64 r) := HF.out.cell 1
    have m2 : W1.cell? ⟨w.heap.size, 2, none⟩ = some (.int .i64 sl) := HF.out.cell 2
    have m3 : W1.cell? ⟨w.heap.size, 3, none⟩ = some (.slice A bs.length c) := HF.out.cell 3
    clear hsa hsb hza hba hbb hA
    have z0 : W1.cell? ⟨w.heap.size + 1, 0, none⟩ = some (.int .i64 0) := (HR.out).cell 0
    have y0 : W1.frozen? ⟨w.heap.size + 1, 0, none⟩ = false := (HR.out).frozen 0
    have z1 : W1.cell? ⟨w.heap.size + 1, 1, none⟩ = some (.int .i64 0) := (HR.out).cell 1
    have y1 : W1.frozen? ⟨w.heap.size + 1, 1, none⟩ = false := (HR.out).frozen 1
    have z2 : W1.cell? ⟨w.heap.size + 1, 2, none⟩ = some (.int .i64 0) := (HR.out).cell 2
    have y2 : W1.frozen? ⟨w.heap.size + 1, 2, none⟩ = false := (HR.out).frozen 2
    have HEND := Lib.hid (fun a b c => (HB1.out).trans (below_of_but (three_but (w.heap.size + 1) W1 a b c) (by omega) (HB1.out).size))
    go_wp2_with fail
    refine ⟨rfl, .agg #[.int .i64 1, .int .i64 0, .int .i64 0], ?_, by rw [HW.out], HEND.out _ _ _⟩
    simp only [results]
    go_simp
  have g3 : r ≤ 16 := by omega
  clear h
  by_cases h : sl < 0
  · have HW := Lib.hid (funcQ_bad (show limQ params r sl bs = 1 from if_pos (Or.inr (Or.inr (Or.inl h)))) (by decide))
    go_enter Try.func26, Try.ntmps26
    go_upto_region 1 with (fail)
    obtain ⟨Wa, hWa⟩ : ∃ V, w.alloc (.cells #[.int .i64 params, .int .i64 r, .int .i64 sl, .slice A bs.length c] 51) = V := ⟨_, rfl⟩
    have hba : Below w.heap.size w Wa := by rw [← hWa]; exact (Below.refl _ _).alloc (Nat.le_refl _) _
    have hsa : Str Wa w.heap.size 51 [.int .i64 params, .int .i64 r, .int .i64 sl, .slice A bs.length c] := by rw [← hWa]; exact World.alloc_heap_new w _
    have hza : Wa.heap.size = w.heap.size + 1 := by rw [← hWa, World.size_alloc]
    rw [hWa]
    clear hWa
    obtain ⟨W1, hW1⟩ : ∃ V, Wa.alloc (.cells #[.int .i64 0, .int .i64 0, .int .i64 0] 61) = V := ⟨_, rfl⟩
    have hbb : Below Wa.heap.size Wa W1 := by rw [← hW1]; exact (Below.refl _ _).alloc (Nat.le_refl _) _
    have hsb : Str W1 Wa.heap.size 61 [.int .i64 0, .int .i64 0, .int .i64 0] := by rw [← hW1]; exact World.alloc_heap_new Wa _
    rw [hW1]
    clear hW1
    rw [hza] at hsb
    have HF := Lib.hid (hsa.below hbb)
    have HR := Lib.hid hsb
    have HB1 := Lib.hid (hba.trans (hbb.mono hba.size))
    have HX := Lib.hid (hA.keep HB1.out)
    have m0 : W1.cell? ⟨w.heap.size, 0, none⟩ = some (.int .i64 params) := HF.out.cell 0
    have m1 : W1.cell? ⟨w.heap.size, 1, none⟩ = some (.int .i64 r) := HF.out.cell 1
    have m2 : W1.cell? ⟨w.heap.size, 2, none⟩ = some (.int .i64 sl) := HF.out.cell 2
    have m3 : W1.cell? ⟨w.heap.size, 3, none⟩ = some (.slice A bs.length c) := HF.out.cell 3
    clear hsa hsb hza hba hbb hA
    have z0 : W1.cell? ⟨w.heap.size + 1, 0, none⟩ = some (.int .i64 0) := (HR.out).cell 0
    have y0 : W1.frozen? ⟨w.heap.size + 1, 0, none⟩ = false := (HR.out).frozen 0
    have z1 : W1.cell? ⟨w.heap.size + 1, 1, none⟩ = some (.int .i64 0) := (HR.out).cell 1
    have y1 : W1.frozen? ⟨w.heap.size + 1, 1, none⟩ = false := (HR.out).frozen 1
    have z2 : W1.cell? ⟨w.heap.size + 1, 2, none⟩ = some (.int .i64 0) := (HR.out).cell 2
    have y2 : W1.frozen? ⟨w.heap.size + 1, 2, none⟩ = false := (HR.out).frozen 2
    have HEND := Lib.hid (fun a b c => (HB1.out).trans (below_of_but (three_but (w.heap.size + 1) W1 a b c) (by omega) (HB1.out).size))
    go_wp2_with fail
    refine ⟨rfl, .agg #[.int .i64 1, .int .i64 0, .int .i64 0], ?_, by rw [HW.out], HEND.out _ _ _⟩
    simp only [results]
    go_simp
  have g4 : 0 ≤ sl := by omega
  clear h
  by_cases h : 16384 < sl
  · have HW := Lib.hid (funcQ_bad (show limQ params r sl bs = 1 from if_pos (Or.inr (Or.inr (Or.inr h)))) (by decide))
    go_enter Try.func26, Try.ntmps26
    go_upto_region 1 with (fail)
    obtain ⟨Wa, hWa⟩ : ∃ V, w.alloc (.cells #[.int .i64 params, .int .i64 r, .int .i64 sl, .slice A bs.length c] 51) = V := ⟨_, rfl⟩
    have hba : Below w.heap.size w Wa := by rw [← hWa]; exact (Below.refl _ _).alloc (Nat.le_refl _) _
    have hsa : Str Wa w.heap.size 51 [.int .i64 params, .int .i64 r, .int .i64 sl, .slice A bs.length c] := by rw [← hWa]; exact World.alloc_heap_new w _
    have hza : Wa.heap.size = w.heap.size + 1 := by rw [← hWa, World.size_alloc]
    rw [hWa]
    clear hWa
    obtain ⟨W1, hW1⟩ : ∃ V, Wa.alloc (.cells #[.int .i64 0, .int .i64 0, .int .i64 0] 61) = V := ⟨_, rfl⟩
    have hbb : Below Wa.heap.size Wa W1 := by rw [← hW1]; exact (Below.refl _ _).alloc (Nat.le_refl _) _
    have hsb : Str W1 Wa.heap.size 61 [.int .i64 0, .int .i64 0, .int .i64 0] := by rw [← hW1]; exact World.alloc_heap_new Wa _
    rw [hW1]
    clear hW1
    rw [hza] at hsb
    have HF := Lib.hid (hsa.below hbb)
    have HR := Lib.hid hsb
    have HB1 := Lib.hid (hba.trans (hbb.mono hba.size))
    have HX := Lib.hid (hA.keep HB1.out)
    have m0 : W1.cell? ⟨w.heap.size, 0, none⟩ = some (.int .i64 params) := HF.out.cell 0
    have m1 : W1.cell? ⟨w.heap.size, 1, none⟩ = some (.int .i64 r) := HF.out.cell 1
    have m2 : W1.cell? ⟨w.heap.size, 2, none⟩ = some (.int .i64 sl) := HF.out.cell 2
    have m3 : W1.cell? ⟨w.heap.size, 3, none⟩ = some (.slice A bs.length c) := HF.out.cell 3
    clear hsa hsb hza hba hbb hA
    have z0 : W1.cell? ⟨w.heap.size + 1, 0, none⟩ = some (.int .i64 0) := (HR.out).cell 0
    have y0 : W1.frozen? ⟨w.heap.size + 1, 0, none⟩ = false := (HR.out).frozen 0
    have z1 : W1.cell? ⟨w.heap.size + 1, 1, none⟩ = some (.int .i64 0) := (HR.out).cell 1
    have y1 : W1.frozen? ⟨w.heap.size + 1, 1, none⟩ = false := (HR.out).frozen 1
    have z2 : W1.cell? ⟨w.heap.size + 1, 2, none⟩ = some (.int .i64 0) := (HR.out).cell 2
    have y2 : W1.frozen? ⟨w.heap.size + 1, 2, none⟩ = false := (HR.out).frozen 2
    have HEND := Lib.hid (fun a b c => (HB1.out).trans (below_of_but (three_but (w.heap.size + 1) W1 a b c) (by omega) (HB1.out).size))
    go_wp2_with fail
    refine ⟨rfl, .agg #[.int .i64 1, .int .i64 0, .int .i64 0], ?_, by rw [HW.out], HEND.out _ _ _⟩
    simp only [results]
    go_simp
  have g5 : sl ≤ 16384 := by omega
  clear h
  have hp : ¬ ((params < 0 ∨ 4 < params) ∨ (r < 4 ∨ 16 < r) ∨ (sl < 0 ∨ 16384 < sl)) := by omega
  by_cases h3 : bs.length = 0
  · have HW := Lib.hid (funcQ_bad (show limQ params r sl bs = 14 by unfold limQ; rw [if_neg hp, if_pos h3]) (by decide))
    have e0 : ((bs.length : Int) == 0) = true := beq_iff_eq.2 (by omega)
    clear h3 hp
    go_enter Try.func26, Try.ntmps26
    go_upto_region 1 with (fail)
    obtain ⟨Wa, hWa⟩ : ∃ V, w.alloc (.cells #[.int .i64 params, .int .i64 r, .int .i64 sl, .slice A bs.length c] 51) = V := ⟨_, rfl⟩
    have hba : Below w.heap.size w Wa := by rw [← hWa]; exact (Below.refl _ _).alloc (Nat.le_refl _) _
    have hsa : Str Wa w.heap.size 51 [.int .i64 params, .int .i64 r, .int .i64 sl, .slice A bs.length c] := by rw [← hWa]; exact World.alloc_heap_new w _
    have hza : Wa.heap.size = w.heap.size + 1 := by rw [← hWa, World.size_alloc]
    rw [hWa]
    clear hWa
    obtain ⟨W1, hW1⟩ : ∃ V, Wa.alloc (.cells #[.int .i64 0, .int .i64 0, .int .i64 0] 61) = V := ⟨_, rfl⟩
    have hbb : Below Wa.heap.size Wa W1 := by rw [← hW1]; exact (Below.refl _ _).alloc (Nat.le_refl _) _
    have hsb : Str W1 Wa.heap.size 61 [.int .i64 0, .int .i64 0, .int .i64 0] := by rw [← hW1]; exact World.alloc_heap_new Wa _
    rw [hW1]
    clear hW1
    rw [hza] at hsb
    have HF := Lib.hid (hsa.below hbb)
    have HR := Lib.hid hsb
    have HB1 := Lib.hid (hba.trans (hbb.mono hba.size))
    have HX := Lib.hid (hA.keep HB1.out)
    have m0 : W1.cell? ⟨w.heap.size, 0, none⟩ = some (.int .i64 params) := HF.out.cell 0
    have m1 : W1.cell? ⟨w.heap.size, 1, none⟩ = some (.int .i64 r) := HF.out.cell 1
    have m2 : W1.cell? ⟨w.heap.size, 2, none⟩ = some (.int .i64 sl) := HF.out.cell 2
    have m3 : W1.cell? ⟨w.heap.size, 3, none⟩ = some (.slice A bs.length c) := HF.out.cell 3
    clear hsa hsb hza hba hbb hA
    have z0 : W1.cell? ⟨w.heap.size + 1, 0, none⟩ = some (.int .i64 0) := (HR.out).cell 0
    have y0 : W1.frozen? ⟨w.heap.size + 1, 0, none⟩ = false := (HR.out).frozen 0
    have z1 : W1.cell? ⟨w.heap.size + 1, 1, none⟩ = some (.int .i64 0) := (HR.out).cell 1
    have y1 : W1.frozen? ⟨w.heap.size + 1, 1, none⟩ = false := (HR.out).frozen 1
    have z2 : W1.cell? ⟨w.heap.size + 1, 2, none⟩ = some (.int .i64 0) := (HR.out).cell 2
    have y2 : W1.frozen? ⟨w.heap.size + 1, 2, none⟩ = false := (HR.out).frozen 2
    have HEND := Lib.hid (fun a b c => (HB1.out).trans (below_of_but (three_but (w.heap.size + 1) W1 a b c) (by omega) (HB1.out).size))
    go_wp2_with fail
    refine ⟨rfl, .agg #[.int .i64 14, .int .i64 0, .int .i64 0], ?_, by rw [HW.out], HEND.out _ _ _⟩
    simp only [results]
    go_simp
  have e0 : ((bs.length : Int) == 0) = false := beq_eq_false_iff_ne.2 (by omega)
  have HP := Lib.hid (show limQ params r sl bs = if 512 < bs.length then 2 else if 65536 < uptoQ bs bs.length then 2 else 0 by unfold limQ; rw [if_neg hp, if_neg h3])
  clear h3 hp
  go_enter Try.func26, Try.ntmps26
  go_upto_region 1 with (fail)
  obtain ⟨Wa, hWa⟩ : ∃ V, w.alloc (.cells #[.int .i64 params, .int .i64 r, .int .i64 sl, .slice A bs.length c] 51) = V := ⟨_, rfl⟩
  have hba : Below w.heap.size w Wa := by rw [← hWa]; exact (Below.refl _ _).alloc (Nat.le_refl _) _
  have hsa : Str Wa w.heap.size 51 [.int .i64 params, .int .i64 r, .int .i64 sl, .slice A bs.length c] := by rw [← hWa]; exact World.alloc_heap_new w _
  have hza : Wa.heap.size = w.heap.size + 1 := by rw [← hWa, World.size_alloc]
  rw [hWa]
  clear hWa
  obtain ⟨W1, hW1⟩ : ∃ V, Wa.alloc (.cells #[.int .i64 0, .int .i64 0, .int .i64 0] 61) = V := ⟨_, rfl⟩
  have hbb : Below Wa.heap.size Wa W1 := by rw [← hW1]; exact (Below.refl _ _).alloc (Nat.le_refl _) _
  have hsb : Str W1 Wa.heap.size 61 [.int .i64 0, .int .i64 0, .int .i64 0] := by rw [← hW1]; exact World.alloc_heap_new Wa _
  rw [hW1]
  clear hW1
  rw [hza] at hsb
  have HF := Lib.hid (hsa.below hbb)
  have HR := Lib.hid hsb
  have HB1 := Lib.hid (hba.trans (hbb.mono hba.size))
  have HX := Lib.hid (hA.keep HB1.out)
  have m0 : W1.cell? ⟨w.heap.size, 0, none⟩ = some (.int .i64 params) := HF.out.cell 0
  have m1 : W1.cell? ⟨w.heap.size, 1, none⟩ = some (.int .i64 r) := HF.out.cell 1
  have m2 : W1.cell? ⟨w.heap.size, 2, none⟩ = some (.int .i64 sl) := HF.out.cell 2
  have m3 : W1.cell? ⟨w.heap.size, 3, none⟩ = some (.slice A bs.length c) := HF.out.cell 3
  clear hsa hsb hza hba hbb hA
  go_wp2_with fail
  go_loopw [3, 4] (fun t i wr => ∃ k : Nat, k ≤ bs.length ∧ i = .int .i64 k ∧ t = .int .i64 ((bs.length : Int) + (uptoQ bs k : Nat) - k) ∧ wr = W1) (fun _ i _ => bs.length - (intOf i).toNat)
  case atStart => exact ⟨0, by omega, rfl, by rw [uptoQ_zero]; simp, by first | rfl | trivial⟩
  case round =>
    obtain ⟨k, hk, rfl, rfl, hwr⟩ := hrel
    obtain rfl : W1 = wr := hwr.symm
    clear hwr
    have huk := HWF.out.upto k hk
    by_cases hlt : k < bs.length
    · obtain ⟨A', c', b, o, e, q1, q2, q3, q4⟩ := HX.out
      injection e with e1 _ e3
      subst e1 e3
      have e1 := q3 (by omega)
      subst e1
      obtain ⟨p0, c0, p4, c4, r0, r1, r2, r3, r4, r5, _, _⟩ := pblock_rows (q4 k hlt)
      obtain ⟨s1, s2⟩ := HWF.out.sizes bs[k] (List.getElem_mem _)
      have hus := HWF.out.upto (k + 1) (by omega)
      rw [uptoQ_succ hlt] at hus
      have HUS := Lib.hid (uptoQ_succ hlt)
      clear q4 q3 r1 r2 r3 r4 r5
      unfold sizeQ at hus HUS
      generalize bs[k].ins.length = y at *
      generalize uptoQ bs k = u at *
      go_wp2
      go_roundw
      case rel => exact ⟨k + 1, by omega, by go_num, by rw [HUS.out]; go_num, trivial⟩
      case measure => simp [intOf]; omega
    · obtain rfl : k = bs.length := by omega
      by_cases h4 : 512 < bs.length
      · have HW := Lib.hid (funcQ_bad (show limQ params r sl bs = 2 by rw [HP.out, if_pos h4]) (by decide))
        generalize uptoQ bs bs.length = u at *
        have z0 : W1.cell? ⟨w.heap.size + 1, 0, none⟩ = some (.int .i64 0) := (HR.out).cell 0
        have y0 : W1.frozen? ⟨w.heap.size + 1, 0, none⟩ = false := (HR.out).frozen 0
        have z1 : W1.cell? ⟨w.heap.size + 1, 1, none⟩ = some (.int .i64 0) := (HR.out).cell 1
        have y1 : W1.frozen? ⟨w.heap.size + 1, 1, none⟩ = false := (HR.out).frozen 1
        have z2 : W1.cell? ⟨w.heap.size + 1, 2, none⟩ = some (.int .i64 0) := (HR.out).cell 2
        have y2 : W1.frozen? ⟨w.heap.size + 1, 2, none⟩ = false := (HR.out).frozen 2
        have HEND := Lib.hid (fun a b c => (HB1.out).trans (below_of_but (three_but (w.heap.size + 1) W1 a b c) (by omega) (HB1.out).size))
        go_wp2_with fail
        refine ⟨rfl, .agg #[.int .i64 2, .int .i64 0, .int .i64 0], ?_, by rw [HW.out], HEND.out _ _ _⟩
        simp only [results]
        go_simp
      by_cases hm : 65536 < uptoQ bs bs.length
      · have HW := Lib.hid (funcQ_bad (show limQ params r sl bs = 2 by rw [HP.out, if_neg h4, if_pos hm]) (by decide))
        have h4 : bs.length ≤ 512 := by omega
        generalize uptoQ bs bs.length = u at *
        have z0 : W1.cell? ⟨w.heap.size + 1, 0, none⟩ = some (.int .i64 0) := (HR.out).cell 0
        have y0 : W1.frozen? ⟨w.heap.size + 1, 0, none⟩ = false := (HR.out).frozen 0
        have z1 : W1.cell? ⟨w.heap.size + 1, 1, none⟩ = some (.int .i64 0) := (HR.out).cell 1
        have y1 : W1.frozen? ⟨w.heap.size + 1, 1, none⟩ = false := (HR.out).frozen 1
        have z2 : W1.cell? ⟨w.heap.size + 1, 2, none⟩ = some (.int .i64 0) := (HR.out).cell 2
        have y2 : W1.frozen? ⟨w.heap.size + 1, 2, none⟩ = false := (HR.out).frozen 2
        have HEND := Lib.hid (fun a b c => (HB1.out).trans (below_of_but (three_but (w.heap.size + 1) W1 a b c) (by omega) (HB1.out).size))
        go_wp2_with fail
        refine ⟨rfl, .agg #[.int .i64 2, .int .i64 0, .int .i64 0], ?_, by rw [HW.out], HEND.out _ _ _⟩
        simp only [results]
        go_simp
      have hfq := funcQ_fine (show limQ params r sl bs = 0 by rw [HP.out, if_neg h4, if_neg hm])
      have h4 : bs.length ≤ 512 := by omega
      have hm : uptoQ bs bs.length ≤ 65536 := by omega
      generalize uptoQ bs bs.length = u at *
      obtain ⟨⟨re, rb, rp⟩, hrr⟩ : ∃ p, funcQ params r sl bs = p := ⟨_, rfl⟩
      rw [hrr] at hfq
      have HFQ := Lib.hid hrr
      have HRR := Lib.hid hfq
      clear hrr hfq huk
      go_wp2_with fail
      go_loopw [5, 6, 7, 8, 9] (fun j _ _ _ _ wr => ∃ k : Nat, k ≤ bs.length ∧ j = .int .i64 k ∧ firstQ r sl bs.length k (bs.drop k) = (re, rb, rp) ∧ Below W1.heap.size W1 wr) (fun j _ _ _ _ _ => bs.length - (intOf j).toNat)
      case atStart => exact ⟨0, Nat.zero_le _, rfl, HRR.out.symm, Below.refl _ _⟩
      case round =>
        obtain ⟨k, hk, rfl, ht, hb⟩ := hrel
        obtain ⟨wo, rfl⟩ : ∃ wo : World, wo = wr := ⟨_, rfl⟩
        have HT := Lib.hid ht
        have HBW := Lib.hid hb
        have HFO := Lib.hid (HF.out.below hb)
        have HRO := Lib.hid (HR.out.below hb)
        have HBO := Lib.hid (HB1.out.trans (hb.mono HB1.out.size))
        clear ht hb m0 m1 m2 m3
        have m1 : wo.cell? ⟨w.heap.size, 1, none⟩ = some (.int .i64 r) := HFO.out.cell 1
        have m2 : wo.cell? ⟨w.heap.size, 2, none⟩ = some (.int .i64 sl) := HFO.out.cell 2
        have m3 : wo.cell? ⟨w.heap.size, 3, none⟩ = some (.slice A bs.length c) := HFO.out.cell 3
        by_cases hlt : k < bs.length
        · obtain ⟨A', c', b, o, e, q1, q2, q3, q4⟩ := HX.out.keep HBW.out
          injection e with e1 _ e3
          subst e1 e3
          have e1 := q3 (by omega)
          subst e1
          obtain ⟨p0, c0, p4, c4, r0, r1, r2, r3, r4, r5, g1, g5⟩ := pblock_rows (q4 k hlt)
          have HG1 := Lib.hid g1
          have HG5 := Lib.hid g5
          have hsz := HWF.out.sizes bs[k] (List.getElem_mem _)
          have HIN := Lib.hid (HWF.out.ins bs[k] (List.getElem_mem _))
          have HIS := Lib.hid (HSM.out bs[k] (List.getElem_mem _))
          have HGO := Lib.hid (fun h => firstQ_go (r := r) (sl := sl) (blocks := (bs.length : Int)) hlt h)
          have HNO := Lib.hid (fun h => firstQ_no (r := r) (sl := sl) (blocks := (bs.length : Int)) hlt h)
          clear q3 q4 g1 g5
          generalize bs[k] = x at *
          have hil := hsz.1
          clear hsz
          obtain ⟨⟨t1, t2⟩, htq⟩ : ∃ p, tailQ r sl bs.length x.fin 0 x.ins = p := ⟨_, rfl⟩
          rw [htq] at HGO HNO
          have HTQ := Lib.hid htq
          clear htq
          go_upto_region 16 with (fail)
          obtain ⟨W3, hW3⟩ : ∃ V, wo.alloc (.cells #[.slice p0 x.ins.length c0, .int .i64 x.fin.op, .int .i64 x.fin.a, .int .i64 x.fin.b, .slice p4 x.fin.to.length c4, .int .i32 x.fin.imm] 45) = V := ⟨_, rfl⟩
          have hb3 : Below wo.heap.size wo W3 := by rw [← hW3]; exact (Below.refl _ _).alloc (Nat.le_refl _) _
          have hs3 : Str W3 wo.heap.size 45 [.slice p0 x.ins.length c0, .int .i64 x.fin.op, .int .i64 x.fin.a, .int .i64 x.fin.b, .slice p4 x.fin.to.length c4, .int .i32 x.fin.imm] := by rw [← hW3]; exact World.alloc_heap_new wo _
          rw [hW3]
          clear hW3
          have HS3 := Lib.hid hs3
          have HF3 := Lib.hid (HFO.out.below hb3)
          have HR3 := Lib.hid (HRO.out.below hb3)
          have HB3 := Lib.hid (HBO.out.trans (hb3.mono HBO.out.size))
          have HBB := Lib.hid (HBW.out.trans (hb3.mono HBW.out.size))
          have HG1 := Lib.hid (HG1.out.kept (PlacedAt.keep hb3))
          have HG5 := Lib.hid (HG5.out.keep hb3)
          clear hb3 hs3 r0 r1 r2 r3 r4 r5 m1 m2 m3
          go_wp2_with fail
          go_loopw [7, 8] (fun i _ wr => ∃ n : Nat, n ≤ x.ins.length ∧ i = .int .i64 n ∧ tailQ r sl bs.length x.fin n (x.ins.drop n) = (t1, t2) ∧ Below W3.heap.size W3 wr) (fun i _ _ => x.ins.length - (intOf i).toNat)
          case atStart => exact ⟨0, Nat.zero_le _, rfl, HTQ.out, Below.refl _ _⟩
          case round =>
            obtain ⟨n, hn, rfl, ht, hb⟩ := hrel
            have HT2 := Lib.hid ht
            have HBI := Lib.hid hb
            have HS := Lib.hid (HS3.out.below hb)
            have HFI := Lib.hid (HF3.out.below hb)
            have HRI := Lib.hid (HR3.out.below hb)
            have HB := Lib.hid (HB3.out.trans (hb.mono HB3.out.size))
            have HBC := Lib.hid (HBB.out.trans (hb.mono HBB.out.size))
            clear ht hb
            have b0 : wr.cell? ⟨wo.heap.size, 0, none⟩ = some (.slice p0 x.ins.length c0) := HS.out.cell 0
            have f1 : wr.cell? ⟨w.heap.size, 1, none⟩ = some (.int .i64 r) := HFI.out.cell 1
            have f2 : wr.cell? ⟨w.heap.size, 2, none⟩ = some (.int .i64 sl) := HFI.out.cell 2
            by_cases hni : n < x.ins.length
            · obtain ⟨A2, c2, b2, o2, e, u1, u2, u3, u4⟩ := HG1.out.kept (PlacedAt.keep HBI.out)
              injection e with e1 _ e3
              subst e1 e3
              have e1 := u3 (by omega)
              subst e1
              have hm2 := u4 n hni
              obtain ⟨Ai, ki, v7, hia⟩ := placed_cells hm2
              obtain ⟨v0, v1, v2, v3, v4, v5, v6, _, v8⟩ := hm2
              have HIA := Lib.hid hia
              have HII := Lib.hid (HIN.out x.ins[n] (List.getElem_mem _))
              have HIL := Lib.hid (HIS.out x.ins[n] (List.getElem_mem _))
              have HG2 := Lib.hid (fun h => tailQ_go (r := r) (sl := sl) (blocks := (bs.length : Int)) (f := x.fin) hni h)
              have HN2 := Lib.hid (fun h => tailQ_no (r := r) (sl := sl) (blocks := (bs.length : Int)) (f := x.fin) hni h)
              clear u3 u4 hia
              generalize x.ins[n] = y at *
              go_wp2_with fail
              refine region_heldC_wp (fun w' => w'.cell? ⟨wo.heap.size, 0, none⟩ = some (.slice (some ⟨b2, o2, none⟩) x.ins.length c0) ∧ w'.cell? ⟨w.heap.size, 1, none⟩ = some (.int .i64 r) ∧ w'.cell? ⟨w.heap.size, 2, none⟩ = some (.int .i64 sl) ∧ w'.cell? ⟨b2, o2 + n * 9, none⟩ = some (.int .i64 y.i.op) ∧ w'.cell? ⟨b2, o2 + n * 9 + 1, none⟩ = some (.int .i64 y.i.d) ∧ w'.cell? ⟨b2, o2 + n * 9 + 2, none⟩ = some (.int .i64 y.i.e) ∧ w'.cell? ⟨b2, o2 + n * 9 + 3, none⟩ = some (.int .i64 y.i.a) ∧ w'.cell? ⟨b2, o2 + n * 9 + 4, none⟩ = some (.int .i64 y.i.b) ∧ w'.cell? ⟨b2, o2 + n * 9 + 5, none⟩ = some (.int .i64 y.i.c) ∧ w'.cell? ⟨b2, o2 + n * 9 + 6, none⟩ = some (.int .i32 y.i.imm) ∧ w'.cell? ⟨b2, o2 + n * 9 + 7, none⟩ = some (.slice Ai y.i.args.length ki)) [0, 1, 2, 3, 4, 5, 6, 7, 8, 9, 11] [0, 1, 2, 3, 4, 5, 6, 7, 8, 9, 10, 11] (by kernel_rfl) (by kernel_rfl) (by kernel_rfl) rfl (by intro c a d v w h; cases d <;> exact h) ⟨b0, f1, f2, v0, v1, v2, v3, v4, v5, v6, v7⟩ ?_
              refine walkC_still _ ?u0 rfl rfl rfl ?uy0 ?_
              case uy0 => intro w hS; obtain ⟨b0, f1, f2, v0, v1, v2, v3, v4, v5, v6, v7⟩ := hS; go_simp; first | done | with_reducible rfl
              simp only [Act.put]
              try simp only [List.setIfInBounds_toArray, List.set_cons_zero, List.set_cons_succ]
              refine walkC_still _ ?u1 rfl rfl rfl ?uy1 ?_
              case uy1 => intro w hS; obtain ⟨b0, f1, f2, v0, v1, v2, v3, v4, v5, v6, v7⟩ := hS; go_simp; first | done | with_reducible rfl
              simp only [Act.put]
              try simp only [List.setIfInBounds_toArray, List.set_cons_zero, List.set_cons_succ]
              refine walkC_still _ ?u2 rfl rfl rfl ?uy2 ?_
              case uy2 => intro w hS; obtain ⟨b0, f1, f2, v0, v1, v2, v3, v4, v5, v6, v7⟩ := hS; go_simp; first | done | with_reducible rfl
              simp only [Act.put]
              try simp only [List.setIfInBounds_toArray, List.set_cons_zero, List.set_cons_succ]
              refine walkC_still _ ?u3 rfl rfl rfl ?uy3 ?_
              case uy3 => intro w hS; obtain ⟨b0, f1, f2, v0, v1, v2, v3, v4, v5, v6, v7⟩ := hS; go_simp; first | done | with_reducible rfl
              simp only [Act.put]
              try simp only [List.setIfInBounds_toArray, List.set_cons_zero, List.set_cons_succ]
              refine walkC_still _ ?u4 rfl rfl rfl ?uy4 ?_
              case uy4 => intro w hS; obtain ⟨b0, f1, f2, v0, v1, v2, v3, v4, v5, v6, v7⟩ := hS; go_simp; first | done | with_reducible rfl
              simp only [Act.put]
              try simp only [List.setIfInBounds_toArray, List.set_cons_zero, List.set_cons_succ]
              refine walkC_still _ ?u5 rfl rfl rfl ?uy5 ?_
              case uy5 => intro w hS; obtain ⟨b0, f1, f2, v0, v1, v2, v3, v4, v5, v6, v7⟩ := hS; go_simp; first | done | with_reducible rfl
              simp only [Act.put]
              try simp only [List.setIfInBounds_toArray, List.set_cons_zero, List.set_cons_succ]
              refine walkC_still _ ?u6 rfl rfl rfl ?uy6 ?_
              case uy6 => intro w hS; obtain ⟨b0, f1, f2, v0, v1, v2, v3, v4, v5, v6, v7⟩ := hS; go_simp; first | done | with_reducible rfl
              simp only [Act.put]
              try simp only [List.setIfInBounds_toArray, List.set_cons_zero, List.set_cons_succ]
              refine walkC_still _ ?u7 rfl rfl rfl ?uy7 ?_
              case uy7 => intro w hS; obtain ⟨b0, f1, f2, v0, v1, v2, v3, v4, v5, v6, v7⟩ := hS; go_simp; first | done | with_reducible rfl
              simp only [Act.put]
              try simp only [List.setIfInBounds_toArray, List.set_cons_zero, List.set_cons_succ]
              refine walkC_still _ ?u8 rfl rfl rfl ?uy8 ?_
              case uy8 => intro w hS; obtain ⟨b0, f1, f2, v0, v1, v2, v3, v4, v5, v6, v7⟩ := hS; go_simp; first | done | with_reducible rfl
              simp only [Act.put]
              try simp only [List.setIfInBounds_toArray, List.set_cons_zero, List.set_cons_succ]
              refine walkC_still _ ?u9 rfl rfl rfl ?uy9 ?_
              case uy9 => intro w hS; obtain ⟨b0, f1, f2, v0, v1, v2, v3, v4, v5, v6, v7⟩ := hS; go_simp; first | done | with_reducible rfl
              simp only [Act.put]
              try simp only [List.setIfInBounds_toArray, List.set_cons_zero, List.set_cons_succ]
              refine walkC_does _ rfl rfl ?_
              go_wp2_with fail
              have HBD := Lib.hid ((Below.refl wr.heap.size wr).drew)
              refine (insR_any _ y.i Ai ki r sl (HIA.out.keep HBD.out) HIL.out HII.out.2.2.2.2.2.2).mono ?_
              rintro e' w4 ⟨rfl, hb4⟩
              have hb4 := HBD.out.trans hb4
              have HB4 := Lib.hid (HB.out.trans (hb4.mono HB.out.size))
              have HC4 := Lib.hid (HBI.out.trans (hb4.mono HBI.out.size))
              have HR4 := Lib.hid (HRI.out.below hb4)
              have HK4 := Lib.hid hb4
              clear hb4
              go_wp2_with fail
              refine behindC ⟨cell_keep HK4.out (Nat.le_refl _) b0, cell_keep HK4.out (Nat.le_refl _) f1, cell_keep HK4.out (Nat.le_refl _) f2, cell_keep HK4.out (Nat.le_refl _) v0, cell_keep HK4.out (Nat.le_refl _) v1, cell_keep HK4.out (Nat.le_refl _) v2, cell_keep HK4.out (Nat.le_refl _) v3, cell_keep HK4.out (Nat.le_refl _) v4, cell_keep HK4.out (Nat.le_refl _) v5, cell_keep HK4.out (Nat.le_refl _) v6, cell_keep HK4.out (Nat.le_refl _) v7⟩ ?_
              try simp only [List.setIfInBounds_toArray, List.set_cons_zero, List.set_cons_succ]
              refine walkC_still _ ?ue rfl rfl rfl ?uye ?_
              case uye => intro w hS; go_simp; first | done | with_reducible rfl
              simp only [Act.put]
              try simp only [List.setIfInBounds_toArray, List.set_cons_zero, List.set_cons_succ]
              refine walkC_nil ?_
              clear b0 f1 f2 v0 v1 v2 v3 v4 v5 v6 v7 v8
              obtain ⟨q, hq⟩ : ∃ q, insQ y.i r sl = q := ⟨_, rfl⟩
              have HQ := Lib.hid hq
              rw [hq]
              clear hq
              by_cases hz : q = 0
              · have hz1 : (q != 0) = false := by rw [hz]; rfl
                have HN := Lib.hid ((HG2.out (by rw [HQ.out]; exact hz)).symm.trans HT2.out)
                clear hz
                go_wp2_with fail
                exact ⟨⟨n + 1, by omega, by go_num, HN.out, HC4.out⟩, by simp [intOf]; omega⟩
              · have hz1 : (q != 0) = true := by simp [hz]
                have HN := Lib.hid (show (q, (n : Int)) = (t1, t2) by rw [← HT2.out, HN2.out (by rw [HQ.out]; exact hz), HQ.out])
                have h9 := HN.out
                injection h9 with h9 h8
                have HRES := Lib.hid (show (re, rb, rp) = (q, (k : Int), (n : Int)) by rw [← HT.out, HNO.out (by show t1 ≠ 0; rw [← h9]; exact hz), h9, h8])
                clear hz h9 h8
                have z0 : w4.cell? ⟨w.heap.size + 1, 0, none⟩ = some (.int .i64 0) := HR4.out.cell 0
                have y0 : w4.frozen? ⟨w.heap.size + 1, 0, none⟩ = false := HR4.out.frozen 0
                have z1 : w4.cell? ⟨w.heap.size + 1, 1, none⟩ = some (.int .i64 0) := HR4.out.cell 1
                have y1 : w4.frozen? ⟨w.heap.size + 1, 1, none⟩ = false := HR4.out.frozen 1
                have z2 : w4.cell? ⟨w.heap.size + 1, 2, none⟩ = some (.int .i64 0) := HR4.out.cell 2
                have y2 : w4.frozen? ⟨w.heap.size + 1, 2, none⟩ = false := HR4.out.frozen 2
                have HEND := Lib.hid (fun a b c => (HB4.out).trans (below_of_but (three_but (w.heap.size + 1) w4 a b c) (by omega) (HB4.out).size))
                go_wp2_with fail
                refine ⟨rfl, .agg #[.int .i64 q, .int .i64 (k : Int), .int .i64 (n : Int)], ?_, by rw [HFQ.out, HRES.out], HEND.out _ _ _⟩
                simp only [results]
                go_simp
            · obtain rfl : n = x.ins.length := by omega
              have HN := Lib.hid (show (endQ x.fin r bs.length, (x.ins.length : Int)) = (t1, t2) by have h := HT2.out; rw [List.drop_length] at h; exact h)
              have b1 : wr.cell? ⟨wo.heap.size, 1, none⟩ = some (.int .i64 x.fin.op) := HS.out.cell 1
              have b2 : wr.cell? ⟨wo.heap.size, 2, none⟩ = some (.int .i64 x.fin.a) := HS.out.cell 2
              have b3 : wr.cell? ⟨wo.heap.size, 3, none⟩ = some (.int .i64 x.fin.b) := HS.out.cell 3
              have b4 : wr.cell? ⟨wo.heap.size, 4, none⟩ = some (.slice p4 x.fin.to.length c4) := HS.out.cell 4
              have b5 : wr.cell? ⟨wo.heap.size, 5, none⟩ = some (.int .i32 x.fin.imm) := HS.out.cell 5
              have f3 : wr.cell? ⟨w.heap.size, 3, none⟩ = some (.slice (some ⟨b, o, none⟩) bs.length c) := HFI.out.cell 3
              go_wp2_with fail
              refine (endR_any wr x.fin p4 c4 r bs.length (HG5.out.keep HBI.out)).mono ?_
              rintro e' w4 ⟨rfl, hb4⟩
              have HB4 := Lib.hid (HB.out.trans (hb4.mono HB.out.size))
              have HC4 := Lib.hid (HBC.out.trans (hb4.mono HBC.out.size))
              have HR4 := Lib.hid (HRI.out.below hb4)
              have b0 := cell_keep hb4 (Nat.le_refl _) b0
              clear hb4 b1 b2 b3 b4 b5 f1 f2 f3
              obtain ⟨q, hq⟩ : ∃ q, endQ x.fin r bs.length = q := ⟨_, rfl⟩
              rw [hq] at HN
              rw [hq]
              clear hq
              have h9 := HN.out
              injection h9 with h9 h8
              by_cases hz : q = 0
              · have hz1 : (q != 0) = false := by rw [hz]; rfl
                have HNX := Lib.hid ((HGO.out (by show t1 = 0; rw [← h9]; exact hz)).symm.trans HT.out)
                clear hz h9 h8
                go_wp2_with fail
                exact ⟨⟨k + 1, by omega, by go_num, HNX.out, HC4.out⟩, by simp [intOf]; omega⟩
              · have hz1 : (q != 0) = true := by simp [hz]
                have HRES := Lib.hid (show (re, rb, rp) = (q, (k : Int), (x.ins.length : Int)) by rw [← HT.out, HNO.out (by show t1 ≠ 0; rw [← h9]; exact hz), h9, h8])
                clear hz h9 h8
                have z0 : w4.cell? ⟨w.heap.size + 1, 0, none⟩ = some (.int .i64 0) := HR4.out.cell 0
                have y0 : w4.frozen? ⟨w.heap.size + 1, 0, none⟩ = false := HR4.out.frozen 0
                have z1 : w4.cell? ⟨w.heap.size + 1, 1, none⟩ = some (.int .i64 0) := HR4.out.cell 1
                have y1 : w4.frozen? ⟨w.heap.size + 1, 1, none⟩ = false := HR4.out.frozen 1
                have z2 : w4.cell? ⟨w.heap.size + 1, 2, none⟩ = some (.int .i64 0) := HR4.out.cell 2
                have y2 : w4.frozen? ⟨w.heap.size + 1, 2, none⟩ = false := HR4.out.frozen 2
                have HEND := Lib.hid (fun a b c => (HB4.out).trans (below_of_but (three_but (w.heap.size + 1) w4 a b c) (by omega) (HB4.out).size))
                go_wp2_with fail
                refine ⟨rfl, .agg #[.int .i64 q, .int .i64 (k : Int), .int .i64 (x.ins.length : Int)], ?_, by rw [HFQ.out, HRES.out], HEND.out _ _ _⟩
                simp only [results]
                go_simp
        · obtain rfl : k = bs.length := by omega
          have HRES := Lib.hid (show (re, rb, rp) = ((0 : Int), (0 : Int), (0 : Int)) by rw [← HT.out, List.drop_length]; rfl)
          have z0 : wo.cell? ⟨w.heap.size + 1, 0, none⟩ = some (.int .i64 0) := HRO.out.cell 0
          have y0 : wo.frozen? ⟨w.heap.size + 1, 0, none⟩ = false := HRO.out.frozen 0
          have z1 : wo.cell? ⟨w.heap.size + 1, 1, none⟩ = some (.int .i64 0) := HRO.out.cell 1
          have y1 : wo.frozen? ⟨w.heap.size + 1, 1, none⟩ = false := HRO.out.frozen 1
          have z2 : wo.cell? ⟨w.heap.size + 1, 2, none⟩ = some (.int .i64 0) := HRO.out.cell 2
          have y2 : wo.frozen? ⟨w.heap.size + 1, 2, none⟩ = false := HRO.out.frozen 2
          have HEND := Lib.hid (fun a b c => (HBO.out).trans (below_of_but (three_but (w.heap.size + 1) wo a b c) (by omega) (HBO.out).size))
          go_wp2_with fail
          refine ⟨rfl, .agg #[.int .i64 0, .int .i64 0, .int .i64 0], ?_, by rw [HFQ.out, HRES.out], HEND.out _ _ _⟩
          simp only [results]
          go_simp
end Go.Proofs.Ytdidacjmcafcpaa.Ph
