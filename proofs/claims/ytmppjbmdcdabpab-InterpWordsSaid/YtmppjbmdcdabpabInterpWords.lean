/- What is proved: each operation on two parameters is the word's, or the trap of a division by 0, and a wide product has both halves (law InterpWords): for every two words the law answers true. Conditions: none beside those that the given form carries. -/
import Derived.Test.YtmppjbmdcdabpabRows
import Derived.Test.YtmppjbmdcdabpabID
import Derived.WalkKit
import Derived.Below
import Derived.ProofKit
import Derived.OpenShut
namespace Go.Proofs.Ytmppjbmdcdabpab.interpWords
open Go.ChangeShapes Go.WideShapes Go.ChangeAt Go.RowKit
set_option linter.unusedVariables false      -- a walk need not use every 'w<i>' (that an integer argument fits its kind)

theorem own : ownKnob Try.prog.godebug = none := by kernel_rfl

open Go.Maps Go.Proofs.Ytmppjbmdcdabpab.Mem Go.Proofs.Ytmppjbmdcdabpab.Kc Go.Proofs.Ytmppjbmdcdabpab.Br Go.Proofs.Ytmppjbmdcdabpab.Pl Go.Proofs.Ytmppjbmdcdabpab.Gr Go.Proofs.Ytmppjbmdcdabpab.Wd Go.Proofs.Ytmppjbmdcdabpab.Ic

/-! ### STEP 1: THE WALK: the Go text returns true. 'Below w.heap.size w w'': the world has at most new blocks (Derived/RowKit3.lean). Part the cases AHEAD of 'go_enter' where a test parts the walk; take each callee by a contract of your own. -/
set_option maxRecDepth 100000 in
set_option maxHeartbeats 2000000 in
theorem walk (a0 : Int) (a1 : Int) (w0 : (Lit.int .i32 a0).wf = true) (w1 : (Lit.int .i32 a1).wf = true) (w : World) :
    Calls Try.prog 3 #[.int .i32 a0, .int .i32 a1] w fun e w' => e = .returned (.bool true) ∧ Below w.heap.size w w' := by
  have ha : InW a0 := bounds_i32 w0
  have hb : InW a1 := bounds_i32 w1
  have HA := Lib.hid ha
  have HB := Lib.hid hb
  go_enter Try.func3, Try.ntmps3
  go_wp2_with fail
  refine (shown_any w).mono ?_
  rintro e ws ⟨rfl, hs⟩
  have HBS := Lib.hid hs
  clear hs ha hb
  go_wp2_with fail
  go_loopw [6, 7, 8, 9] (fun i _ _ _ wr => ∃ op : Nat, 2 ≤ op ∧ op ≤ 15 ∧ i = .int .i64 op ∧ Below w.heap.size w wr) (fun i _ _ _ _ => 15 - (intOf i).toNat)
  case atStart => exact ⟨2, by omega, by omega, rfl, HBS.out⟩
  case round =>
    obtain ⟨op, o1, o2, rfl, hbr⟩ := hrel
    obtain ⟨wo, rfl⟩ : ∃ wo : World, wo = wr := ⟨_, rfl⟩
    have HBR := Lib.hid hbr
    clear hbr
    by_cases hlt : op ≤ 14
    · skip
      go_wp2_with fail
      obtain ⟨W2a, hW2a⟩ : ∃ W2, (wo.alloc (.cells #[.int .i64 0, .int .i64 1] 3)).alloc (.cells #[.int .i64 op, .int .i64 2, .int .i64 0, .slice (some ⟨wo.heap.size, 0, none⟩) 2 2, .int .i32 0] 34) = W2 := ⟨_, rfl⟩
      rw [hW2a]
      have hb2a : Below wo.heap.size wo W2a := by rw [← hW2a]; exact ((Below.refl _ _).alloc (Nat.le_refl _) _).alloc (by simp) _
      have hAa : Str W2a wo.heap.size 3 [.int .i64 0, .int .i64 1] := by rw [← hW2a]; exact Str.below (World.alloc_heap_new wo _) ((Below.refl _ _).alloc (Nat.le_refl _) _)
      have hIa : Str W2a (wo.heap.size + 1) 34 [.int .i64 op, .int .i64 2, .int .i64 0, .slice (some ⟨wo.heap.size, 0, none⟩) 2 2, .int .i32 0] := by
        have h : Str _ (wo.alloc (.cells #[.int .i64 0, .int .i64 1] 3)).heap.size 34 [.int .i64 op, .int .i64 2, .int .i64 0, .slice (some ⟨wo.heap.size, 0, none⟩) 2 2, .int .i32 0] := World.alloc_heap_new (wo.alloc (.cells #[.int .i64 0, .int .i64 1] 3)) _
        simp only [World.size_alloc] at h
        rw [← hW2a]
        exact h
      clear hW2a
      refine (ret_any W2a 2).mono ?_
      rintro e W3a ⟨gRa, rfl, hRa, hb3a⟩
      go_wp2_with fail
      refine (one_any W3a 2 4 0 _ _ _ _ _ _ _ _ _).mono ?_
      rintro e W4a ⟨gBa, rfl, hBa, hb4a⟩
      have HFa := Lib.hid (block_one (op := op) (two := 0) (v := 2) ⟨by omega, by unfold maxLen; omega⟩ ⟨by omega, by unfold maxLen; omega⟩ ⟨by omega, by unfold maxLen; omega⟩ hBa ((hIa.below hb3a).below hb4a) ((hAa.below hb3a).below hb4a) (cell_keep hb4a (Nat.le_refl _) hRa))
      have HBa := Lib.hid ((hb2a.trans (hb3a.mono hb2a.size)).trans (hb4a.mono (Nat.le_trans hb2a.size hb3a.size)))
      clear hAa hIa hRa hBa hb2a hb3a hb4a
      go_wp2_with fail
      obtain ⟨W5a, hW5a⟩ : ∃ W5, W4a.alloc (.cells #[.int .i32 a0, .int .i32 a1] 21) = W5 := ⟨_, rfl⟩
      rw [hW5a]
      have hb5a : Below W4a.heap.size W4a W5a := by rw [← hW5a]; exact (Below.refl _ _).alloc (Nat.le_refl _) _
      have hVa : Str W5a W4a.heap.size 21 [.int .i32 a0, .int .i32 a1] := by rw [← hW5a]; exact World.alloc_heap_new W4a _
      clear hW5a
      refine (run_do W5a gBa op 2 (by omega) (by omega) (HFa.out.keep hb5a) _ _ (words2 hVa ⟨by omega, fits (by omega)⟩) (in2 HA.out HB.out)).mono ?_
      rintro e W6a ⟨mAa, mna, mca, cAa, cna, cka, rfl, hb6a⟩
      have HB6 := Lib.hid (((HBR.out.trans (HBa.out.mono HBR.out.size)).trans (hb5a.mono (Nat.le_trans HBR.out.size HBa.out.size))).trans (hb6a.mono (Nat.le_trans (Nat.le_trans HBR.out.size HBa.out.size) hb5a.size)))
      clear hb5a hb6a hVa
      go_upto_region 6 with (fail)
      obtain ⟨W7a, hW7a⟩ : ∃ W7a, W6a.alloc (.cells #[.int .i64 (dHow op a1), .int .i32 (dVal op a0 a1), .slice mAa mna mca, .slice cAa cna cka, .int .i64 (dSteps op a1)] 26) = W7a := ⟨_, rfl⟩
      rw [hW7a]
      have hb7a : Below W6a.heap.size W6a W7a := by rw [← hW7a]; exact (Below.refl _ _).alloc (Nat.le_refl _) _
      have ho7a : Str W7a W6a.heap.size 26 [.int .i64 (dHow op a1), .int .i32 (dVal op a0 a1), .slice mAa mna mca, .slice cAa cna cka, .int .i64 (dSteps op a1)] := by rw [← hW7a]; exact World.alloc_heap_new W6a _
      clear hW7a
      have HB7 := Lib.hid (HB6.out.trans (hb7a.mono HB6.out.size))
      have q0 : W7a.cell? ⟨W6a.heap.size, 0, none⟩ = some (.int .i64 (dHow op a1)) := ho7a.cell 0
      have q1 : W7a.cell? ⟨W6a.heap.size, 1, none⟩ = some (.int .i32 (dVal op a0 a1)) := ho7a.cell 1
      have q4 : W7a.cell? ⟨W6a.heap.size, 4, none⟩ = some (.int .i64 (dSteps op a1)) := ho7a.cell 4
      clear hb7a ho7a
      go_wp2_with fail
      refine (do_any op a0 a1 _).mono ?_
      rintro e w8 ⟨rfl, rfl⟩
      cases hB : doB op a1 with
      | true =>
        rw [show dHow op a1 = 1 from if_pos hB] at q0
        rw [show dVal op a0 a1 = doV op a0 a1 from if_pos hB] at q1
        rw [show dSteps op a1 = 2 from if_pos hB] at q4
        have HBH := Lib.hid hB
        clear hB
        generalize doV op a0 a1 = v at *
        go_wp2_with fail
        exact ⟨⟨op + 1, by omega, by omega, by go_num, HB7.out⟩, by simp [intOf]; omega⟩
      | false =>
        have hB' : ¬ doB op a1 = true := by rw [hB]; simp
        rw [show dHow op a1 = 2 from if_neg hB'] at q0
        rw [show dVal op a0 a1 = -1 from if_neg hB'] at q1
        rw [show dSteps op a1 = 1 from if_neg hB'] at q4
        have HBH := Lib.hid hB
        clear hB hB'
        go_wp2_with fail
        exact ⟨⟨op + 1, by omega, by omega, by go_num, HB7.out⟩, by simp [intOf]; omega⟩
    · obtain rfl : op = 15 := by omega
      go_wp2_with fail
      obtain ⟨W2b, hW2b⟩ : ∃ W2, (wo.alloc (.cells #[.int .i64 0, .int .i64 1] 3)).alloc (.cells #[.int .i64 18, .int .i64 2, .int .i64 3, .slice (some ⟨wo.heap.size, 0, none⟩) 2 2, .int .i32 0] 34) = W2 := ⟨_, rfl⟩
      rw [hW2b]
      have hb2b : Below wo.heap.size wo W2b := by rw [← hW2b]; exact ((Below.refl _ _).alloc (Nat.le_refl _) _).alloc (by simp) _
      have hAb : Str W2b wo.heap.size 3 [.int .i64 0, .int .i64 1] := by rw [← hW2b]; exact Str.below (World.alloc_heap_new wo _) ((Below.refl _ _).alloc (Nat.le_refl _) _)
      have hIb : Str W2b (wo.heap.size + 1) 34 [.int .i64 18, .int .i64 2, .int .i64 3, .slice (some ⟨wo.heap.size, 0, none⟩) 2 2, .int .i32 0] := by
        have h : Str _ (wo.alloc (.cells #[.int .i64 0, .int .i64 1] 3)).heap.size 34 [.int .i64 18, .int .i64 2, .int .i64 3, .slice (some ⟨wo.heap.size, 0, none⟩) 2 2, .int .i32 0] := World.alloc_heap_new (wo.alloc (.cells #[.int .i64 0, .int .i64 1] 3)) _
        simp only [World.size_alloc] at h
        rw [← hW2b]
        exact h
      clear hW2b
      refine (ret_any W2b 2).mono ?_
      rintro e W3b ⟨gRb, rfl, hRb, hb3b⟩
      go_wp2_with fail
      refine (one_any W3b 2 4 0 _ _ _ _ _ _ _ _ _).mono ?_
      rintro e W4b ⟨gBb, rfl, hBb, hb4b⟩
      have HFb := Lib.hid (block_one (op := 18) (two := 3) (v := 2) ⟨by omega, by unfold maxLen; omega⟩ ⟨by omega, by unfold maxLen; omega⟩ ⟨by omega, by unfold maxLen; omega⟩ hBb ((hIb.below hb3b).below hb4b) ((hAb.below hb3b).below hb4b) (cell_keep hb4b (Nat.le_refl _) hRb))
      have HBb := Lib.hid ((hb2b.trans (hb3b.mono hb2b.size)).trans (hb4b.mono (Nat.le_trans hb2b.size hb3b.size)))
      have HKI := Lib.hid ((hIb.below hb3b).below hb4b)
      have HKA := Lib.hid ((hAb.below hb3b).below hb4b)
      clear hAb hIb hRb hBb hb2b hb3b hb4b
      go_wp2_with fail
      obtain ⟨W5b, hW5b⟩ : ∃ W5, W4b.alloc (.cells #[.int .i32 a0, .int .i32 a1] 21) = W5 := ⟨_, rfl⟩
      rw [hW5b]
      have hb5b : Below W4b.heap.size W4b W5b := by rw [← hW5b]; exact (Below.refl _ _).alloc (Nat.le_refl _) _
      have hVb : Str W5b W4b.heap.size 21 [.int .i32 a0, .int .i32 a1] := by rw [← hW5b]; exact World.alloc_heap_new W4b _
      clear hW5b
      refine (run_wide W5b gBb 2 2 (Or.inl rfl) (by omega) (HFb.out.keep hb5b) _ _ (words2 hVb ⟨by omega, fits (by omega)⟩) (in2 HA.out HB.out)).mono ?_
      rintro e W6b ⟨mAb, mnb, mcb, cAb, cnb, ckb, rfl, hb6b⟩
      rw [show (if (2 : Int) = 2 then wLow ([a0, a1].getD 0 0) ([a0, a1].getD 1 0) else wHigh ([a0, a1].getD 0 0) ([a0, a1].getD 1 0)) = wLow a0 a1 from if_pos rfl]
      go_upto_region 11 with (fail)
      obtain ⟨W7b, hW7b⟩ : ∃ W7b, W6b.alloc (.cells #[.int .i64 1, .int .i32 (wLow a0 a1), .slice mAb mnb mcb, .slice cAb cnb ckb, .int .i64 2] 26) = W7b := ⟨_, rfl⟩
      rw [hW7b]
      have hb7b : Below W6b.heap.size W6b W7b := by rw [← hW7b]; exact (Below.refl _ _).alloc (Nat.le_refl _) _
      have ho7b : Str W7b W6b.heap.size 26 [.int .i64 1, .int .i32 (wLow a0 a1), .slice mAb mnb mcb, .slice cAb cnb ckb, .int .i64 2] := by rw [← hW7b]; exact World.alloc_heap_new W6b _
      clear hW7b
      have hb47 := (hb5b.trans (hb6b.mono hb5b.size)).trans (hb7b.mono (Nat.le_trans hb5b.size hb6b.size))
      have HKI7 := Lib.hid (HKI.out.below hb47)
      have HKA7 := Lib.hid (HKA.out.below hb47)
      have HO7 := Lib.hid ho7b
      have HB7 := Lib.hid ((HBR.out.trans (HBb.out.mono HBR.out.size)).trans (hb47.mono (Nat.le_trans HBR.out.size HBb.out.size)))
      clear hb5b hb6b hb7b hVb ho7b hb47 HKI HKA
      go_wp2_with fail
      refine (ret_any W7b 3).mono ?_
      rintro e W3c ⟨gRc, rfl, hRc, hb3c⟩
      go_wp2_with fail
      refine (one_any W3c 2 4 0 _ _ _ _ _ _ _ _ _).mono ?_
      rintro e W4c ⟨gBc, rfl, hBc, hb4c⟩
      have HFc := Lib.hid (block_one (op := 18) (two := 3) (v := 3) ⟨by omega, by unfold maxLen; omega⟩ ⟨by omega, by unfold maxLen; omega⟩ ⟨by omega, by unfold maxLen; omega⟩ hBc ((HKI7.out.below hb3c).below hb4c) ((HKA7.out.below hb3c).below hb4c) (cell_keep hb4c (Nat.le_refl _) hRc))
      have HO4 := Lib.hid ((HO7.out.below hb3c).below hb4c)
      have HB4 := Lib.hid ((HB7.out.trans (hb3c.mono HB7.out.size)).trans (hb4c.mono (Nat.le_trans HB7.out.size hb3c.size)))
      clear hRc hBc hb3c hb4c
      go_wp2_with fail
      obtain ⟨W5c, hW5c⟩ : ∃ W5, W4c.alloc (.cells #[.int .i32 a0, .int .i32 a1, .int .i32 9] 21) = W5 := ⟨_, rfl⟩
      rw [hW5c]
      have hb5c : Below W4c.heap.size W4c W5c := by rw [← hW5c]; exact (Below.refl _ _).alloc (Nat.le_refl _) _
      have hVc : Str W5c W4c.heap.size 21 [.int .i32 a0, .int .i32 a1, .int .i32 9] := by rw [← hW5c]; exact World.alloc_heap_new W4c _
      clear hW5c
      refine (run_wide W5c gBc 3 9 (Or.inr rfl) (by omega) (HFc.out.keep hb5c) _ _ (words3 hVc ⟨by omega, fits (by omega)⟩) (in3 HA.out HB.out (small_w (by omega)))).mono ?_
      rintro e W6c ⟨mAc, mnc, mcc, cAc, cnc, ckc, rfl, hb6c⟩
      rw [show (if (3 : Int) = 2 then wLow ([a0, a1, 9].getD 0 0) ([a0, a1, 9].getD 1 0) else wHigh ([a0, a1, 9].getD 0 0) ([a0, a1, 9].getD 1 0)) = wHigh a0 a1 from if_neg (by omega)]
      go_upto_region 12 with (fail)
      obtain ⟨W7c, hW7c⟩ : ∃ W7c, W6c.alloc (.cells #[.int .i64 1, .int .i32 (wHigh a0 a1), .slice mAc mnc mcc, .slice cAc cnc ckc, .int .i64 2] 26) = W7c := ⟨_, rfl⟩
      rw [hW7c]
      have hb7c : Below W6c.heap.size W6c W7c := by rw [← hW7c]; exact (Below.refl _ _).alloc (Nat.le_refl _) _
      have ho7c : Str W7c W6c.heap.size 26 [.int .i64 1, .int .i32 (wHigh a0 a1), .slice mAc mnc mcc, .slice cAc cnc ckc, .int .i64 2] := by rw [← hW7c]; exact World.alloc_heap_new W6c _
      clear hW7c
      have hb47 := (hb5c.trans (hb6c.mono hb5c.size)).trans (hb7c.mono (Nat.le_trans hb5c.size hb6c.size))
      have ho7 := HO4.out.below hb47
      have q0 : W7c.cell? ⟨W6b.heap.size, 0, none⟩ = some (.int .i64 1) := ho7.cell 0
      have q1 : W7c.cell? ⟨W6b.heap.size, 1, none⟩ = some (.int .i32 (wLow a0 a1)) := ho7.cell 1
      have p0 : W7c.cell? ⟨W6c.heap.size, 0, none⟩ = some (.int .i64 1) := ho7c.cell 0
      have p1 : W7c.cell? ⟨W6c.heap.size, 1, none⟩ = some (.int .i32 (wHigh a0 a1)) := ho7c.cell 1
      have HBF := Lib.hid (HB4.out.trans (hb47.mono HB4.out.size))
      clear hb5c hb6c hb7c hVc ho7c hb47 ho7
      go_wp2_with fail
      refine (wide_w a0 a1 HA.out HB.out _).mono ?_
      rintro e w8 ⟨rfl, rfl⟩
      generalize wLow a0 a1 = x at *
      generalize wHigh a0 a1 = y at *
      go_wp2_with fail
      go_ret
      exact ⟨rfl, HBF.out⟩

/-! ### THE ROW's STEP: WRITTEN OUT: LEAVE IT -/
set_option maxRecDepth 100000 in
theorem lifted (os : Os) (started : os.Started) (H : Type) (enc : TypeId × Value → H) :
    ReturnsInHanded {} Try.checked os 3 .any (Rows.interpWordsSpec.pre6 enc Try.prog Try.f3 Rows.interpWordsRow.domain false) (Rows.interpWordsSpec.post enc Try.prog Try.f3 false true false false) := by
  refine returnsInHanded_of_change (C := Try.checked) own started (by kernel_rfl) Try.func3
    (ChangeSpec.witness6 (enc := enc) (C := Try.checked) false ⟨#[], #[.int .i32 0, .int .i32 0], []⟩ 8 (by kernel_rfl) (by kernel_rfl) (by kernel_rfl) (by kernel_rfl)) ?_
  intro W base args ds gs before hval0 hW hcnd _
  have hval : ∀ (j : Nat) t v, Try.f3.params[j]? = some t → args[j]? = some v → Value.okWide Try.prog W .any base t v := hval0
  have hW' := hW
  obtain ⟨p, q, hA0, hV, rfl, hfz, hnd⟩ := hW
  have hA : DataW.TrodAll enc Try.prog W 0 (fun _ => true) true Try.f3.params.toList args.toList ds p := hA0
  rw [Try.params3] at hA hval
  obtain ⟨v0, vs0, d0, ds0, p0, q0, hargs, rfl, rfl, h0, r0⟩ := trodAll_cons hA
  obtain ⟨v1, vs1, d1, ds1, p1, q1, rfl, rfl, rfl, h1, r1⟩ := trodAll_cons r0
  obtain ⟨rfl, rfl, rfl⟩ := trodAll_nil r1
  obtain rfl : args = #[v0, v1] := by cases args; simp_all
  obtain ⟨rfl, rfl⟩ := trodVars_none hV
  obtain ⟨a0, rfl, rfl, rfl, w0⟩ := open_int Try.underlying21 (hval 0 21 v0 rfl rfl) h0
  obtain ⟨a1, rfl, rfl, rfl, w1⟩ := open_int Try.underlying21 (hval 1 21 v1 rfl rfl) h1
  clear hA0 hval0
  simp only [List.append_nil] at hW'
  refine (walk a0 a1 w0 w1 W).mono fun e W' ⟨he, hg⟩ => ?_
  subst he
  exact ⟨_, rfl, _, _, _, [], [], [], hW', (trodAll_cons_mk (shut_bool Try.underlying4 _) trodAll_mk0), (trodAll_cons_mk (shut_int Try.underlying21 w0) (trodAll_cons_mk (shut_int Try.underlying21 w1) trodAll_mk0)), rfl, hg.frame _, fun h => by cases h⟩

theorem over : Rows.interpWordsRow.holds Try.pinned (OpenSpec.ofChange Rows.interpWordsSpec) :=
  OpenClaim.holds_of_wide 3 Try.f3 rfl rfl rfl rfl rfl rfl rfl ⟨rfl, rfl, rfl, rfl, rfl⟩ rfl rfl rfl rfl rfl (by kernel_rfl) Try.func3 (by kernel_rfl)
    (of_decide_eq_true (by kernel_rfl)) (by unfold Func.isWrapper; first | (rw [if_pos (by decide +kernel)]; kernel_rfl) | (rw [if_neg (by decide +kernel)]; exact ⟨rfl, rfl⟩))
    (fun os started H enc _ => lifted os started H enc)

/-- ████ THE STATEMENT ████ -/
theorem proved : Rows.InterpWordsSaid :=
  over
#print axioms proved
end Go.Proofs.Ytmppjbmdcdabpab.interpWords
