/- Stage 4: when outcomes are the same: the document's answer. -/
import Derived.Test.YtcangooibfddmaaISame
namespace Go.Proofs.Ytcangooibfddmaa.Ic
open Go.ChangeShapes Go.WideShapes Go.ChangeAt Go.RowKit Go.Maps Go.Proofs.Ytcangooibfddmaa.Mem Go.Proofs.Ytcangooibfddmaa.Kc Go.Proofs.Ytcangooibfddmaa.Br Go.Proofs.Ytcangooibfddmaa.Pl Go.Proofs.Ytcangooibfddmaa.Gr
set_option linter.unusedVariables false
set_option maxRecDepth 100000 in
set_option maxHeartbeats 4000000 in
theorem refSame_any (w : World) (ma ca mb cb : Value) (a b : POut) (ha : OutAt w ma ca a) (hb : OutAt w mb cb b) :
    Calls Try.prog 29 #[.agg #[.int .i64 a.how, .int .i32 a.val, ma, ca, .int .i64 a.steps], .agg #[.int .i64 b.how, .int .i32 b.val, mb, cb, .int .i64 b.steps]] w (TellsB (sameP a b) w) := by
  have HA := Lib.hid ha
  have HB := Lib.hid hb
  obtain ⟨Am, am, rfl, _⟩ := id ha.mem
  obtain ⟨Ac, ac, _, _, rfl, _, acm, _⟩ := id ha.calls
  obtain ⟨Bm, bm, rfl, _⟩ := id hb.mem
  obtain ⟨Bc, bc, _, _, rfl, _, bcm, _⟩ := id hb.calls
  have hla : a.calls.length ≤ 9223372036854775807 := by
    obtain ⟨_, _, _, _, e, h1, h2, _⟩ := ha.calls
    unfold maxLen at h2
    omega
  clear ha hb
  obtain ⟨W, hW⟩ : ∃ W, (w.alloc (.cells #[.int .i64 a.how, .int .i32 a.val, .slice Am a.mem.length am, .slice Ac a.calls.length ac, .int .i64 a.steps] 45)).alloc (.cells #[.int .i64 b.how, .int .i32 b.val, .slice Bm b.mem.length bm, .slice Bc b.calls.length bc, .int .i64 b.steps] 45) = W := ⟨_, rfl⟩
  have hbW : Below w.heap.size w W := by rw [← hW]; exact ((Below.refl _ _).alloc (Nat.le_refl _) _).alloc (by simp) _
  have hs0 : Str W w.heap.size 45 (outV a (.slice Am a.mem.length am) (.slice Ac a.calls.length ac)) := by rw [← hW]; exact Str.below (World.alloc_heap_new w _) ((Below.refl _ _).alloc (Nat.le_refl _) _)
  have hs1 : Str W (w.heap.size + 1) 45 (outV b (.slice Bm b.mem.length bm) (.slice Bc b.calls.length bc)) := by
    rw [← hW]
    have h : Str _ (w.alloc (.cells #[.int .i64 a.how, .int .i32 a.val, .slice Am a.mem.length am, .slice Ac a.calls.length ac, .int .i64 a.steps] 45)).heap.size 45 (outV b (.slice Bm b.mem.length bm) (.slice Bc b.calls.length bc)) := World.alloc_heap_new (w.alloc (.cells #[.int .i64 a.how, .int .i32 a.val, .slice Am a.mem.length am, .slice Ac a.calls.length ac, .int .i64 a.steps] 45)) _
    simp only [World.size_alloc] at h
    exact h
  have HAW := Lib.hid (HA.out.below hbW)
  have HBW := Lib.hid (HB.out.below hbW)
  have HBB := Lib.hid hbW
  have HW := Lib.hid hW
  have hzW := hbW.size
  clear hbW hW acm bcm
  have a0 : W.cell? ⟨w.heap.size, 0, none⟩ = some (.int .i64 a.how) := hs0.cell 0
  have a1 : W.cell? ⟨w.heap.size, 1, none⟩ = some (.int .i32 a.val) := hs0.cell 1
  have a2 : W.cell? ⟨w.heap.size, 2, none⟩ = some (.slice Am a.mem.length am) := hs0.cell 2
  have a3 : W.cell? ⟨w.heap.size, 3, none⟩ = some (.slice Ac a.calls.length ac) := hs0.cell 3
  have b0 : W.cell? ⟨w.heap.size + 1, 0, none⟩ = some (.int .i64 b.how) := hs1.cell 0
  have b1 : W.cell? ⟨w.heap.size + 1, 1, none⟩ = some (.int .i32 b.val) := hs1.cell 1
  have b2 : W.cell? ⟨w.heap.size + 1, 2, none⟩ = some (.slice Bm b.mem.length bm) := hs1.cell 2
  have b3 : W.cell? ⟨w.heap.size + 1, 3, none⟩ = some (.slice Bc b.calls.length bc) := hs1.cell 3
  clear hs0 hs1
  have HSP := Lib.hid (show sameP a b = (decide (a.how = b.how) && (decide (a.val = b.val) && (decide (a.mem = b.mem) && decide (a.calls = b.calls)))) from rfl)
  cases h0 : (a.how != b.how) with
  | true =>
    have HF := Lib.hid (show sameP a b = false by rw [HSP.out, decide_eq_false (bne_iff_ne.1 h0)]; rfl)
    go_enter Try.func29, Try.ntmps29
    go_upto_region 1 with (fail)
    rw [HW.out]
    go_wp2
    go_ret
    exact ⟨by rw [HF.out]; rfl, HBB.out⟩
  | false =>
    have h0e : a.how = b.how := by simpa using h0
    cases h1 : (a.val != b.val) with
    | true =>
      have HF := Lib.hid (show sameP a b = false by rw [HSP.out, decide_eq_false (bne_iff_ne.1 h1)]; simp)
      clear h0e
      go_enter Try.func29, Try.ntmps29
      go_upto_region 1 with (fail)
      rw [HW.out]
      go_wp2
      go_ret
      exact ⟨by rw [HF.out]; rfl, HBB.out⟩
    | false =>
      have h1e : a.val = b.val := by simpa using h1
      have HF := Lib.hid (show sameP a b = (decide (a.mem = b.mem) && decide (a.calls = b.calls)) by rw [HSP.out, decide_eq_true h0e, decide_eq_true h1e]; simp)
      clear h0e h1e
      go_enter Try.func29, Try.ntmps29
      go_upto_region 1 with (fail)
      rw [HW.out]
      go_wp2_with fail
      refine (words_any W _ _ a.mem b.mem HAW.out.mem HBW.out.mem).mono ?_
      rintro e w2 ⟨rfl, n, rfl⟩
      cases hm : decide (a.mem = b.mem) with
      | false =>
        have HFF := Lib.hid (show sameP a b = false by rw [HF.out, hm]; rfl)
        clear hm
        go_wp2
        go_ret
        exact ⟨by rw [HFF.out]; rfl, below_drewK HBB.out n⟩
      | true =>
        have HFF := Lib.hid (show sameP a b = decide (a.calls = b.calls) by rw [HF.out, hm]; rfl)
        clear hm
        by_cases hl : a.calls.length = b.calls.length
        · have hlb : ((a.calls.length : Int) != (b.calls.length : Int)) = false := by rw [hl]; simp
          have HL := Lib.hid hl
          clear hl
          go_wp2_with fail
          go_loopw [5] (fun i wr => ∃ k n : Nat, k ≤ a.calls.length ∧ i = .int .i64 k ∧ a.calls.take k = b.calls.take k ∧ wr = W.drewN n) (fun i _ => a.calls.length - (intOf i).toNat)
          case atStart => exact ⟨0, n, by omega, rfl, by simp, rfl⟩
          case round =>
            obtain ⟨k, m, hk, rfl, hpre, hw⟩ := hrel
            obtain ⟨wo, rfl⟩ : ∃ wo : World, wo = wr := ⟨_, rfl⟩
            have HPRE := Lib.hid hpre
            have HWO := Lib.hid hw
            have a3' : wo.cell? ⟨w.heap.size, 3, none⟩ = some (.slice Ac a.calls.length ac) := by rw [hw]; exact a3
            have b3' : wo.cell? ⟨w.heap.size + 1, 3, none⟩ = some (.slice Bc b.calls.length bc) := by rw [hw]; exact b3
            have hbwo : Below W.heap.size W wo := by rw [hw]; exact below_drewK (Below.refl _ _) m
            clear hpre hw
            by_cases hlt : k < a.calls.length
            · have hrl : k < b.calls.length := by have := HL.out; omega
              obtain ⟨_, _, ba, oa, ea, e1, e2, e3, e4⟩ := HAW.out.calls
              injection ea with ea1 ea2 ea3
              subst ea1 ea3
              obtain rfl := e3 (by omega)
              obtain ⟨x0, u, x1, hu⟩ := EvAt.keep_to (e4 k hlt) hbwo
              obtain ⟨_, _, bb, ob, eb, f1, f2, f3, f4⟩ := HBW.out.calls
              injection eb with eb1 eb2 eb3
              subst eb1 eb3
              obtain rfl := f3 (by omega)
              obtain ⟨y0, v, y1, hv⟩ := EvAt.keep_to (f4 k hrl) hbwo
              have HT := Lib.hid (show a.calls.take (k + 1) = a.calls.take k ++ [a.calls[k]] from List.take_succ_eq_append_getElem hlt)
              have HR := Lib.hid (show b.calls.take (k + 1) = b.calls.take k ++ [b.calls[k]] from List.take_succ_eq_append_getElem hrl)
              have HNE := Lib.hid (show a.calls[k] ≠ b.calls[k] → decide (a.calls = b.calls) = false from fun hne => decide_eq_false (fun e => hne (by
                have h9 : a.calls[k]? = b.calls[k]? := by rw [e]
                rw [List.getElem?_eq_getElem hlt, List.getElem?_eq_getElem hrl] at h9
                exact Option.some.inj h9)))
              generalize a.calls[k] = p at *
              generalize b.calls[k] = q at *
              obtain ⟨c, lc⟩ := p
              obtain ⟨d, ld⟩ := q
              simp only at x0 y0 hu hv
              obtain ⟨uA, uc, rfl, _⟩ := id hu
              obtain ⟨vA, vc, rfl, _⟩ := id hv
              have HU := Lib.hid hu
              have HVV := Lib.hid hv
              clear hu hv e1 e2 e3 e4 f1 f2 f3 f4 hbwo ea2 eb2
              cases hcd : (c != d) with
              | true =>
                have HFN := Lib.hid (HNE.out (fun e => by injection e with e _; rw [e] at hcd; simp at hcd))
                clear HT HR HNE
                go_wp2_with fail
                go_quiet (fail)
                go_wp2
                go_ret
                refine ⟨by rw [HFF.out, HFN.out]; rfl, ?_⟩
                rw [HWO.out]
                exact below_drewK (below_drewK HBB.out m) _
              | false =>
                have hcd2 : c = d := by simpa using hcd
                obtain ⟨r, hr⟩ : ∃ r, decide (lc = ld) = r := ⟨_, rfl⟩
                have HWQ := Lib.hid (show ∀ z, Calls Try.prog 25 #[.slice uA lc.length uc, .slice vA ld.length vc] (wo.drewN z) fun e w' => e = .returned (.bool r) ∧ ∃ y, w' = (wo.drewN z).drewN y from fun z => by
                  have h := words_any (wo.drewN z) _ _ lc ld (HU.out.below (below_drewK (Below.refl _ _) z)) (HVV.out.below (below_drewK (Below.refl _ _) z))
                  rw [hr] at h
                  exact h)
                cases r with
                | false =>
                  have HFN := Lib.hid (HNE.out (fun e => by injection e with _ e; exact (of_decide_eq_false hr) e))
                  clear HT HR HNE hr hcd2
                  go_wp2_with fail
                  go_quiet ((go_at_call 25; exact Calls.quiet_of (HWQ.out _)))
                  go_wp2
                  go_ret
                  refine ⟨by rw [HFF.out, HFN.out]; rfl, ?_⟩
                  rw [HWO.out]
                  exact below_drewK (below_drewK HBB.out m) _
                | true =>
                  have HFN := Lib.hid (show a.calls.take (k + 1) = b.calls.take (k + 1) by rw [HT.out, HR.out, HPRE.out, hcd2, of_decide_eq_true hr])
                  clear HT HR HNE hr hcd2
                  go_wp2_with fail
                  go_quiet ((go_at_call 25; exact Calls.quiet_of (HWQ.out _)))
                  go_wp2
                  exact ⟨⟨k + 1, m + nq, by omega, by go_num, HFN.out, by rw [HWO.out]; simp [World.drewN, Nat.add_assoc]⟩, by simp [intOf]; omega⟩
            · obtain rfl : k = a.calls.length := by omega
              have HFN := Lib.hid (show decide (a.calls = b.calls) = true from decide_eq_true (by have h9 := HPRE.out; rw [List.take_length, HL.out, List.take_length] at h9; exact h9))
              clear hbwo
              go_wp2
              go_ret
              refine ⟨by rw [HFF.out, HFN.out]; rfl, ?_⟩
              rw [HWO.out]
              exact below_drewK HBB.out m
        · have HFN := Lib.hid (show decide (a.calls = b.calls) = false from decide_eq_false (fun e => hl (by rw [e])))
          have hlb : ((a.calls.length : Int) != (b.calls.length : Int)) = true := by rw [bne_iff_ne]; omega
          clear hl
          go_wp2
          go_ret
          exact ⟨by rw [HFF.out, HFN.out]; rfl, below_drewK HBB.out n⟩
end Go.Proofs.Ytcangooibfddmaa.Ic
