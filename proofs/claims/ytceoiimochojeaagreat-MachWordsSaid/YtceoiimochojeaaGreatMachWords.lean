/- What is proved: operations of two registers are the words', also with a number in the second one's place, and products are added to (law MachWords): for every three words the law answers true. Conditions: none beside those that the given form carries. -/
import Derived.Test.YtceoiimochojeaaGreatRows
import Derived.Test.YtceoiimochojeaaGreatMY
import Derived.Test.YtceoiimochojeaaGreatMV
import Derived.WalkKit
import Derived.Below
import Derived.ProofKit
import Derived.OpenShut
namespace Go.Proofs.YtceoiimochojeaaGreat.machWords
open Go.ChangeShapes Go.WideShapes Go.ChangeAt Go.RowKit
set_option linter.unusedVariables false      -- a walk need not use every 'w<i>' (that an integer argument fits its kind)

theorem own : ownKnob Tryz.prog.godebug = none := by kernel_rfl

open Go.Maps Go.Proofs.YtceoiimochojeaaGreat.Mem Go.Proofs.YtceoiimochojeaaGreat.Kc Go.Proofs.YtceoiimochojeaaGreat.Br Go.Proofs.YtceoiimochojeaaGreat.Pl Go.Proofs.YtceoiimochojeaaGreat.Gr Go.Proofs.YtceoiimochojeaaGreat.Wd Go.Proofs.YtceoiimochojeaaGreat.Mw Go.Proofs.YtceoiimochojeaaGreat.Mc

/-! ### STEP 1: THE WALK: the Go text returns true. 'Below w.heap.size w w'': the world has at most new blocks (Derived/RowKit3.lean). Part the cases AHEAD of 'go_enter' where a test parts the walk; take each callee by a contract of your own. -/
set_option maxRecDepth 100000 in
set_option maxHeartbeats 4000000 in
theorem walk (a0 : Int) (a1 : Int) (a2 : Int) (w0 : (Lit.int .i32 a0).wf = true) (w1 : (Lit.int .i32 a1).wf = true) (w2 : (Lit.int .i32 a2).wf = true) (w : World) :
    Calls Tryz.prog 6 #[.int .i32 a0, .int .i32 a1, .int .i32 a2] w fun e w' => e = .returned (.bool true) ∧ Below w.heap.size w w' := by
  have ha : InW a0 := bounds_i32 w0
  have hb : InW a1 := bounds_i32 w1
  have hc : InW a2 := bounds_i32 w2
  have HA := Lib.hid ha
  have HBB := Lib.hid hb
  have HCC := Lib.hid hc
  clear ha hb hc
  have HW4 := Lib.hid (show ∀ r, InW (getP [a0, a1, a2, 7] r) from getW (by intro x hx; simp at hx; rcases hx with rfl | rfl | rfl | rfl; exact HA.out; exact HBB.out; exact HCC.out; unfold InW; omega))
  have HW2 := Lib.hid (show ∀ r, InW (getP [a0, 7] r) from getW (by intro x hx; simp at hx; rcases hx with rfl | rfl; exact HA.out; unfold InW; omega))
  have HW5 := Lib.hid (show ∀ r, InW (getP [a0, a1, a2, 7, 8] r) from getW (by intro x hx; simp at hx; rcases hx with rfl | rfl | rfl | rfl | rfl; exact HA.out; exact HBB.out; exact HCC.out; unfold InW; omega; unfold InW; omega))
  have HTB := Lib.hid (show ∀ (g : Nat) (u v : World), Two (some g) none u v → w.heap.size ≤ g → Below w.heap.size w u → Below w.heap.size w v from fun g u v h hg hb => hb.trans ⟨h.os, h.tape, h.output, h.size, fun k hk => h.block k (by have := hb.size; omega) (fun e => by injection e with e; omega) (fun e => by cases e)⟩)
  go_enter Tryz.func6, Tryz.ntmps6
  go_wp2_with fail
  refine (shown_any w).mono ?_
  rintro e ws ⟨rfl, hs⟩
  have HBS := Lib.hid hs
  clear hs
  go_wp2_with fail
  go_loopw [8, 9, 10, 11, 12, 13] (fun j _ _ _ _ _ wr => ∃ op : Nat, 5 ≤ op ∧ op ≤ 18 ∧ j = .int .i64 op ∧ Below w.heap.size w wr) (fun j _ _ _ _ _ _ => 18 - (intOf j).toNat)
  case atStart => exact ⟨5, by omega, by omega, rfl, HBS.out⟩
  case round =>
    obtain ⟨op, o1, o2, rfl, hbr⟩ := hrel
    have HBR := Lib.hid hbr
    clear hbr
    by_cases hlt : op ≤ 17
    · go_upto_region 6 with (fail)
      obtain ⟨W1, hW1⟩ : ∃ W1, wr.alloc (.cells #[.int .i32 a0, .int .i32 a1, .int .i32 a2, .int .i32 7] 21) = W1 := ⟨_, rfl⟩
      have HOW1 := Lib.hid (own_lit (B := w.heap.size) [a0, a1, a2, 7] HBR.out.size (by simp) hW1)
      have HBW1 := Lib.hid (HBR.out.trans ((show Below wr.heap.size wr W1 by rw [← hW1]; exact (Below.refl _ _).alloc (Nat.le_refl _) _).mono HBR.out.size))
      rw [hW1]
      clear hW1
      have HGE := Lib.hid HBR.out.size
      have hop : (5 : Int) ≤ (op : Int) ∧ (op : Int) ≤ 17 := ⟨by omega, by omega⟩
      have HOP := Lib.hid hop
      clear hop
      go_wp2_with fail
      refine (mdo_any W1 (two op) none 0 0 _ (.slice none 0 0) w.heap.size [a0, a1, a2, 7] [] HOW1.out (World.ownsRow_nil _ _ _ _) (by simp) (Or.inr (by simp [Value.ownBlock])) ⟨by unfold InI two; simp, by unfold InI two; simp, by unfold InI two; simp, by unfold InI two; simp, by unfold InI two; simp⟩ (by unfold InW two; simp) HW4.out).mono ?_
      rintro e w3 ⟨rfl, h1, _, h3⟩
      have H1 := Lib.hid h1
      have HB3 := Lib.hid (HTB.out _ _ _ h3 HGE.out HBW1.out)
      clear h1 h3
      have he : (op : Int) - 5 + 2 = (op : Int) - 3 := by omega
      cases hd : doB ((op : Int) - 3) a1 with
      | true =>
        obtain ⟨e1, e2⟩ := two_ok (a := a0) (b := a1) (c := a2) HOP.out hd
        rw [e2] at H1
        rw [e1]
        have c3 := own_cell H1.out (k := 3) rfl
        have HD := Lib.hid hd
        clear hd e1 e2
        go_wp2_with fail
        refine (do_any ((op : Int) - 3) a0 a1 _).mono ?_
        rintro e w4 ⟨rfl, rfl⟩
        rw [HD.out]
        generalize doV ((op : Int) - 3) a0 a1 = x at *
        go_wp2_with fail
        exact ⟨⟨op + 1, by omega, by omega, by go_num, HB3.out⟩, by simp [intOf]; omega⟩
      | false =>
        obtain ⟨e1, e2⟩ := two_no (a := a0) (b := a1) (c := a2) HOP.out hd
        rw [e2] at H1
        rw [e1]
        have c3 := own_cell H1.out (k := 3) rfl
        have HD := Lib.hid hd
        clear hd e1 e2
        go_wp2_with fail
        refine (do_any ((op : Int) - 3) a0 a1 _).mono ?_
        rintro e w4 ⟨rfl, rfl⟩
        rw [HD.out]
        generalize doV ((op : Int) - 3) a0 a1 = x at *
        go_wp2_with fail
        exact ⟨⟨op + 1, by omega, by omega, by go_num, HB3.out⟩, by simp [intOf]; omega⟩
    · have hge : ¬ ((op : Int) ≤ 17) := by omega
      obtain ⟨wo, rfl⟩ : ∃ wo : World, wo = wr := ⟨_, rfl⟩
      go_upto_region 11 with (fail)
      obtain ⟨W2, hW2⟩ : ∃ W2, wo.alloc (.cells #[.int .i64 2, .int .i64 5, .int .i64 8, .int .i64 9, .int .i64 10] 58) = W2 := ⟨_, rfl⟩
      have hb2 : Below wo.heap.size wo W2 := by rw [← hW2]; exact (Below.refl _ _).alloc (Nat.le_refl _) _
      have hs2 : Str W2 wo.heap.size 58 [.int .i64 2, .int .i64 5, .int .i64 8, .int .i64 9, .int .i64 10] := by rw [← hW2]; exact World.alloc_heap_new wo _
      rw [hW2]
      clear hW2
      have HB2 := Lib.hid (HBR.out.trans (hb2.mono HBR.out.size))
      have HS2 := Lib.hid hs2
      have HZ := Lib.hid HBR.out.size
      clear hb2 hs2
      go_wp2_with fail
      go_loopw [15, 16, 17, 18] (fun j _ _ _ wr => ∃ k : Nat, k ≤ 5 ∧ j = .int .i64 k ∧ Below w.heap.size w wr ∧ Str wr wo.heap.size 58 [.int .i64 2, .int .i64 5, .int .i64 8, .int .i64 9, .int .i64 10]) (fun j _ _ _ _ => 5 - (intOf j).toNat)
      case atStart => exact ⟨0, by omega, rfl, HB2.out, HS2.out⟩
      case round =>
        obtain ⟨k, hk, rfl, hbq, hsq⟩ := hrel
        have HBQ := Lib.hid hbq
        have HSQ := Lib.hid hsq
        clear hbq hsq
        by_cases hlt : k < 5
        · have hcell : wr.cell? ⟨wo.heap.size, k, none⟩ = some (.int .i64 (plainL.getD k 0)) := by
            have h' : k = 0 ∨ k = 1 ∨ k = 2 ∨ k = 3 ∨ k = 4 := by omega
            rcases h' with rfl | rfl | rfl | rfl | rfl
            · exact HSQ.out.cell 0
            · exact HSQ.out.cell 1
            · exact HSQ.out.cell 2
            · exact HSQ.out.cell 3
            · exact HSQ.out.cell 4
          have HK := Lib.hid hlt
          obtain ⟨po, hpo⟩ : ∃ po, plainL.getD k 0 = po := ⟨_, rfl⟩
          rw [hpo] at hcell
          go_upto_region 15 with (fail)
          obtain ⟨W3, hW3⟩ : ∃ W3, wr.alloc (.cells #[.int .i32 a0, .int .i32 7] 21) = W3 := ⟨_, rfl⟩
          have HOW3 := Lib.hid (own_lit (B := w.heap.size) [a0, 7] HBQ.out.size (by simp) hW3)
          have HBW3 := Lib.hid (HBQ.out.trans ((show Below wr.heap.size wr W3 by rw [← hW3]; exact (Below.refl _ _).alloc (Nat.le_refl _) _).mono HBQ.out.size))
          have HBL3 := Lib.hid (show Below wr.heap.size wr W3 by rw [← hW3]; exact (Below.refl _ _).alloc (Nat.le_refl _) _)
          have HSZ3 := Lib.hid HBL3.out.size
          rw [hW3]
          clear hW3
          have HGE := Lib.hid HBQ.out.size
          have hne : wo.heap.size < wr.heap.size := HSQ.out.lt
          have HNE := Lib.hid hne
          clear hne
          go_wp2_with fail
          refine (mdo_any W3 (num (18 + (k : Int)) a1) none 0 0 _ (.slice none 0 0) w.heap.size [a0, 7] [] HOW3.out (World.ownsRow_nil _ _ _ _) (by simp) (Or.inr (by simp [Value.ownBlock])) ⟨by unfold InI num; simp, by unfold InI num; simp, by unfold InI num; simp, by unfold InI num; simp, by unfold InI num; simp⟩ HBB.out HW2.out).mono ?_
          rintro e w3 ⟨rfl, h1, _, h3⟩
          obtain ⟨e1, e2⟩ := num_ok (k := k) (a := a0) (b := a1) HK.out
          rw [e2, hpo] at h1
          rw [e1, hpo]
          have H1 := Lib.hid h1
          have HB3 := Lib.hid (HTB.out _ _ _ h3 HGE.out HBW3.out)
          have hs3 : Str w3 wo.heap.size 58 [.int .i64 2, .int .i64 5, .int .i64 8, .int .i64 9, .int .i64 10] := (h3.block _ (by have := HNE.out; have := HSZ3.out; omega) (fun e => by simp [Value.ownBlock] at e; have := HNE.out; omega) (fun e => by cases e)).trans (HSQ.out.below HBL3.out)
          have HS3 := Lib.hid hs3
          have hc3 : w3.cell? ⟨wo.heap.size, k, none⟩ = some (.int .i64 po) := by rw [World.cell?_of_block (show w3.heap[wo.heap.size]? = wr.heap[wo.heap.size]? from hs3.trans HSQ.out.symm)]; exact hcell
          have c1 := own_cell H1.out (k := 1) rfl
          clear h1 h3 e1 e2 hs3 hcell hpo
          obtain ⟨x, hx⟩ : ∃ x, doV po a0 a1 = x := ⟨_, rfl⟩
          rw [hx] at c1
          rw [hx]
          have HX := Lib.hid hx
          clear hx
          go_wp2_with fail
          refine (do_any po a0 a1 _).mono ?_
          rintro e w4 ⟨rfl, rfl⟩
          rw [HX.out]
          generalize doB po a1 = bb at *
          go_wp2_with fail
          exact ⟨⟨k + 1, by omega, by go_num, HB3.out, HS3.out⟩, by simp [intOf]; omega⟩
        · obtain rfl : k = 5 := by omega
          go_upto_region 20 with (fail)
          obtain ⟨W4, hW4⟩ : ∃ W4, wr.alloc (.cells #[.int .i32 a0, .int .i32 a1, .int .i32 a2, .int .i32 7, .int .i32 8] 21) = W4 := ⟨_, rfl⟩
          have HOW4 := Lib.hid (own_lit (B := w.heap.size) [a0, a1, a2, 7, 8] HBQ.out.size (by simp) hW4)
          have HBW4 := Lib.hid (HBQ.out.trans ((show Below wr.heap.size wr W4 by rw [← hW4]; exact (Below.refl _ _).alloc (Nat.le_refl _) _).mono HBQ.out.size))
          rw [hW4]
          clear hW4
          have HGE := Lib.hid HBQ.out.size
          go_wp2_with fail
          refine (mdo_any W4 mad none 0 0 _ (.slice none 0 0) w.heap.size [a0, a1, a2, 7, 8] [] HOW4.out (World.ownsRow_nil _ _ _ _) (by simp) (Or.inr (by simp [Value.ownBlock])) ⟨by unfold InI mad; simp, by unfold InI mad; simp, by unfold InI mad; simp, by unfold InI mad; simp, by unfold InI mad; simp⟩ (by unfold InW mad; simp) HW5.out).mono ?_
          rintro e w5 ⟨rfl, h1, _, h3⟩
          rw [mad_ok.1]
          rw [mad_ok.2] at h1
          have H1 := Lib.hid h1
          have HB5 := Lib.hid (HTB.out _ _ _ h3 HGE.out HBW4.out)
          have c3 := own_cell H1.out (k := 3) rfl
          have HWX := Lib.hid (show ∀ r, InW (getP [a0, a1, a2, wrap32 (wrap32 (a0 * a1) + a2), 8] r) from getW (by intro x hx; simp at hx; rcases hx with rfl | rfl | rfl | rfl | rfl; exact HA.out; exact HBB.out; exact HCC.out; exact wrap32_bd _; unfold InW; omega))
          clear h1 h3
          go_wp2_with fail
          refine (mdo_any w5 mul none 0 0 _ (.slice none 0 0) w.heap.size [a0, a1, a2, wrap32 (wrap32 (a0 * a1) + a2), 8] [] H1.out (World.ownsRow_nil _ _ _ _) (by simp) (Or.inr (by simp [Value.ownBlock])) ⟨by unfold InI mul; simp, by unfold InI mul; simp, by unfold InI mul; simp, by unfold InI mul; simp, by unfold InI mul; simp⟩ (by unfold InW mul; simp) HWX.out).mono ?_
          rintro e w6 ⟨rfl, h1, _, h3⟩
          rw [mul_ok.1]
          rw [mul_ok.2] at h1
          have H6 := Lib.hid h1
          have HB6 := Lib.hid (HTB.out _ _ _ h3 HGE.out HB5.out)
          have c3 := own_cell H6.out (k := 3) rfl
          have c4 := own_cell H6.out (k := 4) rfl
          clear h1 h3
          obtain ⟨x, hx⟩ : ∃ x, wLow a0 a1 = x := ⟨_, rfl⟩
          obtain ⟨y, hy⟩ : ∃ y, wHigh a0 a1 = y := ⟨_, rfl⟩
          rw [hx] at c3
          rw [hy] at c4
          have HX := Lib.hid hx
          have HY := Lib.hid hy
          rw [hx, hy]
          clear hx hy
          go_wp2_with fail
          refine (wide_any a0 a1 HA.out HBB.out _).mono ?_
          rintro e w7 ⟨rfl, rfl⟩
          rw [HX.out, HY.out]
          go_wp2_with fail
          go_ret
          exact ⟨rfl, HB6.out⟩

/-! ### THE ROW's STEP: WRITTEN OUT: LEAVE IT -/
set_option maxRecDepth 100000 in
theorem lifted (os : Os) (started : os.Started) (H : Type) (enc : TypeId × Value → H) :
    ReturnsInHanded {} Tryz.checked os 6 .any (Rows.machWordsSpec.pre6 enc Tryz.prog Tryz.f6 Rows.machWordsRow.domain false) (Rows.machWordsSpec.post enc Tryz.prog Tryz.f6 false true false false) := by
  refine returnsInHanded_of_change (C := Tryz.checked) own started (by kernel_rfl) Tryz.func6
    (ChangeSpec.witness6 (enc := enc) (C := Tryz.checked) false ⟨#[], #[.int .i32 0, .int .i32 0, .int .i32 0], []⟩ 8 (by kernel_rfl) (by kernel_rfl) (by kernel_rfl) (by kernel_rfl)) ?_
  intro W base args ds gs before hval0 hW hcnd _
  have hval : ∀ (j : Nat) t v, Tryz.f6.params[j]? = some t → args[j]? = some v → Value.okWide Tryz.prog W .any base t v := hval0
  have hW' := hW
  obtain ⟨p, q, hA0, hV, rfl, hfz, hnd⟩ := hW
  have hA : DataW.TrodAll enc Tryz.prog W 0 (fun _ => true) true Tryz.f6.params.toList args.toList ds p := hA0
  rw [Tryz.params6] at hA hval
  obtain ⟨v0, vs0, d0, ds0, p0, q0, hargs, rfl, rfl, h0, r0⟩ := trodAll_cons hA
  obtain ⟨v1, vs1, d1, ds1, p1, q1, rfl, rfl, rfl, h1, r1⟩ := trodAll_cons r0
  obtain ⟨v2, vs2, d2, ds2, p2, q2, rfl, rfl, rfl, h2, r2⟩ := trodAll_cons r1
  obtain ⟨rfl, rfl, rfl⟩ := trodAll_nil r2
  obtain rfl : args = #[v0, v1, v2] := by cases args; simp_all
  obtain ⟨rfl, rfl⟩ := trodVars_none hV
  obtain ⟨a0, rfl, rfl, rfl, w0⟩ := open_int Tryz.underlying21 (hval 0 21 v0 rfl rfl) h0
  obtain ⟨a1, rfl, rfl, rfl, w1⟩ := open_int Tryz.underlying21 (hval 1 21 v1 rfl rfl) h1
  obtain ⟨a2, rfl, rfl, rfl, w2⟩ := open_int Tryz.underlying21 (hval 2 21 v2 rfl rfl) h2
  clear hA0 hval0
  simp only [List.append_nil] at hW'
  refine (walk a0 a1 a2 w0 w1 w2 W).mono fun e W' ⟨he, hg⟩ => ?_
  subst he
  exact ⟨_, rfl, _, _, _, [], [], [], hW', (trodAll_cons_mk (shut_bool Tryz.underlying4 _) trodAll_mk0), (trodAll_cons_mk (shut_int Tryz.underlying21 w0) (trodAll_cons_mk (shut_int Tryz.underlying21 w1) (trodAll_cons_mk (shut_int Tryz.underlying21 w2) trodAll_mk0))), rfl, hg.frame _, fun h => by cases h⟩

theorem over : Rows.machWordsRow.holds Tryz.pinned (OpenSpec.ofChange Rows.machWordsSpec) :=
  OpenClaim.holds_of_wide 6 Tryz.f6 rfl rfl rfl rfl rfl rfl rfl ⟨rfl, rfl, rfl, rfl, rfl⟩ rfl rfl rfl rfl rfl (by kernel_rfl) Tryz.func6 (by kernel_rfl)
    (of_decide_eq_true (by kernel_rfl)) (by unfold Func.isWrapper; first | (rw [if_pos (by decide +kernel)]; kernel_rfl) | (rw [if_neg (by decide +kernel)]; exact ⟨rfl, rfl⟩))
    (fun os started H enc _ => lifted os started H enc)

/-- ████ THE STATEMENT ████ -/
theorem proved : Rows.MachWordsSaid :=
  over
#print axioms proved
end Go.Proofs.YtceoiimochojeaaGreat.machWords
