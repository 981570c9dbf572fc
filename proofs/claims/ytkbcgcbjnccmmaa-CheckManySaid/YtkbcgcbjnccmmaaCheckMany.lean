/- What is proved: as many blocks, and things, as may be may be, and not one more (law CheckMany): for every number of blocks and of instructions the law answers true. Conditions: none beside those that the given form carries. -/
import Derived.Test.YtkbcgcbjnccmmaaRows
import Derived.Test.YtkbcgcbjnccmmaaUN
import Derived.Test.YtkbcgcbjnccmmaaHeld
import Derived.Test.YtkbcgcbjnccmmaaAnd16
import Derived.Deep.QuietTactic
import Derived.BigQuiet
import Derived.Deep.DeepCutAuto
import Derived.WalkKit
import Derived.Below
import Derived.ProofKit
import Derived.OpenShut
namespace Go.Proofs.Ytkbcgcbjnccmmaa.checkMany
open Go.ChangeShapes Go.WideShapes Go.ChangeAt Go.RowKit
set_option linter.unusedVariables false      -- a walk need not use every 'w<i>' (that an integer argument fits its kind)

theorem own : ownKnob Try.prog.godebug = none := by kernel_rfl

open Go.Maps Go.Proofs.Ytkbcgcbjnccmmaa.Mem Go.Proofs.Ytkbcgcbjnccmmaa.Kc Go.Proofs.Ytkbcgcbjnccmmaa.Br Go.Proofs.Ytkbcgcbjnccmmaa.Gr

/-! ### STEP 1: THE WALK: the Go text returns true. 'Below w.heap.size w w'': the world has at most new blocks (Derived/RowKit3.lean). Part the cases AHEAD of 'go_enter' where a test parts the walk; take each callee by a contract of your own. -/
set_option maxRecDepth 100000 in
set_option maxHeartbeats 2000000 in
theorem walk (a0 : Int) (a1 : Int) (w0 : (Lit.int .i64 a0).wf = true) (w1 : (Lit.int .i64 a1).wf = true) (w : World) :
    Calls Try.prog 4 #[.int .i64 a0, .int .i64 a1] w fun e w' => e = .returned (.bool true) ∧ Below w.heap.size w w' := by
  obtain ⟨i0, hi, hz0, hz1, hz2⟩ := info_parts info_block
  have HI0 := Lib.hid hi
  have HZ0 := Lib.hid hz0
  have HZ1 := Lib.hid hz1
  have HZ2 := Lib.hid hz2
  obtain ⟨i1, hi, hz0, hz1, hz2⟩ := info_parts info_ins
  have HI1 := Lib.hid hi
  have HY0 := Lib.hid hz0
  have HY1 := Lib.hid hz1
  have HY2 := Lib.hid hz2
  clear hi hz0 hz1 hz2
  go_enter Try.func4, Try.ntmps4
  go_wp2_with fail
  refine (shown_any w).mono ?_
  rintro e ws ⟨rfl, hs⟩
  have HBS := Lib.hid hs
  have hzs := hs.size
  clear hs
  go_upto_region 5 with (fail)
  rw [and16, and16]
  obtain ⟨m, hm⟩ : ∃ m : Nat, a0 % 65536 % 600 = m := ⟨(a0 % 65536 % 600).toNat, by omega⟩
  obtain ⟨more, hmo⟩ : ∃ m : Nat, a1 % 65536 % 5000 = m := ⟨(a1 % 65536 % 5000).toNat, by omega⟩
  rw [show (a0 % 65536).tmod 600 = (m : Int) by rw [← hm]; exact Int.tmod_eq_emod_of_nonneg (by omega), show (a1 % 65536).tmod 5000 = (more : Int) by rw [← hmo]; exact Int.tmod_eq_emod_of_nonneg (by omega)]
  obtain ⟨n, hn⟩ : ∃ n : Nat, wrap64 (1 + (m : Int)) = n := ⟨m + 1, by unfold RowKit.wrap64; omega⟩
  rw [hn]
  have hn1 : 1 ≤ n := by unfold RowKit.wrap64 at hn; omega
  have hn6 : n ≤ 600 := by unfold RowKit.wrap64 at hn; omega
  have hmo5 : more < 5000 := by omega
  clear hm hmo hn
  generalize (m : Int) = mz
  clear m
  obtain ⟨W1, hLW1⟩ : ∃ W, ws.alloc (.cells #[.int .i64 0, .slice none 0 0] 24) = W := ⟨_, rfl⟩
  rw [hLW1]
  have hMW1 : laid ws [([.int .i64 0, .slice none 0 0], 24)] = W1 := hLW1
  have hbW1 : Below ws.heap.size ws W1 := by rw [← hMW1]; exact laid_below _ _ _ (Nat.le_refl _)
  have q0 : Str W1 (ws.heap.size) 24 [.int .i64 0, .slice none 0 0] := by rw [← hMW1]; exact laid_at _ ws 0 _ _ rfl
  have hzW1 : W1.heap.size = ws.heap.size + 1 := by rw [← hMW1]; exact laid_size _ _
  clear hLW1 hMW1
  obtain ⟨fb, hfb⟩ : ∃ fb, ws.heap.size = fb := ⟨_, rfl⟩
  have HM1 := Lib.hid (show ManyAt w.heap.size fb n 0 (.slice none 0 0) W1 from ⟨by rw [← hfb]; exact q0, ⟨[], World.ownsRow_nil _ _ _ _, fun j hj => absurd hj (by omega)⟩, by omega⟩)
  have HB1 := Lib.hid (HBS.out.trans (hbW1.mono hzs))
  have hfw : w.heap.size ≤ fb := by omega
  clear q0 hbW1 hzW1
  rw [hfb]
  clear hfb
  go_wp2_with fail
  go_loopw [7, 8] (fun i _ wr => ∃ (k : Nat) (vB : Value), k ≤ n ∧ i = .int .i64 k ∧ ManyAt w.heap.size fb n k vB wr ∧ Below w.heap.size w wr) (fun i _ _ => n - (intOf i).toNat)
  case atStart => exact ⟨0, _, by omega, rfl, HM1.out, HB1.out⟩
  case round =>
    obtain ⟨k, vB, hk, rfl, hma, hb⟩ := hrel
    obtain ⟨wo, rfl⟩ : ∃ wo : World, wo = wr := ⟨_, rfl⟩
    have HMA := Lib.hid hma
    have HBo := Lib.hid hb
    have hzo := hb.size
    have hfl := hma.box.lt
    clear hma hb
    by_cases hlt : k < n
    · go_upto_region 9 with (fail)
      obtain ⟨W2, hLW2⟩ : ∃ W, wo.alloc (.cells #[.int .i64 4, .slice none 0 0, .slice none 0 0, .int .i32 0] 30) = W := ⟨_, rfl⟩
      rw [hLW2]
      have hMW2 : laid wo [([.int .i64 4, .slice none 0 0, .slice none 0 0, .int .i32 0], 30)] = W2 := hLW2
      have hbW2 : Below wo.heap.size wo W2 := by rw [← hMW2]; exact laid_below _ _ _ (Nat.le_refl _)
      have q0 : Str W2 (wo.heap.size) 30 [.int .i64 4, .slice none 0 0, .slice none 0 0, .int .i32 0] := by rw [← hMW2]; exact laid_at _ wo 0 _ _ rfl
      have hzW2 : W2.heap.size = wo.heap.size + 1 := by rw [← hMW2]; exact laid_size _ _
      clear hLW2 hMW2
      have t0 := q0.cell 0
      have t1 := q0.cell 1
      have t2 := q0.cell 2
      have t3 := q0.cell 3
      have g0 := q0.frozen 0
      have g1 := q0.frozen 1
      have g2 := q0.frozen 2
      have g3 := q0.frozen 3
      by_cases hjmp : k + 1 < n
      · go_upto_region 11 with (fail)
        obtain ⟨W3, hW3⟩ : ∃ W3, (((W2.setCell ⟨wo.heap.size, 0, none⟩ (.int .i64 1)).setCell ⟨wo.heap.size, 1, none⟩ (.slice none 0 0)).setCell ⟨wo.heap.size, 2, none⟩ (.slice (some ⟨wo.heap.size + 1, 0, none⟩) 1 1)).setCell ⟨wo.heap.size, 3, none⟩ (.int .i32 0) = W3 := ⟨_, rfl⟩
        rw [hW3]
        have q3 : Str W3 wo.heap.size 30 [.int .i64 1, .slice none 0 0, .slice (some ⟨wo.heap.size + 1, 0, none⟩) 1 1, .int .i32 0] := by rw [← hW3]; exact (((q0.set 0 _).set 1 _).set 2 _).set 3 _
        have hb3 : Below wo.heap.size wo W3 := by rw [← hW3]; exact (((hbW2.setCell (p := ⟨wo.heap.size, 0, none⟩) (Nat.le_refl _) _).setCell (p := ⟨wo.heap.size, 1, none⟩) (Nat.le_refl _) _).setCell (p := ⟨wo.heap.size, 2, none⟩) (Nat.le_refl _) _).setCell (p := ⟨wo.heap.size, 3, none⟩) (Nat.le_refl _) _
        have hz3 : W3.heap.size = wo.heap.size + 1 := by rw [← hW3]; simp [hzW2]
        clear hW3 t0 t1 t2 t3 g0 g1 g2 g3 q0 hbW2
        obtain ⟨W4, hW4⟩ : ∃ W4, W3.alloc (.cells #[.int .i64 ((k : Int) + 1)] 3) = W4 := ⟨_, rfl⟩
        rw [hW4]
        have hb4 : Below W3.heap.size W3 W4 := by rw [← hW4]; exact (Below.refl _ _).alloc (Nat.le_refl _) _
        have q4 : Str W4 W3.heap.size 3 [.int .i64 ((k : Int) + 1)] := by rw [← hW4]; exact World.alloc_heap_new W3 _
        rw [hz3] at q4
        have q3 := q3.below hb4
        have t0 := q3.cell 0
        have t1 := q3.cell 1
        have t2 := q3.cell 2
        have t3 := q3.cell 3
        have hb5 := hb3.trans (hb4.mono hb3.size)
        have HMAW4 := Lib.hid (HMA.out.below hb5)
        have HBW4 := Lib.hid (HBo.out.trans (hb5.mono hzo))
        have c1 : W4.cell? ⟨fb, 1, none⟩ = some vB := HMAW4.out.box.cell 1
        have HQ4 := Lib.hid q4
        clear hW4 hb4 q4 q3 hb3 hb5
        obtain ⟨W5, hLW5⟩ : ∃ W, W4.alloc (.cells #[.slice none 0 0, .slice none 0 0, .int .i64 1, .slice none 0 0, .slice (some ⟨wo.heap.size + 1, 0, none⟩) 1 1, .int .i32 0] 34) = W := ⟨_, rfl⟩
        have hMW5 : laid W4 [([.slice none 0 0, .slice none 0 0, .int .i64 1, .slice none 0 0, .slice (some ⟨wo.heap.size + 1, 0, none⟩) 1 1, .int .i32 0], 34)] = W5 := hLW5
        have hbW5 : Below W4.heap.size W4 W5 := by rw [← hMW5]; exact laid_below _ _ _ (Nat.le_refl _)
        have p0 : Str W5 (W4.heap.size) 34 [.slice none 0 0, .slice none 0 0, .int .i64 1, .slice none 0 0, .slice (some ⟨wo.heap.size + 1, 0, none⟩) 1 1, .int .i32 0] := by rw [← hMW5]; exact laid_at _ W4 0 _ _ rfl
        have hzW5 : W5.heap.size = W4.heap.size + 1 := by rw [← hMW5]; exact laid_size _ _
        clear hMW5
        obtain ⟨es, h1, h3⟩ := (HMAW4.out.below hbW5).row
        have HLW := Lib.hid hLW5
        have HP0 := Lib.hid p0
        have HE1 := Lib.hid h1
        have HE3 := Lib.hid h3
        have HB5 := Lib.hid hbW5
        have hz5 := hbW5.size
        have HBX5 := Lib.hid ((HMAW4.out.below hbW5).box)
        have HW5 := Lib.hid (HBW4.out.trans (hbW5.mono (by have := HBW4.out.size; omega)))
        have HNEW := Lib.hid (show ToCells W5 (es ++ cellsJ (.slice (some ⟨wo.heap.size + 1, 0, none⟩) 1 1) 1) n k (.slice none 0 0) from Or.inl ⟨by omega, rfl, _, HQ4.out.below hbW5, fun i hi => by
          have hl : es.length = 6 * k := by have := h1.1; omega
          rw [List.getElem?_append_right (by omega), hl, show 6 * k + i - 6 * k = i by omega]⟩)
        have HLEN := Lib.hid (show es.length = 6 * k by have := h1.1; omega)
        clear hLW5 p0 h1 h3 hbW5 hzW5
        go_wp2_with (at_builtin; rw [HLW.out]; refine wpList_appendM rfl _ _ _ rfl w.heap.size 34 i0 (.agg #[.slice none 0 0, .slice none 0 0, .int .i64 0, .slice none 0 0, .slice none 0 0, .int .i32 0]) 6 112 Try.underlying22 HI0.out HZ0.out HZ1.out HZ2.out rfl (by decide) vB k es rfl HE1.out ⟨W4.heap.size, 0, none⟩ (cellsJ (.slice (some ⟨wo.heap.size + 1, 0, none⟩) 1 1) 1) rfl rfl ?news ?one (by omega) (by omega) (by have := HW5.out.size; omega) ?_)
        case news =>
          intro j u hj
          rw [Go.Proofs.Ytkbcgcbjnccmmaa.Mem.at_add0, HP0.out.cell j]
          exact hj
        case one =>
          intro u hu
          simp only [cellsJ, List.mem_cons, List.not_mem_nil, or_false] at hu
          rcases hu with rfl | rfl | rfl | rfl | rfl | rfl <;> rfl
        intro v6 w6 hr6 hg6 hm6
        obtain ⟨x1, x2, x3⟩ := ManyAt.blocked HBX5.out HMA.out.far HE1.out HE3.out HNEW.out rfl hr6 hg6
        have HX3 := Lib.hid x3
        have HB6 := Lib.hid (below_own HW5.out hg6 (fun g hg => (HE1.out.lt g hg).1))
        obtain ⟨bA, bc, hbf⟩ := own_form hr6
        subst hbf
        clear hr6 hg6 hm6 x3
        go_wp2
        go_roundw
        case rel => exact ⟨k + 1, _, by omega, by go_num, HX3.out, HB6.out.setCell (p := ⟨fb, 1, none⟩) hfw _⟩
        case measure => simp [intOf]; omega
      · have HKN := Lib.hid (show k + 1 = n by omega)
        go_upto_region 11 with (fail)
        have HMAW2 := Lib.hid (HMA.out.below hbW2)
        have HBW2 := Lib.hid (HBo.out.trans (hbW2.mono hzo))
        have c1 : W2.cell? ⟨fb, 1, none⟩ = some vB := HMAW2.out.box.cell 1
        clear hbW2 q0 g0 g1 g2 g3 hzW2
        obtain ⟨W5, hLW5⟩ : ∃ W, W2.alloc (.cells #[.slice none 0 0, .slice none 0 0, .int .i64 4, .slice none 0 0, .slice none 0 0, .int .i32 0] 34) = W := ⟨_, rfl⟩
        have hMW5 : laid W2 [([.slice none 0 0, .slice none 0 0, .int .i64 4, .slice none 0 0, .slice none 0 0, .int .i32 0], 34)] = W5 := hLW5
        have hbW5 : Below W2.heap.size W2 W5 := by rw [← hMW5]; exact laid_below _ _ _ (Nat.le_refl _)
        have p0 : Str W5 (W2.heap.size) 34 [.slice none 0 0, .slice none 0 0, .int .i64 4, .slice none 0 0, .slice none 0 0, .int .i32 0] := by rw [← hMW5]; exact laid_at _ W2 0 _ _ rfl
        have hzW5 : W5.heap.size = W2.heap.size + 1 := by rw [← hMW5]; exact laid_size _ _
        clear hMW5
        obtain ⟨es, h1, h3⟩ := (HMAW2.out.below hbW5).row
        have HLW := Lib.hid hLW5
        have HP0 := Lib.hid p0
        have HE1 := Lib.hid h1
        have HE3 := Lib.hid h3
        have HB5 := Lib.hid hbW5
        have hz5 := hbW5.size
        have HBX5 := Lib.hid ((HMAW2.out.below hbW5).box)
        have HW5 := Lib.hid (HBW2.out.trans (hbW5.mono (by have := HBW2.out.size; omega)))
        have HNEW := Lib.hid (show ToCells W5 (es ++ cellsJ (.slice none 0 0) 4) n k (.slice none 0 0) from Or.inr ⟨HKN.out, fun i hi => by
          have hl : es.length = 6 * k := by have := h1.1; omega
          rw [List.getElem?_append_right (by omega), hl, show 6 * k + i - 6 * k = i by omega]; rfl⟩)
        have HLEN := Lib.hid (show es.length = 6 * k by have := h1.1; omega)
        clear hLW5 p0 h1 h3 hbW5 hzW5
        go_wp2_with (at_builtin; rw [HLW.out]; refine wpList_appendM rfl _ _ _ rfl w.heap.size 34 i0 (.agg #[.slice none 0 0, .slice none 0 0, .int .i64 0, .slice none 0 0, .slice none 0 0, .int .i32 0]) 6 112 Try.underlying22 HI0.out HZ0.out HZ1.out HZ2.out rfl (by decide) vB k es rfl HE1.out ⟨W2.heap.size, 0, none⟩ (cellsJ (.slice none 0 0) 4) rfl rfl ?news ?one (by omega) (by omega) (by have := HW5.out.size; omega) ?_)
        case news =>
          intro j u hj
          rw [Go.Proofs.Ytkbcgcbjnccmmaa.Mem.at_add0, HP0.out.cell j]
          exact hj
        case one =>
          intro u hu
          simp only [cellsJ, List.mem_cons, List.not_mem_nil, or_false] at hu
          rcases hu with rfl | rfl | rfl | rfl | rfl | rfl <;> rfl
        intro v6 w6 hr6 hg6 hm6
        obtain ⟨x1, x2, x3⟩ := ManyAt.blocked HBX5.out HMA.out.far HE1.out HE3.out HNEW.out rfl hr6 hg6
        have HX3 := Lib.hid x3
        have HB6 := Lib.hid (below_own HW5.out hg6 (fun g hg => (HE1.out.lt g hg).1))
        obtain ⟨bA, bc, hbf⟩ := own_form hr6
        subst hbf
        clear hr6 hg6 hm6 x3
        go_wp2
        go_roundw
        case rel => exact ⟨k + 1, _, by omega, by go_num, HX3.out, HB6.out.setCell (p := ⟨fb, 1, none⟩) hfw _⟩
        case measure => simp [intOf]; omega
    · obtain rfl : n = k := by omega
      obtain ⟨gB, c, rfl, hc1, hc2, hgb, hmore⟩ := HMA.out.more hn1
      obtain ⟨p, hp⟩ : ∃ p : Nat, n = p + 1 := ⟨n - 1, by omega⟩
      have HP := Lib.hid hp
      have hpn : p < n := by omega
      have HM0 := Lib.hid hmore
      unfold maxLen at hc2
      clear hp hmore
      go_wp2_with fail
      go_loopw [9] (fun i wr => ∃ (q : Nat) (vI : Value), q ≤ more ∧ i = .int .i64 q ∧ MoreAt w.heap.size fb n q gB c vI wr ∧ Below w.heap.size w wr) (fun i _ => more - (intOf i).toNat)
      case atStart => exact ⟨0, _, by omega, rfl, HM0.out, HBo.out⟩
      case round =>
        obtain ⟨q, vI, hq, rfl, hmo, hb⟩ := hrel
        obtain ⟨wi, rfl⟩ : ∃ wi : World, wi = wr := ⟨_, rfl⟩
        have HMO := Lib.hid hmo
        have HBi := Lib.hid hb
        have hzi := hb.size
        have hfi := hmo.box.lt
        obtain ⟨c4, f4, c1⟩ := hmo.form hn1
        rw [show n - 1 = p by have := HP.out; omega] at c4 f4
        obtain ⟨tA, tc, htf⟩ := own_form hmo.ins
        subst htf
        clear hmo hb
        by_cases hlt2 : q < more
        · go_wp2_with fail
          have E1 : IntKind.i64.wrap ((n : Int) - 1) = (p : Int) := by have := HP.out; rw [IntWalk.i64_in _ (by omega)]; omega
          have E2 : RowKit.wrap64 ((n : Int) - 1) = (p : Int) := by have := HP.out; unfold RowKit.wrap64; omega
          refine region_heldT_wp (fun w' => w'.cell? ⟨fb, 1, none⟩ = some (.slice (some ⟨gB, 0, none⟩) n c) ∧ w'.cell? ⟨gB, p * 6 + 1, none⟩ = some (.slice tA q tc)) [0, 1, 2, 3, 4, 5, 6, 7, 8, 9, 10, 11, 12, 15, 16] [0, 1, 2, 3, 4, 5, 6, 7, 8, 9, 10, 11, 12, 13, 14, 15, 16, 17] 17 (by kernel_rfl) (by kernel_rfl) (by kernel_rfl) (by kernel_rfl) rfl (by intro c a d v w h; cases d <;> exact h) ⟨c1, c4⟩ ?_
          refine walkH_still _ ?u0 rfl rfl rfl ?uy0 ?_
          case uy0 => intro w hS; go_simp; first | done | with_reducible rfl
          simp only [Act.put]
          refine walkH_still _ ?u1 rfl rfl rfl ?uy1 ?_
          case uy1 => intro w hS; go_simp; first | done | with_reducible rfl
          simp only [Act.put]
          refine walkH_still _ ?u2 rfl rfl rfl ?uy2 ?_
          case uy2 => intro w hS; go_simp; first | done | with_reducible rfl
          simp only [Act.put]
          refine walkH_still _ ?u3 rfl rfl rfl ?uy3 ?_
          case uy3 => intro w hS; go_simp; first | done | with_reducible rfl
          simp only [Act.put]
          refine walkH_still _ ?u4 rfl rfl rfl ?uy4 ?_
          case uy4 => intro w hS; go_simp; first | done | with_reducible rfl
          simp only [Act.put]
          refine walkH_still _ ?u5 rfl rfl rfl ?uy5 ?_
          case uy5 => intro w hS; go_simp; first | done | with_reducible rfl
          simp only [Act.put]
          refine walkH_still _ ?u6 rfl rfl rfl ?uy6 ?_
          case uy6 => intro w hS; go_simp; first | done | with_reducible rfl
          simp only [Act.put]
          refine walkH_still _ ?u7 rfl rfl rfl ?uy7 ?_
          case uy7 => intro w hS; go_simp; first | done | with_reducible rfl
          simp only [Act.put]
          refine walkH_still _ ?u8 rfl rfl rfl ?uy8 ?_
          case uy8 => intro w hS; go_simp; first | done | with_reducible rfl
          simp only [Act.put]
          refine walkH_still _ ?u9 rfl rfl rfl ?uy9 ?_
          case uy9 => intro w hS; go_simp; first | done | with_reducible rfl
          simp only [Act.put]
          refine walkH_still _ ?u10 rfl rfl rfl ?uy10 ?_
          case uy10 => intro w hS; go_simp; first | done | with_reducible rfl
          simp only [Act.put]
          refine walkH_still _ ?u11 rfl rfl rfl ?uy11 ?_
          case uy11 => intro w hS; go_simp; first | done | with_reducible rfl
          simp only [Act.put]
          refine walkH_still _ ?u12 rfl rfl rfl ?uy12 ?_
          case uy12 => intro w hS; go_simp; first | done | with_reducible rfl
          simp only [Act.put]
          try simp only [List.setIfInBounds_toArray, List.set_cons_zero, List.set_cons_succ]
          refine walkH_does _ rfl rfl ?_
          go_wp2
          clear E1 E2
          refine ⟨cell_keep ((Below.refl _ _).alloc (Nat.le_refl _) _) (Nat.le_refl _) c4, ?_⟩
          obtain ⟨W2, hW2⟩ : ∃ W2, (wi.alloc (.cells #[.int .i64 1, .int .i64 q, .int .i64 0, .slice none 0 0, .int .i32 0] 36)).drew = W2 := ⟨_, rfl⟩
          rw [hW2]
          have hb2 : Below wi.heap.size wi W2 := by rw [← hW2]; exact ((Below.refl _ _).alloc (Nat.le_refl _) _).drew
          have hs2 : Str W2 wi.heap.size 36 [.int .i64 1, .int .i64 q, .int .i64 0, .slice none 0 0, .int .i32 0] := by rw [← hW2]; exact World.alloc_heap_new wi _
          have c12 := cell_keep hb2 (Nat.le_refl _) c1
          have c42 := cell_keep hb2 (Nat.le_refl _) c4
          have HS2 := Lib.hid hs2
          have HB2 := Lib.hid hb2
          have hz2 := hb2.size
          have HMO2 := Lib.hid (HMO.out.below hb2)
          clear hW2 hb2 hs2

          try simp only [List.setIfInBounds_toArray, List.set_cons_zero, List.set_cons_succ]
          refine walkH_does _ rfl rfl ?_
          refine wpList_appendM rfl _ _ _ rfl w.heap.size 36 i1 (.agg #[.int .i64 0, .int .i64 0, .int .i64 0, .slice none 0 0, .int .i32 0]) 5 56 Try.underlying32 HI1.out HY0.out HY1.out HY2.out rfl (by decide) (.slice tA q tc) q (insCells q) rfl HMO2.out.ins ⟨wi.heap.size, 0, none⟩ [Value.int .i64 1, .int .i64 (q : Int), .int .i64 0, .slice none 0 0, .int .i32 0] rfl rfl ?news ?one (by omega) (by omega) (by omega) ?_
          case news =>
            intro j u hj
            rw [Go.Proofs.Ytkbcgcbjnccmmaa.Mem.at_add0, HS2.out.cell j]
            exact hj
          case one =>
            intro u hu
            simp only [List.mem_cons, List.not_mem_nil, or_false] at hu
            rcases hu with rfl | rfl | rfl | rfl | rfl <;> rfl
          intro v3 w3 hr3 hg3 hm3
          obtain ⟨t1, t2, t3, t4⟩ := HMO2.out.pushed hn1 hr3 hg3
          rw [show n - 1 = p by have := HP.out; omega] at t1 t2 t4
          obtain ⟨vA, vc, hvf⟩ := own_form hr3
          subst hvf
          have HT4 := Lib.hid t4
          have HBX := Lib.hid (below_own (HBi.out.trans (HB2.out.mono hzi)) hg3 (fun g hg => (HMO2.out.ins.lt g hg).1))
          clear hr3 hg3 hm3 t4
          refine wpList_nil ⟨Or.inl ⟨t3, t1⟩, ?_⟩
          refine walkH_still _ ?q15 rfl rfl rfl ?qy15 ?_
          case qy15 => intro w hS; go_simp; first | done | with_reducible rfl
          simp only [Act.put]
          refine walkH_still _ ?q16 rfl rfl rfl ?qy16 ?_
          case qy16 => intro w hS; go_simp; first | done | with_reducible rfl
          simp only [Act.put]
          try simp only [List.setIfInBounds_toArray, List.set_cons_zero, List.set_cons_succ]
          refine walkH_does _ rfl rfl ?_
          go_wp2
          refine walkH_nil ?_
          obtain ⟨W4, hW4⟩ : ∃ W4, w3.setCell ⟨gB, p * 6 + 1, none⟩ (.slice vA (q + 1) vc) = W4 := ⟨_, rfl⟩
          have ht4 := HT4.out
          rw [hW4] at ht4 ⊢
          have HBX4 := Lib.hid (show Below w.heap.size w W4 by rw [← hW4]; exact HBX.out.setCell (p := ⟨gB, p * 6 + 1, none⟩) (by show w.heap.size ≤ gB; omega) _)
          have HM4 := Lib.hid ht4
          clear hW4 ht4 HT4 HBX t1 t2 t3 c12 c42
          go_wp2
          go_roundw
          case rel => exact ⟨q + 1, _, by omega, by go_num, HM4.out, HBX4.out⟩
          case measure => simp [intOf]; omega
        · obtain rfl : more = q := by omega
          have hbl : BlocksAt wi (.slice (some ⟨gB, 0, none⟩) n c) (manyP p more) := by
            have h := HMO.out
            rw [HP.out] at h ⊢
            exact h.blocks
          have hln : (manyP p more).length = n := by rw [many_len, HP.out]
          have hwf := many_wf p more (by have := HP.out; omega) (by omega)
          have hf := func_any wi 0 (some ⟨gB, 0, none⟩) gB c (manyP p more) (fun _ => rfl) (by rw [hln]; exact hbl) hwf
          rw [hln] at hf
          have ht := fun (wx : World) (hx : Below wi.heap.size wi wx) => top_any wx 0 (some ⟨gB, 0, none⟩) c (manyP p more) (by rw [hln]; exact blocks_keep hbl hx) hwf
          rw [hln] at ht
          have c0 : wi.cell? ⟨fb, 0, none⟩ = some (.int .i64 0) := HMO.out.box.cell 0
          have hbox := HMO.out.box
          have HBX := Lib.hid hbox
          have HF := Lib.hid hf
          have HT := Lib.hid ht
          clear hbl hln hwf hf ht hbox c4 f4
          go_wp2_with fail
          refine HF.out.mono ?_
          rintro e wj ⟨rfl, hbj⟩
          have HBJ := Lib.hid hbj
          have HBj := Lib.hid (HBi.out.trans (hbj.mono hzi))
          have d0 : wj.cell? ⟨fb, 0, none⟩ = some (.int .i64 0) := (HBX.out.below hbj).cell 0
          have d1 : wj.cell? ⟨fb, 1, none⟩ = some (.slice (some ⟨gB, 0, none⟩) n c) := (HBX.out.below hbj).cell 1
          have hzj := HBj.out.size
          clear hbj c0 c1
          by_cases h5 : 512 < n
          · rw [many_wrong p more (Or.inl (by have := HP.out; omega))]
            go_wp2
            go_ret
            exact ⟨rfl, HBj.out⟩
          · by_cases h6 : 4096 < n + more
            · rw [many_wrong p more (Or.inr (by have := HP.out; omega))]
              go_wp2
              go_ret
              exact ⟨rfl, HBj.out⟩
            · rw [many_right p more (by have := HP.out; omega) (by have := HP.out; omega)]
              go_wp2_with fail
              refine (HT.out wj HBJ.out).mono ?_
              rintro e wk ⟨rfl, hbk⟩
              rw [many_top p more (by omega)]
              have HBk := Lib.hid (HBj.out.trans (hbk.mono hzj))
              clear hbk
              go_wp2
              go_ret
              exact ⟨rfl, HBk.out⟩

/-! ### THE ROW's STEP: WRITTEN OUT: LEAVE IT -/
set_option maxRecDepth 100000 in
theorem lifted (os : Os) (started : os.Started) (H : Type) (enc : TypeId × Value → H) :
    ReturnsInHanded {} Try.checked os 4 .any (Rows.checkManySpec.pre6 enc Try.prog Try.f4 Rows.checkManyRow.domain false) (Rows.checkManySpec.post enc Try.prog Try.f4 false true false false) := by
  refine returnsInHanded_of_change (C := Try.checked) own started (by kernel_rfl) Try.func4
    (ChangeSpec.witness6 (enc := enc) (C := Try.checked) false ⟨#[], #[.int .i64 0, .int .i64 0], []⟩ 8 (by kernel_rfl) (by kernel_rfl) (by kernel_rfl) (by kernel_rfl)) ?_
  intro W base args ds gs before hval0 hW hcnd _
  have hval : ∀ (j : Nat) t v, Try.f4.params[j]? = some t → args[j]? = some v → Value.okWide Try.prog W .any base t v := hval0
  have hW' := hW
  obtain ⟨p, q, hA0, hV, rfl, hfz, hnd⟩ := hW
  have hA : DataW.TrodAll enc Try.prog W 0 (fun _ => true) true Try.f4.params.toList args.toList ds p := hA0
  rw [Try.params4] at hA hval
  obtain ⟨v0, vs0, d0, ds0, p0, q0, hargs, rfl, rfl, h0, r0⟩ := trodAll_cons hA
  obtain ⟨v1, vs1, d1, ds1, p1, q1, rfl, rfl, rfl, h1, r1⟩ := trodAll_cons r0
  obtain ⟨rfl, rfl, rfl⟩ := trodAll_nil r1
  obtain rfl : args = #[v0, v1] := by cases args; simp_all
  obtain ⟨rfl, rfl⟩ := trodVars_none hV
  obtain ⟨a0, rfl, rfl, rfl, w0⟩ := open_int Try.underlying3 (hval 0 3 v0 rfl rfl) h0
  obtain ⟨a1, rfl, rfl, rfl, w1⟩ := open_int Try.underlying3 (hval 1 3 v1 rfl rfl) h1
  clear hA0 hval0
  simp only [List.append_nil] at hW'
  refine (walk a0 a1 w0 w1 W).mono fun e W' ⟨he, hg⟩ => ?_
  subst he
  exact ⟨_, rfl, _, _, _, [], [], [], hW', (trodAll_cons_mk (shut_bool Try.underlying4 _) trodAll_mk0), (trodAll_cons_mk (shut_int Try.underlying3 w0) (trodAll_cons_mk (shut_int Try.underlying3 w1) trodAll_mk0)), rfl, hg.frame _, fun h => by cases h⟩

theorem over : Rows.checkManyRow.holds Try.pinned (OpenSpec.ofChange Rows.checkManySpec) :=
  OpenClaim.holds_of_wide 4 Try.f4 rfl rfl rfl rfl rfl rfl rfl ⟨rfl, rfl, rfl, rfl, rfl⟩ rfl rfl rfl rfl rfl (by kernel_rfl) Try.func4 (by kernel_rfl)
    (of_decide_eq_true (by kernel_rfl)) (by unfold Func.isWrapper; first | (rw [if_pos (by decide +kernel)]; kernel_rfl) | (rw [if_neg (by decide +kernel)]; exact ⟨rfl, rfl⟩))
    (fun os started H enc _ => lifted os started H enc)

/-- ████ THE STATEMENT ████ -/
theorem proved : Rows.CheckManySaid :=
  over
#print axioms proved
end Go.Proofs.Ytkbcgcbjnccmmaa.checkMany
