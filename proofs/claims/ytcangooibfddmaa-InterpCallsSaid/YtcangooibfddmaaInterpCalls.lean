/- What is proved: calls are events, in order, each with its operands, and their values are the answers, one after the other, and 0 behind the last one (law InterpCalls): for every number of calls, all answers and any word the law answers true. Conditions: none beside those that the given form carries. -/
import Derived.Test.YtcangooibfddmaaRows
import Derived.Test.YtcangooibfddmaaILawC
import Derived.Deep.QuietTactic
import Derived.BigQuiet
import Derived.WalkKit
import Derived.ProofKit
import Derived.OpenShut
import Derived.ShutString
import Derived.ChangeOld
import Derived.Below
namespace Go.Proofs.Ytcangooibfddmaa.interpCalls
open Go.ChangeShapes Go.WideShapes Go.ChangeAt Go.RowKit
open Go.ChangeMaps (open_string shut_string)
set_option linter.unusedVariables false

theorem own : ownKnob Try.prog.godebug = none := by kernel_rfl
theorem laidOut : laidOutB Try.prog = true := by kernel_rfl

/-- WHAT THE WALK IS TOLD OF A SLICE OF INTEGERS THAT CAME IN: it is nil; or it leads to a row of 'cap' cells, the numbers 'zs' (the first 'len' are its elements, the rest its spare room), each fitting its kind. -/
def IsRow (k : IntKind) (w : World) (a : Option Addr) (len cap : Nat) (zs : List Int) : Prop :=
  (a = none ∧ len = 0 ∧ cap = 0 ∧ zs = []) ∨
  ∃ x, a = some x ∧ len ≤ cap ∧ cap ≤ maxLen ∧ zs.length = cap ∧ (∀ i, i < zs.length → w.cell? (x.add i) = some (.int k (zs.getD i 0))) ∧ ∀ n ∈ zs, (Lit.int k n).wf = true

open Go.Maps Go.Proofs.Ytcangooibfddmaa.Mem Go.Proofs.Ytcangooibfddmaa.Kc Go.Proofs.Ytcangooibfddmaa.Br Go.Proofs.Ytcangooibfddmaa.Pl Go.Proofs.Ytcangooibfddmaa.Gr Go.Proofs.Ytcangooibfddmaa.Wd Go.Proofs.Ytcangooibfddmaa.Ic
theorem words_of_row {w : World} {A : Option Addr} {n c : Nat} {z : List Int} (h : IsRow .i32 w A n c z) : ∃ l, WordsAt w (.slice A n c) l ∧ n = l.length ∧ ∀ x ∈ l, InW x := by
  rcases h with ⟨rfl, rfl, rfl, rfl⟩ | ⟨ad, rfl, hl, hm, hz, hc, hw⟩
  · exact ⟨[], WordsAt.none_ w, rfl, fun x hx => by cases hx⟩
  · have e : (z.take n).length = n := by rw [List.length_take]; omega
    refine ⟨z.take n, ⟨some ad, c, by rw [e], by omega, hm, fun k hk => ⟨ad, rfl, ?_⟩⟩, e.symm, fun x hx => bounds_i32 (hw x (List.mem_of_mem_take hx))⟩
    have hk2 : k < z.length := by omega
    rw [hc k hk2, List.getElem_take, List.getD_eq_getElem?_getD, List.getElem?_eq_getElem hk2]; rfl

/-! ### STEP 1: THE WALK: the Go text returns true, AND WRITES NOTHING THAT WAS THERE: 'Below w.heap.size w w'' (Derived/Below.lean: '.refl', '.alloc', '.drew', '.setCell' at a new block, '.trans'). Open each 'IsRow' by 'rcases' AHEAD of 'go_enter'; part every test ahead of the walk. -/
set_option maxRecDepth 100000 in
set_option maxHeartbeats 2000000 in
theorem walk (a0 : Int) (a1 : Option Addr) (len1 cap1 : Nat) (z1 : List Int) (a2 : Int) (w : World) (w0 : (Lit.int .u8 a0).wf = true) (w1 : IsRow .i32 w a1 len1 cap1 z1) (w2 : (Lit.int .i32 a2).wf = true) :
    Calls Try.prog 10 #[.int .u8 a0, .slice a1 len1 cap1, .int .i32 a2] w fun e w' => e = .returned (.bool true) ∧ Below w.heap.size w w' := by
  obtain ⟨l0, hw, hn, hz⟩ := words_of_row w1
  have hv : InW a2 := bounds_i32 w2
  obtain ⟨u0, u1⟩ := bounds_u8 w0
  have HV := Lib.hid hv
  have HW := Lib.hid hw
  have hn1 : l0.length ≤ cap1 := by
    obtain ⟨_, _, e, n1, _, _⟩ := hw
    injection e with _ _ e
    omega
  have hn2 : cap1 ≤ 9223372036854775807 := by
    obtain ⟨_, _, e, _, n2, _⟩ := hw
    injection e with _ _ e
    unfold maxLen at n2
    omega
  clear hw
  obtain rfl := hn
  have hmin : (min (l0.length : Int) 20).toNat ≤ l0.length := by omega
  have HMIN := Lib.hid (show l0.take (min (l0.length : Int) 20).toNat = l0.take 20 by
    by_cases hc : l0.length ≤ 20
    · rw [List.take_of_length_le (by omega), List.take_of_length_le hc]
    · rw [show (min (l0.length : Int) 20).toNat = 20 by omega])
  have HT := Lib.hid (show (l0.take 20).length ≤ 20 by rw [List.length_take]; omega)
  have HTW := Lib.hid (show ∀ x ∈ l0.take 20, InW x from fun x hx => hz x (List.mem_of_mem_take hx))
  obtain ⟨n, hna⟩ : ∃ n : Nat, a0 % 13 = n := ⟨(a0 % 13).toNat, by omega⟩
  have hn12 : n ≤ 12 := by omega
  have HNA := Lib.hid hna
  obtain ⟨i0, hi, hz0, hz1, hz2⟩ := info_parts info_ins
  have HI0 := Lib.hid hi
  have HZ0 := Lib.hid hz0
  have HZ1 := Lib.hid hz1
  have HZ2 := Lib.hid hz2
  clear hv hz w0 w1 w2 hna hi hz0 hz1 hz2
  go_enter Try.func10, Try.ntmps10
  go_wp2_with fail
  refine (shown_any w).mono ?_
  rintro e ws ⟨rfl, hs⟩
  have HBS := Lib.hid hs
  have hzs := hs.size
  clear hs
  go_wp2_with fail
  rw [HNA.out]
  obtain ⟨W1, hLW1⟩ : ∃ W, ws.alloc (.cells #[] 36) = W := ⟨_, rfl⟩
  rw [hLW1]
  have hMW1 : laid ws [([], 36)] = W1 := hLW1
  have hbW1 : Below ws.heap.size ws W1 := by rw [← hMW1]; exact laid_below _ _ _ (Nat.le_refl _)
  have q0 : Str W1 (ws.heap.size) 36 [] := by rw [← hMW1]; exact laid_at _ ws 0 _ _ rfl
  have hzW1 : W1.heap.size = ws.heap.size + 1 := by rw [← hMW1]; exact laid_size _ _
  clear hLW1 hMW1
  have HC1 := Lib.hid (show CallsAt w.heap.size W1 (.slice (some ⟨ws.heap.size, 0, none⟩) 0 0) 0 from ⟨[], ⟨by simp, Or.inr ⟨ws.heap.size, 0, #[], rfl, hzs, q0, by omega, by unfold maxLen; omega, by simp, by simp⟩⟩, fun j hj => absurd hj (by omega)⟩)
  have HB1 := Lib.hid (HBS.out.trans (hbW1.mono hzs))
  clear q0 hbW1 hzW1
  go_loopw [9, 10, 11] (fun l la i wr => ∃ (k : Nat) (A : Option Addr) (c : Nat), k ≤ n ∧ i = .int .i64 k ∧ la = .int .i64 k ∧ l = .slice A k c ∧ CallsAt w.heap.size wr (.slice A k c) k ∧ Below w.heap.size w wr) (fun _ _ i _ => n - (intOf i).toNat)
  case atStart => exact ⟨0, _, _, by omega, rfl, rfl, rfl, HC1.out, HB1.out⟩
  case round =>
    obtain ⟨k, A, c, hk, rfl, rfl, rfl, hcl, hb⟩ := hrel
    obtain ⟨wo, rfl⟩ : ∃ wo : World, wo = wr := ⟨_, rfl⟩
    have HCo := Lib.hid hcl
    have HBo := Lib.hid hb
    have hzo := hb.size
    clear hcl hb
    by_cases hlt : k < n
    · have hm4 : 0 ≤ (k : Int) % 3 := by omega
      have hm5 : (k : Int) % 3 ≤ 2 := by omega
      have hk13 : k ≤ 12 := by omega
      obtain ⟨W9, hLW9⟩ : ∃ W, (wo.alloc (.cells #[.int .i64 k, .int .i64 0] 3)).alloc (.cells #[.int .i64 17, .int .i64 ((k : Int) + 1), .int .i64 0, .slice (some ⟨wo.heap.size, 0, none⟩) (k % 3) 2, .int .i32 k] 36) = W := ⟨_, rfl⟩
      have hMW9 : laid wo [([.int .i64 k, .int .i64 0], 3), ([.int .i64 17, .int .i64 ((k : Int) + 1), .int .i64 0, .slice (some ⟨wo.heap.size, 0, none⟩) (k % 3) 2, .int .i32 k], 36)] = W9 := hLW9
      have hbW9 : Below wo.heap.size wo W9 := by rw [← hMW9]; exact laid_below _ _ _ (Nat.le_refl _)
      have p0 : Str W9 (wo.heap.size) 3 [.int .i64 k, .int .i64 0] := by rw [← hMW9]; exact laid_at _ wo 0 _ _ rfl
      have p1 : Str W9 (wo.heap.size + 1) 36 [.int .i64 17, .int .i64 ((k : Int) + 1), .int .i64 0, .slice (some ⟨wo.heap.size, 0, none⟩) (k % 3) 2, .int .i32 k] := by rw [← hMW9]; exact laid_at _ wo 1 _ _ rfl
      have hzW9 : W9.heap.size = wo.heap.size + 2 := by rw [← hMW9]; exact laid_size _ _
      clear hMW9
      obtain ⟨es, h1, h2⟩ := HCo.out.below hbW9
      have hz9 := Nat.le_trans hzo hbW9.size
      have HLW := Lib.hid hLW9
      have HP1 := Lib.hid p1
      have HE1 := Lib.hid h1
      have HE2 := Lib.hid h2
      have HP0 := Lib.hid p0
      have HB9 := Lib.hid (HBo.out.trans (hbW9.mono hzo))
      clear hLW9 p0 p1 h1 h2 hbW9 hzW9
      go_wp2_with (at_builtin; rw [HLW.out]; refine wpList_appendM rfl _ _ _ rfl w.heap.size 36 i0 (.agg #[.int .i64 0, .int .i64 0, .int .i64 0, .slice none 0 0, .int .i32 0]) 5 56 Try.underlying32 HI0.out HZ0.out HZ1.out HZ2.out rfl (by decide) _ k es rfl HE1.out ⟨wo.heap.size + 1, 0, none⟩ [.int .i64 17, .int .i64 ((k : Int) + 1), .int .i64 0, .slice (some ⟨wo.heap.size, 0, none⟩) (k % 3) 2, .int .i32 k] rfl rfl ?news ?one (by omega) (by omega) hz9 ?_)
      case news =>
        intro j u hj
        rw [at_add0, HP1.out.cell j]
        exact hj
      case one =>
        intro u hu
        simp only [List.mem_cons, List.not_mem_nil, or_false] at hu
        rcases hu with rfl | rfl | rfl | rfl | rfl <;> rfl
      intro v3 w3 hr3 hg3 hm3
      have HC3 := Lib.hid (CallsAt.push HE1.out HE2.out HP0.out hr3 hg3)
      have HB3 := Lib.hid (below_of_own HB9.out hg3 (fun g hg => (HE1.out.lt g hg).1))
      obtain ⟨A3, c3, rfl⟩ := own_form hr3
      clear hr3 hg3 hm3
      go_wp2
      exact ⟨⟨k + 1, A3, c3, by omega, by go_num, by go_num, rfl, HC3.out, HB3.out⟩, by simp [intOf]; omega⟩
    · obtain rfl : k = n := by omega
      have hb1 : Below wo.heap.size wo (wo.alloc (.cells #[] 21)) := (Below.refl _ _).alloc (Nat.le_refl _) _
      go_wp2_with (at_builtin; refine wpList_own0 rfl _ _ rfl rfl wo.heap.size _ (l0.take 20) rfl (empty_own wo 21 1) (by rw [← HMIN.out]; exact (HW.out.below (HBo.out.trans (hb1.mono hzo))).take _ hmin) (by have := HT.out; omega) hb1.size ?_)
      intro vw w2 ho hg
      have hb2 := below_of_own hb1 hg (fun g hg => by injection hg with hg; rw [← hg]; exact Nat.le_refl _)
      have HB2 := Lib.hid (HBo.out.trans (hb2.mono hzo))
      have hz2 := Nat.le_trans hzo hb2.size
      have HC2 := Lib.hid (HCo.out.below hb2)
      clear hb1 hg hb2
      generalize l0.take 20 = m at *
      obtain ⟨vA, vc, rfl⟩ := own_form ho
      have HO := Lib.hid (show OwnWords w.heap.size w2 (.slice vA m.length vc) m from OwnWords.mono ho hzo)
      clear ho
      go_wp2_with fail
      refine (ret_any w2 k).mono ?_
      rintro e w4 ⟨gR, rfl, hR, hb4⟩
      go_wp2_with fail
      refine (one_any w4 1 4 0 _ _ _ _ _ _ _ _ _).mono ?_
      rintro e w5 ⟨gB, rfl, hB, hb5⟩
      have hb25 := hb4.trans (hb5.mono hb4.size)
      have HF := Lib.hid (calls_block (HC2.out.below hb25) hB (cell_keep hb5 (Nat.le_refl _) hR))
      have HB5 := Lib.hid (HB2.out.trans (hb25.mono hz2))
      have HO5 := Lib.hid (HO.out.below hb25)
      have hz5 := Nat.le_trans hz2 hb25.size
      clear hb25 hb4 hb5 hB hR
      go_wp2_with fail
      obtain ⟨W6, hLW6⟩ : ∃ W, w5.alloc (.cells #[.int .i32 a2] 21) = W := ⟨_, rfl⟩
      rw [hLW6]
      have hMW6 : laid w5 [([.int .i32 a2], 21)] = W6 := hLW6
      have hbW6 : Below w5.heap.size w5 W6 := by rw [← hMW6]; exact laid_below _ _ _ (Nat.le_refl _)
      have s0 : Str W6 (w5.heap.size) 21 [.int .i32 a2] := by rw [← hMW6]; exact laid_at _ w5 0 _ _ rfl
      have hzW6 : W6.heap.size = w5.heap.size + 1 := by rw [← hMW6]; exact laid_size _ _
      clear hLW6 hMW6
      refine (run_calls W6 gB k hn12 a2 HV.out m HT.out HTW.out (HF.out.keep hbW6) _ (.slice vA m.length vc) (words1 s0 ⟨by omega, fits (by omega)⟩) (words_of_own (HO5.out.below hbW6))).mono ?_
      rintro e w7 ⟨mem, mA, mn, mc, cA, cn, ck, rfl, _, hev, hb7⟩
      have HB7 := Lib.hid ((HB5.out.trans (hbW6.mono hz5)).trans (hb7.mono (Nat.le_trans hz5 hbW6.size)))
      have hz7 := Nat.le_trans (Nat.le_trans hz5 hbW6.size) hb7.size
      have HO7 := Lib.hid (HO5.out.below (hbW6.trans (hb7.mono hbW6.size)))
      have HEV := Lib.hid hev
      have hcn : cn = k := by have h9 := (hev.reads).1; rw [h9]; simp
      subst hcn
      clear s0 hbW6 hzW6 hev hb7
      obtain ⟨val, hval⟩ : ∃ val, answerV m a2 cn = val := ⟨_, rfl⟩
      rw [hval]
      have HVAL := Lib.hid hval
      clear hval
      go_upto_region 12 with (fail)
      obtain ⟨W8, hLW8⟩ : ∃ W, w7.alloc (.cells #[.int .i64 1, .int .i32 val, .slice mA mn mc, .slice cA cn ck, .int .i64 ((cn : Int) + 1)] 45) = W := ⟨_, rfl⟩
      rw [hLW8]
      have hMW8 : laid w7 [([.int .i64 1, .int .i32 val, .slice mA mn mc, .slice cA cn ck, .int .i64 ((cn : Int) + 1)], 45)] = W8 := hLW8
      have hbW8 : Below w7.heap.size w7 W8 := by rw [← hMW8]; exact laid_below _ _ _ (Nat.le_refl _)
      have s0 : Str W8 (w7.heap.size) 45 [.int .i64 1, .int .i32 val, .slice mA mn mc, .slice cA cn ck, .int .i64 ((cn : Int) + 1)] := by rw [← hMW8]; exact laid_at _ w7 0 _ _ rfl
      have hzW8 : W8.heap.size = w7.heap.size + 1 := by rw [← hMW8]; exact laid_size _ _
      clear hLW8 hMW8
      have q0 : W8.cell? ⟨w7.heap.size, 0, none⟩ = some (.int .i64 1) := s0.cell 0
      have q3 : W8.cell? ⟨w7.heap.size, 3, none⟩ = some (.slice cA cn ck) := s0.cell 3
      have q4 : W8.cell? ⟨w7.heap.size, 4, none⟩ = some (.int .i64 ((cn : Int) + 1)) := s0.cell 4
      have HB8 := Lib.hid (HB7.out.trans (hbW8.mono hz7))
      have hz8 := Nat.le_trans hz7 hbW8.size
      have HO8 := Lib.hid (HO7.out.below hbW8)
      have HEV8 := Lib.hid (HEV.out.below hbW8)
      have HS8 := Lib.hid s0
      have h78 : w7.heap.size < W8.heap.size := s0.lt
      clear s0 hbW8 hzW8
      go_wp2_with fail
      go_loopw [14, 15] (fun was i wr => ∃ k : Nat, k ≤ cn ∧ i = .int .i64 k ∧ was = .int .i32 (answerV m a2 k) ∧ Below W8.heap.size W8 wr) (fun _ i _ => cn - (intOf i).toNat)
      case atStart => exact ⟨0, by omega, rfl, rfl, Below.refl _ _⟩
      case round =>
        obtain ⟨k, hk, rfl, rfl, hb⟩ := hrel
        obtain ⟨wo', rfl⟩ : ∃ wo' : World, wo' = wr := ⟨_, rfl⟩
        have HBq := Lib.hid hb
        have HSq := Lib.hid (HS8.out.below hb)
        have q1 : wo'.cell? ⟨w7.heap.size, 1, none⟩ = some (.int .i32 val) := HSq.out.cell 1
        have q3 : wo'.cell? ⟨w7.heap.size, 3, none⟩ = some (.slice cA cn ck) := HSq.out.cell 3
        have hev := (HEV8.out.below hb).reads
        have HOq := Lib.hid (HO8.out.below hb)
        have hzq := hb.size
        clear hb
        by_cases hlt2 : k < cn
        · obtain ⟨hcn1, hcn2, hcm, hre⟩ := hev
          clear hcn1 hcn2
          obtain ⟨gE, hcA, hre2⟩ := hre (by simp; omega)
          subst hcA
          obtain ⟨e0, eA, en, ec, e1, hew⟩ := hre2 k (by simp; omega)
          have hck : ((List.range cn).map (callE m a2))[k]'(by simp; omega) = callE m a2 k := by rw [List.getElem_map, List.getElem_range]
          rw [hck] at e0 hew
          have e0 : wo'.cell? ⟨gE, k * 2, none⟩ = some (.int .i32 k) := e0
          have HEW := Lib.hid (show WordsAt wo' (.slice eA en ec) ([answerV m a2 k, a2].take (k % 3)) from hew)
          have HANS := Lib.hid (show answerV m a2 (k + 1) = m.getD k 0 by unfold answerV; rw [if_neg (by omega), Nat.add_sub_cancel])
          clear hcm hre hre2 hck hew
          obtain ⟨was, hwas⟩ : ∃ was, answerV m a2 k = was := ⟨_, rfl⟩
          rw [hwas] at HEW ⊢
          obtain ⟨r, hr⟩ : ∃ r : Nat, k % 3 = r := ⟨_, rfl⟩
          have hr2 : r ≤ 2 := by omega
          have hr3 : (r : Int) ≤ 2 := by omega
          rw [hr] at HEW
          have hk13 : k ≤ 12 := by omega
          have htm : (k : Int).tmod 3 = (r : Int) := by rw [Int.tmod_eq_emod_of_nonneg (by omega)]; omega
          clear hr
          clear hwas
          have hwr1 : IntKind.i32.wrap (k : Int) = (k : Int) := IntWalk.i32_in _ (by omega)
          have hwr2 : wrap32 (k : Int) = (k : Int) := by unfold wrap32; omega
          go_wp2_with fail
          refine region_heldC_wp (fun w' => w'.cell? ⟨w7.heap.size, 3, none⟩ = some (.slice (some ⟨gE, 0, none⟩) cn ck) ∧ w'.cell? ⟨gE, k * 2, none⟩ = some (.int .i32 k) ∧ w'.cell? ⟨gE, k * 2 + 1, none⟩ = some (.slice eA en ec)) [0, 1, 2, 3, 4, 5, 6, 7, 8, 9, 10, 11, 12, 13, 14, 15, 16, 17, 19, 20, 21, 23, 24] [0, 1, 2, 3, 4, 5, 6, 7, 8, 9, 10, 11, 12, 13, 14, 15, 16, 17, 19, 20, 18, 21, 22, 23, 24] (by kernel_rfl) (by kernel_rfl) (by kernel_rfl) rfl (by intro c a d v w h; cases d <;> exact h) ⟨q3, e0, e1⟩ ?_
          refine walkC_still _ ?u0 rfl rfl rfl ?uy0 ?_
          case uy0 => intro w hS; go_simp; first | done | with_reducible rfl
          simp only [Act.put]
          refine walkC_still _ ?u1 rfl rfl rfl ?uy1 ?_
          case uy1 => intro w hS; go_simp; first | done | with_reducible rfl
          simp only [Act.put]
          refine walkC_still _ ?u2 rfl rfl rfl ?uy2 ?_
          case uy2 => intro w hS; go_simp; first | done | with_reducible rfl
          simp only [Act.put]
          refine walkC_still _ ?u3 rfl rfl rfl ?uy3 ?_
          case uy3 => intro w hS; go_simp; first | done | with_reducible rfl
          simp only [Act.put]
          refine walkC_still _ ?u4 rfl rfl rfl ?uy4 ?_
          case uy4 => intro w hS; go_simp; first | done | with_reducible rfl
          simp only [Act.put]
          refine walkC_still _ ?u5 rfl rfl rfl ?uy5 ?_
          case uy5 => intro w hS; go_simp; first | done | with_reducible rfl
          simp only [Act.put]
          refine walkC_still _ ?u6 rfl rfl rfl ?uy6 ?_
          case uy6 => intro w hS; go_simp; first | done | with_reducible rfl
          simp only [Act.put]
          refine walkC_still _ ?u7 rfl rfl rfl ?uy7 ?_
          case uy7 => intro w hS; go_simp; first | done | with_reducible rfl
          simp only [Act.put]
          refine walkC_still _ ?u8 rfl rfl rfl ?uy8 ?_
          case uy8 => intro w hS; go_simp; first | done | with_reducible rfl
          simp only [Act.put]
          refine walkC_still _ ?u9 rfl rfl rfl ?uy9 ?_
          case uy9 => intro w hS; go_simp; first | done | with_reducible rfl
          simp only [Act.put]
          refine walkC_still _ ?u10 rfl rfl (by kernel_rfl) ?uy10 ?_
          case uy10 => intro w hS; go_simp; first | done | with_reducible rfl
          simp only [Act.put]
          refine walkC_still _ ?u11 rfl rfl (by kernel_rfl) ?uy11 ?_
          case uy11 => intro w hS; go_simp; first | done | with_reducible rfl
          simp only [Act.put]
          refine walkC_still _ ?u12 rfl rfl (by kernel_rfl) ?uy12 ?_
          case uy12 => intro w hS; go_simp; first | done | with_reducible rfl
          simp only [Act.put]
          refine walkC_still _ ?u13 rfl rfl (by kernel_rfl) ?uy13 ?_
          case uy13 => intro w hS; go_simp; first | done | with_reducible rfl
          simp only [Act.put]
          refine walkC_still _ ?u14 rfl rfl (by kernel_rfl) ?uy14 ?_
          case uy14 => intro w hS; go_simp; first | done | with_reducible rfl
          simp only [Act.put]
          refine walkC_still _ ?u15 rfl rfl (by kernel_rfl) ?uy15 ?_
          case uy15 => intro w hS; go_simp; first | done | with_reducible rfl
          simp only [Act.put]
          refine walkC_still _ ?u16 rfl rfl (by kernel_rfl) ?uy16 ?_
          case uy16 => intro w hS; go_simp; first | done | with_reducible rfl
          simp only [Act.put]
          refine walkC_still _ ?u17 rfl rfl (by kernel_rfl) ?uy17 ?_
          case uy17 => intro w hS; go_simp; first | done | with_reducible rfl
          simp only [Act.put]
          refine walkC_still _ ?u19 rfl rfl (by kernel_rfl) ?uy19 ?_
          case uy19 => intro w hS; go_simp; first | done | with_reducible rfl
          simp only [Act.put]
          refine walkC_still _ ?u20 rfl rfl (by kernel_rfl) ?uy20 ?_
          case uy20 => intro w hS; go_simp; first | done | with_reducible rfl
          simp only [Act.put]
          try simp only [List.setIfInBounds_toArray, List.set_cons_zero, List.set_cons_succ]
          refine walkC_does _ rfl rfl ?_
          go_wp2
          clear hwr1 hwr2
          obtain ⟨W9, hW9⟩ : ∃ W9, (wo'.alloc (.cells #[.int .i32 was, .int .i32 a2] 21)).drew = W9 := ⟨_, rfl⟩
          rw [hW9]
          have hb9 : Below wo'.heap.size wo' W9 := by rw [← hW9]; exact ((Below.refl _ _).alloc (Nat.le_refl _) _).drew
          have hs9 : Str W9 wo'.heap.size 21 [.int .i32 was, .int .i32 a2] := by rw [← hW9]; exact World.alloc_heap_new wo' _
          have q39 := cell_keep hb9 (Nat.le_refl _) q3
          have e09 := cell_keep hb9 (Nat.le_refl _) e0
          have e19 := cell_keep hb9 (Nat.le_refl _) e1
          have HEW9 := Lib.hid (HEW.out.below hb9)
          have HB9q := Lib.hid (HBq.out.trans (hb9.mono hzq))
          have HCUT := Lib.hid (show WordsAt W9 (.slice (some ⟨wo'.heap.size, 0, none⟩) r 2) ([was, a2].take r) from WordsAt.take (words2 hs9 ⟨by omega, fits (by omega)⟩) r hr2)
          have HO9 := Lib.hid (HOq.out.below hb9)
          have q19 := cell_keep hb9 (Nat.le_refl _) q1
          clear hW9 hb9 hs9
          refine behindC ⟨q39, e09, e19⟩ ?_
          refine walkC_still _ ?v21 rfl rfl (by kernel_rfl) ?vy21 ?_
          case vy21 => intro w hS; go_simp; first | done | with_reducible rfl
          simp only [Act.put]
          try simp only [List.setIfInBounds_toArray, List.set_cons_zero, List.set_cons_succ]
          refine walkC_does _ rfl rfl ?_
          go_wp2_with fail
          refine (words_same W9 _ _ _ HEW9.out HCUT.out).mono ?_
          rintro e w10 ⟨rfl, n10, rfl⟩
          go_wp2
          refine behindC ⟨q39, e09, e19⟩ ?_
          refine walkC_still _ ?x23 rfl rfl (by kernel_rfl) ?xy23 ?_
          case xy23 => intro w hS; go_simp; first | done | with_reducible rfl
          simp only [Act.put]
          refine walkC_still _ ?x24 rfl rfl rfl ?xy24 ?_
          case xy24 => intro w hS; go_simp; first | done | with_reducible rfl
          simp only [Act.put]
          try simp only [List.setIfInBounds_toArray, List.set_cons_zero, List.set_cons_succ]
          refine walkC_nil ?_
          clear htm
          by_cases hlm : k < m.length
          · obtain ⟨A', c', e, g1, g2, g3⟩ := words_of_own HO9.out
            injection e with e1' _ e3'
            subst e1' e3'
            obtain ⟨ad, rfl, hc⟩ := g3 k hlm
            have HV9 := Lib.hid (show m.getD k 0 = m[k] by rw [List.getD_eq_getElem?_getD, List.getElem?_eq_getElem hlm]; rfl)
            have hc : (W9.drewN n10).cell? (ad.add k) = some (.int .i32 m[k]) := hc
            generalize m[k] = z at *
            clear g1 g2 g3
            go_wp2_with fail
            exact ⟨⟨k + 1, by omega, by go_num, by rw [HANS.out, HV9.out], below_drewK HB9q.out n10⟩, by simp [intOf]; omega⟩
          · have hlm' : m.length ≤ k := by omega
            have HV9 := Lib.hid (show m.getD k 0 = 0 by rw [List.getD_eq_getElem?_getD, List.getElem?_eq_none hlm']; rfl)
            go_wp2_with fail
            exact ⟨⟨k + 1, by omega, by go_num, by rw [HANS.out, HV9.out], below_drewK HB9q.out n10⟩, by simp [intOf]; omega⟩
        · obtain rfl : k = cn := by omega
          rw [HVAL.out]
          clear hev
          go_wp2_with fail
          go_ret
          exact ⟨rfl, HB8.out.trans (HBq.out.mono hz8)⟩

/-! ### THE ROW's STEP: WRITTEN OUT: LEAVE IT -/
set_option maxRecDepth 100000 in
theorem lifted (os : Os) (started : os.Started) (H : Type) (enc : TypeId × Value → H) :
    ReturnsInHanded {} Try.checked os 10 .any (Rows.interpCallsSpec.pre6 enc Try.prog Try.f10 Rows.interpCallsRow.domain false) (Rows.interpCallsSpec.post enc Try.prog Try.f10 false true false false) := by
  refine returnsInHanded_of_change (C := Try.checked) own started (by kernel_rfl) Try.func10
    (ChangeSpec.witness6 (enc := enc) (C := Try.checked) false ⟨#[], #[.int .u8 0, .slice none 0 0, .int .i32 0], []⟩ 8 (by kernel_rfl) (by kernel_rfl) (by kernel_rfl) (by kernel_rfl)) ?_
  intro W base args ds gs before hval0 hW hcnd _
  have hval : ∀ (j : Nat) t v, Try.f10.params[j]? = some t → args[j]? = some v → Value.okWide Try.prog W .any base t v := hval0
  have hW' := hW
  obtain ⟨p, q, hA0, hV, rfl, hfz, hnd⟩ := hW
  have hA : DataW.TrodAll enc Try.prog W 0 (fun _ => true) true Try.f10.params.toList args.toList ds p := hA0
  rw [Try.params10] at hA hval
  obtain ⟨v0, vs0, d0, ds0, p0, q0, hargs, rfl, rfl, h0, r0⟩ := trodAll_cons hA
  obtain ⟨v1, vs1, d1, ds1, p1, q1, rfl, rfl, rfl, h1, r1⟩ := trodAll_cons r0
  obtain ⟨v2, vs2, d2, ds2, p2, q2, rfl, rfl, rfl, h2, r2⟩ := trodAll_cons r1
  obtain ⟨rfl, rfl, rfl⟩ := trodAll_nil r2
  obtain rfl : args = #[v0, v1, v2] := by cases args; simp_all
  obtain ⟨rfl, rfl⟩ := trodVars_none hV
  obtain ⟨a0, rfl, rfl, rfl, w0⟩ := open_int Try.underlying5 (hval 0 5 v0 rfl rfl) h0
  obtain ⟨a1, len1, cap1, rfl⟩ := okWide_slice Try.underlying42 (hval 1 42 v1 rfl rfl)
  have k1 := h1
  have lt1 : ∀ x ∈ p1, x.block < W.heap.size := by obtain ⟨m, hm⟩ := k1; exact DataW.trod_lt m _ _ _ hm
  obtain ⟨z1, w1⟩ : ∃ zs, IsRow .i32 W a1 len1 cap1 zs := by
    obtain ⟨fuel, hf⟩ := h1
    rcases open_ints Try.underlying42 Try.underlying21 (by kernel_rfl) hf with ⟨hcs, _⟩ | ⟨x, l, c, zs, hcs, _, hl, hm, hz, _, hcell, hwz⟩
    · simp [Value.cells] at hcs
      obtain ⟨rfl, rfl, rfl⟩ := hcs
      exact ⟨[], .inl ⟨rfl, rfl, rfl, rfl⟩⟩
    · simp [Value.cells] at hcs
      obtain ⟨rfl, rfl, rfl⟩ := hcs
      exact ⟨zs, .inr ⟨_, rfl, hl, hm, by simpa using hz, hcell, hwz⟩⟩
  obtain ⟨a2, rfl, rfl, rfl, w2⟩ := open_int Try.underlying21 (hval 2 21 v2 rfl rfl) h2
  clear hA0 hval0
  refine (walk a0 a1 len1 cap1 z1 a2 W w0 w1 w2).mono fun e W' ⟨he, bel⟩ => ?_
  subst he
  exact ⟨_, rfl, _, _, _, [], _, [], hW', trodAll_mk1 (shut_bool Try.underlying4 _), (trodAll_cons_mk (shut_int Try.underlying5 w0) (trodAll_cons_mk (Below.trod laidOut (by kernel_rfl) (of_decide_eq_true (by kernel_rfl)) k1 bel lt1) (trodAll_cons_mk (shut_int Try.underlying21 w2) trodAll_mk0))), rfl, bel.frame _, fun h => by cases h⟩

theorem over : Rows.interpCallsRow.holds Try.pinned (OpenSpec.ofChange Rows.interpCallsSpec) :=
  OpenClaim.holds_of_wide 10 Try.f10 rfl rfl rfl rfl rfl rfl rfl ⟨rfl, rfl, rfl, rfl, rfl⟩ rfl rfl rfl rfl rfl (by kernel_rfl) Try.func10 (by kernel_rfl)
    (of_decide_eq_true (by kernel_rfl)) (by unfold Func.isWrapper; first | (rw [if_pos (by decide +kernel)]; kernel_rfl) | (rw [if_neg (by decide +kernel)]; exact ⟨rfl, rfl⟩))
    (fun os started H enc _ => lifted os started H enc)

/-- ████ THE STATEMENT ████ -/
theorem proved : Rows.InterpCallsSaid := over
#print axioms proved
end Go.Proofs.Ytcangooibfddmaa.interpCalls
