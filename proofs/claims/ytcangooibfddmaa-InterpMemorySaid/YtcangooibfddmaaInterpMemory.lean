/- What is proved: what was stored is loaded, all other words stay, and there is a trap of each address that there is not, whatever the number is that an instruction adds (law InterpMemory): for every memory, address and word the law answers true. Conditions: none beside those that the given form carries. -/
import Derived.Test.YtcangooibfddmaaRows
import Derived.Test.YtcangooibfddmaaILawM
import Derived.WalkKit
import Derived.ProofKit
import Derived.OpenShut
import Derived.ShutString
import Derived.ChangeOld
import Derived.Below
namespace Go.Proofs.Ytcangooibfddmaa.interpMemory
open Go.ChangeShapes Go.WideShapes Go.ChangeAt Go.RowKit
open Go.ChangeMaps (open_string shut_string)
set_option linter.unusedVariables false

theorem own : ownKnob Try.prog.godebug = none := by kernel_rfl
theorem laidOut : laidOutB Try.prog = true := by kernel_rfl

/-- WHAT THE WALK IS TOLD OF A SLICE OF INTEGERS THAT CAME IN: it is nil; or it leads to a row of 'cap' cells, the numbers 'zs' (the first 'len' are its elements, the rest its spare room), each fitting its kind. -/
def IsRow (k : IntKind) (w : World) (a : Option Addr) (len cap : Nat) (zs : List Int) : Prop :=
  (a = none ∧ len = 0 ∧ cap = 0 ∧ zs = []) ∨
  ∃ x, a = some x ∧ len ≤ cap ∧ cap ≤ maxLen ∧ zs.length = cap ∧ (∀ i, i < zs.length → w.cell? (x.add i) = some (.int k (zs.getD i 0))) ∧ ∀ n ∈ zs, (Lit.int k n).wf = true

open Go.Maps Go.Proofs.Ytcangooibfddmaa.Mem Go.Proofs.Ytcangooibfddmaa.Kc Go.Proofs.Ytcangooibfddmaa.Br Go.Proofs.Ytcangooibfddmaa.Pl Go.Proofs.Ytcangooibfddmaa.Gr Go.Proofs.Ytcangooibfddmaa.Wd Go.Proofs.Ytcangooibfddmaa.Ic
theorem words_of_row {w : World} {A : Option Addr} {n c : Nat} {z : List Int} (h : IsRow .i32 w A n c z) : ∃ l, WordsAt w (.slice A n c) l ∧ n = l.length ∧ ∀ x ∈ l, InW x := by
  rcases h with ⟨rfl, rfl, rfl, rfl⟩ | ⟨ad, rfl, hl, hm, hz, hc, hw⟩
  · exact ⟨[], WordsAt.none_ w, rfl, fun x hx => by cases hx⟩
  · have e : (z.take n).length = n := by rw [List.length_take]; omega
    refine ⟨z.take n, ⟨some ad, c, by rw [e], by omega, hm, fun k hk => ⟨ad, rfl, ?_⟩⟩, e.symm, fun x hx => bounds_i32 (hw x (List.mem_of_mem_take hx))⟩
    have hk2 : k < z.length := by omega
    rw [hc k hk2, List.getElem_take, List.getD_eq_getElem?_getD, List.getElem?_eq_getElem hk2]; rfl

/-! ### STEP 1: THE WALK: the Go text returns true, AND WRITES NOTHING THAT WAS THERE: 'Below w.heap.size w w'' (Derived/Below.lean: '.refl', '.alloc', '.drew', '.setCell' at a new block, '.trans'). Open each 'IsRow' by 'rcases' AHEAD of 'go_enter'; part every test ahead of the walk. -/
set_option maxRecDepth 100000 in
set_option maxHeartbeats 2000000 in
theorem walk (a0 : Option Addr) (len0 cap0 : Nat) (z0 : List Int) (a1 : Int) (a2 : Int) (w : World) (w0 : IsRow .i32 w a0 len0 cap0 z0) (w1 : (Lit.int .i32 a1).wf = true) (w2 : (Lit.int .i32 a2).wf = true) :
    Calls Try.prog 6 #[.slice a0 len0 cap0, .int .i32 a1, .int .i32 a2] w fun e w' => e = .returned (.bool true) ∧ Below w.heap.size w w' := by
  obtain ⟨l0, hw, hn, hz⟩ := words_of_row w0
  have ha : InW a1 := bounds_i32 w1
  have hv : InW a2 := bounds_i32 w2
  have HA := Lib.hid ha
  have HV := Lib.hid hv
  have HZ := Lib.hid hz
  have HW := Lib.hid hw
  have hn1 : l0.length ≤ cap0 := by
    obtain ⟨_, _, e, n1, _, _⟩ := hw
    injection e with _ _ e
    omega
  have hn2 : cap0 ≤ 9223372036854775807 := by
    obtain ⟨_, _, e, _, n2, _⟩ := hw
    injection e with _ _ e
    unfold maxLen at n2
    omega
  clear hw
  obtain rfl := hn
  have hmin : (min (l0.length : Int) 20).toNat ≤ l0.length := by omega
  have HMIN := Lib.hid (show l0.take (min (l0.length : Int) 20).toNat = l0.take 20 by
    by_cases hc : l0.length ≤ 20
    · rw [List.take_of_length_le (by omega), List.take_of_length_le hc]
    · rw [show (min (l0.length : Int) 20).toNat = 20 by omega])
  have HT := Lib.hid (show (l0.take 20).length ≤ 20 by rw [List.length_take]; omega)
  have HTW := Lib.hid (show ∀ x ∈ l0.take 20, InW x from fun x hx => hz x (List.mem_of_mem_take hx))
  clear ha hv hz w0 w1 w2 z0
  go_enter Try.func6, Try.ntmps6
  go_wp2_with fail
  refine (shown_any w).mono ?_
  rintro e ws ⟨rfl, hs⟩
  have HBS := Lib.hid hs
  have hzs := hs.size
  clear hs
  have hb1 : Below ws.heap.size ws (ws.alloc (.cells #[] 21)) := (Below.refl _ _).alloc (Nat.le_refl _) _
  go_wp2_with (at_builtin; refine wpList_own0 rfl _ _ rfl rfl ws.heap.size _ (l0.take 20) rfl (empty_own ws 21 1) (by rw [← HMIN.out]; exact (HW.out.below (HBS.out.trans (hb1.mono hzs))).take _ hmin) (by have := HT.out; omega) hb1.size ?_)
  intro vw w2 ho hg
  have hb2 := below_of_own hb1 hg (fun g hg => by injection hg with hg; rw [← hg]; exact Nat.le_refl _)
  have HB2 := Lib.hid (HBS.out.trans (hb2.mono hzs))
  have hz2 := Nat.le_trans hzs hb2.size
  clear hb1 hg hb2
  generalize l0.take 20 = m at *
  obtain ⟨vA, vc, rfl⟩ := own_form ho
  have HO := Lib.hid (show OwnWords w.heap.size w2 (.slice vA m.length vc) m from OwnWords.mono ho hzs)
  clear ho
  go_wp2_with fail
  obtain ⟨imm, himm⟩ : ∃ imm, bits BinOp.xor .i32 a2 a1 = imm := ⟨_, rfl⟩
  rw [himm]
  have HIM := Lib.hid (show InW imm by obtain ⟨q, hq⟩ := bits_i32 BinOp.xor a2 a1; rw [← himm, hq]; exact wrap32_bd q)
  clear himm
  obtain ⟨W3, hLW3⟩ : ∃ W, ((w2.alloc (.cells #[.int .i64 0, .int .i64 1] 3)).alloc (.cells #[.int .i64 0] 3)).alloc (.cells #[.int .i64 16, .int .i64 0, .int .i64 0, .slice (some ⟨w2.heap.size, 0, none⟩) 2 2, .int .i32 imm, .int .i64 15, .int .i64 2, .int .i64 0, .slice (some ⟨w2.heap.size + 1, 0, none⟩) 1 1, .int .i32 imm] 36) = W := ⟨_, rfl⟩
  rw [hLW3]
  have hMW3 : laid w2 [([.int .i64 0, .int .i64 1], 3), ([.int .i64 0], 3), ([.int .i64 16, .int .i64 0, .int .i64 0, .slice (some ⟨w2.heap.size, 0, none⟩) 2 2, .int .i32 imm, .int .i64 15, .int .i64 2, .int .i64 0, .slice (some ⟨w2.heap.size + 1, 0, none⟩) 1 1, .int .i32 imm], 36)] = W3 := hLW3
  have hbW3 : Below w2.heap.size w2 W3 := by rw [← hMW3]; exact laid_below _ _ _ (Nat.le_refl _)
  have s0 : Str W3 (w2.heap.size) 3 [.int .i64 0, .int .i64 1] := by rw [← hMW3]; exact laid_at _ w2 0 _ _ rfl
  have s1 : Str W3 (w2.heap.size + 1) 3 [.int .i64 0] := by rw [← hMW3]; exact laid_at _ w2 1 _ _ rfl
  have s2 : Str W3 (w2.heap.size + 1 + 1) 36 [.int .i64 16, .int .i64 0, .int .i64 0, .slice (some ⟨w2.heap.size, 0, none⟩) 2 2, .int .i32 imm, .int .i64 15, .int .i64 2, .int .i64 0, .slice (some ⟨w2.heap.size + 1, 0, none⟩) 1 1, .int .i32 imm] := by rw [← hMW3]; exact laid_at _ w2 2 _ _ rfl
  have hzW3 : W3.heap.size = w2.heap.size + 3 := by rw [← hMW3]; exact laid_size _ _
  clear hLW3 hMW3
  refine (ret_any W3 2).mono ?_
  rintro e w4 ⟨gR, rfl, hR, hb4⟩
  go_wp2_with fail
  refine (one_any w4 2 4 0 _ _ _ _ _ _ _ _ _).mono ?_
  rintro e w5 ⟨gB, rfl, hB, hb5⟩
  have hb35 := hb4.trans (hb5.mono hb4.size)
  have HF := Lib.hid (block_mem ⟨by omega, by omega⟩ ⟨by omega, by omega⟩ hB (s2.below hb35) (s0.below hb35) (s1.below hb35) (cell_keep hb5 (Nat.le_refl _) hR))
  have hb25 := hbW3.trans (hb35.mono hbW3.size)
  have HB5 := Lib.hid (HB2.out.trans (hb25.mono hz2))
  have HO5 := Lib.hid (HO.out.below hb25)
  have hz5 := Nat.le_trans hz2 hb25.size
  clear hb35 hb25 hbW3 hb4 hb5 hB hR s0 s1 s2 hzW3
  go_wp2_with fail
  obtain ⟨W6, hLW6⟩ : ∃ W, ((w5.alloc (.cells #[.int .i64 2, .slice (some ⟨gB, 0, none⟩) 1 1] 24)).alloc (.cells #[.int .i32 (wrap32 (a1 - imm)), .int .i32 a2] 21)).alloc (.cells #[.slice (some ⟨w5.heap.size + 1, 0, none⟩) 2 2, .slice vA m.length vc, .slice none 0 0, .int .i64 9] 50) = W := ⟨_, rfl⟩
  rw [hLW6]
  have hMW6 : laid w5 [([.int .i64 2, .slice (some ⟨gB, 0, none⟩) 1 1], 24), ([.int .i32 (wrap32 (a1 - imm)), .int .i32 a2], 21), ([.slice (some ⟨w5.heap.size + 1, 0, none⟩) 2 2, .slice vA m.length vc, .slice none 0 0, .int .i64 9], 50)] = W6 := hLW6
  have hbW6 : Below w5.heap.size w5 W6 := by rw [← hMW6]; exact laid_below _ _ _ (Nat.le_refl _)
  have s0 : Str W6 (w5.heap.size) 24 [.int .i64 2, .slice (some ⟨gB, 0, none⟩) 1 1] := by rw [← hMW6]; exact laid_at _ w5 0 _ _ rfl
  have s1 : Str W6 (w5.heap.size + 1) 21 [.int .i32 (wrap32 (a1 - imm)), .int .i32 a2] := by rw [← hMW6]; exact laid_at _ w5 1 _ _ rfl
  have s2 : Str W6 (w5.heap.size + 1 + 1) 50 [.slice (some ⟨w5.heap.size + 1, 0, none⟩) 2 2, .slice vA m.length vc, .slice none 0 0, .int .i64 9] := by rw [← hMW6]; exact laid_at _ w5 2 _ _ rfl
  have hzW6 : W6.heap.size = w5.heap.size + 3 := by rw [← hMW6]; exact laid_size _ _
  clear hLW6 hMW6
  refine (run_mem W6 gB a1 a2 imm HA.out HV.out HIM.out (HF.out.keep hbW6) _ (.slice vA m.length vc) m (words2 s1 ⟨by omega, fits (by omega)⟩) (words_of_own (HO5.out.below hbW6)) HT.out HTW.out).mono ?_
  intro e w7 ht
  have HB6 := Lib.hid (HB5.out.trans (hbW6.mono hz5))
  have HO6 := Lib.hid (HO5.out.below hbW6)
  have hz6 := Nat.le_trans hz5 hbW6.size
  clear s0 s1 s2 hbW6 hzW6
  unfold MemTells at ht
  have hcase : (hasB m.length a1 = true) ∨ (hasB m.length a1 = false ∧ a1 < 0) ∨ (hasB m.length a1 = false ∧ 0 ≤ a1 ∧ (m.length : Int) ≤ a1) := by
    cases h : hasB m.length a1 with
    | true => exact Or.inl rfl
    | false =>
      right
      have h' : ¬ (0 ≤ a1 ∧ a1 < m.length) := fun e => by rw [has_iff.2 e] at h; cases h
      by_cases h0 : a1 < 0
      · exact Or.inl ⟨rfl, h0⟩
      · exact Or.inr ⟨rfl, by omega, by omega⟩
  rcases hcase with hB | ⟨hB, hneg⟩ | ⟨hB, hpos, hbig⟩
  · have HBH := Lib.hid hB
    rw [if_pos hB] at ht
    obtain ⟨hp0, hp1⟩ := has_iff.1 hB
    obtain ⟨k, rfl⟩ : ∃ k : Nat, a1 = k := ⟨a1.toNat, by omega⟩
    have hk : k < m.length := by omega
    clear hB
    obtain ⟨mA, mn, mc, cA, cn, ck, rfl, hown, hev, hb7⟩ := ht
    have HB7 := Lib.hid (HB6.out.trans (hb7.mono hz6))
    have HO7 := Lib.hid (HO6.out.below hb7)
    have HM7 := Lib.hid hown
    have hz7 := Nat.le_trans hz6 hb7.size
    clear hown hev hb7
    go_upto_region 7 with (fail)
    obtain ⟨W8, hLW8⟩ : ∃ W, w7.alloc (.cells #[.int .i64 1, .int .i32 a2, .slice mA mn mc, .slice cA cn ck, .int .i64 3] 45) = W := ⟨_, rfl⟩
    rw [hLW8]
    have hMW8 : laid w7 [([.int .i64 1, .int .i32 a2, .slice mA mn mc, .slice cA cn ck, .int .i64 3], 45)] = W8 := hLW8
    have hbW8 : Below w7.heap.size w7 W8 := by rw [← hMW8]; exact laid_below _ _ _ (Nat.le_refl _)
    have s0 : Str W8 (w7.heap.size) 45 [.int .i64 1, .int .i32 a2, .slice mA mn mc, .slice cA cn ck, .int .i64 3] := by rw [← hMW8]; exact laid_at _ w7 0 _ _ rfl
    have hzW8 : W8.heap.size = w7.heap.size + 1 := by rw [← hMW8]; exact laid_size _ _
    clear hLW8 hMW8
    have q0 : W8.cell? ⟨w7.heap.size, 0, none⟩ = some (.int .i64 1) := s0.cell 0
    have q1 : W8.cell? ⟨w7.heap.size, 1, none⟩ = some (.int .i32 a2) := s0.cell 1
    have q2 : W8.cell? ⟨w7.heap.size, 2, none⟩ = some (.slice mA mn mc) := s0.cell 2
    have q4 : W8.cell? ⟨w7.heap.size, 4, none⟩ = some (.int .i64 3) := s0.cell 4
    have HB8 := Lib.hid (HB7.out.trans (hbW8.mono hz7))
    have HO8 := Lib.hid (HO7.out.below hbW8)
    have HM8 := Lib.hid (HM7.out.below hbW8)
    have hz8 := Nat.le_trans hz7 hbW8.size
    clear s0 hbW8 hzW8
    go_wp2_with fail
    refine (load_any W8 (.slice vA m.length vc) m k (words_of_own HO8.out) (by have := HT.out; omega) HA.out).mono ?_
    rintro e w9 ⟨rfl, hw9⟩
    have hw8 := hw9.symm
    subst hw8
    clear hw9
    rw [HBH.out]
    obtain ⟨A', c', e, n1, n2, n3⟩ := words_of_own HO8.out
    injection e with e1 _ e3
    subst e1 e3
    obtain ⟨ad, rfl, hc⟩ := n3 k hk
    have HLV := Lib.hid (show loadV m k = m[k] by unfold loadV; rw [if_pos HBH.out, Int.toNat_natCast, List.getD_eq_getElem?_getD, List.getElem?_eq_getElem hk]; rfl)
    rw [HLV.out]
    generalize m[k] = z at *
    have hm20 : m.length ≤ 20 := HT.out
    clear n1 n2 n3
    have hb9 : Below W8.heap.size W8 (W8.alloc (.cells #[] 21)) := (Below.refl _ _).alloc (Nat.le_refl _) _
    go_wp2_with (at_builtin; refine wpList_own0 rfl _ _ rfl rfl W8.heap.size _ m rfl (empty_own W8 21 1) (words_of_own (HO8.out.below hb9)) (by omega) hb9.size ?_)
    intro vk w10 hk10 hg10
    have hb10 := below_of_own hb9 hg10 (fun g hg => by injection hg with hg; rw [← hg]; exact Nat.le_refl _)
    obtain ⟨kA, kc, rfl⟩ := own_form hk10
    have q0 := cell_keep hb10 (Nat.le_refl _) q0
    have q1 := cell_keep hb10 (Nat.le_refl _) q1
    have q2 := cell_keep hb10 (Nat.le_refl _) q2
    have q4 := cell_keep hb10 (Nat.le_refl _) q4
    have HB10 := Lib.hid (HB8.out.trans (hb10.mono hz8))
    have HM10 := Lib.hid (HM8.out.below hb10)
    have HK := Lib.hid hk10
    have hz10 := Nat.le_trans hz8 hb10.size
    have h78 : w7.heap.size < W8.heap.size := lt_of_cell (by assumption : W8.cell? ⟨w7.heap.size, 0, none⟩ = _)
    clear hb9 hg10 hb10 hk10 hc
    go_wp2_with fail
    refine (store_any w10 W8.heap.size (.slice kA m.length kc) m k a2 HK.out (by omega) HA.out).mono ?_
    intro e w12 hp
    unfold StoreRes at hp
    rw [if_pos HBH.out] at hp
    obtain ⟨rfl, g, hg, hb12, hk12⟩ := hp
    have hgw := OwnWords.where_ HK.out hg
    have n7 : w7.heap.size ≠ g := by omega
    have q0 := hb12.cell q0 n7
    have q1 := hb12.cell q1 n7
    have q2 := hb12.cell q2 n7
    have q4 := hb12.cell q4 n7
    have HB12 := Lib.hid (HB10.out.trans (below_of_but hb12 (show w.heap.size ≤ g by omega) hz10))
    have HM12 := Lib.hid (show OwnWords W6.heap.size w12 (.slice mA mn mc) (m.set ((k : Int)).toNat a2) from World.ownsRow.kept HM10.out (grown_of_but hb12) (by
      cases hv : (Value.slice mA mn mc).ownBlock with
      | none => exact Or.inl rfl
      | some g' =>
        right
        intro e
        injection e with e
        have := (OwnWords.where_ HM8.out hv).2
        omega))
    have HK12 := Lib.hid hk12
    have hl12 : (m.set ((k : Int)).toNat a2).length = m.length := List.length_set
    obtain ⟨A', c', e, n1, n2, n3⟩ := words_of_own hk12
    rw [hl12] at e
    injection e with e1 _ e3
    subst e1 e3
    obtain ⟨kd, rfl, hkc⟩ := n3 k (by rw [hl12]; exact hk)
    have hkc : w12.cell? (kd.add k) = some (.int .i32 a2) := by
      rw [hkc]
      simp
    generalize m.set ((k : Int)).toNat a2 = m' at *
    clear n1 n2 n3 hb12 hk12 hg
    go_wp2_with fail
    refine (words_any w12 (.slice mA mn mc) (.slice (some kd) m.length kc) m' m' (words_of_own HM12.out) (by have h9 := words_of_own HK12.out; exact h9)).mono ?_
    rintro e w13 ⟨rfl, n13, rfl⟩
    rw [decide_eq_true (rfl : m' = m')]
    go_wp2_with fail
    go_ret
    exact ⟨rfl, below_drewK HB12.out n13⟩
  · have HBH := Lib.hid hB
    obtain ⟨hlo, hhi⟩ := HA.out
    rw [if_neg (by rw [hB]; exact Bool.false_ne_true)] at ht
    clear hB
    obtain ⟨mA, mn, mc, cA, cn, ck, rfl, hown, hev, hb7⟩ := ht
    have HB7 := Lib.hid (HB6.out.trans (hb7.mono hz6))
    have HO7 := Lib.hid (HO6.out.below hb7)
    have HM7 := Lib.hid hown
    have hz7 := Nat.le_trans hz6 hb7.size
    clear hown hev hb7
    go_upto_region 7 with (fail)
    obtain ⟨W8, hLW8⟩ : ∃ W, w7.alloc (.cells #[.int .i64 2, .int .i32 (-2), .slice mA mn mc, .slice cA cn ck, .int .i64 1] 45) = W := ⟨_, rfl⟩
    rw [hLW8]
    have hMW8 : laid w7 [([.int .i64 2, .int .i32 (-2), .slice mA mn mc, .slice cA cn ck, .int .i64 1], 45)] = W8 := hLW8
    have hbW8 : Below w7.heap.size w7 W8 := by rw [← hMW8]; exact laid_below _ _ _ (Nat.le_refl _)
    have s0 : Str W8 (w7.heap.size) 45 [.int .i64 2, .int .i32 (-2), .slice mA mn mc, .slice cA cn ck, .int .i64 1] := by rw [← hMW8]; exact laid_at _ w7 0 _ _ rfl
    have hzW8 : W8.heap.size = w7.heap.size + 1 := by rw [← hMW8]; exact laid_size _ _
    clear hLW8 hMW8
    have q0 : W8.cell? ⟨w7.heap.size, 0, none⟩ = some (.int .i64 2) := s0.cell 0
    have q1 : W8.cell? ⟨w7.heap.size, 1, none⟩ = some (.int .i32 (-2)) := s0.cell 1
    have q2 : W8.cell? ⟨w7.heap.size, 2, none⟩ = some (.slice mA mn mc) := s0.cell 2
    have q4 : W8.cell? ⟨w7.heap.size, 4, none⟩ = some (.int .i64 1) := s0.cell 4
    have HB8 := Lib.hid (HB7.out.trans (hbW8.mono hz7))
    have HO8 := Lib.hid (HO7.out.below hbW8)
    have HM8 := Lib.hid (HM7.out.below hbW8)
    have hz8 := Nat.le_trans hz7 hbW8.size
    clear s0 hbW8 hzW8
    go_wp2_with fail
    refine (load_any W8 (.slice vA m.length vc) m a1 (words_of_own HO8.out) (by have := HT.out; omega) HA.out).mono ?_
    rintro e w9 ⟨rfl, hw9⟩
    have hw8 := hw9.symm
    subst hw8
    clear hw9
    rw [HBH.out, show loadV m a1 = 0 by unfold loadV; rw [HBH.out]; rfl]
    have hb9 : Below W8.heap.size W8 (W8.alloc (.cells #[] 21)) := (Below.refl _ _).alloc (Nat.le_refl _) _
    go_wp2_with (at_builtin; refine wpList_own0 rfl _ _ rfl rfl W8.heap.size _ m rfl (empty_own W8 21 1) (words_of_own (HO8.out.below hb9)) (by have := HT.out; omega) hb9.size ?_)
    intro vk w10 hk hg10
    have hb10 := below_of_own hb9 hg10 (fun g hg => by injection hg with hg; rw [← hg]; exact Nat.le_refl _)
    obtain ⟨kA, kc, rfl⟩ := own_form hk
    have q0 := cell_keep hb10 (Nat.le_refl _) q0
    have q1 := cell_keep hb10 (Nat.le_refl _) q1
    have q2 := cell_keep hb10 (Nat.le_refl _) q2
    have q4 := cell_keep hb10 (Nat.le_refl _) q4
    have HB10 := Lib.hid (HB8.out.trans (hb10.mono hz8))
    have HM10 := Lib.hid (HM8.out.below hb10)
    have HO10 := Lib.hid (HO8.out.below hb10)
    have HK := Lib.hid hk
    clear hb9 hg10 hb10 hk
    go_wp2_with fail
    refine (words_any w10 (.slice mA mn mc) (.slice kA m.length kc) m m (words_of_own HM10.out) (words_of_own HK.out)).mono ?_
    rintro e w11 ⟨rfl, n11, rfl⟩
    rw [decide_eq_true (rfl : m = m)]
    go_wp2_with fail
    refine (store_any (w10.drewN n11) W8.heap.size (.slice kA m.length kc) m a1 a2 (HK.out.below (below_drewK (Below.refl _ _) n11)) (by have := HT.out; omega) HA.out).mono ?_
    intro e w12 hp
    unfold StoreRes at hp
    rw [if_neg (by rw [HBH.out]; exact Bool.false_ne_true)] at hp
    obtain ⟨rfl, rfl⟩ := hp
    go_wp2_with fail
    refine (words_any (w10.drewN n11) (.slice kA m.length kc) (.slice vA m.length vc) m m (words_of_own (HK.out.below (below_drewK (Below.refl _ _) n11))) (words_of_own (HO10.out.below (below_drewK (Below.refl _ _) n11)))).mono ?_
    rintro e w13 ⟨rfl, n13, rfl⟩
    rw [decide_eq_true (rfl : m = m)]
    go_wp2_with fail
    go_ret
    exact ⟨rfl, below_drewK HB10.out _⟩
  · have HBH := Lib.hid hB
    obtain ⟨hlo, hhi⟩ := HA.out
    rw [if_neg (by rw [hB]; exact Bool.false_ne_true)] at ht
    clear hB
    obtain ⟨mA, mn, mc, cA, cn, ck, rfl, hown, hev, hb7⟩ := ht
    have HB7 := Lib.hid (HB6.out.trans (hb7.mono hz6))
    have HO7 := Lib.hid (HO6.out.below hb7)
    have HM7 := Lib.hid hown
    have hz7 := Nat.le_trans hz6 hb7.size
    clear hown hev hb7
    go_upto_region 7 with (fail)
    obtain ⟨W8, hLW8⟩ : ∃ W, w7.alloc (.cells #[.int .i64 2, .int .i32 (-2), .slice mA mn mc, .slice cA cn ck, .int .i64 1] 45) = W := ⟨_, rfl⟩
    rw [hLW8]
    have hMW8 : laid w7 [([.int .i64 2, .int .i32 (-2), .slice mA mn mc, .slice cA cn ck, .int .i64 1], 45)] = W8 := hLW8
    have hbW8 : Below w7.heap.size w7 W8 := by rw [← hMW8]; exact laid_below _ _ _ (Nat.le_refl _)
    have s0 : Str W8 (w7.heap.size) 45 [.int .i64 2, .int .i32 (-2), .slice mA mn mc, .slice cA cn ck, .int .i64 1] := by rw [← hMW8]; exact laid_at _ w7 0 _ _ rfl
    have hzW8 : W8.heap.size = w7.heap.size + 1 := by rw [← hMW8]; exact laid_size _ _
    clear hLW8 hMW8
    have q0 : W8.cell? ⟨w7.heap.size, 0, none⟩ = some (.int .i64 2) := s0.cell 0
    have q1 : W8.cell? ⟨w7.heap.size, 1, none⟩ = some (.int .i32 (-2)) := s0.cell 1
    have q2 : W8.cell? ⟨w7.heap.size, 2, none⟩ = some (.slice mA mn mc) := s0.cell 2
    have q4 : W8.cell? ⟨w7.heap.size, 4, none⟩ = some (.int .i64 1) := s0.cell 4
    have HB8 := Lib.hid (HB7.out.trans (hbW8.mono hz7))
    have HO8 := Lib.hid (HO7.out.below hbW8)
    have HM8 := Lib.hid (HM7.out.below hbW8)
    have hz8 := Nat.le_trans hz7 hbW8.size
    clear s0 hbW8 hzW8
    go_wp2_with fail
    refine (load_any W8 (.slice vA m.length vc) m a1 (words_of_own HO8.out) (by have := HT.out; omega) HA.out).mono ?_
    rintro e w9 ⟨rfl, hw9⟩
    have hw8 := hw9.symm
    subst hw8
    clear hw9
    rw [HBH.out, show loadV m a1 = 0 by unfold loadV; rw [HBH.out]; rfl]
    have hb9 : Below W8.heap.size W8 (W8.alloc (.cells #[] 21)) := (Below.refl _ _).alloc (Nat.le_refl _) _
    go_wp2_with (at_builtin; refine wpList_own0 rfl _ _ rfl rfl W8.heap.size _ m rfl (empty_own W8 21 1) (words_of_own (HO8.out.below hb9)) (by have := HT.out; omega) hb9.size ?_)
    intro vk w10 hk hg10
    have hb10 := below_of_own hb9 hg10 (fun g hg => by injection hg with hg; rw [← hg]; exact Nat.le_refl _)
    obtain ⟨kA, kc, rfl⟩ := own_form hk
    have q0 := cell_keep hb10 (Nat.le_refl _) q0
    have q1 := cell_keep hb10 (Nat.le_refl _) q1
    have q2 := cell_keep hb10 (Nat.le_refl _) q2
    have q4 := cell_keep hb10 (Nat.le_refl _) q4
    have HB10 := Lib.hid (HB8.out.trans (hb10.mono hz8))
    have HM10 := Lib.hid (HM8.out.below hb10)
    have HO10 := Lib.hid (HO8.out.below hb10)
    have HK := Lib.hid hk
    clear hb9 hg10 hb10 hk
    go_wp2_with fail
    refine (words_any w10 (.slice mA mn mc) (.slice kA m.length kc) m m (words_of_own HM10.out) (words_of_own HK.out)).mono ?_
    rintro e w11 ⟨rfl, n11, rfl⟩
    rw [decide_eq_true (rfl : m = m)]
    go_wp2_with fail
    refine (store_any (w10.drewN n11) W8.heap.size (.slice kA m.length kc) m a1 a2 (HK.out.below (below_drewK (Below.refl _ _) n11)) (by have := HT.out; omega) HA.out).mono ?_
    intro e w12 hp
    unfold StoreRes at hp
    rw [if_neg (by rw [HBH.out]; exact Bool.false_ne_true)] at hp
    obtain ⟨rfl, rfl⟩ := hp
    go_wp2_with fail
    refine (words_any (w10.drewN n11) (.slice kA m.length kc) (.slice vA m.length vc) m m (words_of_own (HK.out.below (below_drewK (Below.refl _ _) n11))) (words_of_own (HO10.out.below (below_drewK (Below.refl _ _) n11)))).mono ?_
    rintro e w13 ⟨rfl, n13, rfl⟩
    rw [decide_eq_true (rfl : m = m)]
    go_wp2_with fail
    go_ret
    exact ⟨rfl, below_drewK HB10.out _⟩

/-! ### THE ROW's STEP: WRITTEN OUT: LEAVE IT -/
set_option maxRecDepth 100000 in
theorem lifted (os : Os) (started : os.Started) (H : Type) (enc : TypeId × Value → H) :
    ReturnsInHanded {} Try.checked os 6 .any (Rows.interpMemorySpec.pre6 enc Try.prog Try.f6 Rows.interpMemoryRow.domain false) (Rows.interpMemorySpec.post enc Try.prog Try.f6 false true false false) := by
  refine returnsInHanded_of_change (C := Try.checked) own started (by kernel_rfl) Try.func6
    (ChangeSpec.witness6 (enc := enc) (C := Try.checked) false ⟨#[], #[.slice none 0 0, .int .i32 0, .int .i32 0], []⟩ 8 (by kernel_rfl) (by kernel_rfl) (by kernel_rfl) (by kernel_rfl)) ?_
  intro W base args ds gs before hval0 hW hcnd _
  have hval : ∀ (j : Nat) t v, Try.f6.params[j]? = some t → args[j]? = some v → Value.okWide Try.prog W .any base t v := hval0
  have hW' := hW
  obtain ⟨p, q, hA0, hV, rfl, hfz, hnd⟩ := hW
  have hA : DataW.TrodAll enc Try.prog W 0 (fun _ => true) true Try.f6.params.toList args.toList ds p := hA0
  rw [Try.params6] at hA hval
  obtain ⟨v0, vs0, d0, ds0, p0, q0, hargs, rfl, rfl, h0, r0⟩ := trodAll_cons hA
  obtain ⟨v1, vs1, d1, ds1, p1, q1, rfl, rfl, rfl, h1, r1⟩ := trodAll_cons r0
  obtain ⟨v2, vs2, d2, ds2, p2, q2, rfl, rfl, rfl, h2, r2⟩ := trodAll_cons r1
  obtain ⟨rfl, rfl, rfl⟩ := trodAll_nil r2
  obtain rfl : args = #[v0, v1, v2] := by cases args; simp_all
  obtain ⟨rfl, rfl⟩ := trodVars_none hV
  obtain ⟨a0, len0, cap0, rfl⟩ := okWide_slice Try.underlying42 (hval 0 42 v0 rfl rfl)
  have k0 := h0
  have lt0 : ∀ x ∈ p0, x.block < W.heap.size := by obtain ⟨m, hm⟩ := k0; exact DataW.trod_lt m _ _ _ hm
  obtain ⟨z0, w0⟩ : ∃ zs, IsRow .i32 W a0 len0 cap0 zs := by
    obtain ⟨fuel, hf⟩ := h0
    rcases open_ints Try.underlying42 Try.underlying21 (by kernel_rfl) hf with ⟨hcs, _⟩ | ⟨x, l, c, zs, hcs, _, hl, hm, hz, _, hcell, hwz⟩
    · simp [Value.cells] at hcs
      obtain ⟨rfl, rfl, rfl⟩ := hcs
      exact ⟨[], .inl ⟨rfl, rfl, rfl, rfl⟩⟩
    · simp [Value.cells] at hcs
      obtain ⟨rfl, rfl, rfl⟩ := hcs
      exact ⟨zs, .inr ⟨_, rfl, hl, hm, by simpa using hz, hcell, hwz⟩⟩
  obtain ⟨a1, rfl, rfl, rfl, w1⟩ := open_int Try.underlying21 (hval 1 21 v1 rfl rfl) h1
  obtain ⟨a2, rfl, rfl, rfl, w2⟩ := open_int Try.underlying21 (hval 2 21 v2 rfl rfl) h2
  clear hA0 hval0
  refine (walk a0 len0 cap0 z0 a1 a2 W w0 w1 w2).mono fun e W' ⟨he, bel⟩ => ?_
  subst he
  exact ⟨_, rfl, _, _, _, [], _, [], hW', trodAll_mk1 (shut_bool Try.underlying4 _), (trodAll_cons_mk (Below.trod laidOut (by kernel_rfl) (of_decide_eq_true (by kernel_rfl)) k0 bel lt0) (trodAll_cons_mk (shut_int Try.underlying21 w1) (trodAll_cons_mk (shut_int Try.underlying21 w2) trodAll_mk0))), rfl, bel.frame _, fun h => by cases h⟩

theorem over : Rows.interpMemoryRow.holds Try.pinned (OpenSpec.ofChange Rows.interpMemorySpec) :=
  OpenClaim.holds_of_wide 6 Try.f6 rfl rfl rfl rfl rfl rfl rfl ⟨rfl, rfl, rfl, rfl, rfl⟩ rfl rfl rfl rfl rfl (by kernel_rfl) Try.func6 (by kernel_rfl)
    (of_decide_eq_true (by kernel_rfl)) (by unfold Func.isWrapper; first | (rw [if_pos (by decide +kernel)]; kernel_rfl) | (rw [if_neg (by decide +kernel)]; exact ⟨rfl, rfl⟩))
    (fun os started H enc _ => lifted os started H enc)

/-- ████ THE STATEMENT ████ -/
theorem proved : Rows.InterpMemorySaid := over
#print axioms proved
end Go.Proofs.Ytcangooibfddmaa.interpMemory
