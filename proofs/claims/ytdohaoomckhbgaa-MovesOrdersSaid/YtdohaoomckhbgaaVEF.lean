/- Moves: jacquardref11.wrong. Moves, plainly: what is still to be carried, move by move and circle by circle. -/
import Derived.Test.YtdohaoomckhbgaaVEA
import Derived.Test.YtdohaoomckhbgaaVB
import Derived.Test.YtdohaoomckhbgaaVDA
import Derived.Test.YtdohaoomckhbgaaVO
namespace Go.Proofs.Ytdohaoomckhbgaa.Vm
open Go.ChangeShapes Go.WideShapes Go.ChangeAt Go.RowKit Go.Maps Go.WideElems Go.ChangeMaps Go.Sort Go.Shelf Go.Proofs.Ytdohaoomckhbgaa.Mem Go.Proofs.Ytdohaoomckhbgaa.Br Go.Proofs.Ytdohaoomckhbgaa.Va Go.Proofs.Ytdohaoomckhbgaa.Vr
set_option linter.unusedVariables false
set_option linter.unusedSimpArgs false
attribute [local go_sem] Oper.semAt_some
theorem place_any (w : World) (n : Int) : Calls Try.prog 73 #[.int .i64 n] w fun e w' => e = .returned (.bool (plB n)) ∧ w' = w := by
  unfold plB
  by_cases h1 : 0 ≤ n
  · have e1 : decide (0 ≤ n) = true := decide_eq_true h1
    rw [e1, Bool.true_and]
    clear e1
    go_enter Try.func73, Try.ntmps73
    go_wp2
    go_ret
    exact ⟨rfl, rfl⟩
  · have e1 : decide (0 ≤ n) = false := decide_eq_false h1
    rw [e1, Bool.false_and]
    clear e1
    go_enter Try.func73, Try.ntmps73
    go_wp2
    go_ret
    exact ⟨rfl, rfl⟩
theorem twice_uni {l : List Mov} (h : Uni l) : twiceN l = false := by
  unfold twiceN
  rw [keptN_self h]; simp
theorem uni_twice {l : List Mov} (h : twiceN l = false) : Uni l := by
  unfold twiceN at h
  have h1 : l.length ≤ (keptN l).length := by simpa using h
  have h2 := php (K := (keptN l).map (·.1)) (F := l.map (·.1)) (keptN_uni l).nodup (fun x hx => by
    obtain ⟨m, hm, rfl⟩ := List.mem_map.1 hx
    rcases mem_foldl_putM hm with h | h
    · cases h
    · exact List.mem_map.2 ⟨m, h, rfl⟩) (by rw [List.length_map, List.length_map]; exact h1)
  exact List.pairwise_map.1 h2.2
theorem twice_yes {l : List Mov} {i k : Nat} (hi : i < l.length) (hk : k < i) (h : l[i].1 = l[k].1) : twiceN l = true := by
  cases ht : twiceN l with
  | true => rfl
  | false => exact absurd h.symm (List.pairwise_iff_getElem.1 (uni_twice ht) k i (by omega) hi hk)
set_option maxRecDepth 100000 in
set_option maxHeartbeats 4000000 in
theorem wrong_any (w : World) (v : Value) (l : List Mov) (sc sp : Int) (hv : MovesAt w v l) (hi : InI sp) : Calls Try.prog 47 #[v, .int .i64 sc, .int .i64 sp] w fun e w' => e = .returned (.int .i64 (faultN l sc sp)) ∧ ∃ n, w' = w.drewN n := by
  have HV := Lib.hid hv
  obtain ⟨A, c, b0, o0, rfl, h1, h2, -⟩ := hv
  unfold maxLen at h2
  obtain ⟨hi1, hi2⟩ := hi
  go_enter Try.func47, Try.ntmps47
  go_wp2_with fail
  go_loopw [7] (fun i wr => ∃ k : Nat, k ≤ l.length ∧ i = .int .i64 k ∧ (l.take k).any badPl = false ∧ wr = w) (fun i _ => l.length - (Go.RowKit.intOf i).toNat)
  case atStart => exact ⟨0, Nat.zero_le _, rfl, rfl, rfl⟩
  case round =>
    obtain ⟨k, hk, rfl, hno, hw⟩ := hrel
    obtain rfl : w = wr := hw.symm
    have HNO := Lib.hid hno
    clear hno
    by_cases hlt : k < l.length
    · obtain ⟨A', c', gb, ob, e, -, -, hA, hc⟩ := HV.out
      injection e with e1 e2 e3
      subst e1 e3
      obtain rfl : A = some ⟨gb, ob, none⟩ := hA (by omega)
      obtain ⟨c0, c1⟩ := hc k hlt
      have HT := Lib.hid (any_stepP hlt HNO.out)
      have HY := Lib.hid (fun h => any_yesP (q := badPl) hlt h)
      have hle1 : k + 1 ≤ l.length := hlt
      clear hc hA
      generalize l[k] = y at *
      obtain ⟨y1, y2⟩ := y
      simp only at c0 c1
      go_wp2_with fail
      refine (place_any w y1).mono ?_
      rintro e w2 ⟨rfl, hw2⟩
      obtain rfl : w = w2 := hw2.symm
      go_wp2_with fail
      refine (place_any w y2).mono ?_
      rintro e w2 ⟨rfl, hw2⟩
      obtain rfl : w = w2 := hw2.symm
      have HBD := Lib.hid (show badPl (y1, y2) = (!plB y1 || !plB y2) from rfl)
      generalize plB y1 = p1 at *
      generalize plB y2 = p2 at *
      cases p1
      · have HE := Lib.hid (show faultN l sc sp = 41 by unfold faultN; rw [if_pos (HY.out (HBD.out.trans rfl))])
        go_wp2_with fail
        go_ret
        rw [HE.out]
        exact ⟨rfl, 0, rfl⟩
      · cases p2
        · have HE := Lib.hid (show faultN l sc sp = 41 by unfold faultN; rw [if_pos (HY.out (HBD.out.trans rfl))])
          go_wp2_with fail
          go_ret
          rw [HE.out]
          exact ⟨rfl, 0, rfl⟩
        · have HR := Lib.hid (HT.out.trans (HBD.out.trans rfl))
          go_wp2_with fail
          exact ⟨⟨k + 1, hle1, by go_num, HR.out, trivial⟩, by simp [Go.RowKit.intOf]; omega⟩
    · obtain rfl : k = l.length := by omega
      have HB1 := Lib.hid (show l.any badPl = false by have h := HNO.out; rwa [List.take_length] at h)
      clear HNO
      go_wp2_with fail
      go_loopw [10] (fun i wr => ∃ k q : Nat, k ≤ l.length ∧ i = .int .i64 k ∧ (∀ i (hi : i < k) (hl : i < l.length) j (hj : j < i), l[i].1 ≠ l[j].1) ∧ wr = w.drewN q) (fun i _ => l.length - (Go.RowKit.intOf i).toNat)
      case atStart => exact ⟨0, 0, Nat.zero_le _, rfl, fun i hi => absurd hi (by omega), rfl⟩
      case round =>
        obtain ⟨k, q, hk, rfl, hno, hw⟩ := hrel
        obtain ⟨wo, rfl⟩ : ∃ wo : World, wo = wr := ⟨_, rfl⟩
        have HW := Lib.hid hw
        have HNO := Lib.hid hno
        clear hno
        by_cases hlt : k < l.length
        · obtain ⟨A', c', gb, ob, e, -, -, hA, hc⟩ := HV.out
          injection e with e1 e2 e3
          subst e1 e3
          obtain rfl : A = some ⟨gb, ob, none⟩ := hA (by omega)
          have HC := Lib.hid hc
          have hle1 : k + 1 ≤ l.length := hlt
          clear hc hA hw
          go_wp2_with fail
          go_loopw [11] (fun j wr => ∃ m q : Nat, m ≤ k ∧ j = .int .i64 m ∧ (∀ j (hl : j < l.length), j < m → l[k].1 ≠ l[j].1) ∧ wr = w.drewN q) (fun j _ => k - (Go.RowKit.intOf j).toNat)
          case atStart => exact ⟨0, q, Nat.zero_le _, rfl, fun j _ hj => absurd hj (by omega), HW.out⟩
          case round =>
            obtain ⟨m, q2, hm, rfl, hno2, hw⟩ := hrel
            obtain ⟨wp, rfl⟩ : ∃ wp : World, wp = wr := ⟨_, rfl⟩
            have HW2 := Lib.hid hw
            have HN2 := Lib.hid hno2
            clear hno2
            by_cases hmk : m < k
            · have c0 : wp.cell? ⟨gb, ob + k * 2, none⟩ = some (.int .i64 l[k].1) := by rw [hw]; exact (HC.out k hlt).1
              have c1 : wp.cell? ⟨gb, ob + m * 2, none⟩ = some (.int .i64 (l[m]'(by omega)).1) := by rw [hw]; exact (HC.out m (by omega)).1
              have hml : m < l.length := by omega
              clear hw
              by_cases hxy : l[k].1 = (l[m]'(by omega)).1
              · have HE := Lib.hid (show faultN l sc sp = 12 by unfold faultN; rw [if_neg (by rw [HB1.out]; simp), if_pos (twice_yes hlt hmk hxy)])
                have hb : (l[k].1 == (l[m]'(by omega)).1) = true := by rw [hxy]; simp
                obtain ⟨x, hx⟩ : ∃ x, l[k].1 = x := ⟨_, rfl⟩
                obtain ⟨y, hy⟩ : ∃ y, (l[m]'(by omega)).1 = y := ⟨_, rfl⟩
                rw [hx] at c0 hb
                rw [hy] at c1 hb
                clear hxy hx hy
                go_wp2_with fail
                go_quiet (fail)
                go_wp2
                go_ret
                rw [HE.out]
                exact ⟨rfl, q2 + nq, by rw [HW2.out]; simp [World.drewN, Nat.add_assoc]⟩
              · have HR := Lib.hid (show ∀ j (hl : j < l.length), j < m + 1 → l[k].1 ≠ l[j].1 from fun j hl hj => by
                  by_cases e : j = m
                  · subst e; exact hxy
                  · exact HN2.out j hl (by omega))
                have hb : (l[k].1 == (l[m]'(by omega)).1) = false := beq_eq_false_iff_ne.2 hxy
                obtain ⟨x, hx⟩ : ∃ x, l[k].1 = x := ⟨_, rfl⟩
                obtain ⟨y, hy⟩ : ∃ y, (l[m]'(by omega)).1 = y := ⟨_, rfl⟩
                rw [hx] at c0 hb
                rw [hy] at c1 hb
                clear hxy hx hy
                go_wp2_with fail
                go_quiet (fail)
                go_wp2
                exact ⟨⟨m + 1, q2 + nq, by omega, by go_num, HR.out, by rw [HW2.out]; simp [World.drewN, Nat.add_assoc]⟩, by simp [Go.RowKit.intOf]; omega⟩
            · obtain rfl : m = k := by omega
              have HR := Lib.hid (show ∀ i (hi : i < m + 1) (hl : i < l.length) j (hj : j < i), l[i].1 ≠ l[j].1 from fun i hi hl j hj => by
                by_cases e : i = m
                · subst e; exact HN2.out j (by omega) hj
                · exact HNO.out i (by omega) hl j hj)
              clear hw
              go_wp2_with fail
              exact ⟨⟨m + 1, q2, hle1, by go_num, HR.out, HW2.out⟩, by simp [Go.RowKit.intOf]; omega⟩
        · obtain rfl : k = l.length := by omega
          have HTW := Lib.hid (show twiceN l = false from twice_uni (List.pairwise_iff_getElem.2 fun i j hi hj hij e => HNO.out j hj hj i hij e.symm))
          clear HNO hw
          have HF2 := Lib.hid (show faultN l sc sp = if (decide (16 ≤ sc) || (decide (0 ≤ sc) && namedB l sc)) = true then 31 else if (decide (16383 ≤ sp) || (decide (0 ≤ sp) && (namedB l (16 + sp) || namedB l (16 + sp + 1)))) = true then 43 else 0 by unfold faultN; rw [if_neg (by rw [HB1.out]; simp), if_neg (by rw [HTW.out]; simp)])
          clear HTW HB1
          by_cases hsc : 15 < sc
          · have HE := Lib.hid (show faultN l sc sp = 31 by rw [HF2.out, if_pos (by rw [decide_eq_true (show 16 ≤ sc by omega)]; rfl)])
            go_wp2_with fail
            go_ret
            rw [HE.out]
            exact ⟨rfl, q, HW.out⟩
          · have hd16 : decide (16 ≤ sc) = false := decide_eq_false (by omega)
            have HF3 := Lib.hid (show faultN l sc sp = if (decide (0 ≤ sc) && namedB l sc) = true then 31 else if (decide (16383 ≤ sp) || (decide (0 ≤ sp) && (namedB l (16 + sp) || namedB l (16 + sp + 1)))) = true then 43 else 0 by rw [HF2.out, hd16, Bool.false_or])
            clear HF2 hd16
            go_wp2_with fail
            go_loopw [12] (fun i wr => ∃ k : Nat, k ≤ l.length ∧ i = .int .i64 k ∧ (0 ≤ sc → namedB (l.take k) sc = false) ∧ wr = wo) (fun i _ => l.length - (Go.RowKit.intOf i).toNat)
            case atStart => exact ⟨0, Nat.zero_le _, rfl, fun _ => rfl, rfl⟩
            case round =>
              obtain ⟨k, hk, rfl, hno, hw⟩ := hrel
              obtain rfl : wo = wr := hw.symm
              have HNO := Lib.hid hno
              clear hno
              by_cases hlt : k < l.length
              · obtain ⟨A', c', gb, ob, e, -, -, hA, hc⟩ := HV.out
                injection e with e1 e2 e3
                subst e1 e3
                obtain rfl : A = some ⟨gb, ob, none⟩ := hA (by omega)
                obtain ⟨c0, c1⟩ := hc k hlt
                have c0 : wo.cell? ⟨gb, ob + k * 2, none⟩ = some (.int .i64 l[k].1) := by rw [HW.out]; exact c0
                have c1 : wo.cell? ⟨gb, ob + k * 2 + 1, none⟩ = some (.int .i64 l[k].2) := by rw [HW.out]; exact c1
                have HT := Lib.hid (fun h => any_stepP (q := hasPl sc) hlt (HNO.out h))
                have HY := Lib.hid (fun h => any_yesP (q := hasPl sc) hlt h)
                have hle1 : k + 1 ≤ l.length := hlt
                have HHP := Lib.hid (show hasPl sc l[k] = (l[k].1 == sc || l[k].2 == sc) from rfl)
                clear hc hA
                generalize l[k].1 = y1 at *
                generalize l[k].2 = y2 at *
                by_cases h0 : 0 ≤ sc
                · have h01 : decide (0 ≤ sc) = true := decide_eq_true h0
                  cases hb1 : (y1 == sc) with
                  | true =>
                    have HE := Lib.hid (show faultN l sc sp = 31 by rw [HF3.out, if_pos (by rw [h01, Bool.true_and]; exact HY.out (HHP.out.trans (by rw [hb1]; rfl)))])
                    go_wp2_with fail
                    go_ret
                    rw [HE.out]
                    exact ⟨rfl, q, HW.out⟩
                  | false =>
                    cases hb2 : (y2 == sc) with
                    | true =>
                      have HE := Lib.hid (show faultN l sc sp = 31 by rw [HF3.out, if_pos (by rw [h01, Bool.true_and]; exact HY.out (HHP.out.trans (by rw [hb1, hb2]; rfl)))])
                      go_wp2_with fail
                      go_ret
                      rw [HE.out]
                      exact ⟨rfl, q, HW.out⟩
                    | false =>
                      have HR := Lib.hid (show 0 ≤ sc → namedB (l.take (k + 1)) sc = false from fun h => (HT.out h).trans (HHP.out.trans (by rw [hb1, hb2]; rfl)))
                      go_wp2_with fail
                      exact ⟨⟨k + 1, hle1, by go_num, HR.out, trivial⟩, by simp [Go.RowKit.intOf]; omega⟩
                · have HR := Lib.hid (show 0 ≤ sc → namedB (l.take (k + 1)) sc = false from fun h => absurd h h0)
                  go_wp2_with fail
                  exact ⟨⟨k + 1, hle1, by go_num, HR.out, trivial⟩, by simp [Go.RowKit.intOf]; omega⟩
              · obtain rfl : k = l.length := by omega
                have HF4 := Lib.hid (show faultN l sc sp = if (decide (16383 ≤ sp) || (decide (0 ≤ sp) && (namedB l (16 + sp) || namedB l (16 + sp + 1)))) = true then 43 else 0 by
                  rw [HF3.out, if_neg]
                  have h := HNO.out
                  rw [List.take_length] at h
                  by_cases h0 : 0 ≤ sc
                  · rw [h h0, Bool.and_false]; simp
                  · rw [decide_eq_false h0, Bool.false_and]; simp)
                clear HNO HF3
                by_cases hsp : 16382 < sp
                · have HE := Lib.hid (show faultN l sc sp = 43 by rw [HF4.out, if_pos (by rw [decide_eq_true (show 16383 ≤ sp by omega)]; rfl)])
                  go_wp2_with fail
                  go_ret
                  rw [HE.out]
                  exact ⟨rfl, q, HW.out⟩
                · have HF5 := Lib.hid (show faultN l sc sp = if (decide (0 ≤ sp) && (namedB l (16 + sp) || namedB l (16 + sp + 1))) = true then 43 else 0 by rw [HF4.out, decide_eq_false (show ¬ 16383 ≤ sp by omega), Bool.false_or])
                  clear HF4
                  obtain ⟨p0, hp0⟩ : ∃ p0 : Int, 16 + sp = p0 := ⟨_, rfl⟩
                  rw [hp0] at HF5
                  go_wp2_with fail
                  go_loopw [13] (fun i wr => ∃ k : Nat, k ≤ l.length ∧ i = .int .i64 k ∧ (0 ≤ sp → namedB (l.take k) p0 = false ∧ namedB (l.take k) (p0 + 1) = false) ∧ wr = wo) (fun i _ => l.length - (Go.RowKit.intOf i).toNat)
                  case atStart => exact ⟨0, Nat.zero_le _, rfl, fun _ => ⟨rfl, rfl⟩, rfl⟩
                  case round =>
                    obtain ⟨k, hk, rfl, hno, hw⟩ := hrel
                    obtain rfl : wo = wr := hw.symm
                    have HNO := Lib.hid hno
                    clear hno
                    by_cases hlt : k < l.length
                    · obtain ⟨A', c', gb, ob, e, -, -, hA, hc⟩ := HV.out
                      injection e with e1 e2 e3
                      subst e1 e3
                      obtain rfl : A = some ⟨gb, ob, none⟩ := hA (by omega)
                      obtain ⟨c0, c1⟩ := hc k hlt
                      have HC0 := Lib.hid (show wo.cell? ⟨gb, ob + k * 2, none⟩ = some (.int .i64 l[k].1) by rw [HW.out]; exact c0)
                      have HC1 := Lib.hid (show wo.cell? ⟨gb, ob + k * 2 + 1, none⟩ = some (.int .i64 l[k].2) by rw [HW.out]; exact c1)
                      have HT := Lib.hid (fun p h => any_stepP (q := hasPl p) hlt h)
                      have HY := Lib.hid (fun p h => any_yesP (q := hasPl p) hlt h)
                      have hle1 : k + 1 ≤ l.length := hlt
                      have HHP := Lib.hid (show ∀ p, hasPl p l[k] = (l[k].1 == p || l[k].2 == p) from fun p => rfl)
                      clear hc hA c0 c1
                      generalize l[k].1 = y1 at *
                      generalize l[k].2 = y2 at *
                      go_wp2_with fail
                      go_loopw [14] (fun j wr => ∃ m : Nat, m ≤ 2 ∧ j = .int .i64 (p0 + m) ∧ (0 ≤ sp → ∀ i : Nat, i < m → (y1 == p0 + i || y2 == p0 + i) = false) ∧ (sp < 0 → m = 0) ∧ wr = wo) (fun j _ => 3 - (Go.RowKit.intOf j - p0).toNat)
                      case atStart => exact ⟨0, Nat.zero_le _, by rw [show p0 + ((0 : Nat) : Int) = p0 by omega], fun _ i hi => absurd hi (by omega), fun _ => rfl, rfl⟩
                      case round =>
                        obtain ⟨m, hm, rfl, hno, hz, hw⟩ := hrel
                        obtain rfl : wo = wr := hw.symm
                        have HN2 := Lib.hid hno
                        clear hno
                        have c0 := HC0.out
                        have c1 := HC1.out
                        obtain ⟨pm, hpm⟩ : ∃ pm : Int, p0 + (m : Int) = pm := ⟨_, rfl⟩
                        rw [hpm]
                        by_cases h0 : 0 ≤ sp
                        · by_cases hm2 : m < 2
                          · cases hb1 : (y1 == pm) with
                            | true =>
                              have HE := Lib.hid (show faultN l sc sp = 43 by
                                rw [HF5.out, if_pos]
                                rw [decide_eq_true h0, Bool.true_and, Bool.or_eq_true]
                                have h := HY.out pm ((HHP.out pm).trans (by rw [hb1]; rfl))
                                rcases (show m = 0 ∨ m = 1 by omega) with e | e
                                · left; rw [show pm = p0 by omega] at h; exact h
                                · right; rw [show pm = p0 + 1 by omega] at h; exact h)
                              go_wp2_with fail
                              go_ret
                              rw [HE.out]
                              exact ⟨rfl, q, HW.out⟩
                            | false =>
                              cases hb2 : (y2 == pm) with
                              | true =>
                                have HE := Lib.hid (show faultN l sc sp = 43 by
                                  rw [HF5.out, if_pos]
                                  rw [decide_eq_true h0, Bool.true_and, Bool.or_eq_true]
                                  have h := HY.out pm ((HHP.out pm).trans (by rw [hb1, hb2]; rfl))
                                  rcases (show m = 0 ∨ m = 1 by omega) with e | e
                                  · left; rw [show pm = p0 by omega] at h; exact h
                                  · right; rw [show pm = p0 + 1 by omega] at h; exact h)
                                go_wp2_with fail
                                go_ret
                                rw [HE.out]
                                exact ⟨rfl, q, HW.out⟩
                              | false =>
                                have HR := Lib.hid (show 0 ≤ sp → ∀ i : Nat, i < m + 1 → (y1 == p0 + i || y2 == p0 + i) = false from fun h i hi => by
                                  by_cases e : i = m
                                  · subst e; rw [hpm, hb1, hb2]; rfl
                                  · exact HN2.out h i (by omega))
                                have hpl : pm ≤ 17 + sp := by omega
                                go_wp2_with fail
                                exact ⟨⟨m + 1, by omega, by rw [← hpm]; go_num, HR.out, fun h => by omega, trivial⟩, by simp [Go.RowKit.intOf]; omega⟩
                          · have hpl : ¬ pm ≤ 17 + sp := by omega
                            have HR := Lib.hid (show 0 ≤ sp → namedB (l.take (k + 1)) p0 = false ∧ namedB (l.take (k + 1)) (p0 + 1) = false from fun h => by
                              have h1 := HN2.out h 0 (by omega)
                              have h2 := HN2.out h 1 (by omega)
                              rw [show p0 + ((0 : Nat) : Int) = p0 by omega] at h1
                              exact ⟨(HT.out p0 (HNO.out h).1).trans ((HHP.out p0).trans h1), (HT.out (p0 + 1) (HNO.out h).2).trans ((HHP.out (p0 + 1)).trans h2)⟩)
                            clear hpm
                            go_wp2_with fail
                            exact ⟨⟨k + 1, hle1, by go_num, HR.out, trivial⟩, by simp [Go.RowKit.intOf]; omega⟩
                        · have HR := Lib.hid (show 0 ≤ sp → namedB (l.take (k + 1)) p0 = false ∧ namedB (l.take (k + 1)) (p0 + 1) = false from fun h => absurd h h0)
                          have hm0 := hz (by omega)
                          subst hm0
                          have hpp : p0 = pm := by omega
                          subst hpp
                          clear hpm
                          go_wp2_with fail
                          exact ⟨⟨k + 1, hle1, by go_num, HR.out, trivial⟩, by simp [Go.RowKit.intOf]; omega⟩
                    · obtain rfl : k = l.length := by omega
                      have HE := Lib.hid (show faultN l sc sp = 0 by
                        rw [HF5.out, if_neg]
                        have h := HNO.out
                        rw [List.take_length] at h
                        by_cases h0 : 0 ≤ sp
                        · rw [(h h0).1, (h h0).2]; simp
                        · rw [decide_eq_false h0, Bool.false_and]; simp)
                      go_wp2_with fail
                      go_ret
                      rw [HE.out]
                      exact ⟨rfl, q, HW.out⟩
end Go.Proofs.Ytdohaoomckhbgaa.Vm
namespace Go.Proofs.Ytdohaoomckhbgaa.Vm
open Go.ChangeShapes Go.WideShapes Go.ChangeAt Go.RowKit Go.Maps Go.WideElems Go.ChangeMaps Go.Sort Go.Shelf Go.Proofs.Ytdohaoomckhbgaa.Mem Go.Proofs.Ytdohaoomckhbgaa.Br Go.Proofs.Ytdohaoomckhbgaa.Va Go.Proofs.Ytdohaoomckhbgaa.Vr
set_option linter.unusedVariables false
set_option linter.unusedSimpArgs false
theorem appO_asc (a b c : Option (List PM)) : appO (appO a b) c = appO a (appO b c) := by
  cases a <;> cases b <;> cases c <;> simp [appO]
theorem appO_nil_l (a : Option (List PM)) : appO (some []) a = a := by cases a <;> simp [appO]
theorem appO_nil_r (a : Option (List PM)) : appO a (some []) = a := by cases a <;> simp [appO]
theorem foldO {α : Type} (g : α → Option (List PM)) : ∀ (ms : List α) (a : Option (List PM)), ms.foldl (fun acc m => appO acc (g m)) a = appO a (ms.foldl (fun acc m => appO acc (g m)) (some []))
  | [], a => by rw [List.foldl_nil, List.foldl_nil, appO_nil_r]
  | m :: ms, a => by rw [List.foldl_cons, List.foldl_cons, foldO g ms, foldO g ms (appO (some []) (g m)), appO_nil_l, appO_asc]
theorem seqO_cons (g : Mov → Option (List PM)) (m : Mov) (ms : List Mov) : seqO g (m :: ms) = appO (g m) (seqO g ms) := by
  unfold seqO; rw [List.foldl_cons, foldO, appO_nil_l]
theorem seqP_cons (g : Int → Option (List PM)) (m : Int) (ms : List Int) : seqP g (m :: ms) = appO (g m) (seqP g ms) := by
  unfold seqP; rw [List.foldl_cons, foldO, appO_nil_l]
def restN (sc sp : Int) (L : List Mov) : Option (List PM) := carryN sc sp (greedyN L.length L).1 (greedyN L.length L).2
theorem rest_goes {sc sp : Int} {L es R : List Mov} (h : Goes L es R) : restN sc sp L = carryN sc sp es R := by
  obtain ⟨h1, h2⟩ := (goes_greedy L.length L (Nat.le_refl _)).one h
  unfold restN; rw [h1, h2]
theorem rest_step {sc sp : Int} {L : List Mov} {t : Int} (hf : IsFree L t) : restN sc sp L = appO (bringN sc sp t (srcD L t)) (restN sc sp (wo L t)) := by
  obtain ⟨es, R, hg⟩ := goes_ex (wo L t)
  rw [rest_goes hg, rest_goes (Goes.step hf hg)]
  unfold carryN
  rw [seqO_cons, appO_asc]; rfl
theorem rest_nil (sc sp : Int) : restN sc sp [] = some [] := by
  rw [rest_goes (Goes.stop (fun y => rfl))]
  unfold carryN leastN leastS keysN
  simp [seqO, seqP, appO, List.mergeSort_nil]
theorem rest_stop {sc sp : Int} {L : List Mov} (hn : NoFree L) : restN sc sp L = seqP (turnG sc sp L) (leastN L) := by
  rw [rest_goes (Goes.stop hn)]
  unfold carryN
  exact appO_nil_l _
/-- The least places of circles are those that are the least of theirs. -/
theorem least_mem {L : List Mov} (hn : NoFree L) (hu : Uni L) (z : Int) : z ∈ leastN L ↔ isTo L z = true ∧ ∀ i, z ≤ it (srcD L) z i := by
  obtain ⟨l1, _, l3⟩ := least_props hn hu
  refine ⟨fun h => ⟨l1 z h, least_least hn hu z h⟩, fun ⟨h1, h2⟩ => ?_⟩
  obtain ⟨x, hx, k, e⟩ := l3 z h1
  have hC := per_closed hn hu (l1 x hx)
  obtain ⟨q, e2⟩ := it_meet hC (i := 0) (y := z) (j := k) e.symm
  have h3 := least_least hn hu x hx k
  have h4 := h2 q
  have : z = x := by omega
  rw [this]; exact hx
def remN (L : List Mov) (c : List Int) : List Mov := c.foldl wo L
theorem mem_rem : ∀ (c : List Int) (L : List Mov) (m : Mov), m ∈ remN L c ↔ m ∈ L ∧ m.1 ∉ c
  | [], L, m => by simp [remN]
  | x :: c, L, m => by
    show m ∈ remN (wo L x) c ↔ _
    rw [mem_rem c, mem_wo, List.mem_cons]
    constructor
    · rintro ⟨⟨h1, h2⟩, h3⟩; exact ⟨h1, fun h => by rcases h with h | h; exact h2 h; exact h3 h⟩
    · rintro ⟨h1, h2⟩; exact ⟨⟨h1, fun h => h2 (Or.inl h)⟩, fun h => h2 (Or.inr h)⟩
theorem uni_rem : ∀ (c : List Int) {L : List Mov}, Uni L → Uni (remN L c)
  | [], _, h => h
  | x :: c, _, h => uni_rem c (h.wo x)
theorem rem_len : ∀ (c : List Int) (L : List Mov), (remN L c).length ≤ L.length
  | [], L => Nat.le_refl _
  | x :: c, L => Nat.le_trans (rem_len c (wo L x)) (wo_len L x)
theorem turn_same {sc sp : Int} {f g : Int → Int} {x : Int} (N : Nat) (h : ∀ i, it f x i = it g x i) : turnN sc sp f x N = turnN sc sp g x N := by
  have h1 : orb f x N = orb g x N := by unfold orb; exact List.map_congr_left fun i _ => h i
  have h2 : circ f x N = circ g x N := by unfold circ; exact List.map_congr_left fun i _ => by rw [h i, h (i + 1)]
  unfold turnN; rw [h1, h2]
theorem rest_circle {sc sp : Int} {L : List Mov} {x : Int} {N : Nat} (hn : NoFree L) (hu : Uni L) (hx : isTo L x = true) (hmin : ∀ y, isTo L y = true → x ≤ y) (hC : Closed (srcD L) x N) (hN : N ≤ L.length) :
    restN sc sp L = appO (turnN sc sp (srcD L) x N) (restN sc sp (remN L (orb (srcD L) x N))) ∧ NoFree (remN L (orb (srcD L) x N)) := by
  obtain ⟨c, hc⟩ : ∃ c, orb (srcD L) x N = c := ⟨_, rfl⟩
  have hmc : ∀ z, z ∈ c ↔ ∃ j, it (srcD L) x j = z := fun z => by
    rw [← hc, mem_orb]
    constructor
    · rintro ⟨i, _, e⟩; exact ⟨i, e⟩
    · rintro ⟨j, e⟩
      obtain ⟨i, hi, e2⟩ := it_orb hC j
      exact ⟨i, hi, e2.trans e⟩
  rw [hc]
  have hto : ∀ y, isTo (remN L c) y = true ↔ isTo L y = true ∧ y ∉ c := fun y => by
    rw [isTo_iff, isTo_iff]
    constructor
    · rintro ⟨m, hm, rfl⟩
      obtain ⟨h1, h2⟩ := (mem_rem c L m).1 hm
      exact ⟨⟨m, h1, rfl⟩, h2⟩
    · rintro ⟨⟨m, hm, rfl⟩, h2⟩
      exact ⟨m, (mem_rem c L m).2 ⟨hm, h2⟩, rfl⟩
  have hu' := uni_rem c hu
  have hsrc : ∀ y, isTo (remN L c) y = true → srcD (remN L c) y = srcD L y := fun y hy => by
    have hm := mem_src hu' hy
    exact (src_of_mem hu ((mem_rem c L _).1 hm).1).symm
  have hout : ∀ y, isTo L y = true → y ∉ c → srcD L y ∉ c := fun y hy hyc h => by
    obtain ⟨j, e⟩ := (hmc _).1 h
    obtain ⟨n, rfl⟩ : ∃ n, N = n + 1 := ⟨N - 1, by have := hC.1; omega⟩
    have e1 : srcD L (it (srcD L) x (j + n)) = it (srcD L) x j := by
      have := it_mul hC j 1
      rw [Nat.one_mul] at this
      exact this
    have e2 := src_inj hn hu (it_to hn hu hx (j + n)) hy (e1.trans e)
    exact hyc ((hmc y).2 ⟨j + n, e2⟩)
  have hn' : NoFree (remN L c) := fun y => by
    cases hy : looseB (remN L c) y with
    | false => rfl
    | true =>
      exfalso
      unfold looseB at hy
      rw [Bool.and_eq_true] at hy
      obtain ⟨h1, h2⟩ := (hto y).1 hy.1
      have h3 := hn y
      unfold looseB at h3
      rw [h1, Bool.true_and] at h3
      have h4 : isFrom L y = true := by simpa using h3
      obtain ⟨m, hm, e⟩ := isFrom_iff.1 h4
      have h5 : m.1 ∉ c := fun h => by
        obtain ⟨j, e2⟩ := (hmc _).1 h
        refine h2 ((hmc y).2 ⟨j + 1, ?_⟩)
        show srcD L (it (srcD L) x j) = y
        rw [e2, src_of_mem hu hm, e]
      have h6 : isFrom (remN L c) y = true := isFrom_iff.2 ⟨m, (mem_rem c L m).2 ⟨hm, h5⟩, e⟩
      rw [h6] at hy
      simp at hy
  have hit : ∀ y, isTo (remN L c) y = true → ∀ i, it (srcD (remN L c)) y i = it (srcD L) y i ∧ isTo (remN L c) (it (srcD L) y i) = true := fun y hy i => by
    induction i with
    | zero => exact ⟨rfl, hy⟩
    | succ i ih =>
      obtain ⟨h1, h2⟩ := ih
      have h3 := (hto _).1 h2
      refine ⟨?_, (hto _).2 ⟨it_to hn hu ((hto y).1 hy).1 (i + 1), hout _ h3.1 h3.2⟩⟩
      show srcD (remN L c) (it (srcD (remN L c)) y i) = srcD L (it (srcD L) y i)
      rw [h1, hsrc _ h2]
  have hxc : x ∈ c := (hmc x).2 ⟨0, rfl⟩
  have hls : leastN L = x :: leastN (remN L c) := by
    refine rise_perm (least_rise hu) (List.pairwise_cons.2 ⟨fun y hy => ?_, least_rise hu'⟩) fun z => ?_
    · obtain ⟨h1, h2⟩ := (hto y).1 ((least_mem hn' hu' y).1 hy).1
      have := hmin y h1
      have : y ≠ x := fun e => h2 (e ▸ hxc)
      omega
    · rw [List.mem_cons, least_mem hn hu, least_mem hn' hu']
      constructor
      · rintro ⟨h1, h2⟩
        by_cases hz : z ∈ c
        · left
          obtain ⟨j, e⟩ := (hmc z).1 hz
          obtain ⟨q, e2⟩ := it_meet hC (i := 0) (y := z) (j := j) e.symm
          have h3 := h2 q
          have h4 := hmin z h1
          omega
        · right
          have h3 := (hto z).2 ⟨h1, hz⟩
          exact ⟨h3, fun i => by rw [(hit z h3 i).1]; exact h2 i⟩
      · rintro (rfl | ⟨h1, h2⟩)
        · exact ⟨hx, fun i => hmin _ (it_to hn hu hx i)⟩
        · exact ⟨((hto z).1 h1).1, fun i => by rw [← (hit z h1 i).1]; exact h2 i⟩
  refine ⟨?_, hn'⟩
  rw [rest_stop hn, rest_stop hn', hls, seqP_cons]
  congr 1
  · unfold turnG; rw [perD_eq hC hN]
  · have hg : ∀ y ∈ leastN (remN L c), turnG sc sp L y = turnG sc sp (remN L c) y := fun y hy => by
      have h1 := ((least_mem hn' hu' y).1 hy).1
      have hP := per_closed hn' hu' h1
      have hle : perD (srcD (remN L c)) y (remN L c).length ≤ L.length := Nat.le_trans (perD_le _ _ _) (rem_len c L)
      have hP2 : Closed (srcD L) y (perD (srcD (remN L c)) y (remN L c).length) := ⟨hP.1, by rw [← (hit y h1 _).1]; exact hP.2.1, fun i h2 h3 => by rw [← (hit y h1 i).1]; exact hP.2.2 i h2 h3⟩
      unfold turnG
      rw [perD_eq hP2 hle]
      exact (turn_same _ fun i => (hit y h1 i).1).symm
    have hfold : ∀ (ys : List Int) (a : Option (List PM)), (∀ y ∈ ys, turnG sc sp L y = turnG sc sp (remN L c) y) → ys.foldl (fun acc y => appO acc (turnG sc sp L y)) a = ys.foldl (fun acc y => appO acc (turnG sc sp (remN L c) y)) a := fun ys => by
      induction ys with
      | nil => intro a _; rfl
      | cons y ys ih =>
        intro a h
        rw [List.foldl_cons, List.foldl_cons, h y (by simp), ih _ (fun q hq => h q (by simp [hq]))]
    exact hfold _ _ hg
end Go.Proofs.Ytdohaoomckhbgaa.Vm
