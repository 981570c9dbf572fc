/- Stage 7: which block is not come to; what is wrong with a block's parts. -/
import Derived.Test.YtonheiaohgbbcaaGreatMK7
namespace Go.Proofs.YtonheiaohgbbcaaGreat.Mc
open Go.ChangeShapes Go.WideShapes Go.ChangeAt Go.RowKit Go.Proofs.YtonheiaohgbbcaaGreat.Mem Go.Proofs.YtonheiaohgbbcaaGreat.Kc Go.Proofs.YtonheiaohgbbcaaGreat.Pl Go.Proofs.YtonheiaohgbbcaaGreat.Mw Go.Proofs.YtonheiaohgbbcaaGreat.Gr Go.Proofs.YtonheiaohgbbcaaGreat.Gn Go.Proofs.YtonheiaohgbbcaaGreat.Gc
set_option linter.unusedVariables false
set_option linter.unusedSimpArgs false
/-- The blocks that control comes to, rising. -/
def reachL (g : List (List Int)) : List Int := (li (orderN (tidyN g))).mergeSort fun x y => decide (x ≤ y)
/-- The first number that does not stand at its own place. -/
def gapN (l : List Int) : Nat → Nat → Int
  | _, 0 => -1
  | k, n + 1 => if l[k]? = some (k : Int) then gapN l (k + 1) n else k
def unreachN (g : List (List Int)) : Int := gapN (reachL g) 0 g.length
theorem gapN_go {l : List Int} {k n : Nat} (h : l[k]? = some (k : Int)) : gapN l k (n + 1) = gapN l (k + 1) n := if_pos h
theorem gapN_no {l : List Int} {k n : Nat} (h : l[k]? ≠ some (k : Int)) : gapN l k (n + 1) = k := if_neg h
set_option maxRecDepth 100000 in
set_option maxHeartbeats 4000000 in
theorem unreached_any (w : World) (v : Value) (g : List (List Int)) (hg : Grid w v g) (hs : Small g) :
    Calls Tryz.prog 64 #[v] w fun en w' => en = .returned (.int .i64 (unreachN g)) ∧ Below w.heap.size w w' := by
  have HG := Lib.hid hg
  have HS := Lib.hid hs
  obtain ⟨A, c, rfl, g1, g2, _⟩ := hg
  have hgl := hs.1
  clear hs
  go_enter Tryz.func64, Tryz.ntmps64
  go_wp2_with fail
  refine (order_code w _ g HG.out HS.out).mono ?_
  rintro e w1 ⟨v1, rfl, ho, hb⟩
  have HO := Lib.hid ho
  have HB := Lib.hid hb
  have hle : (li (orderN (tidyN g))).length ≤ 1000000 := by rw [li_len]; have := walk_inv (tidyN_ok g); have h1 := this.left; have h2 := this.came; have := tidyN_len g; unfold orderN; rw [List.length_reverse]; omega
  obtain ⟨ln, hln⟩ : ∃ ln, (li (orderN (tidyN g))).length = ln := ⟨_, rfl⟩
  have hfm := own_form HO.out
  rw [hln] at hfm hle
  obtain ⟨A1, c1, rfl⟩ := hfm
  have HLN := Lib.hid hln
  clear ho hb hln
  go_wp2_with fail
  refine (sort_own w1 _ _ _ HO.out (by rw [HLN.out]; exact hle)).mono ?_
  rintro e w2 ⟨rfl, ho2, hgr⟩
  have HO2 := Lib.hid (show OwnInts w.heap.size w2 (.slice A1 ln c1) (reachL g) from ho2)
  have HB2 := Lib.hid (HB.out.grown hgr HB.out.size (fun k hk => (HO.out.lt k hk).1))
  have HLEN := Lib.hid (show (reachL g).length = ln from (List.length_mergeSort _).trans HLN.out)
  have HLI := Lib.hid (OwnInts.ints HO2.out)
  clear ho2 hgr hle
  obtain ⟨n, hn⟩ : ∃ n, g.length = n := ⟨_, rfl⟩
  have HN := Lib.hid hn
  rw [hn]
  rw [hn] at g1 hgl
  clear hn
  obtain ⟨A2, c2, e2, q1, q2, q3⟩ := HLI.out
  have hlen : ln ≤ 9223372036854775807 := by rw [← HLEN.out]; unfold maxLen at q2; omega
  injection e2 with e2 e2b e2c
  clear e2b e2c
  subst e2
  have HQ := Lib.hid q3
  rw [HLEN.out] at q1
  clear q3
  have HRL := Lib.hid (show ∀ k, (reachL g)[k]? = if h : k < (reachL g).length then some ((reachL g)[k]) else none from fun k => by split; exact List.getElem?_eq_getElem ‹_›; exact List.getElem?_eq_none (by omega))
  go_wp2_with fail
  go_loopw [4, 11] (fun _ i wr => ∃ k : Nat, k ≤ n ∧ i = .int .i64 k ∧ gapN (reachL g) 0 n = gapN (reachL g) k (n - k) ∧ wr = w2) (fun _ i _ => n - (intOf i).toNat)
  case atStart => exact ⟨0, Nat.zero_le _, rfl, rfl, rfl⟩
  case round =>
    obtain ⟨k, hk, rfl, hga, rfl⟩ := hrel
    have HGA := Lib.hid hga
    clear hga
    by_cases hlt : k < n
    · obtain ⟨r, hr⟩ : ∃ r, n - k = r + 1 := ⟨n - k - 1, by omega⟩
      have HR := Lib.hid hr
      by_cases hkl : k < ln
      · obtain ⟨ad, hA, hc⟩ := HQ.out k (by rw [HLEN.out]; exact hkl)
        subst hA
        cases hx : ((reachL g)[k]'(by rw [HLEN.out]; exact hkl) != (k : Int)) with
        | false =>
          have hx2 : (reachL g)[k]? = some (k : Int) := by rw [List.getElem?_eq_getElem (by rw [HLEN.out]; exact hkl)]; congr 1; simpa using hx
          have HX := Lib.hid hx
          have HNEXT := Lib.hid (show gapN (reachL g) 0 n = gapN (reachL g) (k + 1) (n - (k + 1)) by rw [HGA.out, HR.out, gapN_go hx2]; congr 1; have := HR.out; omega)
          clear hx2 hr
          go_wp2_with fail
          exact ⟨⟨k + 1, by omega, by go_num, HNEXT.out, trivial⟩, by simp [intOf]; omega⟩
        | true =>
          have hx2 : (reachL g)[k]? ≠ some (k : Int) := by rw [List.getElem?_eq_getElem (by rw [HLEN.out]; exact hkl)]; intro e; injection e with e; rw [e] at hx; simp at hx
          have HX := Lib.hid hx
          have HEND := Lib.hid (show unreachN g = k by unfold unreachN; rw [HN.out, HGA.out, HR.out, gapN_no hx2])
          clear hx2 hr
          go_wp2_with fail
          go_ret
          exact ⟨ret_intJ HEND.out.symm, HB2.out⟩
      · have hx2 : (reachL g)[k]? ≠ some (k : Int) := by rw [List.getElem?_eq_none (by rw [HLEN.out]; omega)]; simp
        have HEND := Lib.hid (show unreachN g = k by unfold unreachN; rw [HN.out, HGA.out, HR.out, gapN_no hx2])
        have hkl : ln ≤ k := by omega
        clear hx2 hr
        go_wp2_with fail
        go_ret
        exact ⟨ret_intJ HEND.out.symm, HB2.out⟩
    · obtain rfl : k = n := by omega
      have HEND := Lib.hid (show unreachN g = -1 by unfold unreachN; rw [HN.out, HGA.out, Nat.sub_self]; rfl)
      go_wp2_with fail
      go_ret
      exact ⟨ret_intJ HEND.out.symm, HB2.out⟩
end Go.Proofs.YtonheiaohgbbcaaGreat.Mc
