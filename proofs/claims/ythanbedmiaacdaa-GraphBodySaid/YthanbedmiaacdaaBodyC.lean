/- What package graph's Body answers. -/
import Derived.Test.YthanbedmiaacdaaMarkC
namespace Go.Proofs.Ythanbedmiaacdaa.Gc
open Go.ChangeShapes Go.WideShapes Go.ChangeAt Go.RowKit Go.Shelf Go.Proofs.Ythanbedmiaacdaa.Mem Go.Proofs.Ythanbedmiaacdaa.Gr Go.Proofs.Ythanbedmiaacdaa.Gn Go.Proofs.Ythanbedmiaacdaa.Br Go.Proofs.Ythanbedmiaacdaa.Rp
set_option linter.unusedVariables false

/-- The rows of a grid, each to be read. -/
theorem grid_ints {w : World} {b n c : Nat} {T : G} (h : Grid w (.slice (some ⟨b, 0, none⟩) n c) (lii T)) {k : Nat} (hk : k < T.length) : ∃ A m, w.cell? ⟨b, k, none⟩ = some (.slice A (T.getD k []).length m) ∧ (T.getD k []).length ≤ m ∧ Ints w (.slice A (T.getD k []).length m) (li (T.getD k [])) := by
  obtain ⟨A, m, h1, h2⟩ := grid_at h hk
  obtain ⟨A2, c2, e2, _, _, h3⟩ := h
  injection e2 with e21 e22 e23
  subst e21
  obtain ⟨ad2, u2, e2, hc2, hu2⟩ := h3 k (by rw [lii_len]; exact hk)
  injection e2 with e2
  subst e2
  rw [lii_at hk] at hu2
  have hc3 : w.cell? ⟨b, k, none⟩ = some u2 := by cases k <;> simpa [Addr.add] using hc2
  have hc4 := h1
  rw [hc4] at hc3
  injection hc3 with hc3
  refine ⟨A, m, h1, h2, ?_⟩
  rw [hc3, getD_at hk]
  exact hu2
def bodyTo (T : G) (h : Nat) (l : List Nat) : List Bool := l.foldl (bodyStep T h) (List.replicate T.length false)
theorem bodyStep_len (T : G) (h : Nat) (m : List Bool) (a : Nat) : (bodyStep T h m a).length = m.length := by
  unfold bodyStep
  split
  · rw [(markB_len _ _ _ _ _).1, List.length_set]
  · rfl
theorem bodyTo_len (T : G) (h : Nat) (l : List Nat) : (bodyTo T h l).length = T.length := by unfold bodyTo; rw [foldl_len _ (bodyStep_len T h), List.length_replicate]
theorem bodyTo_succ {T : G} {h : Nat} {l : List Nat} {j : Nat} (hj : j < l.length) : bodyTo T h (l.take (j + 1)) = bodyStep T h (bodyTo T h (l.take j)) l[j] := by
  rw [List.take_succ_eq_append_getElem hj]; unfold bodyTo; rw [List.foldl_append]; rfl
theorem Marked.keep {w0 : World} {n b6 b7 X : Nat} {w w' : World} {m : List Bool} (h : Marked w0 n b6 b7 X w m) (hb : Below w.heap.size w w') : Marked w0 n b6 b7 X w' m :=
  ⟨h.len, h.own.below hb, boxed_below h.box hb, boxed_below h.fn hb, h.below.trans (hb.mono h.below.size), h.low⟩
set_option maxRecDepth 100000 in
set_option maxHeartbeats 1000000 in
theorem body_code (w : World) (v : Value) (g : List (List Int)) (h : Int) (hg : Grid w v g) (hs : Small g) (hsp : Spans (tidyN g)) :
    Calls Try.prog 29 #[v, .int .i64 h] w (MadeRow (li (bodyN (tidyN g) h)) w) := by
  obtain ⟨A, n0, ca, rfl⟩ : ∃ A n c, v = .slice A n c := by obtain ⟨A, c, e, _⟩ := hg; exact ⟨A, _, c, e⟩
  have hn0 : n0 = g.length := by obtain ⟨A, c, e, _⟩ := hg; injection e
  subst hn0
  have hgl := hs.1
  have HTL := Lib.hid (tidyN_len g)
  by_cases h0 : h < 0
  · have HB := Lib.hid (show bodyN (tidyN g) h = [] from if_pos (Or.inl h0))
    go_enter Try.func29, Try.ntmps29
    go_wp2
    go_ret
    exact ⟨_, rfl, by rw [HB.out]; exact World.ownsRow_nil _ _ _ _, Below.refl _ _⟩
  · by_cases h1 : (g.length : Int) ≤ h
    · have HB := Lib.hid (show bodyN (tidyN g) h = [] from if_pos (Or.inr (by rw [HTL.out]; exact h1)))
      have h0' : 0 ≤ h := by omega
      go_enter Try.func29, Try.ntmps29
      go_wp2
      go_ret
      exact ⟨_, rfl, by rw [HB.out]; exact World.ownsRow_nil _ _ _ _, Below.refl _ _⟩
    · obtain ⟨k, rfl⟩ := Int.eq_ofNat_of_zero_le (show 0 ≤ h by omega)
      have hk : k < g.length := by omega
      have hkT : k < (tidyN g).length := by rw [HTL.out]; exact hk
      have HBN := Lib.hid (show bodyN (tidyN g) (k : Int) = thoseN (bodyTo (tidyN g) k ((turnN (tidyN g)).getD k [])) by
        unfold bodyN
        rw [if_neg (by rw [HTL.out]; omega), Int.toNat_natCast]; rfl)
      have HT := Lib.hid (tidyN_ok g)
      have HTN := Lib.hid (tidyN_neat g)
      have HG := Lib.hid hg
      have HS := Lib.hid hs
      have HSP := Lib.hid hsp
      obtain ⟨i0, hi, hz0, hz1, hz2⟩ := info_parts info_bool
      have HI := Lib.hid hi
      have HZ0 := Lib.hid hz0
      have HZ1 := Lib.hid hz1
      have HZ2 := Lib.hid hz2
      have hk0 : (0 : Int) ≤ (k : Int) := by omega
      clear hg hs hsp hi hz0 hz1 hz2 h0 h1
      go_enter Try.func29, Try.ntmps29
      go_wp2_with fail
      refine (flow_any w _ g HG.out HS.out HSP.out).mono ?_
      rintro e w1 ⟨x, rfl, hx, hb⟩
      obtain ⟨Ac, nc, cc, Al, cl, An, cn, Ap, np, cp, b1, b3, As, cs, rfl, hxl, hxn, hxg, hxp⟩ := ReadFlow.parts hx
      have hnn : (walkN (tidyN g)).number.length = (tidyN g).length := (walk_inv HT.out).number
      generalize (walkN (tidyN g)).left.length = nl at *
      rw [hnn] at hxn hx ⊢
      have HNN := Lib.hid hnn
      have HX := Lib.hid hx
      have HB := Lib.hid hb
      have HXN := Lib.hid hxn
      have HXP := Lib.hid hxp
      clear hx hb hnn hxn hxl hxg hxp
      have hz := HB.out.size
      obtain ⟨W2, hW2⟩ : ∃ W2, w1.alloc (.cells #[.slice Ac nc cc, .slice Al nl cl, .slice An (tidyN g).length cn, .slice Ap np cp, .slice (some ⟨b1, 0, none⟩) (tidyN g).length (tidyN g).length, .slice (some ⟨b3, 0, none⟩) (tidyN g).length (tidyN g).length, .slice As (spansOf (tidyN g)).length cs] 70) = W2 := ⟨_, rfl⟩
      have hB2 : Below w1.heap.size w1 W2 := by rw [← hW2]; exact (Below.refl _ _).alloc (Nat.le_refl _) _
      have hs2 : Str W2 w1.heap.size 70 [.slice Ac nc cc, .slice Al nl cl, .slice An (tidyN g).length cn, .slice Ap np cp, .slice (some ⟨b1, 0, none⟩) (tidyN g).length (tidyN g).length, .slice (some ⟨b3, 0, none⟩) (tidyN g).length (tidyN g).length, .slice As (spansOf (tidyN g)).length cs] := by rw [← hW2]; exact World.alloc_heap_new w1 _
      have hz2 : w1.heap.size < W2.heap.size := by rw [← hW2]; simp
      go_upto_region 4 with (fail)
      clear hW2
      go_wp2_with (at_make; refine wpList_make_full _ rfl _ _ 43 rfl W2.heap.size 4 i0 (.bool false) 1 Try.underlying43 HI.out HZ0.out HZ1.out .i64 .i64 _ _ g.length rfl rfl rfl rfl (by rw [HZ2.out]; omega) (by unfold maxLen; omega) (Nat.le_refl _) ?_)
      intro w3 hown hgr
      have hm3 : OwnBools W2.heap.size w3 (List.replicate g.length false) := by
        unfold OwnBools
        rw [List.length_replicate, List.map_replicate]
        rw [toList_madeCells_one] at hown
        simpa using hown
      have hb3 : Below W2.heap.size W2 w3 := (Below.refl _ _).grown hgr (Nat.le_refl _) (fun j hj => by cases hj)
      have hz3' : W2.heap.size < w3.heap.size := (hm3.lt _ rfl).2
      clear hown hgr
      go_upto_region 7 with (fail)
      obtain ⟨W5, hW5⟩ : ∃ W5, (w3.alloc (.cells #[.slice (some ⟨W2.heap.size, 0, none⟩) g.length g.length] 43)).alloc (.cells #[.func (.func 53) #[] #[.pointer (some ⟨w3.heap.size, 0, none⟩), .pointer (some ⟨w1.heap.size, 0, none⟩), .pointer (some ⟨w3.heap.size + 1, 0, none⟩)]] 77) = W5 := ⟨_, rfl⟩
      rw [hW5]
      have hb5 : Below w3.heap.size w3 W5 := by rw [← hW5]; exact ((Below.refl _ _).alloc (Nat.le_refl _) _).alloc (by simp) _
      have hx6 : Boxed W5 w3.heap.size 43 (.slice (some ⟨W2.heap.size, 0, none⟩) g.length g.length) := by rw [← hW5]; exact (Boxed.new _ _ _).alloc _
      have hx7 : Boxed W5 (w3.heap.size + 1) 77 (.func (.func 53) #[] #[.pointer (some ⟨w3.heap.size, 0, none⟩), .pointer (some ⟨w1.heap.size, 0, none⟩), .pointer (some ⟨w3.heap.size + 1, 0, none⟩)]) := by
        rw [← hW5]; have := Boxed.new (w3.alloc (.cells #[.slice (some ⟨W2.heap.size, 0, none⟩) g.length g.length] 43)) 77 (.func (.func 53) #[] #[.pointer (some ⟨w3.heap.size, 0, none⟩), .pointer (some ⟨w1.heap.size, 0, none⟩), .pointer (some ⟨w3.heap.size + 1, 0, none⟩)]); rw [World.size_alloc] at this; exact this
      clear hW5
      have htl := turnN_len (tidyN g)
      have hgp2 := HXP.out.keep hB2
      obtain ⟨Ar, mr, ra, rl, ri⟩ := grid_ints (k := k) hgp2 (by rw [htl]; exact hkT)
      have hrow : ∀ x ∈ (turnN (tidyN g)).getD k [], x < (tidyN g).length := fun x hx => by
        have := (turnN_neat HTN.out).row k
        rw [htl] at this
        exact this.2 x hx
      have hrl1000 : ((turnN (tidyN g)).getD k []).length ≤ 1000 := by
        have h1 := (turnN_small HTN.out (by rw [HTL.out]; exact hgl)).2 k (by rw [lii_len, htl]; exact hkT)
        have hb' : k < (turnN (tidyN g)).length := by rw [htl]; exact hkT
        rw [lii_at hb', li_len] at h1
        rw [getD_at hb']; exact h1
      have hB25 : Below W2.heap.size W2 W5 := hb3.trans (hb5.mono (by omega))
      have q5 : W5.cell? ⟨w1.heap.size, 5, none⟩ = some (.slice (some ⟨b3, 0, none⟩) (tidyN g).length (tidyN g).length) := (hs2.below hB25).cell 5
      have ra := cell_keep hB25 (Nat.le_refl _) ra
      have HMARK := Lib.hid (mark_any W2 (tidyN g) w1.heap.size w3.heap.size (w3.heap.size + 1) (walkN (tidyN g)).number HTN.out (by rw [HTL.out]; exact hgl) HNN.out Ac nc cc Al nl cl An cn Ap np cp b1 b3 As (spansOf (tidyN g)).length cs hs2 (HXN.out.keep hB2) hgp2)
      have HM0 := Lib.hid (show Marked W2 (tidyN g).length w3.heap.size (w3.heap.size + 1) w1.heap.size W5 (bodyTo (tidyN g) k []) from
        ⟨bodyTo_len _ _ _, by unfold bodyTo; rw [List.foldl_nil, HTL.out]; exact hm3.below hb5, by rw [HTL.out]; exact hx6, hx7, hB25, by omega⟩)
      have HS2 := Lib.hid hs2
      have HX2 := Lib.hid (HX.out.keep hB2)
      have HRI := Lib.hid ri
      have HB02 := Lib.hid (HB.out.trans (hB2.mono hz))
      have hkl : k < (turnN (tidyN g)).length := by rw [htl]; exact hkT
      generalize (turnN (tidyN g)).getD k [] = row at *
      have HRW := Lib.hid hrow
      clear hgp2 ri hrow hs2 hm3 hx6 hx7 hB2 hb3 hb5 hB25 htl hkl
      go_wp2
      clear q5 ra
      go_loopw [30] (fun i wr => ∃ j : Nat, j ≤ row.length ∧ i = .int .i64 j ∧ Marked W2 (tidyN g).length w3.heap.size (w3.heap.size + 1) w1.heap.size wr (bodyTo (tidyN g) k (row.take j))) (fun i _ => row.length - (intOf i).toNat)
      case atStart => exact ⟨0, by omega, rfl, HM0.out⟩
      case round =>
        obtain ⟨j, hj, rfl, hMj⟩ := hrel
        obtain ⟨wo, rfl⟩ : ∃ wo : World, wo = wr := ⟨_, rfl⟩
        by_cases hlt : j < row.length
        · have HST := Lib.hid (bodyTo_succ (T := tidyN g) (h := k) hlt)
          have hxl : row[j] < (tidyN g).length := HRW.out _ (List.getElem_mem hlt)
          obtain ⟨A2, c2, e2, _, _, h3⟩ := HRI.out
          injection e2 with e21 e22 e23
          subst e21
          clear e22 e23
          obtain ⟨cd, rfl, hx⟩ := h3 j (by rw [li_len]; exact hlt)
          rw [li_at hlt] at hx
          have hx := cell_keep hMj.below (Nat.le_refl _) hx
          have hml := bodyTo_len (tidyN g) k (row.take j)
          generalize row[j] = x at *
          generalize bodyTo (tidyN g) k (row.take j) = m2 at *
          have hsW := HS2.out.below hMj.below
          have q0 := hsW.cell 0
          have q1 := hsW.cell 1
          have q2 := hsW.cell 2
          have q3 := hsW.cell 3
          have q4 := hsW.cell 4
          have q5 := hsW.cell 5
          have q6 := hsW.cell 6
          have HXW := Lib.hid (HX2.out.keep hMj.below)
          have HMJ := Lib.hid hMj
          clear hMj h3 hsW
          go_wp2_with fail
          refine (back_any wo _ (tidyN g) x k HT.out HXW.out hxl hkT (by rw [HTL.out]; exact hgl)).mono ?_
          rintro e W6 ⟨rfl, hB6⟩
          have HM6 := Lib.hid (HMJ.out.keep hB6)
          clear hB6 q0 q1 q2 q3 q4 q5 q6 hx
          cases hbk : backN (tidyN g) x k with
          | false =>
            have HSS := Lib.hid (show bodyStep (tidyN g) k m2 x = m2 by unfold bodyStep; rw [if_neg (by rw [hbk]; simp)])
            go_wp2
            go_roundw
            case rel => exact ⟨j + 1, by omega, by go_num, by rw [HST.out, HSS.out]; exact HM6.out⟩
            case measure => simp [intOf]; omega
          | true =>
            have HSS := Lib.hid (show bodyStep (tidyN g) k m2 x = markB (turnN (tidyN g)) (walkN (tidyN g)).number ((tidyN g).length + 1) x (m2.set k true) by unfold bodyStep; rw [if_pos hbk])
            have k6 := HM6.out.box.cell
            rw [HTL.out] at k6
            have kf : W6.frozen? ⟨W2.heap.size, k, none⟩ = false := World.ownsRow.frozenAt HM6.out.own _
            have kc := OwnBools.cell HM6.out.own (b := k) (by rw [hml]; exact hkT)
            have HM7 := Lib.hid (HM6.out.store k)
            have k7 := HM7.out.fn.cell
            have hct : (m2.set k true).count false ≤ (tidyN g).length := by
              have := List.count_le_length (a := false) (l := m2.set k true)
              rw [List.length_set, hml] at this
              exact this
            go_wp2_with fail
            refine (HMARK.out ((tidyN g).length + 1) x (m2.set k true) _ HM7.out hxl (by omega)).mono ?_
            rintro e W8 ⟨rfl, hM8⟩
            have HM8 := Lib.hid hM8
            clear hM8 k6 kf kc k7
            go_wp2
            go_roundw
            case rel => exact ⟨j + 1, by omega, by go_num, by rw [HST.out, HSS.out]; exact HM8.out⟩
            case measure => simp [intOf]; omega
        · obtain rfl : j = row.length := by omega
          rw [List.take_length] at hMj
          have hml := bodyTo_len (tidyN g) k row
          have k6 := hMj.box.cell
          rw [HTL.out] at k6
          generalize bodyTo (tidyN g) k row = m2 at *
          have hcall := those_any wo W2.heap.size m2 hMj.own (by rw [hml, HTL.out]; exact hgl)
          rw [hml, HTL.out] at hcall
          have HCALL := Lib.hid hcall
          have HMJ := Lib.hid hMj
          have hbz := hMj.below.size
          clear hcall hMj
          go_wp2_with fail
          refine HCALL.out.mono ?_
          rintro e W7 ⟨v7, rfl, ho7, hB7⟩
          have HO7 := Lib.hid ho7
          have HB7 := Lib.hid hB7
          clear ho7 hB7
          go_wp2
          go_ret
          have hwz : w.heap.size ≤ wo.heap.size := by omega
          exact ⟨_, rfl, by rw [HBN.out]; exact own_base HO7.out hwz, (HB02.out.trans (HMJ.out.below.mono (by omega))).trans (HB7.out.mono hwz)⟩
end Go.Proofs.Ythanbedmiaacdaa.Gc
