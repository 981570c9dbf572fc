/- Moves: jacquardref11.around: the circle of which a place is the least. -/
import Derived.Test.YtdohaoomckhbgaaVCR
import Derived.Test.YtdohaoomckhbgaaVLW
namespace Go.Proofs.Ytdohaoomckhbgaa.Vm
open Go.ChangeShapes Go.WideShapes Go.ChangeAt Go.RowKit Go.Maps Go.WideElems Go.ChangeMaps Go.Sort Go.Shelf Go.Proofs.Ytdohaoomckhbgaa.Mem Go.Proofs.Ytdohaoomckhbgaa.Br Go.Proofs.Ytdohaoomckhbgaa.Va Go.Proofs.Ytdohaoomckhbgaa.Vr
set_option linter.unusedVariables false
set_option linter.unusedSimpArgs false
attribute [local go_sem] Oper.semAt_some
/-- A circle of n places, of which x is the least. -/
def RingAt (l : List Mov) (x : Int) (n : Nat) : Prop := Closed (srcD l) x n ∧ (∀ j, j < n → isTo l (it (srcD l) x j) = true) ∧ ∀ j, 0 < j → j < n → x < it (srcD l) x j
theorem RingAt.len {l : List Mov} {x : Int} {n : Nat} (h : RingAt l x n) : n ≤ l.length := by
  have h1 : (orb (srcD l) x n).Nodup := by
    unfold orb
    refine List.pairwise_map.2 (List.nodup_range.imp_of_mem fun {a b} ha hb hne => ?_)
    have ha := List.mem_range.1 ha
    have hb := List.mem_range.1 hb
    rcases Nat.lt_or_gt_of_ne hne with h2 | h2
    · exact h.1.apart h2 hb
    · exact fun e => h.1.apart h2 ha e.symm
  have h2 := php_len h1 (F := l.map (·.1)) (fun y hy => by
    obtain ⟨j, hj, rfl⟩ := mem_orb.1 hy
    obtain ⟨m, hm, e⟩ := isTo_iff.1 (h.2.1 j hj)
    exact List.mem_map.2 ⟨m, hm, e⟩)
  rwa [orb_len, List.length_map] at h2
/-- So far one has gone. -/
structure GoneN (l : List Mov) (x : Int) (n : Nat) : Prop where
  pos : 1 ≤ n
  le : n ≤ l.length + 1
  to : ∀ j, j + 1 < n → isTo l (it (srcD l) x j) = true
  gt : ∀ j, 0 < j → j < n → x < it (srcD l) x j
theorem GoneN.le_ring {l : List Mov} {x : Int} {n N : Nat} (h : GoneN l x n) (hr : RingAt l x N) : n ≤ N := by
  rcases Nat.lt_or_ge N n with h1 | h1
  · have := h.gt N hr.1.1 h1
    rw [hr.1.2.1] at this; omega
  · exact h1
theorem GoneN.not_is {l : List Mov} {x : Int} {n : Nat} (h : GoneN l x n) (hb : isTo l (it (srcD l) x (n - 1)) = false) : ∀ N, ¬ RingAt l x N := fun N hr => by
  have h1 := h.le_ring hr
  have h2 := hr.2.1 (n - 1) (by have := h.pos; omega)
  rw [hb] at h2; cases h2
theorem GoneN.low {l : List Mov} {x : Int} {n : Nat} (h : GoneN l x n) (hb : it (srcD l) x n < x) : ∀ N, ¬ RingAt l x N := fun N hr => by
  have h1 := h.le_ring hr
  have h0 := h.pos
  rcases Nat.lt_or_ge n N with h2 | h2
  · have := hr.2.2 n (by omega) h2; omega
  · have e : n = N := by omega
    have := hr.1.2.1
    rw [← e] at this; omega
theorem GoneN.far {l : List Mov} {x : Int} {n : Nat} (h : GoneN l x n) (hb : l.length < n) : ∀ N, ¬ RingAt l x N := fun N hr => by
  have h1 := h.le_ring hr
  have := hr.len
  omega
theorem GoneN.ring {l : List Mov} {x : Int} {n : Nat} (h : GoneN l x n) (hb : isTo l (it (srcD l) x (n - 1)) = true) (hx : it (srcD l) x n = x) : RingAt l x n := by
  refine ⟨⟨h.pos, hx, fun i h1 h2 e => by have := h.gt i h1 h2; omega⟩, fun j hj => ?_, h.gt⟩
  by_cases e : j = n - 1
  · rw [e]; exact hb
  · exact h.to j (by omega)
theorem GoneN.next {l : List Mov} {x : Int} {n : Nat} (h : GoneN l x n) (hb : isTo l (it (srcD l) x (n - 1)) = true) (hx : x < it (srcD l) x n) (hn : n ≤ l.length) : GoneN l x (n + 1) := by
  refine ⟨by omega, by omega, fun j hj => ?_, fun j h1 h2 => ?_⟩
  · by_cases e : j = n - 1
    · rw [e]; exact hb
    · exact h.to j (by omega)
  · by_cases e : j = n
    · rw [e]; exact hx
    · exact h.gt j h1 (by omega)
def lenV : Value → Nat | .slice _ n _ => n | _ => 0
def AroundRes (l : List Mov) (x : Int) (w : World) (e : Ending) (w' : World) : Prop := ∃ v c, e = .returned v ∧ w'.ownsRow w.heap.size 3 1 v c.length (c.map (Value.int .i64)) ∧ Below w.heap.size w w' ∧ ((c = [] ∧ ∀ n, ¬ RingAt l x n) ∨ ∃ n, RingAt l x n ∧ c = orb (srcD l) x n)
set_option maxRecDepth 100000 in
set_option maxHeartbeats 2000000 in
theorem around_any (w : World) (v : Value) (l : List Mov) (x : Int) (hv : MovesAt w v l) (hl : l.length ≤ 1000) (hu : Uni l) : Calls Try.prog 43 #[v, .int .i64 x] w (AroundRes l x w) := by
  have HV := Lib.hid hv
  have HU := Lib.hid hu
  have HTK := Lib.hid (fun y => takN_uni hu y)
  obtain ⟨A, c, b0, o0, rfl, h1, h2, -⟩ := hv
  unfold maxLen at h2
  clear hu
  obtain ⟨i0, hi, hz0, hz1, hz2⟩ := info_parts info_int
  have HI := Lib.hid hi
  have HZ0 := Lib.hid hz0
  have HZ1 := Lib.hid hz1
  have HZ2 := Lib.hid hz2
  clear hi hz0 hz1 hz2
  obtain ⟨W0, hW0⟩ : ∃ W0, w.alloc (.cells #[.int .i64 x] 3) = W0 := ⟨_, rfl⟩
  have hb0 : Below w.heap.size w W0 := by rw [← hW0]; exact (Below.refl _ _).alloc (Nat.le_refl _) _
  have HO0 := Lib.hid (show W0.ownsRow w.heap.size 3 1 (.slice (some ⟨w.heap.size, 0, none⟩) 1 1) 1 ((orb (srcD l) x 1).map (Value.int .i64)) by
    rw [← hW0]
    exact World.ownsRow_lit (size := 1) (e := 3) (base := w.heap.size) w #[.int .i64 x] 1 (Nat.le_refl _) (by unfold maxLen; omega) (by simp))
  have HB0 := Lib.hid hb0
  clear hb0
  go_enter Try.func43, Try.ntmps43
  go_wp2_with fail
  clear hW0
  refine (takes_any W0 _ l x (MovesAt.keep HV.out HB0.out)).mono ?_
  rintro e w1 ⟨rfl, hw1⟩
  obtain rfl : W0 = w1 := hw1.symm
  rw [HTK.out x]
  have HG0 := Lib.hid (show GoneN l x 1 from ⟨Nat.le_refl _, by omega, fun j h => absurd h (by omega), fun j h1 h2 => absurd h1 (by omega)⟩)
  go_wp2_with fail
  go_loopw [5, 6, 7] (fun o p is wr => ∃ n : Nat, GoneN l x n ∧ p = .int .i64 (it (srcD l) x n) ∧ is = .bool (isTo l (it (srcD l) x (n - 1))) ∧ wr.ownsRow w.heap.size 3 1 o n ((orb (srcD l) x n).map (Value.int .i64)) ∧ Below w.heap.size w wr ∧ ∃ A c, o = .slice A n c) (fun o _ _ _ => l.length + 1 - lenV o)
  case atStart => exact ⟨1, HG0.out, rfl, rfl, HO0.out, HB0.out, _, _, rfl⟩
  case round =>
    obtain ⟨n, hg, rfl, rfl, ho, hb, A2, c2, rfl⟩ := hrel
    have HG := Lib.hid hg
    have HO := Lib.hid ho
    have HB := Lib.hid hb
    have hn1 := hg.le
    have hn0 := hg.pos
    have hcap := own_cap ho
    unfold maxLen at hcap
    clear hg ho hb HB0 HO0 HG0
    cases hbv : isTo l (it (srcD l) x (n - 1)) with
    | false =>
      have HN := Lib.hid (HG.out.not_is hbv)
      clear hbv
      generalize it (srcD l) x n = y at *
      go_wp2_with fail
      go_ret
      exact ⟨_, [], rfl, World.ownsRow_nil _ _ _ _, HB.out, Or.inl ⟨rfl, HN.out⟩⟩
    | true =>
      obtain ⟨y, hy⟩ : ∃ y, it (srcD l) x n = y := ⟨_, rfl⟩
      have HY := Lib.hid hy
      have HBV := Lib.hid hbv
      rw [hy]
      clear hy hbv
      by_cases hyx : y = x
      · have hne : (y != x) = false := by rw [hyx]; simp
        have HR := Lib.hid (HG.out.ring HBV.out (HY.out.trans hyx))
        clear hyx
        go_wp2_with fail
        go_ret
        exact ⟨_, orb (srcD l) x n, rfl, by rw [orb_len]; exact HO.out, HB.out, Or.inr ⟨n, HR.out, rfl⟩⟩
      · have hne : (y != x) = true := by simpa using hyx
        by_cases hlt : x < y
        · by_cases hnl : n ≤ l.length
          · obtain ⟨W1, hW1⟩ : ∃ W1, wr.alloc (.cells #[.int .i64 y] 3) = W1 := ⟨_, rfl⟩
            have hb1 : Below wr.heap.size wr W1 := by rw [← hW1]; exact (Below.refl _ _).alloc (Nat.le_refl _) _
            have hs1 : Str W1 wr.heap.size 3 [.int .i64 y] := by rw [← hW1]; exact World.alloc_heap_new wr _
            have hz0 := HB.out.size
            have hz1 := hb1.size
            have HO1 := Lib.hid (show W1.ownsRow w.heap.size 3 1 (.slice A2 n c2) n ((orb (srcD l) x n).map (Value.int .i64)) from own_same_row HO.out (fun g cur hg => hb1.block g (Array.getElem?_eq_some_iff.1 hg).1))
            have HB1 := Lib.hid (HB.out.trans (hb1.mono HB.out.size))
            have HS1 := Lib.hid hs1
            clear hb1 hs1
            go_wp2_with (at_builtin; refine wpList_appendM rfl _ _ 23 rfl w.heap.size 3 i0 (.int .i64 0) 1 8 Try.underlying23 HI.out HZ0.out HZ1.out HZ2.out rfl (by decide) _ n ((orb (srcD l) x n).map (Value.int .i64)) rfl HO1.out ⟨wr.heap.size, 0, none⟩ [.int .i64 y] rfl rfl ?news ?one (by omega) (by omega) (by omega) ?_)
            case news =>
              intro j u hj
              rw [at_add0, HS1.out.cell j]
              exact hj
            case one =>
              intro u hu
              simp only [List.mem_cons, List.not_mem_nil, or_false] at hu
              rcases hu with rfl
              rfl
            intro v' w5 ho5 hg5 _
            have HO5 := Lib.hid (show w5.ownsRow w.heap.size 3 1 v' (n + 1) ((orb (srcD l) x (n + 1)).map (Value.int .i64)) by rw [orb_succ, List.map_append, HY.out]; exact ho5)
            have HB5 := Lib.hid (HB1.out.grown hg5 (by omega) (fun j e => (World.ownsRow.lt HO1.out j e).1))
            obtain ⟨A5, c5, rfl⟩ := own_form ho5
            clear ho5 hg5 hW1
            go_wp2_with fail
            refine (takes_any w5 _ l y (MovesAt.keep HV.out HB5.out)).mono ?_
            rintro e w6 ⟨rfl, hw6⟩
            obtain rfl : w5 = w6 := hw6.symm
            rw [HTK.out y]
            have HG5 := Lib.hid (HG.out.next HBV.out (by rw [HY.out]; exact hlt) hnl)
            go_wp2_with fail
            refine ⟨⟨n + 1, HG5.out, ?_, ?_, HO5.out, HB5.out, _, _, rfl⟩, ?_⟩
            · show Value.int .i64 (srcD l y) = .int .i64 (srcD l (it (srcD l) x n))
              rw [HY.out]
            · show Value.bool (isTo l y) = .bool (isTo l (it (srcD l) x n))
              rw [HY.out]
            · simp [lenV]; omega
          · have HN := Lib.hid (HG.out.far (by omega))
            go_wp2_with fail
            go_ret
            exact ⟨_, [], rfl, World.ownsRow_nil _ _ _ _, HB.out, Or.inl ⟨rfl, HN.out⟩⟩
        · have HN := Lib.hid (HG.out.low (by rw [HY.out]; omega))
          go_wp2_with fail
          go_ret
          exact ⟨_, [], rfl, World.ownsRow_nil _ _ _ _, HB.out, Or.inl ⟨rfl, HN.out⟩⟩
end Go.Proofs.Ytdohaoomckhbgaa.Vm
