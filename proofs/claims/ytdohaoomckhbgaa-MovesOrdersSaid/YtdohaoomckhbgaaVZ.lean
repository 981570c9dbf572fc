/- Moves: jacquardref11.Made, spot; the law's few and start. -/
import Derived.Test.YtdohaoomckhbgaaVX
namespace Go.Proofs.Ytdohaoomckhbgaa.Vm
open Go.ChangeShapes Go.WideShapes Go.ChangeAt Go.RowKit Go.Maps Go.WideElems Go.ChangeMaps Go.Sort Go.Shelf Go.Proofs.Ytdohaoomckhbgaa.Mem Go.Proofs.Ytdohaoomckhbgaa.Br Go.Proofs.Ytdohaoomckhbgaa.Va Go.Proofs.Ytdohaoomckhbgaa.Vr
set_option linter.unusedVariables false
set_option linter.unusedSimpArgs false
attribute [local go_sem] Oper.semAt_some
theorem rest_is24 (x : Int) : (x.tmod 24 + 24) % 24 = x % 24 := by
  rw [Int.add_emod_right, Int.tmod_def]
  have e : x - 24 * x.tdiv 24 = x + 24 * (-(x.tdiv 24)) := by rw [Int.mul_neg]; rfl
  rw [e, Int.add_mul_emod_self_left]
theorem tmod_bd24 (x : Int) : -24 < x.tmod 24 ∧ x.tmod 24 < 24 := by
  have h2 := Int.natAbs_tmod x 24
  have h3 : x.natAbs % (24 : Int).natAbs < (24 : Int).natAbs := Nat.mod_lt _ (by omega)
  omega
def OwnMv (B : Nat) (w : World) (v : Value) (l : List Mov) : Prop := w.ownsRow B 43 2 v l.length (l.flatMap cellsV)
theorem MovesAt.of_own {B : Nat} {w : World} {v : Value} {l : List Mov} (h : OwnMv B w v l) : MovesAt w v l := by
  rcases h.2 with ⟨rfl, h0⟩ | ⟨g, cap, cur, rfl, _, hg, hn, hm, _⟩
  · have : l = [] := List.length_eq_zero_iff.1 h0
    subst this; exact rowAt_nil
  · have hk : ∀ (k : Nat) (hk : k < l.length) (j : Nat) (u : Value), j < 2 → (cellsV l[k])[j]? = some u → w.cell? ⟨g, 0 + k * 2 + j, none⟩ = some u := by
      intro k hk j u hj hu
      rw [Nat.zero_add]
      have h2 := World.ownsRow.cells h (g := g) rfl (k * 2 + j) u (by rw [flat_getG cellsV 2 (fun _ => rfl) l k j hk hj]; exact hu)
      rw [at_add0] at h2
      exact h2
    exact ⟨some ⟨g, 0, none⟩, cap, g, 0, rfl, hn, hm, fun _ => rfl, fun k h1 => ⟨hk k h1 0 _ (by omega) rfl, hk k h1 1 _ (by omega) rfl⟩⟩
theorem info_mv : (Try.prog.info? 43).map (fun i => (i.zero, i.size, i.bytes)) = some (some (.agg #[.int .i64 0, .int .i64 0]), 2, 16) := by kernel_rfl
theorem info_i32V : (Try.prog.info? 21).map (fun i => (i.zero, i.size, i.bytes)) = some (some (.int .i32 0), 1, 4) := by kernel_rfl
theorem flat_snocV (l : List Mov) (x : Mov) : (l ++ [x]).flatMap cellsV = l.flatMap cellsV ++ cellsV x := by rw [List.flatMap_append]; simp
def spotN (n : Int) : Int := if n < 12 then n else n + 4
def oneM (s : List Int) (i : Nat) : Option Mov := if s.getD i 0 % 24 < 20 then some (spotN i, spotN (s.getD i 0 % 24)) else none
def madeTo (s : List Int) (k : Nat) : List Mov := (List.range k).filterMap (oneM s)
def madeM (s : List Int) : List Mov := madeTo s (min s.length 20)
theorem madeTo_succ (s : List Int) (k : Nat) : madeTo s (k + 1) = madeTo s k ++ (oneM s k).toList := by
  unfold madeTo; rw [List.range_succ, List.filterMap_append]; cases h : oneM s k <;> simp [h]
theorem madeTo_len (s : List Int) (k : Nat) : (madeTo s k).length ≤ k := by
  have := List.length_filterMap_le (oneM s) (List.range k); simpa [madeTo] using this
theorem spot_bd {n : Int} (h : 0 ≤ n) (h2 : n < 20) : 0 ≤ spotN n ∧ spotN n < 24 := by unfold spotN; split <;> omega
theorem spot_inj {a b : Int} (h : spotN a = spotN b) : a = b := by unfold spotN at h; split at h <;> split at h <;> omega
theorem made_mem {s : List Int} {m : Mov} (h : m ∈ madeM s) : ∃ i : Nat, i < 20 ∧ m.1 = spotN i ∧ ∃ f : Int, 0 ≤ f ∧ f < 20 ∧ m.2 = spotN f := by
  unfold madeM madeTo at h
  obtain ⟨i, hi, h1⟩ := List.mem_filterMap.1 h
  have hi := List.mem_range.1 hi
  unfold oneM at h1
  split at h1
  · rename_i hq
    cases h1
    exact ⟨i, by omega, rfl, _, Int.emod_nonneg _ (by omega), hq, rfl⟩
  · cases h1
theorem made_pl {s : List Int} {m : Mov} (h : m ∈ madeM s) : (0 ≤ m.1 ∧ m.1 < 24) ∧ 0 ≤ m.2 ∧ m.2 < 24 := by
  obtain ⟨i, h1, h2, f, h3, h4, h5⟩ := made_mem h
  rw [h2, h5]
  exact ⟨spot_bd (by omega) (by omega), spot_bd h3 h4⟩
theorem made_rng (s : List Int) : Rng (madeM s) := fun m hm => by have := made_pl hm; unfold InI; omega
theorem made_len (s : List Int) : (madeM s).length ≤ 20 := by have := madeTo_len s (min s.length 20); unfold madeM; omega
theorem madeTo_uni (s : List Int) : ∀ k, Uni (madeTo s k) ∧ ∀ m ∈ madeTo s k, ∃ i : Nat, i < k ∧ m.1 = spotN i
  | 0 => ⟨List.Pairwise.nil, fun m h => by cases h⟩
  | k + 1 => by
    obtain ⟨h1, h2⟩ := madeTo_uni s k
    rw [madeTo_succ]
    refine ⟨List.pairwise_append.2 ⟨h1, ?_, ?_⟩, ?_⟩
    · cases oneM s k <;> simp
    · intro a ha b hb e
      obtain ⟨i, hi, e1⟩ := h2 a ha
      have : b.1 = spotN k := by
        unfold oneM at hb; split at hb
        · simp at hb; rw [hb]
        · cases hb
      rw [e1, this] at e
      have := spot_inj e
      omega
    · intro m hm
      rcases List.mem_append.1 hm with h | h
      · obtain ⟨i, hi, e⟩ := h2 m h; exact ⟨i, by omega, e⟩
      · unfold oneM at h; split at h
        · simp at h; exact ⟨k, by omega, by rw [h]⟩
        · cases h
theorem made_uni (s : List Int) : Uni (madeM s) := (madeTo_uni s _).1
set_option maxRecDepth 100000 in
set_option maxHeartbeats 1000000 in
theorem spot_any (w : World) (n : Int) (h1 : 0 ≤ n) (h2 : n < 1000) : Calls Try.prog 29 #[.int .i64 n] w fun e w' => e = .returned (.int .i64 (spotN n)) ∧ w' = w := by
  go_enter Try.func29, Try.ntmps29
  by_cases h : n < 12
  · go_wp2
    go_ret
    exact ⟨by rw [show spotN n = n from if_pos h]; rfl, rfl⟩
  · go_wp2
    go_ret
    exact ⟨by rw [show spotN n = n + 4 from if_neg (by omega)]; rfl, rfl⟩
def MadeRes (l : List Mov) (w : World) (e : Ending) (w' : World) : Prop := ∃ v, e = .returned v ∧ OwnMv w.heap.size w' v l ∧ Below w.heap.size w w'
set_option maxRecDepth 100000 in
set_option maxHeartbeats 2000000 in
theorem made_any (w : World) (v : Value) (s : List Int) (hs : Ints w v s) :
    Calls Try.prog 14 #[v] w (MadeRes (madeM s) w) := by
  obtain ⟨A, ca, rfl, ha1, ha2, ha3⟩ := hs
  unfold maxLen at ha2
  have HA := Lib.hid ha3
  clear ha3
  obtain ⟨i0, hi, hz0, hz1, hz2⟩ := info_parts info_mv
  have HI := Lib.hid hi
  have HZ0 := Lib.hid hz0
  have HZ1 := Lib.hid hz1
  have HZ2 := Lib.hid hz2
  clear hi hz0 hz1 hz2
  go_enter Try.func14, Try.ntmps14
  go_wp2_with fail
  go_loopw [3, 4] (fun o i wr => ∃ k : Nat, k ≤ s.length ∧ k ≤ 20 ∧ i = .int .i64 k ∧ OwnMv w.heap.size wr o (madeTo s k) ∧ Below w.heap.size w wr) (fun _ i _ => s.length - (intOf i).toNat)
  case atStart => exact ⟨0, Nat.zero_le _, Nat.zero_le _, rfl, World.ownsRow_nil _ _ _ _, Below.refl _ _⟩
  case round =>
    obtain ⟨k, hk, hk20, rfl, ho, hb⟩ := hrel
    have HO := Lib.hid ho
    have HB := Lib.hid hb
    clear ho hb
    by_cases hlt : k < s.length
    · by_cases h20 : k < 20
      · obtain ⟨ad, rfl, hc⟩ := HA.out k hlt
        have hc := cell_keep HB.out (Nat.le_refl _) hc
        have HS := Lib.hid (madeTo_succ s k)
        have HL := Lib.hid (madeTo_len s k)
        have HD := Lib.hid (show s.getD k 0 = s[k] by rw [List.getD_eq_getElem?_getD, List.getElem?_eq_getElem hlt]; rfl)
        generalize s[k] = x at *
        have hr := rest_is24 x
        obtain ⟨x1, x2⟩ := tmod_bd24 x
        have q0 : 0 ≤ x % 24 := Int.emod_nonneg _ (by omega)
        have HONE := Lib.hid (show oneM s k = if x % 24 < 20 then some (spotN k, spotN (x % 24)) else none by unfold oneM; rw [HD.out])
        generalize x % 24 = q at *
        obtain ⟨sk, hsk⟩ : ∃ sk, spotN (k : Int) = sk := ⟨_, rfl⟩
        rw [hsk] at HONE
        go_wp2_with fail
        refine (spot_any _ k (by omega) (by omega)).mono ?_
        rintro e w2 ⟨rfl, hw2⟩
        obtain rfl : wr = w2 := hw2.symm
        rw [hsk]
        clear hsk
        by_cases hq : q < 20
        · have HM := Lib.hid (show madeTo s (k + 1) = madeTo s k ++ [(sk, spotN q)] by rw [HS.out, HONE.out, if_pos hq]; rfl)
          go_wp2_with fail
          try simp only [hr]
          go_wp2_with fail
          refine (spot_any _ q q0 (by omega)).mono ?_
          rintro e w2 ⟨rfl, hw2⟩
          obtain rfl : wr = w2 := hw2.symm
          obtain ⟨sq, hsq⟩ : ∃ sq, spotN q = sq := ⟨_, rfl⟩
          rw [hsq] at HM ⊢
          clear hsq
          obtain ⟨W1, hW1⟩ : ∃ W1, wr.alloc (.cells #[.int .i64 sk, .int .i64 sq] 43) = W1 := ⟨_, rfl⟩
          have hb1 : Below wr.heap.size wr W1 := by rw [← hW1]; exact (Below.refl _ _).alloc (Nat.le_refl _) _
          have hs1 : Str W1 wr.heap.size 43 (cellsV (sk, sq)) := by rw [← hW1]; exact World.alloc_heap_new wr _
          have hz0 := HB.out.size
          have hz1 := hb1.size
          have hln := HL.out
          have HO1 := Lib.hid (show OwnMv w.heap.size W1 _ _ from own_same_row HO.out (fun g cur hg => hb1.block g (Array.getElem?_eq_some_iff.1 hg).1))
          have HB1 := Lib.hid (HB.out.trans (hb1.mono HB.out.size))
          have HS1 := Lib.hid hs1
          clear hb1 hs1
          go_wp2_with (at_builtin; refine wpList_appendM rfl _ _ 22 rfl w.heap.size 43 i0 (.agg #[.int .i64 0, .int .i64 0]) 2 16 Try.underlying22 HI.out HZ0.out HZ1.out HZ2.out rfl (by decide) _ (madeTo s k).length ((madeTo s k).flatMap cellsV) rfl HO1.out ⟨wr.heap.size, 0, none⟩ (cellsV (sk, sq)) rfl rfl ?news ?one (by omega) (by omega) (by omega) ?_)
          case news =>
            intro j u hj
            rw [at_add0, HS1.out.cell j]
            exact hj
          case one =>
            intro u hu
            simp only [cellsV, List.mem_cons, List.not_mem_nil, or_false] at hu
            rcases hu with rfl | rfl <;> rfl
          intro v' w5 ho5 hg5 _
          have HO5 := Lib.hid (show OwnMv w.heap.size w5 v' (madeTo s (k + 1)) by unfold OwnMv; rw [HM.out, List.length_append, List.length_singleton, flat_snocV]; exact ho5)
          have HB5 := Lib.hid (HB1.out.grown hg5 (by omega) (fun j e => (World.ownsRow.lt HO1.out j e).1))
          clear ho5 hg5
          go_wp2_with fail
          exact ⟨⟨k + 1, by omega, by omega, by go_num, HO5.out, HB5.out⟩, by simp [intOf]; omega⟩
        · have HM := Lib.hid (show madeTo s (k + 1) = madeTo s k by rw [HS.out, HONE.out, if_neg hq]; simp)
          go_wp2_with fail
          try simp only [hr]
          go_wp2_with fail
          exact ⟨⟨k + 1, by omega, by omega, by go_num, by rw [HM.out]; exact HO.out, HB.out⟩, by simp [intOf]; omega⟩
      · obtain rfl : k = 20 := by omega
        go_wp2
        go_ret
        exact ⟨_, rfl, by unfold madeM; rw [show min s.length 20 = 20 by omega]; exact HO.out, HB.out⟩
    · obtain rfl : k = s.length := by omega
      go_wp2
      go_ret
      exact ⟨_, rfl, by unfold madeM; rw [show min s.length 20 = s.length by omega]; exact HO.out, HB.out⟩
set_option maxRecDepth 100000 in
set_option maxHeartbeats 1000000 in
theorem few_any (w : World) (v : Value) (l : List Mov) (hv : MovesAt w v l) : Calls Try.prog 16 #[v] w fun e w' => ∃ u, e = .returned u ∧ MovesAt w u (l.take 24) ∧ w' = w := by
  have HV := Lib.hid hv
  obtain ⟨A, c, b0, o0, rfl, h1, h2, -⟩ := hv
  unfold maxLen at h2
  go_enter Try.func16, Try.ntmps16
  by_cases h : 24 < l.length
  · go_wp2
    go_ret
    exact ⟨_, rfl, RowAt.take HV.out 24 (by omega), rfl⟩
  · go_wp2
    go_ret
    exact ⟨_, rfl, by rw [List.take_of_length_le (by omega)]; exact HV.out, rfl⟩
end Go.Proofs.Ytdohaoomckhbgaa.Vm
