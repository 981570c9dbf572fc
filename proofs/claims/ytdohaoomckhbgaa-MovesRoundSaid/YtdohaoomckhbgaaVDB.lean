/- Moves, plainly: a circle's moves done as often as it has places change nothing; start, word by word. -/
import Derived.Test.YtdohaoomckhbgaaVAN
import Derived.Test.YtdohaoomckhbgaaVLB
import Derived.Test.YtdohaoomckhbgaaVS2
namespace Go.Proofs.Ytdohaoomckhbgaa.Vm
open Go.ChangeShapes Go.WideShapes Go.ChangeAt Go.RowKit Go.Maps Go.WideElems Go.ChangeMaps Go.Sort Go.Shelf Go.Proofs.Ytdohaoomckhbgaa.Mem Go.Proofs.Ytdohaoomckhbgaa.Br Go.Proofs.Ytdohaoomckhbgaa.Va Go.Proofs.Ytdohaoomckhbgaa.Vr
set_option linter.unusedVariables false
set_option linter.unusedSimpArgs false
attribute [local go_sem] Oper.semAt_some
theorem circ_uni {f : Int → Int} {x : Int} {N : Nat} (hC : Closed f x N) : Uni (circ f x N) := by
  unfold Uni circ
  refine List.pairwise_map.2 (List.nodup_range.imp_of_mem fun {a b} ha hb hne => ?_)
  have ha := List.mem_range.1 ha
  have hb := List.mem_range.1 hb
  rcases Nat.lt_or_gt_of_ne hne with h2 | h2
  · exact hC.apart h2 hb
  · exact fun e => hC.apart h2 ha e.symm
theorem circ_pl {f : Int → Int} {x : Int} {N : Nat} (hp : ∀ j, PlI (it f x j)) : ∀ m ∈ circ f x N, PlM m := fun m hm => by
  unfold circ at hm
  obtain ⟨i, _, rfl⟩ := List.mem_map.1 hm
  have h1 := hp i
  have h2 := hp (i + 1)
  unfold PlI at h1 h2
  exact ⟨h1, h2⟩
theorem isTo_circ {f : Int → Int} {x : Int} {N : Nat} (hC : Closed f x N) (c : Int) : isTo (circ f x N) c = true ↔ ∃ j, it f x j = c := by
  rw [isTo_iff]
  constructor
  · rintro ⟨m, hm, rfl⟩
    unfold circ at hm
    obtain ⟨i, _, rfl⟩ := List.mem_map.1 hm
    exact ⟨i, rfl⟩
  · rintro ⟨j, rfl⟩
    obtain ⟨i, hi, e⟩ := it_orb hC j
    exact ⟨(it f x i, it f x (i + 1)), by unfold circ; exact List.mem_map.2 ⟨i, List.mem_range.2 hi, rfl⟩, e⟩
theorem after_circ {f : Int → Int} {x : Int} {N : Nat} (hC : Closed f x N) (hp : ∀ j, PlI (it f x j)) {p : List Int} (h40 : p.length = 40) : (∀ j, atV (afterN (circ f x N) p) (it f x j) = atV p (it f x (j + 1))) ∧ ∀ c, (∀ j, it f x j ≠ c) → atV (afterN (circ f x N) p) c = atV p c := by
  have hh : ∀ m ∈ circ f x N, hasB p.length m.1 = true := fun m hm => by
    have h1 := (circ_pl hp m hm).1
    unfold hasB
    rw [h40]
    simp
    omega
  refine ⟨fun j => ?_, fun c hc => ?_⟩
  · obtain ⟨i, hi, e⟩ := it_orb hC j
    have h2 := (after_at p (circ f x N) p (circ_uni hC) hh (it f x j)).2 (it f x i, it f x (i + 1)) (by unfold circ; exact List.mem_map.2 ⟨i, List.mem_range.2 hi, rfl⟩) e
    unfold afterN
    rw [h2]
    show atV p (f (it f x i)) = atV p (f (it f x j))
    rw [e]
  · refine (after_at p (circ f x N) p (circ_uni hC) hh c).1 ?_
    cases h : isTo (circ f x N) c with
    | false => rfl
    | true => obtain ⟨j, e⟩ := (isTo_circ hC c).1 h; exact absurd e (hc j)
def stepsN (xs : List PM) (p : List Int) : Nat → List Int
  | 0 => p
  | k + 1 => doN xs (stepsN xs p k)
theorem stepsN_len (xs : List PM) (p : List Int) : ∀ k, (stepsN xs p k).length = p.length
  | 0 => rfl
  | k + 1 => by unfold stepsN; rw [doN_len, stepsN_len xs p k]
theorem round_steps {f : Int → Int} {x : Int} {N : Nat} (hC : Closed f x N) (hp : ∀ j, PlI (it f x j)) {p : List Int} (h40 : p.length = 40) : ∀ k, (∀ j, atV (stepsN (orderN (circ f x N) (-1) 10).1 p k) (it f x j) = atV p (it f x (j + k))) ∧ ∀ c, Gd (-1) c → (∀ j, it f x j ≠ c) → atV (stepsN (orderN (circ f x N) (-1) 10).1 p k) c = atV p c
  | 0 => ⟨fun j => rfl, fun c _ _ => rfl⟩
  | k + 1 => by
    obtain ⟨h1, h2⟩ := round_steps hC hp h40 k
    have h3 : (stepsN (orderN (circ f x N) (-1) 10).1 p k).length = 40 := by rw [stepsN_len]; exact h40
    have h4 := alike (circ_uni hC) (circ_pl hp) (Or.inl rfl : (-1 : Int) = -1 ∨ (-1 : Int) = 15) _ h3
    obtain ⟨h5, h6⟩ := after_circ hC hp h3
    refine ⟨fun j => ?_, fun c hg hc => ?_⟩
    · show atV (doN _ _) _ = _
      rw [h4 _ (gd_pl (hp j)), h5, h1, show j + 1 + k = j + (k + 1) by omega]
    · show atV (doN _ _) _ = _
      rw [h4 c hg, h6 c hc, h2 c hg hc]
theorem round_back {f : Int → Int} {x : Int} {N : Nat} (hC : Closed f x N) (hp : ∀ j, PlI (it f x j)) {p : List Int} (h40 : p.length = 40) {c : Int} (hg : Gd (-1) c) : atV (stepsN (orderN (circ f x N) (-1) 10).1 p N) c = atV p c := by
  obtain ⟨h1, h2⟩ := round_steps hC hp h40 N
  by_cases h : ∃ j, it f x j = c
  · obtain ⟨j, rfl⟩ := h
    rw [h1]
    have := it_mul hC j 1
    rw [Nat.one_mul] at this
    rw [this]
  · exact h2 c hg fun j e => h ⟨j, e⟩
def startL (x : Int) (k : Nat) : List Int := (List.range k).map fun i : Nat => wrap32 (x + (i : Int) * 1000003)
theorem startL_succ (x : Int) (k : Nat) : startL x (k + 1) = startL x k ++ [wrap32 (x + (k : Int) * 1000003)] := by unfold startL; rw [List.range_succ, List.map_append]; rfl
theorem startL_len (x : Int) (k : Nat) : (startL x k).length = k := by unfold startL; simp
def StartRes2 (x : Int) (w : World) (e : Ending) (w' : World) : Prop := ∃ v, e = .returned v ∧ OwnWords w.heap.size w' v (startL x 40) ∧ Below w.heap.size w w'
set_option maxRecDepth 100000 in
set_option maxHeartbeats 2000000 in
theorem start2_any (w : World) (x : Int) : Calls Try.prog 23 #[.int .i32 x] w (StartRes2 x w) := by
  obtain ⟨i0, hi, hz0, hz1, hz2⟩ := info_parts info_i32V
  have HI := Lib.hid hi
  have HZ0 := Lib.hid hz0
  have HZ1 := Lib.hid hz1
  have HZ2 := Lib.hid hz2
  clear hi hz0 hz1 hz2
  go_enter Try.func23, Try.ntmps23
  go_wp2_with fail
  go_loopw [3, 4] (fun o i wr => ∃ (k : Nat) (l : List Int), k ≤ 40 ∧ i = .int .i64 k ∧ l = startL x k ∧ l.length = k ∧ OwnWords w.heap.size wr o l ∧ Below w.heap.size w wr) (fun _ i _ => 40 - (intOf i).toNat)
  case atStart => exact ⟨0, [], Nat.zero_le _, rfl, rfl, rfl, World.ownsRow_nil _ _ _ _, Below.refl _ _⟩
  case round =>
    obtain ⟨k, l, hk, rfl, hls, hl, ho, hb⟩ := hrel
    have HLS := Lib.hid hls
    clear hls
    have HO := Lib.hid ho
    have HB := Lib.hid hb
    clear ho hb
    by_cases hlt : k < 40
    · obtain ⟨y, hy⟩ : ∃ y, wrap32 (x + (k : Int) * 1000003) = y := ⟨_, rfl⟩
      have HSU := Lib.hid (show startL x (k + 1) = l ++ [y] by rw [startL_succ, hy, HLS.out])
      obtain ⟨W1, hW1⟩ : ∃ W1, wr.alloc (.cells #[.int .i32 y] 21) = W1 := ⟨_, rfl⟩
      have hb1 : Below wr.heap.size wr W1 := by rw [← hW1]; exact (Below.refl _ _).alloc (Nat.le_refl _) _
      have hs1 : Str W1 wr.heap.size 21 [.int .i32 y] := by rw [← hW1]; exact World.alloc_heap_new wr _
      have hz0 := HB.out.size
      have hz1 := hb1.size
      have HO1 := Lib.hid (show OwnWords w.heap.size W1 _ l from own_same_row HO.out (fun g cur hg => hb1.block g (Array.getElem?_eq_some_iff.1 hg).1))
      have HB1 := Lib.hid (HB.out.trans (hb1.mono HB.out.size))
      have HS1 := Lib.hid hs1
      clear hb1 hs1
      go_wp2_with (at_builtin; refine wpList_appendM rfl _ _ 31 rfl w.heap.size 21 i0 (.int .i32 0) 1 4 Try.underlying31 HI.out HZ0.out HZ1.out HZ2.out rfl (by decide) _ l.length (l.map (Value.int .i32)) rfl HO1.out ⟨wr.heap.size, 0, none⟩ [.int .i32 y] rfl rfl ?news ?one (by omega) (by omega) (by omega) ?_)
      case news =>
        intro j u hj
        rw [at_add0, HS1.out.cell j]
        exact hj
      case one =>
        intro u hu
        simp only [List.mem_cons, List.not_mem_nil, or_false] at hu
        rcases hu with rfl
        rfl
      intro v' w5 ho5 hg5 _
      have HO5 := Lib.hid (show OwnWords w.heap.size w5 v' (l ++ [y]) by unfold OwnWords; rw [List.length_append, List.length_singleton, hl, List.map_append]; exact ho5)
      have HB5 := Lib.hid (HB1.out.grown hg5 (by omega) (fun j e => (World.ownsRow.lt HO1.out j e).1))
      clear ho5 hg5
      go_wp2_with fail
      exact ⟨⟨k + 1, l ++ [y], by omega, by go_num, HSU.out.symm, by rw [List.length_append, hl]; rfl, HO5.out, HB5.out⟩, by simp [intOf]; omega⟩
    · obtain rfl : k = 40 := by omega
      go_wp2
      go_ret
      exact ⟨_, rfl, by rw [← HLS.out]; exact HO.out, HB.out⟩
end Go.Proofs.Ytdohaoomckhbgaa.Vm
