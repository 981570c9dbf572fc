/- Stage 12: for PhysBounds, plainly: code of so many like blocks. -/
import Derived.Test.YtdidacjmcafcpaaQL
namespace Go.Proofs.Ytdidacjmcafcpaa.Ph
open Go.Proofs.Ytdidacjmcafcpaa.Mem Go.Proofs.Ytdidacjmcafcpaa.Kc Go.Proofs.Ytdidacjmcafcpaa.Pl Go.Proofs.Ytdidacjmcafcpaa.Mw Go.Proofs.Ytdidacjmcafcpaa.Mc
set_option linter.unusedVariables false
def likeI : PlIn := ⟨⟨1, 1, 0, 2, 0, 0, 0, []⟩, 0⟩
def likeB (many : Nat) : PPB := ⟨List.replicate many likeI, ⟨7, -1, 0, [], 0⟩⟩
theorem like_ins {r sl : Int} (h1 : 4 ≤ r) : insQ likeI.i r sl = 0 := by
  have ht : takesL likeI.i = [2] := by decide +kernel
  have hm : makesL likeI.i = [1] := by decide +kernel
  have hr : (regsB r (makesL likeI.i) && regsB r (takesL likeI.i)) = true := by
    rw [ht, hm]
    simp [regsB, badR]
    omega
  unfold insQ
  rw [if_neg (by decide +kernel), if_neg (by rw [hr]; decide), if_neg (by simp [likeI]), if_neg (by decide +kernel)]
theorem like_end {r blocks : Int} : endQ (likeB 0).fin r blocks = 0 := by
  have hn : needsL (likeB 0).fin = [] := by decide +kernel
  unfold endQ
  rw [if_neg (by decide +kernel), if_neg (by rw [hn]; simp [regsB, likeB]), if_neg (by simp [likeB])]
theorem like_tail {r sl blocks : Int} (h1 : 4 ≤ r) : ∀ (n k : Nat), (tailQ r sl blocks (likeB 0).fin k (List.replicate n likeI)).1 = 0
  | 0, k => like_end (r := r) (blocks := blocks)
  | n + 1, k => by
    rw [List.replicate_succ]
    show (if insQ likeI.i r sl = 0 then tailQ r sl blocks (likeB 0).fin (k + 1) (List.replicate n likeI) else (insQ likeI.i r sl, (k : Int))).1 = 0
    rw [if_pos (like_ins h1)]
    exact like_tail h1 n (k + 1)
theorem like_first {r sl blocks : Int} (h1 : 4 ≤ r) (many : Nat) : ∀ (n k : Nat), firstQ r sl blocks k (List.replicate n (likeB many)) = (0, 0, 0)
  | 0, k => rfl
  | n + 1, k => by
    rw [List.replicate_succ]
    show (if (tailQ r sl blocks (likeB 0).fin 0 (List.replicate many likeI)).1 = 0 then firstQ r sl blocks (k + 1) (List.replicate n (likeB many)) else _) = _
    rw [if_pos (like_tail h1 many 0)]
    exact like_first h1 many n (k + 1)
theorem like_upto (many : Nat) : ∀ n, uptoQ (List.replicate n (likeB many)) n = n * (many + 1) := by
  intro n
  unfold uptoQ
  rw [List.take_of_length_le (by simp), List.map_replicate, List.sum_replicate_nat, show sizeQ (likeB many) = many + 1 by simp [sizeQ, likeB]]
/-- What is wrong with it is a matter of numbers alone, and is told of no block. -/
theorem like_func (params r sl : Int) (n many : Nat) : funcQ params r sl (List.replicate n (likeB many)) = (limQ params r sl (List.replicate n (likeB many)), 0, 0) := by
  unfold funcQ
  by_cases h : limQ params r sl (List.replicate n (likeB many)) = 0
  · rw [if_pos h, h]
    refine like_first ?_ many n 0
    unfold limQ at h
    by_cases h2 : (params < 0 ∨ 4 < params) ∨ (r < 4 ∨ 16 < r) ∨ (sl < 0 ∨ 16384 < sl)
    · rw [if_pos h2] at h; cases h
    · omega
  · rw [if_neg h]
theorem like_lim (params r sl : Int) (n many : Nat) : limQ params r sl (List.replicate n (likeB many)) = if (params < 0 ∨ 4 < params) ∨ (r < 4 ∨ 16 < r) ∨ (sl < 0 ∨ 16384 < sl) then 1 else if n = 0 then 14 else if 512 < n ∨ 65536 < n * (many + 1) then 2 else 0 := by
  unfold limQ
  rw [List.length_replicate, like_upto]
  split
  · rfl
  · split
    · rfl
    · by_cases h1 : 512 < n
      · rw [if_pos h1, if_pos (Or.inl h1)]
      · rw [if_neg h1]
        by_cases h2 : 65536 < n * (many + 1)
        · rw [if_pos h2, if_pos (Or.inr h2)]
        · rw [if_neg h2, if_neg (by omega)]
theorem like_wf (n many : Nat) (hn : n ≤ 530) (hm : many ≤ 200) : WfQ (List.replicate n (likeB many)) where
  few := by rw [List.length_replicate]; omega
  sizes := fun x hx => by rw [List.eq_of_mem_replicate hx]; exact ⟨by simp [likeB]; omega, by simp [likeB]⟩
  ins := fun x hx y hy => by
    rw [List.eq_of_mem_replicate hx] at hy
    rw [List.eq_of_mem_replicate hy]
    exact ⟨by simp [likeI], by unfold InI; decide, by unfold InI; decide, by unfold InI; decide, by unfold InI; decide, by unfold InI; decide, by unfold InW; decide⟩
end Go.Proofs.Ytdidacjmcafcpaa.Ph
