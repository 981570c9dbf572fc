/- Stage 4: InterpCalls' row of instructions, as it grows. -/
import Derived.Test.YtcangooibfddmaaILawB
namespace Go.Proofs.Ytcangooibfddmaa.Ic
open Go.ChangeShapes Go.WideShapes Go.ChangeAt Go.RowKit Go.Maps Go.Proofs.Ytcangooibfddmaa.Mem Go.Proofs.Ytcangooibfddmaa.Kc Go.Proofs.Ytcangooibfddmaa.Br Go.Proofs.Ytcangooibfddmaa.Pl Go.Proofs.Ytcangooibfddmaa.Gr
set_option linter.unusedVariables false
theorem info_ins : (Try.prog.info? 36).map (fun i => (i.zero, i.size, i.bytes)) = some (some (.agg #[.int .i64 0, .int .i64 0, .int .i64 0, .slice none 0 0, .int .i32 0]), 5, 56) := by kernel_rfl
def CallsAt (B : Nat) (w : World) (v : Value) (k : Nat) : Prop := ∃ es, w.ownsRow B 36 5 v k es ∧ ∀ j, j < k → es[5 * j]? = some (.int .i64 17) ∧ es[5 * j + 1]? = some (.int .i64 ((j : Int) + 1)) ∧ es[5 * j + 2]? = some (.int .i64 0) ∧
  (∃ a, es[5 * j + 3]? = some (.slice (some ⟨a, 0, none⟩) (j % 3) 2) ∧ Str w a 3 [.int .i64 j, .int .i64 0]) ∧ es[5 * j + 4]? = some (.int .i32 j)
theorem CallsAt.below {B : Nat} {w w' : World} {v : Value} {k : Nat} (h : CallsAt B w v k) (hb : Below w.heap.size w w') : CallsAt B w' v k := by
  obtain ⟨es, h1, h2⟩ := h
  refine ⟨es, own_below h1 hb, fun j hj => ?_⟩
  obtain ⟨a0, a1, a2, ⟨a, a3, a5⟩, a4⟩ := h2 j hj
  exact ⟨a0, a1, a2, ⟨a, a3, a5.below hb⟩, a4⟩
theorem CallsAt.push {B : Nat} {w w1 : World} {v v' : Value} {k a : Nat} {es : List Value} (h1 : w.ownsRow B 36 5 v k es) (h2 : ∀ j, j < k → es[5 * j]? = some (.int .i64 17) ∧ es[5 * j + 1]? = some (.int .i64 ((j : Int) + 1)) ∧ es[5 * j + 2]? = some (.int .i64 0) ∧
    (∃ a, es[5 * j + 3]? = some (.slice (some ⟨a, 0, none⟩) (j % 3) 2) ∧ Str w a 3 [.int .i64 j, .int .i64 0]) ∧ es[5 * j + 4]? = some (.int .i32 j))
    (ha : Str w a 3 [.int .i64 k, .int .i64 0]) (hr : w1.ownsRow B 36 5 v' (k + 1) (es ++ [.int .i64 17, .int .i64 ((k : Int) + 1), .int .i64 0, .slice (some ⟨a, 0, none⟩) (k % 3) 2, .int .i32 k])) (hg : w.grownBy w1 v.ownBlock) : CallsAt B w1 v' (k + 1) := by
  have hlen : es.length = 5 * k := by have := h1.1; omega
  refine ⟨_, hr, fun j hj => ?_⟩
  by_cases hlt : j < k
  · obtain ⟨a0, a1, a2, ⟨a', a3, a5⟩, a4⟩ := h2 j hlt
    rw [List.getElem?_append_left (by omega), List.getElem?_append_left (by omega), List.getElem?_append_left (by omega), List.getElem?_append_left (by omega), List.getElem?_append_left (by omega)]
    exact ⟨a0, a1, a2, ⟨a', a3, a5.kept hg (a5.not_row (by decide) h1)⟩, a4⟩
  · obtain rfl : j = k := by omega
    rw [List.getElem?_append_right (by omega), List.getElem?_append_right (by omega), List.getElem?_append_right (by omega), List.getElem?_append_right (by omega), List.getElem?_append_right (by omega), hlen]
    rw [show 5 * j - 5 * j = 0 by omega, show 5 * j + 1 - 5 * j = 1 by omega, show 5 * j + 2 - 5 * j = 2 by omega, show 5 * j + 3 - 5 * j = 3 by omega, show 5 * j + 4 - 5 * j = 4 by omega]
    exact ⟨rfl, rfl, rfl, ⟨a, rfl, ha.kept hg (ha.not_row (by decide) h1)⟩, rfl⟩
theorem calls_block {B : Nat} {w : World} {gB gR n c : Nat} {A : Option Addr} (hl : CallsAt B w (.slice A n c) n)
    (hB : Str w gB 34 [.slice none 0 0, .slice A n c, .int .i64 4, .slice (some ⟨gR, 0, none⟩) 1 1, .slice none 0 0, .int .i32 0]) (hR : w.cell? ⟨gR, 0, none⟩ = some (.int .i64 n)) :
    BlocksAt w (.slice (some ⟨gB, 0, none⟩) 1 1) (callsP n) := by
  obtain ⟨es, h1, h2⟩ := hl
  have hrow : RowAt w 5 InsAt (.slice A n c) ((List.range n).map callI) := by
    have hln : ((List.range n).map callI).length = n := by simp
    rcases h1.2 with ⟨e, h0⟩ | ⟨g, c', cur, e, _, _, hn, hm, _⟩
    · subst h0
      injection e with e1 e2 e3
      subst e1 e3
      exact rowAt_nil
    · injection e with e1 e2 e3
      subst e1 e3
      refine ⟨_, c, g, 0, by rw [hln], by rw [hln]; exact hn, hm, fun _ => rfl, fun k hk => ?_⟩
      rw [hln] at hk
      have hc : ∀ i, i < n * 5 → w.cell? ⟨g, i, none⟩ = es[i]? := fun i hi => World.ownsRow.cellAt h1 i hi
      obtain ⟨a0, a1, a2, ⟨a, a3, a5⟩, a4⟩ := h2 k hk
      rw [List.getElem_map, List.getElem_range, Nat.zero_add, Nat.mul_comm]
      refine ⟨by rw [hc _ (by omega)]; exact a0, by rw [hc _ (by omega)]; exact a1, by rw [hc _ (by omega)]; exact a2, ⟨_, by rw [hc _ (by omega)]; exact a3, ?_⟩, by rw [hc _ (by omega)]; exact a4⟩
      have hm3 : k % 3 < 3 := Nat.mod_lt _ (by omega)
      have hl2 : ([(k : Int), 0].take (k % 3)).length = k % 3 := by rw [List.length_take]; simp; omega
      refine ⟨_, 2, by show _ = Value.slice _ ([(k : Int), 0].take (k % 3)).length 2; rw [hl2], by show ([(k : Int), 0].take (k % 3)).length ≤ 2; omega, by unfold maxLen; omega, fun i hi => ⟨_, rfl, ?_⟩⟩
      have hi : i < ([(k : Int), 0].take (k % 3)).length := hi
      show w.cell? _ = some (.int .i64 ([(k : Int), 0].take (k % 3))[i])
      rw [List.getElem_take, at_add0, a5.cell i]
      have hi2 : i = 0 ∨ i = 1 := by omega
      rcases hi2 with rfl | rfl <;> rfl
  exact rowAt_lit ⟨⟨⟨_, hB.cell 0, rowAt_nil⟩, ⟨_, hB.cell 1, hrow⟩, hB.cell 2, ⟨_, hB.cell 3, one_int hR⟩, ⟨_, hB.cell 4, ints_none w⟩, hB.cell 5⟩, trivial⟩ rfl ⟨by omega, by omega⟩
theorem answer_w {nl : List Int} {v : Int} (hn : ∀ x ∈ nl, InW x) (hv : InW v) (i : Nat) : InW (answerV nl v i) := by
  unfold answerV
  split
  · exact hv
  · exact getD_w hn _
end Go.Proofs.Ytcangooibfddmaa.Ic
