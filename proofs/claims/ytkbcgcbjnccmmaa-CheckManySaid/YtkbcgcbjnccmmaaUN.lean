/- CheckMany's function in memory, as it grows. -/
import Derived.Test.YtkbcgcbjnccmmaaUM
import Derived.Test.YtkbcgcbjnccmmaaUD
namespace Go.Proofs.Ytkbcgcbjnccmmaa.Kc
open Go.ChangeShapes Go.WideShapes Go.ChangeAt Go.RowKit Go.Maps Go.Proofs.Ytkbcgcbjnccmmaa.Mem Go.Proofs.Ytkbcgcbjnccmmaa.Br Go.Proofs.Ytkbcgcbjnccmmaa.Gr
set_option linter.unusedVariables false
theorem info_block : (Try.prog.info? 34).map (fun i => (i.zero, i.size, i.bytes)) = some (some (.agg #[.slice none 0 0, .slice none 0 0, .int .i64 0, .slice none 0 0, .slice none 0 0, .int .i32 0]), 6, 112) := by kernel_rfl
theorem info_ins : (Try.prog.info? 36).map (fun i => (i.zero, i.size, i.bytes)) = some (some (.agg #[.int .i64 0, .int .i64 0, .int .i64 0, .slice none 0 0, .int .i32 0]), 5, 56) := by kernel_rfl
theorem below_own {w w1 w2 : World} {v : Value} (hb : Below w.heap.size w w1) (hg : w1.grownBy w2 v.ownBlock) (hv : ∀ g, v.ownBlock = some g → w.heap.size ≤ g) : Below w.heap.size w w2 :=
  hb.trans ⟨hg.os, hg.tape, hg.output, hg.size, fun k hk => hg.block k (Nat.lt_of_lt_of_le hk hb.size) (fun e => by have := hv k e.symm; omega)⟩
def cellsJ (vT : Value) (kind : Int) : List Value := [.slice none 0 0, .slice none 0 0, .int .i64 kind, .slice none 0 0, vT, .int .i32 0]
/-- What lies in block j's cells but its second one, which holds its instructions. -/
def ToCells (w : World) (es : List Value) (n j : Nat) (vI : Value) : Prop :=
  (j + 1 < n ∧ vI = .slice none 0 0 ∧ ∃ g, Str w g 3 [.int .i64 ((j : Int) + 1)] ∧ ∀ i, i < 6 → es[6 * j + i]? = (cellsJ (.slice (some ⟨g, 0, none⟩) 1 1) 1)[i]?) ∨
  (j + 1 = n ∧ ∀ i, i < 6 → es[6 * j + i]? = [Value.slice none 0 0, vI, .int .i64 4, .slice none 0 0, .slice none 0 0, .int .i32 0][i]?)
theorem ToCells.grown {w w' : World} {es : List Value} {n j : Nat} {vI : Value} (h : ToCells w es n j vI) (hk : ∀ g x, Str w g 3 [.int .i64 x] → Str w' g 3 [.int .i64 x]) : ToCells w' es n j vI := by
  rcases h with ⟨h1, h2, g, h3, h4⟩ | h
  · exact Or.inl ⟨h1, h2, g, hk _ _ h3, h4⟩
  · exact Or.inr h
theorem ToCells.row {w : World} {es es' : List Value} {n j : Nat} {vI : Value} (h : ToCells w es n j vI) (he : ∀ i, i < 6 → es'[6 * j + i]? = es[6 * j + i]?) : ToCells w es' n j vI := by
  rcases h with ⟨h1, h2, g, h3, h4⟩ | ⟨h1, h2⟩
  · exact Or.inl ⟨h1, h2, g, h3, fun i hi => by rw [he i hi]; exact h4 i hi⟩
  · exact Or.inr ⟨h1, fun i hi => by rw [he i hi]; exact h2 i hi⟩
structure ManyAt (B fb n k : Nat) (vB : Value) (w : World) : Prop where
  box : Str w fb 24 [.int .i64 0, vB]
  row : ∃ es, w.ownsRow B 34 6 vB k es ∧ ∀ j, j < k → ToCells w es n j (.slice none 0 0)
  far : B ≤ fb
theorem ManyAt.below {B fb n k : Nat} {vB : Value} {w w' : World} (h : ManyAt B fb n k vB w) (hb : Below w.heap.size w w') : ManyAt B fb n k vB w' := by
  obtain ⟨es, h1, h2⟩ := h.row
  exact ⟨h.box.below hb, ⟨es, own_below h1 hb, fun j hj => (h2 j hj).grown (fun g x hs => hs.below hb)⟩, h.far⟩
/-- One block more. -/
theorem ManyAt.blocked {B fb n k : Nat} {vB vB' : Value} {w2 w3 : World} {new : List Value} {es : List Value} (hbox : Str w2 fb 24 [.int .i64 0, vB]) (hfar : B ≤ fb) (h1 : w2.ownsRow B 34 6 vB k es) (h2 : ∀ j, j < k → ToCells w2 es n j (.slice none 0 0))
    (hnew : ToCells w2 (es ++ new) n k (.slice none 0 0)) (hl : new.length = 6)
    (hr : w3.ownsRow B 34 6 vB' (k + 1) (es ++ new)) (hg : w2.grownBy w3 vB.ownBlock) : w3.cell? ⟨fb, 1, none⟩ = some vB ∧ w3.frozen? ⟨fb, 1, none⟩ = false ∧ ManyAt B fb n (k + 1) vB' (w3.setCell ⟨fb, 1, none⟩ vB') := by
  have hlen : es.length = 6 * k := by have := h1.1; omega
  have hbox3 := hbox.kept hg (hbox.not_row (by decide) h1)
  have hgs : w3.grownBy (w3.setCell ⟨fb, 1, none⟩ vB') (some fb) := setCell_grownBy w3 ⟨fb, 1, none⟩ vB'
  have key : ∀ g x, Str w2 g 3 [.int .i64 x] → Str (w3.setCell ⟨fb, 1, none⟩ vB') g 3 [.int .i64 x] := by
    intro g x hs
    have hs3 := hs.kept hg (hs.not_row (by decide) h1)
    refine hs3.kept hgs (fun e => ?_)
    injection e with e
    subst e
    have e1 : w3.heap[g]? = _ := hs3
    rw [show w3.heap[g]? = _ from hbox3] at e1
    injection e1 with e1
    injection e1 with _ e1
    exact absurd e1 (by decide)
  refine ⟨hbox3.cell 1, hbox3.frozen 1, {
    box := hbox3.set 1 vB'
    row := ⟨es ++ new, World.ownsRow.kept hr hgs (by
        cases hv : vB'.ownBlock with
        | none => exact Or.inl rfl
        | some g =>
          right
          intro e
          injection e with e
          exact hbox3.not_row (by decide) hr (by rw [hv, e])), fun j hj => ?_⟩
    far := hfar }⟩
  by_cases hlt : j < k
  · exact ((h2 j hlt).row (fun i hi => by rw [List.getElem?_append_left (by omega)])).grown key
  · obtain rfl : j = k := by omega
    exact hnew.grown key
def insCells (m : Nat) : List Value := (List.range m).flatMap fun (i : Nat) => [Value.int .i64 1, .int .i64 (i : Int), .int .i64 0, .slice none 0 0, .int .i32 0]
theorem insCells_len : ∀ m, (insCells m).length = 5 * m
  | 0 => rfl
  | m + 1 => by
    unfold insCells
    rw [List.range_succ, List.flatMap_append, List.length_append]
    have := insCells_len m
    unfold insCells at this
    rw [this]
    simp
    omega
theorem insCells_succ (m : Nat) : insCells (m + 1) = insCells m ++ [Value.int .i64 1, .int .i64 (m : Int), .int .i64 0, .slice none 0 0, .int .i32 0] := by
  unfold insCells
  rw [List.range_succ, List.flatMap_append]
  simp
theorem insCells_at : ∀ (m j i : Nat), j < m → i < 5 → (insCells m)[5 * j + i]? = [Value.int .i64 1, .int .i64 (j : Int), .int .i64 0, .slice none 0 0, .int .i32 0][i]?
  | 0, j, i, h, _ => by omega
  | m + 1, j, i, h, hi => by
    rw [insCells_succ]
    rcases Nat.lt_or_ge j m with h1 | h1
    · rw [List.getElem?_append_left (by rw [insCells_len]; omega)]
      exact insCells_at m j i h1 hi
    · obtain rfl : j = m := by omega
      rw [List.getElem?_append_right (by rw [insCells_len]; omega), insCells_len, show 5 * j + i - 5 * j = i by omega]
/-- All blocks are there; instructions come to the last one. -/
structure MoreAt (B fb n m gB c : Nat) (vI : Value) (w : World) : Prop where
  box : Str w fb 24 [.int .i64 0, .slice (some ⟨gB, 0, none⟩) n c]
  row : ∃ es, w.ownsRow B 34 6 (.slice (some ⟨gB, 0, none⟩) n c) n es ∧ ∀ j, j < n → ToCells w es n j (if j + 1 = n then vI else .slice none 0 0)
  ins : w.ownsRow B 36 5 vI m (insCells m)
  far : B ≤ fb
theorem MoreAt.below {B fb n m gB c : Nat} {vI : Value} {w w' : World} (h : MoreAt B fb n m gB c vI w) (hb : Below w.heap.size w w') : MoreAt B fb n m gB c vI w' := by
  obtain ⟨es, h1, h2⟩ := h.row
  exact ⟨h.box.below hb, ⟨es, own_below h1 hb, fun j hj => (h2 j hj).grown (fun g x hs => hs.below hb)⟩, own_below h.ins hb, h.far⟩
theorem ManyAt.more {B fb n : Nat} {vB : Value} {w : World} (h : ManyAt B fb n n vB w) (hn : 0 < n) : ∃ gB c, vB = .slice (some ⟨gB, 0, none⟩) n c ∧ n ≤ c ∧ c ≤ maxLen ∧ B ≤ gB ∧ MoreAt B fb n 0 gB c (.slice none 0 0) w := by
  obtain ⟨es, h1, h2⟩ := h.row
  have h1' := h1
  rcases h1.2 with ⟨_, h0⟩ | ⟨g, c, cur, rfl, hB, hg, hcn, hm, _⟩
  · omega
  · exact ⟨g, c, rfl, hcn, hm, hB, h.box, ⟨es, h1', fun j hj => by split <;> exact h2 j hj⟩, World.ownsRow_nil _ _ _ _, h.far⟩
theorem MoreAt.form {B fb n m gB c : Nat} {vI : Value} {w : World} (h : MoreAt B fb n m gB c vI w) (hn : 0 < n) : w.cell? ⟨gB, (n - 1) * 6 + 1, none⟩ = some vI ∧ w.frozen? ⟨gB, (n - 1) * 6 + 1, none⟩ = false ∧ w.cell? ⟨fb, 1, none⟩ = some (.slice (some ⟨gB, 0, none⟩) n c) := by
  obtain ⟨es, h1, h2⟩ := h.row
  refine ⟨?_, World.ownsRow.frozenAt h1 _, h.box.cell 1⟩
  rw [World.ownsRow.cellAt h1 _ (by omega)]
  have h3 := h2 (n - 1) (by omega)
  rw [if_pos (by omega)] at h3
  rcases h3 with ⟨h4, _⟩ | ⟨_, h4⟩
  · omega
  · rw [Nat.mul_comm]; exact h4 1 (by omega)
/-- One instruction more. -/
theorem MoreAt.pushed {B fb n m gB c : Nat} {vI vI' : Value} {w2 w3 : World} (h : MoreAt B fb n m gB c vI w2) (hn : 0 < n) (hr : w3.ownsRow B 36 5 vI' (m + 1) (insCells m ++ [Value.int .i64 1, .int .i64 (m : Int), .int .i64 0, .slice none 0 0, .int .i32 0])) (hg : w2.grownBy w3 vI.ownBlock) :
    w3.cell? ⟨gB, (n - 1) * 6 + 1, none⟩ = some vI ∧ w3.frozen? ⟨gB, (n - 1) * 6 + 1, none⟩ = false ∧ w3.cell? ⟨fb, 1, none⟩ = some (.slice (some ⟨gB, 0, none⟩) n c) ∧ MoreAt B fb n (m + 1) gB c vI' (w3.setCell ⟨gB, (n - 1) * 6 + 1, none⟩ vI') := by
  obtain ⟨es, h1, h2⟩ := h.row
  have h1' := World.ownsRow.kept h1 hg (own_apart h1 h.ins (by decide))
  have hbox := h.box.kept hg (h.box.not_row (by decide) h.ins)
  have h3 : MoreAt B fb n m gB c vI w2 := h
  obtain ⟨s1, s2⟩ := World.ownsRow.stored h1' ((n - 1) * 6 + 1) vI'
  have hlen : es.length = n * 6 := h1.1
  have key : ∀ g x, Str w2 g 3 [.int .i64 x] → Str (w3.setCell ⟨gB, (n - 1) * 6 + 1, none⟩ vI') g 3 [.int .i64 x] := by
    intro g x hs
    have hs3 := hs.kept hg (hs.not_row (by decide) h.ins)
    exact hs3.kept s2 (hs3.not_row (by decide) h1')
  refine ⟨?_, World.ownsRow.frozenAt h1' _, hbox.cell 1, {
    box := hbox.kept s2 (hbox.not_row (by decide) h1')
    row := ⟨es.set ((n - 1) * 6 + 1) vI', s1, fun j hj => ?_⟩
    ins := World.ownsRow.kept (by rw [insCells_succ]; exact hr) s2 (own_apart hr h1' (by decide))
    far := h.far }⟩
  · rw [World.ownsRow.cellAt h1' _ (by omega)]
    have h3 := h2 (n - 1) (by omega)
    rw [if_pos (by omega)] at h3
    rcases h3 with ⟨h4, _⟩ | ⟨_, h4⟩
    · omega
    · rw [Nat.mul_comm]; exact h4 1 (by omega)
  · by_cases hj2 : j + 1 = n
    · rw [if_pos hj2]
      have h3 := h2 j hj
      rw [if_pos hj2] at h3
      rcases h3 with ⟨h4, _⟩ | ⟨_, h4⟩
      · omega
      · refine Or.inr ⟨hj2, fun i hi => ?_⟩
        have hn1 : n - 1 = j := by omega
        rw [hn1, Nat.mul_comm j 6]
        by_cases hi1 : i = 1
        · subst hi1
          rw [List.getElem?_set_self (by omega)]; rfl
        · rw [List.getElem?_set_ne (by omega), h4 i hi]
          match i, hi, hi1 with
          | 0, _, _ => rfl
          | 2, _, _ => rfl
          | 3, _, _ => rfl
          | 4, _, _ => rfl
          | 5, _, _ => rfl
    · have h3 := h2 j hj
      rw [if_neg hj2] at h3 ⊢
      refine (h3.row (fun i hi => ?_)).grown key
      rw [List.getElem?_set_ne (by omega)]
theorem MoreAt.blocks {B fb m more gB c : Nat} {vI : Value} {w : World} (h : MoreAt B fb (m + 1) more gB c vI w) : BlocksAt w (.slice (some ⟨gB, 0, none⟩) (m + 1) c) (manyP m more) := by
  obtain ⟨es, h1, h2⟩ := h.row
  rcases h1.2 with ⟨e, h0⟩ | ⟨g, c', cur, e, _, _, hn, hm, _⟩
  · omega
  · injection e with e1 e2 e3
    injection e1 with e1
    injection e1 with e1
    subst e1 e3
    have hc : ∀ i, i < (m + 1) * 6 → w.cell? ⟨gB, i, none⟩ = es[i]? := fun i hi => World.ownsRow.cellAt h1 i hi
    have hl := many_len m more
    refine ⟨_, c, gB, 0, by rw [hl], by rw [hl]; exact hn, hm, fun _ => rfl, fun j hj => ?_⟩
    rw [hl] at hj
    have hz : ∀ i, i < 6 → w.cell? ⟨gB, 0 + j * 6 + i, none⟩ = es[6 * j + i]? := fun i hi => by
      rw [hc _ (by omega), show 0 + j * 6 + i = 6 * j + i by omega]
    rcases h2 j hj with ⟨h3, h4, g, h5, h6⟩ | ⟨h3, h4⟩
    · have e : (manyP m more)[j]'(by rw [hl]; exact hj) = jumpP j := by
        have := many_at (m := m) (more := more) (j := j) (by omega)
        rw [List.getElem?_eq_getElem (by rw [hl]; exact hj)] at this
        exact Option.some.inj this
      rw [e]
      have hq : ∀ i, i < 6 → w.cell? ⟨gB, 0 + j * 6 + i, none⟩ = (cellsJ (.slice (some ⟨g, 0, none⟩) 1 1) 1)[i]? := fun i hi => (hz i hi).trans (h6 i hi)
      exact ⟨⟨_, hq 0 (by omega), rowAt_nil⟩, ⟨_, hq 1 (by omega), rowAt_nil⟩, hq 2 (by omega), ⟨_, hq 3 (by omega), ints_none w⟩, ⟨_, hq 4 (by omega), ints_lit (l := [(j : Int) + 1]) h5 rfl ⟨by omega, by omega⟩⟩, hq 5 (by omega)⟩
    · obtain rfl : j = m := by omega
      have e : (manyP j more)[j]'(by rw [hl]; exact hj) = lastP more := by
        have := many_last j more
        rw [List.getElem?_eq_getElem (by rw [hl]; exact hj)] at this
        exact Option.some.inj this
      rw [e]
      rw [if_pos rfl] at h4
      have hq : ∀ i, i < 6 → w.cell? ⟨gB, 0 + j * 6 + i, none⟩ = [Value.slice none 0 0, vI, .int .i64 4, .slice none 0 0, .slice none 0 0, .int .i32 0][i]? := fun i hi => (hz i hi).trans (h4 i hi)
      refine ⟨⟨_, hq 0 (by omega), rowAt_nil⟩, ⟨_, hq 1 (by omega), ?_⟩, hq 2 (by omega), ⟨_, hq 3 (by omega), ints_none w⟩, ⟨_, hq 4 (by omega), ints_none w⟩, hq 5 (by omega)⟩
      have hi := h.ins
      rcases hi.2 with ⟨e1, h0⟩ | ⟨g, c', cur, e1, _, _, hn2, hm2, _⟩
      · subst h0
        rw [e1]
        exact rowAt_nil
      · subst e1
        refine ⟨some ⟨g, 0, none⟩, c', g, 0, by show _ = Value.slice _ (insM more).length _; rw [insM_len], by show (insM more).length ≤ _; rw [insM_len]; exact hn2, hm2, fun _ => rfl, fun k hk => ?_⟩
        have hk' : k < more := by change k < (insM more).length at hk; rw [insM_len] at hk; exact hk
        show InsAt w g (0 + k * 5) ((insM more)[k]'(by rw [insM_len]; exact hk'))
        rw [insM_get]
        have hp : ∀ i, i < 5 → w.cell? ⟨g, 0 + k * 5 + i, none⟩ = [Value.int .i64 1, .int .i64 (k : Int), .int .i64 0, .slice none 0 0, .int .i32 0][i]? := fun i hi2 => by
          rw [World.ownsRow.cellAt hi _ (by omega), show 0 + k * 5 + i = 5 * k + i by omega]
          exact insCells_at more k i hk' hi2
        exact ⟨hp 0 (by omega), hp 1 (by omega), hp 2 (by omega), ⟨_, hp 3 (by omega), ints_none w⟩, hp 4 (by omega)⟩
end Go.Proofs.Ytkbcgcbjnccmmaa.Kc
