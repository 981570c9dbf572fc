/- Stage 4: InterpSwitch's function, as it grows, and what its run tells. -/
import Derived.Test.YtcangooibfddmaaILawB
import Derived.Test.YtcangooibfddmaaIReach
namespace Go.Proofs.Ytcangooibfddmaa.Ic
open Go.Proofs.Ytcangooibfddmaa.Gn Go.Proofs.Ytcangooibfddmaa.Gc Go.Proofs.Ytcangooibfddmaa.Gl Go.ChangeShapes Go.WideShapes Go.ChangeAt Go.RowKit Go.Maps Go.Proofs.Ytcangooibfddmaa.Mem Go.Proofs.Ytcangooibfddmaa.Kc Go.Proofs.Ytcangooibfddmaa.Br Go.Proofs.Ytcangooibfddmaa.Pl Go.Proofs.Ytcangooibfddmaa.Gr
set_option linter.unusedVariables false
theorem switch_at (many j : Nat) (h : j < many + 1) : (switchP many)[j + 1]? = some ⟨[], [], ⟨5, [], [], (j : Int)⟩⟩ := by
  unfold switchP
  rw [List.getElem?_cons_succ, List.getElem?_map, List.getElem?_range h]; rfl
theorem switch_none (many j : Nat) (x : PBlock) (h : (switchP many)[j]? = some x) : (j = 0 ∧ x = ⟨[], [], ⟨3, [0], (List.range (many + 1)).map fun (i : Nat) => (i : Int) + 1, 0⟩⟩) ∨ ∃ i, j = i + 1 ∧ i < many + 1 ∧ x = ⟨[], [], ⟨5, [], [], (i : Int)⟩⟩ := by
  cases j with
  | zero => injection h with h; exact Or.inl ⟨rfl, h.symm⟩
  | succ i =>
    have hl : i + 1 < (switchP many).length := (List.getElem?_eq_some_iff.1 h).1
    rw [show (switchP many).length = many + 2 by simp [switchP]] at hl
    rw [switch_at many i (by omega)] at h
    injection h with h
    exact Or.inr ⟨i, rfl, by omega, h.symm⟩
theorem sum_ones : ∀ n : Nat, (List.replicate n 1).sum = n
  | 0 => rfl
  | n + 1 => by rw [List.replicate_succ, List.sum_cons, sum_ones n]; omega
theorem switch_size (many : Nat) : uptoP (switchP many) (switchP many).length = many + 2 := by
  unfold uptoP
  rw [List.take_length]
  unfold switchP
  rw [List.map_cons, List.map_map, List.sum_cons]
  have e : (sizeP ∘ fun (i : Nat) => (⟨[], [], ⟨5, [], [], (i : Int)⟩⟩ : PBlock)) = fun _ => 1 := by funext i; rfl
  rw [e, List.map_const', sum_ones]
  show 0 + 0 + 1 + _ = _
  simp
  omega
theorem switch_reach (many : Nat) : reachF (idomN (tidyN (rowsP (switchP many)))) = none := by
  have hl : (rowsP (switchP many)).length = many + 2 := by simp [rowsP, switchP]
  refine reach_all fun b h1 h2 => ?_
  rw [hl] at h2
  refine Gl.Way.step (Gl.Way.root (by omega) (by omega)) ?_ (by omega)
  unfold edgeB
  rw [Bool.and_eq_true]
  refine ⟨decide_eq_true ⟨by omega, by omega, by omega, by omega⟩, ?_⟩
  show ((rowsP (switchP many)).getD (0 : Int).toNat []).contains (b : Int) = true
  have e : (rowsP (switchP many)).getD (0 : Int).toNat [] = (List.range (many + 1)).map fun (i : Nat) => (i : Int) + 1 := rfl
  rw [e, List.contains_iff_mem, List.mem_map]
  exact ⟨b - 1, List.mem_range.2 (by omega), by omega⟩
theorem switch_right (many : Nat) (hm : 1 ≤ many ∧ many ≤ 64) : (checkN 1 (switchP many)).1 = 0 := by
  have hl : (switchP many).length = many + 2 := by simp [switchP]
  unfold checkN checkE funcE
  have h1 : limitsF 1 (switchP many) = none := by
    unfold limitsF
    rw [if_neg (by omega), if_neg (by omega), if_neg (by omega), if_neg (by rw [switch_size]; omega)]
  have h2 : overE (look1 1 (switchP many).length) (switchP many) (fun _ => none) = .ok (fun _ => none) := by
    unfold overE
    refine seqE_still _ _ fun j x hx => ?_
    rcases switch_none many j x hx with ⟨rfl, rfl⟩ | ⟨i, rfl, hi, rfl⟩
    · unfold blockE seqE
      simp only
      show termE _ _ _ _ _ _ _ = _
      unfold termE
      rw [if_pos (show endB 3 [(0 : Int)].length ((List.range (many + 1)).map fun (i : Nat) => (i : Int) + 1).length = true by
        simp [endB]; omega), if_neg]
      rw [Bool.not_eq_true, List.any_eq_false]
      intro y hy
      obtain ⟨q, hq, rfl⟩ := List.mem_map.1 hy
      rw [List.mem_range] at hq
      unfold toB
      rw [hl]
      simp
      omega
    · rfl
  rw [h1, h2, switch_reach]
  simp only
  have h3 : ∀ K, overE (look2 (switchP many) (lii (turnN (tidyN (rowsP (switchP many))))) (knownB 1 (fun _ => none) K)) (switchP many) () = .ok () := by
    intro K
    unfold overE
    refine seqE_still _ _ fun j x hx => ?_
    rcases switch_none many j x hx with ⟨rfl, rfl⟩ | ⟨i, rfl, hi, rfl⟩
    · rfl
    · rfl
  rw [h3]
  rfl
theorem switch_fit (many : Nat) (hm : 1 ≤ many ∧ many ≤ 64) : FitG (switchP many) ∧ WfP (switchP many) := by
  have hl : (switchP many).length = many + 2 := by simp [switchP]
  have hall : ∀ b ∈ switchP many, (b = ⟨[], [], ⟨3, [0], (List.range (many + 1)).map fun (i : Nat) => (i : Int) + 1, 0⟩⟩) ∨ ∃ i : Nat, i < many + 1 ∧ b = ⟨[], [], ⟨5, [], [], (i : Int)⟩⟩ := by
    intro b hb
    obtain ⟨j, hj, e⟩ := List.mem_iff_getElem.1 hb
    rcases switch_none many j b (by rw [List.getElem?_eq_getElem hj, e]) with ⟨_, h⟩ | ⟨i, _, hi, h⟩
    · exact Or.inl h
    · exact Or.inr ⟨i, hi, h⟩
  refine ⟨{
    pos := by omega
    ins := fun b hb i hi => by rcases hall b hb with rfl | ⟨j, _, rfl⟩ <;> cases hi
    term := fun b hb => by
      rcases hall b hb with rfl | ⟨j, _, rfl⟩
      · exact ⟨by simp [endB]; omega, in_small (by simp)⟩
      · exact ⟨rfl, in_small (by simp)⟩
    tos := fun b hb x hx => by
      rcases hall b hb with rfl | ⟨j, _, rfl⟩
      · obtain ⟨q, hq, rfl⟩ := List.mem_map.1 hx
        rw [List.mem_range] at hq
        omega
      · cases hx
    phis := fun b hb => by rcases hall b hb with rfl | ⟨j, _, rfl⟩ <;> exact ⟨by simp, fun p hp => by cases hp⟩
    zero := fun b hb => by
      rcases hall b (List.mem_of_getElem? hb) with rfl | ⟨j, _, rfl⟩ <;> rfl
    edge := fun a b c _ x _ hc => by
      rcases hall c (List.mem_of_getElem? hc) with rfl | ⟨j, _, rfl⟩ <;> exact fun p hp => by cases hp }, {
    phi := fun b hb p hp => by rcases hall b hb with rfl | ⟨j, _, rfl⟩ <;> cases hp
    ins := fun b hb i hi => by rcases hall b hb with rfl | ⟨j, _, rfl⟩ <;> cases hi
    term := fun b hb => by rcases hall b hb with rfl | ⟨j, _, rfl⟩ <;> exact in_small (by simp)
    size := fun k hk => Nat.le_trans (uptoP_le _ (switchP many).length k hk (Nat.le_refl _)) (by rw [switch_size]; omega) }⟩
theorem switch_len (many : Nat) : (switchP many).length = many + 2 := by simp [switchP]
theorem run_switch (w : World) (gB c : Nat) (many : Nat) (hm : 1 ≤ many ∧ many ≤ 64) (v : Int) (hv : InW v) (hb : BlocksAt w (.slice (some ⟨gB, 0, none⟩) (many + 2) c) (switchP many)) (av : Value) (hav : WordsAt w av [v]) :
    Calls Try.prog 19 #[.agg #[.int .i64 1, .slice (some ⟨gB, 0, none⟩) (many + 2) c], .agg #[av, .slice none 0 0, .slice none 0 0, .int .i64 2]] w
      (fun en w' => ∃ mem calls, Tells w.heap.size 2 (switchV many v) 2 mem calls w en w') := by
  obtain ⟨t, ht, hs⟩ := told_switch many 1 hm v hv (parV [v] 1) (parV0 _ _ _ (by omega)) ([].take 4096) 8
  have hl := switch_len many
  have hf := switch_fit many hm
  rw [← hl] at hb ⊢
  refine (run_gives w 1 (by omega) (some ⟨gB, 0, none⟩) gB c (switchP many) rfl hb hf.2 (switch_right many hm) (by omega) hf.1 av (.slice none 0 0) (.slice none 0 0) 2 (by omega) [v] [] [] hav (WordsAt.none_ w) (WordsAt.none_ w) (in1 hv) (by simp) (by simp) (by simp)).mono ?_
  intro e w' h
  have h := tells_of h
  rw [show (2 : Int).toNat + 1 = 1 + 2 from rfl, ht] at h
  rw [hs] at h
  exact ⟨_, _, h⟩
theorem info_block : (Try.prog.info? 34).map (fun i => (i.zero, i.size, i.bytes)) = some (some (.agg #[.slice none 0 0, .slice none 0 0, .int .i64 0, .slice none 0 0, .slice none 0 0, .int .i32 0]), 6, 112) := by kernel_rfl
theorem info_num : (Try.prog.info? 3).map (fun i => (i.zero, i.size, i.bytes)) = some (some (.int .i64 0), 1, 8) := by kernel_rfl
def trapCells (j : Nat) : List Value := [.slice none 0 0, .slice none 0 0, .int .i64 5, .slice none 0 0, .slice none 0 0, .int .i32 j]
def tosL (k : Nat) : List Int := (List.range k).map fun (i : Nat) => (i : Int) + 1
def headCells (gA : Nat) (vT : Value) : List Value := [.slice none 0 0, .slice none 0 0, .int .i64 3, .slice (some ⟨gA, 0, none⟩) 1 1, vT, .int .i32 0]
/-- The function, when k blocks are added, and t places to go to. -/
structure SwAt (B fb gA : Nat) (vB vT : Value) (k t : Nat) (w : World) : Prop where
  box : Str w fb 24 [.int .i64 1, vB]
  row : ∃ es, w.ownsRow B 34 6 vB (k + 1) es ∧ (∃ r, es = headCells gA vT ++ r) ∧ ∀ j, j < k → ∀ i, i < 6 → es[6 * (j + 1) + i]? = (trapCells j)[i]?
  tos : OwnInts B w vT (tosL t)
  arg : Str w gA 3 [.int .i64 0]
  far : B ≤ fb ∧ B ≤ gA
  apart : vT.ownBlock ≠ some gA
theorem SwAt.below {B fb gA : Nat} {vB vT : Value} {k t : Nat} {w w' : World} (h : SwAt B fb gA vB vT k t w) (hb : Below w.heap.size w w') : SwAt B fb gA vB vT k t w' := by
  obtain ⟨es, h1, h2⟩ := h.row
  exact ⟨h.box.below hb, ⟨es, own_below h1 hb, h2⟩, own_below h.tos hb, h.arg.below hb, h.far, h.apart⟩
theorem SwAt.form {B fb gA : Nat} {vB vT : Value} {k t : Nat} {w : World} (h : SwAt B fb gA vB vT k t w) : ∃ gB c, vB = .slice (some ⟨gB, 0, none⟩) (k + 1) c ∧ k + 1 ≤ c ∧ c ≤ maxLen ∧ w.cell? ⟨gB, 4, none⟩ = some vT ∧ w.frozen? ⟨gB, 4, none⟩ = false ∧ B ≤ gB ∧ gB < w.heap.size := by
  obtain ⟨es, h1, ⟨r, h2⟩, h3⟩ := h.row
  rcases h1.2 with ⟨e, h0⟩ | ⟨g, c, cur, rfl, hB, hg, hn, hm, _⟩
  · omega
  · refine ⟨g, c, rfl, hn, hm, ?_, World.ownsRow.frozenAt h1 4, hB, (h1.lt g rfl).2⟩
    rw [World.ownsRow.cellAt h1 4 (by omega), h2]
    rfl
/-- One place more to go to. -/
theorem SwAt.toed {B fb gA gB k t c n : Nat} {vT vT' : Value} {w w2 w3 : World} (h : SwAt B fb gA (.slice (some ⟨gB, 0, none⟩) n c) vT k t w) (hb : Below w.heap.size w w2) (hr : w3.ownsRow B 3 1 vT' ((tosL t).length + 1) ((tosL t).map (Value.int .i64) ++ [.int .i64 ((t : Int) + 1)])) (hg : w2.grownBy w3 vT.ownBlock) (hm : Moved w2 vT vT') :
    w3.cell? ⟨gB, 4, none⟩ = some vT ∧ w3.frozen? ⟨gB, 4, none⟩ = false ∧ w3.cell? ⟨fb, 1, none⟩ = some (.slice (some ⟨gB, 0, none⟩) n c) ∧ SwAt B fb gA (.slice (some ⟨gB, 0, none⟩) n c) vT' k (t + 1) (w3.setCell ⟨gB, 4, none⟩ vT') := by
  have h2 := h.below hb
  obtain ⟨es, h1, ⟨r, he⟩, h3⟩ := h2.row
  have hn : n = k + 1 := by
    rcases h1.2 with ⟨e, _⟩ | ⟨g, c', cur, e, _⟩
    · cases e
    · injection e
  subst hn
  have h1' := World.ownsRow.kept h1 hg (own_apart h1 h2.tos (by decide))
  obtain ⟨s1, s2⟩ := World.ownsRow.stored h1' 4 vT'
  have htl : (tosL t).length = t := by simp [tosL]
  have hbox := h2.box.kept hg (h2.box.not_row (by decide) h2.tos)
  have harg := h2.arg.kept hg (fun e => h2.apart e.symm)
  have hgA : gA < w2.heap.size := h2.arg.lt
  refine ⟨by rw [World.ownsRow.cellAt h1' 4 (by omega), he]; rfl, World.ownsRow.frozenAt h1' 4, hbox.cell 1, {
    box := hbox.kept s2 (hbox.not_row (by decide) h1')
    row := ⟨es.set 4 vT', s1, ⟨r, by rw [he]; rfl⟩, fun j hj i hi => by rw [List.getElem?_set_ne (by omega)]; exact h3 j hj i hi⟩
    tos := World.ownsRow.kept (show OwnInts B w3 vT' (tosL (t + 1)) by
      unfold OwnInts
      rw [show tosL (t + 1) = tosL t ++ [(t : Int) + 1] by unfold tosL; rw [List.range_succ, List.map_append]; rfl, List.length_append, List.map_append]
      exact hr) s2 (own_apart hr h1' (by decide))
    arg := harg.kept s2 (harg.not_row (by decide) h1')
    far := h.far
    apart := by
      rcases hm with ⟨_, e⟩ | ⟨g, e, hge⟩
      · rw [e]; exact h.apart
      · rw [e]; intro e'; injection e' with e'; omega }⟩
/-- One block more. -/
theorem SwAt.blocked {B fb gA k t : Nat} {vB vB' vT : Value} {w w2 w3 : World} (h : SwAt B fb gA vB vT k t w) (hb : Below w.heap.size w w2) {es : List Value} (h1 : w2.ownsRow B 34 6 vB (k + 1) es) (he : ∃ r, es = headCells gA vT ++ r) (h3 : ∀ j, j < k → ∀ i, i < 6 → es[6 * (j + 1) + i]? = (trapCells j)[i]?)
    (hr : w3.ownsRow B 34 6 vB' (k + 1 + 1) (es ++ trapCells k)) (hg : w2.grownBy w3 vB.ownBlock) : w3.cell? ⟨fb, 1, none⟩ = some vB ∧ w3.frozen? ⟨fb, 1, none⟩ = false ∧ SwAt B fb gA vB' vT (k + 1) t (w3.setCell ⟨fb, 1, none⟩ vB') := by
  have h2 := h.below hb
  obtain ⟨r, he⟩ := he
  have hlen : es.length = 6 * (k + 1) := by have := h1.1; omega
  have hbox := h2.box.kept hg (h2.box.not_row (by decide) h1)
  have hgs : w3.grownBy (w3.setCell ⟨fb, 1, none⟩ vB') (some fb) := setCell_grownBy w3 ⟨fb, 1, none⟩ vB'
  have ht := World.ownsRow.kept h2.tos hg (own_apart h2.tos h1 (by decide))
  have harg := h2.arg.kept hg (h2.arg.not_row (by decide) h1)
  have hne : gA ≠ fb := by
    intro e
    have h9 := h2.arg
    rw [e] at h9
    have h10 : w2.heap[fb]? = _ := h2.box
    rw [show w2.heap[fb]? = _ from h9] at h10
    injection h10 with h10
    injection h10 with _ h10
    exact absurd h10 (by decide)
  refine ⟨hbox.cell 1, hbox.frozen 1, {
    box := hbox.set 1 vB'
    row := ⟨es ++ trapCells k, World.ownsRow.kept hr hgs (by
        cases hv : vB'.ownBlock with
        | none => exact Or.inl rfl
        | some g =>
          right
          intro e
          injection e with e
          exact hbox.not_row (by decide) hr (by rw [hv, e])), ⟨r ++ trapCells k, by rw [he, List.append_assoc]⟩, fun j hj i hi => by
        by_cases hlt : j < k
        · rw [List.getElem?_append_left (by omega)]; exact h3 j hlt i hi
        · obtain rfl : j = k := by omega
          rw [List.getElem?_append_right (by omega), hlen, show 6 * (j + 1) + i - 6 * (j + 1) = i by omega]⟩
    tos := World.ownsRow.kept ht hgs (by
        cases hv : vT.ownBlock with
        | none => exact Or.inl rfl
        | some g =>
          right
          intro e
          injection e with e
          exact hbox.not_row (by decide) ht (by rw [hv, e]))
    arg := harg.kept hgs (fun e => hne (by injection e))
    far := h.far
    apart := h.apart }⟩
theorem SwAt.blocks {B fb gA : Nat} {vT : Value} {k c : Nat} {A : Option Addr} {w : World} (h : SwAt B fb gA (.slice A (k + 2) c) vT (k + 1) (k + 1) w) : ∃ gB, A = some ⟨gB, 0, none⟩ ∧ BlocksAt w (.slice (some ⟨gB, 0, none⟩) (k + 2) c) (switchP k) := by
  obtain ⟨es, h1, ⟨r, h2⟩, h3⟩ := h.row
  rcases h1.2 with ⟨e, h0⟩ | ⟨g, c', cur, e, _, _, hn, hm, _⟩
  · omega
  · injection e with e1 e2 e3
    subst e1 e3
    refine ⟨g, rfl, ?_⟩
    have hc : ∀ i, i < (k + 2) * 6 → w.cell? ⟨g, i, none⟩ = es[i]? := fun i hi => World.ownsRow.cellAt h1 i hi
    have hl := switch_len k
    refine ⟨_, c, g, 0, by rw [hl], by rw [hl]; exact hn, hm, fun _ => rfl, fun j hj => ?_⟩
    rw [hl] at hj
    cases j with
    | zero =>
      have hz : ∀ i, i < 6 → w.cell? ⟨g, i, none⟩ = [Value.slice none 0 0, .slice none 0 0, .int .i64 3, .slice (some ⟨gA, 0, none⟩) 1 1, vT, .int .i32 0][i]? := fun i hi => by
        rw [hc i (by omega), h2, List.getElem?_append_left (by show i < 6; exact hi)]; rfl
      refine ⟨⟨_, hz 0 (by omega), rowAt_nil⟩, ⟨_, hz 1 (by omega), rowAt_nil⟩, hz 2 (by omega), ⟨_, hz 3 (by omega), ints_lit (l := [0]) h.arg rfl ⟨by omega, by omega⟩⟩, ⟨_, hz 4 (by omega), h.tos.ints⟩, hz 5 (by omega)⟩
    | succ j =>
      have hz : ∀ i, i < 6 → w.cell? ⟨g, 0 + (j + 1) * 6 + i, none⟩ = (trapCells j)[i]? := fun i hi => by
        rw [hc _ (by omega), show 0 + (j + 1) * 6 + i = 6 * (j + 1) + i by omega]
        exact h3 j (by omega) i hi
      have e : (switchP k)[j + 1]'(by rw [hl]; exact hj) = ⟨[], [], ⟨5, [], [], (j : Int)⟩⟩ := by simp [switchP]
      rw [e]
      exact ⟨⟨_, hz 0 (by omega), rowAt_nil⟩, ⟨_, hz 1 (by omega), rowAt_nil⟩, hz 2 (by omega), ⟨_, hz 3 (by omega), ints_none w⟩, ⟨_, hz 4 (by omega), ints_none w⟩, hz 5 (by omega)⟩
end Go.Proofs.Ytcangooibfddmaa.Ic
