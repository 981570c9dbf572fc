/- The turned graph's rows; what a walk of a neat graph has. Plain mathematics. -/
import Derived.Test.YtdfehpcbcgbidaaDfs
import Derived.Test.YtdfehpcbcgbidaaTurned
import Derived.Test.YtdfehpcbcgbidaaOrder
namespace Go.Proofs.Ytdfehpcbcgbidaa.Gn
open Go.Proofs.Ytdfehpcbcgbidaa.Gc
set_option linter.unusedVariables false

/-- Rows of blocks, rising. -/
structure Neat (T : G) : Prop where
  ok : Ok T
  up : ∀ i (h : i < T.length), T[i].Pairwise (· < ·)
theorem Neat.row {T : G} (h : Neat T) (i : Nat) : (T.getD i []).Pairwise (· < ·) ∧ ∀ b ∈ T.getD i [], b < T.length := by
  by_cases hi : i < T.length
  · rw [List.getD_eq_getElem?_getD, List.getElem?_eq_getElem hi]; exact ⟨h.up i hi, h.ok i hi⟩
  · rw [List.getD_eq_getElem?_getD, List.getElem?_eq_none (by omega)]; exact ⟨List.Pairwise.nil, fun b hb => by cases hb⟩
theorem Neat.src {T : G} {a b : Nat} (hb : b ∈ T.getD a []) : a < T.length := by
  by_cases hi : a < T.length
  · exact hi
  · rw [List.getD_eq_getElem?_getD, List.getElem?_eq_none (by omega)] at hb; cases hb
theorem range_filter_up (n : Nat) (p : Nat → Bool) : ((List.range n).filter p).Pairwise (· < ·) := List.Pairwise.filter _ List.pairwise_lt_range
theorem tidyN_neat (g : List (List Int)) : Neat (tidyN g) := ⟨tidyN_ok g, fun i h => by
  have h1 : i < g.length := by rw [tidyN_len] at h; exact h
  rw [at_of (tidyN_get h1) h]
  exact range_filter_up _ _⟩
theorem turnStep_len (R : G) (e : Nat × Nat) : (turnStep R e).length = R.length := by unfold turnStep; rw [List.length_set]
theorem turnFold_get (n : Nat) : ∀ (es : List (Nat × Nat)) (R : G) (b : Nat), b < R.length → (es.foldl turnStep R).getD b [] = R.getD b [] ++ (es.filter fun e => e.2 == b).map (·.1) := by
  intro es
  induction es with
  | nil => intro R b hb; simp
  | cons e es ih =>
    intro R b hb
    rw [List.foldl_cons, ih _ _ (by rw [turnStep_len]; exact hb)]
    unfold turnStep
    rw [getD_set]
    by_cases h : e.2 = b
    · rw [if_pos ⟨h, by omega⟩, h, List.filter_cons, if_pos (by rw [h]; exact beq_self_eq_true b), List.map_cons, List.append_assoc]
      rfl
    · rw [if_neg (fun x => h x.1), List.filter_cons, if_neg (by rw [beq_iff_eq]; exact h)]
theorem turnAll_get {n : Nat} (es : List (Nat × Nat)) {b : Nat} (hb : b < n) : (turnAll n es).getD b [] = (es.filter fun e => e.2 == b).map (·.1) := by
  unfold turnAll
  rw [turnFold_get n _ _ _ (by rw [List.length_replicate]; exact hb)]
  simp [List.getD_eq_getElem?_getD, hb]
theorem filter_one {l : List Nat} (h : l.Pairwise (· < ·)) (b : Nat) : (l.filter fun x => x == b) = if b ∈ l then [b] else [] := by
  induction l with
  | nil => rfl
  | cons x l ih =>
    rw [List.pairwise_cons] at h
    rw [List.filter_cons, ih h.2]
    by_cases e : x = b
    · subst e
      rw [if_pos (beq_self_eq_true x), if_neg (fun hx => Nat.lt_irrefl _ (h.1 x hx)), if_pos (List.mem_cons_self ..)]
    · rw [if_neg (by rw [beq_iff_eq]; exact e)]
      by_cases hb : b ∈ l
      · rw [if_pos hb, if_pos (List.mem_cons_of_mem _ hb)]
      · rw [if_neg hb, if_neg (fun hx => by rcases List.mem_cons.1 hx with h1 | h1; exact e h1.symm; exact hb h1)]
theorem edgesTo_filter {T : G} (hT : Neat T) (b : Nat) : ∀ k, ((edgesTo T k).filter fun e => e.2 == b).map (·.1) = (List.range k).filter fun a => (T.getD a []).contains b
  | 0 => rfl
  | k + 1 => by
    rw [edgesTo_succ, List.filter_append, List.map_append, edgesTo_filter hT b k, List.range_succ, List.filter_append]
    congr 1
    unfold rowEdges
    rw [List.filter_map, List.map_map]
    have := filter_one (hT.row k).1 b
    show List.map _ (List.filter (fun x => x == b) _) = _
    rw [this, List.filter_cons]
    by_cases hb : b ∈ T.getD k []
    · rw [if_pos hb, if_pos (List.contains_iff_mem.2 hb)]; rfl
    · rw [if_neg hb, if_neg (fun h => hb (List.contains_iff_mem.1 h))]; rfl
theorem turnN_len (T : G) : (turnN T).length = T.length := turnAll_len _ _
theorem turnN_row {T : G} (hT : Neat T) {b : Nat} (hb : b < T.length) : (turnN T).getD b [] = (List.range T.length).filter fun a => (T.getD a []).contains b := by
  unfold turnN
  rw [turnAll_get _ hb]
  exact edgesTo_filter hT b T.length
theorem mem_turnN {T : G} (hT : Neat T) {a b : Nat} : a ∈ (turnN T).getD b [] ↔ b ∈ T.getD a [] := by
  by_cases hb : b < T.length
  · rw [turnN_row hT hb, List.mem_filter, List.mem_range, List.contains_iff_mem]
    exact ⟨fun h => h.2, fun h => ⟨Neat.src h, h⟩⟩
  · constructor
    · intro h; have := Neat.src h; rw [turnN_len] at this; exact absurd this hb
    · intro h; exact absurd ((hT.row a).2 b h) hb
theorem turnN_neat {T : G} (hT : Neat T) : Neat (turnN T) := by
  refine ⟨fun i h b hb => ?_, fun i h => ?_⟩
  · have h1 := h; rw [turnN_len] at h1
    have h2 : (turnN T)[i] = (turnN T).getD i [] := by rw [List.getD_eq_getElem?_getD, List.getElem?_eq_getElem h]; rfl
    rw [h2, turnN_row hT h1, List.mem_filter, List.mem_range] at hb
    rw [turnN_len]; exact hb.1
  · have h1 := h; rw [turnN_len] at h1
    have h2 : (turnN T)[i] = (turnN T).getD i [] := by rw [List.getD_eq_getElem?_getD, List.getElem?_eq_getElem h]; rfl
    rw [h2, turnN_row hT h1]
    exact range_filter_up _ _
theorem turnN_small {T : G} (hT : Neat T) (hs : T.length ≤ 1000) : Small (lii (turnN T)) := by
  refine ⟨by rw [lii_len, turnN_len]; exact hs, fun i h => ?_⟩
  have h1 : i < (turnN T).length := by rw [lii_len] at h; exact h
  have h2 := h1; rw [turnN_len] at h2
  have h3 : (turnN T)[i] = (turnN T).getD i [] := by rw [List.getD_eq_getElem?_getD, List.getElem?_eq_getElem h1]; rfl
  rw [lii_at h1 h, li_len, h3, turnN_row hT h2]
  exact Nat.le_trans (List.length_filter_le _ _) (by rw [List.length_range]; exact hs)
theorem turnN_turnN {T : G} (hT : Neat T) : turnN (turnN T) = T := by
  apply List.ext_getElem (by rw [turnN_len, turnN_len])
  intro i h1 h2
  have h3 : (turnN (turnN T))[i] = (turnN (turnN T)).getD i [] := by rw [List.getD_eq_getElem?_getD, List.getElem?_eq_getElem h1]; rfl
  have h4 : T[i] = T.getD i [] := by rw [List.getD_eq_getElem?_getD, List.getElem?_eq_getElem h2]; rfl
  have h5 := ((turnN_neat (turnN_neat hT)).row i).1
  rw [h3, h4]
  have hT4 := (hT.row i).1
  have hm : ∀ x, x ∈ (turnN (turnN T)).getD i [] ↔ x ∈ T.getD i [] := fun x => by rw [mem_turnN (turnN_neat hT), mem_turnN hT]
  generalize (turnN (turnN T)).getD i [] = l at *
  generalize T.getD i [] = k at *
  have := sorted_eq (li_pairwise h5) (li_pairwise hT4) (fun x => by
    rw [mem_li, mem_li]
    constructor
    · rintro ⟨b, hb, e⟩; exact ⟨b, (hm b).1 hb, e⟩
    · rintro ⟨b, hb, e⟩; exact ⟨b, (hm b).2 hb, e⟩)
  unfold li at this
  exact (List.map_inj_right (fun a b e => Int.ofNat.inj e)).1 this
theorem walkN_none {T : G} (h : T.length = 0) : walkN T = St.none 0 := by unfold walkN; rw [if_neg (by omega)]
end Go.Proofs.Ytdfehpcbcgbidaa.Gn
