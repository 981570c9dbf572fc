/- CheckMany's function, as plain lists: what check tells of it. -/
import Derived.Test.YtkbcgcbjnccmmaaUC
import Derived.Test.YtkbcgcbjnccmmaaIReach
namespace Go.Proofs.Ytkbcgcbjnccmmaa.Kc
open Go.RowKit Go.Proofs.Ytkbcgcbjnccmmaa.Mem Go.Proofs.Ytkbcgcbjnccmmaa.Gr Go.Proofs.Ytkbcgcbjnccmmaa.Gn Go.Proofs.Ytkbcgcbjnccmmaa.Gc Go.Proofs.Ytkbcgcbjnccmmaa.Gl
set_option linter.unusedVariables false
def jumpP (j : Nat) : PBlock := ⟨[], [], ⟨1, [], [(j : Int) + 1], 0⟩⟩
def insM (more : Nat) : List PIns := (List.range more).map fun (i : Nat) => ⟨1, (i : Int), 0, [], 0⟩
def lastP (more : Nat) : PBlock := ⟨[], insM more, ⟨4, [], [], 0⟩⟩
/-- Blocks that each jump to the next one, and one with so many instructions. -/
def manyP (m more : Nat) : List PBlock := (List.range m).map jumpP ++ [lastP more]
theorem many_len (m more : Nat) : (manyP m more).length = m + 1 := by simp [manyP]
theorem insM_len (more : Nat) : (insM more).length = more := by simp [insM]
theorem insM_at {more i : Nat} (h : i < more) : (insM more)[i]? = some ⟨1, (i : Int), 0, [], 0⟩ := by
  unfold insM
  rw [List.getElem?_map, List.getElem?_range h]; rfl
theorem insM_get {more i : Nat} (h : i < (insM more).length) : (insM more)[i] = ⟨1, (i : Int), 0, [], 0⟩ := by
  have := insM_at (more := more) (i := i) (by rw [insM_len] at h; exact h)
  rw [List.getElem?_eq_getElem h] at this
  exact Option.some.inj this
theorem many_at {m more j : Nat} (h : j < m) : (manyP m more)[j]? = some (jumpP j) := by
  unfold manyP
  rw [List.getElem?_append_left (by simpa using h), List.getElem?_map, List.getElem?_range h]; rfl
theorem many_last (m more : Nat) : (manyP m more)[m]? = some (lastP more) := by
  unfold manyP
  rw [List.getElem?_append_right (by simp)]; simp
theorem many_kinds {m more j : Nat} {x : PBlock} (h : (manyP m more)[j]? = some x) : (j < m ∧ x = jumpP j) ∨ (j = m ∧ x = lastP more) := by
  have hl := (List.getElem?_eq_some_iff.1 h).1
  rw [many_len] at hl
  rcases Nat.lt_or_ge j m with h1 | h1
  · rw [many_at h1] at h; exact Or.inl ⟨h1, (Option.some.inj h).symm⟩
  · obtain rfl : j = m := by omega
    rw [many_last] at h; exact Or.inr ⟨rfl, (Option.some.inj h).symm⟩
theorem sum_onesM : ∀ n : Nat, (List.replicate n 1).sum = n
  | 0 => rfl
  | n + 1 => by rw [List.replicate_succ, List.sum_cons, sum_onesM n]; omega
theorem many_size (m more : Nat) : uptoP (manyP m more) (manyP m more).length = m + 1 + more := by
  unfold uptoP
  rw [List.take_length]
  unfold manyP
  rw [List.map_append, List.sum_append, List.map_map]
  have e : (sizeP ∘ jumpP) = fun _ => 1 := by funext i; rfl
  rw [e, List.map_const', sum_onesM]
  show _ + (0 + (insM more).length + 1 + 0) = _
  rw [insM_len, List.length_range]
  omega
theorem many_wf (m more : Nat) (hm : m ≤ 1000) (ho : more ≤ 5000) : WfP (manyP m more) := by
  have hall : ∀ x ∈ manyP m more, (∃ j, j < m ∧ x = jumpP j) ∨ x = lastP more := by
    intro x hx
    obtain ⟨j, hj, e⟩ := List.mem_iff_getElem.1 hx
    rcases many_kinds (by rw [List.getElem?_eq_getElem hj, e]) with ⟨h1, h2⟩ | ⟨_, h2⟩
    · exact Or.inl ⟨j, h1, h2⟩
    · exact Or.inr h2
  refine ⟨fun x hx p hp => ?_, fun x hx i hi => ?_, fun x hx v hv => ?_, fun k hk => ?_⟩
  · rcases hall x hx with ⟨j, _, rfl⟩ | rfl <;> cases hp
  · rcases hall x hx with ⟨j, _, rfl⟩ | rfl
    · cases hi
    · obtain ⟨q, hq, rfl⟩ := List.mem_map.1 hi
      rw [List.mem_range] at hq
      exact ⟨⟨by show (-9223372036854775808 : Int) ≤ (q : Int); omega, by show (q : Int) ≤ 9223372036854775807; omega⟩, ⟨by show (-9223372036854775808 : Int) ≤ 0; omega, by show (0 : Int) ≤ 9223372036854775807; omega⟩, fun v hv => by cases hv⟩
  · rcases hall x hx with ⟨j, _, rfl⟩ | rfl <;> cases hv
  · refine Nat.le_trans (uptoP_le _ _ _ hk (Nat.le_refl _)) ?_
    rw [many_size]; omega
theorem many_reach (m more : Nat) : reachF (idomN (tidyN (rowsP (manyP m more)))) = none := by
  have hl : (rowsP (manyP m more)).length = m + 1 := by unfold rowsP; rw [List.length_map, many_len]
  refine reach_all fun b _ h2 => ?_
  rw [hl] at h2
  have key : ∀ b, b < m + 1 → Gl.Way (rowsP (manyP m more)) (-1) b := by
    intro b
    induction b with
    | zero => intro _; exact Gl.Way.root (by omega) (by omega)
    | succ b ih =>
      intro hb
      refine Gl.Way.step (ih (by omega)) ?_ (by omega)
      unfold edgeB
      rw [Bool.and_eq_true]
      refine ⟨decide_eq_true ⟨by omega, by omega, by omega, by omega⟩, ?_⟩
      rw [Int.toNat_natCast]
      have e : (rowsP (manyP m more)).getD b [] = [(b : Int) + 1] := by
        unfold rowsP
        rw [List.getD_eq_getElem?_getD, List.getElem?_map, many_at (by omega)]; rfl
      rw [e]
      simp
  exact key b h2
def spotsM (m i : Nat) : Spots := fun y => if 0 ≤ y ∧ y < i then some ((m : Int), y) else none
theorem spots_zero (m : Nat) : spotsM m 0 = fun _ => none := by
  funext y
  unfold spotsM
  rw [if_neg (by omega)]
theorem spots_put (m i : Nat) : noted (spotsM m i) (i : Int) ((m : Int), (i : Int)) = spotsM m (i + 1) := by
  funext y
  unfold noted spotsM
  by_cases h : y = (i : Int)
  · subst h; rw [if_pos rfl, if_pos (by omega)]
  · rw [if_neg h]
    by_cases h1 : 0 ≤ y ∧ y < (i : Int)
    · rw [if_pos h1, if_pos (by omega)]
    · rw [if_neg h1, if_neg (by omega)]
theorem look_ins (m n i : Nat) (hi : i < 8192) : (look1 0 n).ins (m : Int) (i : Int) ⟨1, (i : Int), 0, [], 0⟩ (spotsM m i) = .ok (spotsM m (i + 1)) := by
  show insE 0 (m : Int) (i : Int) 1 (i : Int) 0 0 (spotsM m i) = _
  unfold insE
  rw [if_pos (show mayB 1 0 = true from by decide)]
  show noteE 0 (m : Int) (i : Int) [(i : Int)] (spotsM m i) = _
  unfold noteE
  rw [if_neg (by simp [outB]; omega)]
  unfold putE
  rw [if_neg (by unfold spotsM; rw [if_neg (by omega)]; simp)]
  unfold putE
  rw [spots_put]
theorem ins_seq (m n more : Nat) (ho : more ≤ 8192) : ∀ d k, k + d = more → seqE (fun (q : Nat) i => (look1 0 n).ins (m : Int) (q : Int) i) k ((insM more).drop k) (spotsM m k) = .ok (spotsM m more)
  | 0, k, h => by
    obtain rfl : k = more := by omega
    rw [List.drop_eq_nil_of_le (by rw [insM_len]; exact Nat.le_refl _)]; rfl
  | d + 1, k, h => by
    have hk : k < (insM more).length := by rw [insM_len]; omega
    rw [seqE_drop hk, insM_get hk, look_ins m n k (by omega)]
    exact ins_seq m n more ho d (k + 1) (by omega)
theorem seqE_two {σ α : Type} {h : Nat → α → σ → Except Fault σ} : ∀ (l : List α) (r : List α) (k : Nat) (s : σ), seqE h k (l ++ r) s = bindE (seqE h (k + l.length) r) (seqE h k l s)
  | [], r, k, s => rfl
  | x :: l, r, k, s => by
    show seqE h k (x :: (l ++ r)) s = bindE _ (seqE h k (x :: l) s)
    unfold seqE
    cases h k x s with
    | error e => rfl
    | ok s' =>
      have := seqE_two (h := h) l r (k + 1) s'
      rw [show k + (x :: l).length = k + 1 + l.length by rw [List.length_cons]; omega]
      exact this
theorem many_over {σ : Type} {L : Looks σ} {m more : Nat} {s s' : σ} (hj : ∀ j, j < m → L.term (j : Int) 0 ⟨1, [], [(j : Int) + 1], 0⟩ s = .ok s)
    (hi : seqE (fun (q : Nat) i => L.ins (m : Int) (q : Int) i) 0 (insM more) s = .ok s') (ht : L.term (m : Int) (more : Int) ⟨4, [], [], 0⟩ s' = .ok s') : overE L (manyP m more) s = .ok s' := by
  unfold overE manyP
  rw [seqE_two, seqE_still]
  · show seqE (blockE L) (0 + ((List.range m).map jumpP).length) [lastP more] s = _
    rw [List.length_map, List.length_range, Nat.zero_add]
    unfold seqE
    have e : blockE L m (lastP more) s = .ok s' := by
      rw [blockE_bind]
      show bindE (fun s1 => bindE (fun s2 => L.term (m : Int) ((insM more).length : Int) ⟨4, [], [], 0⟩ s2) (seqE (fun (q : Nat) i => L.ins (m : Int) (q : Int) i) 0 (insM more) s1)) (.ok s) = _
      show bindE (fun s2 => L.term (m : Int) ((insM more).length : Int) ⟨4, [], [], 0⟩ s2) (seqE (fun (q : Nat) i => L.ins (m : Int) (q : Int) i) 0 (insM more) s) = _
      rw [hi, insM_len]
      exact ht
    rw [e]
    rfl
  · intro j x hx
    have hl := (List.getElem?_eq_some_iff.1 hx).1
    rw [List.length_map, List.length_range] at hl
    rw [List.getElem?_map, List.getElem?_range hl] at hx
    injection hx with hx
    subst hx
    rw [Nat.zero_add]
    exact hj j hl
theorem many_right (m more : Nat) (hm : m + 1 ≤ 512) (ho : m + 1 + more ≤ 4096) : checkN 0 (manyP m more) = (0, 0, 0) := by
  have hl := many_len m more
  unfold checkN checkE funcE
  have h1 : limitsF 0 (manyP m more) = none := by
    unfold limitsF
    rw [if_neg (by omega), if_neg (by omega), if_neg (by omega), if_neg (by rw [many_size]; omega)]
  have h2 : overE (look1 0 (manyP m more).length) (manyP m more) (fun _ => none) = .ok (spotsM m more) := by
    rw [hl, ← spots_zero m]
    refine many_over (fun j hj => ?_) (ins_seq m (m + 1) more (by omega) more 0 (by omega)) rfl
    show termE (m + 1) (j : Int) 0 1 0 [(j : Int) + 1] _ = _
    unfold termE
    rw [if_pos (show endB 1 0 [(j : Int) + 1].length = true from (by decide : endB 1 0 1 = true)), if_neg (by simp [toB]; omega)]
  rw [h1, h2, many_reach]
  simp only
  have h3 : ∀ K, overE (look2 (manyP m more) (lii (turnN (tidyN (rowsP (manyP m more))))) (knownB 0 (spotsM m more) K)) (manyP m more) () = .ok () := by
    intro K
    refine many_over (fun j hj => rfl) ?_ rfl
    refine seqE_still _ _ fun j x hx => ?_
    have hj : j < more := by have := (List.getElem?_eq_some_iff.1 hx).1; rw [insM_len] at this; exact this
    rw [insM_at hj] at hx
    injection hx with hx
    subst hx
    rfl
  rw [h3]
  rfl
theorem many_wrong (m more : Nat) (h : 512 < m + 1 ∨ 4096 < m + 1 + more) : checkN 0 (manyP m more) = (2, 0, 0) := by
  have hl := many_len m more
  unfold checkN checkE funcE
  have h1 : limitsF 0 (manyP m more) = some (2, 0, 0) := by
    unfold limitsF
    rw [if_neg (by omega), if_neg (by omega)]
    by_cases h2 : 512 < (manyP m more).length
    · rw [if_pos h2]
    · rw [if_neg h2, if_pos (by rw [many_size]; omega)]
  rw [h1]
  rfl
theorem top_seq (m more : Nat) (ho : more ≤ 8192) : ∀ d k, k + d = more → seqE (fun (q : Nat) i => (lookM topF).ins (m : Int) (q : Int) i) k ((insM more).drop k) (k : Int) = .ok (more : Int)
  | 0, k, h => by
    obtain rfl : k = more := by omega
    rw [List.drop_eq_nil_of_le (by rw [insM_len]; exact Nat.le_refl _)]; rfl
  | d + 1, k, h => by
    have hk : k < (insM more).length := by rw [insM_len]; omega
    rw [seqE_drop hk, insM_get hk]
    have e : (lookM topF).ins (m : Int) (k : Int) ⟨1, (k : Int), 0, [], 0⟩ (k : Int) = .ok (((k + 1 : Nat) : Int)) := by
      show Except.ok (tellL topF (prodL 1 (k : Int) 0) ((m : Int), (k : Int)) (k : Int)) = _
      have e1 : prodL 1 (k : Int) 0 = [(k : Int)] := by unfold prodL; rw [if_neg (by decide), if_neg (by decide)]
      rw [e1]
      unfold tellL
      rw [List.foldl_cons, List.foldl_nil]
      unfold topF
      rw [if_pos (by omega), show max (k : Int) ((k : Int) + 1) = ((k + 1 : Nat) : Int) by omega]
    rw [e]
    exact top_seq m more ho d (k + 1) (by omega)
theorem many_top (m more : Nat) (ho : more ≤ 8192) : topN 0 (manyP m more) = (more : Int) := by
  have h : overE (lookM topF) (manyP m more) 0 = .ok (more : Int) := many_over (fun j hj => rfl) (top_seq m more ho more 0 (by omega)) rfl
  unfold topN madeS
  show outE _ (overE (lookM topF) (manyP m more) 0) = _
  rw [h]
  rfl
end Go.Proofs.Ytkbcgcbjnccmmaa.Kc
