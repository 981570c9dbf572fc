/- Climbing, and making the ways shorter: what it keeps. Plain mathematics. -/
import Derived.Test.YtdfehpcbcgbidaaPure
namespace Go.Proofs.Ytdfehpcbcgbidaa.Gn
set_option linter.unusedVariables false

/-- All that a climber names is in range. -/
structure InR (k : Nat) (c : Cl) : Prop where
  up : c.up.length = k
  half : c.half.length = k
  best : c.best.length = k
  upr : ∀ i, i < k → -1 ≤ c.up.getD i (-1) ∧ c.up.getD i (-1) < k
  bestr : ∀ i, i < k → c.best.getD i 0 < k
theorem getD_set {α : Type} (l : List α) (i j : Nat) (a d : α) : (l.set i a).getD j d = if i = j ∧ i < l.length then a else l.getD j d := by
  rw [List.getD_eq_getElem?_getD, List.getElem?_set]
  by_cases h : i = j
  · subst h
    rw [if_pos rfl]
    by_cases h2 : i < l.length
    · rw [if_pos h2, if_pos ⟨rfl, h2⟩]; rfl
    · rw [if_neg h2, if_neg (fun h => h2 h.2), List.getD_eq_getElem?_getD, List.getElem?_eq_none (by omega)]
  · rw [if_neg h, if_neg (fun h2 => h h2.1), List.getD_eq_getElem?_getD]
theorem InR.squash {k : Nat} {c : Cl} (h : InR k c) {m b : Nat} (hm : m < k) (hb : b < k) : InR k (squash c m b) := by
  refine ⟨?_, h.half, ?_, ?_, ?_⟩
  · show (c.up.set b _).length = k; rw [List.length_set]; exact h.up
  · show (if _ then _ else _ : List Nat).length = k
    split
    · rw [List.length_set]; exact h.best
    · exact h.best
  · intro i hi
    show -1 ≤ (c.up.set b _).getD i (-1) ∧ (c.up.set b _).getD i (-1) < k
    rw [getD_set]
    split
    · exact h.upr m hm
    · exact h.upr i hi
  · intro i hi
    show (if _ then _ else _ : List Nat).getD i 0 < k
    split
    · rw [getD_set]
      split
      · exact h.bestr m hm
      · exact h.bestr i hi
    · exact h.bestr i hi
theorem squashes_snoc : ∀ (l : List Nat) (c : Cl) (m b : Nat), squashes (l ++ [b]) c m = (squash (squashes l c m).1 (squashes l c m).2 b, b)
  | [], _, _, _ => rfl
  | _ :: l, _, _, b => squashes_snoc l _ _ b
theorem squashes_inR {k : Nat} : ∀ (l : List Nat) (c : Cl) (m : Nat), InR k c → m < k → (∀ x ∈ l, x < k) → InR k (squashes l c m).1 ∧ (squashes l c m).2 < k
  | [], _, _, h, hm, _ => ⟨h, hm⟩
  | b :: l, c, m, h, hm, hl => squashes_inR l _ _ (h.squash hm (hl b (List.mem_cons_self ..))) (hl b (List.mem_cons_self ..)) (fun x hx => hl x (List.mem_cons_of_mem _ hx))
/-- Each step up goes down. -/
def Ups (up : List Int) : Prop := ∀ i, i < up.length → up.getD i (-1) < i
theorem climb_in {up : List Int} (hu : Ups up) (n : Nat) : ∀ (f m : Nat), m < up.length → (∀ x ∈ (climb up n f m).1, x < up.length) ∧ (climb up n f m).2 < up.length := by
  intro f
  induction f with
  | zero => intro m hm; exact ⟨by simp [climb], hm⟩
  | succ f ih =>
    intro m hm
    unfold climb
    by_cases h : (n : Int) < up.getD m (-1)
    · rw [if_pos h]
      have h1 := hu m hm
      obtain ⟨h2, h3⟩ := ih (up.getD m (-1)).toNat (by omega)
      exact ⟨fun x hx => by
        rcases List.mem_cons.1 hx with e | e
        · rw [e]; exact hm
        · exact h2 x e, h3⟩
    · rw [if_neg h]; exact ⟨by simp, hm⟩
theorem climb_sorted {up : List Int} (hu : Ups up) (n : Nat) : ∀ (f m : Nat), m < up.length → ((climb up n f m).1 ++ [(climb up n f m).2]).Pairwise (· > ·) ∧ ∀ x ∈ (climb up n f m).1 ++ [(climb up n f m).2], x ≤ m := by
  intro f
  induction f with
  | zero => intro m hm; simp [climb]
  | succ f ih =>
    intro m hm
    unfold climb
    by_cases h : (n : Int) < up.getD m (-1)
    · rw [if_pos h]
      have h1 := hu m hm
      obtain ⟨h2, h3⟩ := ih (up.getD m (-1)).toNat (by omega)
      refine ⟨?_, ?_⟩
      · show (m :: _ ++ [_]).Pairwise _
        rw [List.cons_append, List.pairwise_cons]
        exact ⟨fun x hx => by have := h3 x hx; omega, h2⟩
      · intro x hx
        rw [List.cons_append] at hx
        rcases List.mem_cons.1 hx with e | e
        · omega
        · have := h3 x e; omega
    · rw [if_neg h]; simp
theorem squashes_ups : ∀ (l : List Nat) (c : Cl) (m : Nat), Ups c.up → m < c.up.length → (m :: l).Pairwise (· < ·) → (∀ x ∈ l, x < c.up.length) → Ups (squashes l c m).1.up
  | [], _, _, h, _, _, _ => h
  | b :: l, c, m, h, hm, hp, hl => by
    rw [List.pairwise_cons] at hp
    have hmb := hp.1 b (List.mem_cons_self ..)
    have hlen : (squash c m b).up.length = c.up.length := by show (c.up.set b _).length = _; rw [List.length_set]
    refine squashes_ups l (squash c m b) b ?_ (by rw [hlen]; exact hl b (List.mem_cons_self ..)) hp.2 (fun x hx => by rw [hlen]; exact hl x (List.mem_cons_of_mem _ hx))
    intro i hi
    rw [hlen] at hi
    show (c.up.set b _).getD i (-1) < i
    rw [getD_set]
    split
    · rename_i e; have := h m hm; omega
    · exact h i hi
theorem leastC_ups {c : Cl} (hu : Ups c.up) (m n : Nat) (hm : m < c.up.length) : Ups (leastC c m n).up := by
  unfold leastC
  obtain ⟨h1, h2⟩ := climb_sorted hu n m m hm
  obtain ⟨h3, h4⟩ := climb_in hu n m m hm
  refine squashes_ups _ _ _ hu h4 ?_ (fun x hx => h3 x (List.mem_reverse.1 hx))
  have h5 := List.pairwise_reverse.2 h1
  rw [List.reverse_append] at h5
  exact h5
theorem leastC_inR {k : Nat} {c : Cl} (h : InR k c) (hu : Ups c.up) (m n : Nat) (hm : m < k) : InR k (leastC c m n) ∧ leastM c m n < k := by
  obtain ⟨h3, h4⟩ := climb_in hu n m m (by rw [h.up]; exact hm)
  rw [h.up] at h3 h4
  exact squashes_inR _ _ _ h h4 (fun x hx => h3 x (List.mem_reverse.1 hx))
theorem squashes_half : ∀ (l : List Nat) (c : Cl) (m : Nat), (squashes l c m).1.half = c.half
  | [], _, _ => rfl
  | _ :: l, _, _ => squashes_half l _ _
theorem leastC_half (c : Cl) (m n : Nat) : (leastC c m n).half = c.half := squashes_half _ _ _
theorem InR.setHalf {k : Nat} {c : Cl} (h : InR k c) (n a : Nat) : InR k { c with half := c.half.set n a } :=
  ⟨h.up, by show (c.half.set n a).length = k; rw [List.length_set]; exact h.half, h.best, h.upr, h.bestr⟩
theorem halfOne_ok {k : Nat} {num : List Int} {n : Nat} {c : Cl} (h : InR k c) (hu : Ups c.up) (a : Nat) (ha : num.getD a (-1) = -1 ∨ (0 ≤ num.getD a (-1) ∧ num.getD a (-1) < k)) : InR k (halfOne num n c a) ∧ Ups (halfOne num n c a).up := by
  unfold halfOne
  by_cases h1 : num.getD a (-1) = -1
  · rw [if_pos h1]; exact ⟨h, hu⟩
  · rw [if_neg h1]
    have h2 : (num.getD a (-1)).toNat < k := by omega
    refine ⟨?_, leastC_ups hu _ _ (by rw [h.up]; exact h2)⟩
    have h3 := (leastC_inR h hu (num.getD a (-1)).toNat n h2).1
    exact ⟨h3.up, by show (c.half.set _ _).length = k; rw [List.length_set]; exact h.half, h3.best, h3.upr, h3.bestr⟩
theorem halfRow_ok {k : Nat} {num : List Int} {n : Nat} : ∀ (l : List Nat) (c : Cl), InR k c → Ups c.up → (∀ a ∈ l, num.getD a (-1) = -1 ∨ (0 ≤ num.getD a (-1) ∧ num.getD a (-1) < k)) → InR k (halfRow num n l c) ∧ Ups (halfRow num n l c).up
  | [], _, h, hu, _ => ⟨h, hu⟩
  | a :: l, c, h, hu, hl => by
    obtain ⟨h1, h2⟩ := halfOne_ok (n := n) h hu a (hl a (List.mem_cons_self ..))
    exact halfRow_ok l _ h1 h2 (fun b hb => hl b (List.mem_cons_of_mem _ hb))
/-- The numbers below j, in their places; zeros behind. -/
def initTo (k j : Nat) : List Nat := List.range j ++ List.replicate (k - j) 0
theorem initTo_len {k j : Nat} (h : j ≤ k) : (initTo k j).length = k := by unfold initTo; rw [List.length_append, List.length_range, List.length_replicate]; omega
theorem initTo_zero (k : Nat) : initTo k 0 = List.replicate k 0 := by unfold initTo; simp
theorem initTo_all (k : Nat) : initTo k k = List.range k := by unfold initTo; simp
theorem initTo_succ {k j : Nat} (h : j < k) : (initTo k j).set j j = initTo k (j + 1) := by
  unfold initTo
  rw [List.range_succ, List.set_append_right _ _ (by rw [List.length_range]; exact Nat.le_refl _), List.length_range, Nat.sub_self, show k - j = (k - (j + 1)) + 1 by omega, List.replicate_succ, List.set_cons_zero, List.append_assoc]
  rfl
end Go.Proofs.Ytdfehpcbcgbidaa.Gn
