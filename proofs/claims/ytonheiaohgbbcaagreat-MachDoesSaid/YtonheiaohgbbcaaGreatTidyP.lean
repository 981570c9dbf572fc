/- A sorted list without what comes twice; a graph's rows, tidied: plain mathematics. -/
import Derived.Test.YtonheiaohgbbcaaGreatInfo
import Derived.Test.YtonheiaohgbbcaaGreatPure
import Derived.Lib.SlicesCompact
namespace Go.Proofs.YtonheiaohgbbcaaGreat.Gn
open Go.Proofs.YtonheiaohgbbcaaGreat.Gr

theorem sorted_eq : ∀ {l k : List Int}, l.Pairwise (· < ·) → k.Pairwise (· < ·) → (∀ x, x ∈ l ↔ x ∈ k) → l = k
  | [], [], _, _, _ => rfl
  | [], b :: k, _, _, h => absurd ((h b).2 (List.mem_cons_self ..)) (by simp)
  | a :: l, [], _, _, h => absurd ((h a).1 (List.mem_cons_self ..)) (by simp)
  | a :: l, b :: k, hl, hk, h => by
    rw [List.pairwise_cons] at hl hk
    have hab : a = b := by
      rcases List.mem_cons.1 ((h a).1 (List.mem_cons_self ..)) with e | e
      · exact e
      · rcases List.mem_cons.1 ((h b).2 (List.mem_cons_self ..)) with e' | e'
        · exact e'.symm
        · have := hl.1 b e'; have := hk.1 a e; omega
    subst hab
    congr 1
    refine sorted_eq hl.2 hk.2 fun x => ⟨fun hx => ?_, fun hx => ?_⟩
    · rcases List.mem_cons.1 ((h x).1 (List.mem_cons_of_mem _ hx)) with e | e
      · subst e; exact absurd (hl.1 x hx) (by omega)
      · exact e
    · rcases List.mem_cons.1 ((h x).2 (List.mem_cons_of_mem _ hx)) with e | e
      · subst e; exact absurd (hk.1 x hx) (by omega)
      · exact e
theorem compactTo_is (d : Array Int) (hs : ∀ i j, i ≤ j → j < d.size → d[i]! ≤ d[j]!) : ∀ m, m ≤ d.size →
    (Lib.compactUpTo d m).Pairwise (· < ·) ∧ (∀ x, x ∈ Lib.compactUpTo d m ↔ ∃ j, j < m ∧ d[j]! = x)
  | 0, _ => ⟨by simp [Lib.compactUpTo], fun x => ⟨fun h => absurd h (by simp [Lib.compactUpTo]), fun ⟨j, hj, _⟩ => by omega⟩⟩
  | m + 1, hm => by
    obtain ⟨h1, h2⟩ := compactTo_is d hs m (by omega)
    rw [Lib.compactUpTo_succ]
    by_cases hk : m = 0 ∨ d[m]! ≠ d[m - 1]!
    · have hkk : Lib.keeps d m = true := by simp [Lib.keeps, hk]
      rw [if_pos hkk]
      refine ⟨List.pairwise_append.2 ⟨h1, List.pairwise_singleton _ _, fun a ha b hb => ?_⟩, fun x => ?_⟩
      · rw [List.mem_singleton] at hb
        subst hb
        obtain ⟨j, hj, rfl⟩ := (h2 a).1 ha
        have e1 := hs j (m - 1) (by omega) (by omega)
        have e2 := hs (m - 1) m (by omega) (by omega)
        rcases hk with hk | hk
        · omega
        · have : d[m - 1]! ≠ d[m]! := fun e => hk e.symm
          omega
      · rw [List.mem_append, List.mem_singleton, h2]
        constructor
        · rintro (⟨j, hj, e⟩ | e)
          · exact ⟨j, by omega, e⟩
          · exact ⟨m, by omega, e.symm⟩
        · rintro ⟨j, hj, e⟩
          by_cases hjm : j = m
          · subst hjm; exact Or.inr e.symm
          · exact Or.inl ⟨j, by omega, e⟩
    · have hkk : Lib.keeps d m = false := by simp [Lib.keeps, hk]
      rw [hkk]
      simp only [Bool.false_eq_true, if_false, List.append_nil]
      refine ⟨h1, fun x => ?_⟩
      rw [h2]
      constructor
      · rintro ⟨j, hj, e⟩; exact ⟨j, by omega, e⟩
      · rintro ⟨j, hj, e⟩
        by_cases hjm : j = m
        · subst hjm
          have : d[j]! = d[j - 1]! := by
            apply Classical.byContradiction
            intro e'; exact hk (Or.inr e')
          exact ⟨j - 1, by omega, by rw [← this]; exact e⟩
        · exact ⟨j, by omega, e⟩
theorem compact_is (l : List Int) (hs : l.Pairwise (· ≤ ·)) : (Lib.compact l).Pairwise (· < ·) ∧ ∀ x, x ∈ Lib.compact l ↔ x ∈ l := by
  have hget : ∀ i, i < l.length → l.toArray[i]! = l[i]! := fun i hi => by simp
  obtain ⟨h1, h2⟩ := compactTo_is l.toArray (fun i j hij hj => by
    simp only [List.size_toArray] at hj
    rw [hget i (by omega), hget j hj, getElem!_pos l i (by omega), getElem!_pos l j hj]
    by_cases e : i = j
    · subst e; exact Int.le_refl _
    · exact List.pairwise_iff_getElem.1 hs i j (by omega) hj (by omega)) l.length (by simp)
  refine ⟨h1, fun x => ?_⟩
  unfold Lib.compact
  rw [h2, List.mem_iff_getElem]
  constructor
  · rintro ⟨j, hj, e⟩; exact ⟨j, hj, by rw [← e, hget j hj, getElem!_pos l j hj]⟩
  · rintro ⟨j, hj, e⟩; exact ⟨j, hj, by rw [hget j hj, getElem!_pos l j hj]; exact e⟩

/-- Of a row's first numbers those that are blocks. -/
def keepTo (n : Nat) (row : List Int) (k : Nat) : List Int := (row.take k).filter fun b => decide (0 ≤ b) && decide (b < (n : Int))
def keepRow (n : Nat) (row : List Int) : List Int := keepTo n row row.length
theorem keepTo_succ {n : Nat} {row : List Int} {k : Nat} (h : k < row.length) : keepTo n row (k + 1) = keepTo n row k ++ if 0 ≤ row[k] ∧ row[k] < (n : Int) then [row[k]] else [] := by
  unfold keepTo
  rw [List.take_succ_eq_append_getElem h, List.filter_append]
  congr 1
  by_cases h1 : 0 ≤ row[k] <;> by_cases h2 : row[k] < (n : Int) <;> simp [h1, h2]
theorem keepTo_len (n : Nat) (row : List Int) (k : Nat) : (keepTo n row k).length ≤ row.length := by
  unfold keepTo
  exact Nat.le_trans (List.length_filter_le _ _) (by rw [List.length_take]; omega)
def tidyRow (n : Nat) (row : List Int) : List Int := Lib.compact ((keepRow n row).mergeSort fun x y => decide (x ≤ y))
/-- The tidied graph. -/
def tidyN (g : List (List Int)) : G := (List.range g.length).map fun a => (List.range g.length).filter fun b => (g.getD a []).contains (b : Int)
theorem li_pairwise {l : List Nat} (h : l.Pairwise (· < ·)) : (li l).Pairwise (· < ·) := by
  unfold li
  exact List.Pairwise.map _ (fun a b h => Int.ofNat_lt.2 h) h
theorem mem_li {l : List Nat} {x : Int} : x ∈ li l ↔ ∃ b : Nat, b ∈ l ∧ x = (b : Int) := by
  unfold li
  rw [List.mem_map]
  exact ⟨fun ⟨b, h, e⟩ => ⟨b, h, e.symm⟩, fun ⟨b, h, e⟩ => ⟨b, h, e.symm⟩⟩
theorem tidyRow_is (n : Nat) (row : List Int) : tidyRow n row = li ((List.range n).filter fun b => row.contains (b : Int)) := by
  unfold tidyRow
  have hs : ((keepRow n row).mergeSort fun x y => decide (x ≤ y)).Pairwise (· ≤ ·) :=
    (List.pairwise_mergeSort (le := fun x y : Int => decide (x ≤ y)) (fun a b c => by simp; omega) (fun a b => by simp; omega) (keepRow n row)).imp (by intro a b h; simpa using h)
  obtain ⟨h1, h2⟩ := compact_is _ hs
  refine sorted_eq h1 (li_pairwise ?_) fun x => ?_
  · exact List.Pairwise.sublist List.filter_sublist List.pairwise_lt_range
  · rw [h2, List.mem_mergeSort, mem_li]
    unfold keepRow keepTo
    rw [List.take_length, List.mem_filter]
    constructor
    · rintro ⟨hx, hb⟩
      simp only [Bool.and_eq_true, decide_eq_true_eq] at hb
      obtain ⟨b, rfl⟩ := Int.eq_ofNat_of_zero_le hb.1
      exact ⟨b, List.mem_filter.2 ⟨List.mem_range.2 (by omega), List.contains_iff_mem.2 hx⟩, rfl⟩
    · rintro ⟨b, hb, rfl⟩
      rw [List.mem_filter, List.mem_range, List.contains_iff_mem] at hb
      exact ⟨hb.2, by simp; omega⟩
theorem tidyN_len (g : List (List Int)) : (tidyN g).length = g.length := by unfold tidyN; rw [List.length_map, List.length_range]
theorem tidyN_row {g : List (List Int)} {a : Nat} (h : a < g.length) : li ((tidyN g).getD a []) = tidyRow g.length g[a] := by
  unfold tidyN
  rw [tidyRow_is, List.getD_eq_getElem?_getD, List.getElem?_map, List.getElem?_range h]
  simp only [Option.map_some, Option.getD_some]
  rw [List.getD_eq_getElem?_getD, List.getElem?_eq_getElem h]
  rfl
end Go.Proofs.YtonheiaohgbbcaaGreat.Gn
