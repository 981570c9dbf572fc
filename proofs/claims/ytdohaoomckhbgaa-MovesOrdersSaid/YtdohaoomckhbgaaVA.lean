/- Moves, plainly: what is left of moves, which are loose, in which order they go. -/
import Derived.WalkKit
namespace Go.Proofs.Ytdohaoomckhbgaa.Va
set_option linter.unusedVariables false
set_option linter.unusedSimpArgs false
abbrev Mov := Int × Int
def isTo (L : List Mov) (x : Int) : Bool := L.any fun m => m.1 == x
def isFrom (L : List Mov) (x : Int) : Bool := L.any fun m => m.2 == x
/-- What a place takes; 0, if nothing. -/
def srcD (L : List Mov) (x : Int) : Int := ((L.find? fun m => m.1 == x).map (·.2)).getD 0
def wo (L : List Mov) (x : Int) : List Mov := L.filter fun m => !(m.1 == x)
def Uni (L : List Mov) : Prop := L.Pairwise fun a b => a.1 ≠ b.1
def cnt (L : List Mov) (x : Int) : Int := ((L.filter fun m => m.2 == x).length : Nat)
def looseB (L : List Mov) (x : Int) : Bool := isTo L x && !isFrom L x
theorem isTo_iff {L : List Mov} {x : Int} : isTo L x = true ↔ ∃ m ∈ L, m.1 = x := by unfold isTo; simp [List.any_eq_true]
theorem isFrom_iff {L : List Mov} {x : Int} : isFrom L x = true ↔ ∃ m ∈ L, m.2 = x := by unfold isFrom; simp [List.any_eq_true]
theorem mem_wo {L : List Mov} {x : Int} {m : Mov} : m ∈ wo L x ↔ m ∈ L ∧ m.1 ≠ x := by unfold wo; simp [List.mem_filter]
theorem Uni.wo {L : List Mov} (h : Uni L) (x : Int) : Uni (wo L x) := h.filter _
theorem cnt_zero {L : List Mov} {x : Int} : (cnt L x == 0) = !isFrom L x := by
  unfold cnt isFrom
  cases h : L.any fun m => m.2 == x with
  | true =>
    obtain ⟨m, hm, hx⟩ := List.any_eq_true.1 h
    have : 0 < (L.filter fun m => m.2 == x).length := List.length_pos_of_mem (List.mem_filter.2 ⟨hm, hx⟩)
    rw [Bool.not_true]; exact beq_eq_false_iff_ne.2 (by omega)
  | false =>
    rw [List.filter_eq_nil_iff.2 (fun m hm => by simpa using (List.any_eq_false.1 h) m hm)]; rfl
theorem src_of_mem {L : List Mov} (h : Uni L) {m : Mov} (hm : m ∈ L) : srcD L m.1 = m.2 := by
  induction L with
  | nil => cases hm
  | cons a L ih =>
    obtain ⟨h1, h2⟩ := List.pairwise_cons.1 h
    unfold srcD
    rw [List.find?_cons]
    rcases List.mem_cons.1 hm with rfl | hm
    · simp
    · have : (a.1 == m.1) = false := beq_eq_false_iff_ne.2 (h1 m hm)
      rw [this]
      exact ih h2 hm
theorem mem_src {L : List Mov} (h : Uni L) {x : Int} (hx : isTo L x = true) : (x, srcD L x) ∈ L := by
  obtain ⟨m, hm, rfl⟩ := isTo_iff.1 hx
  rw [src_of_mem h hm]; exact hm
theorem src_none {L : List Mov} {x : Int} (hx : isTo L x = false) : srcD L x = 0 := by
  unfold srcD
  rw [List.find?_eq_none.2]
  · rfl
  · intro m hm e; rw [isTo_iff.2 ⟨m, hm, by simpa using e⟩] at hx; cases hx
theorem cnt_wo {L : List Mov} (h : Uni L) {x : Int} (hx : isTo L x = true) (y : Int) : cnt (wo L x) y = cnt L y - (if y = srcD L x then 1 else 0) := by
  induction L with
  | nil => cases hx
  | cons a L ih =>
    obtain ⟨h1, h2⟩ := List.pairwise_cons.1 h
    by_cases ha : a.1 = x
    · have hs : srcD (a :: L) x = a.2 := by rw [← ha]; exact src_of_mem h (by simp)
      have hw : Va.wo (a :: L) x = L := by
        unfold Va.wo
        rw [List.filter_cons_of_neg (by simp [ha]), List.filter_eq_self.2]
        intro m hm
        have := h1 m hm
        simp; intro e; exact this (by rw [ha, e])
      rw [hw, hs]
      unfold cnt
      by_cases hy : a.2 = y
      · rw [List.filter_cons_of_pos (by simp [hy]), if_pos hy.symm]; simp
      · rw [List.filter_cons_of_neg (by simp [hy]), if_neg (fun e => hy e.symm)]; simp
    · have hx' : isTo L x = true := by
        obtain ⟨m, hm, e⟩ := isTo_iff.1 hx
        rcases List.mem_cons.1 hm with rfl | hm
        · exact absurd e ha
        · exact isTo_iff.2 ⟨m, hm, e⟩
      have hs : srcD (a :: L) x = srcD L x := by unfold srcD; rw [List.find?_cons, beq_eq_false_iff_ne.2 ha]
      have hw : Va.wo (a :: L) x = a :: Va.wo L x := by unfold Va.wo; rw [List.filter_cons_of_pos (by simp [ha])]
      have := ih h2 hx'
      rw [hw, hs]
      unfold cnt at this ⊢
      by_cases hy : a.2 = y
      · rw [List.filter_cons_of_pos (by simp [hy]), List.filter_cons_of_pos (by simp [hy])]
        simp only [List.length_cons]
        omega
      · rw [List.filter_cons_of_neg (by simp [hy]), List.filter_cons_of_neg (by simp [hy])]
        exact this
theorem cnt_src {L : List Mov} (h : Uni L) {x : Int} (hx : isTo L x = true) : 1 ≤ cnt L (srcD L x) := by
  unfold cnt
  have : 0 < (L.filter fun m => m.2 == srcD L x).length := List.length_pos_of_mem (List.mem_filter.2 ⟨mem_src h hx, by simp⟩)
  omega
theorem cnt_le (L : List Mov) (x : Int) : cnt L x ≤ L.length := by unfold cnt; have := List.length_filter_le (fun m : Mov => m.2 == x) L; omega
theorem cnt_nonneg (L : List Mov) (x : Int) : 0 ≤ cnt L x := by unfold cnt; omega
theorem wo_len (L : List Mov) (x : Int) : (wo L x).length ≤ L.length := List.length_filter_le _ _
theorem wo_lt {L : List Mov} {x : Int} (hx : isTo L x = true) : (wo L x).length < L.length := by
  unfold wo
  obtain ⟨m, hm, e⟩ := isTo_iff.1 hx
  refine Nat.lt_of_le_of_ne (List.length_filter_le _ _) fun hl => ?_
  have := (List.filter_eq_self.1 (List.filter_sublist.eq_of_length hl)) m hm
  simp [e] at this
/-- The least loose place. -/
def IsFree (L : List Mov) (t : Int) : Prop := looseB L t = true ∧ ∀ y, looseB L y = true → t ≤ y
def NoFree (L : List Mov) : Prop := ∀ y, looseB L y = false
/-- Loose moves go one by one, the least first. -/
inductive Goes : List Mov → List Mov → List Mov → Prop
  | stop {L} : NoFree L → Goes L [] L
  | step {L t es R} : IsFree L t → Goes (wo L t) es R → Goes L ((t, srcD L t) :: es) R
theorem IsFree.one {L : List Mov} {t t' : Int} (h : IsFree L t) (h' : IsFree L t') : t = t' := by have := h.2 t' h'.1; have := h'.2 t h.1; omega
theorem Goes.one {L es R es' R' : List Mov} (h : Goes L es R) : Goes L es' R' → es = es' ∧ R = R' := by
  intro h'
  induction h generalizing es' R' with
  | stop hn =>
    cases h' with
    | stop _ => exact ⟨rfl, rfl⟩
    | step hf _ => exact absurd (hf.1.symm.trans (hn _)) (by simp)
  | step hf _ ih =>
    cases h' with
    | stop hn => exact absurd (hf.1.symm.trans (hn _)) (by simp)
    | step hf' h2 =>
      obtain rfl := hf.one hf'
      obtain ⟨e1, e2⟩ := ih h2
      exact ⟨by rw [e1], e2⟩
def Went (L0 pre L : List Mov) : Prop := ∀ es R, Goes L es R → Goes L0 (pre ++ es) R
theorem Went.start (L : List Mov) : Went L [] L := fun _ _ h => h
theorem Went.next {L0 pre L : List Mov} (h : Went L0 pre L) {t : Int} (hf : IsFree L t) : Went L0 (pre ++ [(t, srcD L t)]) (wo L t) := fun es R hg => by
  rw [List.append_assoc]; exact h _ _ (.step hf hg)
theorem Went.done {L0 pre L : List Mov} (h : Went L0 pre L) (hn : NoFree L) : Goes L0 pre L := by
  have := h [] L (.stop hn); rwa [List.append_nil] at this
/-- What gets loose when a move goes. -/
theorem loose_wo {L : List Mov} {t y : Int} (hu : Uni L) (h : looseB (wo L t) y = true) (ht : isTo L t = true) : looseB L y = true ∨ y = srcD L t := by
  unfold looseB at h ⊢
  rw [Bool.and_eq_true, Bool.not_eq_true'] at h ⊢
  obtain ⟨h1, h2⟩ := h
  obtain ⟨m, hm, hy⟩ := isTo_iff.1 h1
  by_cases hf : isFrom L y = true
  · right
    obtain ⟨q, hq, hqy⟩ := isFrom_iff.1 hf
    by_cases hqt : q.1 = t
    · rw [← hqy, ← hqt, src_of_mem hu hq]
    · rw [isFrom_iff.2 ⟨q, mem_wo.2 ⟨hq, hqt⟩, hqy⟩] at h2; cases h2
  · exact Or.inl ⟨isTo_iff.2 ⟨m, (mem_wo.1 hm).1, hy⟩, by simpa using hf⟩
theorem loose_wo_ne {L : List Mov} {t y : Int} (h : looseB (wo L t) y = true) : y ≠ t := by
  unfold looseB at h
  rw [Bool.and_eq_true] at h
  obtain ⟨m, hm, hy⟩ := isTo_iff.1 h.1
  rw [← hy]; exact (mem_wo.1 hm).2
theorem isTo_wo {L : List Mov} {t y : Int} (h : isTo (wo L t) y = true) : isTo L y = true := by
  obtain ⟨m, hm, hy⟩ := isTo_iff.1 h
  exact isTo_iff.2 ⟨m, (mem_wo.1 hm).1, hy⟩
/-- All loose places but to are above x. -/
def Above (L : List Mov) (x to_ : Int) : Prop := ∀ y, looseB L y = true → y = to_ ∨ x < y
theorem above_free {L : List Mov} {x t : Int} (h : Above L x t) (ht : t ≤ x) (hl : looseB L t = true) : IsFree L t := ⟨hl, fun y hy => by rcases h y hy with e | e <;> omega⟩
theorem above_next {L : List Mov} {x t : Int} (hu : Uni L) (h : Above L x t) (ht : t ≤ x) (hl : looseB L t = true) : Above (wo L t) x (srcD L t) := fun y hy => by
  have hto : isTo L t = true := by unfold looseB at hl; rw [Bool.and_eq_true] at hl; exact hl.1
  rcases loose_wo hu hy hto with h1 | h1
  · rcases h y h1 with e | e
    · exact absurd e (loose_wo_ne hy)
    · exact Or.inr e
  · exact Or.inl h1
theorem above_end {L : List Mov} {x t : Int} (h : Above L x t) (he : (decide (t ≤ x) && looseB L t) = false) : ∀ y, looseB L y = true → x < y := fun y hy => by
  rcases h y hy with e | e
  · subst e
    rw [hy, Bool.and_true] at he
    have := of_decide_eq_false he
    omega
  · exact e
/-- The keys rise; those behind place i are above. -/
def Upto (L : List Mov) (ks : List Int) (i : Nat) : Prop := (∀ y, isTo L y = true → y ∈ ks) ∧ ∀ y, looseB L y = true → ∀ j (h : j < i) (h' : j < ks.length), ks[j] < y
theorem upto_above {L : List Mov} {ks : List Int} {i : Nat} (hs : ks.Pairwise (· < ·)) (h : Upto L ks i) (hi : i < ks.length) : Above L ks[i] ks[i] := fun y hy => by
  have hy1 : isTo L y = true := by unfold looseB at hy; rw [Bool.and_eq_true] at hy; exact hy.1
  obtain ⟨k, hk, rfl⟩ := List.mem_iff_getElem.1 (h.1 y hy1)
  rcases Nat.lt_trichotomy k i with e | e | e
  · have := h.2 _ hy k e hk; omega
  · subst e; exact Or.inl rfl
  · exact Or.inr (List.pairwise_iff_getElem.1 hs i k hi hk e)
theorem upto_next {L : List Mov} {ks : List Int} {i : Nat} (hs : ks.Pairwise (· < ·)) (h1 : ∀ y, isTo L y = true → y ∈ ks) (hi : i < ks.length) (h : ∀ y, looseB L y = true → ks[i] < y) : Upto L ks (i + 1) :=
  ⟨h1, fun y hy j hj hj' => by
    rcases Nat.lt_succ_iff_lt_or_eq.1 hj with e | e
    · have := List.pairwise_iff_getElem.1 hs j i hj' hi e; have := h y hy; omega
    · subst e; exact h y hy⟩
theorem upto_end {L : List Mov} {ks : List Int} (h : Upto L ks ks.length) : NoFree L := fun y => by
  cases hy : looseB L y
  · rfl
  · have hy1 : isTo L y = true := by unfold looseB at hy; rw [Bool.and_eq_true] at hy; exact hy.1
    obtain ⟨k, hk, e⟩ := List.mem_iff_getElem.1 (h.1 y hy1)
    have := h.2 y hy k hk hk
    omega
/-- Moves that are kept: of those with one To the last one. -/
def putM (L : List Mov) (m : Mov) : List Mov := wo L m.1 ++ [m]
theorem Uni.putM {L : List Mov} (h : Uni L) (m : Mov) : Uni (putM L m) := by
  unfold Va.putM
  refine List.pairwise_append.2 ⟨h.wo m.1, List.pairwise_singleton _ _, fun a ha b hb => ?_⟩
  rw [List.mem_singleton.1 hb]; exact (mem_wo.1 ha).2
theorem putM_len (L : List Mov) (m : Mov) : (putM L m).length ≤ L.length + 1 := by unfold putM; rw [List.length_append]; have := wo_len L m.1; simp; omega
def keptN (l : List Mov) : List Mov := l.foldl putM []
def pendN (l : List Mov) : List Mov := (keptN l).filter fun m => !(m.1 == m.2)
theorem foldl_putM_uni : ∀ (l L : List Mov), Uni L → Uni (l.foldl putM L)
  | [], L, h => h
  | m :: l, L, h => foldl_putM_uni l _ (h.putM m)
theorem keptN_uni (l : List Mov) : Uni (keptN l) := foldl_putM_uni l [] List.Pairwise.nil
theorem pendN_uni (l : List Mov) : Uni (pendN l) := (keptN_uni l).filter _
theorem foldl_putM_len : ∀ (l L : List Mov), (l.foldl putM L).length ≤ L.length + l.length
  | [], L => by simp
  | m :: l, L => by have := foldl_putM_len l (putM L m); have := putM_len L m; simp only [List.foldl_cons, List.length_cons] at *; omega
theorem keptN_len (l : List Mov) : (keptN l).length ≤ l.length := by have := foldl_putM_len l []; simpa [keptN] using this
theorem pendN_len (l : List Mov) : (pendN l).length ≤ l.length := Nat.le_trans (List.length_filter_le _ _) (keptN_len l)
theorem mem_putM {L : List Mov} {m x : Mov} (h : x ∈ putM L m) : x ∈ L ∨ x = m := by
  unfold putM at h
  rcases List.mem_append.1 h with h | h
  · exact Or.inl (mem_wo.1 h).1
  · exact Or.inr (List.mem_singleton.1 h)
theorem mem_foldl_putM : ∀ {l L : List Mov} {x : Mov}, x ∈ l.foldl putM L → x ∈ L ∨ x ∈ l
  | [], L, x, h => Or.inl h
  | m :: l, L, x, h => by
    rcases mem_foldl_putM (l := l) h with h | h
    · rcases mem_putM h with h | h
      · exact Or.inl h
      · exact Or.inr (by rw [h]; simp)
    · exact Or.inr (List.mem_cons_of_mem _ h)
theorem mem_pendN {l : List Mov} {x : Mov} (h : x ∈ pendN l) : x ∈ l ∧ x.1 ≠ x.2 := by
  obtain ⟨h1, h2⟩ := List.mem_filter.1 h
  refine ⟨?_, by simpa using h2⟩
  rcases mem_foldl_putM h1 with h | h
  · cases h
  · exact h
end Go.Proofs.Ytdohaoomckhbgaa.Va
