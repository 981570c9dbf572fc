/- Moves, plainly: the order in which loose moves go, reckoned. -/
import Derived.Test.YtdohaoomckhbgaaVI
namespace Go.Proofs.Ytdohaoomckhbgaa.Va
set_option linter.unusedVariables false
set_option linter.unusedSimpArgs false
def minL : List Int → Option Int
  | [] => none
  | x :: xs => match minL xs with
    | none => some x
    | some y => some (if x ≤ y then x else y)
theorem minL_none : ∀ {l : List Int}, minL l = none → l = []
  | [], _ => rfl
  | x :: xs, h => by unfold minL at h; split at h <;> cases h
theorem minL_some : ∀ {l : List Int} {t : Int}, minL l = some t → t ∈ l ∧ ∀ y ∈ l, t ≤ y
  | [], t, h => by cases h
  | x :: xs, t, h => by
    unfold minL at h
    cases e : minL xs with
    | none =>
      rw [e] at h
      injection h with h
      rw [minL_none e, h]
      exact ⟨by simp, fun y hy => by rw [List.mem_singleton.1 hy]; exact Int.le_refl _⟩
    | some y =>
      rw [e] at h
      injection h with h
      obtain ⟨h1, h2⟩ := minL_some e
      by_cases hxy : x ≤ y
      · rw [if_pos hxy] at h
        subst h
        exact ⟨by simp, fun z hz => by
          rcases List.mem_cons.1 hz with rfl | hz
          · exact Int.le_refl _
          · have := h2 z hz; omega⟩
      · rw [if_neg hxy] at h
        subst h
        exact ⟨List.mem_cons_of_mem _ h1, fun z hz => by
          rcases List.mem_cons.1 hz with rfl | hz
          · omega
          · exact h2 z hz⟩
def freeN (L : List Mov) : Option Int := minL ((L.map (·.1)).filter (looseB L))
theorem loose_to {L : List Mov} {y : Int} (h : looseB L y = true) : isTo L y = true := by unfold looseB at h; rw [Bool.and_eq_true] at h; exact h.1
theorem freeN_mem {L : List Mov} {y : Int} : y ∈ (L.map (·.1)).filter (looseB L) ↔ looseB L y = true := by
  rw [List.mem_filter, List.mem_map]
  constructor
  · intro h; exact h.2
  · intro h; obtain ⟨m, hm, e⟩ := isTo_iff.1 (loose_to h); exact ⟨⟨m, hm, e⟩, h⟩
theorem freeN_some {L : List Mov} {t : Int} (h : freeN L = some t) : IsFree L t := by
  obtain ⟨h1, h2⟩ := minL_some h
  exact ⟨freeN_mem.1 h1, fun y hy => h2 y (freeN_mem.2 hy)⟩
theorem freeN_none {L : List Mov} (h : freeN L = none) : NoFree L := fun y => by
  cases hy : looseB L y
  · rfl
  · have := freeN_mem.2 hy
    rw [minL_none h] at this; cases this
def greedyN : Nat → List Mov → List Mov × List Mov
  | 0, L => ([], L)
  | n + 1, L => match freeN L with
    | none => ([], L)
    | some t => ((t, srcD L t) :: (greedyN n (wo L t)).1, (greedyN n (wo L t)).2)
theorem goes_greedy : ∀ (n : Nat) (L : List Mov), L.length ≤ n → Goes L (greedyN n L).1 (greedyN n L).2
  | 0, L, h => by
    have : L = [] := List.length_eq_zero_iff.1 (by omega)
    subst this
    exact .stop fun y => rfl
  | n + 1, L, h => by
    unfold greedyN
    cases e : freeN L with
    | none => exact .stop (freeN_none e)
    | some t =>
      have hf := freeN_some e
      exact .step hf (goes_greedy n (wo L t) (by have := wo_lt (loose_to hf.1); omega))
theorem goes_ex (L : List Mov) : ∃ es R, Goes L es R := ⟨_, _, goes_greedy L.length L (Nat.le_refl _)⟩
theorem Went.prefix {L0 pre L es R : List Mov} (h : Went L0 pre L) (hg : Goes L0 es R) : pre <+: es := by
  obtain ⟨es', R', h1⟩ := goes_ex L
  obtain ⟨e, _⟩ := (h es' R' h1).one hg
  exact ⟨es', e⟩
theorem Goes.sub {L es R : List Mov} (h : Goes L es R) : (∀ m ∈ R, m ∈ L) ∧ R.length ≤ L.length ∧ es.length ≤ L.length ∧ NoFree R ∧ (Uni L → Uni R) := by
  induction h with
  | stop hn => exact ⟨fun m hm => hm, Nat.le_refl _, by simp, hn, id⟩
  | @step L t es R hf _ ih =>
    have := wo_lt (loose_to hf.1)
    exact ⟨fun m hm => (mem_wo.1 (ih.1 m hm)).1, by omega, by simp only [List.length_cons]; omega, ih.2.2.2.1, fun hu => ih.2.2.2.2 (hu.wo t)⟩
end Go.Proofs.Ytdohaoomckhbgaa.Va
