/- A walk through a graph, depth first: what it keeps. Plain mathematics. -/
import Derived.Test.YtonheiaohgbbcaaGreatEdges
namespace Go.Proofs.YtonheiaohgbbcaaGreat.Gn
open Go.Proofs.YtonheiaohgbbcaaGreat.Gc

/-- How many blocks have not been come to. -/
def unv (s : St) : Nat := s.number.count (-1)
structure Inv (n : Nat) (s : St) : Prop where
  number : s.number.length = n
  came : s.came.length + unv s = n
  parent : s.parent.length = s.came.length
  left : s.left.length ≤ s.came.length
theorem unv_enter {s : St} {b : Nat} {p : Int} (hb : b < s.number.length) (h : s.number.getD b 0 = -1) : unv (s.enter b p) + 1 = unv s := by
  unfold unv St.enter
  have h1 : s.number[b] = -1 := by rw [List.getD_eq_getElem?_getD, List.getElem?_eq_getElem hb] at h; exact h
  have h2 : 0 < s.number.count (-1) := List.count_pos_iff.2 (by rw [← h1]; exact List.getElem_mem hb)
  simp only
  rw [List.count_set hb, h1]
  simp only [beq_self_eq_true, if_true]
  have h3 : (((s.came.length : Nat) : Int) == -1) = false := beq_eq_false_iff_ne.2 (by omega)
  rw [h3]
  simp
  omega
theorem Inv.enter {n : Nat} {s : St} {b : Nat} {p : Int} (h : Inv n s) (hb : b < n) (h0 : s.number.getD b 0 = -1) : Inv n (s.enter b p) := by
  have h1 := unv_enter (p := p) (by rw [h.number]; exact hb) h0
  refine ⟨by unfold St.enter; simp [h.number], ?_, by unfold St.enter; simp [h.parent], by unfold St.enter; have := h.left; simp; omega⟩
  have h2 := h.came
  have h3 : (s.enter b p).came.length = s.came.length + 1 := by unfold St.enter; simp
  omega
theorem Inv.leave {n : Nat} {s : St} {b : Nat} (h : Inv n s) (hl : s.left.length < s.came.length) : Inv n (s.leave b) :=
  ⟨h.number, h.came, h.parent, by unfold St.leave; simp; omega⟩
/-- What a visit does to the sizes. -/
structure Grew (s s' : St) : Prop where
  unv : unv s' ≤ unv s
  came : s.came.length ≤ s'.came.length
  left : s'.left.length + s.came.length = s.left.length + s'.came.length
theorem Grew.refl (s : St) : Grew s s := ⟨Nat.le_refl _, Nat.le_refl _, rfl⟩
theorem Grew.trans {a b c : St} (h : Grew a b) (k : Grew b c) : Grew a c := ⟨Nat.le_trans k.unv h.unv, Nat.le_trans h.came k.came, by have := h.left; have := k.left; omega⟩
theorem visit_inv (T : G) (hT : Ok T) : ∀ (f b : Nat) (p : Int) (s : St), Inv T.length s → b < T.length → s.number.getD b 0 = -1 → unv s ≤ f → Inv T.length (visit T f b p s) ∧ Grew s (visit T f b p s) := by
  intro f
  induction f with
  | zero =>
    intro b p s hI hb h0 hf
    have := unv_enter (p := p) (by rw [hI.number]; exact hb) h0
    omega
  | succ f ih =>
    intro b p s hI hb h0 hf
    rw [visit_succ]
    have h1 := unv_enter (p := p) (by rw [hI.number]; exact hb) h0
    have hE := hI.enter (p := p) hb h0
    have hc : (s.enter b p).came.length = s.came.length + 1 := by unfold St.enter; simp
    have hl : (s.enter b p).left.length = s.left.length := rfl
    have hvs : ∀ (l : List Nat) (s' : St), (∀ x ∈ l, x < T.length) → Inv T.length s' → unv s' ≤ f → Inv T.length (visits T f s.came.length l s') ∧ Grew s' (visits T f s.came.length l s') := by
      intro l
      induction l with
      | nil => intro s' _ hI' _; exact ⟨hI', Grew.refl _⟩
      | cons x l ihl =>
        intro s' hl hI' hu
        rw [visits_cons]
        by_cases hx : s'.number.getD x 0 = -1
        · rw [if_pos hx]
          obtain ⟨h2, h3⟩ := ih x s.came.length s' hI' (hl x (List.mem_cons_self ..)) hx hu
          obtain ⟨h4, h5⟩ := ihl _ (fun y hy => hl y (List.mem_cons_of_mem _ hy)) h2 (by have := h3.unv; omega)
          exact ⟨h4, h3.trans h5⟩
        · rw [if_neg hx]
          exact ihl _ (fun y hy => hl y (List.mem_cons_of_mem _ hy)) hI' hu
    obtain ⟨h2, h3⟩ := hvs (T.getD b []) (s.enter b p) (fun x hx => by
      rw [List.getD_eq_getElem?_getD, List.getElem?_eq_getElem hb] at hx; exact hT b hb x hx) hE (by omega)
    have h4 := hI.left
    have h5 := h3.left
    have h6 := h3.came
    refine ⟨h2.leave (by omega), ⟨by have := h3.unv; show unv (visits _ _ _ _ _) ≤ _; omega, by show _ ≤ (visits _ _ _ _ _).came.length; omega, ?_⟩⟩
    unfold St.leave
    simp only [List.length_append, List.length_singleton]
    omega
theorem visits_inv (T : G) (hT : Ok T) (f n : Nat) : ∀ (l : List Nat) (s : St), (∀ x ∈ l, x < T.length) → Inv T.length s → unv s ≤ f → Inv T.length (visits T f n l s) ∧ Grew s (visits T f n l s) := by
  intro l
  induction l with
  | nil => intro s' _ hI' _; exact ⟨hI', Grew.refl _⟩
  | cons x l ihl =>
    intro s' hl hI' hu
    rw [visits_cons]
    by_cases hx : s'.number.getD x 0 = -1
    · rw [if_pos hx]
      obtain ⟨h2, h3⟩ := visit_inv T hT f x n s' hI' (hl x (List.mem_cons_self ..)) hx hu
      obtain ⟨h4, h5⟩ := ihl _ (fun y hy => hl y (List.mem_cons_of_mem _ hy)) h2 (by have := h3.unv; omega)
      exact ⟨h4, h3.trans h5⟩
    · rw [if_neg hx]
      exact ihl _ (fun y hy => hl y (List.mem_cons_of_mem _ hy)) hI' hu
end Go.Proofs.YtonheiaohgbbcaaGreat.Gn
