/- Plain mathematics of ways: what the document's Without marks is what ways without a block come to. -/
import Derived.Test.YthanbedmiaacdaaEdgeP
import Derived.Test.YthanbedmiaacdaaTable
import Derived.Test.YthanbedmiaacdaaTurnP
namespace Go.Proofs.Ythanbedmiaacdaa.Gl
open Go.ChangeShapes Go.WideShapes Go.ChangeAt Go.RowKit Go.Proofs.Ythanbedmiaacdaa.Mem Go.Proofs.Ythanbedmiaacdaa.Gr Go.Proofs.Ythanbedmiaacdaa.Gn Go.Proofs.Ythanbedmiaacdaa.Gc
set_option linter.unusedVariables false

/-- What ways from 0 come to that leave a block out. -/
inductive Way (g : List (List Int)) (gone : Int) : Nat → Prop
  | root : 0 < g.length → gone ≠ 0 → Way g gone 0
  | step {a b : Nat} : Way g gone a → edgeB g a b = true → (b : Int) ≠ gone → Way g gone b
theorem edge_lt {g : List (List Int)} {a b : Nat} (h : edgeB g a b = true) : a < g.length ∧ b < g.length := by
  rw [edgeB_nat, Bool.and_eq_true, decide_eq_true_eq] at h; exact h.1
theorem Way.lt {g : List (List Int)} {gone : Int} {b : Nat} (h : Way g gone b) : b < g.length := by
  cases h with
  | root h _ => exact h
  | step _ h _ => exact (edge_lt h).2
theorem Way.ne {g : List (List Int)} {gone : Int} {b : Nat} (h : Way g gone b) : (b : Int) ≠ gone := by
  cases h with
  | root _ h => exact fun e => h (by rw [← e]; rfl)
  | step _ _ h => exact h
theorem mem_nextL {g : List (List Int)} {a : Nat} {x : Int} : x ∈ nextL g a ↔ ∃ b : Nat, x = (b : Int) ∧ edgeB g a b = true := by
  unfold nextL nextTo
  rw [List.mem_map]
  constructor
  · rintro ⟨b, hb, rfl⟩
    exact ⟨b, rfl, (List.mem_filter.1 hb).2⟩
  · rintro ⟨b, rfl, h⟩
    exact ⟨b, List.mem_filter.2 ⟨List.mem_range.2 (edge_lt h).2, h⟩, rfl⟩
abbrev In (o : List Bool) (b : Nat) : Prop := o.getD b false = true
theorem mark_in {gone : Int} {o : List Bool} {b c : Nat} (hb : b < o.length) : In (Go.Proofs.Ythanbedmiaacdaa.Gr.mark gone o (b : Int)) c ↔ In o c ∨ (c = b ∧ (b : Int) ≠ gone) := by
  unfold In Go.Proofs.Ythanbedmiaacdaa.Gr.mark
  rw [Int.toNat_natCast, getD_set]
  by_cases h : b = c
  · subst h
    rw [if_pos ⟨rfl, hb⟩, Bool.or_eq_true, bne_iff_ne]
    exact ⟨fun h => h.elim Or.inl (fun h => Or.inr ⟨rfl, h⟩), fun h => h.elim Or.inl (fun h => Or.inr h.2)⟩
  · rw [if_neg (fun x => h x.1)]
    exact ⟨Or.inl, fun h' => h'.elim id (fun x => absurd x.1.symm h)⟩
theorem marks_in {g : List (List Int)} {gone : Int} {c : Nat} : ∀ (l : List Int) (o : List Bool), (∀ x ∈ l, ∃ b : Nat, x = (b : Int) ∧ b < o.length) → (In (l.foldl (Go.Proofs.Ythanbedmiaacdaa.Gr.mark gone) o) c ↔ In o c ∨ ((c : Int) ∈ l ∧ (c : Int) ≠ gone))
  | [], o, _ => ⟨Or.inl, fun h => h.elim id (fun x => by cases x.1)⟩
  | x :: l, o, h => by
    obtain ⟨b, rfl, hb⟩ := h x List.mem_cons_self
    rw [List.foldl_cons, marks_in (g := g) l _ (fun y hy => by
      obtain ⟨d, e, hd⟩ := h y (List.mem_cons_of_mem _ hy)
      exact ⟨d, e, by rw [mark_len]; exact hd⟩), mark_in hb]
    constructor
    · rintro ((h1 | ⟨rfl, h2⟩) | ⟨h1, h2⟩)
      · exact Or.inl h1
      · exact Or.inr ⟨List.mem_cons_self, h2⟩
      · exact Or.inr ⟨List.mem_cons_of_mem _ h1, h2⟩
    · rintro (h1 | ⟨h1, h2⟩)
      · exact Or.inl (Or.inl h1)
      · rcases List.mem_cons.1 h1 with h3 | h3
        · have : c = b := Int.ofNat.inj h3
          subst this
          exact Or.inl (Or.inr ⟨rfl, h2⟩)
        · exact Or.inr ⟨h3, h2⟩
theorem sweepAt_in {g : List (List Int)} {gone : Int} {o : List Bool} {a c : Nat} (ho : o.length = g.length) : In (sweepAt g gone o a) c ↔ In o c ∨ (In o a ∧ edgeB g a c = true ∧ (c : Int) ≠ gone) := by
  unfold sweepAt
  by_cases ha : o.getD a false = true
  · rw [if_pos ha]
    unfold marks
    rw [List.take_length, marks_in (g := g) (nextL g a) o (fun x hx => by
      obtain ⟨b, e, hb⟩ := mem_nextL.1 hx
      exact ⟨b, e, by rw [ho]; exact (edge_lt hb).2⟩)]
    constructor
    · rintro (h | ⟨h, h2⟩)
      · exact Or.inl h
      · obtain ⟨b, e, hb⟩ := mem_nextL.1 h
        have : c = b := Int.ofNat.inj e
        subst this
        exact Or.inr ⟨ha, hb, h2⟩
    · rintro (h | ⟨_, h, h2⟩)
      · exact Or.inl h
      · exact Or.inr ⟨mem_nextL.2 ⟨c, rfl, h⟩, h2⟩
  · rw [if_neg ha]
    exact ⟨Or.inl, fun h => h.elim id (fun x => absurd x.1 ha)⟩
/-- A sweep keeps within what is closed, and takes in what is one edge further on. -/
theorem sweep_keep {g : List (List Int)} {gone : Int} {P : Nat → Prop} (hP : ∀ a c : Nat, P a → edgeB g a c = true → (c : Int) ≠ gone → P c) : ∀ (k : Nat) (o : List Bool), o.length = g.length → (∀ c, In o c → P c) → ∀ c, In (sweep g gone o k) c → P c
  | 0, o, _, h, c, hc => h c hc
  | k + 1, o, ho, h, c, hc => by
    have ih := sweep_keep hP k o ho h
    rw [sweep_succ, sweepAt_in (by rw [sweep_len, ho])] at hc
    rcases hc with hc | ⟨h1, h2, h3⟩
    · exact ih c hc
    · exact hP _ _ (ih _ h1) h2 h3
theorem sweep_mono {g : List (List Int)} {gone : Int} {o : List Bool} (ho : o.length = g.length) : ∀ (k : Nat) {c : Nat}, In o c → In (sweep g gone o k) c
  | 0, c, h => h
  | k + 1, c, h => by
    rw [sweep_succ, sweepAt_in (by rw [sweep_len, ho])]
    exact Or.inl (sweep_mono ho k h)
theorem sweep_goes {g : List (List Int)} {gone : Int} {o : List Bool} (ho : o.length = g.length) {a c : Nat} (ha : In o a) (he : edgeB g a c = true) (hc : (c : Int) ≠ gone) : ∀ k, a < k → In (sweep g gone o k) c
  | 0, h => absurd h (Nat.not_lt_zero _)
  | k + 1, h => by
    rw [sweep_succ, sweepAt_in (by rw [sweep_len, ho])]
    by_cases h1 : a < k
    · exact Or.inl (sweep_goes ho ha he hc k h1)
    · obtain rfl : a = k := by omega
      exact Or.inr ⟨sweep_mono ho _ ha, he, hc⟩
theorem count_le {p q : Nat → Bool} : ∀ n, (∀ i, i < n → p i = true → q i = true) → ((List.range n).filter p).length ≤ ((List.range n).filter q).length
  | 0, _ => Nat.le_refl _
  | n + 1, h => by
    have ih := count_le n (fun i hi => h i (by omega))
    rw [List.range_succ, List.filter_append, List.filter_append, List.length_append, List.length_append]
    have : ([n].filter p).length ≤ ([n].filter q).length := by
      rcases hp : p n with _ | _
      · simp [hp]
      · simp [hp, h n (by omega) hp]
    omega
theorem count_lt {p q : Nat → Bool} : ∀ n, (∀ i, i < n → p i = true → q i = true) → (∃ b, b < n ∧ p b = false ∧ q b = true) → ((List.range n).filter p).length < ((List.range n).filter q).length
  | 0, _, ⟨b, h, _⟩ => absurd h (Nat.not_lt_zero _)
  | n + 1, h, ⟨b, hb, h1, h2⟩ => by
    rw [List.range_succ, List.filter_append, List.filter_append, List.length_append, List.length_append]
    by_cases hbn : b < n
    · have ih := count_lt n (fun i hi => h i (by omega)) ⟨b, hbn, h1, h2⟩
      have : ([n].filter p).length ≤ ([n].filter q).length := by
        rcases hp : p n with _ | _
        · simp [hp]
        · simp [hp, h n (by omega) hp]
      omega
    · obtain rfl : b = n := by omega
      have ih := count_le (p := p) (q := q) b (fun i hi => h i (by omega))
      have : ([b].filter p).length < ([b].filter q).length := by simp [h1, h2]
      omega
def closed (g : List (List Int)) (gone : Int) (o : List Bool) : Prop := ∀ a c : Nat, In o a → edgeB g a c = true → (c : Int) ≠ gone → In o c
theorem sweeps_grow {g : List (List Int)} {gone : Int} (hg : 0 < g.length) : ∀ k, closed g gone (sweeps g gone k) ∨ k + 1 ≤ ((List.range g.length).filter fun i => (sweeps g gone k).getD i false).length
  | 0 => by
    right
    have := count_lt (p := fun _ => false) (q := fun i => (sweeps g gone 0).getD i false) g.length (fun i _ h => by cases h) ⟨0, hg, rfl, by
      show ((List.replicate g.length false).set 0 true).getD 0 false = true
      rw [getD_set, if_pos ⟨rfl, by rw [List.length_replicate]; exact hg⟩]⟩
    omega
  | k + 1 => by
    have hl := sweeps_len g gone k
    rcases sweeps_grow hg k with h | h
    · left
      have hin : ∀ c, In (sweeps g gone (k + 1)) c → In (sweeps g gone k) c := sweep_keep (P := fun c => In (sweeps g gone k) c) (fun a c ha he hc => h a c ha he hc) g.length _ hl (fun c hc => hc)
      intro a c ha he hc
      exact sweep_mono hl _ (h a c (hin a ha) he hc)
    · by_cases hcl : closed g gone (sweeps g gone k)
      · left
        have hin : ∀ c, In (sweeps g gone (k + 1)) c → In (sweeps g gone k) c := sweep_keep (P := fun c => In (sweeps g gone k) c) (fun a c ha he hc => hcl a c ha he hc) g.length _ hl (fun c hc => hc)
        intro a c ha he hc
        exact sweep_mono hl _ (hcl a c (hin a ha) he hc)
      · right
        have : ∃ a c : Nat, In (sweeps g gone k) a ∧ edgeB g a c = true ∧ (c : Int) ≠ gone ∧ ¬ In (sweeps g gone k) c := by
          apply Classical.byContradiction
          intro hno
          exact hcl fun a c ha he hc => Classical.byContradiction fun hn => hno ⟨a, c, ha, he, hc, hn⟩
        obtain ⟨a, c, ha, he, hc, hn⟩ := this
        have hc1 : In (sweeps g gone (k + 1)) c := sweep_goes hl ha he hc g.length (edge_lt he).1
        have := count_lt (p := fun i => (sweeps g gone k).getD i false) (q := fun i => (sweeps g gone (k + 1)).getD i false) g.length (fun i _ hi => sweep_mono hl _ hi) ⟨c, (edge_lt he).2, by simpa [In] using hn, hc1⟩
        omega
theorem sweeps_way {g : List (List Int)} {gone : Int} (hg : 0 < g.length) (h0 : gone ≠ 0) : ∀ k c, In (sweeps g gone k) c → Way g gone c
  | 0, c, h => by
    have h' : ((List.replicate g.length false).set 0 true).getD c false = true := h
    rw [getD_set] at h'
    by_cases hc : 0 = c
    · subst hc; exact .root hg h0
    · rw [if_neg (fun x => hc x.1), List.getD_eq_getElem?_getD, List.getElem?_replicate] at h'
      split at h' <;> cases h'
  | k + 1, c, h => sweep_keep (P := Way g gone) (fun a c ha he hc => .step ha he hc) g.length _ (sweeps_len g gone k) (sweeps_way hg h0 k) c h
theorem without_iff {g : List (List Int)} {gone : Int} {c : Nat} : In (withoutL g gone) c ↔ Way g gone c := by
  unfold withoutL
  by_cases h : g.length = 0 ∨ gone = 0
  · rw [if_pos h]
    constructor
    · intro hc
      unfold In at hc
      rw [List.getD_eq_getElem?_getD, List.getElem?_replicate] at hc
      split at hc <;> cases hc
    · intro hw
      exfalso
      rcases h with h | h
      · have := hw.lt; omega
      · subst h
        have : ∀ c, Way g 0 c → False := by
          intro c hw
          induction hw with
          | root _ h => exact h rfl
          | step _ _ _ ih => exact ih
        exact this c hw
  · rw [if_neg h]
    have hg : 0 < g.length := by omega
    have h0 : gone ≠ 0 := fun e => h (Or.inr e)
    refine ⟨sweeps_way hg h0 _ c, fun hw => ?_⟩
    have hcl : closed g gone (sweeps g gone g.length) := by
      rcases sweeps_grow (gone := gone) hg g.length with h1 | h1
      · exact h1
      · have := List.length_filter_le (fun i => (sweeps g gone g.length).getD i false) (List.range g.length)
        rw [List.length_range] at this
        omega
    have hz : ∀ k, In (sweeps g gone k) 0 := by
      intro k
      induction k with
      | zero =>
        show ((List.replicate g.length false).set 0 true).getD 0 false = true
        rw [getD_set, if_pos ⟨rfl, by rw [List.length_replicate]; exact hg⟩]
      | succ k ih => exact sweep_mono (sweeps_len g gone k) _ ih
    induction hw with
    | root _ _ => exact hz _
    | step _ he hc ih => exact hcl _ _ ih he hc
theorem has_nat {l : List Bool} {a : Nat} : has l a = true ↔ In l a := by
  unfold has In
  rw [Int.toNat_natCast]
  by_cases h : a < l.length
  · rw [decide_eq_true ⟨by omega, by omega⟩]; simp
  · rw [decide_eq_false (by omega)]
    have : l.getD a false = false := by rw [List.getD_eq_getElem?_getD, List.getElem?_eq_none (by omega)]; rfl
    rw [this]; simp
/-- Who dominates whom, by ways. -/
theorem domB_iff {g : List (List Int)} {a b : Nat} : domB g a b = true ↔ Way g (-1) a ∧ Way g (-1) b ∧ (a = b ∨ ¬ Way g a b) := by
  unfold domB
  rw [Bool.and_eq_true, Bool.and_eq_true, has_nat, has_nat, without_iff, without_iff, Bool.or_eq_true, beq_iff_eq, Bool.not_eq_true', ← Bool.not_eq_true, has_nat, without_iff]
  constructor
  · rintro ⟨⟨h1, h2⟩, h3⟩
    exact ⟨h1, h2, h3.elim (fun h => Or.inl (Int.ofNat.inj h)) Or.inr⟩
  · rintro ⟨h1, h2, h3⟩
    exact ⟨⟨h1, h2⟩, h3.elim (fun h => Or.inl (by rw [h])) Or.inr⟩
end Go.Proofs.Ythanbedmiaacdaa.Gl
