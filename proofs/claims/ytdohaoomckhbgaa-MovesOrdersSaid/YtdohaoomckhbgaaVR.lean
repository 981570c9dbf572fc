/- A range over a function whose iterator writes blocks of its own between the rounds: one law for all of them. -/
import Derived.RangeFuncNested
import Derived.RangeFuncBound
import Derived.RangeFuncCalls
import Derived.RangeFuncLeaves
import Derived.WalkKit
namespace Go.Proofs.Ytdohaoomckhbgaa.Vr
open Go.RowKit
set_option linter.unusedVariables false
/-- Only blocks of M have turned (and hold no cells if they held none), and new ones have come. -/
structure It (M : Nat → Prop) (W W' : World) : Prop where
  os : W'.os = W.os
  tape : W'.tape = W.tape
  output : W'.output = W.output
  size : W.heap.size ≤ W'.heap.size
  block : ∀ k, k < W.heap.size → ¬ M k → W'.heap[k]? = W.heap[k]?
  kind : ∀ (k : Nat) (o : Obj), W.heap[k]? = some o → o.isCells = false → ∃ o' : Obj, W'.heap[k]? = some o' ∧ o'.isCells = false
theorem kind_block {W W' : World} {k : Nat} {o : Obj} (h : W.heap[k]? = some o) (hc : o.isCells = false) (hb : W'.heap[k]? = W.heap[k]?) : ∃ o' : Obj, W'.heap[k]? = some o' ∧ o'.isCells = false := ⟨o, hb.trans h, hc⟩
theorem It.refl (M : Nat → Prop) (W : World) : It M W W := ⟨rfl, rfl, rfl, Nat.le_refl _, fun _ _ _ => rfl, fun k o h hc => ⟨o, h, hc⟩⟩
theorem It.trans {M : Nat → Prop} {A B C : World} (h : It M A B) (k : It M B C) : It M A C :=
  ⟨k.os.trans h.os, k.tape.trans h.tape, k.output.trans h.output, Nat.le_trans h.size k.size, fun i hi hn => (k.block i (Nat.lt_of_lt_of_le hi h.size) hn).trans (h.block i hi hn), fun i o hi hc => by
    obtain ⟨o', h1, h2⟩ := h.kind i o hi hc
    exact k.kind i o' h1 h2⟩
theorem It.of_grown {M : Nat → Prop} {A B : World} {row : Option Nat} (h : A.grownBy B row) (hr : ∀ k, row = some k → M k ∧ ∃ o, B.heap[k]? = some o ∧ o.isCells = false) : It M A B :=
  ⟨h.os, h.tape, h.output, h.size, fun k hk hn => h.block k hk (fun e => hn (hr k e.symm).1), fun k o hk hc => by
    by_cases e : row = some k
    · exact (hr k e).2
    · exact kind_block hk hc (h.block k (Array.getElem?_eq_some_iff.1 hk).1 (fun e' => e e'.symm))⟩
theorem It.of_below {M : Nat → Prop} {A B : World} (h : Below A.heap.size A B) : It M A B := ⟨h.os, h.tape, h.output, h.size, fun k hk _ => h.block k hk, fun k o hk hc => kind_block hk hc (h.block k (Array.getElem?_eq_some_iff.1 hk).1)⟩
/-- .. and what is no cells, from B on. -/
structure Tn (M : Nat → Prop) (B : Nat) (W W' : World) : Prop where
  os : W'.os = W.os
  tape : W'.tape = W.tape
  output : W'.output = W.output
  size : W.heap.size ≤ W'.heap.size
  block : ∀ k o, W.heap[k]? = some o → ¬ M k → (k < B ∨ o.isCells = true) → W'.heap[k]? = some o
  kind : ∀ (k : Nat) (o : Obj), W.heap[k]? = some o → o.isCells = false → ∃ o' : Obj, W'.heap[k]? = some o' ∧ o'.isCells = false
theorem It.tn {M : Nat → Prop} {W W' : World} (h : It M W W') (B : Nat) : Tn M B W W' :=
  ⟨h.os, h.tape, h.output, h.size, fun k o hk hn _ => (h.block k (Array.getElem?_eq_some_iff.1 hk).1 hn).trans hk, h.kind⟩
theorem Tn.trans {M : Nat → Prop} {B : Nat} {X Y Z : World} (h : Tn M B X Y) (k : Tn M B Y Z) : Tn M B X Z :=
  ⟨k.os.trans h.os, k.tape.trans h.tape, k.output.trans h.output, Nat.le_trans h.size k.size, fun i o hi hn hor => k.block i o (h.block i o hi hn hor) hn hor, fun i o hi hc => by
    obtain ⟨o', h1, h2⟩ := h.kind i o hi hc
    exact k.kind i o' h1 h2⟩
theorem tn_put {M : Nat → Prop} {B l : Nat} (W : World) (o o' : Obj) (hl : W.heap[l]? = some o) (hB : B ≤ l) (hc : o.isCells = false) (hc' : o'.isCells = false := by rfl) : Tn M B W (W.putObj l o') := by
  have hg := grownBy_putObj' W l o'
  refine ⟨hg.os, hg.tape, hg.output, hg.size, fun k p hk hn hor => ?_, fun k p hk hp => ?_⟩
  · refine (World.putObj_heap_other fun e => ?_).trans hk
    subst e
    rw [hl] at hk
    cases hk
    rcases hor with h | h
    · omega
    · rw [hc] at h; cases h
  · by_cases e : k = l
    · subst e
      exact ⟨o', World.putObj_heap_same (Array.getElem?_eq_some_iff.1 hk).1, hc'⟩
    · exact ⟨p, (World.putObj_heap_other e).trans hk, hp⟩
/-- What R names lies as it lay. -/
def Rd (R : Nat → Obj → Prop) (W W' : World) : Prop := ∀ k o, W.heap[k]? = some o → R k o → W'.heap[k]? = some o
theorem Rd.refl (R : Nat → Obj → Prop) (W : World) : Rd R W W := fun _ _ h _ => h
theorem Rd.trans {R : Nat → Obj → Prop} {A B C : World} (h : Rd R A B) (k : Rd R B C) : Rd R A C := fun i o hi hr => k i o (h i o hi hr) hr
theorem Rd.of_below {R : Nat → Obj → Prop} {A B : World} (h : Below A.heap.size A B) : Rd R A B := fun k o hk _ => (h.block k (Array.getElem?_eq_some_iff.1 hk).1).trans hk
theorem rd_put {R : Nat → Obj → Prop} {B l : Nat} (W : World) (o o' : Obj) (ho : W.heap[l]? = some o) (hl : B ≤ l) (hc : o.isCells = false) (hR : ∀ k p, R k p → k < B ∨ p.isCells = true) : Rd R W (W.putObj l o') := fun k p hk hr => by
  refine (World.putObj_heap_other fun e => ?_).trans hk
  subst e
  rw [ho] at hk
  cases hk
  rcases hR _ _ hr with h | h
  · omega
  · rw [hc] at h; cases h
/-- How a round's body may be left. -/
def rPost {α : Type} (B : Nat) (R : Nat → Obj → Prop) (I : List α → World → Prop) (Ix : Code → List α → World → Prop) (xs : List α) (W : World) : Exit → Act → World → Prop
  | .normal, _, W' => KeepsFrom B W W' ∧ Rd R W W' ∧ I xs W'
  | .ret, _, W' => KeepsFrom B W W' ∧ Ix .ret xs W'
  | .exit id, _, W' => KeepsFrom B W W' ∧ Ix (.exit id) xs W'
  | .goto t, _, W' => KeepsFrom B W W' ∧ Ix (.goto t) xs W'
  | .panic _, _, _ => False
  | .outgrown, _, _ => False
/-- What an iterator promises: it turns the blocks of M alone; it leans on those of R; Fin: what has come, and how its blocks lie then. -/
def Seq {α : Type} (F : Fence) (n : Nat) (P : Program) (g : Nat) (lb : Array Value) (encs : α → Array Value) (M : Nat → Prop) (R : Nat → Obj → Prop) (Pr : List α → α → Prop) (Fin : List α → World → Prop) (w : World) : Prop :=
  ∀ (l : Nat) (J Jx : List α → World → Prop) (W : World), Below w.heap.size w W → (∀ s A B, J s A → It M A B → J s B) →
    (∀ pre x W1, J pre W1 → Pr pre x → YieldAt F (n - 1) P l (encs x) W1 fun e W' => (e = .returned (.bool true) ∧ J (pre ++ [x]) W' ∧ W1.heap.size ≤ W'.heap.size ∧ Rd R W1 W') ∨ (e = .returned (.bool false) ∧ Jx (pre ++ [x]) W')) →
    J [] W → CallsIn F n P g (#[.func (.yield l) #[] #[]] ++ lb) W fun e W' => (∃ v, e = .returned v) ∧ ((∃ xs, Fin xs W' ∧ J xs W') ∨ (∃ pre, Jx pre W'))
variable {F : Fence} {n : Nat} {P : Program}
theorem wp_range {α : Type} {g : Operand} {ps : Array Tmp} {assign body : Code} {Q : Exit → Act → World → Prop} {a : Act} {w : World}
    (hro : F.round = none) (h1 : 1 ≤ n) {gf : Nat} {lb : Array Value} (hg : a.eval g = .func (.func gf) #[] lb) (hFg : F.fn gf) (eg : ∀ args w, (callFunc gf args).run P w = .ok (.enter gf args) w)
    {encs : α → Array Value} {M : Nat → Prop} {R : Nat → Obj → Prop} {Pr : List α → α → Prop} {Fin : List α → World → Prop} (hseq : Seq F (n - 1) P gf lb encs M R Pr Fin w) (hM : ∀ k, M k → k < w.heap.size) (hR : ∀ k o, R k o → k < w.heap.size ∨ o.isCells = true) (hps : ∀ x, (encs x).size = ps.size)
    (hFin : ∀ xs W l o, Fin xs W → w.heap.size ≤ l → Fin xs (W.putObj l o))
    (I : List α → World → Prop) (Ix : Code → List α → World → Prop) (hI : ∀ s A B, I s A → Tn M w.heap.size A B → I s B) (hIx : ∀ c s A B, Ix c s A → Tn M w.heap.size A B → Ix c s B) (h0 : I [] w) (a₁ : α → Act)
    (hassign : ∀ (l : Nat) (x : α) (W : World) (K : Act → World → Prop), K (a₁ x) W →
      assign.wpIn (F.inRound l) (n - 1 - 1) P (Exit.then K (fun _ _ _ => False)) { tmps := (ps.zip (encs x)).foldl (fun t (p, v) => t.setIfInBounds p v) a.tmps, defers := [] } W)
    (hbody : ∀ (l : Nat) (pre : List α) (x : α) (W : World), w.heap.size ≤ W.heap.size → I pre W → Pr pre x → body.wpIn (F.inRound l) (n - 1 - 1) P (rPost w.heap.size R I Ix (pre ++ [x]) W) (a₁ x) W)
    (hdone : ∀ (D : Nat) (xs : List α) (W : World), w.heap.size ≤ D → Fin xs W → I xs W → W.heap[D]? = some (.deferred (some [])) → Q .normal { a with defers := { target := .collected D, args := #[] } :: a.defers } W)
    (hstop : ∀ (D : Nat) (c : Code) (pre : List α) (W : World), w.heap.size ≤ D → Ix c pre W → W.heap[D]? = some (.deferred (some [])) → c.wpIn F n P Q { a with defers := { target := .collected D, args := #[] } :: a.defers } W) :
    (Code.rangeFunc g ps assign body).wpIn F n P Q a w := by
  refine wpIn_rangeFunc fun fn hfn => ?_
  rw [hro]
  obtain ⟨rec, hrec⟩ : ∃ rec : LoopState → Option Code → Loop, rec = fun st pe => { state := st, pending := pe, fn, tmps := a.tmps, params := ps, assign, body, defers := w.heap.size } := ⟨_, rfl⟩
  obtain ⟨W1, hW1⟩ : ∃ W1, (w.alloc (.deferred (some []))).alloc (.loop (rec .ready none)) = W1 := ⟨_, rfl⟩
  have hb1 : Below w.heap.size w W1 := by rw [← hW1]; exact ((Below.refl _ w).alloc (Nat.le_refl _) _).alloc (by simp) _
  have hL1 : W1.heap[w.heap.size + 1]? = some (.loop (rec .ready none)) := by
    rw [← hW1]; have := World.alloc_heap_new (w.alloc (.deferred (some []))) (.loop (rec .ready none)); rwa [World.size_alloc] at this
  have hK1 : W1.heap[w.heap.size]? = some (.deferred (some [])) := by
    rw [← hW1]; exact (Below.heap_alloc _ _ _ (by simp)).trans (World.alloc_heap_new w _)
  refine ⟨w.heap.size + 1, [{ target := .collected w.heap.size, args := #[] }], W1, { target := .fn (.func gf) lb, args := #[.func (.yield (w.heap.size + 1)) #[] #[]] }, W1, gf,
    #[.func (.yield (w.heap.size + 1)) #[] #[]] ++ lb, W1, by rw [← hW1, hrec]; exact run_enterLoop_outer _ _ _ _ _, by simp only [resolve, hg]; simp [go_sem], ?_, by simp [invoke, go_sem, eg], fun _ => h1, ?_⟩
  · intro f' hf'; simp [Target.leads] at hf'; subst hf'; exact hFg
  have hnm : ∀ k, w.heap.size ≤ k → ¬ M k := fun k hk hm => by have := hM k hm; omega
  have keep : ∀ {k : Nat} {o : Obj} {A B : World}, w.heap.size ≤ k → A.heap[k]? = some o → It M A B → B.heap[k]? = some o := fun hk h hab => (hab.block _ (Array.getElem?_eq_some_iff.1 h).1 (hnm _ hk)).trans h
  refine (hseq (w.heap.size + 1)
    (fun pre W => I pre W ∧ w.heap.size ≤ W.heap.size ∧ W.heap[w.heap.size + 1]? = some (.loop (rec .ready none)) ∧ W.heap[w.heap.size]? = some (.deferred (some [])))
    (fun pre W => ∃ c, Ix c pre W ∧ W.heap[w.heap.size + 1]? = some (.loop (rec .done (some c))) ∧ W.heap[w.heap.size]? = some (.deferred (some [])))
    W1 hb1 (fun s A B h hab => ⟨hI s A B h.1 (hab.tn _), Nat.le_trans h.2.1 hab.size, keep (by omega) h.2.2.1 hab, keep (Nat.le_refl _) h.2.2.2 hab⟩) ?_
    ⟨hI [] w W1 h0 ((It.of_below hb1).tn _), hb1.size, hL1, hK1⟩).mono ?_
  · rintro pre x W ⟨hi, hsz, hl, hk⟩ hpr
    have hlt : w.heap.size + 1 < W.heap.size := (Array.getElem?_eq_some_iff.1 hl).1
    have hy := run_yield (P := P) (args := encs x) hl (by rw [hrec]; exact hps x)
    rw [hrec] at hy
    refine ⟨fn, _, assign, body, hy, roundIn_of_wpIn hfn (hassign _ x W _ ⟨_, run_beginRound hl (by rw [hrec]), ?_⟩)⟩
    have hl2 : (W.putObj (w.heap.size + 1) (.loop { rec .ready none with state := .busy })).heap[w.heap.size + 1]? = some (.loop { rec .ready none with state := .busy }) := World.putObj_heap_same hlt
    have hk2 : (W.putObj (w.heap.size + 1) (.loop { rec .ready none with state := .busy })).heap[w.heap.size]? = some (.deferred (some [])) := (World.putObj_heap_other (by omega)).trans hk
    refine wpIn_mono (hbody _ pre x _ (by simpa using hsz) (hI _ _ _ hi (tn_put _ _ _ hl (by omega) rfl)) hpr) ?_
    have fin : ∀ (jump : Option Code) (W3 : World), KeepsFrom w.heap.size (W.putObj (w.heap.size + 1) (.loop { rec .ready none with state := .busy })) W3 →
        (Instr.endRound (w.heap.size + 1) jump).run P W3 = .ok (.bool jump.isNone) (W3.putObj (w.heap.size + 1) (.loop (rec (if jump.isNone then .ready else .done) jump))) ∧
        W3.heap[w.heap.size + 1]? = some (.loop { rec .ready none with state := .busy }) ∧
        (W3.putObj (w.heap.size + 1) (.loop (rec (if jump.isNone then .ready else .done) jump))).heap[w.heap.size + 1]? = some (.loop (rec (if jump.isNone then .ready else .done) jump)) ∧
        (W3.putObj (w.heap.size + 1) (.loop (rec (if jump.isNone then .ready else .done) jump))).heap[w.heap.size]? = some (.deferred (some [])) := fun jump W3 hk3 => by
      have hl3 := hk3.same _ _ (by omega) hl2 rfl
      have := run_endRound (P := P) jump hl3
      rw [hrec] at this ⊢
      exact ⟨this, by rw [hrec] at hl3; exact hl3, World.putObj_heap_same (Array.getElem?_eq_some_iff.1 hl3).1, (World.putObj_heap_other (by omega)).trans (hk3.same _ _ (Nat.le_refl _) hk2 rfl)⟩
    rintro e a3 W3 hp
    cases e with
    | normal =>
      obtain ⟨hk3, hr3, hi3⟩ := hp
      obtain ⟨hr, hl3, hl4, hk4⟩ := fin none W3 hk3
      have hs3 := hk3.size
      refine ⟨_, _, hr, .inl ⟨rfl, ⟨hI _ _ _ hi3 (tn_put _ _ _ hl3 (by omega) rfl), ?_, hl4, hk4⟩, ?_, ?_⟩⟩
      · simp at hs3 ⊢; omega
      · simp at hs3 ⊢; omega
      · exact ((rd_put _ _ _ hl (by omega) rfl hR).trans hr3).trans (rd_put _ _ _ hl3 (by omega) rfl hR)
    | ret =>
      obtain ⟨hk3, hi3⟩ := hp
      obtain ⟨hr, hl3, hl4, hk4⟩ := fin (some .ret) W3 hk3
      exact ⟨_, _, hr, .inr ⟨rfl, .ret, hIx _ _ _ _ hi3 (tn_put _ _ _ hl3 (by omega) rfl), hl4, hk4⟩⟩
    | exit id =>
      obtain ⟨hk3, hi3⟩ := hp
      obtain ⟨hr, hl3, hl4, hk4⟩ := fin (some (.exit id)) W3 hk3
      exact ⟨_, _, hr, .inr ⟨rfl, .exit id, hIx _ _ _ _ hi3 (tn_put _ _ _ hl3 (by omega) rfl), hl4, hk4⟩⟩
    | goto t =>
      obtain ⟨hk3, hi3⟩ := hp
      obtain ⟨hr, hl3, hl4, hk4⟩ := fin (some (.goto t)) W3 hk3
      exact ⟨_, _, hr, .inr ⟨rfl, .goto t, hIx _ _ _ _ hi3 (tn_put _ _ _ hl3 (by omega) rfl), hl4, hk4⟩⟩
    | panic ch => exact hp.elim
    | outgrown => exact hp.elim
  · rintro e W2 ⟨⟨v, rfl⟩, (⟨xs, hS, hi, _, hl, hk⟩ | ⟨pre, c, hi, hl, hk⟩)⟩
    · exact ⟨none, _, by have := run_endLoop (P := P) hl (by rw [hrec]; simp); rw [hrec] at this; exact this, hdone _ xs _ (Nat.le_refl _) (hFin _ _ _ _ hS (by omega)) (hI _ _ _ hi (tn_put _ _ _ hl (by omega) rfl)) ((World.putObj_heap_other (by omega)).trans hk)⟩
    · exact ⟨some c, _, by have := run_endLoop (P := P) hl (by rw [hrec]; simp); rw [hrec] at this; exact this, hstop _ c pre _ (Nat.le_refl _) (hIx _ _ _ _ hi (tn_put _ _ _ hl (by omega) rfl)) ((World.putObj_heap_other (by omega)).trans hk)⟩
end Go.Proofs.Ytdohaoomckhbgaa.Vr
