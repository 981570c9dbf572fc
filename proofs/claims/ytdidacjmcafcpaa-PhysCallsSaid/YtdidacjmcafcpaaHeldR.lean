/- A region that draws its order, walked along a tree of orders: where two operations may come next, one or the other. -/
import Derived.Test.YtdidacjmcafcpaaHeld
namespace Go.Proofs.Ytdidacjmcafcpaa.Br
open Go Go.RowKit Go.Proofs.Ytdidacjmcafcpaa.Mem
set_option linter.unusedVariables false
variable {P : Program}
inductive Tree where
  | done : Tree
  | step : Nat → Tree → Tree
  | fork : Nat → Nat → Tree → Tree → Tree
def Tree.size : Tree → Nat
  | .done => 0
  | .step _ t => t.size + 1
  | .fork _ _ t _ => t.size + 1
def planR (md : Region.Mode) (ops : Array Oper) (st : List Nat) : Tree → Array Bool → Bool
  | .done, listed => (Region.ready md ops listed).isEmpty
  | .step i t, listed => (if st.contains i then Region.free md ops listed i && (Region.ready md ops listed).contains i else decide (Region.ready md ops listed = [i])) && planR md ops st t (listed.setIfInBounds i true)
  | .fork i j ti tj, listed => decide (Region.ready md ops listed = [i, j]) && (decide (ti.size = tj.size) && (planR md ops st ti (listed.setIfInBounds i true) && planR md ops st tj (listed.setIfInBounds j true)))
def walkR (P : Program) (ops : Array Oper) (Q : Exit → Act → World → Prop) (S : World → Prop) (st : List Nat) : Tree → Act → World → Prop
  | .done, a, w => Q .normal a w
  | .step i t, a, w => if st.contains i then ∃ o v, ops[i]? = some o ∧ YieldsIf P ops S o v a ∧ walkR P ops Q S st t (a.put o.dst v) w
      else wpOp P ops Q i (fun a' w' => S w' ∧ walkR P ops Q S st t a' w') a w
  | .fork i j ti tj, a, w => wpOp P ops Q i (fun a' w' => S w' ∧ walkR P ops Q S st ti a' w') a w ∧ wpOp P ops Q j (fun a' w' => S w' ∧ walkR P ops Q S st tj a' w') a w
theorem wpAnyT_planR {md : Region.Mode} {ops : Array Oper} {Q : Exit → Act → World → Prop} {S : World → Prop} {st : List Nat} (hs : Region.noSelect ops = true) (hQ : ∀ c a d v w, Q (.panic c) (Act.put a d v) w → Q (.panic c) a w) :
    ∀ (t : Tree) (listed : Array Bool) (a : Act) (w : World), planR md ops st t listed = true → S w → walkR P ops Q S st t a w → wpAnyT P md ops Q S t.size listed a w
  | .done, listed, a, w, hp, hS, h => ⟨by simpa [planR] using hp, h⟩
  | .step i t, listed, a, w, hp, hS, h => by
    unfold planR at hp
    unfold walkR at h
    rw [Bool.and_eq_true] at hp
    obtain ⟨hp1, hp2⟩ := hp
    by_cases hi : st.contains i = true
    · rw [if_pos hi] at hp1 h
      rw [Bool.and_eq_true] at hp1
      obtain ⟨o, v, ho, hy, h⟩ := h
      exact wpAnyT_first ho (Region.noSelect_spec hs) (fun c a w => hQ c a _ v w) _ _ _ _ (Region.free_spec ho hp1.1) (by simpa using hp1.2) hy hS (wpAnyT_planR hs hQ t _ _ _ hp2 hS h)
    · rw [if_neg hi] at hp1 h
      have hr := of_decide_eq_true hp1
      refine ⟨fun e => (by rw [hr] at e; cases e), fun j hj => ?_⟩
      rw [hr, List.mem_singleton] at hj
      subst hj
      exact wpOp_mono (fun a' w' h' => ⟨Or.inl h'.1, wpAnyT_planR hs hQ t _ _ _ hp2 h'.1 h'.2⟩) h
  | .fork i j ti tj, listed, a, w, hp, hS, h => by
    unfold planR at hp
    unfold walkR at h
    rw [Bool.and_eq_true, Bool.and_eq_true, Bool.and_eq_true] at hp
    obtain ⟨hp1, hp2, hp3, hp4⟩ := hp
    have hr := of_decide_eq_true hp1
    have hsz := of_decide_eq_true hp2
    refine ⟨fun e => (by rw [hr] at e; cases e), fun k hk => ?_⟩
    rw [hr] at hk
    rcases List.mem_cons.1 hk with rfl | hk
    · exact wpOp_mono (fun a' w' h' => ⟨Or.inl h'.1, wpAnyT_planR hs hQ ti _ _ _ hp3 h'.1 h'.2⟩) h.1
    · rw [List.mem_singleton] at hk
      subst hk
      refine wpOp_mono (fun a' w' h' => ⟨Or.inl h'.1, ?_⟩) h.2
      have h9 := wpAnyT_planR hs hQ tj _ _ _ hp4 h'.1 h'.2
      rw [← hsz] at h9
      exact h9
theorem region_heldR_wp {id : Nat} {l : List Oper} {Q : Exit → Act → World → Prop} {a : Act} {w : World} (S : World → Prop) (st : List Nat) (t : Tree) (hm : P.follows .mixedOrders = true)
    (hs : Region.noSelect l.toArray = true) (hB : planR .any l.toArray st t (Array.replicate l.toArray.size false) = true) (hl : t.size = l.toArray.size) (hpan : ∀ c a d v w, Q (.panic c) (Act.put a d v) w → Q (.panic c) a w)
    (hS : S { w with drawn := w.drawn + 1 }) (h : walkR P l.toArray Q S st t a { w with drawn := w.drawn + 1 }) : (Code.region id l.toArray true).wp P Q a w := by
  refine wp_region_any hm (wpAny_of_T (S := S) _ _ _ _ ?_)
  have h2 := wpAnyT_planR hs hpan t _ _ _ hB hS h
  rw [hl] at h2
  exact h2
theorem walkR_still {ops : Array Oper} {Q : Exit → Act → World → Prop} {S : World → Prop} {st : List Nat} {t : Tree} {i : Nat} {a : Act} {w : World} (o : Oper) (v : Value) (ho : (ops.toList.drop i).head? = some o) (hi : st.contains i = true)
    (hw : Region.wanted o (yielded ops a.tmps) = true) (hy : ∀ w, S w → (execOp a.eval o).run P w = .ok (.value v) w) (h : walkR P ops Q S st t (a.put o.dst v) w) : walkR P ops Q S st (.step i t) a w := by
  unfold walkR
  rw [if_pos hi]
  exact ⟨o, v, at_drop ho, Or.inl ⟨hw, hy⟩, h⟩
def BehindR (P : Program) (ops : Array Oper) (Q : Exit → Act → World → Prop) (S : World → Prop) (st : List Nat) (t : Tree) (e : Exit) (a : Act) (w : World) : Prop :=
  match e with
  | .normal => S w ∧ walkR P ops Q S st t a w
  | e => Q e a w
theorem behindR {ops : Array Oper} {Q : Exit → Act → World → Prop} {S : World → Prop} {st : List Nat} {t : Tree} {a : Act} {w : World} (hS : S w) (h : walkR P ops Q S st t a w) : BehindR P ops Q S st t .normal a w := ⟨hS, h⟩
theorem walkR_done {ops : Array Oper} {Q : Exit → Act → World → Prop} {S : World → Prop} {st : List Nat} {a : Act} {w : World} (h : Q .normal a w) : walkR P ops Q S st .done a w := h
theorem wpOp_listR {ops : Array Oper} {Q : Exit → Act → World → Prop} {S : World → Prop} {st : List Nat} {t : Tree} {i : Nat} {a : Act} {w : World} (o : Oper) (ho : (ops.toList.drop i).head? = some o)
    (h : wpList P ops (BehindR P ops Q S st t) [o] a w) : wpOp P ops Q i (fun a' w' => S w' ∧ walkR P ops Q S st t a' w') a w := by
  unfold wpOp
  simp only [at_drop ho]
  unfold wpList at h
  by_cases hw : Region.wanted o (yielded ops a.tmps) = true
  · rw [if_pos hw] at h ⊢
    rcases h with h | ⟨h1, h2⟩
    · left
      unfold Oper.wp at h ⊢
      revert h
      cases (execOp a.eval o).run P w with
      | ok x w' =>
        cases x with
        | enter f args =>
          intro h
          refine Calls.mono h ?_
          intro e w'' he
          cases e with
          | outgrown => obtain ⟨a', w3, he⟩ := he; exact ⟨a', w3, he⟩
          | returned v => exact he
          | panicked c => exact he
        | _ => exact fun h => h
      | halt x w' => cases x <;> exact fun h => h
    · exact Or.inr ⟨h1, h2⟩
  · rw [if_neg hw] at h ⊢
    exact h
theorem walkR_does {ops : Array Oper} {Q : Exit → Act → World → Prop} {S : World → Prop} {st : List Nat} {t : Tree} {i : Nat} {a : Act} {w : World} (o : Oper) (ho : (ops.toList.drop i).head? = some o) (hi : st.contains i = false)
    (h : wpList P ops (BehindR P ops Q S st t) [o] a w) : walkR P ops Q S st (.step i t) a w := by
  unfold walkR
  rw [if_neg (by rw [hi]; simp)]
  exact wpOp_listR o ho h
theorem walkR_fork {ops : Array Oper} {Q : Exit → Act → World → Prop} {S : World → Prop} {st : List Nat} {ti tj : Tree} {i j : Nat} {a : Act} {w : World} (o u : Oper) (ho : (ops.toList.drop i).head? = some o) (hu : (ops.toList.drop j).head? = some u)
    (h1 : wpList P ops (BehindR P ops Q S st ti) [o] a w) (h2 : wpList P ops (BehindR P ops Q S st tj) [u] a w) : walkR P ops Q S st (.fork i j ti tj) a w := by
  unfold walkR
  exact ⟨wpOp_listR o ho h1, wpOp_listR u hu h2⟩
end Go.Proofs.Ytdidacjmcafcpaa.Br
