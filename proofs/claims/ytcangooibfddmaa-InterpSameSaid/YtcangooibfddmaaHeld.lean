/- A region that draws its order, walked in one order; what is held of the world is shown behind the last operation, too. -/
import Derived.Test.YtcangooibfddmaaBridge
namespace Go.Proofs.Ytcangooibfddmaa.Br
open Go Go.RowKit Go.Proofs.Ytcangooibfddmaa.Mem
set_option linter.unusedVariables false
variable {P : Program}
def planC (md : Region.Mode) (ops : Array Oper) (st : List Nat) : List Nat → Array Bool → Bool
  | [], listed => (Region.ready md ops listed).isEmpty
  | i :: ord, listed => (if st.contains i then Region.free md ops listed i && (Region.ready md ops listed).contains i else decide (Region.ready md ops listed = [i])) && planC md ops st ord (listed.setIfInBounds i true)
def walkC (P : Program) (ops : Array Oper) (Q : Exit → Act → World → Prop) (S : World → Prop) (st : List Nat) : List Nat → Act → World → Prop
  | [], a, w => Q .normal a w
  | i :: ord, a, w => if st.contains i then ∃ o v, ops[i]? = some o ∧ YieldsIf P ops S o v a ∧ walkC P ops Q S st ord (a.put o.dst v) w
      else wpOp P ops Q i (fun a' w' => S w' ∧ walkC P ops Q S st ord a' w') a w
theorem wpAnyT_planC {md : Region.Mode} {ops : Array Oper} {Q : Exit → Act → World → Prop} {S : World → Prop} {st : List Nat} (hs : Region.noSelect ops = true) (hQ : ∀ c a d v w, Q (.panic c) (Act.put a d v) w → Q (.panic c) a w) :
    ∀ (ord : List Nat) (listed : Array Bool) (a : Act) (w : World), planC md ops st ord listed = true → S w → walkC P ops Q S st ord a w → wpAnyT P md ops Q S ord.length listed a w
  | [], listed, a, w, hp, hS, h => ⟨by simpa [planC] using hp, h⟩
  | i :: ord, listed, a, w, hp, hS, h => by
    unfold planC at hp
    unfold walkC at h
    rw [Bool.and_eq_true] at hp
    obtain ⟨hp1, hp2⟩ := hp
    by_cases hi : st.contains i = true
    · rw [if_pos hi] at hp1 h
      rw [Bool.and_eq_true] at hp1
      obtain ⟨o, v, ho, hy, h⟩ := h
      exact wpAnyT_first ho (Region.noSelect_spec hs) (fun c a w => hQ c a _ v w) _ _ _ _ (Region.free_spec ho hp1.1) (by simpa using hp1.2) hy hS (wpAnyT_planC hs hQ ord _ _ _ hp2 hS h)
    · rw [if_neg hi] at hp1 h
      have hr := of_decide_eq_true hp1
      refine ⟨fun e => (by rw [hr] at e; cases e), fun j hj => ?_⟩
      rw [hr, List.mem_singleton] at hj
      subst hj
      exact wpOp_mono (fun a' w' h' => ⟨Or.inl h'.1, wpAnyT_planC hs hQ ord _ _ _ hp2 h'.1 h'.2⟩) h
theorem region_heldC_wp {id : Nat} {l : List Oper} {Q : Exit → Act → World → Prop} {a : Act} {w : World} (S : World → Prop) (st ord : List Nat) (hm : P.follows .mixedOrders = true)
    (hs : Region.noSelect l.toArray = true) (hB : planC .any l.toArray st ord (Array.replicate l.toArray.size false) = true) (hl : ord.length = l.toArray.size) (hpan : ∀ c a d v w, Q (.panic c) (Act.put a d v) w → Q (.panic c) a w)
    (hS : S { w with drawn := w.drawn + 1 }) (h : walkC P l.toArray Q S st ord a { w with drawn := w.drawn + 1 }) : (Code.region id l.toArray true).wp P Q a w := by
  refine wp_region_any hm (wpAny_of_T (S := S) _ _ _ _ ?_)
  have h2 := wpAnyT_planC hs hpan ord _ _ _ hB hS h
  rw [hl] at h2
  exact h2
theorem walkC_still {ops : Array Oper} {Q : Exit → Act → World → Prop} {S : World → Prop} {st ord : List Nat} {i : Nat} {a : Act} {w : World} (o : Oper) (v : Value) (ho : (ops.toList.drop i).head? = some o) (hi : st.contains i = true)
    (hw : Region.wanted o (yielded ops a.tmps) = true) (hy : ∀ w, S w → (execOp a.eval o).run P w = .ok (.value v) w) (h : walkC P ops Q S st ord (a.put o.dst v) w) : walkC P ops Q S st (i :: ord) a w := by
  unfold walkC
  rw [if_pos hi]
  exact ⟨o, v, at_drop ho, Or.inl ⟨hw, hy⟩, h⟩
theorem walkC_skip {ops : Array Oper} {Q : Exit → Act → World → Prop} {S : World → Prop} {st ord : List Nat} {i : Nat} {a : Act} {w : World} (o : Oper) (ho : (ops.toList.drop i).head? = some o) (hi : st.contains i = true)
    (hw : Region.wanted o (yielded ops a.tmps) = false) (h : walkC P ops Q S st ord (a.put o.dst undef) w) : walkC P ops Q S st (i :: ord) a w := by
  unfold walkC
  rw [if_pos hi]
  exact ⟨o, _, at_drop ho, Or.inr ⟨hw, rfl⟩, h⟩
/-- What is asked behind an operation that turns the world. -/
def BehindC (P : Program) (ops : Array Oper) (Q : Exit → Act → World → Prop) (S : World → Prop) (st ord : List Nat) (e : Exit) (a : Act) (w : World) : Prop :=
  match e with
  | .normal => S w ∧ walkC P ops Q S st ord a w
  | e => Q e a w
theorem behindC {ops : Array Oper} {Q : Exit → Act → World → Prop} {S : World → Prop} {st ord : List Nat} {a : Act} {w : World} (hS : S w) (h : walkC P ops Q S st ord a w) : BehindC P ops Q S st ord .normal a w := ⟨hS, h⟩
theorem walkC_nil {ops : Array Oper} {Q : Exit → Act → World → Prop} {S : World → Prop} {st : List Nat} {a : Act} {w : World} (h : Q .normal a w) : walkC P ops Q S st [] a w := h
theorem walkC_does {ops : Array Oper} {Q : Exit → Act → World → Prop} {S : World → Prop} {st ord : List Nat} {i : Nat} {a : Act} {w : World} (o : Oper) (ho : (ops.toList.drop i).head? = some o) (hi : st.contains i = false)
    (h : wpList P ops (BehindC P ops Q S st ord) [o] a w) : walkC P ops Q S st (i :: ord) a w := by
  unfold walkC
  rw [if_neg (by rw [hi]; simp)]
  unfold wpOp
  simp only [at_drop ho]
  unfold wpList at h
  by_cases hw : Region.wanted o (yielded ops a.tmps) = true
  · rw [if_pos hw] at h ⊢
    rcases h with h | ⟨h1, h2⟩
    · left
      unfold Oper.wp at h ⊢
      revert h
      cases (execOp a.eval o).run P w with
      | ok x w' =>
        cases x with
        | enter f args =>
          intro h
          refine Calls.mono h ?_
          intro e w'' he
          cases e with
          | outgrown => obtain ⟨a', w3, he⟩ := he; exact ⟨a', w3, he⟩
          | returned v => exact he
          | panicked c => exact he
        | _ => exact fun h => h
      | halt x w' => cases x <;> exact fun h => h
    · exact Or.inr ⟨h1, h2⟩
  · rw [if_neg hw] at h ⊢
    exact h
end Go.Proofs.Ytcangooibfddmaa.Br
