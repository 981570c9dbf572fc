/- A region that draws its order, walked by what holds between any two of its operations, whatever order they come in. -/
import Derived.Test.YtdidacjmcafcpaaBridge
namespace Go.Proofs.Ytdidacjmcafcpaa.Br
open Go Go.RowKit Go.Proofs.Ytdidacjmcafcpaa.Mem
set_option linter.unusedVariables false
variable {P : Program}
def leftN (listed : Array Bool) : Nat := (listed.toList.filter fun b => !b).length
theorem filter_set_true : ∀ (l : List Bool) (i : Nat), l[i]? = some false → ((l.set i true).filter fun b => !b).length + 1 = (l.filter fun b => !b).length
  | [], i, h => by simp at h
  | b :: l, 0, h => by
    simp at h
    subst h
    simp
  | b :: l, i + 1, h => by
    have h2 := filter_set_true l i (by simpa using h)
    cases b <;> simp [List.set] at h2 ⊢ <;> omega
theorem leftN_set {listed : Array Bool} {i : Nat} (h : listed.getD i true = false) : leftN (listed.setIfInBounds i true) + 1 = leftN listed := by
  unfold leftN
  have h2 : listed.toList[i]? = some false := by
    rw [Array.getElem?_toList]
    cases hi : listed[i]? with
    | none =>
      exfalso
      rcases Nat.lt_or_ge i listed.size with g | g
      · rw [Array.getElem?_eq_getElem g] at hi; cases hi
      · simp [Array.getD, Nat.not_lt.2 g] at h
    | some b =>
      have g : i < listed.size := (Array.getElem?_eq_some_iff.1 hi).1
      simp [Array.getD, g] at h
      rw [Array.getElem?_eq_getElem g] at hi
      injection hi with hi
      rw [← hi, h]
  rw [Array.toList_setIfInBounds]
  exact filter_set_true _ _ h2
theorem ready_iff {md : Region.Mode} {ops : Array Oper} {listed : Array Bool} {i : Nat} (h : i ∈ Region.ready md ops listed) : listed.getD i true = false ∧ ∃ o, ops[i]? = some o ∧ ∀ e ∈ o.after, Region.binds md e = true → listed.getD e.on false = true := by
  rw [mem_ready] at h
  exact h
/-- What an operation waits for stands ahead of it. -/
def ahead (ops : Array Oper) : Bool := (List.range ops.size).all fun i => match ops[i]? with
  | some o => o.after.all fun e => decide (e.on < i)
  | none => true
theorem all_listed {md : Region.Mode} {ops : Array Oper} {listed : Array Bool} (hd : ahead ops = true) (hs : listed.size = ops.size) (h : Region.ready md ops listed = []) : ∀ i, i < ops.size → listed.getD i false = true := by
  intro i
  induction i using Nat.strongRecOn with
  | _ i ih =>
    intro hi
    cases hb : listed.getD i false with
    | true => rfl
    | false =>
      exfalso
      have hmem : i ∈ Region.ready md ops listed := by
        rw [mem_ready]
        have hb2 : listed.getD i true = false := by
          have g : i < listed.size := by omega
          simp [Array.getD, g] at hb ⊢
          exact hb
        refine ⟨hb2, ops[i], Array.getElem?_eq_getElem hi, fun e he _ => ?_⟩
        unfold ahead at hd
        rw [List.all_eq_true] at hd
        have h3 := hd i (List.mem_range.2 hi)
        rw [Array.getElem?_eq_getElem hi] at h3
        simp only [Array.all_eq_true_iff_forall_mem] at h3
        have h4 := of_decide_eq_true (h3 e he)
        exact ih e.on h4 (by omega)
      rw [h] at hmem
      cases hmem
theorem wpAny_inv {md : Region.Mode} {ops : Array Oper} {Q : Exit → Act → World → Prop} (hd : ahead ops = true) (Inv : Array Bool → Act → World → Prop)
    (hstep : ∀ i o, ops[i]? = some o → ∀ listed a w, listed.getD i true = false → (∀ e ∈ o.after, Region.binds md e = true → listed.getD e.on false = true) → Inv listed a w → wpOp P ops Q i (Inv (listed.setIfInBounds i true)) a w)
    (hend : ∀ listed a w, (∀ i, i < ops.size → listed.getD i false = true) → Inv listed a w → Q .normal a w) :
    ∀ (fuel : Nat) (listed : Array Bool) (a : Act) (w : World), listed.size = ops.size → leftN listed ≤ fuel → Inv listed a w → wpAny P md ops Q fuel listed a w
  | 0, listed, a, w, hs, hn, hI => by
    have hr : Region.ready md ops listed = [] := by
      cases hc : Region.ready md ops listed with
      | nil => rfl
      | cons i l =>
        exfalso
        have hi : i ∈ Region.ready md ops listed := by rw [hc]; exact List.mem_cons_self
        have := leftN_set (ready_iff hi).1
        omega
    exact ⟨hr, hend listed a w (all_listed hd hs hr) hI⟩
  | fuel + 1, listed, a, w, hs, hn, hI => by
    refine ⟨fun hr => hend listed a w (all_listed hd hs hr) hI, fun i hi => ?_⟩
    obtain ⟨h1, o, ho, h2⟩ := ready_iff hi
    have hl := leftN_set h1
    exact wpOp_mono (fun a' w' h' => wpAny_inv hd Inv hstep hend fuel _ a' w' (by rw [Array.size_setIfInBounds]; exact hs) (by omega) h') (hstep i o ho listed a w h1 h2 hI)
/-- The law: what holds ahead of the region, and is kept by each operation once those that it waits for are done, holds behind it. -/
theorem region_inv_wp {id : Nat} {l : List Oper} {Q : Exit → Act → World → Prop} {a : Act} {w : World} (hm : P.follows .mixedOrders = true) (hd : ahead l.toArray = true) (Inv : Array Bool → Act → World → Prop)
    (h0 : Inv (Array.replicate l.toArray.size false) a { w with drawn := w.drawn + 1 })
    (hstep : ∀ i o, l.toArray[i]? = some o → ∀ listed a w, listed.getD i true = false → (∀ e ∈ o.after, Region.binds .any e = true → listed.getD e.on false = true) → Inv listed a w → wpOp P l.toArray Q i (Inv (listed.setIfInBounds i true)) a w)
    (hend : ∀ listed a w, (∀ i, i < l.toArray.size → listed.getD i false = true) → Inv listed a w → Q .normal a w) : (Code.region id l.toArray true).wp P Q a w := by
  refine wp_region_any hm (wpAny_inv hd Inv hstep hend _ _ a _ (by simp) ?_ h0)
  unfold leftN
  exact Nat.le_trans (List.length_filter_le _ _) (by simp)
/-- What is asked behind one operation. -/
def Behind1 (Q : Exit → Act → World → Prop) (K : Act → World → Prop) (e : Exit) (a : Act) (w : World) : Prop :=
  match e with
  | .normal => K a w
  | e => Q e a w
theorem behind1 {Q : Exit → Act → World → Prop} {K : Act → World → Prop} {a : Act} {w : World} (h : K a w) : Behind1 Q K .normal a w := h
theorem wpOp_list {ops : Array Oper} {Q : Exit → Act → World → Prop} {K : Act → World → Prop} {i : Nat} {a : Act} {w : World} (o : Oper) (ho : ops[i]? = some o) (h : wpList P ops (Behind1 Q K) [o] a w) : wpOp P ops Q i K a w := by
  unfold wpOp
  simp only [ho]
  unfold wpList at h
  by_cases hw : Region.wanted o (yielded ops a.tmps) = true
  · rw [if_pos hw] at h ⊢
    rcases h with h | ⟨h1, h2⟩
    · left
      unfold Oper.wp at h ⊢
      revert h
      cases (execOp a.eval o).run P w with
      | ok x w' =>
        cases x with
        | enter f args =>
          intro h
          refine Calls.mono h ?_
          intro e w'' he
          cases e with
          | outgrown => obtain ⟨a', w3, he⟩ := he; exact ⟨a', w3, he⟩
          | returned v => exact he
          | panicked c => exact he
        | _ => exact fun h => h
      | halt x w' => cases x <;> exact fun h => h
    · exact Or.inr ⟨h1, h2⟩
  · rw [if_neg hw] at h ⊢
    exact h
end Go.Proofs.Ytdidacjmcafcpaa.Br
