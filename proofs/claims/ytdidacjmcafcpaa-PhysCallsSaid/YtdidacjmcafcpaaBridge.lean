/- What is walked in the plain way holds in a round of a range over a function as well. -/
import Derived.Test.YtdidacjmcafcpaaAppend
import Derived.StillTailTactics
import Derived.RangeFuncCalls
import Derived.OwnWalkIn
import Derived.OrdersIn
import Derived.OrdersHeld
namespace Go.Proofs.Ytdidacjmcafcpaa.Br
open Go Go.RowKit Go.Proofs.Ytdidacjmcafcpaa.Mem
set_option linter.unusedVariables false

/-- A fence that lets everything by. -/
structure Lets (F : Fence) : Prop where
  fn : ∀ f, F.fn f
  depth : F.depth = none
  calls : ∀ {n : Nat} {P : Program} {f : FuncId} {args : Array Value} {w : World} {R : Ending → World → Prop}, Calls P f args w R → CallsIn F n P f args w R
  rows : ∀ {n : Nat} {P : Program} {row : String} {args : Array Value} {w : World} {R : Value → World → Prop}, Rows P row args w R → RowsIn F n P row args w R
theorem lets_wide : Lets Fence.wide where
  fn := fun _ => trivial
  depth := rfl
  calls := fun h => callsIn_wide.2 h
  rows := fun h c cs _ => let ⟨v, w', r, s⟩ := h c cs; ⟨v, w', r, stepsIn_wide.2 s⟩
theorem lets_round (l : Nat) : Lets (Fence.wide.inRound l) where
  fn := fun _ => trivial
  depth := rfl
  calls := fun h => CallsIn.inRound l (callsIn_wide.2 h)
  rows := fun h c cs _ => let ⟨v, w', r, s⟩ := h c cs; ⟨v, w', r, stepsIn_wide.2 s⟩

variable {F : Fence} {n : Nat} {P : Program}
theorem uponIn_of (hF : Lets F) {o : Oper} {a : Act} {next : Act → World → Prop} {Q : Exit → Act → World → Prop} : ∀ {r : Result Next}, o.upon P a next Q r → o.uponIn F n P a next Q r
  | .ok (.value _) _, h => h
  | .ok .skip _, h => h
  | .ok (.defer _) _, h => h
  | .ok (.enter f args) w', h => ⟨fun e => (by rw [hF.depth] at e; cases e), hF.calls (by exact h)⟩
  | .ok (.row row args) w', h => ⟨fun e => (by rw [hF.depth] at e; cases e), hF.rows (by exact h)⟩
  | .ok (.round ..) _, h => (h : False).elim
  | .halt h' w', h => by cases h' <;> first | exact h | exact (h : False).elim
def Plain (o : Oper) : Prop := ∀ c, o.op ≠ .defer c
theorem wpIn_of (hF : Lets F) {o : Oper} (ho : Plain o) {a : Act} {w : World} {next : Act → World → Prop} {Q : Exit → Act → World → Prop} (h : o.wp P a w next Q) : o.wpIn F n P a w next Q :=
  ⟨fun f _ => hF.fn f, by rw [Oper.semAt_plain F _ _ ho]; exact uponIn_of hF h⟩
def plainB (ops : Array Oper) : Bool := ops.all fun o => match o.op with | .defer _ => false | _ => true
theorem plain_of {ops : Array Oper} (h : plainB ops = true) {i : Nat} {o : Oper} (ho : ops[i]? = some o) : Plain o := by
  intro c e
  have h1 := Array.all_eq_true'.1 h o (Array.mem_of_getElem? ho)
  rw [e] at h1
  cases h1
theorem wpOpIn_of (hF : Lets F) {ops : Array Oper} (hp : plainB ops = true) {Q : Exit → Act → World → Prop} (hQ : ∀ a w, ¬ Q .outgrown a w) {i : Nat} {K K' : Act → World → Prop} (hK : ∀ a w, K a w → K' a w) {a : Act} {w : World}
    (h : wpOp P ops Q i K a w) : wpOpIn F n P ops Q i K' a w := by
  unfold wpOp at h
  unfold wpOpIn
  cases ho : ops[i]? with
  | none => simp only [ho] at h ⊢; exact hK _ _ h
  | some o =>
    simp only [ho] at h ⊢
    by_cases hw : Region.wanted o (yielded ops a.tmps) = true
    · rw [if_pos hw] at h ⊢
      rcases h with h | ⟨_, a', w', h⟩
      · exact Oper.wpIn_mono hK (wpIn_of hF (plain_of hp ho) h)
      · exact absurd h (hQ a' w')
    · rw [if_neg hw] at h ⊢
      exact ⟨fun f _ => hF.fn f, hK _ _ h⟩
theorem wpAnyIn_of (hF : Lets F) {md : Region.Mode} {ops : Array Oper} (hp : plainB ops = true) {Q : Exit → Act → World → Prop} (hQ : ∀ a w, ¬ Q .outgrown a w) : ∀ (fuel : Nat) (listed : Array Bool) (a : Act) (w : World),
    wpAny P md ops Q fuel listed a w → wpAnyIn F n P md ops Q fuel listed a w
  | 0, _, _, _, h => h
  | fuel + 1, _, _, _, h => ⟨h.1, fun i hi => wpOpIn_of hF hp hQ (fun a w => wpAnyIn_of hF hp hQ fuel _ a w) (h.2 i hi)⟩
/-- A region that draws its order. -/
theorem region_any (hF : Lets F) {id : Nat} {ops : Array Oper} {Q : Exit → Act → World → Prop} {a : Act} {w : World} (hm : P.follows .mixedOrders = true) (hp : plainB ops = true) (hQ : ∀ a w, ¬ Q .outgrown a w)
    (h : wpAny P .any ops Q ops.size (Array.replicate ops.size false) a { w with drawn := w.drawn + 1 }) : (Code.region id ops true).wpIn F n P Q a w :=
  wpIn_region_any hm (wpAnyIn_of hF hp hQ _ _ _ _ h)
theorem region_still (hF : Lets F) {id : Nat} {Q : Exit → Act → World → Prop} {a : Act} {w : World} {l : List Oper} (hm : P.follows .mixedOrders = true) (hp : plainB l.toArray = true) (hQ : ∀ a w, ¬ Q .outgrown a w) (hB : Region.lexB .any l.toArray = true)
    (h : wpStill P l.toArray { w with drawn := w.drawn + 1 } (fun a' => Q .normal a' { w with drawn := w.drawn + 1 }) l a) : (Code.region id l.toArray true).wpIn F n P Q a w := by
  simp only [Region.lexB, Bool.and_eq_true] at hB
  refine region_any hF hm hp hQ (wpAny_of_still (Q := fun a' => Q .normal a' { w with drawn := w.drawn + 1 }) (fun _ h => h) _ _ _ ?_)
  have := wpAnyS_lex (md := .any) hB.1 l 0 (Array.replicate l.toArray.size false) a (by simp) (by simpa using hB.2) h
  simpa using this
theorem region_tail (hF : Lets F) {id : Nat} {Q : Exit → Act → World → Prop} {a : Act} {w : World} {l : List Oper} (k : Nat) (hm : P.follows .mixedOrders = true) (hp : plainB l.toArray = true) (hQ : ∀ a w, ¬ Q .outgrown a w)
    (hB : Region.lexTailB .any l.toArray k = true)
    (h : wpStill P l.toArray { w with drawn := w.drawn + 1 } (fun a' => wpList P l.toArray Q (l.drop k) a' { w with drawn := w.drawn + 1 }) (l.take k) a) : (Code.region id l.toArray true).wpIn F n P Q a w := by
  simp only [Region.lexTailB, Bool.and_eq_true, decide_eq_true_eq] at hB
  obtain ⟨⟨⟨⟨hsel, hn⟩, hs⟩, hc⟩, hlex⟩ := hB
  have hn' : k < l.length := by simpa using hn
  have htl : (l.take k).length = k := by simp; omega
  have hdl : (l.drop k).length = l.toArray.size - k := by simp
  have inv0 : HeadInv .any l.toArray k (Array.replicate l.toArray.size false) :=
    ⟨by simp, fun j oj _ hl => (by rw [getD_replicate_false] at hl; cases hl), fun t _ ht => getD_in (by simpa using ht) (getD_replicate_false _ _)⟩
  have H := wpAnyL_lex (md := .any) (g := l.toArray.size - k) hsel hs hc hn (l.take k) 0 _ a (fun j hj => by
    have hj' : j < k := by rw [htl] at hj; exact hj
    simp [hj']) (by simpa using htl) inv0 (by rw [htl]; exact hlex) h
  refine region_any hF hm hp hQ ?_
  have := wpAny_of_head (Q' := Q) (g := l.toArray.size - k) (fun listed a' hL => by
    have := wpAny_of_seq (md := .any) (Q' := Q) (l.drop k) k listed a' { w with drawn := w.drawn + 1 } (fun j => by simp [List.getElem?_drop]) (by rw [hdl]; exact hL.1) hL.2
    rwa [hdl] at this) _ _ _ H
  rw [htl, show k + (l.toArray.size - k) = l.toArray.size by omega] at this
  exact this
/-- A region that does not. -/
theorem list_of (hF : Lets F) {ops : Array Oper} {Q : Exit → Act → World → Prop} (hQ : ∀ a w, ¬ Q .outgrown a w) : ∀ {l : List Oper} {a : Act} {w : World}, (∀ o ∈ l, Plain o) → wpList P ops Q l a w → wpListIn F n P ops Q l a w
  | [], _, _, _, h => h
  | o :: l, a, w, hl, h => by
    unfold wpList at h
    unfold wpListIn
    by_cases hw : Region.wanted o (yielded ops a.tmps) = true
    · rw [if_pos hw] at h ⊢
      rcases h with h | ⟨_, a', w', h⟩
      · exact Oper.wpIn_mono (fun a w => list_of hF hQ fun o ho => hl o (List.mem_cons_of_mem _ ho)) (wpIn_of hF (hl o (List.mem_cons_self ..)) h)
      · exact absurd h (hQ a' w')
    · rw [if_neg hw] at h ⊢
      exact ⟨fun f _ => hF.fn f, list_of hF hQ (fun o ho => hl o (List.mem_cons_of_mem _ ho)) h⟩
theorem region_list (hF : Lets F) {id : Nat} {l : List Oper} {Q : Exit → Act → World → Prop} {a : Act} {w : World} (hp : plainB l.toArray = true) (hQ : ∀ a w, ¬ Q .outgrown a w) (h : wpList P l.toArray Q l a w) : (Code.region id l.toArray false).wpIn F n P Q a w :=
  wpIn_region_lit (list_of hF hQ (fun o ho => by
    obtain ⟨i, hi⟩ := List.mem_iff_getElem?.1 ho
    exact plain_of hp (i := i) (by simpa using hi)) h)
/-- Number i waits for every other operation. -/
def lastB (md : Region.Mode) (ops : Array Oper) (i : Nat) : Bool := (List.range ops.size).all fun k => k == i || match ops[i]? with
  | some o => o.after.any fun e => Region.binds md e && e.on == k
  | none => false
/-- Whatever order is picked from here on, and S holds behind every operation but the last. -/
def wpAnyT (P : Program) (md : Region.Mode) (ops : Array Oper) (Q : Exit → Act → World → Prop) (S : World → Prop) : Nat → Array Bool → Act → World → Prop
  | 0, listed, a, w => Region.ready md ops listed = [] ∧ Q .normal a w
  | fuel + 1, listed, a, w => (Region.ready md ops listed = [] → Q .normal a w) ∧
    ∀ i ∈ Region.ready md ops listed, wpOp P ops Q i (fun a' w' => (S w' ∨ lastB md ops i = true) ∧ wpAnyT P md ops Q S fuel (listed.setIfInBounds i true) a' w') a w
section
variable {md : Region.Mode} {ops : Array Oper} {Q : Exit → Act → World → Prop} {S : World → Prop}
theorem wpAny_of_T : ∀ (fuel : Nat) (listed : Array Bool) (a : Act) (w : World), wpAnyT P md ops Q S fuel listed a w → wpAny P md ops Q fuel listed a w
  | 0, _, _, _, h => h
  | fuel + 1, _, _, _, h => ⟨h.1, fun i hi => wpOp_mono (fun a' w' h' => wpAny_of_T fuel _ a' w' h'.2) (h.2 i hi)⟩
theorem wpAnyT_first {i : Nat} {oi : Oper} {v : Value} (hi : ops[i]? = some oi) (hsel : ∀ (j : Nat) (o : Oper) cs b, ops[j]? = some o → o.op ≠ .select cs b)
    (hQ : ∀ c a w, Q (.panic c) (a.put oi.dst v) w → Q (.panic c) a w) :
    ∀ (fuel : Nat) (listed : Array Bool) (a : Act) (w : World),
      (∀ j oj, ops[j]? = some oj → j ≠ i → listed.getD j true = false → (∀ e ∈ oj.after, Region.binds md e = true → e.on ≠ i) → oi.apart ops oj = true) →
      i ∈ Region.ready md ops listed → YieldsIf P ops S oi v a → S w →
      wpAnyT P md ops Q S fuel (listed.setIfInBounds i true) (a.put oi.dst v) w → wpAnyT P md ops Q S (fuel + 1) listed a w := by
  intro fuel
  induction fuel with
  | zero =>
    intro listed a w _ hr hy hS H
    refine ⟨fun h => (by rw [h] at hr; cases hr), fun j hj => ?_⟩
    by_cases hji : j = i
    · subst hji; exact hy.wpOp hi hS ⟨Or.inl hS, H⟩
    · have := ready_mono hj hji
      rw [H.1] at this
      cases this
  | succ fuel ih =>
    intro listed a w hfree hr hy hS H
    refine ⟨fun h => (by rw [h] at hr; cases hr), fun j hj => ?_⟩
    by_cases hji : j = i
    · subst hji; exact hy.wpOp hi hS ⟨Or.inl hS, H⟩
    · have h1 := H.2 j (ready_mono hj hji)
      obtain ⟨hjun, oj, hoj, hall⟩ := mem_ready.1 hj
      have hnot : ∀ e ∈ oj.after, Region.binds md e = true → e.on ≠ i := fun e he hb heq => by
        have h1 := hall e he hb
        have h0 := (mem_ready.1 hr).1
        rw [heq] at h1
        rcases Nat.lt_or_ge i listed.size with h' | h'
        · simp [h'] at h0 h1; rw [h0] at h1; cases h1
        · simp [Array.getElem?_eq_none h'] at h1
      have hlast : lastB md ops j ≠ true := fun hl => by
        have hil : i < ops.size := (Array.getElem?_eq_some_iff.1 hi).1
        unfold lastB at hl
        have h2 := List.all_eq_true.1 hl i (List.mem_range.2 hil)
        rw [hoj] at h2
        simp only [Bool.or_eq_true, beq_iff_eq] at h2
        rcases h2 with h2 | h2
        · exact hji h2.symm
        · obtain ⟨e, he, hb⟩ := Array.any_eq_true'.1 h2
          rw [Bool.and_eq_true, beq_iff_eq] at hb
          exact hnot e he hb.1 hb.2
      have h2 := wpOp_putIf hoj (hfree j oj hoj hji hjun hnot) (fun cs b => hsel i oi cs b hi) (fun cs b => hsel j oj cs b hoj) hQ hy h1
      have hfree' : ∀ k ok, ops[k]? = some ok → k ≠ i → (listed.setIfInBounds j true).getD k true = false →
          (∀ e ∈ ok.after, Region.binds md e = true → e.on ≠ i) → oi.apart ops ok = true := fun k ok hk hki hun hno => by
        refine hfree k ok hk hki ?_ hno
        by_cases hjk : j = k
        · subst hjk; exact hjun
        · rw [getD_set_ne true hjk] at hun; exact hun
      refine wpOp_mono (fun a' w' h3 => ?_) h2
      have hS' : S w' := h3.2.1.elim id fun hl => absurd hl hlast
      refine ⟨Or.inl hS', ih (listed.setIfInBounds j true) a' w' hfree' (ready_mono hr (Ne.symm hji)) h3.1 hS' ?_⟩
      rw [Array.setIfInBounds_comm _ _ hji]
      exact h3.2.2
end
/-- The order ord serves for all: an operation of st only yields, and may come first; any other one is the only one that may come. -/
def planB (md : Region.Mode) (ops : Array Oper) (st : List Nat) : List Nat → Array Bool → Bool
  | [], listed => (Region.ready md ops listed).isEmpty
  | i :: ord, listed => (if st.contains i then Region.free md ops listed i && (Region.ready md ops listed).contains i else decide (Region.ready md ops listed = [i]) && (!ord.isEmpty || lastB md ops i)) && planB md ops st ord (listed.setIfInBounds i true)
/-- The walk in that order: what yields does so in each world of S; behind each other one but the last S is shown anew. -/
def walkH (P : Program) (ops : Array Oper) (Q : Exit → Act → World → Prop) (S : World → Prop) (st : List Nat) : List Nat → Act → World → Prop
  | [], a, w => Q .normal a w
  | i :: ord, a, w => if st.contains i then ∃ o v, ops[i]? = some o ∧ YieldsIf P ops S o v a ∧ walkH P ops Q S st ord (a.put o.dst v) w
      else wpOp P ops Q i (fun a' w' => (S w' ∨ ord = []) ∧ walkH P ops Q S st ord a' w') a w
theorem wpAnyT_plan {md : Region.Mode} {ops : Array Oper} {Q : Exit → Act → World → Prop} {S : World → Prop} {st : List Nat} (hs : Region.noSelect ops = true) (hQ : ∀ c a d v w, Q (.panic c) (Act.put a d v) w → Q (.panic c) a w) :
    ∀ (ord : List Nat) (listed : Array Bool) (a : Act) (w : World), planB md ops st ord listed = true → (S w ∨ ord = []) → walkH P ops Q S st ord a w → wpAnyT P md ops Q S ord.length listed a w
  | [], listed, a, w, hp, hS, h => ⟨by simpa [planB] using hp, h⟩
  | i :: ord, listed, a, w, hp, hS, h => by
    have hS : S w := hS.elim id fun e => by cases e
    unfold planB at hp
    unfold walkH at h
    rw [Bool.and_eq_true] at hp
    obtain ⟨hp1, hp2⟩ := hp
    by_cases hi : st.contains i = true
    · rw [if_pos hi] at hp1 h
      rw [Bool.and_eq_true] at hp1
      obtain ⟨o, v, ho, hy, h⟩ := h
      exact wpAnyT_first ho (Region.noSelect_spec hs) (fun c a w => hQ c a _ v w) _ _ _ _ (Region.free_spec ho hp1.1) (by simpa using hp1.2) hy hS (wpAnyT_plan hs hQ ord _ _ _ hp2 (Or.inl hS) h)
    · rw [if_neg hi] at hp1 h
      rw [Bool.and_eq_true, Bool.or_eq_true] at hp1
      have hr := of_decide_eq_true hp1.1
      refine ⟨fun e => (by rw [hr] at e; cases e), fun j hj => ?_⟩
      rw [hr, List.mem_singleton] at hj
      subst hj
      refine wpOp_mono (fun a' w' h' => ⟨?_, wpAnyT_plan hs hQ ord _ _ _ hp2 h'.1 h'.2⟩) h
      rcases h'.1 with h1 | h1
      · exact Or.inl h1
      · right
        rcases hp1.2 with h2 | h2
        · rw [h1] at h2; cases h2
        · exact h2
theorem region_held (hF : Lets F) {id : Nat} {l : List Oper} {Q : Exit → Act → World → Prop} {a : Act} {w : World} (S : World → Prop) (st ord : List Nat) (hm : P.follows .mixedOrders = true) (hp : plainB l.toArray = true) (hQ : ∀ a w, ¬ Q .outgrown a w)
    (hs : Region.noSelect l.toArray = true) (hB : planB .any l.toArray st ord (Array.replicate l.toArray.size false) = true) (hl : ord.length = l.toArray.size) (hpan : ∀ c a d v w, Q (.panic c) (Act.put a d v) w → Q (.panic c) a w)
    (hS : S { w with drawn := w.drawn + 1 }) (h : walkH P l.toArray Q S st ord a { w with drawn := w.drawn + 1 }) : (Code.region id l.toArray true).wpIn F n P Q a w := by
  refine region_any hF hm hp hQ (wpAny_of_T (S := S) _ _ _ _ ?_)
  have h2 := wpAnyT_plan hs hpan ord _ _ _ hB (Or.inl hS) h
  rw [hl] at h2
  exact h2
/-- The same outside of a fence. -/
theorem region_held_wp {id : Nat} {l : List Oper} {Q : Exit → Act → World → Prop} {a : Act} {w : World} (S : World → Prop) (st ord : List Nat) (hm : P.follows .mixedOrders = true)
    (hs : Region.noSelect l.toArray = true) (hB : planB .any l.toArray st ord (Array.replicate l.toArray.size false) = true) (hl : ord.length = l.toArray.size) (hpan : ∀ c a d v w, Q (.panic c) (Act.put a d v) w → Q (.panic c) a w)
    (hS : S { w with drawn := w.drawn + 1 }) (h : walkH P l.toArray Q S st ord a { w with drawn := w.drawn + 1 }) : (Code.region id l.toArray true).wp P Q a w := by
  refine wp_region_any hm (wpAny_of_T (S := S) _ _ _ _ ?_)
  have h2 := wpAnyT_plan hs hpan ord _ _ _ hB (Or.inl hS) h
  rw [hl] at h2
  exact h2
theorem at_drop {ops : Array Oper} {i : Nat} {o : Oper} (h : (ops.toList.drop i).head? = some o) : ops[i]? = some o := by
  rw [List.head?_drop, Array.getElem?_toList] at h; exact h
theorem walkH_nil {ops : Array Oper} {Q : Exit → Act → World → Prop} {S : World → Prop} {st : List Nat} {a : Act} {w : World} (h : Q .normal a w) : walkH P ops Q S st [] a w := h
theorem walkH_still {ops : Array Oper} {Q : Exit → Act → World → Prop} {S : World → Prop} {st ord : List Nat} {i : Nat} {a : Act} {w : World} (o : Oper) (v : Value) (ho : (ops.toList.drop i).head? = some o) (hi : st.contains i = true)
    (hw : Region.wanted o (yielded ops a.tmps) = true) (hy : ∀ w, S w → (execOp a.eval o).run P w = .ok (.value v) w) (h : walkH P ops Q S st ord (a.put o.dst v) w) : walkH P ops Q S st (i :: ord) a w := by
  unfold walkH
  rw [if_pos hi]
  exact ⟨o, v, at_drop ho, Or.inl ⟨hw, hy⟩, h⟩
theorem walkH_skip {ops : Array Oper} {Q : Exit → Act → World → Prop} {S : World → Prop} {st ord : List Nat} {i : Nat} {a : Act} {w : World} (o : Oper) (ho : (ops.toList.drop i).head? = some o) (hi : st.contains i = true)
    (hw : Region.wanted o (yielded ops a.tmps) = false) (h : walkH P ops Q S st ord (a.put o.dst undef) w) : walkH P ops Q S st (i :: ord) a w := by
  unfold walkH
  rw [if_pos hi]
  exact ⟨o, _, at_drop ho, Or.inr ⟨hw, rfl⟩, h⟩
/-- An operation that turns the world: its walk is a plain one. -/
theorem walkH_does {ops : Array Oper} {Q : Exit → Act → World → Prop} {S : World → Prop} {st ord : List Nat} {i : Nat} {a : Act} {w : World} (o : Oper) (ho : (ops.toList.drop i).head? = some o) (hi : st.contains i = false)
    (h : wpList P ops (fun e a' w' => match e with | .normal => (S w' ∨ ord = []) ∧ walkH P ops Q S st ord a' w' | e => Q e a' w') [o] a w) : walkH P ops Q S st (i :: ord) a w := by
  unfold walkH
  rw [if_neg (by rw [hi]; simp)]
  unfold wpOp
  simp only [at_drop ho]
  unfold wpList at h
  by_cases hw : Region.wanted o (yielded ops a.tmps) = true
  · rw [if_pos hw] at h ⊢
    rcases h with h | ⟨h1, h2⟩
    · left
      unfold Oper.wp at h ⊢
      revert h
      cases (execOp a.eval o).run P w with
      | ok x w' =>
        cases x with
        | enter f args =>
          intro h
          refine Calls.mono h ?_
          intro e w'' he
          cases e with
          | outgrown => obtain ⟨a', w3, he⟩ := he; exact ⟨a', w3, he⟩
          | returned v => exact he
          | panicked c => exact he
        | _ => exact fun h => h
      | halt x w' => cases x <;> exact fun h => h
    · exact Or.inr ⟨h1, h2⟩
  · rw [if_neg hw] at h ⊢
    exact h
section
variable {ops : Array Oper} {md : Region.Mode} {Q : Exit → Act → World → Prop} {S : World → Prop} {fuel : Nat} {listed : Array Bool} {a : Act} {w : World}
/-- What is asked behind number i. -/
def Behind (P : Program) (md : Region.Mode) (ops : Array Oper) (Q : Exit → Act → World → Prop) (S : World → Prop) (fuel : Nat) (listed : Array Bool) (i : Nat) (e : Exit) (a : Act) (w : World) : Prop :=
  match e with
  | .normal => (S w ∨ lastB md ops i = true) ∧ wpAnyT P md ops Q S fuel (listed.setIfInBounds i true) a w
  | e => Q e a w
theorem wpOp_behind {i : Nat} {o : Oper} (ho : (ops.toList.drop i).head? = some o) (h : wpList P ops (Behind P md ops Q S fuel listed i) [o] a w) :
    wpOp P ops Q i (fun a' w' => (S w' ∨ lastB md ops i = true) ∧ wpAnyT P md ops Q S fuel (listed.setIfInBounds i true) a' w') a w := by
  unfold wpOp
  simp only [at_drop ho]
  unfold wpList at h
  by_cases hw : Region.wanted o (yielded ops a.tmps) = true
  · rw [if_pos hw] at h ⊢
    rcases h with h | ⟨h1, h2⟩
    · left
      unfold Oper.wp at h ⊢
      revert h
      cases (execOp a.eval o).run P w with
      | ok x w' =>
        cases x with
        | enter f args =>
          intro h
          refine Calls.mono h ?_
          intro e w'' he
          cases e with
          | outgrown => obtain ⟨a', w3, he⟩ := he; exact ⟨a', w3, he⟩
          | returned v => exact he
          | panicked c => exact he
        | _ => exact fun h => h
      | halt x w' => cases x <;> exact fun h => h
    · exact Or.inr ⟨h1, h2⟩
  · rw [if_neg hw] at h ⊢
    exact h
theorem anyT_take {i : Nat} (o : Oper) (v : Value) (ho : (ops.toList.drop i).head? = some o) (hs : Region.noSelect ops = true) (hf : Region.free md ops listed i = true) (hr : (Region.ready md ops listed).contains i = true)
    (hQ : ∀ c a d v w, Q (.panic c) (Act.put a d v) w → Q (.panic c) a w) (hw : Region.wanted o (yielded ops a.tmps) = true) (hy : ∀ w, S w → (execOp a.eval o).run P w = .ok (.value v) w) (hS : S w)
    (h : wpAnyT P md ops Q S fuel (listed.setIfInBounds i true) (a.put o.dst v) w) : wpAnyT P md ops Q S (fuel + 1) listed a w :=
  wpAnyT_first (at_drop ho) (Region.noSelect_spec hs) (fun c a w => hQ c a _ v w) _ _ _ _ (Region.free_spec (at_drop ho) hf) (by simpa using hr) (Or.inl ⟨hw, hy⟩) hS h
theorem anyT_one {i : Nat} (o : Oper) (ho : (ops.toList.drop i).head? = some o) (hr : Region.ready md ops listed = [i]) (h : wpList P ops (Behind P md ops Q S fuel listed i) [o] a w) : wpAnyT P md ops Q S (fuel + 1) listed a w :=
  ⟨fun e => (by rw [hr] at e; cases e), fun j hj => by
    rw [hr, List.mem_singleton] at hj
    subst hj
    exact wpOp_behind ho h⟩
theorem anyT_two {i j : Nat} (o u : Oper) (ho : (ops.toList.drop i).head? = some o) (hu : (ops.toList.drop j).head? = some u) (hr : Region.ready md ops listed = [i, j])
    (h : wpList P ops (Behind P md ops Q S fuel listed i) [o] a w) (h' : wpList P ops (Behind P md ops Q S fuel listed j) [u] a w) : wpAnyT P md ops Q S (fuel + 1) listed a w :=
  ⟨fun e => (by rw [hr] at e; cases e), fun k hk => by
    rw [hr] at hk
    simp only [List.mem_cons, List.not_mem_nil, or_false] at hk
    rcases hk with rfl | rfl
    · exact wpOp_behind ho h
    · exact wpOp_behind hu h'⟩
theorem anyT_three {i j k : Nat} (o u x : Oper) (ho : (ops.toList.drop i).head? = some o) (hu : (ops.toList.drop j).head? = some u) (hx : (ops.toList.drop k).head? = some x) (hr : Region.ready md ops listed = [i, j, k])
    (h : wpList P ops (Behind P md ops Q S fuel listed i) [o] a w) (h' : wpList P ops (Behind P md ops Q S fuel listed j) [u] a w) (h'' : wpList P ops (Behind P md ops Q S fuel listed k) [x] a w) : wpAnyT P md ops Q S (fuel + 1) listed a w :=
  ⟨fun e => (by rw [hr] at e; cases e), fun y hy => by
    rw [hr] at hy
    simp only [List.mem_cons, List.not_mem_nil, or_false] at hy
    rcases hy with rfl | rfl | rfl
    · exact wpOp_behind ho h
    · exact wpOp_behind hu h'
    · exact wpOp_behind hx h''⟩
theorem anyT_done (hr : Region.ready md ops listed = []) (h : Q .normal a w) : ∀ fuel, wpAnyT P md ops Q S fuel listed a w
  | 0 => ⟨hr, h⟩
  | _ + 1 => ⟨fun _ => h, by rw [hr]; simp⟩
theorem behind_normal {i : Nat} (hS : S w) (h : wpAnyT P md ops Q S fuel (listed.setIfInBounds i true) a w) : Behind P md ops Q S fuel listed i .normal a w := ⟨Or.inl hS, h⟩
theorem behind_last {i : Nat} (hl : lastB md ops i = true) (h : wpAnyT P md ops Q S fuel (listed.setIfInBounds i true) a w) : Behind P md ops Q S fuel listed i .normal a w := ⟨Or.inr hl, h⟩
end
theorem region_tree_wp {id : Nat} {l : List Oper} {Q : Exit → Act → World → Prop} {a : Act} {w : World} (S : World → Prop) (hm : P.follows .mixedOrders = true)
    (h : wpAnyT P .any l.toArray Q S l.toArray.size (Array.replicate l.toArray.size false) a { w with drawn := w.drawn + 1 }) : (Code.region id l.toArray true).wp P Q a w :=
  wp_region_any hm (wpAny_of_T (S := S) _ _ _ _ h)
theorem wpListIn_append1 {w : World} {ops : Array Oper} {rest : List Oper} {o : Oper} {a : Act} {Q : Exit → Act → World → Prop} (hgd : o.guard = none) (s x : Operand) (t : TypeId)
    (ho : o.op = .call { callee := .builtin .append, args := #[s, x], argTypes := #[t, t] }) (base : Nat) (e : TypeId) (i : TypeInfo) (z : Value) (bytes : Nat) (ht : P.underlying t = some (.slice e)) (hi : P.info? e = some i) (hz : i.zero = some z)
    (hsize : i.size = 1) (hby : i.bytes = bytes) (hzs : z.cells.size = 1) (v : Value) (k : Nat) (xs : List Value) (hs : a.eval s = v) (hown : w.ownsRow base e 1 v k xs) (ad : Addr) (u : Value) (hx : a.eval x = .slice (some ad) 1 1)
    (hc : w.cell? ad = some u) (h1 : u.oneCell' = true) (hn : k ≤ 1000000) (hb : bytes ≤ 1000) (hbase : base ≤ w.heap.size)
    (h : ∀ v' w', w'.ownsRow base e 1 v' (k + 1) (xs ++ [u]) → w.grownBy w' v.ownBlock → Moved w v v' → wpListIn F n P ops Q rest (a.put o.dst v') w') : wpListIn F n P ops Q (o :: rest) a w := by
  refine wpListIn_plain hgd fun K hK => ?_
  obtain ⟨v', w', hr, h2, h3, h4⟩ := run_append1 (P := P) w base t o.type e i z bytes ht hi hz hsize hby hzs v k xs hown ad u hc h1 hn hb hbase
  unfold Oper.wpIn
  refine ⟨?_, ?_⟩
  · simp [Oper.about, ho, resolve, Target.leads, Sem.run_pure]
  · rw [Oper.semAt_plain F _ _ (by rw [ho]; intro c hc'; cases hc')]
    simp [execOp, ho, resolve, invoke, builtin, hs, hx, hr, Result.andThen]
    exact hK _ _ (h v' w' h2 h3 h4)
theorem wpListIn_make_full (w : World) {ops : Array Oper} {rest : List Oper} {o : Oper} {a : Act} {Q : Exit → Act → World → Prop}
    (hg : o.guard = none) (l c : Operand) (t : TypeId) (hop : o.op = Op.makeSlice t l c)
    (base : Nat) (e : TypeId) (i : TypeInfo) (z : Value) (size : Nat) (h1 : P.underlying t = some (.slice e)) (h2 : P.info? e = some i) (h3 : i.zero = some z) (h4 : i.size = size)
    (kl kc : IntKind) (L C : Int) (k : Nat) (hl : a.eval l = .int kl L) (hc : a.eval c = .int kc C) (hL : L = (k : Int)) (hC : C = (k : Int)) (b2 : i.bytes * k ≤ 281474976710656) (b3 : k ≤ maxLen) (b4 : base ≤ w.heap.size)
    (hK : ∀ w', w'.ownsRow base e size (.slice (some ⟨w.heap.size, 0, none⟩) k k) k (madeCells z.cells (k * size)).toList → w.grownBy w' none → wpListIn F n P ops Q rest (a.put o.dst (.slice (some ⟨w.heap.size, 0, none⟩) k k)) w') :
    wpListIn F n P ops Q (o :: rest) a w := by
  refine wpListIn_plain hg fun K hK' => ?_
  obtain ⟨w', hrun, r1, r2⟩ := run_make_full (P := P) w base t e i z size h1 h2 h3 h4 kl kc k b2 b3 b4
  subst hL
  subst hC
  unfold Oper.wpIn
  refine ⟨?_, ?_⟩
  · simp [Oper.about, hop]
  · rw [Oper.semAt_plain F _ _ (by rw [hop]; intro c hc'; cases hc')]
    simp [execOp, hop, hl, hc, hrun, Result.andThen]
    exact hK' _ _ (hK w' r1 r2)
end Go.Proofs.Ytdidacjmcafcpaa.Br
