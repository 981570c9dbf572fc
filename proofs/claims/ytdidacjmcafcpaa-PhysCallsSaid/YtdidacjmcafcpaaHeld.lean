/- A region that draws its order, walked in one order; what is held of the world is shown behind the last operation, too. -/
import Derived.Test.YtdidacjmcafcpaaBridge
namespace Go.Proofs.Ytdidacjmcafcpaa.Br
open Go Go.RowKit Go.Proofs.Ytdidacjmcafcpaa.Mem
set_option linter.unusedVariables false
variable {P : Program}
def planC (md : Region.Mode) (ops : Array Oper) (st : List Nat) : List Nat → Array Bool → Bool
  | [], listed => (Region.ready md ops listed).isEmpty
  | i :: ord, listed => (if st.contains i then Region.free md ops listed i && (Region.ready md ops listed).contains i else decide (Region.ready md ops listed = [i])) && planC md ops st ord (listed.setIfInBounds i true)
def walkC (P : Program) (ops : Array Oper) (Q : Exit → Act → World → Prop) (S : World → Prop) (st : List Nat) : List Nat → Act → World → Prop
  | [], a, w => Q .normal a w
  | i :: ord, a, w => if st.contains i then ∃ o v, ops[i]? = some o ∧ YieldsIf P ops S o v a ∧ walkC P ops Q S st ord (a.put o.dst v) w
      else wpOp P ops Q i (fun a' w' => S w' ∧ walkC P ops Q S st ord a' w') a w
theorem wpAnyT_planC {md : Region.Mode} {ops : Array Oper} {Q : Exit → Act → World → Prop} {S : World → Prop} {st : List Nat} (hs : Region.noSelect ops = true) (hQ : ∀ c a d v w, Q (.panic c) (Act.put a d v) w → Q (.panic c) a w) :
    ∀ (ord : List Nat) (listed : Array Bool) (a : Act) (w : World), planC md ops st ord listed = true → S w → walkC P ops Q S st ord a w → wpAnyT P md ops Q S ord.length listed a w
  | [], listed, a, w, hp, hS, h => ⟨by simpa [planC] using hp, h⟩
  | i :: ord, listed, a, w, hp, hS, h => by
    unfold planC at hp
    unfold walkC at h
    rw [Bool.and_eq_true] at hp
    obtain ⟨hp1, hp2⟩ := hp
    by_cases hi : st.contains i = true
    · rw [if_pos hi] at hp1 h
      rw [Bool.and_eq_true] at hp1
      obtain ⟨o, v, ho, hy, h⟩ := h
      exact wpAnyT_first ho (Region.noSelect_spec hs) (fun c a w => hQ c a _ v w) _ _ _ _ (Region.free_spec ho hp1.1) (by simpa using hp1.2) hy hS (wpAnyT_planC hs hQ ord _ _ _ hp2 hS h)
    · rw [if_neg hi] at hp1 h
      have hr := of_decide_eq_true hp1
      refine ⟨fun e => (by rw [hr] at e; cases e), fun j hj => ?_⟩
      rw [hr, List.mem_singleton] at hj
      subst hj
      exact wpOp_mono (fun a' w' h' => ⟨Or.inl h'.1, wpAnyT_planC hs hQ ord _ _ _ hp2 h'.1 h'.2⟩) h
theorem region_heldC_wp {id : Nat} {l : List Oper} {Q : Exit → Act → World → Prop} {a : Act} {w : World} (S : World → Prop) (st ord : List Nat) (hm : P.follows .mixedOrders = true)
    (hs : Region.noSelect l.toArray = true) (hB : planC .any l.toArray st ord (Array.replicate l.toArray.size false) = true) (hl : ord.length = l.toArray.size) (hpan : ∀ c a d v w, Q (.panic c) (Act.put a d v) w → Q (.panic c) a w)
    (hS : S { w with drawn := w.drawn + 1 }) (h : walkC P l.toArray Q S st ord a { w with drawn := w.drawn + 1 }) : (Code.region id l.toArray true).wp P Q a w := by
  refine wp_region_any hm (wpAny_of_T (S := S) _ _ _ _ ?_)
  have h2 := wpAnyT_planC hs hpan ord _ _ _ hB hS h
  rw [hl] at h2
  exact h2
theorem walkC_still {ops : Array Oper} {Q : Exit → Act → World → Prop} {S : World → Prop} {st ord : List Nat} {i : Nat} {a : Act} {w : World} (o : Oper) (v : Value) (ho : (ops.toList.drop i).head? = some o) (hi : st.contains i = true)
    (hw : Region.wanted o (yielded ops a.tmps) = true) (hy : ∀ w, S w → (execOp a.eval o).run P w = .ok (.value v) w) (h : walkC P ops Q S st ord (a.put o.dst v) w) : walkC P ops Q S st (i :: ord) a w := by
  unfold walkC
  rw [if_pos hi]
  exact ⟨o, v, at_drop ho, Or.inl ⟨hw, hy⟩, h⟩
theorem walkC_skip {ops : Array Oper} {Q : Exit → Act → World → Prop} {S : World → Prop} {st ord : List Nat} {i : Nat} {a : Act} {w : World} (o : Oper) (ho : (ops.toList.drop i).head? = some o) (hi : st.contains i = true)
    (hw : Region.wanted o (yielded ops a.tmps) = false) (h : walkC P ops Q S st ord (a.put o.dst undef) w) : walkC P ops Q S st (i :: ord) a w := by
  unfold walkC
  rw [if_pos hi]
  exact ⟨o, _, at_drop ho, Or.inr ⟨hw, rfl⟩, h⟩
/-- What is asked behind an operation that turns the world. -/
def BehindC (P : Program) (ops : Array Oper) (Q : Exit → Act → World → Prop) (S : World → Prop) (st ord : List Nat) (e : Exit) (a : Act) (w : World) : Prop :=
  match e with
  | .normal => S w ∧ walkC P ops Q S st ord a w
  | e => Q e a w
theorem behindC {ops : Array Oper} {Q : Exit → Act → World → Prop} {S : World → Prop} {st ord : List Nat} {a : Act} {w : World} (hS : S w) (h : walkC P ops Q S st ord a w) : BehindC P ops Q S st ord .normal a w := ⟨hS, h⟩
theorem walkC_nil {ops : Array Oper} {Q : Exit → Act → World → Prop} {S : World → Prop} {st : List Nat} {a : Act} {w : World} (h : Q .normal a w) : walkC P ops Q S st [] a w := h
theorem walkC_does {ops : Array Oper} {Q : Exit → Act → World → Prop} {S : World → Prop} {st ord : List Nat} {i : Nat} {a : Act} {w : World} (o : Oper) (ho : (ops.toList.drop i).head? = some o) (hi : st.contains i = false)
    (h : wpList P ops (BehindC P ops Q S st ord) [o] a w) : walkC P ops Q S st (i :: ord) a w := by
  unfold walkC
  rw [if_neg (by rw [hi]; simp)]
  unfold wpOp
  simp only [at_drop ho]
  unfold wpList at h
  by_cases hw : Region.wanted o (yielded ops a.tmps) = true
  · rw [if_pos hw] at h ⊢
    rcases h with h | ⟨h1, h2⟩
    · left
      unfold Oper.wp at h ⊢
      revert h
      cases (execOp a.eval o).run P w with
      | ok x w' =>
        cases x with
        | enter f args =>
          intro h
          refine Calls.mono h ?_
          intro e w'' he
          cases e with
          | outgrown => obtain ⟨a', w3, he⟩ := he; exact ⟨a', w3, he⟩
          | returned v => exact he
          | panicked c => exact he
        | _ => exact fun h => h
      | halt x w' => cases x <;> exact fun h => h
    · exact Or.inr ⟨h1, h2⟩
  · rw [if_neg hw] at h ⊢
    exact h
end Go.Proofs.Ytdidacjmcafcpaa.Br
/- A region that draws its order, walked in one order, whose last operation waits for all others, if by others: what is held of the world need not hold behind it. -/
namespace Go.Proofs.Ytdidacjmcafcpaa.Br
open Go Go.RowKit Go.Proofs.Ytdidacjmcafcpaa.Mem
set_option linter.unusedVariables false
variable {P : Program}
def directB (md : Region.Mode) (ops : Array Oper) (k m : Nat) : Bool := match ops[k]? with
  | some o => o.after.any fun e => Region.binds md e && e.on == m
  | none => false
def waitsB (md : Region.Mode) (ops : Array Oper) : Nat → Nat → Nat → Bool
  | 0, _, _ => false
  | n + 1, k, m => directB md ops k m || (List.range ops.size).any fun j => directB md ops k j && waitsB md ops n j m
/-- Number z waits for every other operation, if by others. -/
def lastT (md : Region.Mode) (ops : Array Oper) (z : Nat) : Bool := (List.range ops.size).all fun k => k == z || waitsB md ops ops.size z k
def Closed (md : Region.Mode) (ops : Array Oper) (listed : Array Bool) : Prop := ∀ k m, listed.getD k false = true → directB md ops k m = true → listed.getD m false = true
theorem closed_waits {md : Region.Mode} {ops : Array Oper} {listed : Array Bool} (hc : Closed md ops listed) : ∀ n k m, listed.getD k false = true → waitsB md ops n k m = true → listed.getD m false = true
  | 0, _, _, _, h => by cases h
  | n + 1, k, m, hk, h => by
    unfold waitsB at h
    rw [Bool.or_eq_true] at h
    rcases h with h | h
    · exact hc k m hk h
    · obtain ⟨j, _, hj⟩ := List.any_eq_true.1 h
      rw [Bool.and_eq_true] at hj
      exact closed_waits hc n j m (hc k j hk hj.1) hj.2
theorem ready_direct {md : Region.Mode} {ops : Array Oper} {listed : Array Bool} {j m : Nat} (hj : j ∈ Region.ready md ops listed) (h : directB md ops j m = true) : listed.getD m false = true := by
  obtain ⟨_, oj, hoj, hall⟩ := mem_ready.1 hj
  unfold directB at h
  rw [hoj] at h
  obtain ⟨e, he, hb⟩ := Array.any_eq_true'.1 h
  rw [Bool.and_eq_true, beq_iff_eq] at hb
  have := hall e he hb.1
  rw [hb.2] at this
  exact this
theorem ready_waits {md : Region.Mode} {ops : Array Oper} {listed : Array Bool} (hc : Closed md ops listed) {j m : Nat} (hj : j ∈ Region.ready md ops listed) : ∀ n, waitsB md ops n j m = true → listed.getD m false = true
  | 0, h => by cases h
  | n + 1, h => by
    unfold waitsB at h
    rw [Bool.or_eq_true] at h
    rcases h with h | h
    · exact ready_direct hj h
    · obtain ⟨k, _, hk⟩ := List.any_eq_true.1 h
      rw [Bool.and_eq_true] at hk
      exact closed_waits hc n k m (ready_direct hj hk.1) hk.2
theorem closed_set {md : Region.Mode} {ops : Array Oper} {listed : Array Bool} (hc : Closed md ops listed) {j : Nat} (hj : j ∈ Region.ready md ops listed) : Closed md ops (listed.setIfInBounds j true) := by
  have hup : ∀ m, listed.getD m false = true → (listed.setIfInBounds j true).getD m false = true := fun m hm => by
    by_cases e : j = m
    · subst e
      have hl : j < listed.size := by
        rcases Nat.lt_or_ge j listed.size with h | h
        · exact h
        · simp [Array.getElem?_eq_none h] at hm
      simp [hl]
    · rw [getD_set_ne false e]; exact hm
  intro k m hk hd
  by_cases e : j = k
  · subst e; exact hup m (ready_direct hj hd)
  · rw [getD_set_ne false e] at hk
    exact hup m (hc k m hk hd)
/-- Whatever order is picked from here on, and S holds behind every operation but number z. -/
def wpAnyU (P : Program) (md : Region.Mode) (ops : Array Oper) (Q : Exit → Act → World → Prop) (S : World → Prop) (z : Nat) : Nat → Array Bool → Act → World → Prop
  | 0, listed, a, w => Region.ready md ops listed = [] ∧ Q .normal a w
  | fuel + 1, listed, a, w => (Region.ready md ops listed = [] → Q .normal a w) ∧
    ∀ i ∈ Region.ready md ops listed, wpOp P ops Q i (fun a' w' => (S w' ∨ i = z) ∧ wpAnyU P md ops Q S z fuel (listed.setIfInBounds i true) a' w') a w
section
variable {md : Region.Mode} {ops : Array Oper} {Q : Exit → Act → World → Prop} {S : World → Prop} {z : Nat}
theorem wpAny_of_U : ∀ (fuel : Nat) (listed : Array Bool) (a : Act) (w : World), wpAnyU P md ops Q S z fuel listed a w → wpAny P md ops Q fuel listed a w
  | 0, _, _, _, h => h
  | fuel + 1, _, _, _, h => ⟨h.1, fun i hi => wpOp_mono (fun a' w' h' => wpAny_of_U fuel _ a' w' h'.2) (h.2 i hi)⟩
theorem wpAnyU_first (hz : lastT md ops z = true) {i : Nat} {oi : Oper} {v : Value} (hi : ops[i]? = some oi) (hiz : i ≠ z) (hsel : ∀ (j : Nat) (o : Oper) cs b, ops[j]? = some o → o.op ≠ .select cs b)
    (hQ : ∀ c a w, Q (.panic c) (a.put oi.dst v) w → Q (.panic c) a w) :
    ∀ (fuel : Nat) (listed : Array Bool) (a : Act) (w : World), Closed md ops listed →
      (∀ j oj, ops[j]? = some oj → j ≠ i → listed.getD j true = false → (∀ e ∈ oj.after, Region.binds md e = true → e.on ≠ i) → oi.apart ops oj = true) →
      i ∈ Region.ready md ops listed → YieldsIf P ops S oi v a → S w →
      wpAnyU P md ops Q S z fuel (listed.setIfInBounds i true) (a.put oi.dst v) w → wpAnyU P md ops Q S z (fuel + 1) listed a w := by
  intro fuel
  induction fuel with
  | zero =>
    intro listed a w _ _ hr hy hS H
    refine ⟨fun h => (by rw [h] at hr; cases hr), fun j hj => ?_⟩
    by_cases hji : j = i
    · subst hji; exact hy.wpOp hi hS ⟨Or.inl hS, H⟩
    · have := ready_mono hj hji
      rw [H.1] at this
      cases this
  | succ fuel ih =>
    intro listed a w hcl hfree hr hy hS H
    refine ⟨fun h => (by rw [h] at hr; cases hr), fun j hj => ?_⟩
    by_cases hji : j = i
    · subst hji; exact hy.wpOp hi hS ⟨Or.inl hS, H⟩
    · have h1 := H.2 j (ready_mono hj hji)
      obtain ⟨hjun, oj, hoj, hall⟩ := mem_ready.1 hj
      have hnot : ∀ e ∈ oj.after, Region.binds md e = true → e.on ≠ i := fun e he hb heq => by
        have h1 := hall e he hb
        have h0 := (mem_ready.1 hr).1
        rw [heq] at h1
        rcases Nat.lt_or_ge i listed.size with h' | h'
        · simp [h'] at h0 h1; rw [h0] at h1; cases h1
        · simp [Array.getElem?_eq_none h'] at h1
      have hlast : j ≠ z := fun hl => by
        subst hl
        have hil : i < ops.size := (Array.getElem?_eq_some_iff.1 hi).1
        unfold lastT at hz
        have h2 := List.all_eq_true.1 hz i (List.mem_range.2 hil)
        simp only [Bool.or_eq_true, beq_iff_eq] at h2
        rcases h2 with h2 | h2
        · exact hji h2.symm
        · have h1 := ready_waits hcl hj _ h2
          have h0 := (mem_ready.1 hr).1
          rcases Nat.lt_or_ge i listed.size with h' | h'
          · simp [h'] at h0 h1; rw [h0] at h1; cases h1
          · simp [Array.getElem?_eq_none h'] at h1
      have h2 := wpOp_putIf hoj (hfree j oj hoj hji hjun hnot) (fun cs b => hsel i oi cs b hi) (fun cs b => hsel j oj cs b hoj) hQ hy h1
      have hfree' : ∀ k ok, ops[k]? = some ok → k ≠ i → (listed.setIfInBounds j true).getD k true = false →
          (∀ e ∈ ok.after, Region.binds md e = true → e.on ≠ i) → oi.apart ops ok = true := fun k ok hk hki hun hno => by
        refine hfree k ok hk hki ?_ hno
        by_cases hjk : j = k
        · subst hjk; exact hjun
        · rw [getD_set_ne true hjk] at hun; exact hun
      refine wpOp_mono (fun a' w' h3 => ?_) h2
      have hS' : S w' := h3.2.1.elim id fun hl => absurd hl hlast
      refine ⟨Or.inl hS', ih (listed.setIfInBounds j true) a' w' (closed_set hcl hj) hfree' (ready_mono hr (Ne.symm hji)) h3.1 hS' ?_⟩
      rw [Array.setIfInBounds_comm _ _ hji]
      exact h3.2.2
end
def planU (md : Region.Mode) (ops : Array Oper) (st : List Nat) (z : Nat) : List Nat → Array Bool → Bool
  | [], listed => (Region.ready md ops listed).isEmpty
  | i :: ord, listed => (if st.contains i then Region.free md ops listed i && (Region.ready md ops listed).contains i && i != z else decide (Region.ready md ops listed = [i]) && (!ord.isEmpty || i == z)) && planU md ops st z ord (listed.setIfInBounds i true)
theorem wpAnyU_plan {md : Region.Mode} {ops : Array Oper} {Q : Exit → Act → World → Prop} {S : World → Prop} {st : List Nat} {z : Nat} (hz : lastT md ops z = true) (hs : Region.noSelect ops = true) (hQ : ∀ c a d v w, Q (.panic c) (Act.put a d v) w → Q (.panic c) a w) :
    ∀ (ord : List Nat) (listed : Array Bool) (a : Act) (w : World), Closed md ops listed → planU md ops st z ord listed = true → (S w ∨ ord = []) → walkH P ops Q S st ord a w → wpAnyU P md ops Q S z ord.length listed a w
  | [], listed, a, w, _, hp, hS, h => ⟨by simpa [planU] using hp, h⟩
  | i :: ord, listed, a, w, hcl, hp, hS, h => by
    have hS : S w := hS.elim id fun e => by cases e
    unfold planU at hp
    unfold walkH at h
    rw [Bool.and_eq_true] at hp
    obtain ⟨hp1, hp2⟩ := hp
    by_cases hi : st.contains i = true
    · rw [if_pos hi] at hp1 h
      rw [Bool.and_eq_true, Bool.and_eq_true] at hp1
      obtain ⟨o, v, ho, hy, h⟩ := h
      have hr : i ∈ Region.ready md ops listed := by simpa using hp1.1.2
      exact wpAnyU_first hz ho (by simpa using hp1.2) (Region.noSelect_spec hs) (fun c a w => hQ c a _ v w) _ _ _ _ hcl (Region.free_spec ho hp1.1.1) hr hy hS (wpAnyU_plan hz hs hQ ord _ _ _ (closed_set hcl hr) hp2 (Or.inl hS) h)
    · rw [if_neg hi] at hp1 h
      rw [Bool.and_eq_true, Bool.or_eq_true] at hp1
      have hr := of_decide_eq_true hp1.1
      refine ⟨fun e => (by rw [hr] at e; cases e), fun j hj => ?_⟩
      have hj0 := hj
      rw [hr, List.mem_singleton] at hj
      subst hj
      refine wpOp_mono (fun a' w' h' => ⟨?_, wpAnyU_plan hz hs hQ ord _ _ _ (closed_set hcl hj0) hp2 h'.1 h'.2⟩) h
      rcases h'.1 with h1 | h1
      · exact Or.inl h1
      · right
        rcases hp1.2 with h2 | h2
        · rw [h1] at h2; cases h2
        · exact beq_iff_eq.1 h2
theorem region_heldT_wp {id : Nat} {l : List Oper} {Q : Exit → Act → World → Prop} {a : Act} {w : World} (S : World → Prop) (st ord : List Nat) (z : Nat) (hm : P.follows .mixedOrders = true)
    (hs : Region.noSelect l.toArray = true) (hB : planU .any l.toArray st z ord (Array.replicate l.toArray.size false) = true) (hz : lastT .any l.toArray z = true) (hl : ord.length = l.toArray.size) (hpan : ∀ c a d v w, Q (.panic c) (Act.put a d v) w → Q (.panic c) a w)
    (hS : S { w with drawn := w.drawn + 1 }) (h : walkH P l.toArray Q S st ord a { w with drawn := w.drawn + 1 }) : (Code.region id l.toArray true).wp P Q a w := by
  refine wp_region_any hm (wpAny_of_U (S := S) (z := z) _ _ _ _ ?_)
  have hcl : Closed .any l.toArray (Array.replicate l.toArray.size false) := fun k m hk _ => by
    have key : ∀ n k : Nat, (Array.replicate n false).getD k false = false := fun n k => by rw [Array.getD_eq_getD_getElem?, Array.getElem?_replicate]; split <;> rfl
    rw [key] at hk
    cases hk
  have h2 := wpAnyU_plan hz hs hpan ord _ _ _ hcl hB (Or.inl hS) h
  rw [hl] at h2
  exact h2
end Go.Proofs.Ytdidacjmcafcpaa.Br
namespace Go.Proofs.Ytdidacjmcafcpaa.Br
open Go Go.RowKit Go.Proofs.Ytdidacjmcafcpaa.Mem
section
variable {P : Program}
def BehindH (P : Program) (ops : Array Oper) (Q : Exit → Act → World → Prop) (S : World → Prop) (st ord : List Nat) (e : Exit) (a : Act) (w : World) : Prop :=
  match e with
  | .normal => (S w ∨ ord = []) ∧ walkH P ops Q S st ord a w
  | e => Q e a w
theorem behindH {ops : Array Oper} {Q : Exit → Act → World → Prop} {S : World → Prop} {st ord : List Nat} {a : Act} {w : World} (hS : S w ∨ ord = []) (h : walkH P ops Q S st ord a w) : BehindH P ops Q S st ord .normal a w := ⟨hS, h⟩
theorem walkHd {ops : Array Oper} {Q : Exit → Act → World → Prop} {S : World → Prop} {st ord : List Nat} {i : Nat} {a : Act} {w : World} (o : Oper) (ho : (ops.toList.drop i).head? = some o) (hi : st.contains i = false)
    (h : wpList P ops (BehindH P ops Q S st ord) [o] a w) : walkH P ops Q S st (i :: ord) a w := walkH_does o ho hi h
end
theorem run_appendM {P : Program} (w : World) (base : Nat) (t ty e : TypeId) (i : TypeInfo) (z : Value) (size bytes : Nat) (ht : P.underlying t = some (.slice e)) (hi : P.info? e = some i) (hz : i.zero = some z)
    (hsize : i.size = size) (hby : i.bytes = bytes) (hzs : z.cells.size = size) (hsz : 0 < size) (v : Value) (n : Nat) (xs : List Value) (hown : w.ownsRow base e size v n xs) (ad : Addr) (news : List Value) (hl : news.length = size)
    (hnews : ∀ j u, news[j]? = some u → w.cell? (ad.add j) = some u) (h1 : ∀ u ∈ news, u.oneCell' = true) (hn : n ≤ 1000000) (hb : bytes ≤ 1000) (hbase : base ≤ w.heap.size) :
    ∃ v' w', (Builtin.append_ #[t, t] ty #[v, .slice (some ad) 1 1]).run P w = .ok v' w' ∧ w'.ownsRow base e size v' (n + 1) (xs ++ news) ∧ w.grownBy w' v.ownBlock ∧ Moved w v v' := by
  have hbb : (n + 1) * bytes ≤ 1000001 * 1000 := Nat.mul_le_mul (by omega) hb
  have hml : n + 1 ≤ maxLen := by unfold maxLen; omega
  have hl1 : news.length = 1 * i.size := by rw [hl, hsize, Nat.one_mul]
  obtain ⟨v', w', hr, h2, h3, _⟩ := run_append_own (P := P) w base t ty e i z size bytes ht hi hz hsize hby hzs hsz v n xs hown ad 1 1 news (by rw [hl, Nat.one_mul]) hnews h1 hml (by omega) hbase
  refine ⟨v', w', hr, h2, h3, ?_⟩
  rcases hown.2 with ⟨rfl, rfl⟩ | ⟨g, cap, cur, rfl, hbg, hg, hnc, hcm, hcs, htake⟩
  · have hr2 := run_append_nil (P := P) w t ty e i z ht hi hz ad 1 1 news hl1 hnews (by omega) (by omega) (by rw [hby]; omega)
    rw [hr] at hr2
    injection hr2 with hv hw
    exact Or.inr ⟨_, by rw [hv]; rfl, Nat.le_refl _⟩
  · by_cases hroom : n + 1 ≤ cap
    · have hsq : n * size + size ≤ cap * size := by
        have h := Nat.mul_le_mul_right size hroom
        rw [Nat.add_mul, Nat.one_mul] at h
        exact h
      have hr2 := run_append_room (P := P) w t ty e i ht hi g n cap cur hg ad 1 1 news hl1 hnews h1 hroom (by rw [hsize, hcs, hl]; exact hsq)
      rw [hr] at hr2
      injection hr2 with hv hw
      exact Or.inl ⟨by simp [Value.ownBlock], by rw [hv]; rfl⟩
    · have hr2 := run_append_grow (P := P) w t ty e i z ht hi hz ⟨g, 0, none⟩ n cap xs (by rw [hsize]; exact hown.1) (hown.cells (g := g) rfl) ad 1 1 news hl1 hnews (by omega) (by unfold maxLen at hml; omega)
        (by rw [hby]; exact growslice_fits (by omega) (by omega))
      rw [hr] at hr2
      injection hr2 with hv hw
      exact Or.inr ⟨_, by rw [hv]; rfl, Nat.le_refl _⟩
theorem wpList_appendM {P : Program} {w : World} {ops : Array Oper} {rest : List Oper} {o : Oper} {a : Act} {Q : Exit → Act → World → Prop} (hgd : o.guard = none) (s x : Operand) (t : TypeId)
    (ho : o.op = .call { callee := .builtin .append, args := #[s, x], argTypes := #[t, t] }) (base : Nat) (e : TypeId) (i : TypeInfo) (z : Value) (size bytes : Nat) (ht : P.underlying t = some (.slice e)) (hi : P.info? e = some i) (hz : i.zero = some z)
    (hsize : i.size = size) (hby : i.bytes = bytes) (hzs : z.cells.size = size) (hsz : 0 < size) (v : Value) (n : Nat) (xs : List Value) (hs : a.eval s = v) (hown : w.ownsRow base e size v n xs) (ad : Addr) (news : List Value) (hx : a.eval x = .slice (some ad) 1 1)
    (hl : news.length = size) (hnews : ∀ j u, news[j]? = some u → w.cell? (ad.add j) = some u) (h1 : ∀ u ∈ news, u.oneCell' = true) (hn : n ≤ 1000000) (hb : bytes ≤ 1000) (hbase : base ≤ w.heap.size)
    (h : ∀ v' w', w'.ownsRow base e size v' (n + 1) (xs ++ news) → w.grownBy w' v.ownBlock → Moved w v v' → wpList P ops Q rest (a.put o.dst v') w') : wpList P ops Q (o :: rest) a w := by
  refine wpList_plain hgd fun K hK => ?_
  obtain ⟨v', w', hr, h2, h3, h4⟩ := run_appendM (P := P) w base t o.type e i z size bytes ht hi hz hsize hby hzs hsz v n xs hown ad news hl hnews h1 hn hb hbase
  unfold Oper.wp execOp
  simp only [ho, resolve, invoke, builtin, Sem.run_bind, Sem.run_pure, Result.andThen_ok, List.map_toArray, List.map_cons, List.map_nil, hs, hx, hr]
  exact hK _ _ (h v' w' h2 h3 h4)
end Go.Proofs.Ytdidacjmcafcpaa.Br
