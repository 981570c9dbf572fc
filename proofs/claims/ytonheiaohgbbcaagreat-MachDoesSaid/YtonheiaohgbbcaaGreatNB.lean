/- Stage 7: what an instruction touches, plainly (law MachTouches). -/
import Derived.Test.YtonheiaohgbbcaaGreatNA
namespace Go.Proofs.YtonheiaohgbbcaaGreat.Mc
open Go.ChangeShapes Go.WideShapes Go.ChangeAt Go.RowKit Go.Proofs.YtonheiaohgbbcaaGreat.Mem Go.Proofs.YtonheiaohgbbcaaGreat.Kc Go.Proofs.YtonheiaohgbbcaaGreat.Pl Go.Proofs.YtonheiaohgbbcaaGreat.Mw
set_option linter.unusedVariables false
set_option linter.unusedSimpArgs false
/-- Some registers of one row, laid into another. -/
def mergeL (a c : List Int) (l : List Int) : List Int := l.foldl (fun c t => setP c t (getP a t)) c
theorem mergeL_len (a : List Int) : ∀ (l c : List Int), (mergeL a c l).length = c.length
  | [], c => rfl
  | t :: l, c => by
    show (mergeL a (setP c t (getP a t)) l).length = _
    rw [mergeL_len a l, setP_len]
theorem mergeL_succ (a c l : List Int) {k : Nat} (h : k < l.length) : mergeL a c (l.take (k + 1)) = setP (mergeL a c (l.take k)) l[k] (getP a l[k]) := by
  unfold mergeL
  rw [List.take_succ_eq_append_getElem h, List.foldl_append]
  rfl
theorem getP_set {l : List Int} {r x : Int} (h : 0 ≤ r ∧ r < l.length) : getP (setP l r x) r = x := by
  unfold getP
  rw [setP_len, if_pos h]
  unfold setP
  rw [if_pos h, List.getD_eq_getElem?_getD, List.getElem?_set_self (by omega)]
  rfl
theorem getP_setne {l : List Int} {r s x : Int} (h : s ≠ r) : getP (setP l r x) s = getP l s := by
  unfold getP
  rw [setP_len]
  split
  · rename_i hs
    unfold setP
    split
    · rw [List.getD_eq_getElem?_getD, List.getD_eq_getElem?_getD, List.getElem?_set_ne (by omega)]
    · rfl
  · rfl
theorem getP_out {l : List Int} {r : Int} (h : ¬ (0 ≤ r ∧ r < l.length)) : getP l r = 0 := if_neg h
theorem getP_same {a c : List Int} (hl : a.length = c.length) (t : Int) : getP (setP c t (getP a t)) t = getP a t := by
  by_cases h : 0 ≤ t ∧ t < c.length
  · exact getP_set h
  · rw [getP_out (by rw [setP_len]; exact h), getP_out (by rw [hl]; exact h)]
theorem mergeL_keep (a : List Int) : ∀ (l c : List Int), a.length = c.length → ∀ t, getP c t = getP a t → getP (mergeL a c l) t = getP a t
  | [], c, _, t, h => h
  | u :: l, c, hl, t, h => by
    refine mergeL_keep a l (setP c u (getP a u)) (by rw [setP_len]; exact hl) t ?_
    by_cases e : t = u
    · rw [e]; exact getP_same hl u
    · rw [getP_setne e]; exact h
theorem mergeL_mem (a : List Int) : ∀ (l c : List Int), a.length = c.length → ∀ t, t ∈ l → getP (mergeL a c l) t = getP a t
  | u :: l, c, hl, t, h => by
    by_cases e : t = u
    · exact mergeL_keep a l _ (by rw [setP_len]; exact hl) t (by rw [e]; exact getP_same hl u)
    · exact mergeL_mem a l _ (by rw [setP_len]; exact hl) t (by rcases List.mem_cons.1 h with h | h; exact absurd h e; exact h)
/-- What an instruction does hangs by the registers that it takes alone. -/
theorem fxM_same {i : PMach} {a c : List Int} (hl : a.length = c.length) (m : List Int) : fxM i (mergeL a c (takesL i)) m = fxM i a m := by
  by_cases h : i.op = 28
  · have hb : actsB i.op = false := by rw [h]; decide
    rw [fxM_nil hb, fxM_nil hb]
  · have ht : takesL i = [i.a, i.b, i.c].take (takesN i.op) := if_neg h
    have h3 := takesN_le i.op
    unfold fxM
    congr 1
    · split
      · exact mergeL_mem a _ c hl _ (by rw [ht]; obtain ⟨n, hn⟩ : ∃ n, takesN i.op = n + 1 := ⟨takesN i.op - 1, by omega⟩; rw [hn]; simp)
      · rfl
    · split
      · exact mergeL_mem a _ c hl _ (by rw [ht]; obtain ⟨n, hn⟩ : ∃ n, takesN i.op = n + 2 := ⟨takesN i.op - 2, by omega⟩; rw [hn]; simp)
      · rfl
    · split
      · exact mergeL_mem a _ c hl _ (by rw [ht]; obtain ⟨n, hn⟩ : ∃ n, takesN i.op = n + 3 := ⟨takesN i.op - 3, by omega⟩; rw [hn]; simp)
      · rfl
theorem setsF_keep {i : PMach} {l : List Int} {x y k : Int} (h : k ∉ makesL i) : getP (setsF i l x y (makesN i.op)) k = getP l k := by
  have h2 := makesN_le i.op
  unfold makesL at h
  obtain ⟨q, hq⟩ : ∃ q, makesN i.op = q := ⟨_, rfl⟩
  rw [hq] at h h2 ⊢
  match q, h2 with
  | 0, _ => rfl
  | 1, _ =>
    show getP (setP l _ x) k = _
    rw [getP_setne]
    intro e; apply h
    split at e <;> rename_i ho
    · rw [if_pos ho, e]; simp
    · rw [if_neg ho, e]; simp
  | 2, _ =>
    show getP (setP (setP l _ x) _ y) k = _
    rw [getP_setne, getP_setne]
    · intro e; apply h
      split at e <;> rename_i ho
      · rw [if_pos ho, e]; simp
      · rw [if_neg ho, e]; simp
    · intro e; apply h
      split at e <;> rename_i ho
      · rw [if_pos ho, e]; simp
      · rw [if_neg ho, e]; simp
theorem regs_keep {i : PMach} {l m : List Int} {k : Int} (h : k ∉ makesL i ∨ (fxM i l m).trap ≠ 0) : getP (regsM i l m) k = getP l k := by
  unfold regsM
  split
  · unfold regsF
    split
    · rename_i ht
      rcases h with h | h
      · exact setsF_keep h
      · exact absurd ht h
    · rfl
  · rfl
/-- A register that is set holds the same in rows of the same length. -/
theorem setP_alike {a c : List Int} {r x k : Int} (hl : a.length = c.length) (h : k = r ∨ getP a k = getP c k) : getP (setP a r x) k = getP (setP c r x) k := by
  by_cases e : k = r
  · subst e
    by_cases hk : 0 ≤ k ∧ k < a.length
    · rw [getP_set hk, getP_set (by rw [← hl]; exact hk)]
    · rw [getP_out (by rw [setP_len]; exact hk), getP_out (by rw [setP_len, ← hl]; exact hk)]
  · rw [getP_setne e, getP_setne e]
    exact h.resolve_left e
theorem setsF_made {i : PMach} {a c : List Int} {x y k : Int} (hl : a.length = c.length) (h : k ∈ makesL i) : getP (setsF i a x y (makesN i.op)) k = getP (setsF i c x y (makesN i.op)) k := by
  have h2 := makesN_le i.op
  unfold makesL at h
  obtain ⟨q, hq⟩ : ∃ q, makesN i.op = q := ⟨_, rfl⟩
  rw [hq] at h h2 ⊢
  match q, h2 with
  | 0, _ => simp at h
  | 1, _ =>
    show getP (setP a _ x) k = getP (setP c _ x) k
    refine setP_alike hl (Or.inl ?_)
    split at h <;> rename_i ho
    · rw [if_pos ho]; simpa using h
    · rw [if_neg ho]; simpa using h
  | 2, _ =>
    show getP (setP (setP a _ x) _ y) k = getP (setP (setP c _ x) _ y) k
    refine setP_alike (by rw [setP_len, setP_len]; exact hl) ?_
    have h' : k = (if i.op = 2 then i.a else i.d) ∨ k = (if i.op = 2 then i.b else i.e) := by
      split at h <;> rename_i ho
      · rw [if_pos ho, if_pos ho]; simpa using h
      · rw [if_neg ho, if_neg ho]; simpa using h
    rcases h' with h' | h'
    · exact Or.inr (setP_alike hl (Or.inl h'))
    · exact Or.inl h'
theorem regs_made {i : PMach} {a c m : List Int} {k : Int} (hl : a.length = c.length) (he : fxM i c m = fxM i a m) (h : k ∈ makesL i) (ht : (fxM i a m).trap = 0) (h28 : i.op ≠ 28) (h30 : i.op ≠ 30) :
    getP (regsM i a m) k = getP (regsM i c m) k := by
  have hb : actsB i.op = true := by
    by_cases hb : actsB i.op = true
    · exact hb
    · have h1 : ¬ (1 ≤ i.op ∧ i.op ≤ 27 ∨ i.op = 29) := of_decide_eq_false (by simpa [actsB] using hb)
      have h0 : makesN i.op = 0 := by
        unfold makesN
        rw [if_neg (by omega), if_neg (by omega), if_neg (by omega), if_neg (by omega)]
        split
        · rfl
        · rw [if_neg (by omega)]
      unfold makesL at h
      rw [h0] at h
      simp at h
  unfold regsM regsF
  rw [if_pos hb, if_pos hb, he, if_pos ht, if_pos ht]
  exact setsF_made hl h
theorem regsM_len (i : PMach) (l m : List Int) : (regsM i l m).length = l.length := by
  unfold regsM
  split
  · unfold regsF
    split
    · unfold setsF
      split
      · rfl
      · rw [setP_len]
      · rw [setP_len, setP_len]
    · rfl
  · rfl
theorem reckF_traps {o a b : Int} {m : List Int} (h2 : 2 ≤ o ∧ o ≤ 14) : (reckF o a b m).trap = 0 ∨ (reckF o a b m).mem = m ∧ (reckF o a b m).trap = -1 ∧ o = 14 := by
  unfold reckF
  split
  · exact Or.inl rfl
  · rename_i h
    refine Or.inr ⟨rfl, rfl, ?_⟩
    have h1 : ¬ (2 ≤ o ∧ o ≤ 13 ∨ o = 14 ∧ b ≠ 0) := fun h9 => h (decide_eq_true h9)
    omega
theorem loadF_traps {t : Int} {m : List Int} : (loadF t m).trap = 0 ∨ (loadF t m).mem = m ∧ (loadF t m).trap = -2 := by
  unfold loadF
  split
  · exact Or.inl rfl
  · exact Or.inr ⟨rfl, rfl⟩
theorem storeF_traps {t v : Int} {m : List Int} : (storeF t v m).trap = 0 ∨ (storeF t v m).mem = m ∧ (storeF t v m).trap = -2 := by
  unfold storeF
  split
  · exact Or.inl rfl
  · exact Or.inr ⟨rfl, rfl⟩
/-- What cannot be done leaves memory alone, and says why. -/
theorem fx_traps (i : PMach) (l m : List Int) : (fxM i l m).trap = 0 ∨ (fxM i l m).mem = m ∧ ((fxM i l m).trap = -1 ∧ i.op = 17 ∨ (fxM i l m).trap = -2 ∧ 24 ≤ i.op ∧ i.op ≤ 27) := by
  unfold fxM
  obtain ⟨x, hx⟩ : ∃ x, (if 1 ≤ takesN i.op then getP l i.a else 0) = x := ⟨_, rfl⟩
  obtain ⟨y, hy⟩ : ∃ y, (if 2 ≤ takesN i.op then getP l i.b else 0) = y := ⟨_, rfl⟩
  obtain ⟨z, hz⟩ : ∃ z, (if 3 ≤ takesN i.op then getP l i.c else 0) = z := ⟨_, rfl⟩
  rw [hx, hy, hz]
  unfold doesF
  by_cases h1 : i.op = 1
  · rw [if_pos h1]; exact Or.inl rfl
  rw [if_neg h1]
  by_cases h2 : i.op = 2
  · rw [if_pos h2]; exact Or.inl rfl
  rw [if_neg h2]
  by_cases h3 : i.op = 3
  · rw [if_pos h3]; exact Or.inl rfl
  rw [if_neg h3]
  by_cases h4 : i.op = 4
  · rw [if_pos h4]; exact Or.inl rfl
  rw [if_neg h4]
  by_cases h5 : 5 ≤ i.op ∧ i.op ≤ 17
  · rw [if_pos h5]
    have hb : byB i.op = i.op - 3 := by unfold byB; rw [if_neg (by omega), if_neg (by omega), if_neg (by omega)]
    rcases reckF_traps (o := byB i.op) (a := x) (b := y) (m := m) (by omega) with h | ⟨h, h', h''⟩
    · exact Or.inl h
    · exact Or.inr ⟨h, Or.inl ⟨h', by omega⟩⟩
  rw [if_neg h5]
  by_cases h6 : 18 ≤ i.op ∧ i.op ≤ 22
  · rw [if_pos h6]
    have hb : 2 ≤ byB i.op ∧ byB i.op ≤ 13 := by unfold byB; split; omega; split; omega; split <;> omega
    rcases reckF_traps (o := byB i.op) (a := x) (b := i.imm) (m := m) (by omega) with h | ⟨h, h', h''⟩
    · exact Or.inl h
    · omega
  rw [if_neg h6]
  by_cases h7 : i.op = 23
  · rw [if_pos h7]; exact Or.inl rfl
  rw [if_neg h7]
  by_cases h8 : i.op = 24
  · rw [if_pos h8]
    rcases loadF_traps (t := wrap32 (x + i.imm)) (m := m) with h | ⟨h, h'⟩
    · exact Or.inl h
    · exact Or.inr ⟨h, Or.inr ⟨h', by omega⟩⟩
  rw [if_neg h8]
  by_cases h9 : i.op = 25
  · rw [if_pos h9]
    rcases loadF_traps (t := wrap32 (x + y)) (m := m) with h | ⟨h, h'⟩
    · exact Or.inl h
    · exact Or.inr ⟨h, Or.inr ⟨h', by omega⟩⟩
  rw [if_neg h9]
  by_cases h10 : i.op = 26
  · rw [if_pos h10]
    rcases storeF_traps (t := wrap32 (x + i.imm)) (v := y) (m := m) with h | ⟨h, h'⟩
    · exact Or.inl h
    · exact Or.inr ⟨h, Or.inr ⟨h', by omega⟩⟩
  rw [if_neg h10]
  by_cases h11 : i.op = 27
  · rw [if_pos h11]
    rcases storeF_traps (t := wrap32 (x + y)) (v := z) (m := m) with h | ⟨h, h'⟩
    · exact Or.inl h
    · exact Or.inr ⟨h, Or.inr ⟨h', by omega⟩⟩
  rw [if_neg h11]
  split
  · exact Or.inl rfl
  · exact Or.inl rfl
end Go.Proofs.YtonheiaohgbbcaaGreat.Mc
