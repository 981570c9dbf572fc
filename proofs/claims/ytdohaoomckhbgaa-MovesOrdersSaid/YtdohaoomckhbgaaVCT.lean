/- Moves: jacquardref11.Circles, of moves whose To's lie apart. -/
import Derived.Test.YtdohaoomckhbgaaVCS
namespace Go.Proofs.Ytdohaoomckhbgaa.Vm
open Go.ChangeShapes Go.WideShapes Go.ChangeAt Go.RowKit Go.Maps Go.WideElems Go.ChangeMaps Go.Sort Go.Shelf Go.Proofs.Ytdohaoomckhbgaa.Mem Go.Proofs.Ytdohaoomckhbgaa.Br Go.Proofs.Ytdohaoomckhbgaa.Va Go.Proofs.Ytdohaoomckhbgaa.Vr
set_option linter.unusedVariables false
set_option linter.unusedSimpArgs false
attribute [local go_sem] Oper.semAt_some
open Classical in
/-- The circle of which x is the least; nothing, if there is none. -/
noncomputable def ringL (l : List Mov) (x : Int) : List Int := if h : ∃ n, RingAt l x n then orb (srcD l) x (Classical.choose h) else []
theorem ringL_none {l : List Mov} {x : Int} (h : ∀ n, ¬ RingAt l x n) : ringL l x = [] := by
  unfold ringL
  rw [dif_neg (fun ⟨n, e⟩ => h n e)]
theorem ringL_some {l : List Mov} {x : Int} {n : Nat} (h : RingAt l x n) : ringL l x = orb (srcD l) x n := by
  unfold ringL
  have hex : ∃ n, RingAt l x n := ⟨n, h⟩
  rw [dif_pos hex]
  rw [(Classical.choose_spec hex).1.one h.1]
noncomputable def circL (l : List Mov) (i : Nat) : List (List Int) := (((keysN l).take i).map (ringL l)).filter fun c => decide (1 < c.length)
noncomputable def circsN (l : List Mov) : List (List Int) := circL l (keysN l).length
theorem circL_succ {l : List Mov} {i : Nat} (h : i < (keysN l).length) : circL l (i + 1) = circL l i ++ (if 1 < (ringL l (keysN l)[i]).length then [ringL l (keysN l)[i]] else []) := by
  unfold circL
  rw [List.take_succ_eq_append_getElem h, List.map_append, List.filter_append, List.map_singleton]
  congr 1
  by_cases h2 : 1 < (ringL l (keysN l)[i]).length
  · rw [if_pos h2, List.filter_cons_of_pos (by simpa using h2)]; rfl
  · rw [if_neg h2, List.filter_cons_of_neg (by simpa using h2)]; rfl
theorem circL_len (l : List Mov) (i : Nat) : (circL l i).length ≤ l.length := by
  unfold circL
  refine Nat.le_trans (List.length_filter_le _ _) ?_
  rw [List.length_map, List.length_take, keysN_len]; omega
def PaB (bg : Bool) (la y : Int) : Prop := bg = false ∨ la < y
def ScanI (P : Int → Prop) (ms : List Mov) (x : Int) (so : Bool) : Prop := (so = false ∧ ∀ m ∈ ms, ¬ P m.1) ∨ (so = true ∧ P x ∧ (∃ m ∈ ms, m.1 = x) ∧ ∀ m ∈ ms, P m.1 → x ≤ m.1)
theorem scan_take {P : Int → Prop} {l : List Mov} {k : Nat} {x : Int} {so : Bool} (hk : k < l.length) (h : ScanI P (l.take k) x so) (hp : P l[k].1) (ht : so = false ∨ l[k].1 < x) : ScanI P (l.take (k + 1)) l[k].1 true := by
  rw [List.take_succ_eq_append_getElem hk]
  refine Or.inr ⟨rfl, hp, ⟨l[k], List.mem_append_right _ (List.mem_singleton.2 rfl), rfl⟩, fun m hm hpm => ?_⟩
  rcases List.mem_append.1 hm with hm | hm
  · rcases h with ⟨_, h⟩ | ⟨e, _, _, h⟩
    · exact absurd hpm (h m hm)
    · have := h m hm hpm
      rcases ht with e2 | e2
      · rw [e] at e2; cases e2
      · omega
  · rw [List.mem_singleton.1 hm]; exact Int.le_refl _
theorem scan_skip {P : Int → Prop} {l : List Mov} {k : Nat} {x : Int} {so : Bool} (hk : k < l.length) (h : ScanI P (l.take k) x so) (hp : ¬ P l[k].1 ∨ (so = true ∧ x ≤ l[k].1)) : ScanI P (l.take (k + 1)) x so := by
  rw [List.take_succ_eq_append_getElem hk]
  rcases h with ⟨e, h⟩ | ⟨e, h1, ⟨m, hm, e2⟩, h⟩
  · refine Or.inl ⟨e, fun m hm => ?_⟩
    rcases List.mem_append.1 hm with hm | hm
    · exact h m hm
    · rw [List.mem_singleton.1 hm]
      rcases hp with hp | ⟨hp, _⟩
      · exact hp
      · rw [e] at hp; cases hp
  · refine Or.inr ⟨e, h1, ⟨m, List.mem_append_left _ hm, e2⟩, fun q hq hpq => ?_⟩
    rcases List.mem_append.1 hq with hq | hq
    · exact h q hq hpq
    · rw [List.mem_singleton.1 hq] at hpq ⊢
      rcases hp with hp | ⟨_, hp⟩
      · exact absurd hpq hp
      · exact hp
/-- How far the keys are gone through. -/
structure KeyAt (l : List Mov) (i : Nat) (bg : Bool) (la : Int) : Prop where
  le : i ≤ (keysN l).length
  zero : bg = false → i = 0
  last : bg = true → ∃ j, i = j + 1 ∧ (keysN l)[j]? = some la
theorem scan_end {l : List Mov} (hu : Uni l) {i : Nat} {bg : Bool} {la x : Int} {so : Bool} (hk : KeyAt l i bg la) (h : ScanI (PaB bg la) l x so) : (so = false → i = (keysN l).length) ∧ (so = true → (keysN l)[i]? = some x) := by
  have hr := List.pairwise_iff_getElem.1 (keysN_rise hu)
  have hpk : ∀ (hi : i < (keysN l).length), PaB bg la (keysN l)[i] := fun hi => by
    cases hb : bg with
    | false => exact Or.inl rfl
    | true =>
      obtain ⟨j, e, hj⟩ := hk.last hb
      obtain ⟨hj1, hj2⟩ := List.getElem?_eq_some_iff.1 hj
      right
      rw [← hj2]
      exact hr j i hj1 hi (by omega)
  refine ⟨fun e => ?_, fun e => ?_⟩
  · rcases Nat.lt_or_ge i (keysN l).length with hi | hi
    · exfalso
      obtain ⟨m, hm, em⟩ := isTo_iff.1 (keysN_mem.1 (List.getElem_mem hi))
      rcases h with ⟨_, h⟩ | ⟨e2, _⟩
      · exact h m hm (by rw [em]; exact hpk hi)
      · rw [e] at e2; cases e2
    · have := hk.le; omega
  · rcases h with ⟨e2, _⟩ | ⟨_, h1, ⟨m, hm, em⟩, h2⟩
    · rw [e] at e2; cases e2
    · have hx : x ∈ keysN l := keysN_mem.2 (isTo_iff.2 ⟨m, hm, em⟩)
      obtain ⟨j, hj, ej⟩ := List.getElem_of_mem hx
      have hij : i ≤ j := by
        rcases Nat.lt_or_ge j i with h3 | h3
        · exfalso
          cases hb : bg with
          | false => have := hk.zero hb; omega
          | true =>
            obtain ⟨j', e, hj'⟩ := hk.last hb
            obtain ⟨hj1, hj2⟩ := List.getElem?_eq_some_iff.1 hj'
            have h4 : la < x := by
              rcases h1 with h1 | h1
              · rw [hb] at h1; cases h1
              · exact h1
            rcases Nat.lt_or_ge j j' with h5 | h5
            · have := hr j j' hj hj1 h5
              rw [hj2, ej] at this; omega
            · have e6 : j = j' := by omega
              subst e6
              rw [hj2] at ej; omega
        · exact h3
      have hil : i < (keysN l).length := by omega
      obtain ⟨q, hq, eq⟩ := isTo_iff.1 (keysN_mem.1 (List.getElem_mem hil))
      have h6 := h2 q hq (by rw [eq]; exact hpk hil)
      have : j = i := by
        rcases Nat.lt_or_ge i j with h5 | h5
        · have := hr i j hil hj h5
          rw [ej, ← eq] at this; omega
        · omega
      subst this
      rw [List.getElem?_eq_getElem hj, ej]
theorem filt_le {a b : Int} (hab : a < b) : ∀ ks : List Int, (ks.filter fun y => decide (b < y)).length ≤ (ks.filter fun y => decide (a < y)).length
  | [] => Nat.le_refl _
  | k :: ks => by
    have ih := filt_le hab ks
    by_cases h : b < k
    · rw [List.filter_cons_of_pos (by simpa using h), List.filter_cons_of_pos (by simp; omega)]; simpa using ih
    · rw [List.filter_cons_of_neg (by simpa using h)]
      by_cases h2 : a < k
      · rw [List.filter_cons_of_pos (by simpa using h2), List.length_cons]; omega
      · rw [List.filter_cons_of_neg (by simpa using h2)]; exact ih
theorem filt_lt {a b : Int} (hab : a < b) : ∀ ks : List Int, b ∈ ks → (ks.filter fun y => decide (b < y)).length < (ks.filter fun y => decide (a < y)).length
  | [], h => by cases h
  | k :: ks, h => by
    by_cases e : k = b
    · subst e
      rw [List.filter_cons_of_neg (by simp), List.filter_cons_of_pos (by simpa using hab), List.length_cons]
      have := filt_le hab ks; omega
    · have ih := filt_lt hab ks (by rcases List.mem_cons.1 h with e2 | h; exact absurd e2.symm e; exact h)
      by_cases h1 : b < k
      · rw [List.filter_cons_of_pos (by simpa using h1), List.filter_cons_of_pos (by simp; omega)]; simpa using ih
      · rw [List.filter_cons_of_neg (by simpa using h1)]
        by_cases h2 : a < k
        · rw [List.filter_cons_of_pos (by simpa using h2), List.length_cons]; omega
        · rw [List.filter_cons_of_neg (by simpa using h2)]; exact ih
/-- How many keys are left. -/
def leftK (ks : List Int) (bg : Value) (la : Value) : Nat := match bg with
  | .bool true => (ks.filter fun y => decide (Go.RowKit.intOf la < y)).length
  | _ => ks.length + 1
theorem leftK_next {l : List Mov} (hu : Uni l) {i : Nat} {bg : Bool} {la x : Int} (hk : KeyAt l i bg la) (hx : (keysN l)[i]? = some x) : leftK (keysN l) (.bool true) (.int .i64 x) < leftK (keysN l) (.bool bg) (.int .i64 la) ∧ KeyAt l (i + 1) true x := by
  obtain ⟨hi, ei⟩ := List.getElem?_eq_some_iff.1 hx
  refine ⟨?_, ⟨by omega, fun h => (by cases h), fun _ => ⟨i, rfl, hx⟩⟩⟩
  cases hb : bg with
  | false =>
    show ((keysN l).filter _).length < (keysN l).length + 1
    have := List.length_filter_le (fun y => decide (Go.RowKit.intOf (.int .i64 x) < y)) (keysN l)
    omega
  | true =>
    obtain ⟨j, e, hj⟩ := hk.last hb
    obtain ⟨hj1, hj2⟩ := List.getElem?_eq_some_iff.1 hj
    have hr := List.pairwise_iff_getElem.1 (keysN_rise hu) j i hj1 hi (by omega)
    rw [hj2, ei] at hr
    exact filt_lt hr _ (List.mem_of_getElem? hx)
end Go.Proofs.Ytdohaoomckhbgaa.Vm
