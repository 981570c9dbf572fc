/- Stage 4: has and Load; what a run is by then; runs of fewer steps; what the laws' runs tell; functions that fit. -/
import Derived.Test.YtcangooibfddmaaIB
import Derived.Test.YtcangooibfddmaaID
/- Stage 4: interp's has, Load and Store. -/
namespace Go.Proofs.Ytcangooibfddmaa.Ic
open Go.ChangeShapes Go.WideShapes Go.ChangeAt Go.RowKit Go.Maps Go.Proofs.Ytcangooibfddmaa.Mem Go.Proofs.Ytcangooibfddmaa.Kc Go.Proofs.Ytcangooibfddmaa.Br Go.Proofs.Ytcangooibfddmaa.Pl Go.Proofs.Ytcangooibfddmaa.Wd
set_option linter.unusedVariables false
def hasB (n : Nat) (at_ : Int) : Bool := decide (0 ≤ at_) && decide (at_ < n)
set_option maxRecDepth 100000 in
theorem has_any (w : World) (A : Option Addr) (n c : Nat) (at_ : Int) (h1 : n ≤ 1000000) (ha : InW at_) :
    Calls Try.prog 60 #[.slice A n c, .int .i32 at_] w fun e w' => e = .returned (.bool (hasB n at_)) ∧ w' = w := by
  obtain ⟨ha1, ha2⟩ := ha
  by_cases h : 0 ≤ at_
  · by_cases hl : at_ < n
    · have HW := Lib.hid (show hasB n at_ = true by unfold hasB; rw [decide_eq_true h, decide_eq_true hl]; rfl)
      go_enter Try.func60, Try.ntmps60
      go_wp2
      go_ret
      rw [HW.out]
      exact ⟨rfl, rfl⟩
    · have HW := Lib.hid (show hasB n at_ = false by unfold hasB; rw [decide_eq_false hl, Bool.and_false])
      have hl' : (n : Int) ≤ at_ := by omega
      go_enter Try.func60, Try.ntmps60
      go_wp2
      go_ret
      rw [HW.out]
      exact ⟨rfl, rfl⟩
  · have HW := Lib.hid (show hasB n at_ = false by unfold hasB; rw [decide_eq_false h, Bool.false_and])
    have h' : at_ < 0 := by omega
    go_enter Try.func60, Try.ntmps60
    go_wp2
    go_ret
    rw [HW.out]
    exact ⟨rfl, rfl⟩
def loadV (l : List Int) (at_ : Int) : Int := if hasB l.length at_ = true then l.getD at_.toNat 0 else 0
set_option maxRecDepth 100000 in
theorem load_any (w : World) (v : Value) (l : List Int) (at_ : Int) (hv : WordsAt w v l) (hl : l.length ≤ 1000000) (ha : InW at_) :
    Calls Try.prog 24 #[v, .int .i32 at_] w fun e w' => e = .returned (.tuple #[.int .i32 (loadV l at_), .bool (hasB l.length at_)]) ∧ w' = w := by
  obtain ⟨A, c, rfl, h1, h2, h3⟩ := hv
  have H3 := Lib.hid h3
  have HAT := Lib.hid ha
  clear ha
  unfold maxLen at h2
  clear h3
  cases hB : hasB l.length at_ with
  | false =>
    have HW := Lib.hid (show loadV l at_ = 0 by unfold loadV; rw [hB]; rfl)
    have HBH := Lib.hid hB
    clear hB
    go_enter Try.func24, Try.ntmps24
    go_wp2_with fail
    refine (has_any w A l.length c at_ hl HAT.out).mono ?_
    rintro e w' ⟨rfl, rfl⟩
    rw [HBH.out]
    go_wp2
    go_ret2
    rw [HW.out]
    exact ⟨rfl, rfl⟩
  | true =>
    have hp : 0 ≤ at_ ∧ at_ < l.length := by unfold hasB at hB; simpa using hB
    obtain ⟨k, rfl⟩ : ∃ k : Nat, at_ = k := ⟨at_.toNat, by omega⟩
    have hk : k < l.length := by omega
    have hk2 : (k : Int) ≤ 2147483647 := HAT.out.2
    obtain ⟨ad, rfl, hc⟩ := H3.out k hk
    have HW := Lib.hid (show loadV l k = l[k] by unfold loadV; rw [if_pos hB, Int.toNat_natCast, List.getD_eq_getElem?_getD, List.getElem?_eq_getElem hk]; rfl)
    have HBH := Lib.hid hB
    clear hB hp
    generalize l[k] = z at *
    go_enter Try.func24, Try.ntmps24
    go_wp2_with fail
    refine (has_any w _ l.length c k hl HAT.out).mono ?_
    rintro e w' ⟨rfl, rfl⟩
    rw [HBH.out]
    go_wp2
    go_ret2
    rw [HW.out]
    exact ⟨rfl, rfl⟩
end Go.Proofs.Ytcangooibfddmaa.Ic
/- Stage 4: what a run is by then, and what its small functions do to it: any function. Plain. -/
namespace Go.Proofs.Ytcangooibfddmaa.Ic
open Go.RowKit Go.Proofs.Ytcangooibfddmaa.Kc Go.Proofs.Ytcangooibfddmaa.Pl
set_option linter.unusedVariables false
structure Sg where
  vals : Int → Int
  steps : Int
  mem : List Int
  calls : List (Int × List Int)
  puts : Nat
theorem has_iff {n : Nat} {a : Int} : hasB n a = true ↔ 0 ≤ a ∧ a < n := by unfold hasB; simp
def addrG (s : Sg) (i : PIns) : Int := wrap32 (s.vals (argX i 0) + i.imm)
/-- As what an instruction traps; 0: it does not. -/
def trapG (s : Sg) (i : PIns) : Int :=
  if i.op = 15 ∨ i.op = 16 then (if hasB s.mem.length (addrG s i) = true then 0 else -2)
  else if i.op = 1 ∨ i.op = 17 ∨ i.op = 18 then 0
  else if doB i.op (s.vals (argX i 1)) = true then 0 else -1
def insG (nl : List Int) (s : Sg) (i : PIns) : Sg :=
  if i.op = 1 then { s with vals := upd s.vals i.dst i.imm, puts := s.puts + 1 }
  else if i.op = 18 then { s with vals := upd (upd s.vals i.dst (wLow (s.vals (argX i 0)) (s.vals (argX i 1)))) i.two (wHigh (s.vals (argX i 0)) (s.vals (argX i 1))), puts := s.puts + 2 }
  else if i.op = 15 then { s with vals := upd s.vals i.dst (s.mem.getD (addrG s i).toNat 0), puts := s.puts + 1 }
  else if i.op = 16 then { s with mem := s.mem.set (addrG s i).toNat (s.vals (argX i 1)) }
  else if i.op = 17 then { s with vals := upd s.vals i.dst (nl.getD s.calls.length 0), calls := s.calls ++ [(i.imm, i.args.map s.vals)], puts := s.puts + 1 }
  else { s with vals := upd s.vals i.dst (doV i.op (s.vals (argX i 0)) (s.vals (argX i 1))), puts := s.puts + 1 }
/-- Which In of phis is that from a block. -/
def phiN (phis : List PPhi) (from_ : Int) : Nat := match phis with
  | [] => 0
  | p :: _ => p.ins.countP fun x => decide (x.1 < from_)
def takenV (vals : Int → Int) (n : Nat) (p : PPhi) : Int := vals (p.ins.getD n (0, 0)).2
def setAll (f : Int → Int) (l : List (Int × Int)) : Int → Int := l.foldl (fun f x => upd f x.1 x.2) f
def phiVals (vals : Int → Int) (phis : List PPhi) (from_ : Int) : Int → Int := setAll vals (phis.map fun p => (p.dst, takenV vals (phiN phis from_) p))
def actsG (lim : Int) (nl : List Int) : Acts Sg where
  stepB s := decide (s.steps < lim)
  stepS s := if s.steps < lim then { s with steps := s.steps + 1 } else s
  doB s i := trapG s i == 0
  doV s i := trapG s i
  doS s i := if trapG s i = 0 then insG nl s i else s
  phiS s phis from_ := { s with vals := phiVals s.vals phis from_, puts := s.puts + phis.length }
  firstV s l := firstV s.vals l
  wayV s t := wayV (firstV s.vals t.args) t
  left s := (lim - s.steps).toNat
/-- What a run has become later. -/
def Grows (s t : Sg) : Prop := s.steps ≤ t.steps ∧ s.calls <+: t.calls ∧ s.mem.length = t.mem.length
theorem Grows.refl (s : Sg) : Grows s s := ⟨Int.le_refl _, List.prefix_refl _, rfl⟩
theorem Grows.trans {a b c : Sg} (h : Grows a b) (k : Grows b c) : Grows a c := ⟨Int.le_trans h.1 k.1, h.2.1.trans k.2.1, h.2.2.trans k.2.2⟩
theorem grows_ins (nl : List Int) (s : Sg) (i : PIns) : Grows s (insG nl s i) := by
  unfold insG
  split
  · exact ⟨Int.le_refl _, List.prefix_refl _, rfl⟩
  split
  · exact ⟨Int.le_refl _, List.prefix_refl _, rfl⟩
  split
  · exact ⟨Int.le_refl _, List.prefix_refl _, rfl⟩
  split
  · exact ⟨Int.le_refl _, List.prefix_refl _, by simp⟩
  split
  · exact ⟨Int.le_refl _, List.prefix_append _ _, rfl⟩
  · exact ⟨Int.le_refl _, List.prefix_refl _, rfl⟩
section
variable (lim : Int) (nl : List Int)
theorem grows_do (s : Sg) (i : PIns) : Grows s ((actsG lim nl).doS s i) := by
  simp only [actsG]
  split
  · exact grows_ins nl s i
  · exact Grows.refl s
theorem grows_step (s : Sg) : Grows s ((actsG lim nl).stepS s) := by
  simp only [actsG]
  split
  · exact ⟨by simp only; omega, List.prefix_refl _, rfl⟩
  · exact Grows.refl s
theorem grows_phi (s : Sg) (phis : List PPhi) (from_ : Int) : Grows s ((actsG lim nl).phiS s phis from_) := ⟨Int.le_refl _, List.prefix_refl _, rfl⟩
def endI : Sg ⊕ EndZ Sg → Sg
  | .inl s => s
  | .inr e => e.2.2
def endT : (Int × Nat × Sg) ⊕ EndZ Sg → Sg
  | .inl r => r.2.2
  | .inr e => e.2.2
theorem grows_insZ : ∀ (l : List PIns) (s : Sg), Grows s (endI (insZ (actsG lim nl) l s))
  | [], s => Grows.refl s
  | i :: l, s => by
    unfold insZ
    split
    · split
      · exact (grows_step lim nl s).trans ((grows_do lim nl _ i).trans (grows_insZ l _))
      · exact (grows_step lim nl s).trans (grows_do lim nl _ i)
    · exact grows_step lim nl s
theorem grows_term (t : PTerm) (at_ : Nat) (s : Sg) : Grows s (endT (termZ (actsG lim nl) t at_ s)) := by
  unfold termZ
  split
  · split
    · exact grows_step lim nl s
    split
    · exact grows_step lim nl s
    · exact grows_step lim nl s
  · exact Grows.refl s |>.trans (grows_step lim nl s)
theorem grows_pass (bs : List PBlock) (from_ : Int) (at_ : Nat) (s : Sg) : Grows s (endT (passZ (actsG lim nl) bs from_ at_ s)) := by
  unfold passZ
  split
  · exact Grows.refl s
  · rename_i b hb
    have h := (grows_phi lim nl s b.phis from_).trans (grows_insZ lim nl b.ins _)
    split
    · rename_i e he
      rw [he] at h
      exact h
    · rename_i s2 he
      rw [he] at h
      exact h.trans (grows_term lim nl b.term at_ s2)
theorem grows_run (bs : List PBlock) : ∀ (f : Nat) (from_ : Int) (at_ : Nat) (s : Sg), Grows s (runZ (actsG lim nl) bs f from_ at_ s).2.2
  | 0, _, _, s => Grows.refl s
  | f + 1, from_, at_, s => by
    have h := grows_pass lim nl bs from_ at_ s
    unfold runZ
    split
    · rename_i e he
      rw [he] at h
      exact h
    · rename_i a b c he
      rw [he] at h
      exact Grows.trans h (grows_run bs f a b c)
end
/-- A run that is cut: at the last step that it may do. -/
def Cut (lim : Int) (t : Sg) (r : EndZ Sg) : Prop := t.steps = lim ∧ lim < r.2.2.steps ∧ Grows t r.2.2
section
variable {lim lim' : Int} {nl : List Int}
theorem less_ins (hl : lim ≤ lim') : ∀ (l : List PIns) (s : Sg), s.steps ≤ lim →
    (insZ (actsG lim nl) l s = insZ (actsG lim' nl) l s ∧ (endI (insZ (actsG lim nl) l s)).steps ≤ lim) ∨
    ∃ t, insZ (actsG lim nl) l s = .inr (3, 0, t) ∧ t.steps = lim ∧ lim < (endI (insZ (actsG lim' nl) l s)).steps ∧ Grows t (endI (insZ (actsG lim' nl) l s))
  | [], s, hs => Or.inl ⟨rfl, hs⟩
  | i :: l, s, hs => by
    by_cases h1 : s.steps < lim
    · have h2 : s.steps < lim' := by omega
      have e1 : (actsG lim nl).stepS s = (actsG lim' nl).stepS s := by simp only [actsG, if_pos h1, if_pos h2]
      have hb1 : (actsG lim nl).stepB s = true := by simp only [actsG, h1, decide_true]
      have hb2 : (actsG lim' nl).stepB s = true := by simp only [actsG, h2, decide_true]
      have hst : ((actsG lim nl).stepS s).steps ≤ lim := by simp only [actsG, if_pos h1]; omega
      unfold insZ
      rw [if_pos hb1, if_pos hb2, e1]
      rw [e1] at hst
      have ed : (actsG lim nl).doB ((actsG lim' nl).stepS s) i = (actsG lim' nl).doB ((actsG lim' nl).stepS s) i := rfl
      rw [ed]
      by_cases hd : (actsG lim' nl).doB ((actsG lim' nl).stepS s) i = true
      · rw [if_pos hd, if_pos hd]
        have hs' : ((actsG lim' nl).doS ((actsG lim' nl).stepS s) i).steps ≤ lim := by
          have h0 : trapG ((actsG lim' nl).stepS s) i = 0 := by simpa [actsG] using hd
          have e : (actsG lim' nl).doS ((actsG lim' nl).stepS s) i = insG nl ((actsG lim' nl).stepS s) i := by simp only [actsG] at h0 ⊢; rw [if_pos h0]
          rw [e]
          have : (insG nl ((actsG lim' nl).stepS s) i).steps = ((actsG lim' nl).stepS s).steps := by
            unfold insG
            repeat' (first | rfl | split)
          rw [this]; exact hst
        exact less_ins hl l _ hs'
      · rw [if_neg hd, if_neg hd]
        refine Or.inl ⟨rfl, ?_⟩
        have h0 : ¬ trapG ((actsG lim' nl).stepS s) i = 0 := by simpa [actsG] using hd
        have e : (actsG lim' nl).doS ((actsG lim' nl).stepS s) i = (actsG lim' nl).stepS s := by simp only [actsG] at h0 ⊢; rw [if_neg h0]
        show ((actsG lim' nl).doS ((actsG lim' nl).stepS s) i).steps ≤ lim
        rw [e]; exact hst
    · have hsl : s.steps = lim := by omega
      have hb1 : (actsG lim nl).stepB s = false := by simp only [actsG, h1, decide_false]
      have es1 : (actsG lim nl).stepS s = s := by simp only [actsG, if_neg h1]
      have e1 : insZ (actsG lim nl) (i :: l) s = .inr (3, 0, s) := by
        conv => lhs; unfold insZ
        rw [if_neg (by rw [hb1]; exact Bool.false_ne_true), es1]
      rw [e1]
      by_cases h2 : s.steps < lim'
      · refine Or.inr ⟨s, rfl, hsl, ?_, grows_insZ lim' nl _ s⟩
        have hb2 : (actsG lim' nl).stepB s = true := by simp only [actsG, h2, decide_true]
        have hst : ((actsG lim' nl).stepS s).steps = s.steps + 1 := by simp only [actsG, if_pos h2]
        unfold insZ
        rw [if_pos hb2]
        split
        · have := ((grows_do lim' nl ((actsG lim' nl).stepS s) i).trans (grows_insZ lim' nl l _)).1
          omega
        · have := (grows_do lim' nl ((actsG lim' nl).stepS s) i).1
          show lim < ((actsG lim' nl).doS ((actsG lim' nl).stepS s) i).steps
          omega
      · have hb2 : (actsG lim' nl).stepB s = false := by simp only [actsG, h2, decide_false]
        have es2 : (actsG lim' nl).stepS s = s := by simp only [actsG, if_neg h2]
        refine Or.inl ⟨?_, hs⟩
        unfold insZ
        rw [if_neg (by rw [hb2]; exact Bool.false_ne_true), es2]
theorem less_term (hl : lim ≤ lim') (t : PTerm) (at_ : Nat) (s : Sg) (hs : s.steps ≤ lim) :
    (termZ (actsG lim nl) t at_ s = termZ (actsG lim' nl) t at_ s ∧ (endT (termZ (actsG lim nl) t at_ s)).steps ≤ lim) ∨
    ∃ u, termZ (actsG lim nl) t at_ s = .inr (3, 0, u) ∧ u.steps = lim ∧ lim < (endT (termZ (actsG lim' nl) t at_ s)).steps ∧ Grows u (endT (termZ (actsG lim' nl) t at_ s)) := by
  by_cases h1 : s.steps < lim
  · have h2 : s.steps < lim' := by omega
    have e1 : (actsG lim nl).stepS s = (actsG lim' nl).stepS s := by simp only [actsG, if_pos h1, if_pos h2]
    have hb1 : (actsG lim nl).stepB s = true := by simp only [actsG, h1, decide_true]
    have hb2 : (actsG lim' nl).stepB s = true := by simp only [actsG, h2, decide_true]
    have hst : ((actsG lim' nl).stepS s).steps ≤ lim := by simp only [actsG, if_pos h2]; omega
    left
    unfold termZ
    rw [if_pos hb1, if_pos hb2, e1]
    refine ⟨rfl, ?_⟩
    split
    · exact hst
    split
    · exact hst
    · exact hst
  · have hsl : s.steps = lim := by omega
    have hb1 : (actsG lim nl).stepB s = false := by simp only [actsG, h1, decide_false]
    have es1 : (actsG lim nl).stepS s = s := by simp only [actsG, if_neg h1]
    have e1 : termZ (actsG lim nl) t at_ s = .inr (3, 0, s) := by
      unfold termZ
      rw [if_neg (by rw [hb1]; exact Bool.false_ne_true), es1]
    rw [e1]
    by_cases h2 : s.steps < lim'
    · refine Or.inr ⟨s, rfl, hsl, ?_, grows_term lim' nl t at_ s⟩
      have hb2 : (actsG lim' nl).stepB s = true := by simp only [actsG, h2, decide_true]
      have hst : ((actsG lim' nl).stepS s).steps = s.steps + 1 := by simp only [actsG, if_pos h2]
      unfold termZ
      rw [if_pos hb2]
      split
      · show lim < ((actsG lim' nl).stepS s).steps
        omega
      split
      · show lim < ((actsG lim' nl).stepS s).steps
        omega
      · show lim < ((actsG lim' nl).stepS s).steps
        omega
    · have hb2 : (actsG lim' nl).stepB s = false := by simp only [actsG, h2, decide_false]
      have es2 : (actsG lim' nl).stepS s = s := by simp only [actsG, if_neg h2]
      refine Or.inl ⟨?_, hs⟩
      unfold termZ
      rw [if_neg (by rw [hb2]; exact Bool.false_ne_true), es2]
theorem less_pass (hl : lim ≤ lim') (bs : List PBlock) (from_ : Int) (at_ : Nat) (s : Sg) (hs : s.steps ≤ lim) :
    (passZ (actsG lim nl) bs from_ at_ s = passZ (actsG lim' nl) bs from_ at_ s ∧ (endT (passZ (actsG lim nl) bs from_ at_ s)).steps ≤ lim) ∨
    ∃ u, passZ (actsG lim nl) bs from_ at_ s = .inr (3, 0, u) ∧ u.steps = lim ∧ lim < (endT (passZ (actsG lim' nl) bs from_ at_ s)).steps ∧ Grows u (endT (passZ (actsG lim' nl) bs from_ at_ s)) := by
  unfold passZ
  cases hb : bs[at_]? with
  | none => exact Or.inl ⟨rfl, hs⟩
  | some b =>
    simp only
    have ep : (actsG lim nl).phiS s b.phis from_ = (actsG lim' nl).phiS s b.phis from_ := rfl
    rw [ep]
    rcases less_ins (nl := nl) hl b.ins ((actsG lim' nl).phiS s b.phis from_) hs with ⟨h1, h2⟩ | ⟨t, h1, h2, h3, h4⟩
    · rw [← h1]
      cases hi : insZ (actsG lim nl) b.ins ((actsG lim' nl).phiS s b.phis from_) with
      | inr e => rw [hi] at h2; exact Or.inl ⟨rfl, h2⟩
      | inl s2 => rw [hi] at h2; exact less_term hl b.term at_ s2 h2
    · rw [h1]
      refine Or.inr ⟨t, rfl, h2, ?_⟩
      cases hi : insZ (actsG lim' nl) b.ins ((actsG lim' nl).phiS s b.phis from_) with
      | inr e => rw [hi] at h3 h4; exact ⟨h3, h4⟩
      | inl s2 =>
        rw [hi] at h3 h4
        have hg := grows_term lim' nl b.term at_ s2
        exact ⟨Int.lt_of_lt_of_le h3 hg.1, h4.trans hg⟩
/-- A run of fewer steps is the beginning of one of more. -/
theorem less_run (hl : lim ≤ lim') (bs : List PBlock) : ∀ (f : Nat) (from_ : Int) (at_ : Nat) (s : Sg), s.steps ≤ lim →
    (runZ (actsG lim nl) bs f from_ at_ s = runZ (actsG lim' nl) bs f from_ at_ s ∧ (runZ (actsG lim nl) bs f from_ at_ s).2.2.steps ≤ lim) ∨ ∃ t, runZ (actsG lim nl) bs f from_ at_ s = (3, 0, t) ∧ Cut lim t (runZ (actsG lim' nl) bs f from_ at_ s)
  | 0, _, _, s, hs => Or.inl ⟨rfl, hs⟩
  | f + 1, from_, at_, s, hs => by
    unfold runZ
    rcases less_pass (nl := nl) hl bs from_ at_ s hs with ⟨h1, h2⟩ | ⟨t, h1, h2, h3, h4⟩
    · rw [← h1]
      cases hi : passZ (actsG lim nl) bs from_ at_ s with
      | inr e => rw [hi] at h2; exact Or.inl ⟨rfl, h2⟩
      | inl r => rw [hi] at h2; exact less_run hl bs f r.1 r.2.1 r.2.2 h2
    · rw [h1]
      refine Or.inr ⟨t, rfl, h2, ?_⟩
      cases hi : passZ (actsG lim' nl) bs from_ at_ s with
      | inr e => rw [hi] at h3 h4; exact ⟨h3, h4⟩
      | inl r =>
        rw [hi] at h3 h4
        have hg := grows_run lim' nl bs f r.1 r.2.1 r.2.2
        exact ⟨Int.lt_of_lt_of_le h3 hg.1, h4.trans hg⟩
end
end Go.Proofs.Ytcangooibfddmaa.Ic
/- Stage 4: a run in memory: its words, its memory, and the calls that it noted down. -/
namespace Go.Proofs.Ytcangooibfddmaa.Ic
open Go.ChangeShapes Go.WideShapes Go.ChangeAt Go.RowKit Go.Maps Go.Proofs.Ytcangooibfddmaa.Mem Go.Proofs.Ytcangooibfddmaa.Kc Go.Proofs.Ytcangooibfddmaa.Br Go.Proofs.Ytcangooibfddmaa.Pl Go.Proofs.Ytcangooibfddmaa.Gr
set_option linter.unusedVariables false
theorem run_appendM {P : Program} (w : World) (base : Nat) (t ty e : TypeId) (i : TypeInfo) (z : Value) (size bytes : Nat) (ht : P.underlying t = some (.slice e)) (hi : P.info? e = some i) (hz : i.zero = some z)
    (hsize : i.size = size) (hby : i.bytes = bytes) (hzs : z.cells.size = size) (hsz : 0 < size) (v : Value) (n : Nat) (xs : List Value) (hown : w.ownsRow base e size v n xs) (ad : Addr) (news : List Value) (hl : news.length = size)
    (hnews : ∀ j u, news[j]? = some u → w.cell? (ad.add j) = some u) (h1 : ∀ u ∈ news, u.oneCell' = true) (hn : n ≤ 1000000) (hb : bytes ≤ 1000) (hbase : base ≤ w.heap.size) :
    ∃ v' w', (Builtin.append_ #[t, t] ty #[v, .slice (some ad) 1 1]).run P w = .ok v' w' ∧ w'.ownsRow base e size v' (n + 1) (xs ++ news) ∧ w.grownBy w' v.ownBlock ∧ Moved w v v' := by
  have hbb : (n + 1) * bytes ≤ 1000001 * 1000 := Nat.mul_le_mul (by omega) hb
  have hml : n + 1 ≤ maxLen := by unfold maxLen; omega
  have hl1 : news.length = 1 * i.size := by rw [hl, hsize, Nat.one_mul]
  obtain ⟨v', w', hr, h2, h3, _⟩ := run_append_own (P := P) w base t ty e i z size bytes ht hi hz hsize hby hzs hsz v n xs hown ad 1 1 news (by rw [hl, Nat.one_mul]) hnews h1 hml (by omega) hbase
  refine ⟨v', w', hr, h2, h3, ?_⟩
  rcases hown.2 with ⟨rfl, rfl⟩ | ⟨g, cap, cur, rfl, hbg, hg, hnc, hcm, hcs, htake⟩
  · have hr2 := run_append_nil (P := P) w t ty e i z ht hi hz ad 1 1 news hl1 hnews (by omega) (by omega) (by rw [hby]; omega)
    rw [hr] at hr2
    injection hr2 with hv hw
    exact Or.inr ⟨_, by rw [hv]; rfl, Nat.le_refl _⟩
  · by_cases hroom : n + 1 ≤ cap
    · have hsq : n * size + size ≤ cap * size := by
        have h := Nat.mul_le_mul_right size hroom
        rw [Nat.add_mul, Nat.one_mul] at h
        exact h
      have hr2 := run_append_room (P := P) w t ty e i ht hi g n cap cur hg ad 1 1 news hl1 hnews h1 hroom (by rw [hsize, hcs, hl]; exact hsq)
      rw [hr] at hr2
      injection hr2 with hv hw
      exact Or.inl ⟨by simp [Value.ownBlock], by rw [hv]; rfl⟩
    · have hr2 := run_append_grow (P := P) w t ty e i z ht hi hz ⟨g, 0, none⟩ n cap xs (by rw [hsize]; exact hown.1) (hown.cells (g := g) rfl) ad 1 1 news hl1 hnews (by omega) (by unfold maxLen at hml; omega)
        (by rw [hby]; exact growslice_fits (by omega) (by omega))
      rw [hr] at hr2
      injection hr2 with hv hw
      exact Or.inr ⟨_, by rw [hv]; rfl, Nat.le_refl _⟩
theorem wpList_appendM {P : Program} {w : World} {ops : Array Oper} {rest : List Oper} {o : Oper} {a : Act} {Q : Exit → Act → World → Prop} (hgd : o.guard = none) (s x : Operand) (t : TypeId)
    (ho : o.op = .call { callee := .builtin .append, args := #[s, x], argTypes := #[t, t] }) (base : Nat) (e : TypeId) (i : TypeInfo) (z : Value) (size bytes : Nat) (ht : P.underlying t = some (.slice e)) (hi : P.info? e = some i) (hz : i.zero = some z)
    (hsize : i.size = size) (hby : i.bytes = bytes) (hzs : z.cells.size = size) (hsz : 0 < size) (v : Value) (n : Nat) (xs : List Value) (hs : a.eval s = v) (hown : w.ownsRow base e size v n xs) (ad : Addr) (news : List Value) (hx : a.eval x = .slice (some ad) 1 1)
    (hl : news.length = size) (hnews : ∀ j u, news[j]? = some u → w.cell? (ad.add j) = some u) (h1 : ∀ u ∈ news, u.oneCell' = true) (hn : n ≤ 1000000) (hb : bytes ≤ 1000) (hbase : base ≤ w.heap.size)
    (h : ∀ v' w', w'.ownsRow base e size v' (n + 1) (xs ++ news) → w.grownBy w' v.ownBlock → Moved w v v' → wpList P ops Q rest (a.put o.dst v') w') : wpList P ops Q (o :: rest) a w := by
  refine wpList_plain hgd fun K hK => ?_
  obtain ⟨v', w', hr, h2, h3, h4⟩ := run_appendM (P := P) w base t o.type e i z size bytes ht hi hz hsize hby hzs hsz v n xs hown ad news hl hnews h1 hn hb hbase
  unfold Oper.wp execOp
  simp only [ho, resolve, invoke, builtin, Sem.run_bind, Sem.run_pure, Result.andThen_ok, List.map_toArray, List.map_cons, List.map_nil, hs, hx, hr]
  exact hK _ _ (h v' w' h2 h3 h4)
/-- The slice cs holds the events l, apart from the blocks X. -/
def EventsAt (B : Nat) (w : World) (cs : Value) (l : List (Int × List Int)) (X : Nat → Prop) : Prop :=
  ∃ es : List Value, w.ownsRow B 67 2 cs l.length es ∧ (∀ g, cs.ownBlock = some g → ¬ X g) ∧
    ∀ k (h : k < l.length), es[2 * k]? = some (.int .i32 l[k].1) ∧ ∃ v, es[2 * k + 1]? = some v ∧ OwnWords B w v l[k].2 ∧ ∀ g, v.ownBlock = some g → ¬ X g
theorem EventsAt.nil (B : Nat) (w : World) (X : Nat → Prop) : EventsAt B w (.slice none 0 0) [] X := ⟨[], World.ownsRow_nil _ _ _ _, (fun g h => by cases h), fun k h => absurd h (by simp)⟩
theorem own_ne {v : Value} {g : Nat} {X : Nat → Prop} (h : ∀ g, v.ownBlock = some g → ¬ X g) (hx : X g) : v.ownBlock = none ∨ v.ownBlock ≠ some g := by
  cases hv : v.ownBlock with
  | none => exact Or.inl rfl
  | some k => exact Or.inr (fun e => h k hv (by injection e with e; rw [e]; exact hx))
theorem EventsAt.kept {B : Nat} {w w' : World} {cs : Value} {l : List (Int × List Int)} {X : Nat → Prop} {g : Nat} (h : EventsAt B w cs l X) (hg : w.grownBy w' (some g)) (hx : X g) : EventsAt B w' cs l X := by
  obtain ⟨es, h1, h2, h3⟩ := h
  refine ⟨es, h1.kept hg (own_ne h2 hx), h2, fun k hk => ?_⟩
  obtain ⟨e1, v, e2, e3, e4⟩ := h3 k hk
  exact ⟨e1, v, e2, World.ownsRow.kept e3 hg (own_ne e4 hx), e4⟩
theorem EventsAt.below {B : Nat} {w w' : World} {cs : Value} {l : List (Int × List Int)} {X : Nat → Prop} (h : EventsAt B w cs l X) (hb : Below w.heap.size w w') : EventsAt B w' cs l X := by
  obtain ⟨es, h1, h2, h3⟩ := h
  refine ⟨es, own_below h1 hb, h2, fun k hk => ?_⟩
  obtain ⟨e1, v, e2, e3, e4⟩ := h3 k hk
  exact ⟨e1, v, e2, OwnWords.below e3 hb, e4⟩
theorem EventsAt.weak {B : Nat} {w : World} {cs : Value} {l : List (Int × List Int)} {X X' : Nat → Prop} (h : EventsAt B w cs l X) (hx : ∀ g, g < w.heap.size → X' g → X g) : EventsAt B w cs l X' := by
  obtain ⟨es, h1, h2, h3⟩ := h
  refine ⟨es, h1, fun g hg hX => h2 g hg (hx g (h1.lt g hg).2 hX), fun k hk => ?_⟩
  obtain ⟨e1, v, e2, e3, e4⟩ := h3 k hk
  exact ⟨e1, v, e2, e3, fun g hg hX => e4 g hg (hx g (OwnWords.where_ e3 hg).2 hX)⟩
/-- One event more. -/
theorem EventsAt.push {B : Nat} {w w1 : World} {cs cs' v : Value} {l : List (Int × List Int)} {X : Nat → Prop} {c : Int} {a : List Int} {es : List Value} (h1 : w.ownsRow B 67 2 cs l.length es) (h2 : ∀ g, cs.ownBlock = some g → ¬ X g)
    (h3 : ∀ k (h : k < l.length), es[2 * k]? = some (.int .i32 l[k].1) ∧ ∃ v, es[2 * k + 1]? = some v ∧ OwnWords B w v l[k].2 ∧ ∀ g, v.ownBlock = some g → ¬ X g) (hX : ∀ g, X g → g < w.heap.size)
    (hv : OwnWords B w v a) (hvx : ∀ g, v.ownBlock = some g → ¬ X g) (hr : w1.ownsRow B 67 2 cs' (l.length + 1) (es ++ [.int .i32 c, v])) (hg : w.grownBy w1 cs.ownBlock) (hm : Moved w cs cs') : EventsAt B w1 cs' (l ++ [(c, a)]) X := by
  have hlen : es.length = 2 * l.length := by have := h1.1; omega
  refine ⟨es ++ [.int .i32 c, v], by rw [List.length_append]; exact hr, ?_, fun k hk => ?_⟩
  · intro g hg' hXg
    rcases hm with ⟨_, e⟩ | ⟨g', e, hge⟩
    · exact h2 g (by rw [← e]; exact hg') hXg
    · rw [e] at hg'
      injection hg' with hg'
      have := hX g hXg
      omega
  · by_cases hlt : k < l.length
    · obtain ⟨e1, u, e2, e3, e4⟩ := h3 k hlt
      rw [List.getElem_append_left hlt]
      refine ⟨by rw [List.getElem?_append_left (by omega)]; exact e1, u, by rw [List.getElem?_append_left (by omega)]; exact e2, World.ownsRow.kept e3 hg (own_apart e3 h1 (by decide)), e4⟩
    · have hkl : k = l.length := by rw [List.length_append, List.length_singleton] at hk; omega
      subst hkl
      rw [List.getElem_append_right (Nat.le_refl _)]
      simp only [Nat.sub_self, List.getElem_cons_zero]
      refine ⟨by rw [List.getElem?_append_right (by omega), show 2 * l.length - es.length = 0 by omega]; rfl, v, by rw [List.getElem?_append_right (by omega), show 2 * l.length + 1 - es.length = 1 by omega]; rfl, World.ownsRow.kept hv hg (own_apart hv h1 (by decide)), hvx⟩
/-- Words that are read, in blocks below B. -/
def AnsAt (B : Nat) (w : World) (v : Value) (l : List Int) : Prop :=
  ∃ (A : Option Addr) (c : Nat), v = .slice A l.length c ∧ l.length ≤ c ∧ c ≤ maxLen ∧ ∀ k (h : k < l.length), ∃ ad, A = some ad ∧ (ad.add k).block < B ∧ w.cell? (ad.add k) = some (.int .i32 l[k])
theorem AnsAt.of_words {B : Nat} {w : World} {v : Value} {l : List Int} (h : WordsAt w v l) (hB : w.heap.size ≤ B) : AnsAt B w v l := by
  obtain ⟨A, c, e, h1, h2, h3⟩ := h
  refine ⟨A, c, e, h1, h2, fun k hk => ?_⟩
  obtain ⟨ad, e, hc⟩ := h3 k hk
  exact ⟨ad, e, Nat.lt_of_lt_of_le (lt_of_cell hc) hB, hc⟩
theorem AnsAt.words {B : Nat} {w : World} {v : Value} {l : List Int} (h : AnsAt B w v l) : WordsAt w v l := by
  obtain ⟨A, c, e, h1, h2, h3⟩ := h
  refine ⟨A, c, e, h1, h2, fun k hk => ?_⟩
  obtain ⟨ad, e, _, hc⟩ := h3 k hk
  exact ⟨ad, e, hc⟩
theorem AnsAt.kept {B : Nat} {w w' : World} {v : Value} {l : List Int} {row : Option Nat} (h : AnsAt B w v l) (hg : w.grownBy w' row) (hr : ∀ g, row = some g → B ≤ g) : AnsAt B w' v l := by
  obtain ⟨A, c, e, h1, h2, h3⟩ := h
  refine ⟨A, c, e, h1, h2, fun k hk => ?_⟩
  obtain ⟨ad, e, hb, hc⟩ := h3 k hk
  exact ⟨ad, e, hb, hg.cell hc (fun e => by have := hr _ e.symm; omega)⟩
theorem AnsAt.below {B : Nat} {w w' : World} {v : Value} {l : List Int} (h : AnsAt B w v l) (hb : Below w.heap.size w w') : AnsAt B w' v l := h.kept (grown_of_below hb) (fun g e => by cases e)
theorem words_of_own {B : Nat} {w : World} {v : Value} {l : List Int} (h : OwnWords B w v l) : WordsAt w v l := by
  rcases h.2 with ⟨rfl, h0⟩ | ⟨g, cap, cur, rfl, _, hg, hn, hm, _⟩
  · have : l = [] := List.length_eq_zero_iff.1 h0
    subst this; exact WordsAt.none_ w
  · refine ⟨some ⟨g, 0, none⟩, cap, rfl, hn, hm, fun k hk => ⟨_, rfl, ?_⟩⟩
    exact World.ownsRow.cells h (g := g) rfl k _ (by rw [List.getElem?_map, List.getElem?_eq_getElem hk]; rfl)
def InvG (s : Sg) : Prop := 0 ≤ s.steps ∧ s.steps ≤ 1000000 ∧ (∀ x, InW (s.vals x)) ∧ (∀ x ∈ s.mem, InW x) ∧ s.mem.length ≤ 4096 ∧ s.puts ≤ 10 + 4100 * (s.steps.toNat + 1) ∧ s.calls.length ≤ s.steps.toNat
/-- The run, apart from the blocks L. -/
structure RunG (B : Nat) (av mv nv : Value) (lim : Int) (nl : List Int) (rb mb cc : Nat) (mm cs : Value) (L : Nat → Prop) (w : World) (s : Sg) : Prop where
  run : RunAt w rb mb cc av mv nv mm cs lim s.vals s.steps
  puts : cc ≤ s.puts
  base : B ≤ rb ∧ B ≤ mb ∧ B ≤ w.heap.size
  off : ¬ L rb ∧ ¬ L mb
  mem : OwnWords B w mm s.mem
  moff : ∀ g, mm.ownBlock = some g → ¬ (L g ∨ g = rb ∨ g = mb)
  ev : EventsAt B w cs s.calls fun k => L k ∨ k = rb ∨ k = mb ∨ mm.ownBlock = some k
  lt : ∀ k, L k → k < w.heap.size
  ans : AnsAt B w nv nl
  inv : InvG s
def AtG (B : Nat) (av mv nv : Value) (lim : Int) (nl : List Int) (rb : Nat) (L : Nat → Prop) (w : World) (s : Sg) : Prop := ∃ mb cc mm cs, RunG B av mv nv lim nl rb mb cc mm cs L w s
section
variable {B : Nat} {av mv nv : Value} {lim : Int} {nl : List Int} {rb mb cc : Nat} {mm cs : Value} {L L' : Nat → Prop} {w w' : World} {s s' : Sg}
theorem RunG.weak (h : RunG B av mv nv lim nl rb mb cc mm cs L w s) (hl : ∀ k, L' k → L k) : RunG B av mv nv lim nl rb mb cc mm cs L' w s where
  run := h.run
  puts := h.puts
  base := h.base
  off := ⟨fun e => h.off.1 (hl _ e), fun e => h.off.2 (hl _ e)⟩
  mem := h.mem
  moff := fun g hg e => h.moff g hg (e.imp (hl g) id)
  ev := h.ev.weak fun g _ e => e.imp (hl g) id
  lt := fun k hk => h.lt k (hl k hk)
  ans := h.ans
  inv := h.inv
theorem RunG.ext (h : RunG B av mv nv lim nl rb mb cc mm cs L w s) (hb : Below w.heap.size w w') : RunG B av mv nv lim nl rb mb cc mm cs (More L w w') w' s := by
  have l1 := h.run.str.lt
  have l2 := h.run.map.lt
  exact {
    run := h.run.below hb
    puts := h.puts
    base := ⟨h.base.1, h.base.2.1, Nat.le_trans h.base.2.2 hb.size⟩
    off := ⟨fun e => e.elim h.off.1 (fun e => by omega), fun e => e.elim h.off.2 (fun e => by omega)⟩
    mem := h.mem.below hb
    moff := fun g hg e => h.moff g hg (e.elim (fun e => e.elim Or.inl (fun e => by have := (OwnWords.where_ h.mem hg).2; omega)) Or.inr)
    ev := (h.ev.weak (X' := fun k => More L w w' k ∨ k = rb ∨ k = mb ∨ mm.ownBlock = some k) fun g hg e => e.elim (fun e => e.elim Or.inl (fun e => by omega)) Or.inr).below hb
    lt := fun k hk => hk.elim (fun e => Nat.lt_of_lt_of_le (h.lt k e) hb.size) (fun e => e.2)
    ans := h.ans.below hb
    inv := h.inv }
/-- A step that turned the run's map alone. -/
theorem RunG.mapped (h : RunG B av mv nv lim nl rb mb cc mm cs L w s) (hb : But mb w w') {cc' : Nat} (hr : RunAt w' rb mb cc' av mv nv mm cs lim s'.vals s'.steps) (hp : cc' ≤ s'.puts) (hm : s'.mem = s.mem) (hc : s'.calls = s.calls) (hi : InvG s') :
    RunG B av mv nv lim nl rb mb cc' mm cs L w' s' := by
  have hg : w.grownBy w' (some mb) := ⟨hb.os, hb.tape, hb.output, hb.size, fun k hk hn => hb.block k hk (fun e => hn (by rw [e]))⟩
  exact {
    run := hr
    puts := hp
    base := ⟨h.base.1, h.base.2.1, Nat.le_trans h.base.2.2 hb.size⟩
    off := h.off
    mem := by rw [hm]; exact World.ownsRow.kept h.mem hg (by
      cases hv : mm.ownBlock with
      | none => exact Or.inl rfl
      | some g => exact Or.inr (fun e => h.moff g hv (Or.inr (Or.inr (by injection e)))))
    moff := h.moff
    ev := by rw [hc]; exact h.ev.kept hg (Or.inr (Or.inr (Or.inl rfl)))
    lt := fun k hk => Nat.lt_of_lt_of_le (h.lt k hk) hb.size
    ans := h.ans.kept hg (fun g e => by injection e with e; rw [← e]; exact h.base.2.1)
    inv := hi }
/-- A step that turned the run's own block alone. -/
theorem RunG.stepped (h : RunG B av mv nv lim nl rb mb cc mm cs L w s) (hb : But rb w w') (hr : RunAt w' rb mb cc av mv nv mm cs lim s'.vals s'.steps) (hp : s'.puts = s.puts) (hm : s'.mem = s.mem) (hc : s'.calls = s.calls) (hi : InvG s') :
    RunG B av mv nv lim nl rb mb cc mm cs L w' s' := by
  have hg : w.grownBy w' (some rb) := ⟨hb.os, hb.tape, hb.output, hb.size, fun k hk hn => hb.block k hk (fun e => hn (by rw [e]))⟩
  exact {
    run := hr
    puts := by rw [hp]; exact h.puts
    base := ⟨h.base.1, h.base.2.1, Nat.le_trans h.base.2.2 hb.size⟩
    off := h.off
    mem := by rw [hm]; exact World.ownsRow.kept h.mem hg (by
      cases hv : mm.ownBlock with
      | none => exact Or.inl rfl
      | some g => exact Or.inr (fun e => h.moff g hv (Or.inr (Or.inl (by injection e)))))
    moff := h.moff
    ev := by rw [hc]; exact h.ev.kept hg (Or.inr (Or.inl rfl))
    lt := fun k hk => Nat.lt_of_lt_of_le (h.lt k hk) hb.size
    ans := h.ans.kept hg (fun g e => by injection e with e; rw [← e]; exact h.base.1)
    inv := hi }
end
end Go.Proofs.Ytcangooibfddmaa.Ic
/- Stage 4: what runs of the laws' functions tell. Plain. -/
namespace Go.Proofs.Ytcangooibfddmaa.Ic
open Go.RowKit Go.Proofs.Ytcangooibfddmaa.Kc Go.Proofs.Ytcangooibfddmaa.Pl
set_option linter.unusedVariables false
theorem left_less {lim : Int} {nl : List Int} {bs : List PBlock} {from_ : Int} {at_ : Nat} {s : Sg} {r : Int × Nat × Sg} (h : passZ (actsG lim nl) bs from_ at_ s = .inl r) : r.2.2.steps ≤ lim ∧ s.steps < r.2.2.steps := by
  unfold passZ at h
  split at h
  · cases h
  · rename_i b hb
    have hg := grows_insZ lim nl b.ins ((actsG lim nl).phiS s b.phis from_)
    split at h
    · cases h
    · rename_i s2 he
      rw [he] at hg
      have hg1 : s.steps ≤ s2.steps := hg.1
      unfold termZ at h
      split at h
      · rename_i hb
        have hlt : s2.steps < lim := of_decide_eq_true hb
        have hst : ((actsG lim nl).stepS s2).steps = s2.steps + 1 := by simp only [actsG, if_pos hlt]
        split at h
        · cases h
        split at h
        · cases h
        · injection h with h
          subst h
          show ((actsG lim nl).stepS s2).steps ≤ lim ∧ s.steps < ((actsG lim nl).stepS s2).steps
          omega
      · cases h
theorem fuelG {lim : Int} {nl : List Int} {bs : List PBlock} (f g : Nat) (s : Sg) (from_ : Int) (at_ : Nat) (h1 : (lim - s.steps).toNat < f) (h2 : (lim - s.steps).toNat < g) : runZ (actsG lim nl) bs f from_ at_ s = runZ (actsG lim nl) bs g from_ at_ s :=
  runZ_fuel (Good := fun _ _ _ => True) (fun s from_ at_ s' from' at' _ h => ⟨trivial, by have h := left_less h; simp only [actsG] at h ⊢; omega⟩) f g s from_ at_ trivial h1 h2
/-- Of a run that ends by so many steps: what it tells by fewer. -/
theorem told_less {lim lim' : Int} (hl : lim ≤ lim') {nl : List Int} {bs : List PBlock} {s : Sg} {from_ : Int} {at_ : Nat} (hs : s.steps ≤ lim) {how val : Int} {t : Sg} {F : Nat} (hF : (lim' - s.steps).toNat < F) (h : runZ (actsG lim' nl) bs F from_ at_ s = (how, val, t)) :
    if t.steps ≤ lim then runZ (actsG lim nl) bs ((lim - s.steps).toNat + 1) from_ at_ s = (how, val, t) else ∃ u, runZ (actsG lim nl) bs ((lim - s.steps).toNat + 1) from_ at_ s = (3, 0, u) ∧ u.steps = lim ∧ Grows u t := by
  have hF' : (lim - s.steps).toNat < F := by omega
  rw [fuelG ((lim - s.steps).toNat + 1) F s from_ at_ (by omega) hF']
  rcases less_run (nl := nl) hl bs F from_ at_ s hs with ⟨h1, h2⟩ | ⟨u, h1, h2, h3, h4⟩
  · rw [h] at h1
    rw [h1] at h2
    rw [if_pos h2]
    exact h1
  · rw [h] at h3 h4
    rw [if_neg (by show ¬ t.steps ≤ lim; have h3 : lim < t.steps := h3; omega)]
    exact ⟨u, h1, h2, h4⟩
/-! InterpMemory -/
def memP (imm : Int) : List PBlock := [⟨[], [⟨16, 0, 0, [0, 1], imm⟩, ⟨15, 2, 0, [0], imm⟩], ⟨4, [2], [], 0⟩⟩]
theorem wrap_id {a : Int} (h : InW a) : wrap32 a = a := by unfold wrap32 InW at *; omega
theorem wrap_back {a b : Int} (h : InW a) : wrap32 (wrap32 (a - b) + b) = a := by unfold wrap32 InW at *; omega
theorem told_mem (a v imm p : Int) (mem : List Int) (puts f : Nat) (vals : Int → Int) (h0 : vals 0 = wrap32 (a - imm)) (h1 : vals 1 = v) (ha : InW a) (hv : InW v) :
    ∃ vals' puts', runZ (actsG 9 []) (memP imm) (f + 1) 0 0 ⟨vals, 0, mem, [], puts⟩ = if hasB mem.length a = true then (1, v, ⟨vals', 3, mem.set a.toNat v, [], puts'⟩) else (2, -2, ⟨vals, 1, mem, [], puts⟩) := by
  have ea : wrap32 (vals 0 + imm) = a := by rw [h0]; exact wrap_back ha
  cases hB : hasB mem.length a with
  | false =>
    refine ⟨vals, 0, ?_⟩
    rw [if_neg (by simp)]
    simp [runZ, passZ, memP, insZ, actsG, trapG, addrG, argX, ea, hB, phiVals, phiN, setAll]
  | true =>
    obtain ⟨k0, k1⟩ := has_iff.1 hB
    obtain ⟨k, rfl⟩ : ∃ k : Nat, a = k := ⟨a.toNat, by omega⟩
    have hk : k < mem.length := by omega
    refine ⟨upd vals 2 v, puts + 1, ?_⟩
    rw [if_pos rfl]
    simp [runZ, passZ, memP, insZ, termZ, actsG, trapG, insG, addrG, argX, ea, hB, phiVals, phiN, setAll, h1, firstV, upd, hk]
/-! InterpCalls -/
def callI (i : Nat) : PIns := ⟨17, (i : Int) + 1, 0, [(i : Int), 0].take (i % 3), i⟩
def callsP (many : Nat) : List PBlock := [⟨[], (List.range many).map callI, ⟨4, [(many : Int)], [], 0⟩⟩]
/-- What value i is. -/
def answerV (nl : List Int) (v : Int) (i : Nat) : Int := if i = 0 then v else nl.getD (i - 1) 0
def callE (nl : List Int) (v : Int) (i : Nat) : Int × List Int := (i, [answerV nl v i, v].take (i % 3))
theorem told_calls_ins (nl : List Int) (v : Int) (n : Nat) (hn : n ≤ 12) : ∀ (m : Nat) (s : Sg), m ≤ n → s.steps = ((n - m : Nat) : Int) → s.calls = (List.range (n - m)).map (callE nl v) → (∀ i : Nat, i ≤ n - m → s.vals i = answerV nl v i) →
    ∃ s', insZ (actsG 99 nl) (((List.range n).drop (n - m)).map callI) s = .inl s' ∧ s'.steps = (n : Int) ∧ s'.calls = (List.range n).map (callE nl v) ∧ (∀ i : Nat, i ≤ n → s'.vals i = answerV nl v i) ∧ s'.mem = s.mem
  | 0, s, _, h1, h2, h3 => by
    simp only [Nat.sub_zero] at h1 h2 h3
    refine ⟨s, ?_, h1, h2, h3, rfl⟩
    rw [Nat.sub_zero, List.drop_of_length_le (by simp)]
    rfl
  | m + 1, s, hm, h1, h2, h3 => by
    have hlt : n - (m + 1) < (List.range n).length := by simp; omega
    rw [List.drop_eq_getElem_cons hlt, List.getElem_range, List.map_cons]
    have e : n - (m + 1) + 1 = n - m := by omega
    rw [e]
    obtain ⟨k, hk⟩ : ∃ k, n - (m + 1) = k := ⟨_, rfl⟩
    rw [hk] at h1 h2 h3 ⊢
    have hk1 : n - m = k + 1 := by omega
    have hst : s.steps < 99 := by omega
    have hin : insZ (actsG 99 nl) (callI k :: ((List.range n).drop (n - m)).map callI) s = insZ (actsG 99 nl) (((List.range n).drop (n - m)).map callI) ⟨upd s.vals ((k : Int) + 1) (nl.getD s.calls.length 0), s.steps + 1, s.mem, s.calls ++ [((k : Int), (callI k).args.map s.vals)], s.puts + 1⟩ := by
      conv => lhs; unfold insZ
      simp [actsG, hst, trapG, insG, callI]
    rw [hin]
    have hc : s.calls.length = k := by rw [h2]; simp
    refine told_calls_ins nl v n hn m ⟨upd s.vals ((k : Int) + 1) (nl.getD s.calls.length 0), s.steps + 1, s.mem, s.calls ++ [((k : Int), (callI k).args.map s.vals)], s.puts + 1⟩ (by omega) ?_ ?_ ?_
    · rw [hk1]; show s.steps + 1 = _; rw [h1]; omega
    · rw [hk1, List.range_succ, List.map_append, ← h2]
      show s.calls ++ _ = s.calls ++ _
      congr 1
      simp only [List.map_cons, List.map_nil, callE, callI, List.map_take, List.cons.injEq, Prod.mk.injEq, and_true, true_and]
      rw [h3 k (Nat.le_refl _)]
      have h0 := h3 0 (by omega)
      have e0 : ((0 : Nat) : Int) = 0 := rfl
      rw [e0] at h0
      rw [h0]
      rfl
    · intro i hi
      rw [hk1] at hi
      show upd s.vals ((k : Int) + 1) _ i = _
      unfold upd
      by_cases hik : i = k + 1
      · subst hik
        rw [if_pos (by omega), hc]
        unfold answerV
        rw [if_neg (by omega), show k + 1 - 1 = k by omega]
      · rw [if_neg (by omega)]
        exact h3 i (by omega)
theorem told_calls (nl : List Int) (v : Int) (n f puts : Nat) (hn : n ≤ 12) (mem : List Int) (vals : Int → Int) (h0 : vals 0 = v) :
    ∃ s', runZ (actsG 99 nl) (callsP n) (f + 1) 0 0 ⟨vals, 0, mem, [], puts⟩ = (1, answerV nl v n, s') ∧ s'.steps = (n : Int) + 1 ∧ s'.calls = (List.range n).map (callE nl v) := by
  obtain ⟨s', h1, h2, h3, h4, h5⟩ := told_calls_ins nl v n hn n ⟨vals, 0, mem, [], puts⟩ (Nat.le_refl _) (by simp) (by simp) (fun i hi => by
    have : i = 0 := by omega
    subst this
    show vals 0 = _
    rw [h0]; rfl)
  rw [Nat.sub_self, List.drop_zero] at h1
  have hlt : s'.steps < 99 := by omega
  refine ⟨{ s' with steps := s'.steps + 1 }, ?_, by show s'.steps + 1 = _; omega, h3⟩
  unfold runZ passZ
  simp only [callsP, List.getElem?_cons_zero]
  have hp : (actsG 99 nl).phiS ⟨vals, 0, mem, [], puts⟩ [] 0 = ⟨vals, 0, mem, [], puts⟩ := rfl
  rw [hp, h1]
  simp [termZ, actsG, hlt, firstV, h4 n (Nat.le_refl _)]
/-! InterpLoop -/
def loopP : List PBlock := [
  ⟨[], [⟨1, 2, 0, [], 0⟩], ⟨1, [], [1], 0⟩⟩,
  ⟨[⟨3, [(0, 2), (2, 7)]⟩, ⟨4, [(0, 1), (2, 8)]⟩], [⟨12, 5, 0, [3, 0], 0⟩], ⟨2, [5], [2, 3], 0⟩⟩,
  ⟨[], [⟨1, 6, 0, [], 1⟩, ⟨2, 7, 0, [3, 6], 0⟩, ⟨2, 8, 0, [4, 3], 0⟩], ⟨1, [], [1], 0⟩⟩,
  ⟨[], [], ⟨4, [4], [], 0⟩⟩]
theorem loop_pass1 (s : Sg) (from_ j S k : Int) (hf : (from_ = 0 ∧ s.vals 2 = j ∧ s.vals 1 = S) ∨ (from_ = 2 ∧ s.vals 7 = j ∧ s.vals 8 = S)) (hk : s.vals 0 = k) (hn : s.steps + 2 ≤ 1000) :
    ∃ s', passZ (actsG 1000 []) loopP from_ 1 s = .inl (1, if j < k then 2 else 3, s') ∧ s'.vals 0 = k ∧ s'.vals 3 = j ∧ s'.vals 4 = S ∧ s'.steps = s.steps + 2 := by
  have l1 : s.steps < 1000 := by omega
  have l2 : s.steps + 1 < 1000 := by omega
  rcases hf with ⟨rfl, h2, h1⟩ | ⟨rfl, h2, h1⟩ <;> by_cases hj : j < k <;>
    refine ⟨⟨upd (upd (upd s.vals 3 j) 4 S) 5 (if j < k then 1 else 0), s.steps + 1 + 1, s.mem, s.calls, s.puts + 3⟩, ?_, ?_, ?_, ?_, by simp only; omega⟩ <;>
    simp [passZ, loopP, insZ, termZ, actsG, trapG, insG, argX, l1, l2, h1, h2, hk, hj, phiVals, phiN, setAll, takenV, upd, doB, doV, bit, firstV, wayV]
theorem loop_pass2 (s : Sg) (j S : Int) (h3 : s.vals 3 = j) (h4 : s.vals 4 = S) (hn : s.steps + 4 ≤ 1000) :
    ∃ s', passZ (actsG 1000 []) loopP 1 2 s = .inl (2, 1, s') ∧ s'.vals 0 = s.vals 0 ∧ s'.vals 7 = wrap32 (j + 1) ∧ s'.vals 8 = wrap32 (S + j) ∧ s'.steps = s.steps + 4 := by
  have l1 : s.steps < 1000 := by omega
  have l2 : s.steps + 1 < 1000 := by omega
  have l3 : s.steps + 1 + 1 < 1000 := by omega
  have l4 : s.steps + 1 + 1 + 1 < 1000 := by omega
  refine ⟨⟨upd (upd (upd s.vals 6 1) 7 (wrap32 (j + 1))) 8 (wrap32 (S + j)), s.steps + 1 + 1 + 1 + 1, s.mem, s.calls, s.puts + 3⟩, ?_, ?_, ?_, ?_, ?_⟩
  · simp [passZ, loopP, insZ, termZ, actsG, trapG, insG, argX, l1, l2, l3, l4, h3, h4, phiVals, phiN, setAll, upd, doB, doV, firstV, wayV]
  · simp [upd]
  · simp [upd]
  · simp [upd]
  · show s.steps + 1 + 1 + 1 + 1 = _; omega
theorem loop_pass3 (s : Sg) (S : Int) (h4 : s.vals 4 = S) (hn : s.steps + 1 ≤ 1000) : passZ (actsG 1000 []) loopP 1 3 s = .inr (1, S, { s with steps := s.steps + 1 }) := by
  have l1 : s.steps < 1000 := by omega
  simp [passZ, loopP, insZ, termZ, actsG, l1, h4, phiVals, phiN, setAll, firstV]
def accV : Nat → Int → Int → Int
  | 0, _, S => S
  | r + 1, j, S => accV r (j + 1) (wrap32 (S + j))
theorem loop_turns (k : Int) (hk : 0 ≤ k ∧ k ≤ 60) : ∀ (r f : Nat) (s : Sg) (from_ j S : Int), j + r = k → 0 ≤ j → ((from_ = 0 ∧ s.vals 2 = j ∧ s.vals 1 = S) ∨ (from_ = 2 ∧ s.vals 7 = j ∧ s.vals 8 = S)) → s.vals 0 = k → s.steps + 6 * r + 3 ≤ 1000 → 2 * r + 2 ≤ f →
    ∃ s', runZ (actsG 1000 []) loopP f from_ 1 s = (1, accV r j S, s') ∧ s'.steps = s.steps + 6 * r + 3
  | r, 0, _, _, _, _, _, _, _, _, _, h => absurd h (by omega)
  | 0, f + 1, s, from_, j, S, hj, hj0, hf, h0, hn, h => by
    obtain ⟨s1, e1, a0, a3, a4, an⟩ := loop_pass1 s from_ j S k hf h0 (by omega)
    rw [if_neg (by omega)] at e1
    rw [runZ_goes e1]
    obtain ⟨g, rfl⟩ : ∃ g, f = g + 1 := ⟨f - 1, by omega⟩
    refine ⟨{ s1 with steps := s1.steps + 1 }, ?_, by show s1.steps + 1 = _; omega⟩
    unfold runZ
    simp only
    rw [loop_pass3 s1 S a4 (by omega)]
    rfl
  | r + 1, f + 1, s, from_, j, S, hj, hj0, hf, h0, hn, h => by
    obtain ⟨s1, e1, a0, a3, a4, an⟩ := loop_pass1 s from_ j S k hf h0 (by omega)
    rw [if_pos (by omega)] at e1
    rw [runZ_goes e1]
    obtain ⟨g, rfl⟩ : ∃ g, f = g + 1 := ⟨f - 1, by omega⟩
    obtain ⟨s2, e2, b0, b7, b8, bn⟩ := loop_pass2 s1 j S a3 a4 (by omega)
    show ∃ s', runZ (actsG 1000 []) loopP (g + 1) 1 2 s1 = _ ∧ _
    rw [runZ_goes e2]
    have ew : wrap32 (j + 1) = j + 1 := by unfold wrap32; omega
    rw [ew] at b7
    obtain ⟨s3, e3, c⟩ := loop_turns k hk r g s2 2 (j + 1) (wrap32 (S + j)) (by omega) (by omega) (Or.inr ⟨rfl, b7, b8⟩) (by rw [b0]; exact a0) (by omega) (by omega)
    exact ⟨s3, e3, by omega⟩
theorem acc_sum : ∀ (r : Nat) (j S : Int), InW S → accV r j S = wrap32 (S + r * j + r * (r - 1) / 2)
  | 0, j, S, h => by
    rw [show S + (0 : Nat) * j + ((0 : Nat) : Int) * (((0 : Nat) : Int) - 1) / 2 = S by simp]
    exact (wrap_id h).symm
  | r + 1, j, S, h => by
    show accV r (j + 1) (wrap32 (S + j)) = _
    rw [acc_sum r (j + 1) _ (wrap32_bd _)]
    have e : (((r + 1 : Nat) : Int)) * ((((r + 1 : Nat) : Int)) - 1) / 2 = (r : Int) * ((r : Int) - 1) / 2 + r := by
      have e2 : (((r + 1 : Nat) : Int)) * ((((r + 1 : Nat) : Int)) - 1) = (r : Int) * ((r : Int) - 1) + r * 2 := by
        push_cast
        rw [show (r : Int) + 1 - 1 = r by omega, Int.mul_sub, Int.add_mul]
        omega
      rw [e2, Int.add_mul_ediv_right _ _ (by decide)]
    rw [e]
    have e3 : (((r + 1 : Nat) : Int)) * j = r * j + j := by push_cast; rw [Int.add_mul]; omega
    have e4 : (r : Int) * (j + 1) = r * j + r := by rw [Int.mul_add]; omega
    rw [e3, e4]
    generalize (r : Int) * j = p
    generalize (r : Int) * ((r : Int) - 1) / 2 = q
    unfold wrap32
    omega
theorem told_loop (k v : Int) (hk : 0 ≤ k ∧ k ≤ 60) (hv : InW v) (vals : Int → Int) (h0 : vals 0 = k) (h1 : vals 1 = v) (mem : List Int) (puts : Nat) :
    ∃ t, runZ (actsG 1000 []) loopP 1001 0 0 ⟨vals, 0, mem, [], puts⟩ = (1, wrap32 (v + k * (k - 1) / 2), t) ∧ t.steps = 5 + 6 * k := by
  have e1 : passZ (actsG 1000 []) loopP 0 0 ⟨vals, 0, mem, [], puts⟩ = .inl (0, 1, ⟨upd vals 2 0, 2, mem, [], puts + 1⟩) := by
    simp [passZ, loopP, insZ, termZ, actsG, trapG, insG, phiVals, phiN, setAll, firstV, wayV]
  rw [show (1001 : Nat) = 1000 + 1 from rfl, runZ_goes e1]
  obtain ⟨n, rfl⟩ : ∃ n : Nat, k = n := ⟨k.toNat, by omega⟩
  obtain ⟨s', e2, c⟩ := loop_turns n hk n 1000 ⟨upd vals 2 0, 2, mem, [], puts + 1⟩ 0 0 v (by omega) (by omega) (Or.inl ⟨rfl, by simp [upd], by simp [upd, h1]⟩) (by simp [upd, h0]) (by show (2 : Int) + _ + 3 ≤ 1000; omega) (by omega)
  refine ⟨s', ?_, by have c : s'.steps = 2 + 6 * (n : Int) + 3 := c; omega⟩
  show runZ (actsG 1000 []) loopP 1000 0 1 _ = _
  rw [e2, acc_sum n 0 v hv]
  simp
/-! InterpPhis -/
def swapP : List PBlock := [
  ⟨[], [⟨1, 3, 0, [], -1⟩], ⟨1, [], [1], 0⟩⟩,
  ⟨[⟨4, [(0, 0), (2, 5)]⟩, ⟨5, [(0, 1), (2, 4)]⟩, ⟨6, [(0, 2), (2, 7)]⟩], [], ⟨2, [6], [2, 3], 0⟩⟩,
  ⟨[], [⟨2, 7, 0, [6, 3], 0⟩], ⟨1, [], [1], 0⟩⟩,
  ⟨[], [⟨17, 8, 0, [4, 5], 9⟩], ⟨4, [4], [], 0⟩⟩]
theorem swap_pass1 (s : Sg) (from_ a b k : Int) (hf : (from_ = 0 ∧ s.vals 0 = a ∧ s.vals 1 = b ∧ s.vals 2 = k) ∨ (from_ = 2 ∧ s.vals 5 = a ∧ s.vals 4 = b ∧ s.vals 7 = k)) (h3 : s.vals 3 = -1) (hn : s.steps + 1 ≤ 1000) :
    ∃ s', passZ (actsG 1000 []) swapP from_ 1 s = .inl (1, if k = 0 then 3 else 2, s') ∧ s'.vals 3 = -1 ∧ s'.vals 4 = a ∧ s'.vals 5 = b ∧ s'.vals 6 = k ∧ s'.steps = s.steps + 1 ∧ s'.calls = s.calls := by
  have l1 : s.steps < 1000 := by omega
  rcases hf with ⟨rfl, h0, h1, h2⟩ | ⟨rfl, h0, h1, h2⟩ <;> by_cases hj : k = 0 <;>
    refine ⟨⟨upd (upd (upd s.vals 4 a) 5 b) 6 k, s.steps + 1, s.mem, s.calls, s.puts + 3⟩, ?_, ?_, ?_, ?_, ?_, rfl, rfl⟩ <;>
    simp [passZ, swapP, insZ, termZ, actsG, l1, h0, h1, h2, h3, hj, phiVals, phiN, setAll, takenV, upd, firstV, wayV]
theorem swap_pass2 (s : Sg) (k : Int) (h6 : s.vals 6 = k) (h3 : s.vals 3 = -1) (hn : s.steps + 2 ≤ 1000) :
    ∃ s', passZ (actsG 1000 []) swapP 1 2 s = .inl (2, 1, s') ∧ s'.vals 3 = -1 ∧ s'.vals 4 = s.vals 4 ∧ s'.vals 5 = s.vals 5 ∧ s'.vals 7 = wrap32 (k + -1) ∧ s'.steps = s.steps + 2 ∧ s'.calls = s.calls := by
  have l1 : s.steps < 1000 := by omega
  have l2 : s.steps + 1 < 1000 := by omega
  refine ⟨⟨upd s.vals 7 (wrap32 (k + -1)), s.steps + 1 + 1, s.mem, s.calls, s.puts + 1⟩, ?_, ?_, ?_, ?_, ?_, ?_, rfl⟩
  · simp [passZ, swapP, insZ, termZ, actsG, trapG, insG, argX, l1, l2, h3, h6, phiVals, phiN, setAll, doB, doV, firstV, wayV]
  · simp [upd, h3]
  · simp [upd]
  · simp [upd]
  · simp [upd]
  · show s.steps + 1 + 1 = _; omega
theorem swap_pass3 (s : Sg) (a b : Int) (h4 : s.vals 4 = a) (h5 : s.vals 5 = b) (hc : s.calls = []) (hn : s.steps + 2 ≤ 1000) : ∃ s', passZ (actsG 1000 []) swapP 1 3 s = .inr (1, a, s') ∧ s'.calls = [(9, [a, b])] := by
  have l1 : s.steps < 1000 := by omega
  have l2 : s.steps + 1 < 1000 := by omega
  refine ⟨⟨upd s.vals 8 0, s.steps + 1 + 1, s.mem, [(9, [a, b])], s.puts + 1⟩, ?_, rfl⟩
  simp [passZ, swapP, insZ, termZ, actsG, trapG, insG, l1, l2, h4, h5, hc, phiVals, phiN, setAll, upd, firstV]
/-- Two that change places so often. -/
def swapV : Nat → Int → Int → Int × Int
  | 0, a, b => (a, b)
  | r + 1, a, b => swapV r b a
theorem swap_turns : ∀ (r f : Nat) (s : Sg) (from_ a b : Int), r ≤ 40 → ((from_ = 0 ∧ s.vals 0 = a ∧ s.vals 1 = b ∧ s.vals 2 = r) ∨ (from_ = 2 ∧ s.vals 5 = a ∧ s.vals 4 = b ∧ s.vals 7 = r)) → s.vals 3 = -1 → s.calls = [] → s.steps + 3 * r + 3 ≤ 1000 → 2 * r + 2 ≤ f →
    ∃ s', runZ (actsG 1000 []) swapP f from_ 1 s = (1, (swapV r a b).1, s') ∧ s'.calls = [(9, [(swapV r a b).1, (swapV r a b).2])]
  | r, 0, _, _, _, _, _, _, _, _, _, h => absurd h (by omega)
  | 0, f + 1, s, from_, a, b, hr, hf, h3, hc, hn, h => by
    obtain ⟨s1, e1, a3, a4, a5, a6, an, ac⟩ := swap_pass1 s from_ a b 0 hf h3 (by omega)
    rw [if_pos rfl] at e1
    rw [runZ_goes e1]
    obtain ⟨g, rfl⟩ : ∃ g, f = g + 1 := ⟨f - 1, by omega⟩
    obtain ⟨s2, e2, c2⟩ := swap_pass3 s1 a b a4 a5 (by rw [ac]; exact hc) (by omega)
    refine ⟨s2, ?_, c2⟩
    unfold runZ
    simp only
    rw [e2]
    rfl
  | r + 1, f + 1, s, from_, a, b, hr, hf, h3, hc, hn, h => by
    obtain ⟨s1, e1, a3, a4, a5, a6, an, ac⟩ := swap_pass1 s from_ a b ((r + 1 : Nat) : Int) hf h3 (by omega)
    rw [if_neg (by omega)] at e1
    rw [runZ_goes e1]
    obtain ⟨g, rfl⟩ : ∃ g, f = g + 1 := ⟨f - 1, by omega⟩
    obtain ⟨s2, e2, b3, b4, b5, b7, bn, bc⟩ := swap_pass2 s1 _ a6 a3 (by omega)
    show ∃ s', runZ (actsG 1000 []) swapP (g + 1) 1 2 s1 = _ ∧ _
    rw [runZ_goes e2]
    have ew : wrap32 (((r + 1 : Nat) : Int) + -1) = r := by unfold wrap32; omega
    rw [ew] at b7
    exact swap_turns r g s2 2 b a (by omega) (Or.inr ⟨rfl, by rw [b5]; exact a5, by rw [b4]; exact a4, b7⟩) b3 (by rw [bc, ac]; exact hc) (by omega) (by omega)
theorem swap_even : ∀ (r : Nat) (a b : Int), swapV r a b = if r % 2 = 1 then (b, a) else (a, b)
  | 0, a, b => rfl
  | r + 1, a, b => by
    show swapV r b a = _
    rw [swap_even r b a]
    by_cases h : r % 2 = 1
    · rw [if_pos h, if_neg (by omega)]
    · rw [if_neg h, if_pos (by omega)]
theorem told_swap (r : Nat) (a b : Int) (hr : r ≤ 40) (vals : Int → Int) (h0 : vals 0 = a) (h1 : vals 1 = b) (h2 : vals 2 = r) (mem : List Int) (puts : Nat) :
    ∃ t, runZ (actsG 1000 []) swapP 1001 0 0 ⟨vals, 0, mem, [], puts⟩ = (1, (swapV r a b).1, t) ∧ t.calls = [(9, [(swapV r a b).1, (swapV r a b).2])] := by
  have e1 : passZ (actsG 1000 []) swapP 0 0 ⟨vals, 0, mem, [], puts⟩ = .inl (0, 1, ⟨upd vals 3 (-1), 2, mem, [], puts + 1⟩) := by
    simp [passZ, swapP, insZ, termZ, actsG, trapG, insG, phiVals, phiN, setAll, firstV, wayV]
  rw [show (1001 : Nat) = 1000 + 1 from rfl, runZ_goes e1]
  exact swap_turns r 1000 ⟨upd vals 3 (-1), 2, mem, [], puts + 1⟩ 0 a b hr (Or.inl ⟨rfl, by simp [upd, h0], by simp [upd, h1], by simp [upd, h2]⟩) (by simp [upd]) rfl (by show (2 : Int) + _ + 3 ≤ 1000; omega) (by omega)
/-! InterpSwitch -/
def switchP (many : Nat) : List PBlock := ⟨[], [], ⟨3, [0], (List.range (many + 1)).map fun (i : Nat) => (i : Int) + 1, 0⟩⟩ :: (List.range (many + 1)).map fun (i : Nat) => ⟨[], [], ⟨5, [], [], (i : Int)⟩⟩
def switchV (many : Nat) (v : Int) : Int := if 0 ≤ v ∧ v < many then v else many
theorem told_switch (many f : Nat) (hm : 1 ≤ many ∧ many ≤ 64) (v : Int) (hv : InW v) (vals : Int → Int) (h0 : vals 0 = v) (mem : List Int) (puts : Nat) :
    ∃ t, runZ (actsG 2 []) (switchP many) (f + 2) 0 0 ⟨vals, 0, mem, [], puts⟩ = (2, switchV many v, t) ∧ t.steps = 2 := by
  obtain ⟨hv1, hv2⟩ := hv
  obtain ⟨x, hx, hxm⟩ : ∃ x : Nat, min (v % 4294967296) (((many : Int) + 1 - 1) % 4294967296) = x ∧ switchV many v = x := by
    unfold switchV
    by_cases h : 0 ≤ v ∧ v < many
    · rw [if_pos h]; exact ⟨v.toNat, by omega, by omega⟩
    · rw [if_neg h]; exact ⟨many, by omega, rfl⟩
  have hxl : x < many + 1 := by omega
  have e1 : passZ (actsG 2 []) (switchP many) 0 0 ⟨vals, 0, mem, [], puts⟩ = .inl (0, x + 1, ⟨vals, 1, mem, [], puts⟩) := by
    simp [passZ, switchP, insZ, termZ, actsG, phiVals, phiN, setAll, firstV, wayV, h0]
    rw [show (many : Int) = (many : Int) + 1 - 1 by omega, hx, Int.toNat_natCast, List.getElem?_range hxl]
    simp
  rw [show f + 2 = (f + 1) + 1 from rfl, runZ_goes e1]
  refine ⟨⟨vals, 2, mem, [], puts⟩, ?_, rfl⟩
  rw [hxm]
  have hb : (switchP many)[x + 1]? = some ⟨[], [], ⟨5, [], [], (x : Int)⟩⟩ := by
    unfold switchP
    rw [List.getElem?_cons_succ, List.getElem?_map, List.getElem?_range hxl]
    rfl
  unfold runZ passZ
  simp only [hb]
  simp [insZ, termZ, actsG, phiVals, phiN, setAll]
end Go.Proofs.Ytcangooibfddmaa.Ic
/- Stage 4: functions whose runs go as planned: what is asked of their blocks. Plain. -/
namespace Go.Proofs.Ytcangooibfddmaa.Ic
open Go.RowKit Go.Proofs.Ytcangooibfddmaa.Kc Go.Proofs.Ytcangooibfddmaa.Pl
set_option linter.unusedVariables false
/-- Ins by rising From, of which there is one for a block. -/
def PhisOk (phis : List PPhi) (from_ : Int) : Prop := ∀ p ∈ phis, phiN phis from_ < p.ins.length ∧ p.ins.length ≤ 1000000 ∧ p.ins.Pairwise fun x y => x.1 ≤ y.1
structure FitG (bs : List PBlock) : Prop where
  pos : 0 < bs.length
  ins : ∀ b ∈ bs, ∀ i ∈ b.ins, mayB i.op i.args.length = true ∧ InI i.dst ∧ InI i.two ∧ InW i.imm ∧ ∀ x ∈ i.args, InI x
  term : ∀ b ∈ bs, endB b.term.kind b.term.args.length b.term.to.length = true ∧ ∀ x ∈ b.term.args, InI x
  tos : ∀ b ∈ bs, ∀ x ∈ b.term.to, 1 ≤ x ∧ x < bs.length
  phis : ∀ b ∈ bs, b.phis.length ≤ 4096 ∧ ∀ p ∈ b.phis, InI p.dst ∧ ∀ x ∈ p.ins, InI x.1 ∧ InI x.2
  zero : ∀ b, bs[0]? = some b → b.phis = []
  edge : ∀ (a : Nat) b c, bs[a]? = some b → ∀ x ∈ b.term.to, bs[x.toNat]? = some c → PhisOk c.phis a
/-- What holds where a pass begins. -/
def GoodG (bs : List PBlock) (s : Sg) (from_ : Int) (at_ : Nat) : Prop :=
  at_ < bs.length ∧ (∀ b, bs[at_]? = some b → PhisOk b.phis from_) ∧ InI from_ ∧ s.puts ≤ 10 + 4100 * s.steps.toNat ∧ 0 ≤ s.steps
section
variable {lim : Int} {nl : List Int}
theorem puts_ins (nl : List Int) (s : Sg) (i : PIns) : (insG nl s i).puts ≤ s.puts + 2 ∧ (insG nl s i).steps = s.steps := by
  unfold insG
  repeat' (first | exact ⟨Nat.le_refl _, rfl⟩ | exact ⟨by simp, rfl⟩ | split)
theorem puts_insZ : ∀ (l : List PIns) (s s2 : Sg), insZ (actsG lim nl) l s = .inl s2 → (s2.puts : Int) + 2 * s.steps ≤ s.puts + 2 * s2.steps
  | [], s, s2, h => by
    unfold insZ at h
    injection h with h
    subst h
    exact Int.le_refl _
  | i :: l, s, s2, h => by
    unfold insZ at h
    split at h
    · rename_i hb
      have hlt : s.steps < lim := of_decide_eq_true hb
      split at h
      · rename_i hd
        have h0 : trapG ((actsG lim nl).stepS s) i = 0 := by simpa [actsG] using hd
        have e : (actsG lim nl).doS ((actsG lim nl).stepS s) i = insG nl ((actsG lim nl).stepS s) i := by simp only [actsG] at h0 ⊢; rw [if_pos h0]
        have hst : ((actsG lim nl).stepS s).steps = s.steps + 1 ∧ ((actsG lim nl).stepS s).puts = s.puts := by simp [actsG, hlt]
        have hp := puts_ins nl ((actsG lim nl).stepS s) i
        have := puts_insZ l _ s2 h
        rw [e] at this
        omega
      · cases h
    · cases h
theorem way_fits (v : Int) (t : PTerm) (h : endB t.kind t.args.length t.to.length = true) (h4 : t.kind ≠ 4) (h5 : t.kind ≠ 5) : 0 ≤ wayV v t ∧ (wayV v t).toNat < t.to.length := by
  unfold endB at h
  unfold wayV
  by_cases h1 : t.kind = 1
  · rw [if_pos h1] at h
    simp at h
    rw [if_neg (by omega), if_neg (by omega)]
    omega
  rw [if_neg h1] at h
  by_cases h2 : t.kind = 2
  · rw [if_pos h2] at h
    simp at h
    rw [if_pos h2]
    split <;> omega
  rw [if_neg h2] at h
  by_cases h3 : t.kind = 3
  · rw [if_pos h3] at h
    simp at h
    rw [if_neg h2, if_pos h3]
    omega
  rw [if_neg h3, if_neg h4, if_neg h5] at h
  cases h
theorem goes_to {bs : List PBlock} (hf : FitG bs) {b : PBlock} {at_ : Nat} (hb : bs[at_]? = some b) (v : Int) (h4 : b.term.kind ≠ 4) (h5 : b.term.kind ≠ 5) : ∃ x, b.term.to[(wayV v b.term).toNat]? = some x ∧ 0 ≤ wayV v b.term ∧ 0 ≤ x ∧ x ∈ b.term.to ∧ x.toNat < bs.length := by
  have hm := List.mem_of_getElem? hb
  obtain ⟨h1, h2⟩ := way_fits v b.term (hf.term b hm).1 h4 h5
  have hx := List.getElem_mem h2
  have ht := hf.tos b hm _ hx
  exact ⟨_, List.getElem?_eq_getElem h2, h1, by omega, hx, by omega⟩
theorem goesG {bs : List PBlock} (hf : FitG bs) (hbs : bs.length ≤ 1000) (s : Sg) (from_ : Int) (at_ : Nat) (s' : Sg) (from' : Int) (at' : Nat) (hg : GoodG bs s from_ at_) (h : passZ (actsG lim nl) bs from_ at_ s = .inl (from', at', s')) :
    GoodG bs s' from' at' ∧ (actsG lim nl).left s' < (actsG lim nl).left s := by
  obtain ⟨g1, g2, g3, g4, g5⟩ := hg
  have hl := left_less h
  refine ⟨?_, by simp only [actsG] at hl ⊢; omega⟩
  unfold passZ at h
  split at h
  · cases h
  · rename_i b hb
    have hm := List.mem_of_getElem? hb
    split at h
    · cases h
    · rename_i s2 he
      have hp := puts_insZ _ _ _ he
      have hgr := (grows_insZ lim nl b.ins ((actsG lim nl).phiS s b.phis from_)).1
      rw [he] at hgr
      have hph := (hf.phis b hm).1
      have e1 : ((actsG lim nl).phiS s b.phis from_).puts = s.puts + b.phis.length := rfl
      have e2 : ((actsG lim nl).phiS s b.phis from_).steps = s.steps := rfl
      rw [e1, e2] at hp
      rw [e2] at hgr
      have hgr : s.steps ≤ s2.steps := hgr
      unfold termZ at h
      split at h
      · rename_i hsb
        have hlt : s2.steps < lim := of_decide_eq_true hsb
        split at h
        · cases h
        rename_i h4
        split at h
        · cases h
        rename_i h5
        injection h with h
        simp only [Prod.mk.injEq] at h
        obtain ⟨rfl, ha, rfl⟩ := h
        obtain ⟨x, x1, x2, x3, x4, x5⟩ := goes_to hf hb (firstV ((actsG lim nl).stepS s2).vals b.term.args) h4 h5
        have hx : b.term.to.getD ((actsG lim nl).wayV ((actsG lim nl).stepS s2) b.term).toNat 0 = x := by
          rw [List.getD_eq_getElem?_getD]
          show (b.term.to[(wayV (firstV ((actsG lim nl).stepS s2).vals b.term.args) b.term).toNat]?).getD 0 = x
          rw [x1]; rfl
        rw [hx] at ha
        subst ha
        have est : ((actsG lim nl).stepS s2).puts = s2.puts ∧ ((actsG lim nl).stepS s2).steps = s2.steps + 1 := by simp [actsG, hlt]
        refine ⟨x5, fun c hc => hf.edge at_ b c hb x x4 hc, ⟨by omega, by omega⟩, ?_, by omega⟩
        rw [est.1, est.2]
        omega
      · cases h
end
end Go.Proofs.Ytcangooibfddmaa.Ic
