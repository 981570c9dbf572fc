/- What the library's Repeat answers of one range. -/
import Derived.Test.YthanbedmiaacdaaRepeat
namespace Go.Proofs.Ythanbedmiaacdaa.Rp
open Go.ChangeShapes Go.WideShapes Go.ChangeAt Go.RowKit Go.Proofs.Ythanbedmiaacdaa.Mem Go.Proofs.Ythanbedmiaacdaa.Br
set_option linter.unusedVariables false

/-- A range's two cells. -/
def rg (p : Int × Int) : List Value := [.int .i64 p.1, .int .i64 p.2]
theorem rg_len (p : Int × Int) : (rg p).length = 2 := rfl
/-- A row of ranges of the call's own. -/
def OwnRanges (B : Nat) (w : World) (v : Value) (l : List (Int × Int)) : Prop := w.ownsRow B 88 2 v l.length (l.map rg).flatten
theorem rep_rg (n : Nat) (p : Int × Int) : rep n (rg p) = ((List.replicate n p).map rg).flatten := by unfold rep; rw [List.map_replicate]
theorem rgs_len (l : List (Int × Int)) : (l.map rg).flatten.length = l.length * 2 := by
  induction l with
  | nil => rfl
  | cons p l ih => rw [List.map_cons, List.flatten_cons, List.length_append, ih, rg_len, List.length_cons]; omega
theorem toList_madeCells_two (v : Value) (n : Nat) : (madeCells #[v, v] (n * 2)).toList = rep n [v, v] := by
  have h1 : rep n [v, v] = List.replicate (n * 2) v := by
    unfold rep
    induction n with
    | zero => rfl
    | succ n ih => rw [List.replicate_succ, List.flatten_cons, ih, show (n + 1) * 2 = n * 2 + 1 + 1 by omega, List.replicate_succ, List.replicate_succ]; rfl
  rw [h1]
  apply List.ext_getElem?
  intro j
  by_cases hj : j < n * 2
  · rw [List.getElem?_replicate, if_pos hj]
    have h2 : j % 2 = 0 ∨ j % 2 = 1 := by omega
    rcases h2 with h2 | h2 <;> simp [madeCells, hj, h2]
  · simp [madeCells, hj]
theorem rg_cells (m : Nat) (p : Int × Int) : ∀ v ∈ rep m (rg p), v.oneCell' = true := by
  intro v hv
  have := rep_mem hv
  unfold rg at this
  simp only [List.mem_cons, List.not_mem_nil, or_false] at this
  rcases this with rfl | rfl <;> rfl
theorem rep_get {n m i : Nat} {vs : List Value} (h : m ≤ n) (hi : i < (rep m vs).length) : (rep n vs)[i]? = (rep m vs)[i]? := by
  have e : rep n vs = rep m vs ++ rep (n - m) vs := by rw [← rep_add]; congr 1; omega
  rw [e, List.getElem?_append_left hi]
theorem info_range : (Try.prog.info? 88).map (·.size) = some 2 := by kernel_rfl
theorem info_range2 : (Try.prog.info? 88).map (fun i => (i.zero, i.size, i.bytes)) = some (some (.agg #[.int .i64 0, .int .i64 0]), 2, 16) := by kernel_rfl

/-- One range, n times. -/
def MadeRepR (w : World) (n : Nat) (x : Int × Int) (e : Ending) (w' : World) : Prop :=
  e = .returned (.slice (some ⟨w.heap.size, 0, none⟩) n n) ∧ OwnRanges w.heap.size w' (.slice (some ⟨w.heap.size, 0, none⟩) n n) (List.replicate n x) ∧ Below w.heap.size w w'
set_option maxRecDepth 100000 in
set_option maxHeartbeats 4000000 in
theorem repeatR_any (w : World) (xb n : Nat) (x : Int × Int) (hx : ∀ j v, (rg x)[j]? = some v → w.cell? ⟨xb, j, none⟩ = some v) (hn : n ≤ 1000000) :
    Calls Try.prog 69 #[.slice (some ⟨xb, 0, none⟩) 1 1, .int .i64 n] w (MadeRepR w n x) := by
  obtain ⟨i0, hi, hz0, hz1, hz2⟩ := info_parts info_range2
  have HI := Lib.hid hi
  have HZ0 := Lib.hid hz0
  have HZ1 := Lib.hid hz1
  have HZ2 := Lib.hid hz2
  clear hi hz0 hz1 hz2
  have HX := Lib.hid hx
  have hxb := lt_of_cell (hx 0 (.int .i64 x.1) rfl)
  have d0 : decide ((n : Int) < 0) = false := decide_eq_false (by omega)
  have d1 : decide ((9223372036854775807 : Int) < (n : Int)) = false := decide_eq_false (by omega)
  clear hx
  go_enter Try.func69, Try.ntmps69
  go_wp2_with (first | (go_at_call 65; refine (mul_one_any n hn _).mono ?_; rintro e w' ⟨rfl, rfl⟩) | (at_make; refine wpList_make_full _ rfl _ _ 68 rfl w.heap.size 88 i0 (.agg #[.int .i64 0, .int .i64 0]) 2 Try.underlying68 HI.out HZ0.out HZ1.out .i64 .i64 _ _ n rfl rfl rfl rfl (by rw [HZ2.out]; omega) (by unfold maxLen; omega) (Nat.le_refl _) ?_))
  intro w1 hown hgr
  rw [toList_madeCells_two] at hown
  have HB1 := Lib.hid (show Below w.heap.size w w1 from (Below.refl _ _).grown hgr (Nat.le_refl _) (fun j hj => by cases hj))
  have hS1 : Str w1 w.heap.size 88 (rep 0 (rg x) ++ rep (n - 0) (rg (0, 0))) := by
    rcases hown.2 with ⟨e, _⟩ | ⟨g, cap, cur, e, _, hg, _, _, h3, h4⟩
    · cases e
    · injection e with e1 _ e3
      injection e1 with e1
      injection e1 with e1
      subst e1; subst e3
      unfold Str
      rw [show rep 0 (rg x) = [] from rfl, List.nil_append, Nat.sub_zero, show rep n (rg (0, 0)) = rep n [Value.int .i64 0, Value.int .i64 0] from rfl, ← h4, hg]
      congr 2
      rw [List.take_of_length_le (by rw [Array.length_toList]; omega)]
  have hlt1 := hS1.lt
  have hx1 := fun j v hj => cell_keep HB1.out (Nat.le_refl _) (HX.out j v hj)
  clear hown hgr
  obtain ⟨m0, hm0⟩ : ∃ m0, m0 = Nat.min 1 n := ⟨_, rfl⟩
  have hm0' : m0 ≤ 1 ∧ m0 ≤ n := by rw [hm0]; exact ⟨Nat.min_le_left _ _, Nat.min_le_right _ _⟩
  have hm0'' : 0 < n → m0 = 1 := by rw [hm0]; intro h; exact Nat.min_eq_left h
  have hsrc1 : ∀ j v, (rep m0 (rg x))[j]? = some v → w1.cell? ((⟨xb, 0, none⟩ : Addr).add j) = some v := by
    intro j v hj
    have h1 : j < (rep m0 (rg x)).length := (List.getElem?_eq_some_iff.1 hj).1
    have e : rep 1 (rg x) = rg x := by unfold rep; simp
    rw [← rep_get hm0'.1 h1, e] at hj
    rw [Addr.add_lit, Nat.zero_add]
    exact hx1 j v hj
  have hfit1 : 0 + (rep m0 (rg x)).length ≤ (rep 0 (rg x) ++ rep (n - 0) (rg (0, 0))).length := by
    rw [List.length_append, rep_len, rep_len, rep_len, rg_len, rg_len]; omega
  have HS1 := Lib.hid hS1
  have HF1 := Lib.hid hfit1
  have HM0 := Lib.hid hm0
  have HC1 := Lib.hid hsrc1
  have HONE := Lib.hid (rg_cells m0 x)
  clear hS1 hfit1 hm0 hsrc1 hx1
  go_upto_region 8 with (refine wpList_copyK rfl (.tmp 31) (.tmp 32) 68 68 rfl 88 2 m0 Try.underlying68 info_range w.heap.size 0 n n ⟨xb, 0, none⟩ 1 1 rfl rfl (rep 0 (rg x) ++ rep (n - 0) (rg (0, 0))) 88 HS1.out (rep m0 (rg x)) HM0.out (by rw [rep_len]; rfl) HC1.out HF1.out HONE.out ?_)
  intro w2 hS2 hgr2
  have hS2' : Str w2 w.heap.size 88 (rep m0 (rg x) ++ rep (n - m0) (rg (0, 0))) := by
    have h := splice_rep (n := n) (j := 0) (m := m0) (k := 2) (vs := (rg x)) (zs := (rg (0, 0))) rfl rfl (by omega)
    rw [Nat.zero_add, Nat.zero_mul, Nat.sub_zero] at h
    rw [h] at hS2; exact hS2
  have HS2 := Lib.hid hS2'
  have HB2 := Lib.hid (HB1.out.grown hgr2 HB1.out.size (fun k hk => by injection hk with hk; omega))
  clear hS2 hS2' hgr2 HS1 HF1 HC1
  go_wp2
  go_loopw [8] (fun i wr => ∃ j : Nat, j ≤ n ∧ (0 < n → 0 < j) ∧ i = .int .i64 j ∧ Str wr w.heap.size 88 (rep j (rg x) ++ rep (n - j) (rg (0, 0))) ∧ Below w.heap.size w wr) (fun i _ => n - (intOf i).toNat)
  case atStart => exact ⟨m0, hm0'.2, by omega, rfl, HS2.out, HB2.out⟩
  case round =>
    obtain ⟨j, hj, hj0, rfl, hS, hB⟩ := hrel
    obtain ⟨wo, rfl⟩ : ∃ wo : World, wo = wr := ⟨_, rfl⟩
    by_cases hlt : j < n
    · have hj1 : 0 < j := hj0 (by omega)
      have hne : ¬ n = j := by omega
      have HS := Lib.hid hS
      have HB := Lib.hid hB
      clear hS hB hj0
      go_wp2
      refine region_held_wp (fun _ => True) [0, 1, 2, 3, 4, 5, 6, 8, 9] [0, 1, 2, 3, 4, 5, 6, 7, 8, 9] (by kernel_rfl) (by kernel_rfl) (by kernel_rfl) rfl ?hpan trivial ?_
      case hpan => intro c a d v w h; cases d <;> exact h
      refine walkH_still _ ?v0 rfl rfl rfl ?y0 ?_
      case y0 => intro w hS; go_simp; first | done | with_reducible rfl
      simp only [Act.put]
      refine walkH_still _ ?v1 rfl rfl rfl ?y1 ?_
      case y1 => intro w hS; go_simp; first | done | with_reducible rfl
      simp only [Act.put]
      refine walkH_still _ ?v2 rfl rfl rfl ?y2 ?_
      case y2 => intro w hS; go_simp; first | done | with_reducible rfl
      simp only [Act.put]
      refine walkH_still _ ?v3 rfl rfl rfl ?y3 ?_
      case y3 => intro w hS; go_simp; first | done | with_reducible rfl
      simp only [Act.put]
      refine walkH_still _ ?v4 rfl rfl rfl ?y4 ?_
      case y4 => intro w hS; go_simp; first | done | with_reducible rfl
      simp only [Act.put]
      refine walkH_still _ ?v5 rfl rfl rfl ?y5 ?_
      case y5 => intro w hS; go_simp; first | done | with_reducible rfl
      simp only [Act.put]
      refine walkH_still _ ?v6 rfl rfl rfl ?y6 ?_
      case y6 => intro w hS; go_simp; first | done | with_reducible rfl
      simp only [Act.put]
      obtain ⟨m, hm⟩ : ∃ m, m = Nat.min j (n - j) := ⟨_, rfl⟩
      have hm1 : m ≤ j ∧ m ≤ n - j := by rw [hm]; exact ⟨Nat.min_le_left _ _, Nat.min_le_right _ _⟩
      have hm2 : 0 < m := by rw [hm]; exact Nat.lt_min.2 ⟨hj1, by omega⟩
      have HM := Lib.hid hm
      have HSP := Lib.hid (show spl (rep j (rg x) ++ rep (n - j) (rg (0, 0))) (j * 2) (rep m (rg x)) = rep (j + m) (rg x) ++ rep (n - (j + m)) (rg (0, 0)) from by
        have h := splice_rep (n := n) (j := j) (m := m) (k := 2) (vs := (rg x)) (zs := (rg (0, 0))) rfl rfl (by omega)
        exact h)
      have HC := Lib.hid (show ∀ i v, (rep m (rg x))[i]? = some v → wo.cell? ((⟨w.heap.size, 0, none⟩ : Addr).add i) = some v from by
        intro i v hi
        have h1 : i < (rep m (rg x)).length := (List.getElem?_eq_some_iff.1 hi).1
        have h2 := h1
        rw [rep_len, rg_len] at h2
        rw [Addr.add_lit, HS.out.cell, Nat.zero_add, List.getElem?_append_left (by rw [rep_len, rg_len]; omega), rep_get hm1.1 h1]
        exact hi)
      have HF := Lib.hid (show j * 2 + (rep m (rg x)).length ≤ (rep j (rg x) ++ rep (n - j) (rg (0, 0))).length from by
        rw [List.length_append, rep_len, rep_len, rep_len, rg_len, rg_len]; omega)
      have HONE2 := Lib.hid (rg_cells m x)
      clear hm
      simp only [List.setIfInBounds_toArray, List.set_cons_zero, List.set_cons_succ]
      refine walkH_does _ rfl rfl ?_
      go_loud (refine wpList_copyK rfl (.tmp 41) (.tmp 44) 68 68 rfl 88 2 m Try.underlying68 info_range w.heap.size (j * 2) (n - j) (n - j) ⟨w.heap.size, 0, none⟩ j n rfl rfl (rep j (rg x) ++ rep (n - j) (rg (0, 0))) 88 HS.out (rep m (rg x)) HM.out (by rw [rep_len]; rfl) HC.out HF.out HONE2.out ?_)
      intro w5 hS5 hgr5
      have HS5 := Lib.hid (show Str w5 w.heap.size 88 (rep (j + m) (rg x) ++ rep (n - (j + m)) (rg (0, 0))) by rw [HSP.out] at hS5; exact hS5)
      have HB5 := Lib.hid ((HB.out.drew).grown hgr5 HB.out.size (fun k hk => by injection hk with hk; omega))
      have hw : IntKind.i64.wrap ((j : Int) + (m : Int)) = (j : Int) + (m : Int) := IntWalk.i64_in _ (by omega)
      clear hS5 hgr5
      go_wp2
      refine walkH_still _ ?v8 rfl rfl rfl ?y8 ?_
      case y8 => intro w hS; go_simp; first | done | with_reducible rfl
      simp only [Act.put]
      refine walkH_still _ ?v9 rfl rfl rfl ?y9 ?_
      case y9 => intro w hS; go_simp; first | done | with_reducible rfl
      simp only [Act.put]
      simp only [List.setIfInBounds_toArray, List.set_cons_zero, List.set_cons_succ]
      clear hw
      refine walkH_nil ?_
      go_wp2
      go_roundw
      case rel => exact ⟨j + m, by omega, by omega, by go_num, HS5.out, HB5.out⟩
      case measure => simp [intOf]; omega
    · obtain rfl : j = n := by omega
      have HS := Lib.hid hS
      have HB := Lib.hid hB
      clear hS hB
      go_wp2
      go_ret
      refine ⟨rfl, ?_, HB.out⟩
      unfold OwnRanges
      rw [List.length_replicate, ← rep_rg]
      have h := HS.out
      rw [Nat.sub_self, show rep 0 (rg (0, 0)) = [] from rfl, List.append_nil] at h
      have hl : (rep j (rg x)).length = j * 2 := by rw [rep_len, rg_len]
      exact ⟨hl, Or.inr ⟨w.heap.size, j, _, rfl, Nat.le_refl _, h, Nat.le_refl _, by unfold maxLen; omega, hl, List.take_of_length_le (by show (rep j (rg x)).length ≤ _; omega)⟩⟩
end Go.Proofs.Ythanbedmiaacdaa.Rp
