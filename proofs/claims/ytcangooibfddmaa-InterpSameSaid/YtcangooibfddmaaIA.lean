/- Stage 4: the map of words; step, first, do of two words. -/
import Derived.Test.YtcangooibfddmaaKD
import Derived.Test.YtcangooibfddmaaDo
/- Stage 4: the words that values have: a map of numbers to words that a call made itself. -/
namespace Go.Proofs.Ytcangooibfddmaa.Ic
open Go.ChangeShapes Go.WideShapes Go.ChangeAt Go.RowKit Go.Maps Go.WideElems Go.ChangeMaps Go.Proofs.Ytcangooibfddmaa.Mem Go.Proofs.Ytcangooibfddmaa.Kc
set_option linter.unusedVariables false
def rdW (v : Value) : Option (DataW Unit × List MemPlace) :=
  match v with
  | .int .i32 x => some (.lit (.int .i32 x), [])
  | _ => none
theorem rdW_inv {v : Value} {x : Int} {ps : List MemPlace} (h : rdW v = some (.lit (.int .i32 x), ps)) : v = .int .i32 x := by
  unfold rdW at h
  split at h
  · injection h with h
    injection h with h _
    injection h with h
    injection h with _ h
    rw [h]
  · cases h
def keyN (n : Int) : Lit := .int .i64 n
/-- The map in block b says f. -/
def ValsAt (w : World) (b c : Nat) (f : Int → Int) : Prop :=
  ∃ D : DataW Unit, w.ownsMap Try.prog 3 rdW b c D ∧ IsMap D ∧ ∀ x, D.atKey (keyN x) (.lit (.int .i32 0)) = .lit (.int .i32 (f x))
def upd (f : Int → Int) (x : Int) (v : Int) : Int → Int := fun y => if y = x then v else f y
theorem keyed : Keyed Try.prog 3 := int_keyed Try.underlying3
theorem zeroWord (w : World) : (zeroValue 21).run Try.prog w = .ok (.int .i32 0) w := by kernel_rfl
theorem keyIs {n : Int} (h : -9223372036854775808 ≤ n ∧ n ≤ 9223372036854775807) : keyOf Try.prog 3 (.int .i64 n) = some (keyN n) := keyOf_int_mk Try.underlying3 (WalkArith.wf_i64 h)
theorem ValsAt.made (w : World) : ValsAt (w.alloc (.map #[] 0)) w.heap.size 0 (fun _ => 0) := ⟨.map [], World.ownsMap_made _ _ _ _, isMap_empty, fun x => rfl⟩
theorem ValsAt.look {w : World} {b c : Nat} {f : Int → Int} (h : ValsAt w b c f) {x : Int} (hx : -9223372036854775808 ≤ x ∧ x ≤ 9223372036854775807) :
    (Instr.lookup 101 (.map (some b)) (.int .i64 x) false).run Try.prog w = .ok (.int .i32 (f x)) w := by
  obtain ⟨D, h1, h2, h3⟩ := h
  obtain ⟨v, ps, hrun, hR⟩ := h1.lookup keyed Try.underlying101 (zeroWord w) (zd := .lit (.int .i32 0)) (zp := []) rfl (keyIs hx)
  rw [h3] at hR
  rw [hrun, rdW_inv hR]
theorem ValsAt.kept {w w' : World} {b c : Nat} {f : Int → Int} {row : Option Nat} (h : ValsAt w b c f) (hg : w.grownBy w' row) (hne : some b ≠ row) : ValsAt w' b c f := by
  obtain ⟨D, h1, h2, h3⟩ := h
  exact ⟨D, h1.kept hg hne, h2, h3⟩
theorem ValsAt.below {w w' : World} {b c : Nat} {f : Int → Int} (h : ValsAt w b c f) (hb : Below w.heap.size w w') : ValsAt w' b c f := h.kept (grown_of_below hb) (by simp)
theorem ValsAt.lt {w : World} {b c : Nat} {f : Int → Int} (h : ValsAt w b c f) : b < w.heap.size := by obtain ⟨D, h1, _⟩ := h; exact h1.lt
theorem ValsAt.put {w' : World} {b c : Nat} {D : DataW Unit} {x : Int} {v : Int} {f : Int → Int} (h2 : IsMap D) (h3 : ∀ x, D.atKey (keyN x) (.lit (.int .i32 0)) = .lit (.int .i32 (f x))) (h : w'.ownsMap Try.prog 3 rdW b c (D.put (keyN x) (.lit (.int .i32 v)))) : ValsAt w' b c (upd f x v) := by
  refine ⟨_, h, h2.put _ _, fun y => ?_⟩
  unfold upd
  by_cases e : y = x
  · subst e
    rw [if_pos rfl]
    exact atKey_put_same h2 (by trivial) _ _
  · rw [if_neg e, atKey_put_other (by simp [keyN]; omega), h3]
/-- m[x] = v, at the operation. -/
theorem wpList_put {w : World} {ops : Array Oper} {rest : List Oper} {o : Oper} {a : Act} {Q : Exit → Act → World → Prop} (hg : o.guard = none) (m x v : Operand)
    (hop : o.op = Op.mapUpdate 101 m x v) (b c : Nat) (f : Int → Int) (hm : a.eval m = .map (some b)) (h : ValsAt w b c f) (hn : c < 1000000000000000) (k : Int) (y : Int)
    (hx : a.eval x = .int .i64 k) (hv : a.eval v = .int .i32 y) (hk : -9223372036854775808 ≤ k ∧ k ≤ 9223372036854775807)
    (hK : ∀ w', ValsAt w' b (c + 1) (upd f k y) → w.grownBy w' (some b) → wpList Try.prog ops Q rest (a.put o.dst undef) w') : wpList Try.prog ops Q (o :: rest) a w := by
  obtain ⟨D, h1, h2, h3⟩ := h
  refine wpList_plain hg fun K' hK' => ?_
  obtain ⟨w', hrun, r1, r2⟩ := h1.update keyed Try.underlying101 (by unfold maxLen; omega) (keyIs hk) (val := .int .i32 y) (d := .lit (.int .i32 y)) (ps := []) rfl
  unfold Oper.wp
  simp [execOp, hop, hm, hx, hv, hrun, Result.andThen]
  exact hK' _ _ (hK w' (ValsAt.put h2 h3 r1) r2)
end Go.Proofs.Ytcangooibfddmaa.Ic
/- Stage 4: what a run's small steps do: interp's step, first, and do of an operation on two words. -/
namespace Go.Proofs.Ytcangooibfddmaa.Ic
open Go.ChangeShapes Go.WideShapes Go.ChangeAt Go.RowKit Go.Maps Go.Proofs.Ytcangooibfddmaa.Mem Go.Proofs.Ytcangooibfddmaa.Kc Go.Proofs.Ytcangooibfddmaa.Br Go.Proofs.Ytcangooibfddmaa.Pl
set_option linter.unusedVariables false
/-- A run in memory: what it was handed, the words of values, and its steps. -/
structure RunAt (w : World) (rb mb cc : Nat) (av mv nv mm cs : Value) (lim : Int) (vals : Int → Int) (steps : Int) : Prop where
  str : Str w rb 103 [av, mv, nv, .int .i64 lim, .map (some mb), mm, cs, .int .i64 steps]
  map : ValsAt w mb cc vals
  ne : rb ≠ mb
section
variable {w w' : World} {rb mb cc : Nat} {av mv nv mm cs : Value} {lim steps : Int} {vals : Int → Int}
theorem RunAt.below (h : RunAt w rb mb cc av mv nv mm cs lim vals steps) (hb : Below w.heap.size w w') : RunAt w' rb mb cc av mv nv mm cs lim vals steps := ⟨h.str.below hb, h.map.below hb, h.ne⟩
theorem RunAt.c3 (h : RunAt w rb mb cc av mv nv mm cs lim vals steps) : w.cell? ⟨rb, 3, none⟩ = some (.int .i64 lim) := h.str.cell 3
theorem RunAt.c4 (h : RunAt w rb mb cc av mv nv mm cs lim vals steps) : w.cell? ⟨rb, 4, none⟩ = some (.map (some mb)) := h.str.cell 4
theorem RunAt.c5 (h : RunAt w rb mb cc av mv nv mm cs lim vals steps) : w.cell? ⟨rb, 5, none⟩ = some mm := h.str.cell 5
theorem RunAt.c6 (h : RunAt w rb mb cc av mv nv mm cs lim vals steps) : w.cell? ⟨rb, 6, none⟩ = some cs := h.str.cell 6
theorem RunAt.c7 (h : RunAt w rb mb cc av mv nv mm cs lim vals steps) : w.cell? ⟨rb, 7, none⟩ = some (.int .i64 steps) := h.str.cell 7
theorem vals_set {b c : Nat} {f : Int → Int} (h : ValsAt w b c f) {x : Nat} (hc : b ≠ x) (i : Nat) (u : Value) : ValsAt (w.setCell ⟨x, i, none⟩ u) b c f :=
  h.kept (setCell_grownBy w ⟨x, i, none⟩ u) (fun e => hc (Option.some.inj e))
end
theorem But.drewN {m : Nat} {a b : World} (h : But m a b) (n : Nat) : But m a (b.drewN n) := ⟨h.os, h.tape, h.output, h.size, h.block⟩
def StepPost (rb mb cc : Nat) (av mv nv mm cs : Value) (lim : Int) (vals : Int → Int) (steps : Int) (w : World) (en : Ending) (w' : World) : Prop :=
  if steps < lim then en = .returned (.bool true) ∧ But rb w w' ∧ RunAt w' rb mb cc av mv nv mm cs lim vals (steps + 1) else en = .returned (.bool false) ∧ But rb w w' ∧ RunAt w' rb mb cc av mv nv mm cs lim vals steps
set_option maxRecDepth 100000 in
set_option maxHeartbeats 200000 in
theorem step_any (w : World) (rb mb cc : Nat) (av mv nv mm cs : Value) (lim steps : Int) (vals : Int → Int) (h : RunAt w rb mb cc av mv nv mm cs lim vals steps) (h0 : 0 ≤ steps) (h1 : steps ≤ 1000000000000) :
    Calls Try.prog 53 #[.pointer (some ⟨rb, 0, none⟩)] w (StepPost rb mb cc av mv nv mm cs lim vals steps w) := by
  have H := Lib.hid h
  have k3 := h.c3
  have k7 := h.c7
  have f7 := h.str.frozen 7
  clear h
  by_cases hl : steps < lim
  · have HP := Lib.hid (show ∀ en w', (en = .returned (.bool true) ∧ But rb w w' ∧ RunAt w' rb mb cc av mv nv mm cs lim vals (steps + 1)) → StepPost rb mb cc av mv nv mm cs lim vals steps w en w' from fun en w' h => by unfold StepPost; rw [if_pos hl]; exact h)
    have hg : ¬ lim ≤ steps := by omega
    go_enter Try.func53, Try.ntmps53
    go_wp2_with fail
    go_quiet (fail)
    go_wp2
    go_ret
    refine HP.out _ _ ⟨rfl, (But.drewN (But.refl rb w) _).trans (But.of_grown (setCell_grownBy _ ⟨rb, 7, none⟩ _)), ?_⟩
    have hst := H.out.str.set 7 (.int .i64 (steps + 1))
    exact ⟨hst, vals_set (x := rb) H.out.map H.out.ne.symm 7 _, H.out.ne⟩
  · have HP := Lib.hid (show ∀ en w', (en = .returned (.bool false) ∧ But rb w w' ∧ RunAt w' rb mb cc av mv nv mm cs lim vals steps) → StepPost rb mb cc av mv nv mm cs lim vals steps w en w' from fun en w' h => by unfold StepPost; rw [if_neg hl]; exact h)
    have hg : lim ≤ steps := by omega
    go_enter Try.func53, Try.ntmps53
    go_wp2_with fail
    go_quiet (fail)
    go_wp2
    go_ret
    exact HP.out _ _ ⟨rfl, But.drewN (But.refl rb w) _, ⟨H.out.str, H.out.map, H.out.ne⟩⟩
def firstV (vals : Int → Int) (l : List Int) : Int := match l with | [] => 0 | x :: _ => vals x
def FirstPost (v : Int) (w : World) (en : Ending) (w' : World) : Prop := en = .returned (.int .i32 v) ∧ Below w.heap.size w w'
set_option maxRecDepth 100000 in
set_option maxHeartbeats 200000 in
theorem first_any (w : World) (rb mb cc : Nat) (av mv nv mm cs : Value) (lim steps : Int) (vals : Int → Int) (h : RunAt w rb mb cc av mv nv mm cs lim vals steps) (v : Value) (l : List Int) (hv : Ints w v l) (hI : ∀ x ∈ l, InI x) :
    Calls Try.prog 55 #[.pointer (some ⟨rb, 0, none⟩), v] w (FirstPost (firstV vals l) w) := by
  obtain ⟨A, c, rfl, h1, h2, h3⟩ := hv
  unfold maxLen at h2
  have k4 := h.c4
  have HM := Lib.hid h.map
  cases l with
  | nil =>
    clear h h3 hI
    go_enter Try.func55, Try.ntmps55
    go_wp2
    go_ret
    exact ⟨rfl, Below.refl _ _⟩
  | cons x l =>
    obtain ⟨ad, rfl, hx⟩ := h3 0 (by simp)
    have hx : w.cell? (ad.add 0) = some (.int .i64 x) := hx
    have hlk := fun w' (hb : Below w.heap.size w w') => (HM.out.below hb).look (hI x (List.mem_cons_self ..))
    have HLK := Lib.hid hlk
    have e0 : (((x :: l).length : Int) == 0) = false := beq_eq_false_iff_ne.2 (by simp; omega)
    have e1 : 0 < (x :: l).length := by simp
    clear h3
    generalize (x :: l).length = n at *
    have hx0 : w.cell? ad = some (.int .i64 x) := by have := hx; rwa [show ad.add 0 = ad by unfold Addr.add; split <;> first | rfl | omega] at this
    have HF := Lib.hid (show firstV vals (x :: l) = vals x from rfl)
    clear h hI hlk
    go_enter Try.func55, Try.ntmps55
    go_wp2_with fail
    refine region_heldC_wp (fun w' => w'.cell? ⟨rb, 4, none⟩ = some (.map (some mb)) ∧ w'.cell? ad = some (.int .i64 x) ∧ (Instr.lookup 101 (.map (some mb)) (.int .i64 x) false).run Try.prog w' = .ok (.int .i32 (vals x)) w') [0, 1, 2, 3, 4, 5, 6, 7, 8] [0, 1, 2, 3, 4, 5, 6, 7, 8] (by kernel_rfl) (by kernel_rfl) (by kernel_rfl) rfl (by intro c a d v w h; cases d <;> exact h) ⟨k4, hx0, HLK.out _ (Below.refl _ _).drew⟩ ?_
    refine walkC_still _ ?s0 rfl rfl rfl ?sy0 ?_
    case sy0 => intro w hS; go_simp; first | done | with_reducible rfl
    simp only [Act.put]
    refine walkC_still _ ?s1 rfl rfl rfl ?sy1 ?_
    case sy1 => intro w hS; go_simp; first | done | with_reducible rfl
    simp only [Act.put]
    refine walkC_still _ ?s2 rfl rfl rfl ?sy2 ?_
    case sy2 => intro w hS; go_simp; first | done | with_reducible rfl
    simp only [Act.put]
    refine walkC_still _ ?s3 rfl rfl rfl ?sy3 ?_
    case sy3 => intro w hS; go_simp; first | done | with_reducible rfl
    simp only [Act.put]
    refine walkC_still _ ?s4 rfl rfl rfl ?sy4 ?_
    case sy4 => intro w hS; go_simp; first | done | with_reducible rfl
    simp only [Act.put]
    refine walkC_still _ ?s5 rfl rfl rfl ?sy5 ?_
    case sy5 => intro w hS; go_simp; first | done | with_reducible rfl
    simp only [Act.put]
    refine walkC_still _ ?s6 rfl rfl rfl ?sy6 ?_
    case sy6 => intro w hS; go_simp; first | done | with_reducible rfl
    simp only [Act.put]
    refine walkC_still _ ?s7 rfl rfl rfl ?sy7 ?_
    case sy7 => intro w hS; go_simp; first | done | with_reducible rfl
    simp only [Act.put]
    refine walkC_still _ ?s8 rfl rfl rfl ?sy8 ?_
    case sy8 => intro w hS; go_simp; first | done | with_reducible rfl
    simp only [Act.put]
    simp only [List.setIfInBounds_toArray, List.set_cons_zero, List.set_cons_succ]
    refine walkC_nil ?_
    go_wp2
    go_ret
    refine ⟨?_, (Below.refl w.heap.size w).drew⟩
    rw [HF.out]
    rfl
end Go.Proofs.Ytcangooibfddmaa.Ic
/- Stage 4: what interp's do does with an operation on two words. -/
namespace Go.Proofs.Ytcangooibfddmaa.Ic
open Go.ChangeShapes Go.WideShapes Go.ChangeAt Go.RowKit Go.Maps Go.Proofs.Ytcangooibfddmaa.Mem Go.Proofs.Ytcangooibfddmaa.Kc Go.Proofs.Ytcangooibfddmaa.Br Go.Proofs.Ytcangooibfddmaa.Pl Go.Proofs.Ytcangooibfddmaa.Wd
set_option linter.unusedVariables false
/-- The four words, as far as k of two are read. -/
def arrK (a b : Int) (k : Nat) : List Value := [.int .i32 (if 0 < k then a else 0), .int .i32 (if 1 < k then b else 0), .int .i32 0, .int .i32 0]
theorem arrK0 (a b : Int) : arrK a b 0 = [.int .i32 0, .int .i32 0, .int .i32 0, .int .i32 0] := rfl
theorem arrK1 (a b : Int) : arrK a b 1 = (arrK a b 0).set 0 (.int .i32 a) := rfl
theorem arrK2 (a b : Int) : arrK a b 2 = (arrK a b 1).set 1 (.int .i32 b) := rfl
theorem arrK_succ (vals : Int → Int) (x y : Int) (k : Nat) (hk : k < [x, y].length) : arrK (vals x) (vals y) (k + 1) = (arrK (vals x) (vals y) k).set k (.int .i32 (vals [x, y][k])) := by
  match k, hk with
  | 0, _ => rfl
  | 1, _ => rfl
def TwoPost (rb mb cc : Nat) (av mv nv mm cs : Value) (lim steps : Int) (vals : Int → Int) (op dst a b : Int) (w : World) (en : Ending) (w' : World) : Prop :=
  if doB op b = true then en = .returned (.tuple #[.int .i32 0, .bool true]) ∧ But mb w w' ∧ RunAt w' rb mb (cc + 1) av mv nv mm cs lim (upd vals dst (doV op a b)) steps
  else en = .returned (.tuple #[.int .i32 (-1), .bool false]) ∧ But mb w w' ∧ RunAt w' rb mb cc av mv nv mm cs lim vals steps
set_option maxRecDepth 100000 in
set_option maxHeartbeats 1000000 in
theorem do_two (w : World) (rb mb cc : Nat) (av mv nv mm cs : Value) (lim steps : Int) (vals : Int → Int) (h : RunAt w rb mb cc av mv nv mm cs lim vals steps) (op dst two imm : Int) (A : Option Addr) (c : Nat) (x y : Int) (hv : Ints w (.slice A 2 c) [x, y])
    (hx : InI x) (hy : InI y) (hd : InI dst) (hcc : cc + 1 ≤ 100000000000000) (hop : 2 ≤ op ∧ op ≤ 14) :
    Calls Try.prog 54 #[.pointer (some ⟨rb, 0, none⟩), .agg #[.int .i64 op, .int .i64 dst, .int .i64 two, .slice A 2 c, .int .i32 imm]] w (TwoPost rb mb cc av mv nv mm cs lim steps vals op dst (vals x) (vals y) w) := by
  obtain ⟨A', c', e, v1, v2, v3⟩ := hv
  injection e with e1 _ e3
  subst e1 e3
  obtain ⟨ad, rfl, _⟩ := v3 0 (by simp)
  have HV := Lib.hid v3
  unfold maxLen at v2
  have H := Lib.hid h
  clear v3 h
  have hrw := H.out.str.lt
  have hmw := H.out.map.lt
  obtain ⟨p1, p2⟩ := hop
  have q1 : (op == 1) = false := beq_eq_false_iff_ne.2 (by omega)
  have q18 : (op == 18) = false := beq_eq_false_iff_ne.2 (by omega)
  have q15 : (op == 15) = false := beq_eq_false_iff_ne.2 (by omega)
  have q16 : (op == 16) = false := beq_eq_false_iff_ne.2 (by omega)
  have q17 : (op == 17) = false := beq_eq_false_iff_ne.2 (by omega)
  go_enter Try.func54, Try.ntmps54
  go_upto_region 2 with (fail)
  obtain ⟨W1, hW1⟩ : ∃ W1, w.alloc (.cells #[.int .i64 op, .int .i64 dst, .int .i64 two, .slice (some ad) 2 c, .int .i32 imm] 36) = W1 := ⟨_, rfl⟩
  rw [hW1]
  have hb1 : Below w.heap.size w W1 := by rw [← hW1]; exact (Below.refl _ _).alloc (Nat.le_refl _) _
  have hs1 : Str W1 w.heap.size 36 [.int .i64 op, .int .i64 dst, .int .i64 two, .slice (some ad) 2 c, .int .i32 imm] := by rw [← hW1]; exact World.alloc_heap_new w _
  have hz1 : W1.heap.size = w.heap.size + 1 := by rw [← hW1]; simp
  clear hW1
  obtain ⟨W2, hW2⟩ : ∃ W2, W1.alloc (.cells #[.int .i32 0, .int .i32 0, .int .i32 0, .int .i32 0] 151) = W2 := ⟨_, rfl⟩
  rw [hW2]
  have hb2 : Below W1.heap.size W1 W2 := by rw [← hW2]; exact (Below.refl _ _).alloc (Nat.le_refl _) _
  have hs2 : Str W2 (w.heap.size + 1) 151 (arrK (vals x) (vals y) 0) := by rw [← hW2, ← hz1]; exact World.alloc_heap_new W1 _
  have HS1 := Lib.hid (hs1.below hb2)
  have HS2 := Lib.hid hs2
  have HB := Lib.hid (hb1.trans (hb2.mono hb1.size))
  have hz2 : w.heap.size + 1 < W2.heap.size := hs2.lt
  have e3 : W2.cell? ⟨w.heap.size, 3, none⟩ = some (.slice (some ad) 2 c) := HS1.out.cell 3
  clear hW2 hb1 hb2 hs1 hs2 hz1
  go_wp2_with fail
  go_loopw [7, 8, 16] (fun _ _ i wr => ∃ k : Nat, k ≤ 2 ∧ i = .int .i64 k ∧ Str wr (w.heap.size + 1) 151 (arrK (vals x) (vals y) k) ∧ Str wr w.heap.size 36 [.int .i64 op, .int .i64 dst, .int .i64 two, .slice (some ad) 2 c, .int .i32 imm] ∧ Below w.heap.size w wr) (fun _ _ i _ => 2 - (intOf i).toNat)
  case atStart => exact ⟨0, by omega, rfl, HS2.out, HS1.out, HB.out⟩
  case round =>
    obtain ⟨k, hk, rfl, hs, hsi, hb⟩ := hrel
    have HSI := Lib.hid hsi
    clear hsi
    obtain ⟨wo, rfl⟩ : ∃ wo : World, wo = wr := ⟨_, rfl⟩
    have HBo := Lib.hid hb
    clear hb
    by_cases hlt : k < 2
    · obtain ⟨ad', e, hc0⟩ := HV.out k hlt
      injection e with e
      subst e
      have hc := cell_keep HBo.out (Nat.le_refl _) hc0
      have HAR := Lib.hid (arrK_succ vals x y k hlt)
      have hz : InI [x, y][k] := by
        have : [x, y][k] = x ∨ [x, y][k] = y := by match k, hlt with
          | 0, _ => exact Or.inl rfl
          | 1, _ => exact Or.inr rfl
        rcases this with e | e <;> rw [e] <;> assumption
      generalize [x, y][k] = z at *
      have hlk : (Instr.lookup 101 (.map (some mb)) (.int .i64 z) false).run Try.prog wo = .ok (.int .i32 (vals z)) wo := (H.out.below HBo.out).map.look hz
      have k4 := (H.out.below HBo.out).c4
      have sf := hs.frozen k
      have hal : k < (arrK (vals x) (vals y) k).length := by show k < 4; omega
      have hsk := (hs.cell k).trans (List.getElem?_eq_getElem hal)
      have HS := Lib.hid hs
      generalize (arrK (vals x) (vals y) k)[k] = zz at *
      clear hs hc0 hal
      go_wp2
      go_roundw
      case rel => exact ⟨k + 1, by omega, by go_num, by rw [HAR.out]; exact HS.out.set k _, Str.kept HSI.out (setCell_grownBy wo ⟨w.heap.size + 1, k, none⟩ _) (fun e => by have e := Option.some.inj e; simp only at e; omega), HBo.out.setCell (p := ⟨w.heap.size + 1, k, none⟩) (by simp only; omega) _⟩
      case measure => simp [intOf]; omega
    · obtain rfl : k = 2 := by omega
      have HS := Lib.hid hs
      have i0 : wo.cell? ⟨w.heap.size, 0, none⟩ = some (.int .i64 op) := HSI.out.cell 0
      have i1 : wo.cell? ⟨w.heap.size, 1, none⟩ = some (.int .i64 dst) := HSI.out.cell 1
      have a0 : wo.cell? ⟨w.heap.size + 1, 0, none⟩ = some (.int .i32 (vals x)) := hs.cell 0
      have a1 : wo.cell? ⟨w.heap.size + 1, 1, none⟩ = some (.int .i32 (vals y)) := hs.cell 1
      have HR := Lib.hid (H.out.below HBo.out)
      have k4 := (H.out.below HBo.out).c4
      clear hs
      cases hd8 : doB op (vals y) with
      | false =>
        have HP := Lib.hid (show ∀ en w', (en = .returned (.tuple #[.int .i32 (-1), .bool false]) ∧ But mb w w' ∧ RunAt w' rb mb cc av mv nv mm cs lim vals steps) → TwoPost rb mb cc av mv nv mm cs lim steps vals op dst (vals x) (vals y) w en w' from fun en w' h => by unfold TwoPost; rw [if_neg (by rw [hd8]; exact Bool.false_ne_true)]; exact h)
        have HD8 := Lib.hid hd8
        clear hd8
        go_wp2_with fail
        refine (do_any op (vals x) (vals y) _).mono ?_
        rintro e w8 ⟨rfl, rfl⟩
        rw [HD8.out]
        go_wp2
        go_ret2
        exact HP.out _ _ ⟨rfl, But.of_below HBo.out, HR.out⟩
      | true =>
        have HP := Lib.hid (show ∀ en w', (en = .returned (.tuple #[.int .i32 0, .bool true]) ∧ But mb w w' ∧ RunAt w' rb mb (cc + 1) av mv nv mm cs lim (upd vals dst (doV op (vals x) (vals y))) steps) → TwoPost rb mb cc av mv nv mm cs lim steps vals op dst (vals x) (vals y) w en w' from fun en w' h => by unfold TwoPost; rw [if_pos hd8]; exact h)
        have HD8 := Lib.hid hd8
        clear hd8
        go_wp2_with fail
        refine (do_any op (vals x) (vals y) _).mono ?_
        rintro e w8 ⟨rfl, rfl⟩
        rw [HD8.out]
        go_wp2_with fail
        refine region_heldC_wp (fun w' => w'.cell? ⟨rb, 4, none⟩ = some (.map (some mb)) ∧ w'.cell? ⟨w.heap.size, 1, none⟩ = some (.int .i64 dst)) [0, 1, 2, 3, 4, 5, 6] [0, 1, 2, 3, 4, 5, 6, 7] (by kernel_rfl) (by kernel_rfl) (by kernel_rfl) rfl (by intro c a d v w h; cases d <;> exact h) ⟨k4, i1⟩ ?_
        refine walkC_still _ ?u0 rfl rfl rfl ?uy0 ?_
        case uy0 => intro w hS; go_simp; first | done | with_reducible rfl
        simp only [Act.put]
        refine walkC_still _ ?u1 rfl rfl rfl ?uy1 ?_
        case uy1 => intro w hS; go_simp; first | done | with_reducible rfl
        simp only [Act.put]
        refine walkC_still _ ?u2 rfl rfl rfl ?uy2 ?_
        case uy2 => intro w hS; go_simp; first | done | with_reducible rfl
        simp only [Act.put]
        refine walkC_still _ ?u3 rfl rfl rfl ?uy3 ?_
        case uy3 => intro w hS; go_simp; first | done | with_reducible rfl
        simp only [Act.put]
        refine walkC_still _ ?u4 rfl rfl rfl ?uy4 ?_
        case uy4 => intro w hS; go_simp; first | done | with_reducible rfl
        simp only [Act.put]
        refine walkC_still _ ?u5 rfl rfl rfl ?uy5 ?_
        case uy5 => intro w hS; go_simp; first | done | with_reducible rfl
        simp only [Act.put]
        refine walkC_still _ ?u6 rfl rfl rfl ?uy6 ?_
        case uy6 => intro w hS; go_simp; first | done | with_reducible rfl
        simp only [Act.put]
        try simp only [List.setIfInBounds_toArray, List.set_cons_zero, List.set_cons_succ]
        refine walkC_does _ rfl rfl ?_
        refine wpList_put rfl _ _ _ rfl mb cc vals rfl (HR.out.map.below (Below.refl _ _).drew) (by omega) dst (doV op (vals x) (vals y)) rfl rfl hd ?_
        intro w9 hs9 hg9
        have hb9 : But mb _ w9 := (But.refl mb _).drew.trans (But.of_grown hg9)
        refine wpList_nil (behindC ⟨hb9.cell k4 H.out.ne, hb9.cell i1 (by have := H.out.map.lt; show w.heap.size ≠ mb; omega)⟩ (walkC_nil ?_))
        go_wp2
        go_ret2
        exact HP.out _ _ ⟨rfl, (But.of_below HBo.out).trans hb9, ⟨(HR.out.str.below (Below.refl _ _).drew).kept hg9 (fun e => H.out.ne (Option.some.inj e)), hs9, H.out.ne⟩⟩
end Go.Proofs.Ytcangooibfddmaa.Ic
/- Stage 4: what interp's do does with a wide product. -/
namespace Go.Proofs.Ytcangooibfddmaa.Ic
open Go.ChangeShapes Go.WideShapes Go.ChangeAt Go.RowKit Go.Maps Go.Proofs.Ytcangooibfddmaa.Mem Go.Proofs.Ytcangooibfddmaa.Kc Go.Proofs.Ytcangooibfddmaa.Br Go.Proofs.Ytcangooibfddmaa.Pl Go.Proofs.Ytcangooibfddmaa.Wd
set_option linter.unusedVariables false
def InW (x : Int) : Prop := -2147483648 ≤ x ∧ x ≤ 2147483647
theorem wide_w (a b : Int) (ha : InW a) (hb : InW b) (w : World) :
    Calls Try.prog 23 #[.int .i32 a, .int .i32 b] w fun e w' => e = .returned (.tuple #[.int .i32 (wLow a b), .int .i32 (wHigh a b)]) ∧ w' = w := by
  obtain ⟨ha1, ha2⟩ := ha
  obtain ⟨hb1, hb2⟩ := hb
  go_enter Try.func23, Try.ntmps23
  go_wp2
  go_ret2
  exact ⟨ret_ints (wrap32_wrap64 _) rfl, rfl⟩
def WidePost (rb mb cc : Nat) (av mv nv mm cs : Value) (lim steps : Int) (vals : Int → Int) (dst two a b : Int) (w : World) (en : Ending) (w' : World) : Prop :=
  en = .returned (.tuple #[.int .i32 0, .bool true]) ∧ But mb w w' ∧ RunAt w' rb mb (cc + 2) av mv nv mm cs lim (upd (upd vals dst (wLow a b)) two (wHigh a b)) steps
set_option maxRecDepth 100000 in
set_option maxHeartbeats 1000000 in
theorem do_wide (w : World) (rb mb cc : Nat) (av mv nv mm cs : Value) (lim steps : Int) (vals : Int → Int) (h : RunAt w rb mb cc av mv nv mm cs lim vals steps) (dst two imm : Int) (A : Option Addr) (c : Nat) (x y : Int) (hv : Ints w (.slice A 2 c) [x, y])
    (hx : InI x) (hy : InI y) (hd : InI dst) (hw : InI two) (hcc : cc + 2 ≤ 100000000000000) (r1 : InW (vals x)) (r2 : InW (vals y)) :
    Calls Try.prog 54 #[.pointer (some ⟨rb, 0, none⟩), .agg #[.int .i64 18, .int .i64 dst, .int .i64 two, .slice A 2 c, .int .i32 imm]] w (WidePost rb mb cc av mv nv mm cs lim steps vals dst two (vals x) (vals y) w) := by
  obtain ⟨A', c', e, v1, v2, v3⟩ := hv
  injection e with e1 _ e3
  subst e1 e3
  obtain ⟨ad, rfl, _⟩ := v3 0 (by simp)
  have HV := Lib.hid v3
  unfold maxLen at v2
  have H := Lib.hid h
  clear v3 h
  have hrw := H.out.str.lt
  have hmw := H.out.map.lt
  go_enter Try.func54, Try.ntmps54
  go_upto_region 2 with (fail)
  obtain ⟨W1, hW1⟩ : ∃ W1, w.alloc (.cells #[.int .i64 18, .int .i64 dst, .int .i64 two, .slice (some ad) 2 c, .int .i32 imm] 36) = W1 := ⟨_, rfl⟩
  rw [hW1]
  have hb1 : Below w.heap.size w W1 := by rw [← hW1]; exact (Below.refl _ _).alloc (Nat.le_refl _) _
  have hs1 : Str W1 w.heap.size 36 [.int .i64 18, .int .i64 dst, .int .i64 two, .slice (some ad) 2 c, .int .i32 imm] := by rw [← hW1]; exact World.alloc_heap_new w _
  have hz1 : W1.heap.size = w.heap.size + 1 := by rw [← hW1]; simp
  clear hW1
  obtain ⟨W2, hW2⟩ : ∃ W2, W1.alloc (.cells #[.int .i32 0, .int .i32 0, .int .i32 0, .int .i32 0] 151) = W2 := ⟨_, rfl⟩
  rw [hW2]
  have hb2 : Below W1.heap.size W1 W2 := by rw [← hW2]; exact (Below.refl _ _).alloc (Nat.le_refl _) _
  have hs2 : Str W2 (w.heap.size + 1) 151 (arrK (vals x) (vals y) 0) := by rw [← hW2, ← hz1]; exact World.alloc_heap_new W1 _
  have HS1 := Lib.hid (hs1.below hb2)
  have HS2 := Lib.hid hs2
  have HB := Lib.hid (hb1.trans (hb2.mono hb1.size))
  have hz2 : w.heap.size + 1 < W2.heap.size := hs2.lt
  have e3 : W2.cell? ⟨w.heap.size, 3, none⟩ = some (.slice (some ad) 2 c) := HS1.out.cell 3
  clear hW2 hb1 hb2 hs1 hs2 hz1
  go_wp2_with fail
  go_loopw [7, 8, 16] (fun _ _ i wr => ∃ k : Nat, k ≤ 2 ∧ i = .int .i64 k ∧ Str wr (w.heap.size + 1) 151 (arrK (vals x) (vals y) k) ∧ Str wr w.heap.size 36 [.int .i64 18, .int .i64 dst, .int .i64 two, .slice (some ad) 2 c, .int .i32 imm] ∧ Below w.heap.size w wr) (fun _ _ i _ => 2 - (intOf i).toNat)
  case atStart => exact ⟨0, by omega, rfl, HS2.out, HS1.out, HB.out⟩
  case round =>
    obtain ⟨k, hk, rfl, hs, hsi, hb⟩ := hrel
    have HSI := Lib.hid hsi
    clear hsi
    obtain ⟨wo, rfl⟩ : ∃ wo : World, wo = wr := ⟨_, rfl⟩
    have HBo := Lib.hid hb
    clear hb
    by_cases hlt : k < 2
    · obtain ⟨ad', e, hc0⟩ := HV.out k hlt
      injection e with e
      subst e
      have hc := cell_keep HBo.out (Nat.le_refl _) hc0
      have HAR := Lib.hid (arrK_succ vals x y k hlt)
      have hz : InI [x, y][k] := by
        have : [x, y][k] = x ∨ [x, y][k] = y := by match k, hlt with
          | 0, _ => exact Or.inl rfl
          | 1, _ => exact Or.inr rfl
        rcases this with e | e <;> rw [e] <;> assumption
      generalize [x, y][k] = z at *
      have hlk : (Instr.lookup 101 (.map (some mb)) (.int .i64 z) false).run Try.prog wo = .ok (.int .i32 (vals z)) wo := (H.out.below HBo.out).map.look hz
      have k4 := (H.out.below HBo.out).c4
      have sf := hs.frozen k
      have hal : k < (arrK (vals x) (vals y) k).length := by show k < 4; omega
      have hsk := (hs.cell k).trans (List.getElem?_eq_getElem hal)
      have HS := Lib.hid hs
      generalize (arrK (vals x) (vals y) k)[k] = zz at *
      clear hs hc0 hal
      go_wp2
      go_roundw
      case rel => exact ⟨k + 1, by omega, by go_num, by rw [HAR.out]; exact HS.out.set k _, Str.kept HSI.out (setCell_grownBy wo ⟨w.heap.size + 1, k, none⟩ _) (fun e => by have e := Option.some.inj e; simp only at e; omega), HBo.out.setCell (p := ⟨w.heap.size + 1, k, none⟩) (by simp only; omega) _⟩
      case measure => simp [intOf]; omega
    · obtain rfl : k = 2 := by omega
      have HS := Lib.hid hs
      have i0 : wo.cell? ⟨w.heap.size, 0, none⟩ = some (.int .i64 18) := HSI.out.cell 0
      have i1 : wo.cell? ⟨w.heap.size, 1, none⟩ = some (.int .i64 dst) := HSI.out.cell 1
      have a0 : wo.cell? ⟨w.heap.size + 1, 0, none⟩ = some (.int .i32 (vals x)) := hs.cell 0
      have a1 : wo.cell? ⟨w.heap.size + 1, 1, none⟩ = some (.int .i32 (vals y)) := hs.cell 1
      have HR := Lib.hid (H.out.below HBo.out)
      have k4 := (H.out.below HBo.out).c4
      clear hs
      have i2 : wo.cell? ⟨w.heap.size, 2, none⟩ = some (.int .i64 two) := HSI.out.cell 2
      have hne : mb < w.heap.size := H.out.map.lt
      go_wp2_with fail
      refine region_heldC_wp (fun w' => w'.cell? ⟨rb, 4, none⟩ = some (.map (some mb)) ∧ w'.cell? ⟨w.heap.size, 1, none⟩ = some (.int .i64 dst) ∧ w'.cell? ⟨w.heap.size, 2, none⟩ = some (.int .i64 two) ∧ w'.cell? ⟨w.heap.size + 1, 0, none⟩ = some (.int .i32 (vals x)) ∧ w'.cell? ⟨w.heap.size + 1, 1, none⟩ = some (.int .i32 (vals y))) [0, 1, 2, 3, 4, 5, 6, 7, 8, 9, 10, 11, 12, 13, 14, 15, 17, 18, 19] [0, 1, 2, 3, 4, 5, 6, 7, 8, 9, 10, 11, 12, 13, 14, 15, 16, 17, 18, 19, 20, 21] (by kernel_rfl) (by kernel_rfl) (by kernel_rfl) rfl (by intro c a d v w h; cases d <;> exact h) ⟨k4, i1, i2, a0, a1⟩ ?_
      refine walkC_still _ ?u0 rfl rfl rfl ?uy0 ?_
      case uy0 => intro w hS; go_simp; first | done | with_reducible rfl
      simp only [Act.put]
      refine walkC_still _ ?u1 rfl rfl rfl ?uy1 ?_
      case uy1 => intro w hS; go_simp; first | done | with_reducible rfl
      simp only [Act.put]
      refine walkC_still _ ?u2 rfl rfl rfl ?uy2 ?_
      case uy2 => intro w hS; go_simp; first | done | with_reducible rfl
      simp only [Act.put]
      refine walkC_still _ ?u3 rfl rfl rfl ?uy3 ?_
      case uy3 => intro w hS; go_simp; first | done | with_reducible rfl
      simp only [Act.put]
      refine walkC_still _ ?u4 rfl rfl rfl ?uy4 ?_
      case uy4 => intro w hS; go_simp; first | done | with_reducible rfl
      simp only [Act.put]
      refine walkC_still _ ?u5 rfl rfl rfl ?uy5 ?_
      case uy5 => intro w hS; go_simp; first | done | with_reducible rfl
      simp only [Act.put]
      refine walkC_still _ ?u6 rfl rfl rfl ?uy6 ?_
      case uy6 => intro w hS; go_simp; first | done | with_reducible rfl
      simp only [Act.put]
      refine walkC_still _ ?u7 rfl rfl rfl ?uy7 ?_
      case uy7 => intro w hS; go_simp; first | done | with_reducible rfl
      simp only [Act.put]
      refine walkC_still _ ?u8 rfl rfl rfl ?uy8 ?_
      case uy8 => intro w hS; go_simp; first | done | with_reducible rfl
      simp only [Act.put]
      refine walkC_still _ ?u9 rfl rfl rfl ?uy9 ?_
      case uy9 => intro w hS; go_simp; first | done | with_reducible rfl
      simp only [Act.put]
      refine walkC_still _ ?u10 rfl rfl rfl ?uy10 ?_
      case uy10 => intro w hS; go_simp; first | done | with_reducible rfl
      simp only [Act.put]
      refine walkC_still _ ?u11 rfl rfl rfl ?uy11 ?_
      case uy11 => intro w hS; go_simp; first | done | with_reducible rfl
      simp only [Act.put]
      refine walkC_still _ ?u12 rfl rfl rfl ?uy12 ?_
      case uy12 => intro w hS; go_simp; first | done | with_reducible rfl
      simp only [Act.put]
      refine walkC_still _ ?u13 rfl rfl rfl ?uy13 ?_
      case uy13 => intro w hS; go_simp; first | done | with_reducible rfl
      simp only [Act.put]
      refine walkC_still _ ?u14 rfl rfl rfl ?uy14 ?_
      case uy14 => intro w hS; go_simp; first | done | with_reducible rfl
      simp only [Act.put]
      refine walkC_still _ ?u15 rfl rfl rfl ?uy15 ?_
      case uy15 => intro w hS; go_simp; first | done | with_reducible rfl
      simp only [Act.put]
      try simp only [List.setIfInBounds_toArray, List.set_cons_zero, List.set_cons_succ]
      refine walkC_does _ rfl rfl ?_
      go_wp2_with fail
      refine (wide_w (vals x) (vals y) r1 r2 _).mono ?_
      rintro e w8 ⟨rfl, rfl⟩
      go_wp2
      refine behindC ⟨k4, i1, i2, a0, a1⟩ ?_
      refine walkC_still _ ?q17 rfl rfl rfl ?qy17 ?_
      case qy17 => intro w hS; go_simp; first | done | with_reducible rfl
      simp only [Act.put]
      refine walkC_still _ ?q18 rfl rfl rfl ?qy18 ?_
      case qy18 => intro w hS; go_simp; first | done | with_reducible rfl
      simp only [Act.put]
      refine walkC_still _ ?q19 rfl rfl rfl ?qy19 ?_
      case qy19 => intro w hS; go_simp; first | done | with_reducible rfl
      simp only [Act.put]
      try simp only [List.setIfInBounds_toArray, List.set_cons_zero, List.set_cons_succ]
      refine walkC_does _ rfl rfl ?_
      refine wpList_put rfl _ _ _ rfl mb cc vals rfl (HR.out.map.below (Below.refl _ _).drew) (by omega) dst (wLow (vals x) (vals y)) rfl rfl hd ?_
      intro w9 hs9 hg9
      have hb9 : But mb _ w9 := (But.refl mb _).drew.trans (But.of_grown hg9)
      have n1 : w.heap.size ≠ mb := by omega
      have n2 : w.heap.size + 1 ≠ mb := by omega
      refine wpList_nil (behindC ⟨hb9.cell k4 H.out.ne, hb9.cell i1 n1, hb9.cell i2 n1, hb9.cell a0 n2, hb9.cell a1 n2⟩ ?_)
      refine walkC_does _ rfl rfl ?_
      refine wpList_put rfl _ _ _ rfl mb (cc + 1) _ rfl hs9 (by omega) two (wHigh (vals x) (vals y)) rfl rfl hw ?_
      intro w10 hs10 hg10
      have hb10 : But mb w9 w10 := But.of_grown hg10
      refine wpList_nil (behindC ⟨hb10.cell (hb9.cell k4 H.out.ne) H.out.ne, hb10.cell (hb9.cell i1 n1) n1, hb10.cell (hb9.cell i2 n1) n1, hb10.cell (hb9.cell a0 n2) n2, hb10.cell (hb9.cell a1 n2) n2⟩ (walkC_nil ?_))
      go_wp2
      go_ret2
      exact ⟨rfl, ((But.of_below HBo.out).trans hb9).trans hb10, ⟨((HR.out.str.below (Below.refl _ _).drew).kept hg9 (fun e => H.out.ne (Option.some.inj e))).kept hg10 (fun e => H.out.ne (Option.some.inj e)), hs10, H.out.ne⟩⟩
end Go.Proofs.Ytcangooibfddmaa.Ic
