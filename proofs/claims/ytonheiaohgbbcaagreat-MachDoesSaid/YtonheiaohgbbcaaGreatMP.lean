/- Stage 7: virtual registers, a map that the call made; a run of machine code in memory; its small steps. -/
import Derived.Test.YtonheiaohgbbcaaGreatMF
import Derived.RangeFuncRecord
import Derived.Maps.Own
import Derived.Maps.OwnSet
import Derived.Maps.Views
namespace Go.Proofs.YtonheiaohgbbcaaGreat.Mc
open Go.ChangeShapes Go.WideShapes Go.ChangeAt Go.RowKit Go.Maps Go.WideElems Go.ChangeMaps Go.Proofs.YtonheiaohgbbcaaGreat.Mem Go.Proofs.YtonheiaohgbbcaaGreat.Kc Go.Proofs.YtonheiaohgbbcaaGreat.Pl Go.Proofs.YtonheiaohgbbcaaGreat.Mw Go.Proofs.YtonheiaohgbbcaaGreat.Br
set_option linter.unusedVariables false
set_option linter.unusedSimpArgs false
def rdW (v : Value) : Option (DataW Unit × List MemPlace) :=
  match v with
  | .int .i32 x => some (.lit (.int .i32 x), [])
  | _ => none
theorem rdW_inv {v : Value} {x : Int} {ps : List MemPlace} (h : rdW v = some (.lit (.int .i32 x), ps)) : v = .int .i32 x := by
  unfold rdW at h
  split at h
  · injection h with h
    injection h with h _
    injection h with h
    injection h with _ h
    rw [h]
  · cases h
def keyN (n : Int) : Lit := .int .i64 n
/-- The map in block b says f. -/
def ValsAt (w : World) (b c : Nat) (f : Int → Int) : Prop :=
  ∃ D : DataW Unit, w.ownsMap Tryz.prog 3 rdW b c D ∧ IsMap D ∧ ∀ x, D.atKey (keyN x) (.lit (.int .i32 0)) = .lit (.int .i32 (f x))
def upd (f : Int → Int) (x : Int) (v : Int) : Int → Int := fun y => if y = x then v else f y
theorem keyed : Keyed Tryz.prog 3 := int_keyed Tryz.underlying3
theorem zeroWord (w : World) : (zeroValue 21).run Tryz.prog w = .ok (.int .i32 0) w := by kernel_rfl
theorem keyIs {n : Int} (h : -9223372036854775808 ≤ n ∧ n ≤ 9223372036854775807) : keyOf Tryz.prog 3 (.int .i64 n) = some (keyN n) := keyOf_int_mk Tryz.underlying3 (WalkArith.wf_i64 h)
theorem ValsAt.made (w : World) : ValsAt (w.alloc (.map #[] 0)) w.heap.size 0 (fun _ => 0) := ⟨.map [], World.ownsMap_made _ _ _ _, isMap_empty, fun x => rfl⟩
theorem ValsAt.look {w : World} {b c : Nat} {f : Int → Int} (h : ValsAt w b c f) {x : Int} (hx : -9223372036854775808 ≤ x ∧ x ≤ 9223372036854775807) :
    (Instr.lookup 83 (.map (some b)) (.int .i64 x) false).run Tryz.prog w = .ok (.int .i32 (f x)) w := by
  obtain ⟨D, h1, h2, h3⟩ := h
  obtain ⟨v, ps, hrun, hR⟩ := h1.lookup keyed Tryz.underlying83 (zeroWord w) (zd := .lit (.int .i32 0)) (zp := []) rfl (keyIs hx)
  rw [h3] at hR
  rw [hrun, rdW_inv hR]
theorem ValsAt.kept {w w' : World} {b c : Nat} {f : Int → Int} {row : Option Nat} (h : ValsAt w b c f) (hg : w.grownBy w' row) (hne : some b ≠ row) : ValsAt w' b c f := by
  obtain ⟨D, h1, h2, h3⟩ := h
  exact ⟨D, h1.kept hg hne, h2, h3⟩
theorem ValsAt.below {w w' : World} {b c : Nat} {f : Int → Int} (h : ValsAt w b c f) (hb : Below w.heap.size w w') : ValsAt w' b c f := h.kept (grown_of_below hb) (by simp)
theorem ValsAt.lt {w : World} {b c : Nat} {f : Int → Int} (h : ValsAt w b c f) : b < w.heap.size := by obtain ⟨D, h1, _⟩ := h; exact h1.lt
theorem ValsAt.put {w' : World} {b c : Nat} {D : DataW Unit} {x : Int} {v : Int} {f : Int → Int} (h2 : IsMap D) (h3 : ∀ x, D.atKey (keyN x) (.lit (.int .i32 0)) = .lit (.int .i32 (f x))) (h : w'.ownsMap Tryz.prog 3 rdW b c (D.put (keyN x) (.lit (.int .i32 v)))) : ValsAt w' b c (upd f x v) := by
  refine ⟨_, h, h2.put _ _, fun y => ?_⟩
  unfold upd
  by_cases e : y = x
  · subst e
    rw [if_pos rfl]
    exact atKey_put_same h2 (by trivial) _ _
  · rw [if_neg e, atKey_put_other (by simp [keyN]; omega), h3]
/-- m[x] = v, at the operation. -/
theorem wpList_put {w : World} {ops : Array Oper} {rest : List Oper} {o : Oper} {a : Act} {Q : Exit → Act → World → Prop} (hg : o.guard = none) (m x v : Operand)
    (hop : o.op = Op.mapUpdate 83 m x v) (b c : Nat) (f : Int → Int) (hm : a.eval m = .map (some b)) (h : ValsAt w b c f) (hn : c < 1000000000000000) (k : Int) (y : Int)
    (hx : a.eval x = .int .i64 k) (hv : a.eval v = .int .i32 y) (hk : -9223372036854775808 ≤ k ∧ k ≤ 9223372036854775807)
    (hK : ∀ w', ValsAt w' b (c + 1) (upd f k y) → w.grownBy w' (some b) → wpList Tryz.prog ops Q rest (a.put o.dst undef) w') : wpList Tryz.prog ops Q (o :: rest) a w := by
  obtain ⟨D, h1, h2, h3⟩ := h
  refine wpList_plain hg fun K' hK' => ?_
  obtain ⟨w', hrun, r1, r2⟩ := h1.update keyed Tryz.underlying83 (by unfold maxLen; omega) (keyIs hk) (val := .int .i32 y) (d := .lit (.int .i32 y)) (ps := []) rfl
  unfold Oper.wp
  simp [execOp, hop, hm, hx, hv, hrun, Result.andThen]
  exact hK' _ _ (hK w' (ValsAt.put h2 h3 r1) r2)
/-- A run in memory: what it was handed, the words of values, and its steps. -/
structure RunAt (w : World) (rb mb cc : Nat) (av mv nv mm cs : Value) (lim : Int) (vals : Int → Int) (steps : Int) : Prop where
  str : Str w rb 85 [av, mv, nv, .int .i64 lim, .map (some mb), mm, cs, .int .i64 steps]
  map : ValsAt w mb cc vals
  ne : rb ≠ mb
def StepPost (rb mb cc : Nat) (av mv nv mm cs : Value) (lim : Int) (vals : Int → Int) (steps : Int) (w : World) (en : Ending) (w' : World) : Prop :=
  if steps < lim then en = .returned (.bool true) ∧ But rb w w' ∧ RunAt w' rb mb cc av mv nv mm cs lim vals (steps + 1) else en = .returned (.bool false) ∧ But rb w w' ∧ RunAt w' rb mb cc av mv nv mm cs lim vals steps
section
variable {w w' : World} {rb mb cc : Nat} {av mv nv mm cs : Value} {lim steps : Int} {vals : Int → Int}
theorem RunAt.below (h : RunAt w rb mb cc av mv nv mm cs lim vals steps) (hb : Below w.heap.size w w') : RunAt w' rb mb cc av mv nv mm cs lim vals steps := ⟨h.str.below hb, h.map.below hb, h.ne⟩
theorem RunAt.c3 (h : RunAt w rb mb cc av mv nv mm cs lim vals steps) : w.cell? ⟨rb, 3, none⟩ = some (.int .i64 lim) := h.str.cell 3
theorem RunAt.c4 (h : RunAt w rb mb cc av mv nv mm cs lim vals steps) : w.cell? ⟨rb, 4, none⟩ = some (.map (some mb)) := h.str.cell 4
theorem RunAt.c5 (h : RunAt w rb mb cc av mv nv mm cs lim vals steps) : w.cell? ⟨rb, 5, none⟩ = some mm := h.str.cell 5
theorem RunAt.c6 (h : RunAt w rb mb cc av mv nv mm cs lim vals steps) : w.cell? ⟨rb, 6, none⟩ = some cs := h.str.cell 6
theorem RunAt.c7 (h : RunAt w rb mb cc av mv nv mm cs lim vals steps) : w.cell? ⟨rb, 7, none⟩ = some (.int .i64 steps) := h.str.cell 7
theorem vals_set {b c : Nat} {f : Int → Int} (h : ValsAt w b c f) {x : Nat} (hc : b ≠ x) (i : Nat) (u : Value) : ValsAt (w.setCell ⟨x, i, none⟩ u) b c f :=
  h.kept (setCell_grownBy w ⟨x, i, none⟩ u) (fun e => hc (Option.some.inj e))
end
theorem But.drewN {m : Nat} {a b : World} (h : But m a b) (n : Nat) : But m a (b.drewN n) := ⟨h.os, h.tape, h.output, h.size, h.block⟩
set_option maxRecDepth 100000 in
set_option maxHeartbeats 200000 in
theorem step_any (w : World) (rb mb cc : Nat) (av mv nv mm cs : Value) (lim steps : Int) (vals : Int → Int) (h : RunAt w rb mb cc av mv nv mm cs lim vals steps) (h0 : 0 ≤ steps) (h1 : steps ≤ 1000000000000) :
    Calls Tryz.prog 37 #[.pointer (some ⟨rb, 0, none⟩)] w (StepPost rb mb cc av mv nv mm cs lim vals steps w) := by
  have H := Lib.hid h
  have k3 := h.c3
  have k7 := h.c7
  have f7 := h.str.frozen 7
  clear h
  by_cases hl : steps < lim
  · have HP := Lib.hid (show ∀ en w', (en = .returned (.bool true) ∧ But rb w w' ∧ RunAt w' rb mb cc av mv nv mm cs lim vals (steps + 1)) → StepPost rb mb cc av mv nv mm cs lim vals steps w en w' from fun en w' h => by unfold StepPost; rw [if_pos hl]; exact h)
    have hg : ¬ lim ≤ steps := by omega
    go_enter Tryz.func37, Tryz.ntmps37
    go_wp2_with fail
    go_quiet (fail)
    go_wp2
    go_ret
    refine HP.out _ _ ⟨rfl, (But.drewN (But.refl rb w) _).trans (But.of_grown (setCell_grownBy _ ⟨rb, 7, none⟩ _)), ?_⟩
    have hst := H.out.str.set 7 (.int .i64 (steps + 1))
    exact ⟨hst, vals_set (x := rb) H.out.map H.out.ne.symm 7 _, H.out.ne⟩
  · have HP := Lib.hid (show ∀ en w', (en = .returned (.bool false) ∧ But rb w w' ∧ RunAt w' rb mb cc av mv nv mm cs lim vals steps) → StepPost rb mb cc av mv nv mm cs lim vals steps w en w' from fun en w' h => by unfold StepPost; rw [if_neg hl]; exact h)
    have hg : lim ≤ steps := by omega
    go_enter Tryz.func37, Tryz.ntmps37
    go_wp2_with fail
    go_quiet (fail)
    go_wp2
    go_ret
    exact HP.out _ _ ⟨rfl, But.drewN (But.refl rb w) _, ⟨H.out.str, H.out.map, H.out.ne⟩⟩
set_option maxRecDepth 100000 in
set_option maxHeartbeats 4000000 in
theorem fileget_any (w : World) (mb cc : Nat) (vals : Int → Int) (h : ValsAt w mb cc vals) (r : Int) (hr : InI r) :
    Calls Tryz.prog 40 #[.map (some mb), .int .i64 r] w fun e w' => e = .returned (.int .i32 (vals r)) ∧ w' = w := by
  have hl := h.look hr
  clear h hr
  go_enter Tryz.func40, Tryz.ntmps40
  go_wp2
  go_ret
  exact ⟨rfl, rfl⟩
def PutPost (mb cc : Nat) (vals : Int → Int) (r x : Int) (w : World) (e : Ending) (w' : World) : Prop := e = .returned (.tuple #[]) ∧ ValsAt w' mb (cc + 1) (upd vals r x) ∧ But mb w w'
set_option maxRecDepth 100000 in
set_option maxHeartbeats 4000000 in
theorem fileset_any (w : World) (mb cc : Nat) (vals : Int → Int) (h : ValsAt w mb cc vals) (r x : Int) (hr : InI r) (hc : cc < 1000000000000000) :
    Calls Tryz.prog 68 #[.map (some mb), .int .i64 r, .int .i32 x] w (PutPost mb cc vals r x w) := by
  have H := Lib.hid h
  clear h
  go_enter Tryz.func68, Tryz.ntmps68
  go_wp2_with (refine wpList_put rfl _ _ _ rfl mb cc vals rfl H.out hc r x rfl rfl hr ?_)
  intro w2 hv hg
  go_wp2
  refine ⟨rfl, .tuple #[], ?_, rfl, hv, But.of_grown hg⟩
  simp only [results]
  go_simp
theorem file_get (f : Nat) (b : Nat) (w : World) : (method (f + 1) 83 (.map (some b)) "jacquard/mach.get").run Tryz.prog w = .ok (40, .map (some b)) w := by kernel_rfl
theorem file_set (f : Nat) (b : Nat) (w : World) : (method (f + 1) 83 (.map (some b)) "jacquard/mach.set").run Tryz.prog w = .ok (68, .map (some b)) w := by kernel_rfl
end Go.Proofs.YtonheiaohgbbcaaGreat.Mc
