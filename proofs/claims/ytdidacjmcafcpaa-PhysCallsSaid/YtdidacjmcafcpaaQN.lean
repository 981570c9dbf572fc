/- Stage 12: a run's small methods: step, end, result; an operation of layer 7. -/
import Derived.Test.YtdidacjmcafcpaaQM
namespace Go.Proofs.Ytdidacjmcafcpaa.Ph
open Go.ChangeShapes Go.WideShapes Go.ChangeAt Go.RowKit Go.Proofs.Ytdidacjmcafcpaa.Mem Go.Proofs.Ytdidacjmcafcpaa.Kc Go.Proofs.Ytdidacjmcafcpaa.Pl Go.Proofs.Ytdidacjmcafcpaa.Mw Go.Proofs.Ytdidacjmcafcpaa.Mc Go.Proofs.Ytdidacjmcafcpaa.Br Go.Proofs.Ytdidacjmcafcpaa.Wd
set_option linter.unusedVariables false
set_option linter.unusedSimpArgs false
theorem below_drewQ {B : Nat} {w w' : World} (h : Below B w w') (n : Nat) : Below B w (w'.drewN n) := ⟨h.os, h.tape, h.output, h.size, h.block⟩
/-- A run in memory: its input's rows, its steps at most; registers; the row of slots; how it ended, what it is worth, the rows of memory and of calls, its steps. -/
structure PRun where
  av : Value
  mv : Value
  nv : Value
  max : Int
  regs : List Int
  sv : Value
  how : Int
  val : Int
  me : Value
  ca : Value
  steps : Int
def PRun.ps (s : PRun) : List Value := [s.av, s.mv, s.nv, .int .i64 s.max]
def PRun.qs (s : PRun) : List Value := [s.sv, .int .i64 s.how, .int .i32 s.val, s.me, s.ca, .int .i64 s.steps]
def PRun.At (B g : Nat) (s : PRun) (w : World) : Prop := Rg B g s.ps s.qs w s.regs
theorem PRun.At.cells {B g : Nat} {s : PRun} {w : World} (h : s.At B g w) : w.cell? ⟨g, 3, none⟩ = some (.int .i64 s.max) ∧ w.cell? ⟨g, 20, none⟩ = some s.sv ∧ w.cell? ⟨g, 21, none⟩ = some (.int .i64 s.how) ∧ w.cell? ⟨g, 22, none⟩ = some (.int .i32 s.val) ∧ w.cell? ⟨g, 23, none⟩ = some s.me ∧ w.cell? ⟨g, 24, none⟩ = some s.ca ∧ w.cell? ⟨g, 25, none⟩ = some (.int .i64 s.steps) := by
  obtain ⟨_, _, hl, hs⟩ := h
  have e : ∀ k, w.cell? ⟨g, 20 + k, none⟩ = s.qs[k]? := fun k => by
    rw [hs.cell (20 + k), List.getElem?_append_right (by simp [PRun.ps]; omega), List.getElem?_append_right (by simp [PRun.ps, hl]; omega)]
    congr 1
    simp [PRun.ps, hl]
    omega
  refine ⟨?_, e 0, e 1, e 2, e 3, e 4, e 5⟩
  rw [hs.cell 3]
  rfl
theorem PRun.At.frozen {B g : Nat} {s : PRun} {w : World} (h : s.At B g w) (k : Nat) : w.frozen? ⟨g, k, none⟩ = false := h.2.2.2.frozen k
theorem PRun.At.put {B g : Nat} {s t : PRun} {w : World} (h : s.At B g w) (k : Nat) (u : Value) (hp : t.ps = s.ps) (hr : t.regs = s.regs) (hq : t.qs = s.qs.set k u) : t.At B g (w.setCell ⟨g, 20 + k, none⟩ u) := by
  obtain ⟨h1, h2, hl, hs⟩ := h
  refine ⟨h1, by rw [hp]; exact h2, by rw [hr]; exact hl, ?_⟩
  have e := hs.set (20 + k) u
  rw [List.set_append_right _ _ (by simp [PRun.ps]; omega), List.set_append_right _ _ (by simp [PRun.ps, hl]; omega)] at e
  rw [hp, hr, hq, show k = 20 + k - s.ps.length - (List.map (Value.int .i32) s.regs).length by simp [PRun.ps, hl]; omega]
  rw [← show k = 20 + k - s.ps.length - (List.map (Value.int .i32) s.regs).length by simp [PRun.ps, hl]; omega]
  rw [show 20 + k - s.ps.length - (List.map (Value.int .i32) s.regs).length = k by simp [PRun.ps, hl]; omega] at e
  exact e
theorem PRun.At.below {B g : Nat} {s : PRun} {w w' : World} (h : s.At B g w) (hb : Below w.heap.size w w') : s.At B g w' := Rg.below h hb
set_option maxRecDepth 100000 in
set_option maxHeartbeats 4000000 in
theorem rend_any (w : World) (B g : Nat) (s : PRun) (how val : Int) (h : s.At B g w) : Calls Try.prog 57 #[.pointer (some ⟨g, 0, none⟩), .int .i64 how, .int .i32 val] w fun e w' => e = .returned (.tuple #[]) ∧ ({ s with how := how, val := val } : PRun).At B g w' ∧ But g w w' := by
  obtain ⟨c3, c20, c21, c22, c23, c24, c25⟩ := h.cells
  have f21 := h.frozen 21
  have f22 := h.frozen 22
  have H1 := Lib.hid (PRun.At.put (t := { s with how := how }) h 1 (.int .i64 how) rfl rfl rfl)
  have H2 := Lib.hid (PRun.At.put (t := { s with how := how, val := val }) H1.out 2 (.int .i32 val) rfl rfl rfl)
  have HB := Lib.hid (show But g w ((w.setCell ⟨g, 20 + 1, none⟩ (.int .i64 how)).setCell ⟨g, 20 + 2, none⟩ (.int .i32 val)) from (but_set _ _ _ _).trans (but_set _ _ _ _))
  have d22 : (w.setCell ⟨g, 21, none⟩ (.int .i64 how)).cell? ⟨g, 22, none⟩ = some (.int .i32 s.val) := H1.out.cells.2.2.2.1
  have e22 : (w.setCell ⟨g, 21, none⟩ (.int .i64 how)).frozen? ⟨g, 22, none⟩ = false := H1.out.frozen 22
  clear h
  go_enter Try.func57, Try.ntmps57
  go_wp2_with fail
  refine ⟨rfl, .tuple #[], ?_, rfl, H2.out, HB.out⟩
  simp only [results]
  go_simp
set_option maxRecDepth 100000 in
set_option maxHeartbeats 4000000 in
theorem rresult_any (w : World) (B g : Nat) (s : PRun) (op a b imm : Int) (T : Option Addr) (n k : Nat) (h : s.At B g w) (ha : a < 16) : Calls Try.prog 71 #[.pointer (some ⟨g, 0, none⟩), .agg #[.int .i64 op, .int .i64 a, .int .i64 b, .slice T n k, .int .i32 imm]] w fun e w' => e = .returned (.int .i32 (getP s.regs a)) ∧ Below w.heap.size w w' := by
  by_cases hz : a < 0
  · have HG := Lib.hid (show getP s.regs a = 0 from if_neg (by omega))
    go_enter Try.func71, Try.ntmps71
    go_wp2_with fail
    go_ret
    exact ⟨by rw [HG.out]; rfl, (Below.refl _ _).alloc (Nat.le_refl _) _⟩
  · obtain ⟨j, rfl⟩ : ∃ j : Nat, a = (j : Int) := ⟨a.toNat, by omega⟩
    have hj : j < s.regs.length := by rw [h.2.2.1]; omega
    have hj16 : j < 16 := by omega
    have HG := Lib.hid (show getP s.regs j = s.regs[j] by unfold getP; rw [if_pos ⟨by omega, by omega⟩, Int.toNat_natCast, List.getD_eq_getElem?_getD, List.getElem?_eq_getElem hj]; rfl)
    go_enter Try.func71, Try.ntmps71
    go_upto_region 1 with (fail)
    obtain ⟨W, hW⟩ : ∃ W, w.alloc (.cells #[.int .i64 op, .int .i64 (j : Int), .int .i64 b, .slice T n k, .int .i32 imm] 26) = W := ⟨_, rfl⟩
    have hb : Below w.heap.size w W := by rw [← hW]; exact (Below.refl _ _).alloc (Nat.le_refl _) _
    have hs : Str W w.heap.size 26 [.int .i64 op, .int .i64 (j : Int), .int .i64 b, .slice T n k, .int .i32 imm] := by rw [← hW]; exact World.alloc_heap_new w _
    have hc : W.cell? ⟨g, 4 + j, none⟩ = some (.int .i32 s.regs[j]) := by rw [(h.below hb).2.2.2.cell (4 + j)]; exact rg_at h.2.1 hj
    have m1 : W.cell? ⟨w.heap.size, 1, none⟩ = some (.int .i64 (j : Int)) := hs.cell 1
    have HB := Lib.hid hb
    rw [hW]
    clear hW
    generalize s.regs[j] = z at *
    clear h hj hz hs hb
    go_wp2_with fail
    go_quiet (fail)
    go_wp2_with fail
    go_ret
    exact ⟨by rw [HG.out]; rfl, below_drewQ HB.out _⟩
end Go.Proofs.Ytdidacjmcafcpaa.Ph
