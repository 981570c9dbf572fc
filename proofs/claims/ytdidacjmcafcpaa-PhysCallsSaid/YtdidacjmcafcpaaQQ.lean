/- Stage 12: what a run does at a block's end that returns or traps. -/
import Derived.Test.YtdidacjmcafcpaaQO
namespace Go.Proofs.Ytdidacjmcafcpaa.Ph
open Go.ChangeShapes Go.WideShapes Go.ChangeAt Go.RowKit Go.Proofs.Ytdidacjmcafcpaa.Mem Go.Proofs.Ytdidacjmcafcpaa.Kc Go.Proofs.Ytdidacjmcafcpaa.Pl Go.Proofs.Ytdidacjmcafcpaa.Mw Go.Proofs.Ytdidacjmcafcpaa.Mc Go.Proofs.Ytdidacjmcafcpaa.Br Go.Proofs.Ytdidacjmcafcpaa.Wd
set_option linter.unusedVariables false
set_option linter.unusedSimpArgs false
theorem two_below {B g : Nat} {r : Option Nat} {w w' : World} (h : Two (some g) r w w') (hg : B ≤ g) (hr : ∀ x, r = some x → B ≤ x) (hB : B ≤ w.heap.size) : Below B w w' :=
  ⟨h.os, h.tape, h.output, h.size, fun k hk => h.block k (Nat.lt_of_lt_of_le hk hB) (fun e => by injection e; omega) (fun e => by have := hr k e.symm; omega)⟩
theorem two_grown {g : Nat} {w w' : World} (h : Two (some g) none w w') : w.grownBy w' (some g) := ⟨h.os, h.tape, h.output, h.size, fun k hk hn => h.block k hk hn (by simp)⟩
theorem run_apart {B g : Nat} {s : PRun} {w : World} (h : s.At B g w) {v : Value} {l : List Int} (hv : OwnWords B w v l) : v.ownBlock ≠ some g := fun e => (Str.not_row h.2.2.2 (by decide) hv) e.symm
theorem own_two {B g : Nat} {w w' : World} {v : Value} {l : List Int} (hv : OwnWords B w v l) (h : Two (some g) none w w') (hn : v.ownBlock ≠ some g) : OwnWords B w' v l := World.ownsRow.kept hv (two_grown h) (Or.inr hn)
theorem str_two {x g : Nat} {r : Option Nat} {w w' : World} {t : TypeId} {vs : List Value} (hs : Str w x t vs) (h : Two (some g) r w w') (h1 : x ≠ g) (h2 : r ≠ some x) : Str w' x t vs := (h.block x hs.lt (fun e => h1 (by injection e)) (fun e => h2 e.symm)).trans hs
def leaveS (f : PEnd) (s : PRun) : PRun := if f.op = 7 then { s with how := 1, val := getP s.regs f.a } else { s with how := 2, val := f.imm }
set_option maxRecDepth 100000 in
set_option maxHeartbeats 4000000 in
theorem leaveQ_any (w : World) (B g : Nat) (s : PRun) (f : PEnd) (T : Option Addr) (n k : Nat) (hs : s.At B g w) (hf : f.op = 7 ∧ f.a < 16 ∨ f.op = 8) : Calls Try.prog 58 #[.pointer (some ⟨g, 0, none⟩), .agg #[.int .i64 f.op, .int .i64 f.a, .int .i64 f.b, .slice T n k, .int .i32 f.imm]] w fun e w' => e = .returned (.int .i64 0) ∧ (leaveS f s).At B g w' ∧ Two (some g) none w w' := by
  have HS := Lib.hid hs
  obtain ⟨op, a, b, tos, imm⟩ := f
  rcases hf with ⟨h7, ha⟩ | h8
  · have h7 : op = 7 := h7
    have ha : a < 16 := ha
    subst h7
    clear hs
    go_enter Try.func58, Try.ntmps58
    go_upto_region 1 with (fail)
    obtain ⟨W, hW⟩ : ∃ W, w.alloc (.cells #[.int .i64 7, .int .i64 a, .int .i64 b, .slice T n k, .int .i32 imm] 26) = W := ⟨_, rfl⟩
    have hb : Below w.heap.size w W := by rw [← hW]; exact (Below.refl _ _).alloc (Nat.le_refl _) _
    have hsW : Str W w.heap.size 26 [.int .i64 7, .int .i64 a, .int .i64 b, .slice T n k, .int .i32 imm] := by rw [← hW]; exact World.alloc_heap_new w _
    rw [hW]
    clear hW
    have m0 : W.cell? ⟨w.heap.size, 0, none⟩ = some (.int .i64 7) := hsW.cell 0
    have m1 : W.cell? ⟨w.heap.size, 1, none⟩ = some (.int .i64 a) := hsW.cell 1
    have m2 : W.cell? ⟨w.heap.size, 2, none⟩ = some (.int .i64 b) := hsW.cell 2
    have m3 : W.cell? ⟨w.heap.size, 3, none⟩ = some (.slice T n k) := hsW.cell 3
    have m4 : W.cell? ⟨w.heap.size, 4, none⟩ = some (.int .i32 imm) := hsW.cell 4
    have HB := Lib.hid hb
    clear hb hsW
    go_wp2_with fail
    refine (rresult_any W B g s 7 a b imm T n k (HS.out.below HB.out) ha).mono ?_
    rintro e w2 ⟨rfl, hb2⟩
    have HB2 := Lib.hid (HB.out.trans (hb2.mono HB.out.size))
    clear hb2
    go_wp2_with fail
    refine (rend_any w2 B g s 1 (getP s.regs a) (HS.out.below HB2.out)).mono ?_
    rintro e w3 ⟨rfl, h3, hb3⟩
    have H3 := Lib.hid h3
    have HT := Lib.hid ((Two.of_below (r := some g) (m := none) HB2.out).trans (Two.set (Or.inr ⟨g, rfl, hb3⟩)))
    clear h3 hb3
    go_wp2_with fail
    go_ret
    exact ⟨rfl, H3.out, HT.out⟩
  · have h8 : op = 8 := h8
    subst h8
    clear hs
    go_enter Try.func58, Try.ntmps58
    go_upto_region 1 with (fail)
    obtain ⟨W, hW⟩ : ∃ W, w.alloc (.cells #[.int .i64 8, .int .i64 a, .int .i64 b, .slice T n k, .int .i32 imm] 26) = W := ⟨_, rfl⟩
    have hb : Below w.heap.size w W := by rw [← hW]; exact (Below.refl _ _).alloc (Nat.le_refl _) _
    have hsW : Str W w.heap.size 26 [.int .i64 8, .int .i64 a, .int .i64 b, .slice T n k, .int .i32 imm] := by rw [← hW]; exact World.alloc_heap_new w _
    rw [hW]
    clear hW
    have m0 : W.cell? ⟨w.heap.size, 0, none⟩ = some (.int .i64 8) := hsW.cell 0
    have m4 : W.cell? ⟨w.heap.size, 4, none⟩ = some (.int .i32 imm) := hsW.cell 4
    have HB2 := Lib.hid hb
    clear hb hsW
    go_wp2_with fail
    refine (rend_any W B g s 2 imm (HS.out.below HB2.out)).mono ?_
    rintro e w3 ⟨rfl, h3, hb3⟩
    have H3 := Lib.hid h3
    have HT := Lib.hid ((Two.of_below (r := some g) (m := none) HB2.out).trans (Two.set (Or.inr ⟨g, rfl, hb3⟩)))
    clear h3 hb3
    go_wp2_with fail
    go_ret
    exact ⟨rfl, H3.out, HT.out⟩
end Go.Proofs.Ytdidacjmcafcpaa.Ph
