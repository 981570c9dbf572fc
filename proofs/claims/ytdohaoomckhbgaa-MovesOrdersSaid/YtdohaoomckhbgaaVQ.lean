/- Moves that are pending: the range over a circle. -/
import Derived.Test.YtdohaoomckhbgaaVP
import Derived.Test.YtdohaoomckhbgaaVI
namespace Go.Proofs.Ytdohaoomckhbgaa.Vm
open Go.ChangeShapes Go.WideShapes Go.ChangeAt Go.RowKit Go.Maps Go.WideElems Go.ChangeMaps Go.Sort Go.Shelf Go.Proofs.Ytdohaoomckhbgaa.Mem Go.Proofs.Ytdohaoomckhbgaa.Br Go.Proofs.Ytdohaoomckhbgaa.Va Go.Proofs.Ytdohaoomckhbgaa.Vr
set_option linter.unusedVariables false
set_option linter.unusedSimpArgs false
attribute [local go_sem] Oper.semAt_some
theorem circle_call (w : World) (bf bt : Nat) (x : Int) : Calls Try.prog 46 #[pendV bf bt, .int .i64 x] w fun e w' => e = .returned (.func (.func 72) #[] #[.pointer (some ⟨w.heap.size + 1, 0, none⟩), .pointer (some ⟨w.heap.size, 0, none⟩)]) ∧ w' = (w.alloc (.cells #[.map (some bf), .map (some bt)] 74)).alloc (.cells #[.int .i64 x] 3) := by
  go_enter Try.func46, Try.ntmps46
  go_wp2
  go_ret
  exact ⟨rfl, rfl⟩
/-- What the range over a circle leans on. -/
def rdC (bx bp bf : Nat) (k : Nat) (o : Obj) : Prop := k = bx ∨ k = bp ∨ k = bf
structure CircS (bx bp bf bt c : Nat) (L : List Mov) (x : Int) (w : World) : Prop where
  box : Str w bp 74 [.map (some bf), .map (some bt)]
  start : Str w bx 3 [.int .i64 x]
  from_ : FromAt w bf c L
theorem CircS.below {bx bp bf bt c : Nat} {L : List Mov} {x : Int} {w w' : World} (h : CircS bx bp bf bt c L x w) (hb : Below w.heap.size w w') : CircS bx bp bf bt c L x w' := ⟨h.box.below hb, h.start.below hb, h.from_.below hb⟩
theorem CircS.rd {bx bp bf bt c : Nat} {L : List Mov} {x : Int} {w w' : World} (h : CircS bx bp bf bt c L x w) (hr : Rd (rdC bx bp bf) w w') : CircS bx bp bf bt c L x w' := by
  have hf := Array.getElem?_eq_some_iff.2 ⟨h.from_.lt, rfl⟩
  exact ⟨hr _ _ h.box (Or.inr (Or.inl rfl)), hr _ _ h.start (Or.inl rfl), h.from_.same ((hr _ _ hf (Or.inr (Or.inr rfl))).trans hf.symm)⟩
def nothing (_ : Nat) : Prop := False
theorem in_it {L : List Mov} (h : Rng L) {x : Int} (hx : InI x) : ∀ i, InI (it (srcD L) x i)
  | 0 => hx
  | i + 1 => srcD_in h _
set_option maxRecDepth 100000 in
set_option maxHeartbeats 4000000 in
theorem circle_seq (n : Nat) (hn : 1 ≤ n) (w : World) (bx bp bf bt c : Nat) (L : List Mov) (x : Int) (N : Nat) (hS : CircS bx bp bf bt c L x w) (hx : InI x) (hC : Closed (srcD L) x N) :
    Seq Fence.wide n Try.prog 72 #[.pointer (some ⟨bx, 0, none⟩), .pointer (some ⟨bp, 0, none⟩)] (fun m : Mov => #[.int .i64 m.1, .int .i64 m.2]) nothing (rdC bx bp bf) (fun pre m => ∃ i, i < N ∧ pre = circ (srcD L) x i ∧ m = (it (srcD L) x i, it (srcD L) x (i + 1)))
      (fun xs _ => xs = circ (srcD L) x N) w := by
  intro l J Jx W hW hJ hY h0
  have HY := Lib.hid hY
  have HSW := Lib.hid (hS.below hW)
  have HJ0 := Lib.hid h0
  have HC := Lib.hid hC
  have HI := Lib.hid (in_it hS.from_.rng hx)
  have hw0 : W.cell? ⟨bx, 0, none⟩ = some (.int .i64 x) := HSW.out.start.cell 0
  clear hJ hY hW hS hx h0 hC
  refine callsIn_of_wp Try.func72 rfl trivial ?_ rfl
  simp only [Try.ntmps72, List.size_toArray, List.length_cons, List.length_nil, Nat.reduceAdd, Nat.reduceSub, Array.replicate_succ, Array.replicate_zero, List.push_toArray, List.append_toArray, List.nil_append, List.cons_append]
  gi_wp2_with fail
  gi_loopw [4] (fun t wr => ∃ i : Nat, i < N ∧ t = .int .i64 (it (srcD L) x i) ∧ CircS bx bp bf bt c L x wr ∧ J (circ (srcD L) x i) wr) (fun t _ => N - idxN (srcD L) x N (Go.RowKit.intOf t))
  case atStart => exact ⟨0, HC.out.1, rfl, HSW.out, HJ0.out⟩
  case round =>
    obtain ⟨i, hi, rfl, hS, hJs⟩ := hrel
    have HS := Lib.hid hS
    have HIX := Lib.hid (idxN_at HC.out hi)
    have HNL := Lib.hid (HC.out.next_last hi)
    have HCS := Lib.hid (circ_succ (srcD L) x i)
    have g1 := hS.from_.get (HI.out i)
    have p0 : wr.cell? ⟨bp, 0, none⟩ = some (.map (some bf)) := hS.box.cell 0
    obtain ⟨fn, tmps, assign, body, hy, hR⟩ := HY.out (circ (srcD L) x i) (it (srcD L) x i, it (srcD L) x (i + 1)) wr hJs ⟨i, hi, rfl, rfl⟩
    dsimp only at hy
    change (Instr.yield l #[.int .i64 (it (srcD L) x i), .int .i64 (srcD L (it (srcD L) x i))]).run _ _ = _ at hy
    clear hS hJs
    gi_wp2
    refine hR.mono ?_
    rintro e W3 (⟨rfl, hJ3, hz3, hr3⟩ | ⟨rfl, hJx3⟩)
    · have HS3 := Lib.hid (HS.out.rd hr3)
      have HJ3 : Hid (J (circ (srcD L) x (i + 1)) W3) := Lib.hid (by rw [HCS.out]; exact hJ3)
      have q0 : W3.cell? ⟨bp, 0, none⟩ = some (.map (some bf)) := HS3.out.box.cell 0
      have q1 : W3.cell? ⟨bx, 0, none⟩ = some (.int .i64 x) := HS3.out.start.cell 0
      have g3 := HS3.out.from_.get (HI.out i)
      clear hJ3 hz3 hr3 g1 p0 hy
      by_cases hl : i + 1 = N
      · have hb : ((srcD L (it (srcD L) x i)) == x) = true := by rw [HNL.out.2 hl]; simp
        obtain rfl : N = i + 1 := hl.symm
        gi_wp2
        refine bodyPost_ret (results_none rfl _ _ _) rfl ?_
        exact ⟨⟨_, rfl⟩, .inl ⟨_, rfl, HJ3.out⟩⟩
      · have hb : ((srcD L (it (srcD L) x i)) == x) = false := beq_eq_false_iff_ne.2 fun e => hl (HNL.out.1 e)
        gi_wp2
        go_roundw
        case rel => exact ⟨i + 1, by omega, rfl, HS3.out, HJ3.out⟩
        case measure =>
          show N - idxN (srcD L) x N (it (srcD L) x (i + 1)) < N - idxN (srcD L) x N (it (srcD L) x i)
          rw [HIX.out, idxN_at HC.out (show i + 1 < N by omega)]
          omega
    · gi_wp2
      go_end0
      exact ⟨⟨_, rfl⟩, .inr ⟨_, hJx3⟩⟩
end Go.Proofs.Ytdohaoomckhbgaa.Vm
