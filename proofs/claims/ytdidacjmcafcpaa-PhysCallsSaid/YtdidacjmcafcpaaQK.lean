/- Stage 12: physical code in memory, and what phys says of limits, parts and all of it. -/
import Derived.Test.YtdidacjmcafcpaaQE
import Derived.Test.YtdidacjmcafcpaaQF
import Derived.Test.YtdidacjmcafcpaaStruct
import Derived.Test.YtdidacjmcafcpaaHeld
namespace Go.Proofs.Ytdidacjmcafcpaa.Ph
open Go.ChangeShapes Go.WideShapes Go.ChangeAt Go.RowKit Go.Proofs.Ytdidacjmcafcpaa.Mem Go.Proofs.Ytdidacjmcafcpaa.Kc Go.Proofs.Ytdidacjmcafcpaa.Pl Go.Proofs.Ytdidacjmcafcpaa.Mw Go.Proofs.Ytdidacjmcafcpaa.Mc Go.Proofs.Ytdidacjmcafcpaa.Br Go.Proofs.Ytdidacjmcafcpaa.Gr
set_option linter.unusedVariables false
set_option linter.unusedSimpArgs false
structure PlIn where
  i : PMach
  fr : Int
structure PPB where
  ins : List PlIn
  fin : PEnd
def PlacedAt (w : World) (b o : Nat) (x : PlIn) : Prop :=
  w.cell? ⟨b, o, none⟩ = some (.int .i64 x.i.op) ∧ w.cell? ⟨b, o + 1, none⟩ = some (.int .i64 x.i.d) ∧ w.cell? ⟨b, o + 2, none⟩ = some (.int .i64 x.i.e) ∧ w.cell? ⟨b, o + 3, none⟩ = some (.int .i64 x.i.a) ∧ w.cell? ⟨b, o + 4, none⟩ = some (.int .i64 x.i.b) ∧
  w.cell? ⟨b, o + 5, none⟩ = some (.int .i64 x.i.c) ∧ w.cell? ⟨b, o + 6, none⟩ = some (.int .i32 x.i.imm) ∧ (CellAt w b (o + 7) fun s => Ints w s x.i.args) ∧ w.cell? ⟨b, o + 8, none⟩ = some (.int .i64 x.fr)
def PBlockAt (w : World) (b o : Nat) (x : PPB) : Prop :=
  (CellAt w b o fun s => RowAt w 9 PlacedAt s x.ins) ∧ w.cell? ⟨b, o + 1, none⟩ = some (.int .i64 x.fin.op) ∧ w.cell? ⟨b, o + 2, none⟩ = some (.int .i64 x.fin.a) ∧
  w.cell? ⟨b, o + 3, none⟩ = some (.int .i64 x.fin.b) ∧ (CellAt w b (o + 4) fun s => Ints w s x.fin.to) ∧ w.cell? ⟨b, o + 5, none⟩ = some (.int .i32 x.fin.imm)
def PBlocksAt (w : World) (v : Value) (l : List PPB) : Prop := RowAt w 6 PBlockAt v l
theorem PlacedAt.keep {w w' : World} (hb : Below w.heap.size w w') (b o : Nat) (x : PlIn) (h : PlacedAt w b o x) : PlacedAt w' b o x :=
  ⟨cell_keep hb (Nat.le_refl _) h.1, cell_keep hb (Nat.le_refl _) h.2.1, cell_keep hb (Nat.le_refl _) h.2.2.1, cell_keep hb (Nat.le_refl _) h.2.2.2.1, cell_keep hb (Nat.le_refl _) h.2.2.2.2.1, cell_keep hb (Nat.le_refl _) h.2.2.2.2.2.1, cell_keep hb (Nat.le_refl _) h.2.2.2.2.2.2.1, h.2.2.2.2.2.2.2.1.kept hb fun v hv => hv.keep hb, cell_keep hb (Nat.le_refl _) h.2.2.2.2.2.2.2.2⟩
theorem PBlockAt.keep {w w' : World} (hb : Below w.heap.size w w') (b o : Nat) (x : PPB) (h : PBlockAt w b o x) : PBlockAt w' b o x :=
  ⟨h.1.kept hb fun v hv => hv.kept (PlacedAt.keep hb), cell_keep hb (Nat.le_refl _) h.2.1, cell_keep hb (Nat.le_refl _) h.2.2.1, cell_keep hb (Nat.le_refl _) h.2.2.2.1,
    h.2.2.2.2.1.kept hb fun v hv => hv.keep hb, cell_keep hb (Nat.le_refl _) h.2.2.2.2.2⟩
theorem PBlocksAt.keep {w w' : World} {v : Value} {l : List PPB} (h : PBlocksAt w v l) (hb : Below w.heap.size w w') : PBlocksAt w' v l := RowAt.kept h (PBlockAt.keep hb)
theorem pblock_rows {w : World} {b o : Nat} {x : PPB} (h : PBlockAt w b o x) : ∃ p0 c0 p4 c4, w.cell? ⟨b, o, none⟩ = some (.slice p0 x.ins.length c0) ∧ w.cell? ⟨b, o + 1, none⟩ = some (.int .i64 x.fin.op) ∧
    w.cell? ⟨b, o + 2, none⟩ = some (.int .i64 x.fin.a) ∧ w.cell? ⟨b, o + 3, none⟩ = some (.int .i64 x.fin.b) ∧ w.cell? ⟨b, o + 4, none⟩ = some (.slice p4 x.fin.to.length c4) ∧ w.cell? ⟨b, o + 5, none⟩ = some (.int .i32 x.fin.imm) ∧
    RowAt w 9 PlacedAt (.slice p0 x.ins.length c0) x.ins ∧ Ints w (.slice p4 x.fin.to.length c4) x.fin.to := by
  obtain ⟨⟨v0, h0, g0⟩, h2, h3, h4, ⟨v5, h5, g5⟩, h6⟩ := h
  have e0 := g0
  have e5 := g5
  obtain ⟨A0, c0, _, _, rfl, _⟩ := e0
  obtain ⟨A5, c5, rfl, _⟩ := e5
  exact ⟨A0, c0, A5, c5, h0, h2, h3, h4, h5, h6, g0, g5⟩
theorem placed_cells {w : World} {b o : Nat} {x : PlIn} (h : PlacedAt w b o x) : ∃ A k, w.cell? ⟨b, o + 7, none⟩ = some (.slice A x.i.args.length k) ∧ Ints w (.slice A x.i.args.length k) x.i.args := by
  obtain ⟨_, _, _, _, _, _, _, ⟨v, h1, h2⟩, _⟩ := h
  have h3 := h2
  obtain ⟨A, k, rfl, _⟩ := h3
  exact ⟨A, k, h1, h2⟩
def sizeQ (x : PPB) : Nat := x.ins.length + 1
def uptoQ (bs : List PPB) (k : Nat) : Nat := ((bs.take k).map sizeQ).sum
theorem uptoQ_succ {bs : List PPB} {k : Nat} (h : k < bs.length) : uptoQ bs (k + 1) = uptoQ bs k + sizeQ bs[k] := by
  unfold uptoQ
  rw [List.take_succ_eq_append_getElem h, List.map_append, List.sum_append]; simp
theorem uptoQ_zero (bs : List PPB) : uptoQ bs 0 = 0 := by simp [uptoQ]
/-- Physical code of sizes and numbers that can be. -/
structure WfQ (bs : List PPB) : Prop where
  few : bs.length ≤ 100000
  sizes : ∀ x ∈ bs, x.ins.length ≤ 100000 ∧ x.fin.to.length ≤ 1000
  ins : ∀ x ∈ bs, ∀ y ∈ x.ins, y.i.args.length ≤ 100000 ∧ InI y.i.a ∧ InI y.i.b ∧ InI y.i.c ∧ InI y.i.d ∧ InI y.i.e ∧ InW y.i.imm
theorem WfQ.upto {bs : List PPB} (h : WfQ bs) : ∀ k, k ≤ bs.length → uptoQ bs k ≤ 100001 * k
  | 0, _ => by rw [uptoQ_zero]; omega
  | k + 1, hk => by
    have h1 := h.upto k (by omega)
    have h2 := h.sizes bs[k] (List.getElem_mem _)
    rw [uptoQ_succ (by omega)]
    unfold sizeQ
    omega
def limQ (params r sl : Int) (bs : List PPB) : Int := if (params < 0 ∨ 4 < params) ∨ (r < 4 ∨ 16 < r) ∨ (sl < 0 ∨ 16384 < sl) then 1 else if bs.length = 0 then 14 else if 512 < bs.length then 2 else if 65536 < uptoQ bs bs.length then 2 else 0
set_option maxRecDepth 100000 in
set_option maxHeartbeats 4000000 in
theorem limitsQ_any (w : World) (params r sl : Int) (A : Option Addr) (c : Nat) (bs : List PPB) (hA : PBlocksAt w (.slice A bs.length c) bs) (hwf : WfQ bs) :
    Calls Try.prog 45 #[.agg #[.int .i64 params, .int .i64 r, .int .i64 sl, .slice A bs.length c]] w fun en w' => en = .returned (.int .i64 (limQ params r sl bs)) ∧ Below w.heap.size w w' := by
  have HWF := Lib.hid hwf
  have hfew := hwf.few
  clear hwf
  by_cases h : params < 0
  · have HW := Lib.hid (show limQ params r sl bs = 1 from if_pos (Or.inl (Or.inl h)))
    go_enter Try.func45, Try.ntmps45
    go_upto_region 1 with (fail)
    obtain ⟨W1, hW1⟩ : ∃ W1, w.alloc (.cells #[.int .i64 params, .int .i64 r, .int .i64 sl, .slice A bs.length c] 51) = W1 := ⟨_, rfl⟩
    have hbW1 : Below w.heap.size w W1 := by rw [← hW1]; exact (Below.refl _ _).alloc (Nat.le_refl _) _
    have hsW1 : Str W1 w.heap.size 51 [.int .i64 params, .int .i64 r, .int .i64 sl, .slice A bs.length c] := by rw [← hW1]; exact World.alloc_heap_new w _
    rw [hW1]
    clear hW1
    have m0 : W1.cell? ⟨w.heap.size, 0, none⟩ = some (.int .i64 params) := hsW1.cell 0
    have m1 : W1.cell? ⟨w.heap.size, 1, none⟩ = some (.int .i64 r) := hsW1.cell 1
    have m2 : W1.cell? ⟨w.heap.size, 2, none⟩ = some (.int .i64 sl) := hsW1.cell 2
    have m3 : W1.cell? ⟨w.heap.size, 3, none⟩ = some (.slice A bs.length c) := hsW1.cell 3
    have HB1 := Lib.hid hbW1
    have HX := Lib.hid (hA.keep hbW1)
    clear hsW1 hbW1 hA
    go_wp2_with fail
    go_ret
    exact ⟨ret_num HW.out.symm, HB1.out⟩
  have g0 : 0 ≤ params := by omega
  clear h
  by_cases h : 4 < params
  · have HW := Lib.hid (show limQ params r sl bs = 1 from if_pos (Or.inl (Or.inr h)))
    go_enter Try.func45, Try.ntmps45
    go_upto_region 1 with (fail)
    obtain ⟨W1, hW1⟩ : ∃ W1, w.alloc (.cells #[.int .i64 params, .int .i64 r, .int .i64 sl, .slice A bs.length c] 51) = W1 := ⟨_, rfl⟩
    have hbW1 : Below w.heap.size w W1 := by rw [← hW1]; exact (Below.refl _ _).alloc (Nat.le_refl _) _
    have hsW1 : Str W1 w.heap.size 51 [.int .i64 params, .int .i64 r, .int .i64 sl, .slice A bs.length c] := by rw [← hW1]; exact World.alloc_heap_new w _
    rw [hW1]
    clear hW1
    have m0 : W1.cell? ⟨w.heap.size, 0, none⟩ = some (.int .i64 params) := hsW1.cell 0
    have m1 : W1.cell? ⟨w.heap.size, 1, none⟩ = some (.int .i64 r) := hsW1.cell 1
    have m2 : W1.cell? ⟨w.heap.size, 2, none⟩ = some (.int .i64 sl) := hsW1.cell 2
    have m3 : W1.cell? ⟨w.heap.size, 3, none⟩ = some (.slice A bs.length c) := hsW1.cell 3
    have HB1 := Lib.hid hbW1
    have HX := Lib.hid (hA.keep hbW1)
    clear hsW1 hbW1 hA
    go_wp2_with fail
    go_ret
    exact ⟨ret_num HW.out.symm, HB1.out⟩
  have g1 : params ≤ 4 := by omega
  clear h
  by_cases h : r < 4
  · have HW := Lib.hid (show limQ params r sl bs = 1 from if_pos (Or.inr (Or.inl (Or.inl h))))
    go_enter Try.func45, Try.ntmps45
    go_upto_region 1 with (fail)
    obtain ⟨W1, hW1⟩ : ∃ W1, w.alloc (.cells #[.int .i64 params, .int .i64 r, .int .i64 sl, .slice A bs.length c] 51) = W1 := ⟨_, rfl⟩
    have hbW1 : Below w.heap.size w W1 := by rw [← hW1]; exact (Below.refl _ _).alloc (Nat.le_refl _) _
    have hsW1 : Str W1 w.heap.size 51 [.int .i64 params, .int .i64 r, .int .i64 sl, .slice A bs.length c] := by rw [← hW1]; exact World.alloc_heap_new w _
    rw [hW1]
    clear hW1
    have m0 : W1.cell? ⟨w.heap.size, 0, none⟩ = some (.int .i64 params) := hsW1.cell 0
    have m1 : W1.cell? ⟨w.heap.size, 1, none⟩ = some (.int .i64 r) := hsW1.cell 1
    have m2 : W1.cell? ⟨w.heap.size, 2, none⟩ = some (.int .i64 sl) := hsW1.cell 2
    have m3 : W1.cell? ⟨w.heap.size, 3, none⟩ = some (.slice A bs.length c) := hsW1.cell 3
    have HB1 := Lib.hid hbW1
    have HX := Lib.hid (hA.keep hbW1)
    clear hsW1 hbW1 hA
    go_wp2_with fail
    go_ret
    exact ⟨ret_num HW.out.symm, HB1.out⟩
  have g2 : 4 ≤ r := by omega
  clear h
  by_cases h : 16 < r
  · have HW := Lib.hid (show limQ params r sl bs = 1 from if_pos (Or.inr (Or.inl (Or.inr h))))
    go_enter Try.func45, Try.ntmps45
    go_upto_region 1 with (fail)
    obtain ⟨W1, hW1⟩ : ∃ W1, w.alloc (.cells #[.int .i64 params, .int .i64 r, .int .i64 sl, .slice A bs.length c] 51) = W1 := ⟨_, rfl⟩
    have hbW1 : Below w.heap.size w W1 := by rw [← hW1]; exact (Below.refl _ _).alloc (Nat.le_refl _) _
    have hsW1 : Str W1 w.heap.size 51 [.int .i64 params, .int .i64 r, .int .i64 sl, .slice A bs.length c] := by rw [← hW1]; exact World.alloc_heap_new w _
    rw [hW1]
    clear hW1
    have m0 : W1.cell? ⟨w.heap.size, 0, none⟩ = some (.int .i64 params) := hsW1.cell 0
    have m1 : W1.cell? ⟨w.heap.size, 1, none⟩ = some (.int .i64 r) := hsW1.cell 1
    have m2 : W1.cell? ⟨w.heap.size, 2, none⟩ = some (.int .i64 sl) := hsW1.cell 2
    have m3 : W1.cell? ⟨w.heap.size, 3, none⟩ = some (.slice A bs.length c) := hsW1.cell 3
    have HB1 := Lib.hid hbW1
    have HX := Lib.hid (hA.keep hbW1)
    clear hsW1 hbW1 hA
    go_wp2_with fail
    go_ret
    exact ⟨ret_num HW.out.symm, HB1.out⟩
  have g3 : r ≤ 16 := by omega
  clear h
  by_cases h : sl < 0
  · have HW := Lib.hid (show limQ params r sl bs = 1 from if_pos (Or.inr (Or.inr (Or.inl h))))
    go_enter Try.func45, Try.ntmps45
    go_upto_region 1 with (fail)
    obtain ⟨W1, hW1⟩ : ∃ W1, w.alloc (.cells #[.int .i64 params, .int .i64 r, .int .i64 sl, .slice A bs.length c] 51) = W1 := ⟨_, rfl⟩
    have hbW1 : Below w.heap.size w W1 := by rw [← hW1]; exact (Below.refl _ _).alloc (Nat.le_refl _) _
    have hsW1 : Str W1 w.heap.size 51 [.int .i64 params, .int .i64 r, .int .i64 sl, .slice A bs.length c] := by rw [← hW1]; exact World.alloc_heap_new w _
    rw [hW1]
    clear hW1
    have m0 : W1.cell? ⟨w.heap.size, 0, none⟩ = some (.int .i64 params) := hsW1.cell 0
    have m1 : W1.cell? ⟨w.heap.size, 1, none⟩ = some (.int .i64 r) := hsW1.cell 1
    have m2 : W1.cell? ⟨w.heap.size, 2, none⟩ = some (.int .i64 sl) := hsW1.cell 2
    have m3 : W1.cell? ⟨w.heap.size, 3, none⟩ = some (.slice A bs.length c) := hsW1.cell 3
    have HB1 := Lib.hid hbW1
    have HX := Lib.hid (hA.keep hbW1)
    clear hsW1 hbW1 hA
    go_wp2_with fail
    go_ret
    exact ⟨ret_num HW.out.symm, HB1.out⟩
  have g4 : 0 ≤ sl := by omega
  clear h
  by_cases h : 16384 < sl
  · have HW := Lib.hid (show limQ params r sl bs = 1 from if_pos (Or.inr (Or.inr (Or.inr h))))
    go_enter Try.func45, Try.ntmps45
    go_upto_region 1 with (fail)
    obtain ⟨W1, hW1⟩ : ∃ W1, w.alloc (.cells #[.int .i64 params, .int .i64 r, .int .i64 sl, .slice A bs.length c] 51) = W1 := ⟨_, rfl⟩
    have hbW1 : Below w.heap.size w W1 := by rw [← hW1]; exact (Below.refl _ _).alloc (Nat.le_refl _) _
    have hsW1 : Str W1 w.heap.size 51 [.int .i64 params, .int .i64 r, .int .i64 sl, .slice A bs.length c] := by rw [← hW1]; exact World.alloc_heap_new w _
    rw [hW1]
    clear hW1
    have m0 : W1.cell? ⟨w.heap.size, 0, none⟩ = some (.int .i64 params) := hsW1.cell 0
    have m1 : W1.cell? ⟨w.heap.size, 1, none⟩ = some (.int .i64 r) := hsW1.cell 1
    have m2 : W1.cell? ⟨w.heap.size, 2, none⟩ = some (.int .i64 sl) := hsW1.cell 2
    have m3 : W1.cell? ⟨w.heap.size, 3, none⟩ = some (.slice A bs.length c) := hsW1.cell 3
    have HB1 := Lib.hid hbW1
    have HX := Lib.hid (hA.keep hbW1)
    clear hsW1 hbW1 hA
    go_wp2_with fail
    go_ret
    exact ⟨ret_num HW.out.symm, HB1.out⟩
  have g5 : sl ≤ 16384 := by omega
  clear h
  have hp : ¬ ((params < 0 ∨ 4 < params) ∨ (r < 4 ∨ 16 < r) ∨ (sl < 0 ∨ 16384 < sl)) := by omega
  by_cases h3 : bs.length = 0
  · have HW := Lib.hid (show limQ params r sl bs = 14 by unfold limQ; rw [if_neg hp, if_pos h3])
    have e0 : ((bs.length : Int) == 0) = true := beq_iff_eq.2 (by omega)
    clear h3 hp
    go_enter Try.func45, Try.ntmps45
    go_upto_region 1 with (fail)
    obtain ⟨W1, hW1⟩ : ∃ W1, w.alloc (.cells #[.int .i64 params, .int .i64 r, .int .i64 sl, .slice A bs.length c] 51) = W1 := ⟨_, rfl⟩
    have hbW1 : Below w.heap.size w W1 := by rw [← hW1]; exact (Below.refl _ _).alloc (Nat.le_refl _) _
    have hsW1 : Str W1 w.heap.size 51 [.int .i64 params, .int .i64 r, .int .i64 sl, .slice A bs.length c] := by rw [← hW1]; exact World.alloc_heap_new w _
    rw [hW1]
    clear hW1
    have m0 : W1.cell? ⟨w.heap.size, 0, none⟩ = some (.int .i64 params) := hsW1.cell 0
    have m1 : W1.cell? ⟨w.heap.size, 1, none⟩ = some (.int .i64 r) := hsW1.cell 1
    have m2 : W1.cell? ⟨w.heap.size, 2, none⟩ = some (.int .i64 sl) := hsW1.cell 2
    have m3 : W1.cell? ⟨w.heap.size, 3, none⟩ = some (.slice A bs.length c) := hsW1.cell 3
    have HB1 := Lib.hid hbW1
    have HX := Lib.hid (hA.keep hbW1)
    clear hsW1 hbW1 hA
    go_wp2_with fail
    go_ret
    exact ⟨ret_num HW.out.symm, HB1.out⟩
  have e0 : ((bs.length : Int) == 0) = false := beq_eq_false_iff_ne.2 (by omega)
  by_cases h4 : 512 < bs.length
  · have HW := Lib.hid (show limQ params r sl bs = 2 by unfold limQ; rw [if_neg hp, if_neg h3, if_pos h4])
    clear h3 hp
    go_enter Try.func45, Try.ntmps45
    go_upto_region 1 with (fail)
    obtain ⟨W1, hW1⟩ : ∃ W1, w.alloc (.cells #[.int .i64 params, .int .i64 r, .int .i64 sl, .slice A bs.length c] 51) = W1 := ⟨_, rfl⟩
    have hbW1 : Below w.heap.size w W1 := by rw [← hW1]; exact (Below.refl _ _).alloc (Nat.le_refl _) _
    have hsW1 : Str W1 w.heap.size 51 [.int .i64 params, .int .i64 r, .int .i64 sl, .slice A bs.length c] := by rw [← hW1]; exact World.alloc_heap_new w _
    rw [hW1]
    clear hW1
    have m0 : W1.cell? ⟨w.heap.size, 0, none⟩ = some (.int .i64 params) := hsW1.cell 0
    have m1 : W1.cell? ⟨w.heap.size, 1, none⟩ = some (.int .i64 r) := hsW1.cell 1
    have m2 : W1.cell? ⟨w.heap.size, 2, none⟩ = some (.int .i64 sl) := hsW1.cell 2
    have m3 : W1.cell? ⟨w.heap.size, 3, none⟩ = some (.slice A bs.length c) := hsW1.cell 3
    have HB1 := Lib.hid hbW1
    have HX := Lib.hid (hA.keep hbW1)
    clear hsW1 hbW1 hA
    go_wp2_with fail
    go_ret
    exact ⟨ret_num HW.out.symm, HB1.out⟩
  have HP := Lib.hid (show limQ params r sl bs = if 65536 < uptoQ bs bs.length then 2 else 0 by unfold limQ; rw [if_neg hp, if_neg h3, if_neg h4])
  have h4 : bs.length ≤ 512 := by omega
  clear h3 hp
  go_enter Try.func45, Try.ntmps45
  go_upto_region 1 with (fail)
  obtain ⟨W1, hW1⟩ : ∃ W1, w.alloc (.cells #[.int .i64 params, .int .i64 r, .int .i64 sl, .slice A bs.length c] 51) = W1 := ⟨_, rfl⟩
  have hbW1 : Below w.heap.size w W1 := by rw [← hW1]; exact (Below.refl _ _).alloc (Nat.le_refl _) _
  have hsW1 : Str W1 w.heap.size 51 [.int .i64 params, .int .i64 r, .int .i64 sl, .slice A bs.length c] := by rw [← hW1]; exact World.alloc_heap_new w _
  rw [hW1]
  clear hW1
  have m0 : W1.cell? ⟨w.heap.size, 0, none⟩ = some (.int .i64 params) := hsW1.cell 0
  have m1 : W1.cell? ⟨w.heap.size, 1, none⟩ = some (.int .i64 r) := hsW1.cell 1
  have m2 : W1.cell? ⟨w.heap.size, 2, none⟩ = some (.int .i64 sl) := hsW1.cell 2
  have m3 : W1.cell? ⟨w.heap.size, 3, none⟩ = some (.slice A bs.length c) := hsW1.cell 3
  have HB1 := Lib.hid hbW1
  have HX := Lib.hid (hA.keep hbW1)
  clear hsW1 hbW1 hA
  go_wp2_with fail
  go_loopw [3, 44] (fun t i wr => ∃ k : Nat, k ≤ bs.length ∧ i = .int .i64 k ∧ t = .int .i64 (uptoQ bs k : Nat) ∧ Below W1.heap.size W1 wr) (fun _ i _ => bs.length - (intOf i).toNat)
  case atStart => exact ⟨0, by omega, rfl, by rw [uptoQ_zero]; rfl, Below.refl _ _⟩
  case round =>
    obtain ⟨k, hk, rfl, rfl, hb⟩ := hrel
    obtain ⟨wo, rfl⟩ : ∃ wo : World, wo = wr := ⟨_, rfl⟩
    have HB := Lib.hid hb
    clear hb
    by_cases hlt : k < bs.length
    · obtain ⟨A', c', b, o, e, q1, q2, q3, q4⟩ := HX.out.keep HB.out
      injection e with e1 _ e3
      subst e1 e3
      have e1 := q3 (by omega)
      subst e1
      obtain ⟨p0, c0, p4, c4, r0, r1, r2, r3, r4, r5, _, _⟩ := pblock_rows (q4 k hlt)
      obtain ⟨s1, s2⟩ := HWF.out.sizes bs[k] (List.getElem_mem _)
      have hus := HWF.out.upto (k + 1) (by omega)
      rw [uptoQ_succ hlt] at hus
      have HUS := Lib.hid (uptoQ_succ hlt)
      have HBA := Lib.hid (HB.out.alloc HB.out.size (.cells #[.slice p0 bs[k].ins.length c0, .int .i64 bs[k].fin.op, .int .i64 bs[k].fin.a, .int .i64 bs[k].fin.b, .slice p4 bs[k].fin.to.length c4, .int .i32 bs[k].fin.imm] 45))
      clear q4 q3
      unfold sizeQ at hus HUS
      generalize bs[k].ins.length = y at *
      generalize bs[k].fin.to.length = z4 at *
      generalize bs[k].fin.op = z2 at *
      generalize bs[k].fin.a = za at *
      generalize bs[k].fin.b = zb at *
      generalize bs[k].fin.imm = z5 at *
      generalize uptoQ bs k = u at *
      go_wp2
      go_roundw
      case rel => exact ⟨k + 1, by omega, by go_num, by rw [HUS.out]; go_num, HBA.out⟩
      case measure => simp [intOf]; omega
    · obtain rfl : k = bs.length := by omega
      by_cases hm : 65536 < uptoQ bs bs.length
      · have HW := Lib.hid (show limQ params r sl bs = 2 by rw [HP.out, if_pos hm])
        generalize uptoQ bs bs.length = u at *
        go_wp2_with fail
        go_ret
        exact ⟨ret_num HW.out.symm, HB1.out.trans (HB.out.mono HB1.out.size)⟩
      · have HW := Lib.hid (show limQ params r sl bs = 0 by rw [HP.out, if_neg hm])
        generalize uptoQ bs bs.length = u at *
        have hm : u ≤ 65536 := by omega
        go_wp2_with fail
        go_ret
        exact ⟨ret_num HW.out.symm, HB1.out.trans (HB.out.mono HB1.out.size)⟩
end Go.Proofs.Ytdidacjmcafcpaa.Ph
