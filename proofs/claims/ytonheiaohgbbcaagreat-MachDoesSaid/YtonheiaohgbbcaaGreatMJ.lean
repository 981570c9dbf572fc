/- Stage 7: what mach says of ends and limits; machine code in memory. -/
import Derived.Test.YtonheiaohgbbcaaGreatMH
import Derived.Test.YtonheiaohgbbcaaGreatOrder
import Derived.Test.YtonheiaohgbbcaaGreatStruct
namespace Go.Proofs.YtonheiaohgbbcaaGreat.Mc
open Go.ChangeShapes Go.WideShapes Go.ChangeAt Go.RowKit Go.Proofs.YtonheiaohgbbcaaGreat.Mem Go.Proofs.YtonheiaohgbbcaaGreat.Kc Go.Proofs.YtonheiaohgbbcaaGreat.Pl Go.Proofs.YtonheiaohgbbcaaGreat.Mw Go.Proofs.YtonheiaohgbbcaaGreat.Gr Go.Proofs.YtonheiaohgbbcaaGreat.Gn Go.Proofs.YtonheiaohgbbcaaGreat.Gc
set_option linter.unusedVariables false
set_option linter.unusedSimpArgs false
theorem ret_intJ {k : IntKind} {a b : Int} (h : a = b) : Ending.returned (.int k a) = .returned (.int k b) := by rw [h]
set_option maxRecDepth 100000 in
set_option maxHeartbeats 4000000 in
theorem contains_any (w : World) (v : Value) (l : List Int) (hv : Ints w v l) (F : Nat) (x : Value) (q : Int → Bool) (hF : ∀ y : Value, (callFunc F #[y, x]).run Tryz.prog w = .ok (.enter F #[y, x]) w) (hq : ∀ y, Calls Tryz.prog F #[.int .i64 y, x] w fun en w' => en = .returned (.bool (q y)) ∧ w' = w) :
    Calls Tryz.prog 117 #[v, .func (.func F) #[] #[x]] w fun en w' => en = .returned (.bool (l.any q)) ∧ w' = w := by
  have H := Lib.hid (index_any w v l hv F x q hF hq)
  obtain ⟨A, c, rfl, _, _, _⟩ := hv
  clear hq hF
  go_enter Tryz.func117, Tryz.ntmps117
  go_wp2_with fail
  refine H.out.mono ?_
  rintro e' w' ⟨r, rfl, hr, rfl⟩
  cases hb : l.any q with
  | true =>
    have h0 : 0 ≤ r := hr.2 hb
    clear hr
    go_wp2_with fail
    go_ret
    exact ⟨ret_bool hb.symm, rfl⟩
  | false =>
    have h0 : r < 0 := by
      rcases Int.lt_or_le r 0 with h | h
      · exact h
      · rw [hr.1 h] at hb; cases hb
    clear hr
    go_wp2_with fail
    go_ret
    exact ⟨ret_bool (by rw [hb]; exact decide_eq_false (by omega)), rfl⟩
set_option maxRecDepth 100000 in
set_option maxHeartbeats 4000000 in
theorem mend_any (w : World) (e : PEnd) (A : Option Addr) (n k : Nat) (blocks : Int) (hv : Ints w (.slice A n k) e.to) :
    Calls Tryz.prog 92 #[.agg #[.int .i64 e.op, .int .i64 e.a, .int .i64 e.b, .slice A n k, .int .i32 e.imm], .int .i64 blocks] w fun en w' => en = .returned (.int .i64 (endE e blocks)) ∧ Below w.heap.size w w' := by
  have HV := Lib.hid hv
  have HN := Lib.hid (show n = e.to.length from by obtain ⟨_, _, e, _⟩ := hv; injection e)
  clear hv
  go_enter Tryz.func92, Tryz.ntmps92
  go_upto_region 2 with (fail)
  obtain ⟨W1, hW1⟩ : ∃ W1, (w.alloc (.cells #[.int .i64 e.op, .int .i64 e.a, .int .i64 e.b, .slice A n k, .int .i32 e.imm] 42)).alloc (.cells #[.int .i64 blocks] 3) = W1 := ⟨_, rfl⟩
  have hbW1 : Below w.heap.size w W1 := by rw [← hW1]; exact ((Below.refl _ _).alloc (Nat.le_refl _) _).alloc (by simp) _
  have hsW1 : Str W1 w.heap.size 42 [.int .i64 e.op, .int .i64 e.a, .int .i64 e.b, .slice A n k, .int .i32 e.imm] := by rw [← hW1]; exact Str.below (World.alloc_heap_new w _) ((Below.refl _ _).alloc (Nat.le_refl _) _)
  have htW1 : W1.cell? ⟨w.heap.size + 1, 0, none⟩ = some (.int .i64 blocks) := by
    have h : Str _ (w.alloc (.cells #[.int .i64 e.op, .int .i64 e.a, .int .i64 e.b, .slice A n k, .int .i32 e.imm] 42)).heap.size 3 [.int .i64 blocks] := World.alloc_heap_new (w.alloc (.cells #[.int .i64 e.op, .int .i64 e.a, .int .i64 e.b, .slice A n k, .int .i32 e.imm] 42)) _
    rw [hW1] at h
    simp only [World.size_alloc] at h
    exact h.cell 0
  rw [hW1]
  clear hW1
  have m0 : W1.cell? ⟨w.heap.size, 0, none⟩ = some (.int .i64 e.op) := hsW1.cell 0
  have m1 : W1.cell? ⟨w.heap.size, 1, none⟩ = some (.int .i64 e.a) := hsW1.cell 1
  have m2 : W1.cell? ⟨w.heap.size, 2, none⟩ = some (.int .i64 e.b) := hsW1.cell 2
  have m3 : W1.cell? ⟨w.heap.size, 3, none⟩ = some (.slice A n k) := hsW1.cell 3
  have m4 : W1.cell? ⟨w.heap.size, 4, none⟩ = some (.int .i32 e.imm) := hsW1.cell 4
  have HB1 := Lib.hid hbW1
  have HV1 := Lib.hid (HV.out.keep hbW1)
  have HT1 := Lib.hid htW1
  clear hsW1 hbW1 htW1
  go_wp2_with fail
  refine (mayend_any W1 e A n k).mono ?_
  rintro e' w2 ⟨rfl, hb2⟩
  have m0 : w2.cell? ⟨w.heap.size, 0, none⟩ = some (.int .i64 e.op) := cell_keep hb2 (Nat.le_refl _) m0
  have m1 : w2.cell? ⟨w.heap.size, 1, none⟩ = some (.int .i64 e.a) := cell_keep hb2 (Nat.le_refl _) m1
  have m2 : w2.cell? ⟨w.heap.size, 2, none⟩ = some (.int .i64 e.b) := cell_keep hb2 (Nat.le_refl _) m2
  have m3 : w2.cell? ⟨w.heap.size, 3, none⟩ = some (.slice A n k) := cell_keep hb2 (Nat.le_refl _) m3
  have m4 : w2.cell? ⟨w.heap.size, 4, none⟩ = some (.int .i32 e.imm) := cell_keep hb2 (Nat.le_refl _) m4
  have HB2 := Lib.hid (HB1.out.trans (hb2.mono HB1.out.size))
  have HV2 := Lib.hid (HV1.out.keep hb2)
  have HT2 := Lib.hid (cell_keep hb2 (Nat.le_refl _) HT1.out)
  clear hb2
  cases c1 : mayB7 e.op n with
  | false =>
    have C1 := Lib.hid (show mayB7 e.op e.to.length = false by rw [← HN.out]; exact c1)
    clear c1
    go_wp2_with fail
    go_ret
    refine ⟨?_, HB2.out⟩
    rw [show endE e blocks = 30 by unfold endE; rw [C1.out]; rfl]
    first | done | rfl
  | true =>
    have C1 := Lib.hid (show mayB7 e.op e.to.length = true by rw [← HN.out]; exact c1)
    clear c1
    go_wp2_with fail
    refine (needs_any w2 e A n k).mono ?_
    rintro e' w3 ⟨v3, rfl, ho3, hb3⟩
    have m0 : w3.cell? ⟨w.heap.size, 0, none⟩ = some (.int .i64 e.op) := cell_keep hb3 (Nat.le_refl _) m0
    have m1 : w3.cell? ⟨w.heap.size, 1, none⟩ = some (.int .i64 e.a) := cell_keep hb3 (Nat.le_refl _) m1
    have m2 : w3.cell? ⟨w.heap.size, 2, none⟩ = some (.int .i64 e.b) := cell_keep hb3 (Nat.le_refl _) m2
    have m3 : w3.cell? ⟨w.heap.size, 3, none⟩ = some (.slice A n k) := cell_keep hb3 (Nat.le_refl _) m3
    have m4 : w3.cell? ⟨w.heap.size, 4, none⟩ = some (.int .i32 e.imm) := cell_keep hb3 (Nat.le_refl _) m4
    have HB3 := Lib.hid (HB2.out.trans (hb3.mono HB2.out.size))
    have HV3 := Lib.hid (HV2.out.keep hb3)
    have HT3 := Lib.hid (cell_keep hb3 (Nat.le_refl _) HT2.out)
    have HO3 := Lib.hid (OwnInts.ints ho3)
    obtain ⟨A3, c3, rfl⟩ := own_form ho3
    clear hb3 ho3
    go_wp2_with fail
    refine (regs_any w3 _ _ HO3.out).mono ?_
    rintro e' w4 ⟨rfl, rfl⟩
    cases c2 : (needsL e).all regB with
    | false =>
      have C2 := Lib.hid c2
      clear c2
      go_wp2_with fail
      go_ret
      refine ⟨?_, HB3.out⟩
      rw [show endE e blocks = 31 by unfold endE; rw [C1.out, C2.out]; rfl]
      first | done | rfl
    | true =>
      have C2 := Lib.hid c2
      clear c2
      go_wp2_with fail
      refine (contains_any w4 _ _ HV3.out 115 (.pointer (some ⟨w.heap.size + 1, 0, none⟩)) (badTo blocks) (fun y => by kernel_rfl) (fun y => badto_any w4 y blocks _ HT3.out)).mono ?_
      rintro e' w5 ⟨rfl, rfl⟩
      cases c3' : e.to.any (badTo blocks) with
      | true =>
        have C3 := Lib.hid c3'
        clear c3'
        go_wp2_with fail
        go_ret
        refine ⟨?_, HB3.out⟩
        rw [show endE e blocks = 14 by unfold endE; rw [C1.out, C2.out, C3.out]; rfl]
        first | done | rfl
      | false =>
        have C3 := Lib.hid c3'
        clear c3'
        go_wp2_with fail
        go_ret
        refine ⟨?_, HB3.out⟩
        rw [show endE e blocks = 0 by unfold endE; rw [C1.out, C2.out, C3.out]; rfl]
        first | done | rfl
def MachAt (w : World) (b o : Nat) (i : PMach) : Prop :=
  w.cell? ⟨b, o, none⟩ = some (.int .i64 i.op) ∧ w.cell? ⟨b, o + 1, none⟩ = some (.int .i64 i.d) ∧ w.cell? ⟨b, o + 2, none⟩ = some (.int .i64 i.e) ∧ w.cell? ⟨b, o + 3, none⟩ = some (.int .i64 i.a) ∧ w.cell? ⟨b, o + 4, none⟩ = some (.int .i64 i.b) ∧
  w.cell? ⟨b, o + 5, none⟩ = some (.int .i64 i.c) ∧ w.cell? ⟨b, o + 6, none⟩ = some (.int .i32 i.imm) ∧ CellAt w b (o + 7) fun s => Ints w s i.args
def MBlockAt (w : World) (b o : Nat) (x : PMB) : Prop :=
  (CellAt w b o fun s => RowAt w 2 PhiAt s x.phis) ∧ (CellAt w b (o + 1) fun s => RowAt w 8 MachAt s x.ins) ∧ w.cell? ⟨b, o + 2, none⟩ = some (.int .i64 x.fin.op) ∧ w.cell? ⟨b, o + 3, none⟩ = some (.int .i64 x.fin.a) ∧
  w.cell? ⟨b, o + 4, none⟩ = some (.int .i64 x.fin.b) ∧ (CellAt w b (o + 5) fun s => Ints w s x.fin.to) ∧ w.cell? ⟨b, o + 6, none⟩ = some (.int .i32 x.fin.imm)
def MBlocksAt (w : World) (v : Value) (l : List PMB) : Prop := RowAt w 7 MBlockAt v l
theorem MachAt.keep {w w' : World} (hb : Below w.heap.size w w') (b o : Nat) (i : PMach) (h : MachAt w b o i) : MachAt w' b o i :=
  ⟨cell_keep hb (Nat.le_refl _) h.1, cell_keep hb (Nat.le_refl _) h.2.1, cell_keep hb (Nat.le_refl _) h.2.2.1, cell_keep hb (Nat.le_refl _) h.2.2.2.1, cell_keep hb (Nat.le_refl _) h.2.2.2.2.1, cell_keep hb (Nat.le_refl _) h.2.2.2.2.2.1, cell_keep hb (Nat.le_refl _) h.2.2.2.2.2.2.1, h.2.2.2.2.2.2.2.kept hb fun v hv => hv.keep hb⟩
theorem MBlockAt.keep {w w' : World} (hb : Below w.heap.size w w') (b o : Nat) (x : PMB) (h : MBlockAt w b o x) : MBlockAt w' b o x :=
  ⟨h.1.kept hb fun v hv => hv.kept (PhiAt.keep hb), h.2.1.kept hb fun v hv => hv.kept (MachAt.keep hb), cell_keep hb (Nat.le_refl _) h.2.2.1, cell_keep hb (Nat.le_refl _) h.2.2.2.1, cell_keep hb (Nat.le_refl _) h.2.2.2.2.1,
    h.2.2.2.2.2.1.kept hb fun v hv => hv.keep hb, cell_keep hb (Nat.le_refl _) h.2.2.2.2.2.2⟩
theorem MBlocksAt.keep {w w' : World} {v : Value} {l : List PMB} (h : MBlocksAt w v l) (hb : Below w.heap.size w w') : MBlocksAt w' v l := RowAt.kept h (MBlockAt.keep hb)
/-- A block's cells, and what lies behind its three slices. -/
theorem mblock_rows {w : World} {b o : Nat} {x : PMB} (h : MBlockAt w b o x) : ∃ p0 c0 p1 c1 p5 c5, w.cell? ⟨b, o, none⟩ = some (.slice p0 x.phis.length c0) ∧ w.cell? ⟨b, o + 1, none⟩ = some (.slice p1 x.ins.length c1) ∧ w.cell? ⟨b, o + 2, none⟩ = some (.int .i64 x.fin.op) ∧
    w.cell? ⟨b, o + 3, none⟩ = some (.int .i64 x.fin.a) ∧ w.cell? ⟨b, o + 4, none⟩ = some (.int .i64 x.fin.b) ∧ w.cell? ⟨b, o + 5, none⟩ = some (.slice p5 x.fin.to.length c5) ∧ w.cell? ⟨b, o + 6, none⟩ = some (.int .i32 x.fin.imm) ∧
    RowAt w 2 PhiAt (.slice p0 x.phis.length c0) x.phis ∧ RowAt w 8 MachAt (.slice p1 x.ins.length c1) x.ins ∧ Ints w (.slice p5 x.fin.to.length c5) x.fin.to := by
  obtain ⟨⟨v0, h0, g0⟩, ⟨v1, h1, g1⟩, h2, h3, h4, ⟨v5, h5, g5⟩, h6⟩ := h
  have e0 := g0
  have e1 := g1
  have e5 := g5
  obtain ⟨A0, c0, _, _, rfl, _⟩ := e0
  obtain ⟨A1, c1, _, _, rfl, _⟩ := e1
  obtain ⟨A5, c5, rfl, _⟩ := e5
  exact ⟨A0, c0, A1, c1, A5, c5, h0, h1, h2, h3, h4, h5, h6, g0, g1, g5⟩
def sizeM (x : PMB) : Nat := x.phis.length + x.ins.length + 1
def uptoM (bs : List PMB) (k : Nat) : Nat := ((bs.take k).map sizeM).sum
theorem uptoM_succ {bs : List PMB} {k : Nat} (h : k < bs.length) : uptoM bs (k + 1) = uptoM bs k + sizeM bs[k] := by
  unfold uptoM
  rw [List.take_succ_eq_append_getElem h, List.map_append, List.sum_append]; simp
theorem uptoM_zero (bs : List PMB) : uptoM bs 0 = 0 := by simp [uptoM]
/-- Machine code of sizes and numbers that can be. -/
structure WfM (bs : List PMB) : Prop where
  few : bs.length ≤ 100000
  sizes : ∀ x ∈ bs, x.phis.length ≤ 100000 ∧ x.ins.length ≤ 100000 ∧ x.fin.to.length ≤ 1000
  ins : ∀ x ∈ bs, ∀ i ∈ x.ins, i.args.length ≤ 100000 ∧ InI i.a ∧ InI i.b ∧ InI i.c ∧ InI i.d ∧ InI i.e ∧ InW i.imm
  phis : ∀ x ∈ bs, ∀ p ∈ x.phis, p.ins.length ≤ 100000 ∧ InI p.dst ∧ ∀ q ∈ p.ins, InI q.1 ∧ InI q.2
theorem WfM.upto {bs : List PMB} (h : WfM bs) : ∀ k, k ≤ bs.length → uptoM bs k ≤ 200001 * k
  | 0, _ => by rw [uptoM_zero]; omega
  | k + 1, hk => by
    have h1 := h.upto k (by omega)
    have h2 := h.sizes bs[k] (List.getElem_mem _)
    rw [uptoM_succ (by omega)]
    unfold sizeM
    omega
def limM (params : Int) (bs : List PMB) : Int := if params < 0 ∨ 4 < params then 1 else if bs.length = 0 then 14 else if 512 < bs.length then 2 else if 16384 < uptoM bs bs.length then 2 else 0
set_option maxRecDepth 100000 in
set_option maxHeartbeats 4000000 in
theorem limits_any (w : World) (params : Int) (A : Option Addr) (c : Nat) (bs : List PMB) (hA : MBlocksAt w (.slice A bs.length c) bs) (hwf : WfM bs) :
    Calls Tryz.prog 61 #[.agg #[.int .i64 params, .slice A bs.length c]] w fun en w' => en = .returned (.int .i64 (limM params bs)) ∧ Below w.heap.size w w' := by
  have HWF := Lib.hid hwf
  have hfew := hwf.few
  clear hwf
  by_cases h1 : params < 0
  · have HW := Lib.hid (show limM params bs = 1 from if_pos (Or.inl h1))
    go_enter Tryz.func61, Tryz.ntmps61
    go_upto_region 1 with (fail)
    obtain ⟨W1, hW1⟩ : ∃ W1, w.alloc (.cells #[.int .i64 params, .slice A bs.length c] 24) = W1 := ⟨_, rfl⟩
    have hbW1 : Below w.heap.size w W1 := by rw [← hW1]; exact (Below.refl _ _).alloc (Nat.le_refl _) _
    have hsW1 : Str W1 w.heap.size 24 [.int .i64 params, .slice A bs.length c] := by rw [← hW1]; exact World.alloc_heap_new w _
    rw [hW1]
    clear hW1
    have m0 : W1.cell? ⟨w.heap.size, 0, none⟩ = some (.int .i64 params) := hsW1.cell 0
    have m1 : W1.cell? ⟨w.heap.size, 1, none⟩ = some (.slice A bs.length c) := hsW1.cell 1
    have HB1 := Lib.hid hbW1
    have HX := Lib.hid (hA.keep hbW1)
    clear hsW1 hbW1 hA
    go_wp2_with fail
    go_ret
    exact ⟨ret_intJ HW.out.symm, HB1.out⟩
  · by_cases h2 : 4 < params
    · have HW := Lib.hid (show limM params bs = 1 from if_pos (Or.inr h2))
      have h1 : 0 ≤ params := by omega
      go_enter Tryz.func61, Tryz.ntmps61
      go_upto_region 1 with (fail)
      obtain ⟨W1, hW1⟩ : ∃ W1, w.alloc (.cells #[.int .i64 params, .slice A bs.length c] 24) = W1 := ⟨_, rfl⟩
      have hbW1 : Below w.heap.size w W1 := by rw [← hW1]; exact (Below.refl _ _).alloc (Nat.le_refl _) _
      have hsW1 : Str W1 w.heap.size 24 [.int .i64 params, .slice A bs.length c] := by rw [← hW1]; exact World.alloc_heap_new w _
      rw [hW1]
      clear hW1
      have m0 : W1.cell? ⟨w.heap.size, 0, none⟩ = some (.int .i64 params) := hsW1.cell 0
      have m1 : W1.cell? ⟨w.heap.size, 1, none⟩ = some (.slice A bs.length c) := hsW1.cell 1
      have HB1 := Lib.hid hbW1
      have HX := Lib.hid (hA.keep hbW1)
      clear hsW1 hbW1 hA
      go_wp2_with fail
      go_ret
      exact ⟨ret_intJ HW.out.symm, HB1.out⟩
    · have hp : ¬ (params < 0 ∨ 4 < params) := by omega
      have g1 : 0 ≤ params := by omega
      have g2 : params ≤ 4 := by omega
      by_cases h3 : bs.length = 0
      · have HW := Lib.hid (show limM params bs = 14 by unfold limM; rw [if_neg hp, if_pos h3])
        have e0 : ((bs.length : Int) == 0) = true := beq_iff_eq.2 (by omega)
        clear h3 h1 h2 hp
        go_enter Tryz.func61, Tryz.ntmps61
        go_upto_region 1 with (fail)
        obtain ⟨W1, hW1⟩ : ∃ W1, w.alloc (.cells #[.int .i64 params, .slice A bs.length c] 24) = W1 := ⟨_, rfl⟩
        have hbW1 : Below w.heap.size w W1 := by rw [← hW1]; exact (Below.refl _ _).alloc (Nat.le_refl _) _
        have hsW1 : Str W1 w.heap.size 24 [.int .i64 params, .slice A bs.length c] := by rw [← hW1]; exact World.alloc_heap_new w _
        rw [hW1]
        clear hW1
        have m0 : W1.cell? ⟨w.heap.size, 0, none⟩ = some (.int .i64 params) := hsW1.cell 0
        have m1 : W1.cell? ⟨w.heap.size, 1, none⟩ = some (.slice A bs.length c) := hsW1.cell 1
        have HB1 := Lib.hid hbW1
        have HX := Lib.hid (hA.keep hbW1)
        clear hsW1 hbW1 hA
        go_wp2_with fail
        go_ret
        exact ⟨ret_intJ HW.out.symm, HB1.out⟩
      · have e0 : ((bs.length : Int) == 0) = false := beq_eq_false_iff_ne.2 (by omega)
        by_cases h4 : 512 < bs.length
        · have HW := Lib.hid (show limM params bs = 2 by unfold limM; rw [if_neg hp, if_neg h3, if_pos h4])
          clear h3 h1 h2 hp
          go_enter Tryz.func61, Tryz.ntmps61
          go_upto_region 1 with (fail)
          obtain ⟨W1, hW1⟩ : ∃ W1, w.alloc (.cells #[.int .i64 params, .slice A bs.length c] 24) = W1 := ⟨_, rfl⟩
          have hbW1 : Below w.heap.size w W1 := by rw [← hW1]; exact (Below.refl _ _).alloc (Nat.le_refl _) _
          have hsW1 : Str W1 w.heap.size 24 [.int .i64 params, .slice A bs.length c] := by rw [← hW1]; exact World.alloc_heap_new w _
          rw [hW1]
          clear hW1
          have m0 : W1.cell? ⟨w.heap.size, 0, none⟩ = some (.int .i64 params) := hsW1.cell 0
          have m1 : W1.cell? ⟨w.heap.size, 1, none⟩ = some (.slice A bs.length c) := hsW1.cell 1
          have HB1 := Lib.hid hbW1
          have HX := Lib.hid (hA.keep hbW1)
          clear hsW1 hbW1 hA
          go_wp2_with fail
          go_ret
          exact ⟨ret_intJ HW.out.symm, HB1.out⟩
        · have HP := Lib.hid (show limM params bs = if 16384 < uptoM bs bs.length then 2 else 0 by unfold limM; rw [if_neg hp, if_neg h3, if_neg h4])
          have h4 : bs.length ≤ 512 := by omega
          clear h3 h1 h2 hp
          go_enter Tryz.func61, Tryz.ntmps61
          go_upto_region 1 with (fail)
          obtain ⟨W1, hW1⟩ : ∃ W1, w.alloc (.cells #[.int .i64 params, .slice A bs.length c] 24) = W1 := ⟨_, rfl⟩
          have hbW1 : Below w.heap.size w W1 := by rw [← hW1]; exact (Below.refl _ _).alloc (Nat.le_refl _) _
          have hsW1 : Str W1 w.heap.size 24 [.int .i64 params, .slice A bs.length c] := by rw [← hW1]; exact World.alloc_heap_new w _
          rw [hW1]
          clear hW1
          have m0 : W1.cell? ⟨w.heap.size, 0, none⟩ = some (.int .i64 params) := hsW1.cell 0
          have m1 : W1.cell? ⟨w.heap.size, 1, none⟩ = some (.slice A bs.length c) := hsW1.cell 1
          have HB1 := Lib.hid hbW1
          have HX := Lib.hid (hA.keep hbW1)
          clear hsW1 hbW1 hA
          go_wp2_with fail
          go_loopw [3, 28] (fun t i wr => ∃ k : Nat, k ≤ bs.length ∧ i = .int .i64 k ∧ t = .int .i64 (uptoM bs k : Nat) ∧ Below W1.heap.size W1 wr) (fun _ i _ => bs.length - (intOf i).toNat)
          case atStart => exact ⟨0, by omega, rfl, by rw [uptoM_zero]; rfl, Below.refl _ _⟩
          case round =>
            obtain ⟨k, hk, rfl, rfl, hb⟩ := hrel
            obtain ⟨wo, rfl⟩ : ∃ wo : World, wo = wr := ⟨_, rfl⟩
            have HB := Lib.hid hb
            clear hb
            by_cases hlt : k < bs.length
            · obtain ⟨A', c', b, o, e, q1, q2, q3, q4⟩ := HX.out.keep HB.out
              injection e with e1 _ e3
              subst e1 e3
              have e1 := q3 (by omega)
              subst e1
              obtain ⟨p0, c0, p1, c1, p5, c5, r0, r1, r2, r3, r4, r5, r6, _, _, _⟩ := mblock_rows (q4 k hlt)
              obtain ⟨s1, s2, s3⟩ := HWF.out.sizes bs[k] (List.getElem_mem _)
              have hus := HWF.out.upto (k + 1) (by omega)
              rw [uptoM_succ hlt] at hus
              have HUS := Lib.hid (uptoM_succ hlt)
              have HBA := Lib.hid (HB.out.alloc HB.out.size (.cells #[.slice p0 bs[k].phis.length c0, .slice p1 bs[k].ins.length c1, .int .i64 bs[k].fin.op, .int .i64 bs[k].fin.a, .int .i64 bs[k].fin.b, .slice p5 bs[k].fin.to.length c5, .int .i32 bs[k].fin.imm] 67))
              clear q4 q3
              unfold sizeM at hus HUS
              generalize bs[k].phis.length = x at *
              generalize bs[k].ins.length = y at *
              generalize bs[k].fin.to.length = z4 at *
              generalize bs[k].fin.op = z2 at *
              generalize bs[k].fin.a = za at *
              generalize bs[k].fin.b = zb at *
              generalize bs[k].fin.imm = z5 at *
              generalize uptoM bs k = u at *
              go_wp2
              go_roundw
              case rel => exact ⟨k + 1, by omega, by go_num, by rw [HUS.out]; go_num, HBA.out⟩
              case measure => simp [intOf]; omega
            · obtain rfl : k = bs.length := by omega
              by_cases hm : 16384 < uptoM bs bs.length
              · have HW := Lib.hid (show limM params bs = 2 by rw [HP.out, if_pos hm])
                generalize uptoM bs bs.length = u at *
                go_wp2_with fail
                go_ret
                exact ⟨ret_intJ HW.out.symm, HB1.out.trans (HB.out.mono HB1.out.size)⟩
              · have HW := Lib.hid (show limM params bs = 0 by rw [HP.out, if_neg hm])
                generalize uptoM bs bs.length = u at *
                have hm : u ≤ 16384 := by omega
                go_wp2_with fail
                go_ret
                exact ⟨ret_intJ HW.out.symm, HB1.out.trans (HB.out.mono HB1.out.size)⟩
end Go.Proofs.YtonheiaohgbbcaaGreat.Mc
