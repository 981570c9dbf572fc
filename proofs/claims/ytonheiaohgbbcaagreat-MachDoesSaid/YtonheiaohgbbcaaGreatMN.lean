/- Stage 7: what is wrong with a block's parts (without phis), and with machine code. -/
import Derived.Test.YtonheiaohgbbcaaGreatML
import Derived.Test.YtonheiaohgbbcaaGreatHeld
namespace Go.Proofs.YtonheiaohgbbcaaGreat.Mc
open Go.ChangeShapes Go.WideShapes Go.ChangeAt Go.RowKit Go.Proofs.YtonheiaohgbbcaaGreat.Mem Go.Proofs.YtonheiaohgbbcaaGreat.Kc Go.Proofs.YtonheiaohgbbcaaGreat.Pl Go.Proofs.YtonheiaohgbbcaaGreat.Mw Go.Proofs.YtonheiaohgbbcaaGreat.Gr Go.Proofs.YtonheiaohgbbcaaGreat.Gn Go.Proofs.YtonheiaohgbbcaaGreat.Gc Go.Proofs.YtonheiaohgbbcaaGreat.Br
set_option linter.unusedVariables false
set_option linter.unusedSimpArgs false
theorem make_set (n : Int) (w : World) : (Instr.makeMap 140 (some (.int .i64 n))).run Tryz.prog w = .ok (.map (some w.heap.size)) (w.alloc (.map #[] 0)) := by kernel_rfl
/-- What is wrong first with the instructions from one on, and with the end. -/
def tailE (blocks : Int) (f : PEnd) : Nat → List PMach → Int × Int
  | k, [] => (endE f blocks, k)
  | k, i :: l => if insM i = 0 then tailE blocks f (k + 1) l else (insM i, k)
theorem tailE_go {blocks : Int} {f : PEnd} {l : List PMach} {k : Nat} (hk : k < l.length) (h : insM l[k] = 0) : tailE blocks f k (l.drop k) = tailE blocks f (k + 1) (l.drop (k + 1)) := by
  rw [List.drop_eq_getElem_cons hk]
  exact if_pos h
theorem tailE_no {blocks : Int} {f : PEnd} {l : List PMach} {k : Nat} (hk : k < l.length) (h : insM l[k] ≠ 0) : tailE blocks f k (l.drop k) = (insM l[k], (k : Int)) := by
  rw [List.drop_eq_getElem_cons hk]
  exact if_neg h
/-- What lies in memory of an instruction, as it is handed on. -/
theorem mach_cells {w : World} {b o : Nat} {i : PMach} (h : MachAt w b o i) : ∃ A k, w.cell? ⟨b, o + 7, none⟩ = some (.slice A i.args.length k) ∧ Ints w (.slice A i.args.length k) i.args := by
  obtain ⟨_, _, _, _, _, _, _, v, h1, h2⟩ := h
  have h3 := h2
  obtain ⟨A, k, rfl, _⟩ := h3
  exact ⟨A, k, h1, h2⟩
set_option maxRecDepth 100000 in
set_option maxHeartbeats 4000000 in
theorem parts_any (w : World) (x : PMB) (p0 p1 p5 : Option Addr) (n0 c0 c1 c5 : Nat) (blocks : Int) (h0 : n0 = 0) (h1 : RowAt w 8 MachAt (.slice p1 x.ins.length c1) x.ins) (h5 : Ints w (.slice p5 x.fin.to.length c5) x.fin.to) (hl : x.ins.length ≤ 100000)
    (hi : ∀ i ∈ x.ins, i.args.length ≤ 100000 ∧ InW i.imm) :
    Calls Tryz.prog 62 #[.agg #[.slice p0 n0 c0, .slice p1 x.ins.length c1, .int .i64 x.fin.op, .int .i64 x.fin.a, .int .i64 x.fin.b, .slice p5 x.fin.to.length c5, .int .i32 x.fin.imm], .int .i64 blocks] w fun en w' => en = .returned (.tuple #[.int .i64 (tailE blocks x.fin 0 x.ins).1, .int .i64 (tailE blocks x.fin 0 x.ins).2]) ∧ Below w.heap.size w w' := by
  subst h0
  have H1 := Lib.hid h1
  have H5 := Lib.hid h5
  have HI := Lib.hid hi
  have hmk := make_set
  clear h1 h5 hi
  obtain ⟨rr, hrr⟩ : ∃ rr, tailE blocks x.fin 0 x.ins = rr := ⟨_, rfl⟩
  have HRR := Lib.hid hrr
  rw [hrr]
  obtain ⟨re, rp⟩ := rr
  clear hrr
  go_enter Tryz.func62, Tryz.ntmps62
  go_upto_region 1 with (fail)
  obtain ⟨W, hW⟩ : ∃ W, w.alloc (.cells #[.slice p0 0 c0, .slice p1 x.ins.length c1, .int .i64 x.fin.op, .int .i64 x.fin.a, .int .i64 x.fin.b, .slice p5 x.fin.to.length c5, .int .i32 x.fin.imm] 67) = W := ⟨_, rfl⟩
  have hbW : Below w.heap.size w W := by rw [← hW]; exact (Below.refl _ _).alloc (Nat.le_refl _) _
  have hsW : Str W w.heap.size 67 [.slice p0 0 c0, .slice p1 x.ins.length c1, .int .i64 x.fin.op, .int .i64 x.fin.a, .int .i64 x.fin.b, .slice p5 x.fin.to.length c5, .int .i32 x.fin.imm] := by rw [← hW]; exact World.alloc_heap_new w _
  rw [hW]
  clear hW
  have m0 : W.cell? ⟨w.heap.size, 0, none⟩ = some (.slice p0 0 c0) := hsW.cell 0
  have m1 : W.cell? ⟨w.heap.size, 1, none⟩ = some (.slice p1 x.ins.length c1) := hsW.cell 1
  have m2 : W.cell? ⟨w.heap.size, 2, none⟩ = some (.int .i64 x.fin.op) := hsW.cell 2
  have m3 : W.cell? ⟨w.heap.size, 3, none⟩ = some (.int .i64 x.fin.a) := hsW.cell 3
  have m4 : W.cell? ⟨w.heap.size, 4, none⟩ = some (.int .i64 x.fin.b) := hsW.cell 4
  have m5 : W.cell? ⟨w.heap.size, 5, none⟩ = some (.slice p5 x.fin.to.length c5) := hsW.cell 5
  have m6 : W.cell? ⟨w.heap.size, 6, none⟩ = some (.int .i32 x.fin.imm) := hsW.cell 6
  have HBW := Lib.hid hbW
  have HSW := Lib.hid hsW
  clear hbW hsW
  go_upto_region 2 with (fail)
  obtain ⟨W2, hW2⟩ : ∃ W2, W.alloc (.map #[] 0) = W2 := ⟨_, rfl⟩
  rw [hW2]
  have hb2 : Below W.heap.size W W2 := by rw [← hW2]; exact (Below.refl _ _).alloc (Nat.le_refl _) _
  have HS2 := Lib.hid (HSW.out.below hb2)
  have HB2 := Lib.hid (HBW.out.trans (hb2.mono HBW.out.size))
  clear hW2 hb2 m0 m1 m2 m3 m4 m5 m6 HSW HBW
  have m0 : W2.cell? ⟨w.heap.size, 0, none⟩ = some (.slice p0 0 c0) := HS2.out.cell 0
  have m1 : W2.cell? ⟨w.heap.size, 1, none⟩ = some (.slice p1 x.ins.length c1) := HS2.out.cell 1
  go_wp2_with fail
  go_loopw [7, 8, 9, 20] (fun _ _ _ j wr => j = .int .i64 0 ∧ wr = W2) (fun _ _ _ j _ => 0)
  case atStart => exact ⟨rfl, rfl⟩
  case round =>
    obtain ⟨rfl, hw⟩ := hrel
    obtain rfl : W2 = wr := hw.symm
    clear hw
    go_wp2_with fail
    go_loopw [10, 11, 12, 41] (fun _ _ _ j wr => ∃ k : Nat, k ≤ x.ins.length ∧ j = .int .i64 k ∧ tailE blocks x.fin k (x.ins.drop k) = (re, rp) ∧ Below w.heap.size w wr ∧ Below W2.heap.size W2 wr) (fun _ _ _ j _ => x.ins.length - (intOf j).toNat)
    case atStart => exact ⟨0, Nat.zero_le _, rfl, HRR.out, HB2.out, Below.refl _ _⟩
    case round =>
      obtain ⟨k, hk, rfl, ht, hb, hb'⟩ := hrel
      have HT := Lib.hid ht
      have HB := Lib.hid hb
      have HB2 := Lib.hid hb'
      have HS := Lib.hid (HS2.out.below hb')
      clear ht hb hb'
      by_cases hlt : k < x.ins.length
      · obtain ⟨A', c', b, o, e, q1, q2, q3, q4⟩ := H1.out.kept (MachAt.keep HB.out)
        injection e with e1 _ e3
        subst e1 e3
        have e1 := q3 (by omega)
        subst e1
        have hm := q4 k hlt
        obtain ⟨Ai, ki, r7, hia⟩ := mach_cells hm
        obtain ⟨r0, r1, r2, r3, r4, r5, r6, _⟩ := hm
        have HIA := Lib.hid hia
        have HII := Lib.hid (HI.out x.ins[k] (List.getElem_mem _))
        have HGO := Lib.hid (fun h => tailE_go (blocks := blocks) (f := x.fin) hlt h)
        have HNO := Lib.hid (fun h => tailE_no (blocks := blocks) (f := x.fin) hlt h)
        clear q3 q4 hia
        generalize x.ins[k] = i at *
        go_upto_region 13 with (fail)
        obtain ⟨W3, hW3⟩ : ∃ W3, wr.alloc (.cells #[.int .i64 i.op, .int .i64 i.d, .int .i64 i.e, .int .i64 i.a, .int .i64 i.b, .int .i64 i.c, .int .i32 i.imm, .slice Ai i.args.length ki] 40) = W3 := ⟨_, rfl⟩
        have hbW3 : Below wr.heap.size wr W3 := by rw [← hW3]; exact (Below.refl _ _).alloc (Nat.le_refl _) _
        have hsW3 : Str W3 wr.heap.size 40 [.int .i64 i.op, .int .i64 i.d, .int .i64 i.e, .int .i64 i.a, .int .i64 i.b, .int .i64 i.c, .int .i32 i.imm, .slice Ai i.args.length ki] := by rw [← hW3]; exact World.alloc_heap_new wr _
        rw [hW3]
        clear hW3
        have HBA := Lib.hid (HB.out.trans (hbW3.mono HB.out.size))
        have HBB := Lib.hid (HB2.out.trans (hbW3.mono HB2.out.size))
        have HIA3 := Lib.hid (HIA.out.keep hbW3)
        have m0 : W3.cell? ⟨wr.heap.size, 0, none⟩ = some (.int .i64 i.op) := hsW3.cell 0
        have m1 : W3.cell? ⟨wr.heap.size, 1, none⟩ = some (.int .i64 i.d) := hsW3.cell 1
        have m2 : W3.cell? ⟨wr.heap.size, 2, none⟩ = some (.int .i64 i.e) := hsW3.cell 2
        have m3 : W3.cell? ⟨wr.heap.size, 3, none⟩ = some (.int .i64 i.a) := hsW3.cell 3
        have m4 : W3.cell? ⟨wr.heap.size, 4, none⟩ = some (.int .i64 i.b) := hsW3.cell 4
        have m5 : W3.cell? ⟨wr.heap.size, 5, none⟩ = some (.int .i64 i.c) := hsW3.cell 5
        have m6 : W3.cell? ⟨wr.heap.size, 6, none⟩ = some (.int .i32 i.imm) := hsW3.cell 6
        have m7 : W3.cell? ⟨wr.heap.size, 7, none⟩ = some (.slice Ai i.args.length ki) := hsW3.cell 7
        clear hbW3 hsW3 r0 r1 r2 r3 r4 r5 r6 r7
        go_wp2_with fail
        refine (instruction_any W3 i _ _ _ HII.out.2 HIA3.out (by have := HII.out.1; omega)).mono ?_
        rintro e' w4 ⟨rfl, hb4⟩
        have HBA := Lib.hid (HBA.out.trans (hb4.mono HBA.out.size))
        have HBB := Lib.hid (HBB.out.trans (hb4.mono HBB.out.size))
        clear hb4 m0 m1 m2 m3 m4 m5 m6 m7
        obtain ⟨q, hq⟩ : ∃ q, insM i = q := ⟨_, rfl⟩
        have HQ := Lib.hid hq
        rw [hq]
        clear hq
        by_cases hz : q = 0
        · have hz1 : (q != 0) = false := by rw [hz]; rfl
          have HN := Lib.hid (show tailE blocks x.fin (k + 1) (x.ins.drop (k + 1)) = (re, rp) by rw [← HGO.out (by rw [HQ.out]; exact hz)]; exact HT.out)
          clear hz
          go_wp2_with fail
          exact ⟨⟨k + 1, by omega, by go_num, HN.out, HBA.out, HBB.out⟩, by simp [intOf]; omega⟩
        · have hz1 : (q != 0) = true := by simp [hz]
          have HN := Lib.hid (show (q, (k : Int)) = (re, rp) by rw [← HT.out, HNO.out (by rw [HQ.out]; exact hz), HQ.out])
          clear hz
          go_wp2_with fail
          go_ret2
          have h9 := HN.out
          injection h9 with h9 h8
          exact ⟨by rw [← h9, ← h8]; rfl, HBA.out⟩
      · obtain rfl : k = x.ins.length := by omega
        have HN := Lib.hid (show (endE x.fin blocks, (x.ins.length : Int)) = (re, rp) by have h := HT.out; rw [List.drop_length] at h; exact h)
        have H5R := Lib.hid (H5.out.keep HB.out)
        have m0 : wr.cell? ⟨w.heap.size, 0, none⟩ = some (.slice p0 0 c0) := HS.out.cell 0
        have m1 : wr.cell? ⟨w.heap.size, 1, none⟩ = some (.slice p1 x.ins.length c1) := HS.out.cell 1
        have m2 : wr.cell? ⟨w.heap.size, 2, none⟩ = some (.int .i64 x.fin.op) := HS.out.cell 2
        have m3 : wr.cell? ⟨w.heap.size, 3, none⟩ = some (.int .i64 x.fin.a) := HS.out.cell 3
        have m4 : wr.cell? ⟨w.heap.size, 4, none⟩ = some (.int .i64 x.fin.b) := HS.out.cell 4
        have m5 : wr.cell? ⟨w.heap.size, 5, none⟩ = some (.slice p5 x.fin.to.length c5) := HS.out.cell 5
        have m6 : wr.cell? ⟨w.heap.size, 6, none⟩ = some (.int .i32 x.fin.imm) := HS.out.cell 6
        go_wp2_with fail
        refine region_heldC_wp (fun w' => w'.cell? ⟨w.heap.size, 0, none⟩ = some (.slice p0 0 c0) ∧ w'.cell? ⟨w.heap.size, 1, none⟩ = some (.slice p1 x.ins.length c1) ∧ w'.cell? ⟨w.heap.size, 2, none⟩ = some (.int .i64 x.fin.op) ∧ w'.cell? ⟨w.heap.size, 3, none⟩ = some (.int .i64 x.fin.a) ∧ w'.cell? ⟨w.heap.size, 4, none⟩ = some (.int .i64 x.fin.b) ∧ w'.cell? ⟨w.heap.size, 5, none⟩ = some (.slice p5 x.fin.to.length c5) ∧ w'.cell? ⟨w.heap.size, 6, none⟩ = some (.int .i32 x.fin.imm)) [0, 1, 2, 4, 5, 6, 7, 8] [0, 1, 2, 4, 5, 6, 3, 7, 8] (by kernel_rfl) (by kernel_rfl) (by kernel_rfl) rfl (by intro c a d v w h; cases d <;> exact h) ⟨m0, m1, m2, m3, m4, m5, m6⟩ ?_
        refine walkC_still _ ?u0 rfl rfl rfl ?uy0 ?_
        case uy0 => intro w hS; obtain ⟨m0, m1, m2, m3, m4, m5, m6⟩ := hS; go_simp; first | done | with_reducible rfl
        simp only [Act.put]
        refine walkC_still _ ?u1 rfl rfl rfl ?uy1 ?_
        case uy1 => intro w hS; obtain ⟨m0, m1, m2, m3, m4, m5, m6⟩ := hS; go_simp; first | done | with_reducible rfl
        simp only [Act.put]
        refine walkC_still _ ?u2 rfl rfl rfl ?uy2 ?_
        case uy2 => intro w hS; obtain ⟨m0, m1, m2, m3, m4, m5, m6⟩ := hS; go_simp; first | done | with_reducible rfl
        simp only [Act.put]
        refine walkC_still _ ?u4 rfl rfl rfl ?uy4 ?_
        case uy4 => intro w hS; obtain ⟨m0, m1, m2, m3, m4, m5, m6⟩ := hS; go_simp; first | done | with_reducible rfl
        simp only [Act.put]
        refine walkC_still _ ?u5 rfl rfl rfl ?uy5 ?_
        case uy5 => intro w hS; obtain ⟨m0, m1, m2, m3, m4, m5, m6⟩ := hS; go_simp; first | done | with_reducible rfl
        simp only [Act.put]
        refine walkC_still _ ?u6 rfl rfl rfl ?uy6 ?_
        case uy6 => intro w hS; obtain ⟨m0, m1, m2, m3, m4, m5, m6⟩ := hS; go_simp; first | done | with_reducible rfl
        simp only [Act.put]
        try simp only [List.setIfInBounds_toArray, List.set_cons_zero, List.set_cons_succ]
        refine walkC_does _ rfl rfl ?_
        go_wp2_with fail
        have HBD := Lib.hid ((Below.refl wr.heap.size wr).drew)
        refine (mend_any _ x.fin p5 x.fin.to.length c5 blocks (H5R.out.keep HBD.out)).mono ?_
        rintro e' w4 ⟨rfl, hb4⟩
        have HBE := Lib.hid (HBD.out.trans (hb4.mono HBD.out.size))
        clear hb4
        go_wp2_with fail
        refine behindC ⟨cell_keep HBE.out (Nat.le_refl _) m0, cell_keep HBE.out (Nat.le_refl _) m1, cell_keep HBE.out (Nat.le_refl _) m2, cell_keep HBE.out (Nat.le_refl _) m3, cell_keep HBE.out (Nat.le_refl _) m4, cell_keep HBE.out (Nat.le_refl _) m5, cell_keep HBE.out (Nat.le_refl _) m6⟩ ?_
        refine walkC_still _ ?u7 rfl rfl rfl ?uy7 ?_
        case uy7 => intro w hS; go_simp; first | done | with_reducible rfl
        simp only [Act.put]
        refine walkC_still _ ?u8 rfl rfl rfl ?uy8 ?_
        case uy8 => intro w hS; go_simp; first | done | with_reducible rfl
        simp only [Act.put]
        try simp only [List.setIfInBounds_toArray, List.set_cons_zero, List.set_cons_succ]
        refine walkC_nil ?_
        have h9 := HN.out
        injection h9 with h9 h8
        rw [h9, h8]
        go_wp2_with fail
        go_ret2
        exact ⟨rfl, HB.out.trans (HBE.out.mono HB.out.size)⟩
set_option maxRecDepth 100000 in
set_option maxHeartbeats 4000000 in
theorem indexphi_none (w : World) (A : Option Addr) (c : Nat) (f : Value) : Calls Tryz.prog 98 #[.slice A 0 c, f] w fun en w' => en = .returned (.int .i64 (-1)) ∧ w' = w := by
  go_enter Tryz.func98, Tryz.ntmps98
  go_wp2_with fail
  go_loopw [5, 8] (fun _ j wr => j = .int .i64 0 ∧ wr = w) (fun _ _ _ => 0)
  case atStart => exact ⟨rfl, rfl⟩
  case round =>
    obtain ⟨rfl, rfl⟩ := hrel
    go_wp2_with fail
    go_ret
    exact ⟨rfl, rfl⟩
theorem unlike_none (w : World) (A : Option Addr) (c : Nat) (b : Int) (P : Option Addr) (np cp : Nat) :
    Calls Tryz.prog 66 #[.slice A 0 c, .int .i64 b, .slice P np cp] w fun en w' => en = .returned (.int .i64 (-1)) ∧ Below w.heap.size w w' := by
  go_enter Tryz.func66, Tryz.ntmps66
  go_wp2_with fail
  refine (indexphi_none _ A c _).mono ?_
  rintro e' w2 ⟨rfl, rfl⟩
  go_wp2_with fail
  go_ret
  exact ⟨rfl, (((Below.refl _ _).alloc (Nat.le_refl _) _).alloc (by simp) _).alloc (by simp; omega) _⟩
end Go.Proofs.YtonheiaohgbbcaaGreat.Mc
