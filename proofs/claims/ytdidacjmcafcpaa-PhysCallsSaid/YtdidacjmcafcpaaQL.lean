/- Stage 12: what phys says of a block's parts and of all code. -/
import Derived.Test.YtdidacjmcafcpaaQK
namespace Go.Proofs.Ytdidacjmcafcpaa.Ph
open Go.ChangeShapes Go.WideShapes Go.ChangeAt Go.RowKit Go.Proofs.Ytdidacjmcafcpaa.Mem Go.Proofs.Ytdidacjmcafcpaa.Kc Go.Proofs.Ytdidacjmcafcpaa.Pl Go.Proofs.Ytdidacjmcafcpaa.Mw Go.Proofs.Ytdidacjmcafcpaa.Mc Go.Proofs.Ytdidacjmcafcpaa.Br Go.Proofs.Ytdidacjmcafcpaa.Gr
set_option linter.unusedVariables false
set_option linter.unusedSimpArgs false
def tailQ (r sl blocks : Int) (f : PEnd) : Nat → List PlIn → Int × Int
  | k, [] => (endQ f r blocks, k)
  | k, x :: l => if insQ x.i r sl = 0 then tailQ r sl blocks f (k + 1) l else (insQ x.i r sl, k)
theorem tailQ_go {r sl blocks : Int} {f : PEnd} {l : List PlIn} {k : Nat} (hk : k < l.length) (h : insQ l[k].i r sl = 0) : tailQ r sl blocks f k (l.drop k) = tailQ r sl blocks f (k + 1) (l.drop (k + 1)) := by
  rw [List.drop_eq_getElem_cons hk]
  exact if_pos h
theorem tailQ_no {r sl blocks : Int} {f : PEnd} {l : List PlIn} {k : Nat} (hk : k < l.length) (h : insQ l[k].i r sl ≠ 0) : tailQ r sl blocks f k (l.drop k) = (insQ l[k].i r sl, (k : Int)) := by
  rw [List.drop_eq_getElem_cons hk]
  exact if_neg h
set_option maxRecDepth 100000 in
set_option maxHeartbeats 4000000 in
theorem partsQ_any (w : World) (x : PPB) (p0 p4 : Option Addr) (c0 c4 : Nat) (r sl blocks : Int) (h1 : RowAt w 9 PlacedAt (.slice p0 x.ins.length c0) x.ins) (h5 : Ints w (.slice p4 x.fin.to.length c4) x.fin.to) (hl : x.ins.length ≤ 100000)
    (hi : ∀ y ∈ x.ins, y.i.args.length ≤ 100000 ∧ InW y.i.imm) :
    Calls Try.prog 46 #[.agg #[.slice p0 x.ins.length c0, .int .i64 x.fin.op, .int .i64 x.fin.a, .int .i64 x.fin.b, .slice p4 x.fin.to.length c4, .int .i32 x.fin.imm], .int .i64 r, .int .i64 sl, .int .i64 blocks] w fun en w' => en = .returned (.tuple #[.int .i64 (tailQ r sl blocks x.fin 0 x.ins).1, .int .i64 (tailQ r sl blocks x.fin 0 x.ins).2]) ∧ Below w.heap.size w w' := by
  have H1 := Lib.hid h1
  have H5 := Lib.hid h5
  have HI := Lib.hid hi
  clear h1 h5 hi
  obtain ⟨rr, hrr⟩ : ∃ rr, tailQ r sl blocks x.fin 0 x.ins = rr := ⟨_, rfl⟩
  have HRR := Lib.hid hrr
  rw [hrr]
  obtain ⟨re, rp⟩ := rr
  clear hrr
  go_enter Try.func46, Try.ntmps46
  go_upto_region 1 with (fail)
  obtain ⟨W, hW⟩ : ∃ W, w.alloc (.cells #[.slice p0 x.ins.length c0, .int .i64 x.fin.op, .int .i64 x.fin.a, .int .i64 x.fin.b, .slice p4 x.fin.to.length c4, .int .i32 x.fin.imm] 45) = W := ⟨_, rfl⟩
  have hbW : Below w.heap.size w W := by rw [← hW]; exact (Below.refl _ _).alloc (Nat.le_refl _) _
  have hsW : Str W w.heap.size 45 [.slice p0 x.ins.length c0, .int .i64 x.fin.op, .int .i64 x.fin.a, .int .i64 x.fin.b, .slice p4 x.fin.to.length c4, .int .i32 x.fin.imm] := by rw [← hW]; exact World.alloc_heap_new w _
  rw [hW]
  clear hW
  have m0 : W.cell? ⟨w.heap.size, 0, none⟩ = some (.slice p0 x.ins.length c0) := hsW.cell 0
  have m1 : W.cell? ⟨w.heap.size, 1, none⟩ = some (.int .i64 x.fin.op) := hsW.cell 1
  have m2 : W.cell? ⟨w.heap.size, 2, none⟩ = some (.int .i64 x.fin.a) := hsW.cell 2
  have m3 : W.cell? ⟨w.heap.size, 3, none⟩ = some (.int .i64 x.fin.b) := hsW.cell 3
  have m4 : W.cell? ⟨w.heap.size, 4, none⟩ = some (.slice p4 x.fin.to.length c4) := hsW.cell 4
  have m5 : W.cell? ⟨w.heap.size, 5, none⟩ = some (.int .i32 x.fin.imm) := hsW.cell 5
  have HB2 := Lib.hid hbW
  have HS2 := Lib.hid hsW
  clear hbW hsW
  go_wp2_with fail
  go_loopw [10, 11, 12, 16] (fun _ _ _ j wr => ∃ k : Nat, k ≤ x.ins.length ∧ j = .int .i64 k ∧ tailQ r sl blocks x.fin k (x.ins.drop k) = (re, rp) ∧ Below w.heap.size w wr ∧ Below W.heap.size W wr) (fun _ _ _ j _ => x.ins.length - (intOf j).toNat)
  case atStart => exact ⟨0, Nat.zero_le _, rfl, HRR.out, HB2.out, Below.refl _ _⟩
  case round =>
    obtain ⟨k, hk, rfl, ht, hb, hb'⟩ := hrel
    have HT := Lib.hid ht
    have HB := Lib.hid hb
    have HB2 := Lib.hid hb'
    have HS := Lib.hid (HS2.out.below hb')
    clear ht hb hb'
    by_cases hlt : k < x.ins.length
    · obtain ⟨A', c', b, o, e, q1, q2, q3, q4⟩ := H1.out.kept (PlacedAt.keep HB.out)
      injection e with e1 _ e3
      subst e1 e3
      have e1 := q3 (by omega)
      subst e1
      have hm := q4 k hlt
      obtain ⟨Ai, ki, r7, hia⟩ := placed_cells hm
      obtain ⟨r0, r1, r2, r3, r4, r5, r6, _, r8⟩ := hm
      have HIA := Lib.hid hia
      have HII := Lib.hid (HI.out x.ins[k] (List.getElem_mem _))
      have HGO := Lib.hid (fun h => tailQ_go (r := r) (sl := sl) (blocks := blocks) (f := x.fin) hlt h)
      have HNO := Lib.hid (fun h => tailQ_no (r := r) (sl := sl) (blocks := blocks) (f := x.fin) hlt h)
      clear q3 q4 hia
      generalize x.ins[k] = y at *
      go_upto_region 4 with (fail)
      obtain ⟨W3, hW3⟩ : ∃ W3, wr.alloc (.cells #[.int .i64 y.i.op, .int .i64 y.i.d, .int .i64 y.i.e, .int .i64 y.i.a, .int .i64 y.i.b, .int .i64 y.i.c, .int .i32 y.i.imm, .slice Ai y.i.args.length ki, .int .i64 y.fr] 47) = W3 := ⟨_, rfl⟩
      have hbW3 : Below wr.heap.size wr W3 := by rw [← hW3]; exact (Below.refl _ _).alloc (Nat.le_refl _) _
      have hsW3 : Str W3 wr.heap.size 47 [.int .i64 y.i.op, .int .i64 y.i.d, .int .i64 y.i.e, .int .i64 y.i.a, .int .i64 y.i.b, .int .i64 y.i.c, .int .i32 y.i.imm, .slice Ai y.i.args.length ki, .int .i64 y.fr] := by rw [← hW3]; exact World.alloc_heap_new wr _
      rw [hW3]
      clear hW3
      have HBA := Lib.hid (HB.out.trans (hbW3.mono HB.out.size))
      have HBB := Lib.hid (HB2.out.trans (hbW3.mono HB2.out.size))
      have HIA3 := Lib.hid (HIA.out.keep hbW3)
      have m0 : W3.cell? ⟨wr.heap.size, 0, none⟩ = some (.int .i64 y.i.op) := hsW3.cell 0
      have m1 : W3.cell? ⟨wr.heap.size, 1, none⟩ = some (.int .i64 y.i.d) := hsW3.cell 1
      have m2 : W3.cell? ⟨wr.heap.size, 2, none⟩ = some (.int .i64 y.i.e) := hsW3.cell 2
      have m3 : W3.cell? ⟨wr.heap.size, 3, none⟩ = some (.int .i64 y.i.a) := hsW3.cell 3
      have m4 : W3.cell? ⟨wr.heap.size, 4, none⟩ = some (.int .i64 y.i.b) := hsW3.cell 4
      have m5 : W3.cell? ⟨wr.heap.size, 5, none⟩ = some (.int .i64 y.i.c) := hsW3.cell 5
      have m6 : W3.cell? ⟨wr.heap.size, 6, none⟩ = some (.int .i32 y.i.imm) := hsW3.cell 6
      have m7 : W3.cell? ⟨wr.heap.size, 7, none⟩ = some (.slice Ai y.i.args.length ki) := hsW3.cell 7
      have m8 : W3.cell? ⟨wr.heap.size, 8, none⟩ = some (.int .i64 y.fr) := hsW3.cell 8
      clear hbW3 hsW3 r0 r1 r2 r3 r4 r5 r6 r7 r8
      go_wp2_with fail
      refine (insP_any W3 y.i _ _ r sl HIA3.out (by have := HII.out.1; omega) HII.out.2).mono ?_
      rintro e' w4 ⟨rfl, hb4⟩
      have HBA := Lib.hid (HBA.out.trans (hb4.mono HBA.out.size))
      have HBB := Lib.hid (HBB.out.trans (hb4.mono HBB.out.size))
      clear hb4 m0 m1 m2 m3 m4 m5 m6 m7 m8
      obtain ⟨q, hq⟩ : ∃ q, insQ y.i r sl = q := ⟨_, rfl⟩
      have HQ := Lib.hid hq
      rw [hq]
      clear hq
      by_cases hz : q = 0
      · have hz1 : (q != 0) = false := by rw [hz]; rfl
        have HN := Lib.hid (show tailQ r sl blocks x.fin (k + 1) (x.ins.drop (k + 1)) = (re, rp) by rw [← HGO.out (by rw [HQ.out]; exact hz)]; exact HT.out)
        clear hz
        go_wp2_with fail
        exact ⟨⟨k + 1, by omega, by go_num, HN.out, HBA.out, HBB.out⟩, by simp [intOf]; omega⟩
      · have hz1 : (q != 0) = true := by simp [hz]
        have HN := Lib.hid (show (q, (k : Int)) = (re, rp) by rw [← HT.out, HNO.out (by rw [HQ.out]; exact hz), HQ.out])
        clear hz
        go_wp2_with fail
        go_ret2
        have h9 := HN.out
        injection h9 with h9 h8
        exact ⟨by rw [← h9, ← h8]; rfl, HBA.out⟩
    · obtain rfl : k = x.ins.length := by omega
      have HN := Lib.hid (show (endQ x.fin r blocks, (x.ins.length : Int)) = (re, rp) by have h := HT.out; rw [List.drop_length] at h; exact h)
      have H5R := Lib.hid (H5.out.keep HB.out)
      have m0 : wr.cell? ⟨w.heap.size, 0, none⟩ = some (.slice p0 x.ins.length c0) := HS.out.cell 0
      have m1 : wr.cell? ⟨w.heap.size, 1, none⟩ = some (.int .i64 x.fin.op) := HS.out.cell 1
      have m2 : wr.cell? ⟨w.heap.size, 2, none⟩ = some (.int .i64 x.fin.a) := HS.out.cell 2
      have m3 : wr.cell? ⟨w.heap.size, 3, none⟩ = some (.int .i64 x.fin.b) := HS.out.cell 3
      have m4 : wr.cell? ⟨w.heap.size, 4, none⟩ = some (.slice p4 x.fin.to.length c4) := HS.out.cell 4
      have m5 : wr.cell? ⟨w.heap.size, 5, none⟩ = some (.int .i32 x.fin.imm) := HS.out.cell 5
      go_wp2_with fail
      refine region_heldC_wp (fun w' => w'.cell? ⟨w.heap.size, 0, none⟩ = some (.slice p0 x.ins.length c0) ∧ w'.cell? ⟨w.heap.size, 1, none⟩ = some (.int .i64 x.fin.op) ∧ w'.cell? ⟨w.heap.size, 2, none⟩ = some (.int .i64 x.fin.a) ∧ w'.cell? ⟨w.heap.size, 3, none⟩ = some (.int .i64 x.fin.b) ∧ w'.cell? ⟨w.heap.size, 4, none⟩ = some (.slice p4 x.fin.to.length c4) ∧ w'.cell? ⟨w.heap.size, 5, none⟩ = some (.int .i32 x.fin.imm)) [0, 1, 2, 3, 5, 6, 7, 8, 9] [0, 1, 2, 3, 5, 6, 7, 4, 8, 9] (by kernel_rfl) (by kernel_rfl) (by kernel_rfl) rfl (by intro c a d v w h; cases d <;> exact h) ⟨m0, m1, m2, m3, m4, m5⟩ ?_
      refine walkC_still _ ?u0 rfl rfl rfl ?uy0 ?_
      case uy0 => intro w hS; obtain ⟨m0, m1, m2, m3, m4, m5⟩ := hS; go_simp; first | done | with_reducible rfl
      simp only [Act.put]
      refine walkC_still _ ?u1 rfl rfl rfl ?uy1 ?_
      case uy1 => intro w hS; obtain ⟨m0, m1, m2, m3, m4, m5⟩ := hS; go_simp; first | done | with_reducible rfl
      simp only [Act.put]
      refine walkC_still _ ?u2 rfl rfl rfl ?uy2 ?_
      case uy2 => intro w hS; obtain ⟨m0, m1, m2, m3, m4, m5⟩ := hS; go_simp; first | done | with_reducible rfl
      simp only [Act.put]
      refine walkC_still _ ?u3 rfl rfl rfl ?uy3 ?_
      case uy3 => intro w hS; obtain ⟨m0, m1, m2, m3, m4, m5⟩ := hS; go_simp; first | done | with_reducible rfl
      simp only [Act.put]
      refine walkC_still _ ?u5 rfl rfl rfl ?uy5 ?_
      case uy5 => intro w hS; obtain ⟨m0, m1, m2, m3, m4, m5⟩ := hS; go_simp; first | done | with_reducible rfl
      simp only [Act.put]
      refine walkC_still _ ?u6 rfl rfl rfl ?uy6 ?_
      case uy6 => intro w hS; obtain ⟨m0, m1, m2, m3, m4, m5⟩ := hS; go_simp; first | done | with_reducible rfl
      simp only [Act.put]
      refine walkC_still _ ?u7 rfl rfl rfl ?uy7 ?_
      case uy7 => intro w hS; obtain ⟨m0, m1, m2, m3, m4, m5⟩ := hS; go_simp; first | done | with_reducible rfl
      simp only [Act.put]
      try simp only [List.setIfInBounds_toArray, List.set_cons_zero, List.set_cons_succ]
      refine walkC_does _ rfl rfl ?_
      go_wp2_with fail
      have HBD := Lib.hid ((Below.refl wr.heap.size wr).drew)
      refine (endP_any _ x.fin p4 c4 r blocks (H5R.out.keep HBD.out)).mono ?_
      rintro e' w4 ⟨rfl, hb4⟩
      have HBE := Lib.hid (HBD.out.trans (hb4.mono HBD.out.size))
      clear hb4
      go_wp2_with fail
      refine behindC ⟨cell_keep HBE.out (Nat.le_refl _) m0, cell_keep HBE.out (Nat.le_refl _) m1, cell_keep HBE.out (Nat.le_refl _) m2, cell_keep HBE.out (Nat.le_refl _) m3, cell_keep HBE.out (Nat.le_refl _) m4, cell_keep HBE.out (Nat.le_refl _) m5⟩ ?_
      refine walkC_still _ ?u8 rfl rfl rfl ?uy8 ?_
      case uy8 => intro w hS; go_simp; first | done | with_reducible rfl
      simp only [Act.put]
      refine walkC_still _ ?u9 rfl rfl rfl ?uy9 ?_
      case uy9 => intro w hS; go_simp; first | done | with_reducible rfl
      simp only [Act.put]
      try simp only [List.setIfInBounds_toArray, List.set_cons_zero, List.set_cons_succ]
      refine walkC_nil ?_
      have h9 := HN.out
      injection h9 with h9 h8
      rw [h9, h8]
      go_wp2_with fail
      go_ret2
      exact ⟨rfl, HB.out.trans (HBE.out.mono HB.out.size)⟩
def firstQ (r sl blocks : Int) : Nat → List PPB → Int × Int × Int
  | _, [] => (0, 0, 0)
  | k, x :: l => if (tailQ r sl blocks x.fin 0 x.ins).1 = 0 then firstQ r sl blocks (k + 1) l else ((tailQ r sl blocks x.fin 0 x.ins).1, (k : Int), (tailQ r sl blocks x.fin 0 x.ins).2)
def funcQ (params r sl : Int) (bs : List PPB) : Int × Int × Int := if limQ params r sl bs = 0 then firstQ r sl bs.length 0 bs else (limQ params r sl bs, 0, 0)
theorem firstQ_go {r sl blocks : Int} {l : List PPB} {k : Nat} (hk : k < l.length) (h : (tailQ r sl blocks l[k].fin 0 l[k].ins).1 = 0) : firstQ r sl blocks k (l.drop k) = firstQ r sl blocks (k + 1) (l.drop (k + 1)) := by
  rw [List.drop_eq_getElem_cons hk]
  exact if_pos h
theorem firstQ_no {r sl blocks : Int} {l : List PPB} {k : Nat} (hk : k < l.length) (h : (tailQ r sl blocks l[k].fin 0 l[k].ins).1 ≠ 0) : firstQ r sl blocks k (l.drop k) = ((tailQ r sl blocks l[k].fin 0 l[k].ins).1, (k : Int), (tailQ r sl blocks l[k].fin 0 l[k].ins).2) := by
  rw [List.drop_eq_getElem_cons hk]
  exact if_neg h
set_option maxRecDepth 100000 in
set_option maxHeartbeats 4000000 in
theorem funcQ_any (w : World) (params r sl : Int) (A : Option Addr) (c : Nat) (bs : List PPB) (hA : PBlocksAt w (.slice A bs.length c) bs) (hwf : WfQ bs) :
    Calls Try.prog 25 #[.agg #[.int .i64 params, .int .i64 r, .int .i64 sl, .slice A bs.length c]] w fun en w' => en = .returned (.tuple #[.int .i64 (funcQ params r sl bs).1, .int .i64 (funcQ params r sl bs).2.1, .int .i64 (funcQ params r sl bs).2.2]) ∧ Below w.heap.size w w' := by
  have HWF := Lib.hid hwf
  have hfew := hwf.few
  clear hwf
  obtain ⟨rr, hrr⟩ : ∃ rr, funcQ params r sl bs = rr := ⟨_, rfl⟩
  have HRR := Lib.hid hrr
  rw [hrr]
  obtain ⟨re, rb, rp⟩ := rr
  clear hrr
  go_enter Try.func25, Try.ntmps25
  go_upto_region 1 with (fail)
  obtain ⟨W, hW⟩ : ∃ W, w.alloc (.cells #[.int .i64 params, .int .i64 r, .int .i64 sl, .slice A bs.length c] 51) = W := ⟨_, rfl⟩
  have hbW : Below w.heap.size w W := by rw [← hW]; exact (Below.refl _ _).alloc (Nat.le_refl _) _
  have hsW : Str W w.heap.size 51 [.int .i64 params, .int .i64 r, .int .i64 sl, .slice A bs.length c] := by rw [← hW]; exact World.alloc_heap_new w _
  rw [hW]
  clear hW
  have m0 : W.cell? ⟨w.heap.size, 0, none⟩ = some (.int .i64 params) := hsW.cell 0
  have m1 : W.cell? ⟨w.heap.size, 1, none⟩ = some (.int .i64 r) := hsW.cell 1
  have m2 : W.cell? ⟨w.heap.size, 2, none⟩ = some (.int .i64 sl) := hsW.cell 2
  have m3 : W.cell? ⟨w.heap.size, 3, none⟩ = some (.slice A bs.length c) := hsW.cell 3
  have HB1 := Lib.hid hbW
  have HS1 := Lib.hid hsW
  have HX := Lib.hid (hA.keep hbW)
  clear hbW hsW hA
  go_wp2_with fail
  refine (limitsQ_any W params r sl A c bs HX.out HWF.out).mono ?_
  rintro e' W2 ⟨rfl, hb2⟩
  have HB2 := Lib.hid (HB1.out.trans (hb2.mono HB1.out.size))
  have HS2 := Lib.hid (HS1.out.below hb2)
  have HX2 := Lib.hid (HX.out.keep hb2)
  clear hb2 m0 m1 m2 m3
  have m0 : W2.cell? ⟨w.heap.size, 0, none⟩ = some (.int .i64 params) := HS2.out.cell 0
  have m1 : W2.cell? ⟨w.heap.size, 1, none⟩ = some (.int .i64 r) := HS2.out.cell 1
  have m2 : W2.cell? ⟨w.heap.size, 2, none⟩ = some (.int .i64 sl) := HS2.out.cell 2
  have m3 : W2.cell? ⟨w.heap.size, 3, none⟩ = some (.slice A bs.length c) := HS2.out.cell 3
  obtain ⟨q, hq⟩ : ∃ q, limQ params r sl bs = q := ⟨_, rfl⟩
  have HQ := Lib.hid hq
  rw [hq]
  clear hq
  by_cases hz : q = 0
  · have hz1 : (q != 0) = false := by rw [hz]; rfl
    have HN := Lib.hid (show firstQ r sl bs.length 0 bs = (re, rb, rp) by rw [← HRR.out]; exact (if_pos (by rw [HQ.out]; exact hz)).symm)
    clear hz
    go_wp2_with fail
    go_loopw [6, 7, 8, 9, 18] (fun _ _ _ _ j wr => ∃ k : Nat, k ≤ bs.length ∧ j = .int .i64 k ∧ firstQ r sl bs.length k (bs.drop k) = (re, rb, rp) ∧ Below w.heap.size w wr ∧ Below W2.heap.size W2 wr) (fun _ _ _ _ j _ => bs.length - (intOf j).toNat)
    case atStart => exact ⟨0, Nat.zero_le _, rfl, HN.out, HB2.out, Below.refl _ _⟩
    case round =>
      obtain ⟨k, hk, rfl, ht, hb, hb'⟩ := hrel
      have HT := Lib.hid ht
      have HB := Lib.hid hb
      have HBW := Lib.hid hb'
      have HS := Lib.hid (HS2.out.below hb')
      clear ht hb hb'
      by_cases hlt : k < bs.length
      · obtain ⟨A', c', b, o, e, q1, q2, q3, q4⟩ := HX2.out.keep HBW.out
        injection e with e1 _ e3
        subst e1 e3
        have e1 := q3 (by omega)
        subst e1
        obtain ⟨p0, c0, p4, c4, r0, r1, r2, r3, r4, r5, g1, g5⟩ := pblock_rows (q4 k hlt)
        have HG1 := Lib.hid g1
        have HG5 := Lib.hid g5
        have HSZ := Lib.hid (HWF.out.sizes bs[k] (List.getElem_mem _))
        have HIN := Lib.hid (HWF.out.ins bs[k] (List.getElem_mem _))
        have HGO := Lib.hid (fun h => firstQ_go (r := r) (sl := sl) (blocks := (bs.length : Int)) hlt h)
        have HNO := Lib.hid (fun h => firstQ_no (r := r) (sl := sl) (blocks := (bs.length : Int)) hlt h)
        clear q3 q4 g1 g5
        generalize bs[k] = x at *
        go_upto_region 7 with (fail)
        obtain ⟨W3, hW3⟩ : ∃ W3, wr.alloc (.cells #[.slice p0 x.ins.length c0, .int .i64 x.fin.op, .int .i64 x.fin.a, .int .i64 x.fin.b, .slice p4 x.fin.to.length c4, .int .i32 x.fin.imm] 45) = W3 := ⟨_, rfl⟩
        have hbW3 : Below wr.heap.size wr W3 := by rw [← hW3]; exact (Below.refl _ _).alloc (Nat.le_refl _) _
        have hsW3 : Str W3 wr.heap.size 45 [.slice p0 x.ins.length c0, .int .i64 x.fin.op, .int .i64 x.fin.a, .int .i64 x.fin.b, .slice p4 x.fin.to.length c4, .int .i32 x.fin.imm] := by rw [← hW3]; exact World.alloc_heap_new wr _
        rw [hW3]
        clear hW3
        have HBA := Lib.hid (HB.out.trans (hbW3.mono HB.out.size))
        have HBB := Lib.hid (HBW.out.trans (hbW3.mono HBW.out.size))
        have HG1 := Lib.hid (HG1.out.kept (PlacedAt.keep hbW3))
        have HG5 := Lib.hid (HG5.out.keep hbW3)
        have HS3 := Lib.hid (HS.out.below hbW3)
        have m0 : W3.cell? ⟨wr.heap.size, 0, none⟩ = some (.slice p0 x.ins.length c0) := hsW3.cell 0
        have m1 : W3.cell? ⟨wr.heap.size, 1, none⟩ = some (.int .i64 x.fin.op) := hsW3.cell 1
        have m2 : W3.cell? ⟨wr.heap.size, 2, none⟩ = some (.int .i64 x.fin.a) := hsW3.cell 2
        have m3 : W3.cell? ⟨wr.heap.size, 3, none⟩ = some (.int .i64 x.fin.b) := hsW3.cell 3
        have m4 : W3.cell? ⟨wr.heap.size, 4, none⟩ = some (.slice p4 x.fin.to.length c4) := hsW3.cell 4
        have m5 : W3.cell? ⟨wr.heap.size, 5, none⟩ = some (.int .i32 x.fin.imm) := hsW3.cell 5
        have n1 : W3.cell? ⟨w.heap.size, 1, none⟩ = some (.int .i64 r) := HS3.out.cell 1
        have n2 : W3.cell? ⟨w.heap.size, 2, none⟩ = some (.int .i64 sl) := HS3.out.cell 2
        have n3 : W3.cell? ⟨w.heap.size, 3, none⟩ = some (.slice (some ⟨b, o, none⟩) bs.length c) := HS3.out.cell 3
        clear hbW3 hsW3 r0 r1 r2 r3 r4 r5
        go_wp2_with fail
        refine (partsQ_any W3 x p0 p4 c0 c4 r sl bs.length HG1.out HG5.out HSZ.out.1 (fun y hy => ⟨(HIN.out y hy).1, (HIN.out y hy).2.2.2.2.2.2⟩)).mono ?_
        rintro e' w4 ⟨rfl, hb4⟩
        have HBA := Lib.hid (HBA.out.trans (hb4.mono HBA.out.size))
        have HBB := Lib.hid (HBB.out.trans (hb4.mono HBB.out.size))
        clear hb4 m0 m1 m2 m3 m4 m5 n1 n2 n3
        obtain ⟨⟨q1, q2⟩, hq⟩ : ∃ q, tailQ r sl bs.length x.fin 0 x.ins = q := ⟨_, rfl⟩
        have HQ := Lib.hid hq
        rw [hq]
        clear hq
        by_cases hz : q1 = 0
        · have hz1 : (q1 != 0) = false := by rw [hz]; rfl
          have HN := Lib.hid (show firstQ r sl bs.length (k + 1) (bs.drop (k + 1)) = (re, rb, rp) by rw [← HGO.out (by rw [HQ.out]; exact hz)]; exact HT.out)
          clear hz
          go_wp2_with fail
          exact ⟨⟨k + 1, by omega, by go_num, HN.out, HBA.out, HBB.out⟩, by simp [intOf]; omega⟩
        · have hz1 : (q1 != 0) = true := by simp [hz]
          have HN := Lib.hid (show (q1, (k : Int), q2) = (re, rb, rp) by rw [← HT.out, HNO.out (by rw [HQ.out]; exact hz), HQ.out])
          clear hz
          go_wp2_with fail
          go_ret3
          have h9 := HN.out
          injection h9 with h9 h8
          injection h8 with h8 h7
          exact ⟨by rw [← h9, ← h8, ← h7]; rfl, HBA.out⟩
      · obtain rfl : k = bs.length := by omega
        have HN := Lib.hid (show ((0 : Int), (0 : Int), (0 : Int)) = (re, rb, rp) by have h := HT.out; rw [List.drop_length] at h; exact h)
        have h9 := HN.out
        injection h9 with h9 h8
        injection h8 with h8 h7
        subst h9 h8 h7
        go_wp2_with fail
        go_ret3
        exact ⟨rfl, HB.out⟩
  · have hz1 : (q != 0) = true := by simp [hz]
    have HN := Lib.hid (show (q, (0 : Int), (0 : Int)) = (re, rb, rp) by rw [← HRR.out, ← HQ.out]; exact (if_neg (by rw [HQ.out]; exact hz)).symm)
    have h9 := HN.out
    injection h9 with h9 h8
    injection h8 with h8 h7
    subst h9 h8 h7
    clear hz
    go_wp2_with fail
    go_ret3
    exact ⟨rfl, HB2.out⟩
set_option maxRecDepth 100000 in
set_option maxHeartbeats 4000000 in
theorem rightQ_any (w : World) (params r sl : Int) (A : Option Addr) (c : Nat) (bs : List PPB) (hA : PBlocksAt w (.slice A bs.length c) bs) (hwf : WfQ bs) :
    Calls Try.prog 28 #[.agg #[.int .i64 params, .int .i64 r, .int .i64 sl, .slice A bs.length c]] w fun en w' => en = .returned (.bool ((funcQ params r sl bs).1 == 0)) ∧ Below w.heap.size w w' := by
  have HC := Lib.hid (fun (w' : World) (hb : Below w.heap.size w w') => funcQ_any w' params r sl A c bs (hA.keep hb) hwf)
  clear hA hwf
  obtain ⟨rr, hrr⟩ : ∃ rr, funcQ params r sl bs = rr := ⟨_, rfl⟩
  rw [hrr] at HC
  rw [hrr]
  obtain ⟨re, rb, rp⟩ := rr
  clear hrr
  go_enter Try.func28, Try.ntmps28
  go_upto_region 1 with (fail)
  obtain ⟨W, hW⟩ : ∃ W, w.alloc (.cells #[.int .i64 params, .int .i64 r, .int .i64 sl, .slice A bs.length c] 51) = W := ⟨_, rfl⟩
  have hbW : Below w.heap.size w W := by rw [← hW]; exact (Below.refl _ _).alloc (Nat.le_refl _) _
  have hsW : Str W w.heap.size 51 [.int .i64 params, .int .i64 r, .int .i64 sl, .slice A bs.length c] := by rw [← hW]; exact World.alloc_heap_new w _
  rw [hW]
  clear hW
  have m0 : W.cell? ⟨w.heap.size, 0, none⟩ = some (.int .i64 params) := hsW.cell 0
  have m1 : W.cell? ⟨w.heap.size, 1, none⟩ = some (.int .i64 r) := hsW.cell 1
  have m2 : W.cell? ⟨w.heap.size, 2, none⟩ = some (.int .i64 sl) := hsW.cell 2
  have m3 : W.cell? ⟨w.heap.size, 3, none⟩ = some (.slice A bs.length c) := hsW.cell 3
  have HB1 := Lib.hid hbW
  clear hbW hsW
  go_wp2_with fail
  refine (HC.out W HB1.out).mono ?_
  rintro e' W2 ⟨rfl, hb2⟩
  have HB2 := Lib.hid (HB1.out.trans (hb2.mono HB1.out.size))
  clear hb2 m0 m1 m2 m3
  go_wp2_with fail
  go_ret
  exact ⟨rfl, HB2.out⟩
end Go.Proofs.Ytdidacjmcafcpaa.Ph
