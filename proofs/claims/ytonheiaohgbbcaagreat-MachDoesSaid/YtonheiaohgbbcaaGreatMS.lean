/- Stage 7: a run's do, and end; Right. -/
import Derived.Test.YtonheiaohgbbcaaGreatMR
import Derived.Test.YtonheiaohgbbcaaGreatMO
namespace Go.Proofs.YtonheiaohgbbcaaGreat.Mc
open Go.ChangeShapes Go.WideShapes Go.ChangeAt Go.RowKit Go.Maps Go.Proofs.YtonheiaohgbbcaaGreat.Mem Go.Proofs.YtonheiaohgbbcaaGreat.Kc Go.Proofs.YtonheiaohgbbcaaGreat.Pl Go.Proofs.YtonheiaohgbbcaaGreat.Mw Go.Proofs.YtonheiaohgbbcaaGreat.Br
set_option linter.unusedVariables false
set_option linter.unusedSimpArgs false
theorem RunAt.two {w w' : World} {rb mb cc c : Nat} {av mv nv mm cs : Value} {lim steps : Int} {vals v2 : Int → Int} (h : RunAt w rb mb cc av mv nv mm cs lim vals steps) (ht : Two (some mb) mm.ownBlock w w') (hr : mm.ownBlock ≠ some rb) (hv : ValsAt w' mb c v2) : RunAt w' rb mb c av mv nv mm cs lim v2 steps :=
  ⟨(ht.block rb h.str.lt (fun e => h.ne (Option.some.inj e)) (fun e => hr e.symm)).trans h.str, hv, h.ne⟩
theorem Two.drew {r m : Option Nat} {w w' : World} (h : Two r m w.drew w') : Two r m w w' := ⟨h.os, h.tape, h.output, h.size, h.block⟩
def EndPost (how val : Int) (m c st : Value) (w : World) (en : Ending) (w' : World) : Prop := en = .returned (.agg #[.int .i64 how, .int .i32 val, m, c, st]) ∧ Below w.heap.size w w'
set_option maxRecDepth 100000 in
set_option maxHeartbeats 4000000 in
theorem rend_any (w : World) (rb mb cc : Nat) (av mv nv : Value) (mA cA : Option Addr) (mn mc cn ck : Nat) (lim steps : Int) (vals : Int → Int) (h : RunAt w rb mb cc av mv nv (.slice mA mn mc) (.slice cA cn ck) lim vals steps) (how val : Int) :
    Calls Tryz.prog 38 #[.pointer (some ⟨rb, 0, none⟩), .int .i64 how, .int .i32 val] w (EndPost how val (.slice mA mn mc) (.slice cA cn ck) (.int .i64 steps) w) := by
  have H := Lib.hid h
  have hrl := h.str.lt
  clear h
  go_enter Tryz.func38, Tryz.ntmps38
  go_wp2_with fail
  obtain ⟨W1, hW1⟩ : ∃ W1, w.alloc (.cells #[.int .i64 0, .int .i32 0, .slice none 0 0, .slice none 0 0, .int .i64 0] 33) = W1 := ⟨_, rfl⟩
  have hbW1 : Below w.heap.size w W1 := by rw [← hW1]; exact (Below.refl _ _).alloc (Nat.le_refl _) _
  have hsW1 : Str W1 w.heap.size 33 [.int .i64 0, .int .i32 0, .slice none 0 0, .slice none 0 0, .int .i64 0] := by rw [← hW1]; exact World.alloc_heap_new w _
  rw [hW1]
  clear hW1
  have k5 := cell_keep hbW1 (Nat.le_refl _) H.out.c5
  have k6 := cell_keep hbW1 (Nat.le_refl _) H.out.c6
  have k7 := cell_keep hbW1 (Nat.le_refl _) H.out.c7
  have HB1 := Lib.hid hbW1
  have z0 := hsW1.cell 0
  have z1 := hsW1.cell 1
  have z2 := hsW1.cell 2
  have z3 := hsW1.cell 3
  have z4 := hsW1.cell 4
  have y0 := hsW1.frozen 0
  have y1 := hsW1.frozen 1
  have y2 := hsW1.frozen 2
  have y3 := hsW1.frozen 3
  have y4 := hsW1.frozen 4
  clear hbW1 hsW1
  refine region_heldC_wp (fun w' => w'.cell? ⟨rb, 5, none⟩ = some (.slice mA mn mc) ∧ w'.cell? ⟨rb, 6, none⟩ = some (.slice cA cn ck) ∧ w'.cell? ⟨rb, 7, none⟩ = some (.int .i64 steps)) [0, 1, 2, 3, 4, 5, 6, 7, 8, 9, 10, 11, 12, 13, 14] [0, 1, 2, 3, 4, 5, 6, 7, 8, 9, 10, 11, 12, 13, 14, 15] (by kernel_rfl) (by kernel_rfl) (by kernel_rfl) rfl (by intro c a d v w h; cases d <;> exact h) ⟨k5, k6, k7⟩ ?_
  refine walkC_still _ ?u0 rfl rfl rfl ?uy0 ?_
  case uy0 => intro w hS; go_simp; first | done | with_reducible rfl
  simp only [Act.put]
  refine walkC_still _ ?u1 rfl rfl rfl ?uy1 ?_
  case uy1 => intro w hS; go_simp; first | done | with_reducible rfl
  simp only [Act.put]
  refine walkC_still _ ?u2 rfl rfl rfl ?uy2 ?_
  case uy2 => intro w hS; go_simp; first | done | with_reducible rfl
  simp only [Act.put]
  refine walkC_still _ ?u3 rfl rfl rfl ?uy3 ?_
  case uy3 => intro w hS; go_simp; first | done | with_reducible rfl
  simp only [Act.put]
  refine walkC_still _ ?u4 rfl rfl rfl ?uy4 ?_
  case uy4 => intro w hS; go_simp; first | done | with_reducible rfl
  simp only [Act.put]
  refine walkC_still _ ?u5 rfl rfl rfl ?uy5 ?_
  case uy5 => intro w hS; go_simp; first | done | with_reducible rfl
  simp only [Act.put]
  refine walkC_still _ ?u6 rfl rfl rfl ?uy6 ?_
  case uy6 => intro w hS; go_simp; first | done | with_reducible rfl
  simp only [Act.put]
  refine walkC_still _ ?u7 rfl rfl rfl ?uy7 ?_
  case uy7 => intro w hS; go_simp; first | done | with_reducible rfl
  simp only [Act.put]
  refine walkC_still _ ?u8 rfl rfl rfl ?uy8 ?_
  case uy8 => intro w hS; go_simp; first | done | with_reducible rfl
  simp only [Act.put]
  refine walkC_still _ ?u9 rfl rfl rfl ?uy9 ?_
  case uy9 => intro w hS; go_simp; first | done | with_reducible rfl
  simp only [Act.put]
  refine walkC_still _ ?u10 rfl rfl rfl ?uy10 ?_
  case uy10 => intro w hS; go_simp; first | done | with_reducible rfl
  simp only [Act.put]
  refine walkC_still _ ?u11 rfl rfl rfl ?uy11 ?_
  case uy11 => intro w hS; go_simp; first | done | with_reducible rfl
  simp only [Act.put]
  refine walkC_still _ ?u12 rfl rfl rfl ?uy12 ?_
  case uy12 => intro w hS; go_simp; first | done | with_reducible rfl
  simp only [Act.put]
  refine walkC_still _ ?u13 rfl rfl rfl ?uy13 ?_
  case uy13 => intro w hS; go_simp; first | done | with_reducible rfl
  simp only [Act.put]
  refine walkC_still _ ?u14 rfl rfl rfl ?uy14 ?_
  case uy14 => intro w hS; go_simp; first | done | with_reducible rfl
  simp only [Act.put]
  try simp only [List.setIfInBounds_toArray, List.set_cons_zero, List.set_cons_succ]
  refine walkC_does _ rfl rfl ?_
  go_wp2
  have nr : rb ≠ w.heap.size := by omega
  have hB : But w.heap.size W1 _ := (((((but_set w.heap.size 0 (.int .i64 how) W1).trans (but_set _ 1 (.int .i32 val) _)).trans (but_set _ 2 (.slice mA mn mc) _)).trans (but_set _ 3 (.slice cA cn ck) _)).trans (but_set _ 4 (.int .i64 steps) _)).drew
  refine behindC ⟨hB.cell k5 nr, hB.cell k6 nr, hB.cell k7 nr⟩ (walkC_nil ?_)
  go_wp2
  refine ⟨rfl, .agg #[.int .i64 how, .int .i32 val, .slice mA mn mc, .slice cA cn ck, .int .i64 steps], ?_, ?_⟩
  · simp only [results]
    go_simp
  · exact ⟨rfl, HB1.out.trans (below_of_but hB (Nat.le_refl _) HB1.out.size)⟩
set_option maxRecDepth 100000 in
set_option maxHeartbeats 4000000 in
theorem rphis_none (w : World) (rb : Nat) (A : Option Addr) (c : Nat) (from_ : Int) :
    Calls Tryz.prog 36 #[.pointer (some ⟨rb, 0, none⟩), .slice A 0 c, .int .i64 from_] w fun en w' => en = .returned (.tuple #[]) ∧ w' = w := by
  go_enter Tryz.func36, Tryz.ntmps36
  go_wp2
  refine ⟨rfl, .tuple #[], ?_, rfl, rfl⟩
  simp only [results]
  go_simp
def RDoPost (B rb mb cc : Nat) (av mv nv mm cs : Value) (lim steps : Int) (f : Fx) (v2 : Int → Int) (w : World) (en : Ending) (w' : World) : Prop :=
  en = .returned (.tuple #[.int .i32 f.trap, .bool (f.trap == 0)]) ∧ (∃ c, c ≤ cc + 2 ∧ RunAt w' rb mb c av mv nv mm cs lim v2 steps) ∧ OwnWords B w' mm f.mem ∧ Two (some mb) mm.ownBlock w w'
set_option maxRecDepth 100000 in
set_option maxHeartbeats 4000000 in
theorem rdo_any (w : World) (B rb mb cc : Nat) (av mv nv mm cs : Value) (lim steps : Int) (vals : Int → Int) (h : RunAt w rb mb cc av mv nv mm cs lim vals steps) (hcc : cc < 10000000000000) (m : List Int) (hm : OwnWords B w mm m) (hl : m.length ≤ 1000000) (m1 : mm.ownBlock ≠ some rb) (m2 : mm.ownBlock ≠ some mb)
    (i : PMach) (A : Option Addr) (n k : Nat) (hop : i.op ≠ 28) (hI : InI i.a ∧ InI i.b ∧ InI i.c ∧ InI i.d ∧ InI i.e) (hi : InW i.imm) (hw : ∀ r, InW (vals r)) :
    Calls Tryz.prog 39 #[.pointer (some ⟨rb, 0, none⟩), .agg #[.int .i64 i.op, .int .i64 i.d, .int .i64 i.e, .int .i64 i.a, .int .i64 i.b, .int .i64 i.c, .int .i32 i.imm, .slice A n k]] w (RDoPost B rb mb cc av mv nv mm cs lim steps (fxV i vals m) (newV i vals m) w) := by
  obtain ⟨mA, mn, mc, rfl⟩ := OwnWords.slice hm
  have HC := Lib.hid (fun (w' : World) (hb : Below w.heap.size w w') => dofile_any w' i A n k mb cc vals (.slice mA mn mc) B m (h.map.below hb) (by omega) (hm.below hb) hl m2 hI hi hw)
  obtain ⟨⟨fx, fy, ft, fm⟩, hf⟩ : ∃ f, fxV i vals m = f := ⟨_, rfl⟩
  obtain ⟨v2, hv2⟩ : ∃ v2, newV i vals m = v2 := ⟨_, rfl⟩
  rw [hf, hv2] at HC
  rw [hf, hv2]
  have H := Lib.hid h
  have hrl := h.str.lt
  have M1 := Lib.hid m1
  have M2 := Lib.hid m2
  have HMB := Lib.hid (show ∀ g, (Value.slice mA mn mc).ownBlock = some g → g < w.heap.size from fun g hg => (OwnWords.where_ hm hg).2)
  have HML := Lib.hid h.map.lt
  have HNE := Lib.hid h.ne
  have go : (i.op == 28) = false := beq_eq_false_iff_ne.2 hop
  clear h hm m1 m2 hI hi hw hf hv2 hop
  go_enter Tryz.func39, Tryz.ntmps39
  go_upto_region 1 with (fail)
  obtain ⟨W1, hW1⟩ : ∃ W1, w.alloc (.cells #[.int .i64 i.op, .int .i64 i.d, .int .i64 i.e, .int .i64 i.a, .int .i64 i.b, .int .i64 i.c, .int .i32 i.imm, .slice A n k] 40) = W1 := ⟨_, rfl⟩
  have hbW1 : Below w.heap.size w W1 := by rw [← hW1]; exact (Below.refl _ _).alloc (Nat.le_refl _) _
  have hsW1 : Str W1 w.heap.size 40 [.int .i64 i.op, .int .i64 i.d, .int .i64 i.e, .int .i64 i.a, .int .i64 i.b, .int .i64 i.c, .int .i32 i.imm, .slice A n k] := by rw [← hW1]; exact World.alloc_heap_new w _
  rw [hW1]
  clear hW1
  have m0 : W1.cell? ⟨w.heap.size, 0, none⟩ = some (.int .i64 i.op) := hsW1.cell 0
  have m1 : W1.cell? ⟨w.heap.size, 1, none⟩ = some (.int .i64 i.d) := hsW1.cell 1
  have m2 : W1.cell? ⟨w.heap.size, 2, none⟩ = some (.int .i64 i.e) := hsW1.cell 2
  have m3 : W1.cell? ⟨w.heap.size, 3, none⟩ = some (.int .i64 i.a) := hsW1.cell 3
  have m4 : W1.cell? ⟨w.heap.size, 4, none⟩ = some (.int .i64 i.b) := hsW1.cell 4
  have m5 : W1.cell? ⟨w.heap.size, 5, none⟩ = some (.int .i64 i.c) := hsW1.cell 5
  have m6 : W1.cell? ⟨w.heap.size, 6, none⟩ = some (.int .i32 i.imm) := hsW1.cell 6
  have m7 : W1.cell? ⟨w.heap.size, 7, none⟩ = some (.slice A n k) := hsW1.cell 7
  have HBW := Lib.hid hbW1
  have HR1 := Lib.hid (H.out.below hbW1)
  have k4 := HR1.out.c4
  have k5 := HR1.out.c5
  clear hbW1 hsW1
  go_upto_region 4 with (fail)
  refine region_heldC_wp (fun w' => w'.cell? ⟨w.heap.size, 0, none⟩ = some (.int .i64 i.op) ∧ w'.cell? ⟨w.heap.size, 1, none⟩ = some (.int .i64 i.d) ∧ w'.cell? ⟨w.heap.size, 2, none⟩ = some (.int .i64 i.e) ∧ w'.cell? ⟨w.heap.size, 3, none⟩ = some (.int .i64 i.a) ∧ w'.cell? ⟨w.heap.size, 4, none⟩ = some (.int .i64 i.b) ∧ w'.cell? ⟨w.heap.size, 5, none⟩ = some (.int .i64 i.c) ∧ w'.cell? ⟨w.heap.size, 6, none⟩ = some (.int .i32 i.imm) ∧ w'.cell? ⟨w.heap.size, 7, none⟩ = some (.slice A n k) ∧ w'.cell? ⟨rb, 4, none⟩ = some (.map (some mb)) ∧ w'.cell? ⟨rb, 5, none⟩ = some (.slice mA mn mc)) [0, 1, 2, 3, 4, 5, 6, 7, 8, 10, 11, 12, 13] [0, 1, 2, 3, 4, 5, 6, 7, 8, 9, 10, 11, 12, 13] (by kernel_rfl) (by kernel_rfl) (by kernel_rfl) rfl (by intro c a d v w h; cases d <;> exact h) ⟨m0, m1, m2, m3, m4, m5, m6, m7, k4, k5⟩ ?_
  refine walkC_still _ ?u0 rfl rfl rfl ?uy0 ?_
  case uy0 => intro w hS; obtain ⟨m0, m1, m2, m3, m4, m5, m6, m7, k4, k5⟩ := hS; go_simp; first | done | with_reducible rfl
  simp only [Act.put]
  refine walkC_still _ ?u1 rfl rfl rfl ?uy1 ?_
  case uy1 => intro w hS; obtain ⟨m0, m1, m2, m3, m4, m5, m6, m7, k4, k5⟩ := hS; go_simp; first | done | with_reducible rfl
  simp only [Act.put]
  refine walkC_still _ ?u2 rfl rfl rfl ?uy2 ?_
  case uy2 => intro w hS; obtain ⟨m0, m1, m2, m3, m4, m5, m6, m7, k4, k5⟩ := hS; go_simp; first | done | with_reducible rfl
  simp only [Act.put]
  refine walkC_still _ ?u3 rfl rfl rfl ?uy3 ?_
  case uy3 => intro w hS; obtain ⟨m0, m1, m2, m3, m4, m5, m6, m7, k4, k5⟩ := hS; go_simp; first | done | with_reducible rfl
  simp only [Act.put]
  refine walkC_still _ ?u4 rfl rfl rfl ?uy4 ?_
  case uy4 => intro w hS; obtain ⟨m0, m1, m2, m3, m4, m5, m6, m7, k4, k5⟩ := hS; go_simp; first | done | with_reducible rfl
  simp only [Act.put]
  refine walkC_still _ ?u5 rfl rfl rfl ?uy5 ?_
  case uy5 => intro w hS; obtain ⟨m0, m1, m2, m3, m4, m5, m6, m7, k4, k5⟩ := hS; go_simp; first | done | with_reducible rfl
  simp only [Act.put]
  refine walkC_still _ ?u6 rfl rfl rfl ?uy6 ?_
  case uy6 => intro w hS; obtain ⟨m0, m1, m2, m3, m4, m5, m6, m7, k4, k5⟩ := hS; go_simp; first | done | with_reducible rfl
  simp only [Act.put]
  refine walkC_still _ ?u7 rfl rfl rfl ?uy7 ?_
  case uy7 => intro w hS; obtain ⟨m0, m1, m2, m3, m4, m5, m6, m7, k4, k5⟩ := hS; go_simp; first | done | with_reducible rfl
  simp only [Act.put]
  refine walkC_still _ ?u8 rfl rfl rfl ?uy8 ?_
  case uy8 => intro w hS; obtain ⟨m0, m1, m2, m3, m4, m5, m6, m7, k4, k5⟩ := hS; go_simp; first | done | with_reducible rfl
  simp only [Act.put]
  try simp only [List.setIfInBounds_toArray, List.set_cons_zero, List.set_cons_succ]
  refine walkC_does _ rfl rfl ?_
  go_wp2_with fail
  refine (HC.out W1.drew (HBW.out.trans (Below.refl _ _).drew)).mono ?_
  rintro e' w2 ⟨rfl, hv, ho, ht⟩
  have HT := Lib.hid ht.drew
  have HV := Lib.hid hv
  have HO := Lib.hid ho
  have HKB := Lib.hid (show ∀ (p : Addr) (v : Value), W1.cell? p = some v → p.block ≠ mb → (Value.slice mA mn mc).ownBlock ≠ some p.block → w2.cell? p = some v from fun p v hc h1 h2 => by
    rw [World.cell?_of_block (HT.out.block _ (lt_of_cell hc) (fun e => h1 (Option.some.inj e)) (fun e => h2 e.symm))]; exact hc)
  have hn1 : w.heap.size ≠ mb := by have := HML.out; omega
  have hn2 : (Value.slice mA mn mc).ownBlock ≠ some w.heap.size := fun e => by have := HMB.out _ e; omega
  clear hv ho ht
  go_wp2_with fail
  refine behindC ⟨HKB.out _ _ m0 hn1 hn2, HKB.out _ _ m1 hn1 hn2, HKB.out _ _ m2 hn1 hn2, HKB.out _ _ m3 hn1 hn2, HKB.out _ _ m4 hn1 hn2, HKB.out _ _ m5 hn1 hn2, HKB.out _ _ m6 hn1 hn2, HKB.out _ _ m7 hn1 hn2, HKB.out _ _ k4 HNE.out M1.out, HKB.out _ _ k5 HNE.out M1.out⟩ ?_
  clear hn1 hn2
  refine walkC_still _ ?v10 rfl rfl rfl ?vy10 ?_
  case vy10 => intro w hS; go_simp; first | done | with_reducible rfl
  simp only [Act.put]
  refine walkC_still _ ?v11 rfl rfl rfl ?vy11 ?_
  case vy11 => intro w hS; go_simp; first | done | with_reducible rfl
  simp only [Act.put]
  refine walkC_still _ ?v12 rfl rfl rfl ?vy12 ?_
  case vy12 => intro w hS; go_simp; first | done | with_reducible rfl
  simp only [Act.put]
  refine walkC_still _ ?v13 rfl rfl rfl ?vy13 ?_
  case vy13 => intro w hS; go_simp; first | done | with_reducible rfl
  simp only [Act.put]
  try simp only [List.setIfInBounds_toArray, List.set_cons_zero, List.set_cons_succ]
  refine walkC_nil ?_
  go_wp2_with fail
  go_ret2
  obtain ⟨c, hc, hv⟩ := HV.out
  have hrt := RunAt.two HR1.out HT.out M1.out hv
  exact ⟨rfl, ⟨c, hc, hrt⟩, HO.out, (Two.of_below HBW.out).trans HT.out⟩
set_option maxRecDepth 100000 in
set_option maxHeartbeats 4000000 in
theorem right_any (w : World) (params : Int) (A : Option Addr) (c : Nat) (bs : List PMB) (hA : MBlocksAt w (.slice A bs.length c) bs) (hwf : WfM bs) (hnp : ∀ x ∈ bs, x.phis = []) :
    Calls Tryz.prog 16 #[.agg #[.int .i64 params, .slice A bs.length c]] w fun en w' => en = .returned (.bool ((funcM params bs).1 == 0)) ∧ Below w.heap.size w w' := by
  have HF := Lib.hid (fun w' (hb : Below w.heap.size w w') => func0_any w' params A c bs (hA.keep hb) hwf hnp)
  obtain ⟨⟨r0, r1, r2⟩, hr⟩ : ∃ f, funcM params bs = f := ⟨_, rfl⟩
  rw [hr] at HF
  rw [hr]
  clear hA hwf hnp hr
  go_enter Tryz.func16, Tryz.ntmps16
  go_wp2_with fail
  have hb : Below w.heap.size w (w.alloc (.cells #[.int .i64 params, .slice A bs.length c] 24)) := (Below.refl _ _).alloc (Nat.le_refl _) _
  refine (HF.out _ hb).mono ?_
  rintro e w2 ⟨rfl, hb2⟩
  have HB := Lib.hid (hb.trans (hb2.mono hb.size))
  clear hb hb2 HF
  go_wp2
  go_ret
  exact ⟨rfl, HB.out⟩
end Go.Proofs.YtonheiaohgbbcaaGreat.Mc
