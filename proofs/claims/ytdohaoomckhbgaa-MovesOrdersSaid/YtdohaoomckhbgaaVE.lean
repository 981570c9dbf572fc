/- Moves: Do of the program and of the document. -/
import Derived.Test.YtdohaoomckhbgaaVD
namespace Go.Proofs.Ytdohaoomckhbgaa.Vm
open Go.ChangeShapes Go.WideShapes Go.ChangeAt Go.RowKit Go.Proofs.Ytdohaoomckhbgaa.Mem Go.Proofs.Ytdohaoomckhbgaa.Br
set_option linter.unusedVariables false
set_option linter.unusedSimpArgs false
def doI (o : List Int) (i : PM) : List Int :=
  if i.op = 1 then putL o (regP i.d) (atV o (regP i.a))
  else if i.op = 2 then putL (putL o (regP i.a) (atV o (regP i.b))) (regP i.b) (atV o (regP i.a))
  else if i.op = 3 ∨ i.op = 4 then putL o (regP i.d) i.imm
  else if i.op = 30 then putL o (regP i.d) (atV o (slotP i.imm))
  else if i.op = 31 then putL o (slotP i.imm) (atV o (regP i.a))
  else o
theorem doI_len (o : List Int) (i : PM) : (doI o i).length = o.length := by
  unfold doI; split <;> (try split) <;> (try split) <;> (try split) <;> (try split) <;> simp [putL_len]
def doN (l : List PM) (p : List Int) : List Int := l.foldl doI p
theorem doN_len : ∀ (l : List PM) (o : List Int), (doN l o).length = o.length
  | [], o => rfl
  | m :: l, o => by unfold doN; rw [List.foldl_cons]; exact (doN_len l _).trans (doI_len o m)
def DoS (B : Nat) (w : World) (l : List PM) (p : List Int) (k : Nat) (v : Value) (wr : World) : Prop := OwnWords B wr v ((l.take k).foldl doI p) ∧ Below B w wr
def DoRes (B : Nat) (m : Value) (l : List Int) (i : PM) (w : World) (e : Ending) (w' : World) : Prop := e = .returned (.tuple #[]) ∧ OwnWords B w' m (doI l i) ∧ Below B w w'
set_option maxRecDepth 100000 in
set_option maxHeartbeats 2000000 in
theorem rdo_any (w : World) (B : Nat) (m : Value) (l : List Int) (op d e a b c imm : Int) (A : Option Addr) (n cA : Nat) (hm : OwnWords B w m l) (hB : B ≤ w.heap.size) (hi1 : -2147483648 ≤ imm) (hi2 : imm ≤ 2147483647) :
    Calls Try.prog 32 #[m, .agg #[.int .i64 op, .int .i64 d, .int .i64 e, .int .i64 a, .int .i64 b, .int .i64 c, .int .i32 imm, .slice A n cA]] w (DoRes B m l ⟨op, d, e, a, b, c, imm, n⟩ w) := by
  have HM := Lib.hid hm
  clear hm
  by_cases h1 : op = 1
  · subst h1
    have HD := Lib.hid (show doI l ⟨1, d, e, a, b, c, imm, n⟩ = putL l (regP d) (atV l (regP a)) from rfl)
    go_enter Try.func32, Try.ntmps32
    go_wp2_with fail
    obtain ⟨W1, hW1⟩ : ∃ W1, w.alloc (.cells #[.int .i64 1, .int .i64 d, .int .i64 e, .int .i64 a, .int .i64 b, .int .i64 c, .int .i32 imm, .slice A n cA] 48) = W1 := ⟨_, rfl⟩
    have hbW1 : Below w.heap.size w W1 := by rw [← hW1]; exact (Below.refl _ _).alloc (Nat.le_refl _) _
    have hsW1 : Str W1 w.heap.size 48 [.int .i64 1, .int .i64 d, .int .i64 e, .int .i64 a, .int .i64 b, .int .i64 c, .int .i32 imm, .slice A n cA] := by rw [← hW1]; exact World.alloc_heap_new w _
    rw [hW1]
    clear hW1
    have m0 : W1.cell? ⟨w.heap.size, 0, none⟩ = some (.int .i64 1) := hsW1.cell 0
    have m1 : W1.cell? ⟨w.heap.size, 1, none⟩ = some (.int .i64 d) := hsW1.cell 1
    have m3 : W1.cell? ⟨w.heap.size, 3, none⟩ = some (.int .i64 a) := hsW1.cell 3
    have m4 : W1.cell? ⟨w.heap.size, 4, none⟩ = some (.int .i64 b) := hsW1.cell 4
    have m6 : W1.cell? ⟨w.heap.size, 6, none⟩ = some (.int .i32 imm) := hsW1.cell 6
    have HO := Lib.hid (OwnWords.below HM.out hbW1)
    have HB := Lib.hid (Below.mono hbW1 hB)
    have HSW := Lib.hid hsW1
    clear hbW1 hsW1
    refine region_heldT_wp (fun w' => w'.cell? ⟨w.heap.size, 1, none⟩ = some (.int .i64 d) ∧ w'.cell? ⟨w.heap.size, 3, none⟩ = some (.int .i64 a) ∧ w'.cell? ⟨w.heap.size, 4, none⟩ = some (.int .i64 b) ∧ w'.cell? ⟨w.heap.size, 6, none⟩ = some (.int .i32 imm)) [0, 1, 3, 4, 6, 7, 9, 10, 12, 13, 14] [0, 1, 3, 4, 6, 7, 9, 10, 2, 5, 8, 11, 12, 13, 14, 15] 15 (by kernel_rfl) (by kernel_rfl) (by kernel_rfl) (by kernel_rfl) rfl (by intro c a d v w h; cases d <;> exact h) ⟨m1, m3, m4, m6⟩ ?_
    refine walkH_still _ ?v0 rfl rfl rfl ?vy0 ?_
    case vy0 => intro w hS; go_simp; first | done | with_reducible rfl
    simp only [Act.put]
    refine walkH_still _ ?v1 rfl rfl rfl ?vy1 ?_
    case vy1 => intro w hS; go_simp; first | done | with_reducible rfl
    simp only [Act.put]
    refine walkH_still _ ?v3 rfl rfl rfl ?vy3 ?_
    case vy3 => intro w hS; go_simp; first | done | with_reducible rfl
    simp only [Act.put]
    refine walkH_still _ ?v4 rfl rfl rfl ?vy4 ?_
    case vy4 => intro w hS; go_simp; first | done | with_reducible rfl
    simp only [Act.put]
    refine walkH_still _ ?v6 rfl rfl rfl ?vy6 ?_
    case vy6 => intro w hS; go_simp; first | done | with_reducible rfl
    simp only [Act.put]
    refine walkH_still _ ?v7 rfl rfl rfl ?vy7 ?_
    case vy7 => intro w hS; go_simp; first | done | with_reducible rfl
    simp only [Act.put]
    refine walkH_still _ ?v9 rfl rfl rfl ?vy9 ?_
    case vy9 => intro w hS; go_simp; first | done | with_reducible rfl
    simp only [Act.put]
    refine walkH_still _ ?v10 rfl rfl rfl ?vy10 ?_
    case vy10 => intro w hS; go_simp; first | done | with_reducible rfl
    simp only [Act.put]
    try simp only [List.setIfInBounds_toArray, List.set_cons_zero, List.set_cons_succ]
    refine walkHd _ rfl rfl ?_
    go_wp2_with fail
    refine (oreg_any _ a).mono ?_
    rintro en w' ⟨rfl, rfl⟩
    go_wp2_with fail
    refine behindH (Or.inl ⟨m1, m3, m4, m6⟩) ?_
    try simp only [List.setIfInBounds_toArray, List.set_cons_zero, List.set_cons_succ]
    refine walkHd _ rfl rfl ?_
    go_wp2_with fail
    refine (oreg_any _ b).mono ?_
    rintro en w' ⟨rfl, rfl⟩
    go_wp2_with fail
    refine behindH (Or.inl ⟨m1, m3, m4, m6⟩) ?_
    try simp only [List.setIfInBounds_toArray, List.set_cons_zero, List.set_cons_succ]
    refine walkHd _ rfl rfl ?_
    go_wp2_with fail
    refine (oreg_any _ d).mono ?_
    rintro en w' ⟨rfl, rfl⟩
    go_wp2_with fail
    refine behindH (Or.inl ⟨m1, m3, m4, m6⟩) ?_
    try simp only [List.setIfInBounds_toArray, List.set_cons_zero, List.set_cons_succ]
    refine walkHd _ rfl rfl ?_
    go_wp2_with fail
    refine (oslot_any _ imm hi1 hi2).mono ?_
    rintro en w' ⟨rfl, rfl⟩
    go_wp2_with fail
    refine behindH (Or.inl ⟨m1, m3, m4, m6⟩) ?_
    refine walkH_still _ ?v12 rfl rfl rfl ?vy12 ?_
    case vy12 => intro w hS; go_simp; first | done | with_reducible rfl
    simp only [Act.put]
    refine walkH_still _ ?v13 rfl rfl rfl ?vy13 ?_
    case vy13 => intro w hS; go_simp; first | done | with_reducible rfl
    simp only [Act.put]
    refine walkH_still _ ?v14 rfl rfl rfl ?vy14 ?_
    case vy14 => intro w hS; go_simp; first | done | with_reducible rfl
    simp only [Act.put]
    try simp only [List.setIfInBounds_toArray, List.set_cons_zero, List.set_cons_succ]
    refine walkHd _ rfl rfl ?_
    go_wp2_with fail
    refine behindH (Or.inr rfl) (walkH_nil ?_)
    try simp only [List.setIfInBounds_toArray, List.set_cons_zero, List.set_cons_succ]
    obtain ⟨Wd, hWd⟩ : ∃ Wd, Wd = W1.drew := ⟨_, rfl⟩
    have d0 : Wd.cell? ⟨w.heap.size, 0, none⟩ = some (.int .i64 1) := by rw [hWd]; exact m0
    have d6 : Wd.cell? ⟨w.heap.size, 6, none⟩ = some (.int .i32 imm) := by rw [hWd]; exact m6
    have HOd := Lib.hid (show OwnWords B Wd m l by rw [hWd]; exact HO.out)
    have HBd := Lib.hid (show Below B w Wd by rw [hWd]; exact HB.out.drew)
    rw [← hWd]
    clear hWd m0 m1 m3 m4 m6 HO HB HSW
    clear W1
    have HO := HOd
    have HB := HBd
    clear HOd HBd
    go_wp2_with fail
    refine (rat_any _ m l (regP a) (words_of_own HO.out)).mono ?_
    rintro en w' ⟨rfl, hw'⟩
    obtain rfl : Wd = w' := hw'.symm
    go_wp2_with fail
    refine (rput_any Wd B m l (regP d) (atV l (regP a)) HO.out).mono ?_
    rintro en w2 ⟨rfl, ho, hg⟩
    have HP := Lib.hid (show DoRes B m l ⟨1, d, e, a, b, c, imm, n⟩ w (.returned (.tuple #[])) w2 from ⟨rfl, by rw [HD.out]; exact ho, HB.out.trans (below_row HO.out (by have := HB.out.size; omega) hg)⟩)
    clear ho hg
    go_wp2
    refine ⟨rfl, .tuple #[], by simp only [results]; go_simp, ?_⟩
    exact HP.out
  by_cases h2 : op = 2
  · subst h2
    have HD := Lib.hid (show doI l ⟨2, d, e, a, b, c, imm, n⟩ = putL (putL l (regP a) (atV l (regP b))) (regP b) (atV l (regP a)) from rfl)
    go_enter Try.func32, Try.ntmps32
    go_wp2_with fail
    obtain ⟨W1, hW1⟩ : ∃ W1, w.alloc (.cells #[.int .i64 2, .int .i64 d, .int .i64 e, .int .i64 a, .int .i64 b, .int .i64 c, .int .i32 imm, .slice A n cA] 48) = W1 := ⟨_, rfl⟩
    have hbW1 : Below w.heap.size w W1 := by rw [← hW1]; exact (Below.refl _ _).alloc (Nat.le_refl _) _
    have hsW1 : Str W1 w.heap.size 48 [.int .i64 2, .int .i64 d, .int .i64 e, .int .i64 a, .int .i64 b, .int .i64 c, .int .i32 imm, .slice A n cA] := by rw [← hW1]; exact World.alloc_heap_new w _
    rw [hW1]
    clear hW1
    have m0 : W1.cell? ⟨w.heap.size, 0, none⟩ = some (.int .i64 2) := hsW1.cell 0
    have m1 : W1.cell? ⟨w.heap.size, 1, none⟩ = some (.int .i64 d) := hsW1.cell 1
    have m3 : W1.cell? ⟨w.heap.size, 3, none⟩ = some (.int .i64 a) := hsW1.cell 3
    have m4 : W1.cell? ⟨w.heap.size, 4, none⟩ = some (.int .i64 b) := hsW1.cell 4
    have m6 : W1.cell? ⟨w.heap.size, 6, none⟩ = some (.int .i32 imm) := hsW1.cell 6
    have HO := Lib.hid (OwnWords.below HM.out hbW1)
    have HB := Lib.hid (Below.mono hbW1 hB)
    have HSW := Lib.hid hsW1
    clear hbW1 hsW1
    refine region_heldT_wp (fun w' => w'.cell? ⟨w.heap.size, 1, none⟩ = some (.int .i64 d) ∧ w'.cell? ⟨w.heap.size, 3, none⟩ = some (.int .i64 a) ∧ w'.cell? ⟨w.heap.size, 4, none⟩ = some (.int .i64 b) ∧ w'.cell? ⟨w.heap.size, 6, none⟩ = some (.int .i32 imm)) [0, 1, 3, 4, 6, 7, 9, 10, 12, 13, 14] [0, 1, 3, 4, 6, 7, 9, 10, 2, 5, 8, 11, 12, 13, 14, 15] 15 (by kernel_rfl) (by kernel_rfl) (by kernel_rfl) (by kernel_rfl) rfl (by intro c a d v w h; cases d <;> exact h) ⟨m1, m3, m4, m6⟩ ?_
    refine walkH_still _ ?v0 rfl rfl rfl ?vy0 ?_
    case vy0 => intro w hS; go_simp; first | done | with_reducible rfl
    simp only [Act.put]
    refine walkH_still _ ?v1 rfl rfl rfl ?vy1 ?_
    case vy1 => intro w hS; go_simp; first | done | with_reducible rfl
    simp only [Act.put]
    refine walkH_still _ ?v3 rfl rfl rfl ?vy3 ?_
    case vy3 => intro w hS; go_simp; first | done | with_reducible rfl
    simp only [Act.put]
    refine walkH_still _ ?v4 rfl rfl rfl ?vy4 ?_
    case vy4 => intro w hS; go_simp; first | done | with_reducible rfl
    simp only [Act.put]
    refine walkH_still _ ?v6 rfl rfl rfl ?vy6 ?_
    case vy6 => intro w hS; go_simp; first | done | with_reducible rfl
    simp only [Act.put]
    refine walkH_still _ ?v7 rfl rfl rfl ?vy7 ?_
    case vy7 => intro w hS; go_simp; first | done | with_reducible rfl
    simp only [Act.put]
    refine walkH_still _ ?v9 rfl rfl rfl ?vy9 ?_
    case vy9 => intro w hS; go_simp; first | done | with_reducible rfl
    simp only [Act.put]
    refine walkH_still _ ?v10 rfl rfl rfl ?vy10 ?_
    case vy10 => intro w hS; go_simp; first | done | with_reducible rfl
    simp only [Act.put]
    try simp only [List.setIfInBounds_toArray, List.set_cons_zero, List.set_cons_succ]
    refine walkHd _ rfl rfl ?_
    go_wp2_with fail
    refine (oreg_any _ a).mono ?_
    rintro en w' ⟨rfl, rfl⟩
    go_wp2_with fail
    refine behindH (Or.inl ⟨m1, m3, m4, m6⟩) ?_
    try simp only [List.setIfInBounds_toArray, List.set_cons_zero, List.set_cons_succ]
    refine walkHd _ rfl rfl ?_
    go_wp2_with fail
    refine (oreg_any _ b).mono ?_
    rintro en w' ⟨rfl, rfl⟩
    go_wp2_with fail
    refine behindH (Or.inl ⟨m1, m3, m4, m6⟩) ?_
    try simp only [List.setIfInBounds_toArray, List.set_cons_zero, List.set_cons_succ]
    refine walkHd _ rfl rfl ?_
    go_wp2_with fail
    refine (oreg_any _ d).mono ?_
    rintro en w' ⟨rfl, rfl⟩
    go_wp2_with fail
    refine behindH (Or.inl ⟨m1, m3, m4, m6⟩) ?_
    try simp only [List.setIfInBounds_toArray, List.set_cons_zero, List.set_cons_succ]
    refine walkHd _ rfl rfl ?_
    go_wp2_with fail
    refine (oslot_any _ imm hi1 hi2).mono ?_
    rintro en w' ⟨rfl, rfl⟩
    go_wp2_with fail
    refine behindH (Or.inl ⟨m1, m3, m4, m6⟩) ?_
    refine walkH_still _ ?v12 rfl rfl rfl ?vy12 ?_
    case vy12 => intro w hS; go_simp; first | done | with_reducible rfl
    simp only [Act.put]
    refine walkH_still _ ?v13 rfl rfl rfl ?vy13 ?_
    case vy13 => intro w hS; go_simp; first | done | with_reducible rfl
    simp only [Act.put]
    refine walkH_still _ ?v14 rfl rfl rfl ?vy14 ?_
    case vy14 => intro w hS; go_simp; first | done | with_reducible rfl
    simp only [Act.put]
    try simp only [List.setIfInBounds_toArray, List.set_cons_zero, List.set_cons_succ]
    refine walkHd _ rfl rfl ?_
    go_wp2_with fail
    refine behindH (Or.inr rfl) (walkH_nil ?_)
    try simp only [List.setIfInBounds_toArray, List.set_cons_zero, List.set_cons_succ]
    obtain ⟨Wd, hWd⟩ : ∃ Wd, Wd = W1.drew := ⟨_, rfl⟩
    have d0 : Wd.cell? ⟨w.heap.size, 0, none⟩ = some (.int .i64 2) := by rw [hWd]; exact m0
    have d6 : Wd.cell? ⟨w.heap.size, 6, none⟩ = some (.int .i32 imm) := by rw [hWd]; exact m6
    have HOd := Lib.hid (show OwnWords B Wd m l by rw [hWd]; exact HO.out)
    have HBd := Lib.hid (show Below B w Wd by rw [hWd]; exact HB.out.drew)
    rw [← hWd]
    clear hWd m0 m1 m3 m4 m6 HO HB HSW
    clear W1
    have HO := HOd
    have HB := HBd
    clear HOd HBd
    go_wp2_with fail
    refine (rat_any _ m l (regP a) (words_of_own HO.out)).mono ?_
    rintro en w' ⟨rfl, hw'⟩
    obtain rfl : Wd = w' := hw'.symm
    go_wp2_with fail
    refine (rat_any _ m l (regP b) (words_of_own HO.out)).mono ?_
    rintro en w' ⟨rfl, hw'⟩
    obtain rfl : Wd = w' := hw'.symm
    go_wp2_with fail
    refine (rput_any Wd B m l (regP a) (atV l (regP b)) HO.out).mono ?_
    rintro en w2 ⟨rfl, ho, hg⟩
    have HO2 := Lib.hid ho
    have HB2 := Lib.hid (HB.out.trans (below_row HO.out (by have := HB.out.size; omega) hg))
    have hz2 := HB2.out.size
    clear ho hg
    go_wp2_with fail
    refine (rput_any w2 B m _ (regP b) (atV l (regP a)) HO2.out).mono ?_
    rintro en w3 ⟨rfl, ho, hg⟩
    have HP := Lib.hid (show DoRes B m l ⟨2, d, e, a, b, c, imm, n⟩ w (.returned (.tuple #[])) w3 from ⟨rfl, by rw [HD.out]; exact ho, HB2.out.trans (below_row HO2.out (by omega) hg)⟩)
    clear ho hg
    go_wp2
    refine ⟨rfl, .tuple #[], by simp only [results]; go_simp, ?_⟩
    exact HP.out
  by_cases h3 : op = 3
  · subst h3
    have HD := Lib.hid (show doI l ⟨3, d, e, a, b, c, imm, n⟩ = putL l (regP d) imm from rfl)
    go_enter Try.func32, Try.ntmps32
    go_wp2_with fail
    obtain ⟨W1, hW1⟩ : ∃ W1, w.alloc (.cells #[.int .i64 3, .int .i64 d, .int .i64 e, .int .i64 a, .int .i64 b, .int .i64 c, .int .i32 imm, .slice A n cA] 48) = W1 := ⟨_, rfl⟩
    have hbW1 : Below w.heap.size w W1 := by rw [← hW1]; exact (Below.refl _ _).alloc (Nat.le_refl _) _
    have hsW1 : Str W1 w.heap.size 48 [.int .i64 3, .int .i64 d, .int .i64 e, .int .i64 a, .int .i64 b, .int .i64 c, .int .i32 imm, .slice A n cA] := by rw [← hW1]; exact World.alloc_heap_new w _
    rw [hW1]
    clear hW1
    have m0 : W1.cell? ⟨w.heap.size, 0, none⟩ = some (.int .i64 3) := hsW1.cell 0
    have m1 : W1.cell? ⟨w.heap.size, 1, none⟩ = some (.int .i64 d) := hsW1.cell 1
    have m3 : W1.cell? ⟨w.heap.size, 3, none⟩ = some (.int .i64 a) := hsW1.cell 3
    have m4 : W1.cell? ⟨w.heap.size, 4, none⟩ = some (.int .i64 b) := hsW1.cell 4
    have m6 : W1.cell? ⟨w.heap.size, 6, none⟩ = some (.int .i32 imm) := hsW1.cell 6
    have HO := Lib.hid (OwnWords.below HM.out hbW1)
    have HB := Lib.hid (Below.mono hbW1 hB)
    have HSW := Lib.hid hsW1
    clear hbW1 hsW1
    refine region_heldT_wp (fun w' => w'.cell? ⟨w.heap.size, 1, none⟩ = some (.int .i64 d) ∧ w'.cell? ⟨w.heap.size, 3, none⟩ = some (.int .i64 a) ∧ w'.cell? ⟨w.heap.size, 4, none⟩ = some (.int .i64 b) ∧ w'.cell? ⟨w.heap.size, 6, none⟩ = some (.int .i32 imm)) [0, 1, 3, 4, 6, 7, 9, 10, 12, 13, 14] [0, 1, 3, 4, 6, 7, 9, 10, 2, 5, 8, 11, 12, 13, 14, 15] 15 (by kernel_rfl) (by kernel_rfl) (by kernel_rfl) (by kernel_rfl) rfl (by intro c a d v w h; cases d <;> exact h) ⟨m1, m3, m4, m6⟩ ?_
    refine walkH_still _ ?v0 rfl rfl rfl ?vy0 ?_
    case vy0 => intro w hS; go_simp; first | done | with_reducible rfl
    simp only [Act.put]
    refine walkH_still _ ?v1 rfl rfl rfl ?vy1 ?_
    case vy1 => intro w hS; go_simp; first | done | with_reducible rfl
    simp only [Act.put]
    refine walkH_still _ ?v3 rfl rfl rfl ?vy3 ?_
    case vy3 => intro w hS; go_simp; first | done | with_reducible rfl
    simp only [Act.put]
    refine walkH_still _ ?v4 rfl rfl rfl ?vy4 ?_
    case vy4 => intro w hS; go_simp; first | done | with_reducible rfl
    simp only [Act.put]
    refine walkH_still _ ?v6 rfl rfl rfl ?vy6 ?_
    case vy6 => intro w hS; go_simp; first | done | with_reducible rfl
    simp only [Act.put]
    refine walkH_still _ ?v7 rfl rfl rfl ?vy7 ?_
    case vy7 => intro w hS; go_simp; first | done | with_reducible rfl
    simp only [Act.put]
    refine walkH_still _ ?v9 rfl rfl rfl ?vy9 ?_
    case vy9 => intro w hS; go_simp; first | done | with_reducible rfl
    simp only [Act.put]
    refine walkH_still _ ?v10 rfl rfl rfl ?vy10 ?_
    case vy10 => intro w hS; go_simp; first | done | with_reducible rfl
    simp only [Act.put]
    try simp only [List.setIfInBounds_toArray, List.set_cons_zero, List.set_cons_succ]
    refine walkHd _ rfl rfl ?_
    go_wp2_with fail
    refine (oreg_any _ a).mono ?_
    rintro en w' ⟨rfl, rfl⟩
    go_wp2_with fail
    refine behindH (Or.inl ⟨m1, m3, m4, m6⟩) ?_
    try simp only [List.setIfInBounds_toArray, List.set_cons_zero, List.set_cons_succ]
    refine walkHd _ rfl rfl ?_
    go_wp2_with fail
    refine (oreg_any _ b).mono ?_
    rintro en w' ⟨rfl, rfl⟩
    go_wp2_with fail
    refine behindH (Or.inl ⟨m1, m3, m4, m6⟩) ?_
    try simp only [List.setIfInBounds_toArray, List.set_cons_zero, List.set_cons_succ]
    refine walkHd _ rfl rfl ?_
    go_wp2_with fail
    refine (oreg_any _ d).mono ?_
    rintro en w' ⟨rfl, rfl⟩
    go_wp2_with fail
    refine behindH (Or.inl ⟨m1, m3, m4, m6⟩) ?_
    try simp only [List.setIfInBounds_toArray, List.set_cons_zero, List.set_cons_succ]
    refine walkHd _ rfl rfl ?_
    go_wp2_with fail
    refine (oslot_any _ imm hi1 hi2).mono ?_
    rintro en w' ⟨rfl, rfl⟩
    go_wp2_with fail
    refine behindH (Or.inl ⟨m1, m3, m4, m6⟩) ?_
    refine walkH_still _ ?v12 rfl rfl rfl ?vy12 ?_
    case vy12 => intro w hS; go_simp; first | done | with_reducible rfl
    simp only [Act.put]
    refine walkH_still _ ?v13 rfl rfl rfl ?vy13 ?_
    case vy13 => intro w hS; go_simp; first | done | with_reducible rfl
    simp only [Act.put]
    refine walkH_still _ ?v14 rfl rfl rfl ?vy14 ?_
    case vy14 => intro w hS; go_simp; first | done | with_reducible rfl
    simp only [Act.put]
    try simp only [List.setIfInBounds_toArray, List.set_cons_zero, List.set_cons_succ]
    refine walkHd _ rfl rfl ?_
    go_wp2_with fail
    refine behindH (Or.inr rfl) (walkH_nil ?_)
    try simp only [List.setIfInBounds_toArray, List.set_cons_zero, List.set_cons_succ]
    obtain ⟨Wd, hWd⟩ : ∃ Wd, Wd = W1.drew := ⟨_, rfl⟩
    have d0 : Wd.cell? ⟨w.heap.size, 0, none⟩ = some (.int .i64 3) := by rw [hWd]; exact m0
    have d6 : Wd.cell? ⟨w.heap.size, 6, none⟩ = some (.int .i32 imm) := by rw [hWd]; exact m6
    have HOd := Lib.hid (show OwnWords B Wd m l by rw [hWd]; exact HO.out)
    have HBd := Lib.hid (show Below B w Wd by rw [hWd]; exact HB.out.drew)
    rw [← hWd]
    clear hWd m0 m1 m3 m4 m6 HO HB HSW
    clear W1
    have HO := HOd
    have HB := HBd
    clear HOd HBd
    go_wp2_with fail
    refine (rput_any Wd B m l (regP d) (imm) HO.out).mono ?_
    rintro en w2 ⟨rfl, ho, hg⟩
    have HP := Lib.hid (show DoRes B m l ⟨3, d, e, a, b, c, imm, n⟩ w (.returned (.tuple #[])) w2 from ⟨rfl, by rw [HD.out]; exact ho, HB.out.trans (below_row HO.out (by have := HB.out.size; omega) hg)⟩)
    clear ho hg
    go_wp2
    refine ⟨rfl, .tuple #[], by simp only [results]; go_simp, ?_⟩
    exact HP.out
  by_cases h4 : op = 4
  · subst h4
    have HD := Lib.hid (show doI l ⟨4, d, e, a, b, c, imm, n⟩ = putL l (regP d) imm from rfl)
    go_enter Try.func32, Try.ntmps32
    go_wp2_with fail
    obtain ⟨W1, hW1⟩ : ∃ W1, w.alloc (.cells #[.int .i64 4, .int .i64 d, .int .i64 e, .int .i64 a, .int .i64 b, .int .i64 c, .int .i32 imm, .slice A n cA] 48) = W1 := ⟨_, rfl⟩
    have hbW1 : Below w.heap.size w W1 := by rw [← hW1]; exact (Below.refl _ _).alloc (Nat.le_refl _) _
    have hsW1 : Str W1 w.heap.size 48 [.int .i64 4, .int .i64 d, .int .i64 e, .int .i64 a, .int .i64 b, .int .i64 c, .int .i32 imm, .slice A n cA] := by rw [← hW1]; exact World.alloc_heap_new w _
    rw [hW1]
    clear hW1
    have m0 : W1.cell? ⟨w.heap.size, 0, none⟩ = some (.int .i64 4) := hsW1.cell 0
    have m1 : W1.cell? ⟨w.heap.size, 1, none⟩ = some (.int .i64 d) := hsW1.cell 1
    have m3 : W1.cell? ⟨w.heap.size, 3, none⟩ = some (.int .i64 a) := hsW1.cell 3
    have m4 : W1.cell? ⟨w.heap.size, 4, none⟩ = some (.int .i64 b) := hsW1.cell 4
    have m6 : W1.cell? ⟨w.heap.size, 6, none⟩ = some (.int .i32 imm) := hsW1.cell 6
    have HO := Lib.hid (OwnWords.below HM.out hbW1)
    have HB := Lib.hid (Below.mono hbW1 hB)
    have HSW := Lib.hid hsW1
    clear hbW1 hsW1
    refine region_heldT_wp (fun w' => w'.cell? ⟨w.heap.size, 1, none⟩ = some (.int .i64 d) ∧ w'.cell? ⟨w.heap.size, 3, none⟩ = some (.int .i64 a) ∧ w'.cell? ⟨w.heap.size, 4, none⟩ = some (.int .i64 b) ∧ w'.cell? ⟨w.heap.size, 6, none⟩ = some (.int .i32 imm)) [0, 1, 3, 4, 6, 7, 9, 10, 12, 13, 14] [0, 1, 3, 4, 6, 7, 9, 10, 2, 5, 8, 11, 12, 13, 14, 15] 15 (by kernel_rfl) (by kernel_rfl) (by kernel_rfl) (by kernel_rfl) rfl (by intro c a d v w h; cases d <;> exact h) ⟨m1, m3, m4, m6⟩ ?_
    refine walkH_still _ ?v0 rfl rfl rfl ?vy0 ?_
    case vy0 => intro w hS; go_simp; first | done | with_reducible rfl
    simp only [Act.put]
    refine walkH_still _ ?v1 rfl rfl rfl ?vy1 ?_
    case vy1 => intro w hS; go_simp; first | done | with_reducible rfl
    simp only [Act.put]
    refine walkH_still _ ?v3 rfl rfl rfl ?vy3 ?_
    case vy3 => intro w hS; go_simp; first | done | with_reducible rfl
    simp only [Act.put]
    refine walkH_still _ ?v4 rfl rfl rfl ?vy4 ?_
    case vy4 => intro w hS; go_simp; first | done | with_reducible rfl
    simp only [Act.put]
    refine walkH_still _ ?v6 rfl rfl rfl ?vy6 ?_
    case vy6 => intro w hS; go_simp; first | done | with_reducible rfl
    simp only [Act.put]
    refine walkH_still _ ?v7 rfl rfl rfl ?vy7 ?_
    case vy7 => intro w hS; go_simp; first | done | with_reducible rfl
    simp only [Act.put]
    refine walkH_still _ ?v9 rfl rfl rfl ?vy9 ?_
    case vy9 => intro w hS; go_simp; first | done | with_reducible rfl
    simp only [Act.put]
    refine walkH_still _ ?v10 rfl rfl rfl ?vy10 ?_
    case vy10 => intro w hS; go_simp; first | done | with_reducible rfl
    simp only [Act.put]
    try simp only [List.setIfInBounds_toArray, List.set_cons_zero, List.set_cons_succ]
    refine walkHd _ rfl rfl ?_
    go_wp2_with fail
    refine (oreg_any _ a).mono ?_
    rintro en w' ⟨rfl, rfl⟩
    go_wp2_with fail
    refine behindH (Or.inl ⟨m1, m3, m4, m6⟩) ?_
    try simp only [List.setIfInBounds_toArray, List.set_cons_zero, List.set_cons_succ]
    refine walkHd _ rfl rfl ?_
    go_wp2_with fail
    refine (oreg_any _ b).mono ?_
    rintro en w' ⟨rfl, rfl⟩
    go_wp2_with fail
    refine behindH (Or.inl ⟨m1, m3, m4, m6⟩) ?_
    try simp only [List.setIfInBounds_toArray, List.set_cons_zero, List.set_cons_succ]
    refine walkHd _ rfl rfl ?_
    go_wp2_with fail
    refine (oreg_any _ d).mono ?_
    rintro en w' ⟨rfl, rfl⟩
    go_wp2_with fail
    refine behindH (Or.inl ⟨m1, m3, m4, m6⟩) ?_
    try simp only [List.setIfInBounds_toArray, List.set_cons_zero, List.set_cons_succ]
    refine walkHd _ rfl rfl ?_
    go_wp2_with fail
    refine (oslot_any _ imm hi1 hi2).mono ?_
    rintro en w' ⟨rfl, rfl⟩
    go_wp2_with fail
    refine behindH (Or.inl ⟨m1, m3, m4, m6⟩) ?_
    refine walkH_still _ ?v12 rfl rfl rfl ?vy12 ?_
    case vy12 => intro w hS; go_simp; first | done | with_reducible rfl
    simp only [Act.put]
    refine walkH_still _ ?v13 rfl rfl rfl ?vy13 ?_
    case vy13 => intro w hS; go_simp; first | done | with_reducible rfl
    simp only [Act.put]
    refine walkH_still _ ?v14 rfl rfl rfl ?vy14 ?_
    case vy14 => intro w hS; go_simp; first | done | with_reducible rfl
    simp only [Act.put]
    try simp only [List.setIfInBounds_toArray, List.set_cons_zero, List.set_cons_succ]
    refine walkHd _ rfl rfl ?_
    go_wp2_with fail
    refine behindH (Or.inr rfl) (walkH_nil ?_)
    try simp only [List.setIfInBounds_toArray, List.set_cons_zero, List.set_cons_succ]
    obtain ⟨Wd, hWd⟩ : ∃ Wd, Wd = W1.drew := ⟨_, rfl⟩
    have d0 : Wd.cell? ⟨w.heap.size, 0, none⟩ = some (.int .i64 4) := by rw [hWd]; exact m0
    have d6 : Wd.cell? ⟨w.heap.size, 6, none⟩ = some (.int .i32 imm) := by rw [hWd]; exact m6
    have HOd := Lib.hid (show OwnWords B Wd m l by rw [hWd]; exact HO.out)
    have HBd := Lib.hid (show Below B w Wd by rw [hWd]; exact HB.out.drew)
    rw [← hWd]
    clear hWd m0 m1 m3 m4 m6 HO HB HSW
    clear W1
    have HO := HOd
    have HB := HBd
    clear HOd HBd
    go_wp2_with fail
    refine (rput_any Wd B m l (regP d) (imm) HO.out).mono ?_
    rintro en w2 ⟨rfl, ho, hg⟩
    have HP := Lib.hid (show DoRes B m l ⟨4, d, e, a, b, c, imm, n⟩ w (.returned (.tuple #[])) w2 from ⟨rfl, by rw [HD.out]; exact ho, HB.out.trans (below_row HO.out (by have := HB.out.size; omega) hg)⟩)
    clear ho hg
    go_wp2
    refine ⟨rfl, .tuple #[], by simp only [results]; go_simp, ?_⟩
    exact HP.out
  by_cases h30 : op = 30
  · subst h30
    have HD := Lib.hid (show doI l ⟨30, d, e, a, b, c, imm, n⟩ = putL l (regP d) (atV l (slotP imm)) from rfl)
    go_enter Try.func32, Try.ntmps32
    go_wp2_with fail
    obtain ⟨W1, hW1⟩ : ∃ W1, w.alloc (.cells #[.int .i64 30, .int .i64 d, .int .i64 e, .int .i64 a, .int .i64 b, .int .i64 c, .int .i32 imm, .slice A n cA] 48) = W1 := ⟨_, rfl⟩
    have hbW1 : Below w.heap.size w W1 := by rw [← hW1]; exact (Below.refl _ _).alloc (Nat.le_refl _) _
    have hsW1 : Str W1 w.heap.size 48 [.int .i64 30, .int .i64 d, .int .i64 e, .int .i64 a, .int .i64 b, .int .i64 c, .int .i32 imm, .slice A n cA] := by rw [← hW1]; exact World.alloc_heap_new w _
    rw [hW1]
    clear hW1
    have m0 : W1.cell? ⟨w.heap.size, 0, none⟩ = some (.int .i64 30) := hsW1.cell 0
    have m1 : W1.cell? ⟨w.heap.size, 1, none⟩ = some (.int .i64 d) := hsW1.cell 1
    have m3 : W1.cell? ⟨w.heap.size, 3, none⟩ = some (.int .i64 a) := hsW1.cell 3
    have m4 : W1.cell? ⟨w.heap.size, 4, none⟩ = some (.int .i64 b) := hsW1.cell 4
    have m6 : W1.cell? ⟨w.heap.size, 6, none⟩ = some (.int .i32 imm) := hsW1.cell 6
    have HO := Lib.hid (OwnWords.below HM.out hbW1)
    have HB := Lib.hid (Below.mono hbW1 hB)
    have HSW := Lib.hid hsW1
    clear hbW1 hsW1
    refine region_heldT_wp (fun w' => w'.cell? ⟨w.heap.size, 1, none⟩ = some (.int .i64 d) ∧ w'.cell? ⟨w.heap.size, 3, none⟩ = some (.int .i64 a) ∧ w'.cell? ⟨w.heap.size, 4, none⟩ = some (.int .i64 b) ∧ w'.cell? ⟨w.heap.size, 6, none⟩ = some (.int .i32 imm)) [0, 1, 3, 4, 6, 7, 9, 10, 12, 13, 14] [0, 1, 3, 4, 6, 7, 9, 10, 2, 5, 8, 11, 12, 13, 14, 15] 15 (by kernel_rfl) (by kernel_rfl) (by kernel_rfl) (by kernel_rfl) rfl (by intro c a d v w h; cases d <;> exact h) ⟨m1, m3, m4, m6⟩ ?_
    refine walkH_still _ ?v0 rfl rfl rfl ?vy0 ?_
    case vy0 => intro w hS; go_simp; first | done | with_reducible rfl
    simp only [Act.put]
    refine walkH_still _ ?v1 rfl rfl rfl ?vy1 ?_
    case vy1 => intro w hS; go_simp; first | done | with_reducible rfl
    simp only [Act.put]
    refine walkH_still _ ?v3 rfl rfl rfl ?vy3 ?_
    case vy3 => intro w hS; go_simp; first | done | with_reducible rfl
    simp only [Act.put]
    refine walkH_still _ ?v4 rfl rfl rfl ?vy4 ?_
    case vy4 => intro w hS; go_simp; first | done | with_reducible rfl
    simp only [Act.put]
    refine walkH_still _ ?v6 rfl rfl rfl ?vy6 ?_
    case vy6 => intro w hS; go_simp; first | done | with_reducible rfl
    simp only [Act.put]
    refine walkH_still _ ?v7 rfl rfl rfl ?vy7 ?_
    case vy7 => intro w hS; go_simp; first | done | with_reducible rfl
    simp only [Act.put]
    refine walkH_still _ ?v9 rfl rfl rfl ?vy9 ?_
    case vy9 => intro w hS; go_simp; first | done | with_reducible rfl
    simp only [Act.put]
    refine walkH_still _ ?v10 rfl rfl rfl ?vy10 ?_
    case vy10 => intro w hS; go_simp; first | done | with_reducible rfl
    simp only [Act.put]
    try simp only [List.setIfInBounds_toArray, List.set_cons_zero, List.set_cons_succ]
    refine walkHd _ rfl rfl ?_
    go_wp2_with fail
    refine (oreg_any _ a).mono ?_
    rintro en w' ⟨rfl, rfl⟩
    go_wp2_with fail
    refine behindH (Or.inl ⟨m1, m3, m4, m6⟩) ?_
    try simp only [List.setIfInBounds_toArray, List.set_cons_zero, List.set_cons_succ]
    refine walkHd _ rfl rfl ?_
    go_wp2_with fail
    refine (oreg_any _ b).mono ?_
    rintro en w' ⟨rfl, rfl⟩
    go_wp2_with fail
    refine behindH (Or.inl ⟨m1, m3, m4, m6⟩) ?_
    try simp only [List.setIfInBounds_toArray, List.set_cons_zero, List.set_cons_succ]
    refine walkHd _ rfl rfl ?_
    go_wp2_with fail
    refine (oreg_any _ d).mono ?_
    rintro en w' ⟨rfl, rfl⟩
    go_wp2_with fail
    refine behindH (Or.inl ⟨m1, m3, m4, m6⟩) ?_
    try simp only [List.setIfInBounds_toArray, List.set_cons_zero, List.set_cons_succ]
    refine walkHd _ rfl rfl ?_
    go_wp2_with fail
    refine (oslot_any _ imm hi1 hi2).mono ?_
    rintro en w' ⟨rfl, rfl⟩
    go_wp2_with fail
    refine behindH (Or.inl ⟨m1, m3, m4, m6⟩) ?_
    refine walkH_still _ ?v12 rfl rfl rfl ?vy12 ?_
    case vy12 => intro w hS; go_simp; first | done | with_reducible rfl
    simp only [Act.put]
    refine walkH_still _ ?v13 rfl rfl rfl ?vy13 ?_
    case vy13 => intro w hS; go_simp; first | done | with_reducible rfl
    simp only [Act.put]
    refine walkH_still _ ?v14 rfl rfl rfl ?vy14 ?_
    case vy14 => intro w hS; go_simp; first | done | with_reducible rfl
    simp only [Act.put]
    try simp only [List.setIfInBounds_toArray, List.set_cons_zero, List.set_cons_succ]
    refine walkHd _ rfl rfl ?_
    go_wp2_with fail
    refine behindH (Or.inr rfl) (walkH_nil ?_)
    try simp only [List.setIfInBounds_toArray, List.set_cons_zero, List.set_cons_succ]
    obtain ⟨Wd, hWd⟩ : ∃ Wd, Wd = W1.drew := ⟨_, rfl⟩
    have d0 : Wd.cell? ⟨w.heap.size, 0, none⟩ = some (.int .i64 30) := by rw [hWd]; exact m0
    have d6 : Wd.cell? ⟨w.heap.size, 6, none⟩ = some (.int .i32 imm) := by rw [hWd]; exact m6
    have HOd := Lib.hid (show OwnWords B Wd m l by rw [hWd]; exact HO.out)
    have HBd := Lib.hid (show Below B w Wd by rw [hWd]; exact HB.out.drew)
    rw [← hWd]
    clear hWd m0 m1 m3 m4 m6 HO HB HSW
    clear W1
    have HO := HOd
    have HB := HBd
    clear HOd HBd
    go_wp2_with fail
    refine (rat_any _ m l (slotP imm) (words_of_own HO.out)).mono ?_
    rintro en w' ⟨rfl, hw'⟩
    obtain rfl : Wd = w' := hw'.symm
    go_wp2_with fail
    refine (rput_any Wd B m l (regP d) (atV l (slotP imm)) HO.out).mono ?_
    rintro en w2 ⟨rfl, ho, hg⟩
    have HP := Lib.hid (show DoRes B m l ⟨30, d, e, a, b, c, imm, n⟩ w (.returned (.tuple #[])) w2 from ⟨rfl, by rw [HD.out]; exact ho, HB.out.trans (below_row HO.out (by have := HB.out.size; omega) hg)⟩)
    clear ho hg
    go_wp2
    refine ⟨rfl, .tuple #[], by simp only [results]; go_simp, ?_⟩
    exact HP.out
  by_cases h31 : op = 31
  · subst h31
    have HD := Lib.hid (show doI l ⟨31, d, e, a, b, c, imm, n⟩ = putL l (slotP imm) (atV l (regP a)) from rfl)
    go_enter Try.func32, Try.ntmps32
    go_wp2_with fail
    obtain ⟨W1, hW1⟩ : ∃ W1, w.alloc (.cells #[.int .i64 31, .int .i64 d, .int .i64 e, .int .i64 a, .int .i64 b, .int .i64 c, .int .i32 imm, .slice A n cA] 48) = W1 := ⟨_, rfl⟩
    have hbW1 : Below w.heap.size w W1 := by rw [← hW1]; exact (Below.refl _ _).alloc (Nat.le_refl _) _
    have hsW1 : Str W1 w.heap.size 48 [.int .i64 31, .int .i64 d, .int .i64 e, .int .i64 a, .int .i64 b, .int .i64 c, .int .i32 imm, .slice A n cA] := by rw [← hW1]; exact World.alloc_heap_new w _
    rw [hW1]
    clear hW1
    have m0 : W1.cell? ⟨w.heap.size, 0, none⟩ = some (.int .i64 31) := hsW1.cell 0
    have m1 : W1.cell? ⟨w.heap.size, 1, none⟩ = some (.int .i64 d) := hsW1.cell 1
    have m3 : W1.cell? ⟨w.heap.size, 3, none⟩ = some (.int .i64 a) := hsW1.cell 3
    have m4 : W1.cell? ⟨w.heap.size, 4, none⟩ = some (.int .i64 b) := hsW1.cell 4
    have m6 : W1.cell? ⟨w.heap.size, 6, none⟩ = some (.int .i32 imm) := hsW1.cell 6
    have HO := Lib.hid (OwnWords.below HM.out hbW1)
    have HB := Lib.hid (Below.mono hbW1 hB)
    have HSW := Lib.hid hsW1
    clear hbW1 hsW1
    refine region_heldT_wp (fun w' => w'.cell? ⟨w.heap.size, 1, none⟩ = some (.int .i64 d) ∧ w'.cell? ⟨w.heap.size, 3, none⟩ = some (.int .i64 a) ∧ w'.cell? ⟨w.heap.size, 4, none⟩ = some (.int .i64 b) ∧ w'.cell? ⟨w.heap.size, 6, none⟩ = some (.int .i32 imm)) [0, 1, 3, 4, 6, 7, 9, 10, 12, 13, 14] [0, 1, 3, 4, 6, 7, 9, 10, 2, 5, 8, 11, 12, 13, 14, 15] 15 (by kernel_rfl) (by kernel_rfl) (by kernel_rfl) (by kernel_rfl) rfl (by intro c a d v w h; cases d <;> exact h) ⟨m1, m3, m4, m6⟩ ?_
    refine walkH_still _ ?v0 rfl rfl rfl ?vy0 ?_
    case vy0 => intro w hS; go_simp; first | done | with_reducible rfl
    simp only [Act.put]
    refine walkH_still _ ?v1 rfl rfl rfl ?vy1 ?_
    case vy1 => intro w hS; go_simp; first | done | with_reducible rfl
    simp only [Act.put]
    refine walkH_still _ ?v3 rfl rfl rfl ?vy3 ?_
    case vy3 => intro w hS; go_simp; first | done | with_reducible rfl
    simp only [Act.put]
    refine walkH_still _ ?v4 rfl rfl rfl ?vy4 ?_
    case vy4 => intro w hS; go_simp; first | done | with_reducible rfl
    simp only [Act.put]
    refine walkH_still _ ?v6 rfl rfl rfl ?vy6 ?_
    case vy6 => intro w hS; go_simp; first | done | with_reducible rfl
    simp only [Act.put]
    refine walkH_still _ ?v7 rfl rfl rfl ?vy7 ?_
    case vy7 => intro w hS; go_simp; first | done | with_reducible rfl
    simp only [Act.put]
    refine walkH_still _ ?v9 rfl rfl rfl ?vy9 ?_
    case vy9 => intro w hS; go_simp; first | done | with_reducible rfl
    simp only [Act.put]
    refine walkH_still _ ?v10 rfl rfl rfl ?vy10 ?_
    case vy10 => intro w hS; go_simp; first | done | with_reducible rfl
    simp only [Act.put]
    try simp only [List.setIfInBounds_toArray, List.set_cons_zero, List.set_cons_succ]
    refine walkHd _ rfl rfl ?_
    go_wp2_with fail
    refine (oreg_any _ a).mono ?_
    rintro en w' ⟨rfl, rfl⟩
    go_wp2_with fail
    refine behindH (Or.inl ⟨m1, m3, m4, m6⟩) ?_
    try simp only [List.setIfInBounds_toArray, List.set_cons_zero, List.set_cons_succ]
    refine walkHd _ rfl rfl ?_
    go_wp2_with fail
    refine (oreg_any _ b).mono ?_
    rintro en w' ⟨rfl, rfl⟩
    go_wp2_with fail
    refine behindH (Or.inl ⟨m1, m3, m4, m6⟩) ?_
    try simp only [List.setIfInBounds_toArray, List.set_cons_zero, List.set_cons_succ]
    refine walkHd _ rfl rfl ?_
    go_wp2_with fail
    refine (oreg_any _ d).mono ?_
    rintro en w' ⟨rfl, rfl⟩
    go_wp2_with fail
    refine behindH (Or.inl ⟨m1, m3, m4, m6⟩) ?_
    try simp only [List.setIfInBounds_toArray, List.set_cons_zero, List.set_cons_succ]
    refine walkHd _ rfl rfl ?_
    go_wp2_with fail
    refine (oslot_any _ imm hi1 hi2).mono ?_
    rintro en w' ⟨rfl, rfl⟩
    go_wp2_with fail
    refine behindH (Or.inl ⟨m1, m3, m4, m6⟩) ?_
    refine walkH_still _ ?v12 rfl rfl rfl ?vy12 ?_
    case vy12 => intro w hS; go_simp; first | done | with_reducible rfl
    simp only [Act.put]
    refine walkH_still _ ?v13 rfl rfl rfl ?vy13 ?_
    case vy13 => intro w hS; go_simp; first | done | with_reducible rfl
    simp only [Act.put]
    refine walkH_still _ ?v14 rfl rfl rfl ?vy14 ?_
    case vy14 => intro w hS; go_simp; first | done | with_reducible rfl
    simp only [Act.put]
    try simp only [List.setIfInBounds_toArray, List.set_cons_zero, List.set_cons_succ]
    refine walkHd _ rfl rfl ?_
    go_wp2_with fail
    refine behindH (Or.inr rfl) (walkH_nil ?_)
    try simp only [List.setIfInBounds_toArray, List.set_cons_zero, List.set_cons_succ]
    obtain ⟨Wd, hWd⟩ : ∃ Wd, Wd = W1.drew := ⟨_, rfl⟩
    have d0 : Wd.cell? ⟨w.heap.size, 0, none⟩ = some (.int .i64 31) := by rw [hWd]; exact m0
    have d6 : Wd.cell? ⟨w.heap.size, 6, none⟩ = some (.int .i32 imm) := by rw [hWd]; exact m6
    have HOd := Lib.hid (show OwnWords B Wd m l by rw [hWd]; exact HO.out)
    have HBd := Lib.hid (show Below B w Wd by rw [hWd]; exact HB.out.drew)
    rw [← hWd]
    clear hWd m0 m1 m3 m4 m6 HO HB HSW
    clear W1
    have HO := HOd
    have HB := HBd
    clear HOd HBd
    go_wp2_with fail
    refine (rat_any _ m l (regP a) (words_of_own HO.out)).mono ?_
    rintro en w' ⟨rfl, hw'⟩
    obtain rfl : Wd = w' := hw'.symm
    go_wp2_with fail
    refine (rput_any Wd B m l (slotP imm) (atV l (regP a)) HO.out).mono ?_
    rintro en w2 ⟨rfl, ho, hg⟩
    have HP := Lib.hid (show DoRes B m l ⟨31, d, e, a, b, c, imm, n⟩ w (.returned (.tuple #[])) w2 from ⟨rfl, by rw [HD.out]; exact ho, HB.out.trans (below_row HO.out (by have := HB.out.size; omega) hg)⟩)
    clear ho hg
    go_wp2
    refine ⟨rfl, .tuple #[], by simp only [results]; go_simp, ?_⟩
    exact HP.out
  have hh : op ≠ 1 ∧ op ≠ 2 ∧ op ≠ 3 ∧ op ≠ 4 ∧ op ≠ 30 ∧ op ≠ 31 := ⟨h1, h2, h3, h4, h30, h31⟩
  clear h1 h2 h3 h4 h30 h31
  have HD := Lib.hid (show doI l ⟨op, d, e, a, b, c, imm, n⟩ = l by unfold doI; simp only []; rw [if_neg hh.1, if_neg hh.2.1, if_neg (by omega), if_neg (by omega), if_neg (by omega)])
  have e1 : (op == (1 : Int)) = false := beq_eq_false_iff_ne.2 (by omega)
  have e2 : (op == (2 : Int)) = false := beq_eq_false_iff_ne.2 (by omega)
  have e3 : (op == (3 : Int)) = false := beq_eq_false_iff_ne.2 (by omega)
  have e4 : (op == (4 : Int)) = false := beq_eq_false_iff_ne.2 (by omega)
  have e30 : (op == (30 : Int)) = false := beq_eq_false_iff_ne.2 (by omega)
  have e31 : (op == (31 : Int)) = false := beq_eq_false_iff_ne.2 (by omega)
  clear hh
  go_enter Try.func32, Try.ntmps32
  go_wp2_with fail
  obtain ⟨W1, hW1⟩ : ∃ W1, w.alloc (.cells #[.int .i64 op, .int .i64 d, .int .i64 e, .int .i64 a, .int .i64 b, .int .i64 c, .int .i32 imm, .slice A n cA] 48) = W1 := ⟨_, rfl⟩
  have hbW1 : Below w.heap.size w W1 := by rw [← hW1]; exact (Below.refl _ _).alloc (Nat.le_refl _) _
  have hsW1 : Str W1 w.heap.size 48 [.int .i64 op, .int .i64 d, .int .i64 e, .int .i64 a, .int .i64 b, .int .i64 c, .int .i32 imm, .slice A n cA] := by rw [← hW1]; exact World.alloc_heap_new w _
  rw [hW1]
  clear hW1
  have m0 : W1.cell? ⟨w.heap.size, 0, none⟩ = some (.int .i64 op) := hsW1.cell 0
  have m1 : W1.cell? ⟨w.heap.size, 1, none⟩ = some (.int .i64 d) := hsW1.cell 1
  have m3 : W1.cell? ⟨w.heap.size, 3, none⟩ = some (.int .i64 a) := hsW1.cell 3
  have m4 : W1.cell? ⟨w.heap.size, 4, none⟩ = some (.int .i64 b) := hsW1.cell 4
  have m6 : W1.cell? ⟨w.heap.size, 6, none⟩ = some (.int .i32 imm) := hsW1.cell 6
  have HO := Lib.hid (OwnWords.below HM.out hbW1)
  have HB := Lib.hid (Below.mono hbW1 hB)
  have HSW := Lib.hid hsW1
  clear hbW1 hsW1
  refine region_heldT_wp (fun w' => w'.cell? ⟨w.heap.size, 1, none⟩ = some (.int .i64 d) ∧ w'.cell? ⟨w.heap.size, 3, none⟩ = some (.int .i64 a) ∧ w'.cell? ⟨w.heap.size, 4, none⟩ = some (.int .i64 b) ∧ w'.cell? ⟨w.heap.size, 6, none⟩ = some (.int .i32 imm)) [0, 1, 3, 4, 6, 7, 9, 10, 12, 13, 14] [0, 1, 3, 4, 6, 7, 9, 10, 2, 5, 8, 11, 12, 13, 14, 15] 15 (by kernel_rfl) (by kernel_rfl) (by kernel_rfl) (by kernel_rfl) rfl (by intro c a d v w h; cases d <;> exact h) ⟨m1, m3, m4, m6⟩ ?_
  refine walkH_still _ ?v0 rfl rfl rfl ?vy0 ?_
  case vy0 => intro w hS; go_simp; first | done | with_reducible rfl
  simp only [Act.put]
  refine walkH_still _ ?v1 rfl rfl rfl ?vy1 ?_
  case vy1 => intro w hS; go_simp; first | done | with_reducible rfl
  simp only [Act.put]
  refine walkH_still _ ?v3 rfl rfl rfl ?vy3 ?_
  case vy3 => intro w hS; go_simp; first | done | with_reducible rfl
  simp only [Act.put]
  refine walkH_still _ ?v4 rfl rfl rfl ?vy4 ?_
  case vy4 => intro w hS; go_simp; first | done | with_reducible rfl
  simp only [Act.put]
  refine walkH_still _ ?v6 rfl rfl rfl ?vy6 ?_
  case vy6 => intro w hS; go_simp; first | done | with_reducible rfl
  simp only [Act.put]
  refine walkH_still _ ?v7 rfl rfl rfl ?vy7 ?_
  case vy7 => intro w hS; go_simp; first | done | with_reducible rfl
  simp only [Act.put]
  refine walkH_still _ ?v9 rfl rfl rfl ?vy9 ?_
  case vy9 => intro w hS; go_simp; first | done | with_reducible rfl
  simp only [Act.put]
  refine walkH_still _ ?v10 rfl rfl rfl ?vy10 ?_
  case vy10 => intro w hS; go_simp; first | done | with_reducible rfl
  simp only [Act.put]
  try simp only [List.setIfInBounds_toArray, List.set_cons_zero, List.set_cons_succ]
  refine walkHd _ rfl rfl ?_
  go_wp2_with fail
  refine (oreg_any _ a).mono ?_
  rintro en w' ⟨rfl, rfl⟩
  go_wp2_with fail
  refine behindH (Or.inl ⟨m1, m3, m4, m6⟩) ?_
  try simp only [List.setIfInBounds_toArray, List.set_cons_zero, List.set_cons_succ]
  refine walkHd _ rfl rfl ?_
  go_wp2_with fail
  refine (oreg_any _ b).mono ?_
  rintro en w' ⟨rfl, rfl⟩
  go_wp2_with fail
  refine behindH (Or.inl ⟨m1, m3, m4, m6⟩) ?_
  try simp only [List.setIfInBounds_toArray, List.set_cons_zero, List.set_cons_succ]
  refine walkHd _ rfl rfl ?_
  go_wp2_with fail
  refine (oreg_any _ d).mono ?_
  rintro en w' ⟨rfl, rfl⟩
  go_wp2_with fail
  refine behindH (Or.inl ⟨m1, m3, m4, m6⟩) ?_
  try simp only [List.setIfInBounds_toArray, List.set_cons_zero, List.set_cons_succ]
  refine walkHd _ rfl rfl ?_
  go_wp2_with fail
  refine (oslot_any _ imm hi1 hi2).mono ?_
  rintro en w' ⟨rfl, rfl⟩
  go_wp2_with fail
  refine behindH (Or.inl ⟨m1, m3, m4, m6⟩) ?_
  refine walkH_still _ ?v12 rfl rfl rfl ?vy12 ?_
  case vy12 => intro w hS; go_simp; first | done | with_reducible rfl
  simp only [Act.put]
  refine walkH_still _ ?v13 rfl rfl rfl ?vy13 ?_
  case vy13 => intro w hS; go_simp; first | done | with_reducible rfl
  simp only [Act.put]
  refine walkH_still _ ?v14 rfl rfl rfl ?vy14 ?_
  case vy14 => intro w hS; go_simp; first | done | with_reducible rfl
  simp only [Act.put]
  try simp only [List.setIfInBounds_toArray, List.set_cons_zero, List.set_cons_succ]
  refine walkHd _ rfl rfl ?_
  go_wp2_with fail
  refine behindH (Or.inr rfl) (walkH_nil ?_)
  try simp only [List.setIfInBounds_toArray, List.set_cons_zero, List.set_cons_succ]
  obtain ⟨Wd, hWd⟩ : ∃ Wd, Wd = W1.drew := ⟨_, rfl⟩
  have d0 : Wd.cell? ⟨w.heap.size, 0, none⟩ = some (.int .i64 op) := by rw [hWd]; exact m0
  have d6 : Wd.cell? ⟨w.heap.size, 6, none⟩ = some (.int .i32 imm) := by rw [hWd]; exact m6
  have HOd := Lib.hid (show OwnWords B Wd m l by rw [hWd]; exact HO.out)
  have HBd := Lib.hid (show Below B w Wd by rw [hWd]; exact HB.out.drew)
  rw [← hWd]
  clear hWd m0 m1 m3 m4 m6 HO HB HSW
  clear W1
  have HO := HOd
  have HB := HBd
  clear HOd HBd
  go_wp2_with fail
  have HP := Lib.hid (show DoRes B m l ⟨op, d, e, a, b, c, imm, n⟩ w (.returned (.tuple #[])) Wd from ⟨rfl, by rw [HD.out]; exact HO.out, HB.out⟩)
  go_wp2
  refine ⟨rfl, .tuple #[], by simp only [results]; go_simp, ?_⟩
  exact HP.out
set_option maxRecDepth 100000 in
set_option maxHeartbeats 2000000 in
theorem do_any (w : World) (v pv : Value) (l : List PM) (p : List Int) (hv : PmsAt w v l) (hp : WordsAt w pv p) (hl : l.length ≤ 1000000) (hpl : p.length ≤ 1000000) :
    Calls Try.prog 18 #[v, pv] w (OwnPost (doN l p) w) := by
  have HV := Lib.hid hv
  have HP := Lib.hid hp
  obtain ⟨A, c, b0, o0, rfl, h1, h2, -⟩ := hv
  obtain ⟨Ap, cp, rfl, h3, h4, -⟩ := hp
  unfold maxLen at h2 h4
  go_enter Try.func18, Try.ntmps18
  go_wp2_with fail
  refine (clone_any _ _ p HP.out hpl).mono ?_
  rintro e w1 ⟨v1, rfl, hv1, hb1⟩
  have HS := Lib.hid (show DoS w.heap.size w l p 0 v1 w1 from ⟨hv1, hb1⟩)
  clear hv1 hb1
  go_wp2_with fail
  go_loopw [7, 12] (fun _ i wr => ∃ k : Nat, k ≤ l.length ∧ i = .int .i64 k ∧ DoS w.heap.size w l p k v1 wr) (fun _ i _ => l.length - (intOf i).toNat)
  case atStart => exact ⟨0, Nat.zero_le _, rfl, HS.out⟩
  case round =>
    obtain ⟨k, hk, rfl, hS⟩ := hrel
    have HR := Lib.hid hS
    clear hS HS
    by_cases hlt : k < l.length
    · obtain ⟨A', c', gb, ob, e, -, -, hA, hc⟩ := HV.out
      injection e with e1 e2 e3
      subst e1 e3
      obtain rfl : A = some ⟨gb, ob, none⟩ := hA (by omega)
      obtain ⟨hc0, hc1, hc2, hc3, hc4, hc5, hc6, ⟨oA, oc, hc7⟩, hi1, hi2, hn7⟩ := PmAt.keep (w := w) (w' := wr) HR.out.2 _ _ _ (hc k hlt)
      unfold maxLen at hn7
      have HK := Lib.hid (foldl_take doI p l k hlt)
      clear hc hA
      have HM := Lib.hid (show l[k] = ⟨l[k].op, l[k].d, l[k].e, l[k].a, l[k].b, l[k].c, l[k].imm, l[k].n⟩ from rfl)
      generalize l[k].op = o0 at *
      generalize l[k].d = o1 at *
      generalize l[k].e = o2 at *
      generalize l[k].a = o3 at *
      generalize l[k].b = o4 at *
      generalize l[k].c = o5 at *
      generalize l[k].imm = o6 at *
      generalize l[k].n = o7 at *
      go_wp2_with fail
      obtain ⟨W1, hW1⟩ : ∃ W1, wr.alloc (.cells #[.int .i64 o0, .int .i64 o1, .int .i64 o2, .int .i64 o3, .int .i64 o4, .int .i64 o5, .int .i32 o6, .slice oA o7 oc] 48) = W1 := ⟨_, rfl⟩
      have hbW1 : Below wr.heap.size wr W1 := by rw [← hW1]; exact (Below.refl _ _).alloc (Nat.le_refl _) _
      have hsW1 : Str W1 wr.heap.size 48 [.int .i64 o0, .int .i64 o1, .int .i64 o2, .int .i64 o3, .int .i64 o4, .int .i64 o5, .int .i32 o6, .slice oA o7 oc] := by rw [← hW1]; exact World.alloc_heap_new wr _
      rw [hW1]
      clear hW1 hc0 hc1 hc2 hc3 hc4 hc5 hc6 hc7
      have m0 : W1.cell? ⟨wr.heap.size, 0, none⟩ = some (.int .i64 o0) := hsW1.cell 0
      have m1 : W1.cell? ⟨wr.heap.size, 1, none⟩ = some (.int .i64 o1) := hsW1.cell 1
      have m2 : W1.cell? ⟨wr.heap.size, 2, none⟩ = some (.int .i64 o2) := hsW1.cell 2
      have m3 : W1.cell? ⟨wr.heap.size, 3, none⟩ = some (.int .i64 o3) := hsW1.cell 3
      have m4 : W1.cell? ⟨wr.heap.size, 4, none⟩ = some (.int .i64 o4) := hsW1.cell 4
      have m5 : W1.cell? ⟨wr.heap.size, 5, none⟩ = some (.int .i64 o5) := hsW1.cell 5
      have m6 : W1.cell? ⟨wr.heap.size, 6, none⟩ = some (.int .i32 o6) := hsW1.cell 6
      have m7 : W1.cell? ⟨wr.heap.size, 7, none⟩ = some (.slice oA o7 oc) := hsW1.cell 7
      have HO := Lib.hid (OwnWords.below HR.out.1 hbW1)
      have HB := Lib.hid (HR.out.2.trans (hbW1.mono HR.out.2.size))
      clear hsW1 hbW1
      go_wp2_with fail
      refine (rdo_any _ w.heap.size v1 _ o0 o1 o2 o3 o4 o5 o6 oA o7 oc HO.out HB.out.size hi1 hi2).mono ?_
      rintro en w2 ⟨rfl, ho, hb2⟩
      have HS' := Lib.hid (show DoS w.heap.size w l p (k + 1) v1 w2 from ⟨by rw [HK.out, HM.out]; exact ho, HB.out.trans hb2⟩)
      clear ho hb2
      go_wp2
      go_roundw
      case rel => exact ⟨k + 1, by omega, by go_num, HS'.out⟩
      case measure => simp [intOf]; omega
    · obtain rfl : k = l.length := by omega
      go_wp2
      go_ret
      have := HR.out.1
      rw [List.take_length] at this
      exact ⟨_, rfl, by unfold doN; exact this, HR.out.2⟩
theorem box_kept {w w' : World} {B g k : Nat} {v u : Value} {x : List Int} {U : List Value} (ho : OwnWords B w v x) (hs : Str w g 48 U) (hc : w.cell? ⟨g, k, none⟩ = some u) (hg : w.grownBy w' v.ownBlock) : w'.cell? ⟨g, k, none⟩ = some u := by
  rw [World.cell?_of_block (hg.block g hs.lt (hs.not_row (by decide) ho))]; exact hc
set_option maxRecDepth 100000 in
set_option maxHeartbeats 4000000 in
theorem fdo_any (w : World) (v pv : Value) (l : List PM) (p : List Int) (hv : PmsAt w v l) (hp : WordsAt w pv p) (hl : l.length ≤ 1000000) (hpl : p.length ≤ 1000000) :
    Calls Try.prog 19 #[v, pv] w (OwnPost (doN l p) w) := by
  have HV := Lib.hid hv
  have HP := Lib.hid hp
  obtain ⟨A, c, b0, o0, rfl, h1, h2, -⟩ := hv
  obtain ⟨Ap, cp, rfl, h3, h4, -⟩ := hp
  unfold maxLen at h2 h4
  go_enter Try.func19, Try.ntmps19
  go_wp2_with (at_builtin; refine wpList_own0 rfl _ _ rfl rfl w.heap.size _ p rfl (own_empty w) (WordsAt.below HP.out ((Below.refl _ _).alloc (Nat.le_refl _) _)) hpl (by simp) ?_; intro v1 w1 hv1 hg1)
  have hb1 : Below w.heap.size w w1 := ((Below.refl _ w).alloc (Nat.le_refl _) _).grown hg1 (by simp) (fun j e => by cases e; exact Nat.le_refl _)
  have HS := Lib.hid (show DoS w.heap.size w l p 0 v1 w1 from ⟨hv1, hb1⟩)
  clear hv1 hb1 hg1
  go_wp2_with fail
  go_loopw [6, 7, 8, 9] (fun i _ _ _ wr => ∃ k : Nat, k ≤ l.length ∧ i = .int .i64 k ∧ DoS w.heap.size w l p k v1 wr) (fun i _ _ _ _ => l.length - (intOf i).toNat)
  case atStart => exact ⟨0, Nat.zero_le _, rfl, HS.out⟩
  case round =>
    obtain ⟨k, hk, rfl, hS⟩ := hrel
    have HR := Lib.hid hS
    clear hS HS
    by_cases hlt : k < l.length
    · obtain ⟨A', c', gb, ob, e, -, -, hA, hc⟩ := HV.out
      injection e with e1 e2 e3
      subst e1 e3
      obtain rfl : A = some ⟨gb, ob, none⟩ := hA (by omega)
      obtain ⟨hc0, hc1, hc2, hc3, hc4, hc5, hc6, ⟨oA, oc, hc7⟩, hi1, hi2, hn7⟩ := PmAt.keep (w := w) (w' := wr) HR.out.2 _ _ _ (hc k hlt)
      unfold maxLen at hn7
      have HK := Lib.hid (foldl_take doI p l k hlt)
      clear hc hA
      have HM := Lib.hid (show l[k] = ⟨l[k].op, l[k].d, l[k].e, l[k].a, l[k].b, l[k].c, l[k].imm, l[k].n⟩ from rfl)
      generalize l[k].op = o0 at *
      generalize l[k].d = o1 at *
      generalize l[k].e = o2 at *
      generalize l[k].a = o3 at *
      generalize l[k].b = o4 at *
      generalize l[k].c = o5 at *
      generalize l[k].imm = o6 at *
      generalize l[k].n = o7 at *
      have HR1 := Lib.hid HR.out.1
      have HRB := Lib.hid HR.out.2
      clear HR
      generalize (l.take k).foldl doI p = x at *
      by_cases q1 : o0 = 1
      · subst q1
        have HD := Lib.hid (show doI x ⟨1, o1, o2, o3, o4, o5, o6, o7⟩ = putL x (regP o1) (atV x (regP o3)) from rfl)
        go_wp2_with fail
        obtain ⟨W1, hW1⟩ : ∃ W1, wr.alloc (.cells #[.int .i64 1, .int .i64 o1, .int .i64 o2, .int .i64 o3, .int .i64 o4, .int .i64 o5, .int .i32 o6, .slice oA o7 oc] 48) = W1 := ⟨_, rfl⟩
        have hbW1 : Below wr.heap.size wr W1 := by rw [← hW1]; exact (Below.refl _ _).alloc (Nat.le_refl _) _
        have hsW1 : Str W1 wr.heap.size 48 [.int .i64 1, .int .i64 o1, .int .i64 o2, .int .i64 o3, .int .i64 o4, .int .i64 o5, .int .i32 o6, .slice oA o7 oc] := by rw [← hW1]; exact World.alloc_heap_new wr _
        rw [hW1]
        clear hW1 hc0 hc1 hc2 hc3 hc4 hc5 hc6 hc7
        have m0 : W1.cell? ⟨wr.heap.size, 0, none⟩ = some (.int .i64 1) := hsW1.cell 0
        have m1 : W1.cell? ⟨wr.heap.size, 1, none⟩ = some (.int .i64 o1) := hsW1.cell 1
        have m2 : W1.cell? ⟨wr.heap.size, 2, none⟩ = some (.int .i64 o2) := hsW1.cell 2
        have m3 : W1.cell? ⟨wr.heap.size, 3, none⟩ = some (.int .i64 o3) := hsW1.cell 3
        have m4 : W1.cell? ⟨wr.heap.size, 4, none⟩ = some (.int .i64 o4) := hsW1.cell 4
        have m5 : W1.cell? ⟨wr.heap.size, 5, none⟩ = some (.int .i64 o5) := hsW1.cell 5
        have m6 : W1.cell? ⟨wr.heap.size, 6, none⟩ = some (.int .i32 o6) := hsW1.cell 6
        have m7 : W1.cell? ⟨wr.heap.size, 7, none⟩ = some (.slice oA o7 oc) := hsW1.cell 7
        have HO := Lib.hid (OwnWords.below HR1.out hbW1)
        have HB := Lib.hid (HRB.out.trans (hbW1.mono HRB.out.size))
        have HRS := Lib.hid hsW1
        clear hsW1 hbW1
        refine region_heldT_wp (fun w' => w'.cell? ⟨wr.heap.size, 1, none⟩ = some (.int .i64 o1) ∧ w'.cell? ⟨wr.heap.size, 3, none⟩ = some (.int .i64 o3)) [0, 1, 2, 4, 5, 6] [0, 1, 2, 4, 5, 6, 3, 7, 8, 9] 9 (by kernel_rfl) (by kernel_rfl) (by kernel_rfl) (by kernel_rfl) rfl (by intro c a d v w h; cases d <;> exact h) ⟨m1, m3⟩ ?_
        refine walkH_still _ ?q1x0 rfl rfl rfl ?q1xy0 ?_
        case q1xy0 => intro w hS; go_simp; first | done | with_reducible rfl
        simp only [Act.put]
        refine walkH_still _ ?q1x1 rfl rfl rfl ?q1xy1 ?_
        case q1xy1 => intro w hS; go_simp; first | done | with_reducible rfl
        simp only [Act.put]
        refine walkH_still _ ?q1x2 rfl rfl rfl ?q1xy2 ?_
        case q1xy2 => intro w hS; go_simp; first | done | with_reducible rfl
        simp only [Act.put]
        refine walkH_still _ ?q1x4 rfl rfl rfl ?q1xy4 ?_
        case q1xy4 => intro w hS; go_simp; first | done | with_reducible rfl
        simp only [Act.put]
        refine walkH_still _ ?q1x5 rfl rfl rfl ?q1xy5 ?_
        case q1xy5 => intro w hS; go_simp; first | done | with_reducible rfl
        simp only [Act.put]
        refine walkH_still _ ?q1x6 rfl rfl rfl ?q1xy6 ?_
        case q1xy6 => intro w hS; go_simp; first | done | with_reducible rfl
        simp only [Act.put]
        try simp only [List.setIfInBounds_toArray, List.set_cons_zero, List.set_cons_succ]
        refine walkHd _ rfl rfl ?_
        go_wp2_with fail
        refine (freg_any _ o1).mono ?_
        rintro en w' ⟨rfl, hw'⟩
        obtain rfl : _ = w' := hw'.symm
        go_wp2_with fail
        refine behindH (Or.inl ⟨m1, m3⟩) ?_
        try simp only [List.setIfInBounds_toArray, List.set_cons_zero, List.set_cons_succ]
        refine walkHd _ rfl rfl ?_
        go_wp2_with fail
        refine (freg_any _ o3).mono ?_
        rintro en w' ⟨rfl, hw'⟩
        obtain rfl : _ = w' := hw'.symm
        go_wp2_with fail
        refine behindH (Or.inl ⟨m1, m3⟩) ?_
        try simp only [List.setIfInBounds_toArray, List.set_cons_zero, List.set_cons_succ]
        refine walkHd _ rfl rfl ?_
        go_wp2_with fail
        refine (fat_any W1.drew v1 x (regP o3) (words_of_own (B := w.heap.size) (show OwnWords w.heap.size W1.drew v1 x from HO.out))).mono ?_
        rintro en w' ⟨rfl, hw'⟩
        subst hw'
        go_wp2_with fail
        refine behindH (Or.inl ⟨m1, m3⟩) ?_
        try simp only [List.setIfInBounds_toArray, List.set_cons_zero, List.set_cons_succ]
        refine walkHd _ rfl rfl ?_
        go_wp2_with fail
        refine (fput_any W1.drew w.heap.size v1 x (regP o1) (atV x (regP o3)) (show OwnWords w.heap.size W1.drew v1 x from HO.out)).mono ?_
        rintro en w2 ⟨rfl, ho, hg⟩
        have HS' := Lib.hid (show DoS w.heap.size w l p (k + 1) v1 w2 from ⟨by rw [HK.out, HM.out, HD.out]; exact ho, HB.out.drew.trans (below_row (w := W1.drew) (show OwnWords w.heap.size W1.drew v1 x from HO.out) (by have := HB.out.size; exact this) hg)⟩)
        clear ho hg
        go_wp2_with fail
        refine behindH (Or.inr rfl) (walkH_nil ?_)
        go_wp2
        go_roundw
        case rel => exact ⟨k + 1, by omega, by go_num, HS'.out⟩
        case measure => simp [intOf]; omega
      by_cases q2 : o0 = 2
      · subst q2
        have HD := Lib.hid (show doI x ⟨2, o1, o2, o3, o4, o5, o6, o7⟩ = putL (putL x (regP o3) (atV x (regP o4))) (regP o4) (atV x (regP o3)) from rfl)
        go_wp2_with fail
        obtain ⟨W1, hW1⟩ : ∃ W1, wr.alloc (.cells #[.int .i64 2, .int .i64 o1, .int .i64 o2, .int .i64 o3, .int .i64 o4, .int .i64 o5, .int .i32 o6, .slice oA o7 oc] 48) = W1 := ⟨_, rfl⟩
        have hbW1 : Below wr.heap.size wr W1 := by rw [← hW1]; exact (Below.refl _ _).alloc (Nat.le_refl _) _
        have hsW1 : Str W1 wr.heap.size 48 [.int .i64 2, .int .i64 o1, .int .i64 o2, .int .i64 o3, .int .i64 o4, .int .i64 o5, .int .i32 o6, .slice oA o7 oc] := by rw [← hW1]; exact World.alloc_heap_new wr _
        rw [hW1]
        clear hW1 hc0 hc1 hc2 hc3 hc4 hc5 hc6 hc7
        have m0 : W1.cell? ⟨wr.heap.size, 0, none⟩ = some (.int .i64 2) := hsW1.cell 0
        have m1 : W1.cell? ⟨wr.heap.size, 1, none⟩ = some (.int .i64 o1) := hsW1.cell 1
        have m2 : W1.cell? ⟨wr.heap.size, 2, none⟩ = some (.int .i64 o2) := hsW1.cell 2
        have m3 : W1.cell? ⟨wr.heap.size, 3, none⟩ = some (.int .i64 o3) := hsW1.cell 3
        have m4 : W1.cell? ⟨wr.heap.size, 4, none⟩ = some (.int .i64 o4) := hsW1.cell 4
        have m5 : W1.cell? ⟨wr.heap.size, 5, none⟩ = some (.int .i64 o5) := hsW1.cell 5
        have m6 : W1.cell? ⟨wr.heap.size, 6, none⟩ = some (.int .i32 o6) := hsW1.cell 6
        have m7 : W1.cell? ⟨wr.heap.size, 7, none⟩ = some (.slice oA o7 oc) := hsW1.cell 7
        have HO := Lib.hid (OwnWords.below HR1.out hbW1)
        have HB := Lib.hid (HRB.out.trans (hbW1.mono HRB.out.size))
        have HRS := Lib.hid hsW1
        clear hsW1 hbW1
        refine (freg_any W1 o3).mono ?_
        rintro en w' ⟨rfl, hw'⟩
        obtain rfl : W1 = w' := hw'.symm
        go_wp2_with fail
        refine (fat_any W1 v1 x (regP o3) (words_of_own (B := w.heap.size) (show OwnWords w.heap.size W1 v1 x from HO.out))).mono ?_
        rintro en w' ⟨rfl, hw'⟩
        obtain rfl : W1 = w' := hw'.symm
        go_wp2_with fail
        refine (freg_any W1 o4).mono ?_
        rintro en w' ⟨rfl, hw'⟩
        obtain rfl : W1 = w' := hw'.symm
        go_wp2_with fail
        refine (fat_any W1 v1 x (regP o4) (words_of_own (B := w.heap.size) (show OwnWords w.heap.size W1 v1 x from HO.out))).mono ?_
        rintro en w' ⟨rfl, hw'⟩
        obtain rfl : W1 = w' := hw'.symm
        go_wp2_with fail
        refine (freg_any W1 o3).mono ?_
        rintro en w' ⟨rfl, hw'⟩
        obtain rfl : W1 = w' := hw'.symm
        go_wp2_with fail
        refine (fput_any W1 w.heap.size v1 x (regP o3) (atV x (regP o4)) (show OwnWords w.heap.size W1 v1 x from HO.out)).mono ?_
        rintro en w2 ⟨rfl, ho, hg⟩
        have HO2 := Lib.hid ho
        have HB2 := Lib.hid (HB.out.trans (below_row HO.out HB.out.size hg))
        have n4 : w2.cell? ⟨wr.heap.size, 4, none⟩ = some (.int .i64 o4) := box_kept HO.out HRS.out m4 hg
        clear ho hg
        go_wp2_with fail
        refine (freg_any w2 o4).mono ?_
        rintro en w' ⟨rfl, hw'⟩
        obtain rfl : w2 = w' := hw'.symm
        go_wp2_with fail
        refine (fput_any w2 w.heap.size v1 (putL x (regP o3) (atV x (regP o4))) (regP o4) (atV x (regP o3)) (show OwnWords w.heap.size w2 v1 (putL x (regP o3) (atV x (regP o4))) from HO2.out)).mono ?_
        rintro en w3 ⟨rfl, ho, hg⟩
        have HS' := Lib.hid (show DoS w.heap.size w l p (k + 1) v1 w3 from ⟨by rw [HK.out, HM.out, HD.out]; exact ho, HB2.out.trans (below_row HO2.out HB2.out.size hg)⟩)
        clear ho hg
        go_wp2
        go_roundw
        case rel => exact ⟨k + 1, by omega, by go_num, HS'.out⟩
        case measure => simp [intOf]; omega
      by_cases q3 : o0 = 3
      · subst q3
        have HD := Lib.hid (show doI x ⟨3, o1, o2, o3, o4, o5, o6, o7⟩ = putL x (regP o1) o6 from rfl)
        go_wp2_with fail
        obtain ⟨W1, hW1⟩ : ∃ W1, wr.alloc (.cells #[.int .i64 3, .int .i64 o1, .int .i64 o2, .int .i64 o3, .int .i64 o4, .int .i64 o5, .int .i32 o6, .slice oA o7 oc] 48) = W1 := ⟨_, rfl⟩
        have hbW1 : Below wr.heap.size wr W1 := by rw [← hW1]; exact (Below.refl _ _).alloc (Nat.le_refl _) _
        have hsW1 : Str W1 wr.heap.size 48 [.int .i64 3, .int .i64 o1, .int .i64 o2, .int .i64 o3, .int .i64 o4, .int .i64 o5, .int .i32 o6, .slice oA o7 oc] := by rw [← hW1]; exact World.alloc_heap_new wr _
        rw [hW1]
        clear hW1 hc0 hc1 hc2 hc3 hc4 hc5 hc6 hc7
        have m0 : W1.cell? ⟨wr.heap.size, 0, none⟩ = some (.int .i64 3) := hsW1.cell 0
        have m1 : W1.cell? ⟨wr.heap.size, 1, none⟩ = some (.int .i64 o1) := hsW1.cell 1
        have m2 : W1.cell? ⟨wr.heap.size, 2, none⟩ = some (.int .i64 o2) := hsW1.cell 2
        have m3 : W1.cell? ⟨wr.heap.size, 3, none⟩ = some (.int .i64 o3) := hsW1.cell 3
        have m4 : W1.cell? ⟨wr.heap.size, 4, none⟩ = some (.int .i64 o4) := hsW1.cell 4
        have m5 : W1.cell? ⟨wr.heap.size, 5, none⟩ = some (.int .i64 o5) := hsW1.cell 5
        have m6 : W1.cell? ⟨wr.heap.size, 6, none⟩ = some (.int .i32 o6) := hsW1.cell 6
        have m7 : W1.cell? ⟨wr.heap.size, 7, none⟩ = some (.slice oA o7 oc) := hsW1.cell 7
        have HO := Lib.hid (OwnWords.below HR1.out hbW1)
        have HB := Lib.hid (HRB.out.trans (hbW1.mono HRB.out.size))
        have HRS := Lib.hid hsW1
        clear hsW1 hbW1
        refine region_heldT_wp (fun w' => w'.cell? ⟨wr.heap.size, 1, none⟩ = some (.int .i64 o1) ∧ w'.cell? ⟨wr.heap.size, 6, none⟩ = some (.int .i32 o6)) [0, 1, 2, 4, 5] [0, 1, 2, 4, 5, 3, 6] 6 (by kernel_rfl) (by kernel_rfl) (by kernel_rfl) (by kernel_rfl) rfl (by intro c a d v w h; cases d <;> exact h) ⟨m1, m6⟩ ?_
        refine walkH_still _ ?q3x0 rfl rfl rfl ?q3xy0 ?_
        case q3xy0 => intro w hS; go_simp; first | done | with_reducible rfl
        simp only [Act.put]
        refine walkH_still _ ?q3x1 rfl rfl rfl ?q3xy1 ?_
        case q3xy1 => intro w hS; go_simp; first | done | with_reducible rfl
        simp only [Act.put]
        refine walkH_still _ ?q3x2 rfl rfl rfl ?q3xy2 ?_
        case q3xy2 => intro w hS; go_simp; first | done | with_reducible rfl
        simp only [Act.put]
        refine walkH_still _ ?q3x4 rfl rfl rfl ?q3xy4 ?_
        case q3xy4 => intro w hS; go_simp; first | done | with_reducible rfl
        simp only [Act.put]
        refine walkH_still _ ?q3x5 rfl rfl rfl ?q3xy5 ?_
        case q3xy5 => intro w hS; go_simp; first | done | with_reducible rfl
        simp only [Act.put]
        try simp only [List.setIfInBounds_toArray, List.set_cons_zero, List.set_cons_succ]
        refine walkHd _ rfl rfl ?_
        go_wp2_with fail
        refine (freg_any _ o1).mono ?_
        rintro en w' ⟨rfl, hw'⟩
        obtain rfl : _ = w' := hw'.symm
        go_wp2_with fail
        refine behindH (Or.inl ⟨m1, m6⟩) ?_
        try simp only [List.setIfInBounds_toArray, List.set_cons_zero, List.set_cons_succ]
        refine walkHd _ rfl rfl ?_
        go_wp2_with fail
        refine (fput_any W1.drew w.heap.size v1 x (regP o1) (o6) (show OwnWords w.heap.size W1.drew v1 x from HO.out)).mono ?_
        rintro en w2 ⟨rfl, ho, hg⟩
        have HS' := Lib.hid (show DoS w.heap.size w l p (k + 1) v1 w2 from ⟨by rw [HK.out, HM.out, HD.out]; exact ho, HB.out.drew.trans (below_row (w := W1.drew) (show OwnWords w.heap.size W1.drew v1 x from HO.out) (by have := HB.out.size; exact this) hg)⟩)
        clear ho hg
        go_wp2_with fail
        refine behindH (Or.inr rfl) (walkH_nil ?_)
        go_wp2
        go_roundw
        case rel => exact ⟨k + 1, by omega, by go_num, HS'.out⟩
        case measure => simp [intOf]; omega
      by_cases q4 : o0 = 4
      · subst q4
        have HD := Lib.hid (show doI x ⟨4, o1, o2, o3, o4, o5, o6, o7⟩ = putL x (regP o1) o6 from rfl)
        go_wp2_with fail
        obtain ⟨W1, hW1⟩ : ∃ W1, wr.alloc (.cells #[.int .i64 4, .int .i64 o1, .int .i64 o2, .int .i64 o3, .int .i64 o4, .int .i64 o5, .int .i32 o6, .slice oA o7 oc] 48) = W1 := ⟨_, rfl⟩
        have hbW1 : Below wr.heap.size wr W1 := by rw [← hW1]; exact (Below.refl _ _).alloc (Nat.le_refl _) _
        have hsW1 : Str W1 wr.heap.size 48 [.int .i64 4, .int .i64 o1, .int .i64 o2, .int .i64 o3, .int .i64 o4, .int .i64 o5, .int .i32 o6, .slice oA o7 oc] := by rw [← hW1]; exact World.alloc_heap_new wr _
        rw [hW1]
        clear hW1 hc0 hc1 hc2 hc3 hc4 hc5 hc6 hc7
        have m0 : W1.cell? ⟨wr.heap.size, 0, none⟩ = some (.int .i64 4) := hsW1.cell 0
        have m1 : W1.cell? ⟨wr.heap.size, 1, none⟩ = some (.int .i64 o1) := hsW1.cell 1
        have m2 : W1.cell? ⟨wr.heap.size, 2, none⟩ = some (.int .i64 o2) := hsW1.cell 2
        have m3 : W1.cell? ⟨wr.heap.size, 3, none⟩ = some (.int .i64 o3) := hsW1.cell 3
        have m4 : W1.cell? ⟨wr.heap.size, 4, none⟩ = some (.int .i64 o4) := hsW1.cell 4
        have m5 : W1.cell? ⟨wr.heap.size, 5, none⟩ = some (.int .i64 o5) := hsW1.cell 5
        have m6 : W1.cell? ⟨wr.heap.size, 6, none⟩ = some (.int .i32 o6) := hsW1.cell 6
        have m7 : W1.cell? ⟨wr.heap.size, 7, none⟩ = some (.slice oA o7 oc) := hsW1.cell 7
        have HO := Lib.hid (OwnWords.below HR1.out hbW1)
        have HB := Lib.hid (HRB.out.trans (hbW1.mono HRB.out.size))
        have HRS := Lib.hid hsW1
        clear hsW1 hbW1
        refine region_heldT_wp (fun w' => w'.cell? ⟨wr.heap.size, 1, none⟩ = some (.int .i64 o1) ∧ w'.cell? ⟨wr.heap.size, 6, none⟩ = some (.int .i32 o6)) [0, 1, 2, 4, 5] [0, 1, 2, 4, 5, 3, 6] 6 (by kernel_rfl) (by kernel_rfl) (by kernel_rfl) (by kernel_rfl) rfl (by intro c a d v w h; cases d <;> exact h) ⟨m1, m6⟩ ?_
        refine walkH_still _ ?q4x0 rfl rfl rfl ?q4xy0 ?_
        case q4xy0 => intro w hS; go_simp; first | done | with_reducible rfl
        simp only [Act.put]
        refine walkH_still _ ?q4x1 rfl rfl rfl ?q4xy1 ?_
        case q4xy1 => intro w hS; go_simp; first | done | with_reducible rfl
        simp only [Act.put]
        refine walkH_still _ ?q4x2 rfl rfl rfl ?q4xy2 ?_
        case q4xy2 => intro w hS; go_simp; first | done | with_reducible rfl
        simp only [Act.put]
        refine walkH_still _ ?q4x4 rfl rfl rfl ?q4xy4 ?_
        case q4xy4 => intro w hS; go_simp; first | done | with_reducible rfl
        simp only [Act.put]
        refine walkH_still _ ?q4x5 rfl rfl rfl ?q4xy5 ?_
        case q4xy5 => intro w hS; go_simp; first | done | with_reducible rfl
        simp only [Act.put]
        try simp only [List.setIfInBounds_toArray, List.set_cons_zero, List.set_cons_succ]
        refine walkHd _ rfl rfl ?_
        go_wp2_with fail
        refine (freg_any _ o1).mono ?_
        rintro en w' ⟨rfl, hw'⟩
        obtain rfl : _ = w' := hw'.symm
        go_wp2_with fail
        refine behindH (Or.inl ⟨m1, m6⟩) ?_
        try simp only [List.setIfInBounds_toArray, List.set_cons_zero, List.set_cons_succ]
        refine walkHd _ rfl rfl ?_
        go_wp2_with fail
        refine (fput_any W1.drew w.heap.size v1 x (regP o1) (o6) (show OwnWords w.heap.size W1.drew v1 x from HO.out)).mono ?_
        rintro en w2 ⟨rfl, ho, hg⟩
        have HS' := Lib.hid (show DoS w.heap.size w l p (k + 1) v1 w2 from ⟨by rw [HK.out, HM.out, HD.out]; exact ho, HB.out.drew.trans (below_row (w := W1.drew) (show OwnWords w.heap.size W1.drew v1 x from HO.out) (by have := HB.out.size; exact this) hg)⟩)
        clear ho hg
        go_wp2_with fail
        refine behindH (Or.inr rfl) (walkH_nil ?_)
        go_wp2
        go_roundw
        case rel => exact ⟨k + 1, by omega, by go_num, HS'.out⟩
        case measure => simp [intOf]; omega
      by_cases q30 : o0 = 30
      · subst q30
        have HD := Lib.hid (show doI x ⟨30, o1, o2, o3, o4, o5, o6, o7⟩ = putL x (regP o1) (atV x (slotP o6)) from rfl)
        go_wp2_with fail
        obtain ⟨W1, hW1⟩ : ∃ W1, wr.alloc (.cells #[.int .i64 30, .int .i64 o1, .int .i64 o2, .int .i64 o3, .int .i64 o4, .int .i64 o5, .int .i32 o6, .slice oA o7 oc] 48) = W1 := ⟨_, rfl⟩
        have hbW1 : Below wr.heap.size wr W1 := by rw [← hW1]; exact (Below.refl _ _).alloc (Nat.le_refl _) _
        have hsW1 : Str W1 wr.heap.size 48 [.int .i64 30, .int .i64 o1, .int .i64 o2, .int .i64 o3, .int .i64 o4, .int .i64 o5, .int .i32 o6, .slice oA o7 oc] := by rw [← hW1]; exact World.alloc_heap_new wr _
        rw [hW1]
        clear hW1 hc0 hc1 hc2 hc3 hc4 hc5 hc6 hc7
        have m0 : W1.cell? ⟨wr.heap.size, 0, none⟩ = some (.int .i64 30) := hsW1.cell 0
        have m1 : W1.cell? ⟨wr.heap.size, 1, none⟩ = some (.int .i64 o1) := hsW1.cell 1
        have m2 : W1.cell? ⟨wr.heap.size, 2, none⟩ = some (.int .i64 o2) := hsW1.cell 2
        have m3 : W1.cell? ⟨wr.heap.size, 3, none⟩ = some (.int .i64 o3) := hsW1.cell 3
        have m4 : W1.cell? ⟨wr.heap.size, 4, none⟩ = some (.int .i64 o4) := hsW1.cell 4
        have m5 : W1.cell? ⟨wr.heap.size, 5, none⟩ = some (.int .i64 o5) := hsW1.cell 5
        have m6 : W1.cell? ⟨wr.heap.size, 6, none⟩ = some (.int .i32 o6) := hsW1.cell 6
        have m7 : W1.cell? ⟨wr.heap.size, 7, none⟩ = some (.slice oA o7 oc) := hsW1.cell 7
        have HO := Lib.hid (OwnWords.below HR1.out hbW1)
        have HB := Lib.hid (HRB.out.trans (hbW1.mono HRB.out.size))
        have HRS := Lib.hid hsW1
        clear hsW1 hbW1
        refine region_heldT_wp (fun w' => w'.cell? ⟨wr.heap.size, 1, none⟩ = some (.int .i64 o1) ∧ w'.cell? ⟨wr.heap.size, 6, none⟩ = some (.int .i32 o6)) [0, 1, 2, 4, 5, 6] [0, 1, 2, 4, 5, 6, 3, 7, 8, 9] 9 (by kernel_rfl) (by kernel_rfl) (by kernel_rfl) (by kernel_rfl) rfl (by intro c a d v w h; cases d <;> exact h) ⟨m1, m6⟩ ?_
        refine walkH_still _ ?q30x0 rfl rfl rfl ?q30xy0 ?_
        case q30xy0 => intro w hS; go_simp; first | done | with_reducible rfl
        simp only [Act.put]
        refine walkH_still _ ?q30x1 rfl rfl rfl ?q30xy1 ?_
        case q30xy1 => intro w hS; go_simp; first | done | with_reducible rfl
        simp only [Act.put]
        refine walkH_still _ ?q30x2 rfl rfl rfl ?q30xy2 ?_
        case q30xy2 => intro w hS; go_simp; first | done | with_reducible rfl
        simp only [Act.put]
        refine walkH_still _ ?q30x4 rfl rfl rfl ?q30xy4 ?_
        case q30xy4 => intro w hS; go_simp; first | done | with_reducible rfl
        simp only [Act.put]
        refine walkH_still _ ?q30x5 rfl rfl rfl ?q30xy5 ?_
        case q30xy5 => intro w hS; go_simp; first | done | with_reducible rfl
        simp only [Act.put]
        refine walkH_still _ ?q30x6 rfl rfl rfl ?q30xy6 ?_
        case q30xy6 => intro w hS; go_simp; first | done | with_reducible rfl
        simp only [Act.put]
        try simp only [List.setIfInBounds_toArray, List.set_cons_zero, List.set_cons_succ]
        refine walkHd _ rfl rfl ?_
        go_wp2_with fail
        refine (freg_any _ o1).mono ?_
        rintro en w' ⟨rfl, hw'⟩
        obtain rfl : _ = w' := hw'.symm
        go_wp2_with fail
        refine behindH (Or.inl ⟨m1, m6⟩) ?_
        try simp only [List.setIfInBounds_toArray, List.set_cons_zero, List.set_cons_succ]
        refine walkHd _ rfl rfl ?_
        go_wp2_with fail
        refine (fslot_any _ o6 hi1 hi2).mono ?_
        rintro en w' ⟨rfl, hw'⟩
        obtain rfl : _ = w' := hw'.symm
        go_wp2_with fail
        refine behindH (Or.inl ⟨m1, m6⟩) ?_
        try simp only [List.setIfInBounds_toArray, List.set_cons_zero, List.set_cons_succ]
        refine walkHd _ rfl rfl ?_
        go_wp2_with fail
        refine (fat_any W1.drew v1 x (slotP o6) (words_of_own (B := w.heap.size) (show OwnWords w.heap.size W1.drew v1 x from HO.out))).mono ?_
        rintro en w' ⟨rfl, hw'⟩
        subst hw'
        go_wp2_with fail
        refine behindH (Or.inl ⟨m1, m6⟩) ?_
        try simp only [List.setIfInBounds_toArray, List.set_cons_zero, List.set_cons_succ]
        refine walkHd _ rfl rfl ?_
        go_wp2_with fail
        refine (fput_any W1.drew w.heap.size v1 x (regP o1) (atV x (slotP o6)) (show OwnWords w.heap.size W1.drew v1 x from HO.out)).mono ?_
        rintro en w2 ⟨rfl, ho, hg⟩
        have HS' := Lib.hid (show DoS w.heap.size w l p (k + 1) v1 w2 from ⟨by rw [HK.out, HM.out, HD.out]; exact ho, HB.out.drew.trans (below_row (w := W1.drew) (show OwnWords w.heap.size W1.drew v1 x from HO.out) (by have := HB.out.size; exact this) hg)⟩)
        clear ho hg
        go_wp2_with fail
        refine behindH (Or.inr rfl) (walkH_nil ?_)
        go_wp2
        go_roundw
        case rel => exact ⟨k + 1, by omega, by go_num, HS'.out⟩
        case measure => simp [intOf]; omega
      by_cases q31 : o0 = 31
      · subst q31
        have HD := Lib.hid (show doI x ⟨31, o1, o2, o3, o4, o5, o6, o7⟩ = putL x (slotP o6) (atV x (regP o3)) from rfl)
        go_wp2_with fail
        obtain ⟨W1, hW1⟩ : ∃ W1, wr.alloc (.cells #[.int .i64 31, .int .i64 o1, .int .i64 o2, .int .i64 o3, .int .i64 o4, .int .i64 o5, .int .i32 o6, .slice oA o7 oc] 48) = W1 := ⟨_, rfl⟩
        have hbW1 : Below wr.heap.size wr W1 := by rw [← hW1]; exact (Below.refl _ _).alloc (Nat.le_refl _) _
        have hsW1 : Str W1 wr.heap.size 48 [.int .i64 31, .int .i64 o1, .int .i64 o2, .int .i64 o3, .int .i64 o4, .int .i64 o5, .int .i32 o6, .slice oA o7 oc] := by rw [← hW1]; exact World.alloc_heap_new wr _
        rw [hW1]
        clear hW1 hc0 hc1 hc2 hc3 hc4 hc5 hc6 hc7
        have m0 : W1.cell? ⟨wr.heap.size, 0, none⟩ = some (.int .i64 31) := hsW1.cell 0
        have m1 : W1.cell? ⟨wr.heap.size, 1, none⟩ = some (.int .i64 o1) := hsW1.cell 1
        have m2 : W1.cell? ⟨wr.heap.size, 2, none⟩ = some (.int .i64 o2) := hsW1.cell 2
        have m3 : W1.cell? ⟨wr.heap.size, 3, none⟩ = some (.int .i64 o3) := hsW1.cell 3
        have m4 : W1.cell? ⟨wr.heap.size, 4, none⟩ = some (.int .i64 o4) := hsW1.cell 4
        have m5 : W1.cell? ⟨wr.heap.size, 5, none⟩ = some (.int .i64 o5) := hsW1.cell 5
        have m6 : W1.cell? ⟨wr.heap.size, 6, none⟩ = some (.int .i32 o6) := hsW1.cell 6
        have m7 : W1.cell? ⟨wr.heap.size, 7, none⟩ = some (.slice oA o7 oc) := hsW1.cell 7
        have HO := Lib.hid (OwnWords.below HR1.out hbW1)
        have HB := Lib.hid (HRB.out.trans (hbW1.mono HRB.out.size))
        have HRS := Lib.hid hsW1
        clear hsW1 hbW1
        refine region_heldT_wp (fun w' => w'.cell? ⟨wr.heap.size, 6, none⟩ = some (.int .i32 o6) ∧ w'.cell? ⟨wr.heap.size, 3, none⟩ = some (.int .i64 o3)) [0, 1, 2, 4, 5, 6] [0, 1, 2, 4, 5, 6, 3, 7, 8, 9] 9 (by kernel_rfl) (by kernel_rfl) (by kernel_rfl) (by kernel_rfl) rfl (by intro c a d v w h; cases d <;> exact h) ⟨m6, m3⟩ ?_
        refine walkH_still _ ?q31x0 rfl rfl rfl ?q31xy0 ?_
        case q31xy0 => intro w hS; go_simp; first | done | with_reducible rfl
        simp only [Act.put]
        refine walkH_still _ ?q31x1 rfl rfl rfl ?q31xy1 ?_
        case q31xy1 => intro w hS; go_simp; first | done | with_reducible rfl
        simp only [Act.put]
        refine walkH_still _ ?q31x2 rfl rfl rfl ?q31xy2 ?_
        case q31xy2 => intro w hS; go_simp; first | done | with_reducible rfl
        simp only [Act.put]
        refine walkH_still _ ?q31x4 rfl rfl rfl ?q31xy4 ?_
        case q31xy4 => intro w hS; go_simp; first | done | with_reducible rfl
        simp only [Act.put]
        refine walkH_still _ ?q31x5 rfl rfl rfl ?q31xy5 ?_
        case q31xy5 => intro w hS; go_simp; first | done | with_reducible rfl
        simp only [Act.put]
        refine walkH_still _ ?q31x6 rfl rfl rfl ?q31xy6 ?_
        case q31xy6 => intro w hS; go_simp; first | done | with_reducible rfl
        simp only [Act.put]
        try simp only [List.setIfInBounds_toArray, List.set_cons_zero, List.set_cons_succ]
        refine walkHd _ rfl rfl ?_
        go_wp2_with fail
        refine (fslot_any _ o6 hi1 hi2).mono ?_
        rintro en w' ⟨rfl, hw'⟩
        obtain rfl : _ = w' := hw'.symm
        go_wp2_with fail
        refine behindH (Or.inl ⟨m6, m3⟩) ?_
        try simp only [List.setIfInBounds_toArray, List.set_cons_zero, List.set_cons_succ]
        refine walkHd _ rfl rfl ?_
        go_wp2_with fail
        refine (freg_any _ o3).mono ?_
        rintro en w' ⟨rfl, hw'⟩
        obtain rfl : _ = w' := hw'.symm
        go_wp2_with fail
        refine behindH (Or.inl ⟨m6, m3⟩) ?_
        try simp only [List.setIfInBounds_toArray, List.set_cons_zero, List.set_cons_succ]
        refine walkHd _ rfl rfl ?_
        go_wp2_with fail
        refine (fat_any W1.drew v1 x (regP o3) (words_of_own (B := w.heap.size) (show OwnWords w.heap.size W1.drew v1 x from HO.out))).mono ?_
        rintro en w' ⟨rfl, hw'⟩
        subst hw'
        go_wp2_with fail
        refine behindH (Or.inl ⟨m6, m3⟩) ?_
        try simp only [List.setIfInBounds_toArray, List.set_cons_zero, List.set_cons_succ]
        refine walkHd _ rfl rfl ?_
        go_wp2_with fail
        refine (fput_any W1.drew w.heap.size v1 x (slotP o6) (atV x (regP o3)) (show OwnWords w.heap.size W1.drew v1 x from HO.out)).mono ?_
        rintro en w2 ⟨rfl, ho, hg⟩
        have HS' := Lib.hid (show DoS w.heap.size w l p (k + 1) v1 w2 from ⟨by rw [HK.out, HM.out, HD.out]; exact ho, HB.out.drew.trans (below_row (w := W1.drew) (show OwnWords w.heap.size W1.drew v1 x from HO.out) (by have := HB.out.size; exact this) hg)⟩)
        clear ho hg
        go_wp2_with fail
        refine behindH (Or.inr rfl) (walkH_nil ?_)
        go_wp2
        go_roundw
        case rel => exact ⟨k + 1, by omega, by go_num, HS'.out⟩
        case measure => simp [intOf]; omega
      have hh : o0 ≠ 1 ∧ o0 ≠ 2 ∧ o0 ≠ 3 ∧ o0 ≠ 4 ∧ o0 ≠ 30 ∧ o0 ≠ 31 := ⟨q1, q2, q3, q4, q30, q31⟩
      clear q1 q2 q3 q4 q30 q31
      have HD := Lib.hid (show doI x ⟨o0, o1, o2, o3, o4, o5, o6, o7⟩ = x by unfold doI; simp only []; rw [if_neg hh.1, if_neg hh.2.1, if_neg (by omega), if_neg (by omega), if_neg (by omega)])
      have e1 : (o0 == (1 : Int)) = false := beq_eq_false_iff_ne.2 (by omega)
      have e2 : (o0 == (2 : Int)) = false := beq_eq_false_iff_ne.2 (by omega)
      have e3 : (o0 == (3 : Int)) = false := beq_eq_false_iff_ne.2 (by omega)
      have e4 : (o0 == (4 : Int)) = false := beq_eq_false_iff_ne.2 (by omega)
      have e30 : (o0 == (30 : Int)) = false := beq_eq_false_iff_ne.2 (by omega)
      have e31 : (o0 == (31 : Int)) = false := beq_eq_false_iff_ne.2 (by omega)
      clear hh
      go_wp2_with fail
      obtain ⟨W1, hW1⟩ : ∃ W1, wr.alloc (.cells #[.int .i64 o0, .int .i64 o1, .int .i64 o2, .int .i64 o3, .int .i64 o4, .int .i64 o5, .int .i32 o6, .slice oA o7 oc] 48) = W1 := ⟨_, rfl⟩
      have hbW1 : Below wr.heap.size wr W1 := by rw [← hW1]; exact (Below.refl _ _).alloc (Nat.le_refl _) _
      have hsW1 : Str W1 wr.heap.size 48 [.int .i64 o0, .int .i64 o1, .int .i64 o2, .int .i64 o3, .int .i64 o4, .int .i64 o5, .int .i32 o6, .slice oA o7 oc] := by rw [← hW1]; exact World.alloc_heap_new wr _
      rw [hW1]
      clear hW1 hc0 hc1 hc2 hc3 hc4 hc5 hc6 hc7
      have m0 : W1.cell? ⟨wr.heap.size, 0, none⟩ = some (.int .i64 o0) := hsW1.cell 0
      have m1 : W1.cell? ⟨wr.heap.size, 1, none⟩ = some (.int .i64 o1) := hsW1.cell 1
      have m2 : W1.cell? ⟨wr.heap.size, 2, none⟩ = some (.int .i64 o2) := hsW1.cell 2
      have m3 : W1.cell? ⟨wr.heap.size, 3, none⟩ = some (.int .i64 o3) := hsW1.cell 3
      have m4 : W1.cell? ⟨wr.heap.size, 4, none⟩ = some (.int .i64 o4) := hsW1.cell 4
      have m5 : W1.cell? ⟨wr.heap.size, 5, none⟩ = some (.int .i64 o5) := hsW1.cell 5
      have m6 : W1.cell? ⟨wr.heap.size, 6, none⟩ = some (.int .i32 o6) := hsW1.cell 6
      have m7 : W1.cell? ⟨wr.heap.size, 7, none⟩ = some (.slice oA o7 oc) := hsW1.cell 7
      have HO := Lib.hid (OwnWords.below HR1.out hbW1)
      have HB := Lib.hid (HRB.out.trans (hbW1.mono HRB.out.size))
      have HRS := Lib.hid hsW1
      clear hsW1 hbW1
      have HS' := Lib.hid (show DoS w.heap.size w l p (k + 1) v1 W1 from ⟨by rw [HK.out, HM.out, HD.out]; exact HO.out, HB.out⟩)
      go_wp2
      go_roundw
      case rel => exact ⟨k + 1, by omega, by go_num, HS'.out⟩
      case measure => simp [intOf]; omega
    · obtain rfl : k = l.length := by omega
      go_wp2
      go_ret
      have := HR.out.1
      rw [List.take_length] at this
      exact ⟨_, rfl, by unfold doN; exact this, HR.out.2⟩
end Go.Proofs.Ytdohaoomckhbgaa.Vm
