/- Moves: one place is brought into another one. -/
import Derived.Test.YtdohaoomckhbgaaVF
namespace Go.Proofs.Ytdohaoomckhbgaa.Vm
open Go.ChangeShapes Go.WideShapes Go.ChangeAt Go.RowKit Go.Maps Go.WideElems Go.ChangeMaps Go.Sort Go.Shelf Go.Proofs.Ytdohaoomckhbgaa.Mem Go.Proofs.Ytdohaoomckhbgaa.Br Go.Proofs.Ytdohaoomckhbgaa.Va Go.Proofs.Ytdohaoomckhbgaa.Vr
set_option linter.unusedVariables false
set_option linter.unusedSimpArgs false
attribute [local go_sem] Oper.semAt_some
def mMov (d a : Int) : PM := ⟨1, d, 0, a, 0, 0, 0, 0⟩
def mSwap (a b : Int) : PM := ⟨2, 0, 0, a, b, 0, 0, 0⟩
def mSld (r p : Int) : PM := ⟨30, r, 0, 0, 0, 0, p - 16, 0⟩
def mSst (r p : Int) : PM := ⟨31, 0, 0, r, 0, 0, p - 16, 0⟩
def bringR (a b : Int) : PM := if a < 16 then (if b < 16 then mMov a b else mSld a b) else mSst b a
def bringN (sc sp a b : Int) : Option (List PM) :=
  if a < 16 ∨ b < 16 then some [bringR a b] else if 0 ≤ sc then some [mSld sc b, mSst sc a] else if sp < 0 then none else some [mSst 0 (16 + sp + 1), mSld 0 b, mSst 0 a, mSld 0 (16 + sp + 1)]
def InPl (x : Int) : Prop := 0 ≤ x ∧ x < 16400
abbrev carV (ba : Nat) (sc sp : Int) : Value := .agg #[.func (.func 40) #[] #[.pointer (some ⟨ba, 0, none⟩)], .int .i64 sc, .int .i64 sp]
theorem isReg_any (w : World) (p : Int) : Calls Try.prog 77 #[.int .i64 p] w fun e w' => e = .returned (.bool (decide (p < 16))) ∧ w' = w := by
  go_enter Try.func77, Try.ntmps77
  go_wp2
  go_ret
  exact ⟨rfl, rfl⟩
theorem slot_any (w : World) (p : Int) (h1 : 16 ≤ p) (h2 : p < 16400) : Calls Try.prog 78 #[.int .i64 p] w fun e w' => e = .returned (.int .i32 (p - 16)) ∧ w' = w := by
  go_enter Try.func78, Try.ntmps78
  go_wp2
  go_ret
  exact ⟨rfl, rfl⟩
/-- Some instructions were laid, or it was told that something lacks. -/
def RunRes (ba B : Nat) (l : List PM) (o : Option (List PM)) (w : World) (e : Ending) (w' : World) : Prop :=
  e = .returned (.bool o.isSome) ∧ (∃ l', LayAt w' ba B l' ∧ ∀ xs, o = some xs → l' = l ++ xs) ∧ Lay ba w w' ∧ Below (min B ba) w w'
set_option maxRecDepth 100000 in
set_option maxHeartbeats 2000000 in
theorem bringR_any (w : World) (ba B : Nat) (l : List PM) (sc sp a b : Int) (h : LayAt w ba B l) (hB : B ≤ w.heap.size) (hl : l.length ≤ 800000) (ha : InPl a) (hb : InPl b) (hr : a < 16 ∨ b < 16) :
    Calls Try.prog 63 #[carV ba sc sp, .int .i64 a, .int .i64 b] w (RunRes ba B l (some [bringR a b]) w) := by
  have ha0 := ha.1
  have ha1 := ha.2
  have hb0 := hb.1
  have hb9 := hb.2
  clear ha hb
  by_cases hra : a < 16
  · by_cases hrb : b < 16
    · have HQ := Lib.hid (show bringR a b = mMov a b by unfold bringR; rw [if_pos hra, if_pos hrb])
      have da : decide (a < 16) = true := by simp; omega
      have db : decide (b < 16) = true := by simp; omega
      obtain ⟨W1, hW1⟩ : ∃ W1, w.alloc (.cells #[.func (.func 40) #[] #[.pointer (some ⟨ba, 0, none⟩)], .int .i64 sc, .int .i64 sp] 70) = W1 := ⟨_, rfl⟩
      have hb1 : Below w.heap.size w W1 := by rw [← hW1]; exact (Below.refl _ _).alloc (Nat.le_refl _) _
      have hs1 : Str W1 w.heap.size 70 [.func (.func 40) #[] #[.pointer (some ⟨ba, 0, none⟩)], .int .i64 sc, .int .i64 sp] := by rw [← hW1]; exact World.alloc_heap_new w _
      have c0 : W1.cell? ⟨w.heap.size, 0, none⟩ = some (.func (.func 40) #[] #[.pointer (some ⟨ba, 0, none⟩)]) := hs1.cell 0
      have c1 : W1.cell? ⟨w.heap.size, 1, none⟩ = some (.int .i64 sc) := hs1.cell 1
      have c2 : W1.cell? ⟨w.heap.size, 2, none⟩ = some (.int .i64 sp) := hs1.cell 2
      have HL := Lib.hid (h.below hb1)
      have HB1 := Lib.hid hb1
      have HS1 := Lib.hid hs1
      have hlt := h.lt
      have hz1 := hb1.size
      clear h hr hb1 hs1
      go_enter Try.func63, Try.ntmps63
      go_wp2_with fail
      refine (isReg_any _ a).mono ?_
      rintro e w' ⟨rfl, hw'⟩
      obtain rfl : W1 = w' := hw'.symm
      rw [da]
      go_wp2_with fail
      refine (isReg_any _ b).mono ?_
      rintro e w' ⟨rfl, hw'⟩
      obtain rfl : W1 = w' := hw'.symm
      rw [db]
      go_wp2_with fail
      refine (lay_any W1 ba B l (mMov a b) HL.out (by omega) (by omega)).mono ?_
      rintro e w2 ⟨rfl, h2, h3, h4⟩
      have HR := Lib.hid (show RunRes ba B l (some [bringR a b]) w (.returned (.bool true)) w2 from ⟨rfl, ⟨_, h2, fun xs e => by rw [HQ.out] at e; injection e with e; rw [← e]⟩, ((Lay.of_below HB1.out)).trans h3, ((HB1.out.mono (by omega))).trans h4⟩)
      clear h2 h3 h4
      go_wp2
      go_ret
      exact HR.out
    · have hb16 : 16 ≤ b := by omega
      have HQ := Lib.hid (show bringR a b = mSld a b by unfold bringR; rw [if_pos hra, if_neg hrb])
      have da : decide (a < 16) = true := by simp; omega
      have db : decide (b < 16) = false := by simp; omega
      obtain ⟨W1, hW1⟩ : ∃ W1, w.alloc (.cells #[.func (.func 40) #[] #[.pointer (some ⟨ba, 0, none⟩)], .int .i64 sc, .int .i64 sp] 70) = W1 := ⟨_, rfl⟩
      have hb1 : Below w.heap.size w W1 := by rw [← hW1]; exact (Below.refl _ _).alloc (Nat.le_refl _) _
      have hs1 : Str W1 w.heap.size 70 [.func (.func 40) #[] #[.pointer (some ⟨ba, 0, none⟩)], .int .i64 sc, .int .i64 sp] := by rw [← hW1]; exact World.alloc_heap_new w _
      have c0 : W1.cell? ⟨w.heap.size, 0, none⟩ = some (.func (.func 40) #[] #[.pointer (some ⟨ba, 0, none⟩)]) := hs1.cell 0
      have c1 : W1.cell? ⟨w.heap.size, 1, none⟩ = some (.int .i64 sc) := hs1.cell 1
      have c2 : W1.cell? ⟨w.heap.size, 2, none⟩ = some (.int .i64 sp) := hs1.cell 2
      have HL := Lib.hid (h.below hb1)
      have HB1 := Lib.hid hb1
      have HS1 := Lib.hid hs1
      have hlt := h.lt
      have hz1 := hb1.size
      clear h hr hb1 hs1
      go_enter Try.func63, Try.ntmps63
      go_wp2_with fail
      refine (isReg_any _ a).mono ?_
      rintro e w' ⟨rfl, hw'⟩
      obtain rfl : W1 = w' := hw'.symm
      rw [da]
      go_wp2_with fail
      refine (isReg_any _ b).mono ?_
      rintro e w' ⟨rfl, hw'⟩
      obtain rfl : W1 = w' := hw'.symm
      rw [db]
      go_wp2_with fail
      refine (isReg_any _ a).mono ?_
      rintro e w' ⟨rfl, hw'⟩
      obtain rfl : W1 = w' := hw'.symm
      rw [da]
      go_wp2_with fail
      refine region_heldT_wp (fun w' => w'.cell? ⟨w.heap.size, 0, none⟩ = some (.func (.func 40) #[] #[.pointer (some ⟨ba, 0, none⟩)])) [0, 1, 2, 3, 5] [0, 1, 2, 3, 4, 5, 6] 6 (by kernel_rfl) (by kernel_rfl) (by kernel_rfl) (by kernel_rfl) rfl (by intro c a d v w h; cases d <;> exact h) c0 ?_
      refine walkH_still _ ?rs0 rfl rfl rfl ?rsy0 ?_
      case rsy0 => intro w hS; go_simp; first | done | with_reducible rfl
      simp only [Act.put]
      refine walkH_still _ ?rs1 rfl rfl rfl ?rsy1 ?_
      case rsy1 => intro w hS; go_simp; first | done | with_reducible rfl
      simp only [Act.put]
      refine walkH_still _ ?rs2 rfl rfl rfl ?rsy2 ?_
      case rsy2 => intro w hS; go_simp; first | done | with_reducible rfl
      simp only [Act.put]
      refine walkH_still _ ?rs3 rfl rfl rfl ?rsy3 ?_
      case rsy3 => intro w hS; go_simp; first | done | with_reducible rfl
      simp only [Act.put]
      try simp only [List.setIfInBounds_toArray, List.set_cons_zero, List.set_cons_succ]
      refine walkHd _ rfl rfl ?_
      go_wp2_with fail
      refine (slot_any _ b (by omega) (by omega)).mono ?_
      rintro e w' ⟨rfl, rfl⟩
      go_wp2_with fail
      refine behindH (Or.inl c0) ?_
      refine walkH_still _ ?rs5 rfl rfl rfl ?rsy5 ?_
      case rsy5 => intro w hS; go_simp; first | done | with_reducible rfl
      simp only [Act.put]
      try simp only [List.setIfInBounds_toArray, List.set_cons_zero, List.set_cons_succ]
      refine walkHd _ rfl rfl ?_
      go_wp2_with fail
      refine (lay_any W1.drew ba B l (mSld a b) (show LayAt W1.drew ba B l from HL.out) (show B ≤ W1.heap.size by omega) (by omega)).mono ?_
      rintro e w2 ⟨rfl, h2, h3, h4⟩
      have HR := Lib.hid (show RunRes ba B l (some [bringR a b]) w (.returned (.bool true)) w2 from ⟨rfl, ⟨_, h2, fun xs e => by rw [HQ.out] at e; injection e with e; rw [← e]⟩, ((Lay.of_below HB1.out).drew).trans h3, ((HB1.out.mono (by omega)).drew).trans h4⟩)
      clear h2 h3 h4
      go_wp2_with fail
      refine behindH (Or.inr rfl) (walkH_nil ?_)
      go_wp2
      go_ret
      exact HR.out
  · have hrb : b < 16 := by omega
    have ha16 : 16 ≤ a := by omega
    have HQ := Lib.hid (show bringR a b = mSst b a by unfold bringR; rw [if_neg hra])
    have da : decide (a < 16) = false := by simp; omega
    have db : decide (b < 16) = true := by simp; omega
    obtain ⟨W1, hW1⟩ : ∃ W1, w.alloc (.cells #[.func (.func 40) #[] #[.pointer (some ⟨ba, 0, none⟩)], .int .i64 sc, .int .i64 sp] 70) = W1 := ⟨_, rfl⟩
    have hb1 : Below w.heap.size w W1 := by rw [← hW1]; exact (Below.refl _ _).alloc (Nat.le_refl _) _
    have hs1 : Str W1 w.heap.size 70 [.func (.func 40) #[] #[.pointer (some ⟨ba, 0, none⟩)], .int .i64 sc, .int .i64 sp] := by rw [← hW1]; exact World.alloc_heap_new w _
    have c0 : W1.cell? ⟨w.heap.size, 0, none⟩ = some (.func (.func 40) #[] #[.pointer (some ⟨ba, 0, none⟩)]) := hs1.cell 0
    have c1 : W1.cell? ⟨w.heap.size, 1, none⟩ = some (.int .i64 sc) := hs1.cell 1
    have c2 : W1.cell? ⟨w.heap.size, 2, none⟩ = some (.int .i64 sp) := hs1.cell 2
    have HL := Lib.hid (h.below hb1)
    have HB1 := Lib.hid hb1
    have HS1 := Lib.hid hs1
    have hlt := h.lt
    have hz1 := hb1.size
    clear h hr hb1 hs1
    go_enter Try.func63, Try.ntmps63
    go_wp2_with fail
    refine (isReg_any _ a).mono ?_
    rintro e w' ⟨rfl, hw'⟩
    obtain rfl : W1 = w' := hw'.symm
    rw [da]
    go_wp2_with fail
    refine (isReg_any _ a).mono ?_
    rintro e w' ⟨rfl, hw'⟩
    obtain rfl : W1 = w' := hw'.symm
    rw [da]
    go_wp2_with fail
    refine (isReg_any _ b).mono ?_
    rintro e w' ⟨rfl, hw'⟩
    obtain rfl : W1 = w' := hw'.symm
    rw [db]
    go_wp2_with fail
    refine region_heldT_wp (fun w' => w'.cell? ⟨w.heap.size, 0, none⟩ = some (.func (.func 40) #[] #[.pointer (some ⟨ba, 0, none⟩)])) [0, 1, 2, 3, 5] [0, 1, 2, 3, 4, 5, 6] 6 (by kernel_rfl) (by kernel_rfl) (by kernel_rfl) (by kernel_rfl) rfl (by intro c a d v w h; cases d <;> exact h) c0 ?_
    refine walkH_still _ ?sr0 rfl rfl rfl ?sry0 ?_
    case sry0 => intro w hS; go_simp; first | done | with_reducible rfl
    simp only [Act.put]
    refine walkH_still _ ?sr1 rfl rfl rfl ?sry1 ?_
    case sry1 => intro w hS; go_simp; first | done | with_reducible rfl
    simp only [Act.put]
    refine walkH_still _ ?sr2 rfl rfl rfl ?sry2 ?_
    case sry2 => intro w hS; go_simp; first | done | with_reducible rfl
    simp only [Act.put]
    refine walkH_still _ ?sr3 rfl rfl rfl ?sry3 ?_
    case sry3 => intro w hS; go_simp; first | done | with_reducible rfl
    simp only [Act.put]
    try simp only [List.setIfInBounds_toArray, List.set_cons_zero, List.set_cons_succ]
    refine walkHd _ rfl rfl ?_
    go_wp2_with fail
    refine (slot_any _ a (by omega) (by omega)).mono ?_
    rintro e w' ⟨rfl, rfl⟩
    go_wp2_with fail
    refine behindH (Or.inl c0) ?_
    refine walkH_still _ ?sr5 rfl rfl rfl ?sry5 ?_
    case sry5 => intro w hS; go_simp; first | done | with_reducible rfl
    simp only [Act.put]
    try simp only [List.setIfInBounds_toArray, List.set_cons_zero, List.set_cons_succ]
    refine walkHd _ rfl rfl ?_
    go_wp2_with fail
    refine (lay_any W1.drew ba B l (mSst b a) (show LayAt W1.drew ba B l from HL.out) (show B ≤ W1.heap.size by omega) (by omega)).mono ?_
    rintro e w2 ⟨rfl, h2, h3, h4⟩
    have HR := Lib.hid (show RunRes ba B l (some [bringR a b]) w (.returned (.bool true)) w2 from ⟨rfl, ⟨_, h2, fun xs e => by rw [HQ.out] at e; injection e with e; rw [← e]⟩, ((Lay.of_below HB1.out).drew).trans h3, ((HB1.out.mono (by omega)).drew).trans h4⟩)
    clear h2 h3 h4
    go_wp2_with fail
    refine behindH (Or.inr rfl) (walkH_nil ?_)
    go_wp2
    go_ret
    exact HR.out
theorem RunRes.got {ba B : Nat} {l xs : List PM} {w w' : World} {e : Ending} (h : RunRes ba B l (some xs) w e w') : e = .returned (.bool true) ∧ LayAt w' ba B (l ++ xs) ∧ Lay ba w w' ∧ Below (min B ba) w w' := by
  obtain ⟨h1, ⟨l', h2, h3⟩, h4, h5⟩ := h
  rw [h3 xs rfl] at h2
  exact ⟨h1, h2, h4, h5⟩
set_option maxRecDepth 100000 in
set_option maxHeartbeats 4000000 in
theorem across_any (w : World) (ba B : Nat) (l : List PM) (sc sp a b : Int) (h : LayAt w ba B l) (hB : B ≤ w.heap.size) (hl : l.length ≤ 700000) (ha : InPl a) (hb : InPl b) (ha16 : ¬ a < 16) (hb16 : ¬ b < 16) (hsc : sc < 16) (hsp : sp < 16383) :
    Calls Try.prog 79 #[carV ba sc sp, .int .i64 a, .int .i64 b] w (RunRes ba B l (bringN sc sp a b) w) := by
  obtain ⟨W1, hW1⟩ : ∃ W1, w.alloc (.cells #[.func (.func 40) #[] #[.pointer (some ⟨ba, 0, none⟩)], .int .i64 sc, .int .i64 sp] 70) = W1 := ⟨_, rfl⟩
  have hb1 : Below w.heap.size w W1 := by rw [← hW1]; exact (Below.refl _ _).alloc (Nat.le_refl _) _
  have hs1 : Str W1 w.heap.size 70 [.func (.func 40) #[] #[.pointer (some ⟨ba, 0, none⟩)], .int .i64 sc, .int .i64 sp] := by rw [← hW1]; exact World.alloc_heap_new w _
  have c0 : W1.cell? ⟨w.heap.size, 0, none⟩ = some (.func (.func 40) #[] #[.pointer (some ⟨ba, 0, none⟩)]) := hs1.cell 0
  have c1 : W1.cell? ⟨w.heap.size, 1, none⟩ = some (.int .i64 sc) := hs1.cell 1
  have c2 : W1.cell? ⟨w.heap.size, 2, none⟩ = some (.int .i64 sp) := hs1.cell 2
  have HL := Lib.hid (h.below hb1)
  have HB1 := Lib.hid hb1
  have HS1 := Lib.hid hs1
  have hlt := h.lt
  have hz1 := hb1.size
  have HQQ := Lib.hid (fun (x : World) (hl : Lay ba W1 x) => hl.str HS1.out (show w.heap.size ≠ ba by omega) (by decide))
  have HA := Lib.hid ha
  have HBB := Lib.hid hb
  have ha16' : ¬ (a < 16 ∨ b < 16) := by omega
  have HN := Lib.hid ha16'
  clear h hb1 hs1 ha hb ha16'
  by_cases hs0 : 0 ≤ sc
  · have HE := Lib.hid (show bringN sc sp a b = some [mSld sc b, mSst sc a] by unfold bringN; rw [if_neg HN.out, if_pos hs0])
    go_enter Try.func79, Try.ntmps79
    go_wp2_with fail
    refine (bringR_any W1 ba B (l) sc sp (sc) (b) HL.out (by omega) (by (try simp); omega) ⟨hs0, by omega⟩ HBB.out (by omega)).mono ?_
    rintro e v0 hr
    obtain ⟨rfl, h2, h3, h4⟩ := hr.got
    rw [show bringR (sc) (b) = mSld sc b by unfold bringR; rw [if_pos (by omega), if_neg (by omega)]] at h2
    have HL0 := Lib.hid h2
    have HY0 := Lib.hid h3
    have HZ0 := Lib.hid ((HB1.out.mono (show min B ba ≤ w.heap.size by omega)).trans h4)
    clear h2 h3 h4 hr
    have hs0 := HQQ.out _ HY0.out
    have p0 : v0.cell? ⟨w.heap.size, 0, none⟩ = some (.func (.func 40) #[] #[.pointer (some ⟨ba, 0, none⟩)]) := hs0.cell 0
    have p1 : v0.cell? ⟨w.heap.size, 1, none⟩ = some (.int .i64 sc) := hs0.cell 1
    have p2 : v0.cell? ⟨w.heap.size, 2, none⟩ = some (.int .i64 sp) := hs0.cell 2
    clear hs0
    go_wp2_with fail
    refine (bringR_any v0 ba B (l ++ [mSld sc b]) sc sp (a) (sc) HL0.out (by have := HY0.out.size; omega) (by (try simp); omega) HA.out ⟨hs0, by omega⟩ (by omega)).mono ?_
    rintro e v1 hr
    obtain ⟨rfl, h2, h3, h4⟩ := hr.got
    rw [show bringR (a) (sc) = mSst sc a by unfold bringR; rw [if_neg (by omega)]] at h2
    have HL1 := Lib.hid h2
    have HY1 := Lib.hid (HY0.out.trans h3)
    have HZ1 := Lib.hid (HZ0.out.trans h4)
    clear h2 h3 h4 hr
    go_wp2
    go_ret
    rw [HE.out]
    refine ⟨rfl, ⟨_, HL1.out, fun xs e => by injection e with e; rw [← e]; simp⟩, (Lay.of_below HB1.out).trans HY1.out, HZ1.out⟩
  · by_cases hp0 : sp < 0
    · have HE := Lib.hid (show bringN sc sp a b = none by unfold bringN; rw [if_neg HN.out, if_neg hs0, if_pos hp0])
      have hs0' : sc < 0 := by omega
      go_enter Try.func79, Try.ntmps79
      go_wp2
      go_ret
      rw [HE.out]
      exact ⟨rfl, ⟨l, HL.out, fun xs e => by cases e⟩, Lay.of_below HB1.out, HB1.out.mono (by omega)⟩
    · have HE := Lib.hid (show bringN sc sp a b = some [mSst 0 (16 + sp + 1), mSld 0 b, mSst 0 a, mSld 0 (16 + sp + 1)] by unfold bringN; rw [if_neg HN.out, if_neg hs0, if_neg hp0])
      have hs0' : sc < 0 := by omega
      have hp0' : 0 ≤ sp := by omega
      clear hs0 hp0
      go_enter Try.func79, Try.ntmps79
      go_wp2_with fail
      refine (bringR_any W1 ba B (l) sc sp (16 + sp + 1) (0) HL.out (by omega) (by (try simp); omega) ⟨by omega, by omega⟩ ⟨by omega, by omega⟩ (by omega)).mono ?_
      rintro e v0 hr
      obtain ⟨rfl, h2, h3, h4⟩ := hr.got
      rw [show bringR (16 + sp + 1) (0) = mSst 0 (16 + sp + 1) by unfold bringR; rw [if_neg (by omega)]] at h2
      have HL0 := Lib.hid h2
      have HY0 := Lib.hid h3
      have HZ0 := Lib.hid ((HB1.out.mono (show min B ba ≤ w.heap.size by omega)).trans h4)
      clear h2 h3 h4 hr
      have hs0 := HQQ.out _ HY0.out
      have p0 : v0.cell? ⟨w.heap.size, 0, none⟩ = some (.func (.func 40) #[] #[.pointer (some ⟨ba, 0, none⟩)]) := hs0.cell 0
      have p1 : v0.cell? ⟨w.heap.size, 1, none⟩ = some (.int .i64 sc) := hs0.cell 1
      have p2 : v0.cell? ⟨w.heap.size, 2, none⟩ = some (.int .i64 sp) := hs0.cell 2
      clear hs0
      go_wp2_with fail
      refine (bringR_any v0 ba B (l ++ [mSst 0 (16 + sp + 1)]) sc sp (0) (b) HL0.out (by have := HY0.out.size; omega) (by (try simp); omega) ⟨by omega, by omega⟩ HBB.out (by omega)).mono ?_
      rintro e v1 hr
      obtain ⟨rfl, h2, h3, h4⟩ := hr.got
      rw [show bringR (0) (b) = mSld 0 b by unfold bringR; rw [if_pos (by omega), if_neg (by omega)]] at h2
      have HL1 := Lib.hid h2
      have HY1 := Lib.hid (HY0.out.trans h3)
      have HZ1 := Lib.hid (HZ0.out.trans h4)
      clear h2 h3 h4 hr
      have hs1 := HQQ.out _ HY1.out
      have q0 : v1.cell? ⟨w.heap.size, 0, none⟩ = some (.func (.func 40) #[] #[.pointer (some ⟨ba, 0, none⟩)]) := hs1.cell 0
      have q1 : v1.cell? ⟨w.heap.size, 1, none⟩ = some (.int .i64 sc) := hs1.cell 1
      have q2 : v1.cell? ⟨w.heap.size, 2, none⟩ = some (.int .i64 sp) := hs1.cell 2
      clear hs1
      go_wp2_with fail
      refine (bringR_any v1 ba B (l ++ [mSst 0 (16 + sp + 1)] ++ [mSld 0 b]) sc sp (a) (0) HL1.out (by have := HY1.out.size; omega) (by (try simp); omega) HA.out ⟨by omega, by omega⟩ (by omega)).mono ?_
      rintro e v2 hr
      obtain ⟨rfl, h2, h3, h4⟩ := hr.got
      rw [show bringR (a) (0) = mSst 0 a by unfold bringR; rw [if_neg (by omega)]] at h2
      have HL2 := Lib.hid h2
      have HY2 := Lib.hid (HY1.out.trans h3)
      have HZ2 := Lib.hid (HZ1.out.trans h4)
      clear h2 h3 h4 hr
      have hs2 := HQQ.out _ HY2.out
      have r0 : v2.cell? ⟨w.heap.size, 0, none⟩ = some (.func (.func 40) #[] #[.pointer (some ⟨ba, 0, none⟩)]) := hs2.cell 0
      have r1 : v2.cell? ⟨w.heap.size, 1, none⟩ = some (.int .i64 sc) := hs2.cell 1
      have r2 : v2.cell? ⟨w.heap.size, 2, none⟩ = some (.int .i64 sp) := hs2.cell 2
      clear hs2
      go_wp2_with fail
      refine (bringR_any v2 ba B (l ++ [mSst 0 (16 + sp + 1)] ++ [mSld 0 b] ++ [mSst 0 a]) sc sp (0) (16 + sp + 1) HL2.out (by have := HY2.out.size; omega) (by (try simp); omega) ⟨by omega, by omega⟩ ⟨by omega, by omega⟩ (by omega)).mono ?_
      rintro e v3 hr
      obtain ⟨rfl, h2, h3, h4⟩ := hr.got
      rw [show bringR (0) (16 + sp + 1) = mSld 0 (16 + sp + 1) by unfold bringR; rw [if_pos (by omega), if_neg (by omega)]] at h2
      have HL3 := Lib.hid h2
      have HY3 := Lib.hid (HY2.out.trans h3)
      have HZ3 := Lib.hid (HZ2.out.trans h4)
      clear h2 h3 h4 hr
      go_wp2
      go_ret
      rw [HE.out]
      refine ⟨rfl, ⟨_, HL3.out, fun xs e => by injection e with e; rw [← e]; simp⟩, (Lay.of_below HB1.out).trans HY3.out, HZ3.out⟩
set_option maxRecDepth 100000 in
set_option maxHeartbeats 4000000 in
theorem bring_any (w : World) (ba B : Nat) (l : List PM) (sc sp a b : Int) (h : LayAt w ba B l) (hB : B ≤ w.heap.size) (hl : l.length ≤ 700000) (ha : InPl a) (hb : InPl b) (hsc : sc < 16) (hsp : sp < 16383) :
    Calls Try.prog 63 #[carV ba sc sp, .int .i64 a, .int .i64 b] w (RunRes ba B l (bringN sc sp a b) w) := by
  by_cases hr : a < 16 ∨ b < 16
  · have e : bringN sc sp a b = some [bringR a b] := by unfold bringN; rw [if_pos hr]
    rw [e]
    exact bringR_any w ba B l sc sp a b h hB (by omega) ha hb hr
  · have da : decide (a < 16) = false := by simp; omega
    have db : decide (b < 16) = false := by simp; omega
    have hna : ¬ a < 16 := by omega
    have hnb : ¬ b < 16 := by omega
    have HA := Lib.hid ha
    have HBB := Lib.hid hb
    obtain ⟨W1, hW1⟩ : ∃ W1, w.alloc (.cells #[.func (.func 40) #[] #[.pointer (some ⟨ba, 0, none⟩)], .int .i64 sc, .int .i64 sp] 70) = W1 := ⟨_, rfl⟩
    have hb1 : Below w.heap.size w W1 := by rw [← hW1]; exact (Below.refl _ _).alloc (Nat.le_refl _) _
    have hs1 : Str W1 w.heap.size 70 [.func (.func 40) #[] #[.pointer (some ⟨ba, 0, none⟩)], .int .i64 sc, .int .i64 sp] := by rw [← hW1]; exact World.alloc_heap_new w _
    have c0 : W1.cell? ⟨w.heap.size, 0, none⟩ = some (.func (.func 40) #[] #[.pointer (some ⟨ba, 0, none⟩)]) := hs1.cell 0
    have c1 : W1.cell? ⟨w.heap.size, 1, none⟩ = some (.int .i64 sc) := hs1.cell 1
    have c2 : W1.cell? ⟨w.heap.size, 2, none⟩ = some (.int .i64 sp) := hs1.cell 2
    have HL := Lib.hid (h.below hb1)
    have HB1 := Lib.hid hb1
    have HS1 := Lib.hid hs1
    have hlt := h.lt
    have hz1 := hb1.size
    clear h hb1 hs1 hr ha hb
    have HNA := Lib.hid hna
    have HNB := Lib.hid hnb
    clear hna hnb
    go_enter Try.func63, Try.ntmps63
    go_wp2_with fail
    refine (isReg_any _ a).mono ?_
    rintro e w' ⟨rfl, hw'⟩
    obtain rfl : W1 = w' := hw'.symm
    rw [da]
    go_wp2_with fail
    refine (isReg_any _ a).mono ?_
    rintro e w' ⟨rfl, hw'⟩
    obtain rfl : W1 = w' := hw'.symm
    rw [da]
    go_wp2_with fail
    refine (isReg_any _ b).mono ?_
    rintro e w' ⟨rfl, hw'⟩
    obtain rfl : W1 = w' := hw'.symm
    rw [db]
    go_wp2_with fail
    refine (across_any W1 ba B l sc sp a b HL.out (by omega) hl HA.out HBB.out (by have := HNA.out; omega) (by have := HNB.out; omega) hsc hsp).mono ?_
    rintro e w2 ⟨rfl, h2, h3, h4⟩
    have HR := Lib.hid (show RunRes ba B l (bringN sc sp a b) w (.returned (.bool (bringN sc sp a b).isSome)) w2 from ⟨rfl, h2, (Lay.of_below HB1.out).trans h3, (HB1.out.mono (by omega)).trans h4⟩)
    clear h2 h3 h4
    generalize bringN sc sp a b = o at *
    go_wp2
    go_ret
    exact HR.out
end Go.Proofs.Ytdohaoomckhbgaa.Vm
