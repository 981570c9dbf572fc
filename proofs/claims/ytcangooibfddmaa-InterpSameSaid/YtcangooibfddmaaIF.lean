/- Stage 4: do of Const, Load, Store, Call; phis; any function that fits serves. -/
import Derived.Test.YtcangooibfddmaaIA
import Derived.Test.YtcangooibfddmaaIE
import Derived.Deep.QuietTactic
import Derived.BigQuiet
import Derived.Test.YtcangooibfddmaaHeld
import Derived.Test.YtcangooibfddmaaDoms
/- Stage 4: what interp's do does with Const. -/
namespace Go.Proofs.Ytcangooibfddmaa.Ic
open Go.ChangeShapes Go.WideShapes Go.ChangeAt Go.RowKit Go.Maps Go.Proofs.Ytcangooibfddmaa.Mem Go.Proofs.Ytcangooibfddmaa.Kc Go.Proofs.Ytcangooibfddmaa.Br Go.Proofs.Ytcangooibfddmaa.Pl Go.Proofs.Ytcangooibfddmaa.Wd
set_option linter.unusedVariables false
def ConstPost (rb mb cc : Nat) (av mv nv mm cs : Value) (lim steps : Int) (vals : Int → Int) (dst imm : Int) (w : World) (en : Ending) (w' : World) : Prop :=
  en = .returned (.tuple #[.int .i32 0, .bool true]) ∧ But mb w w' ∧ RunAt w' rb mb (cc + 1) av mv nv mm cs lim (upd vals dst imm) steps
set_option maxRecDepth 100000 in
set_option maxHeartbeats 1000000 in
theorem do_const (w : World) (rb mb cc : Nat) (av mv nv mm cs : Value) (lim steps : Int) (vals : Int → Int) (h : RunAt w rb mb cc av mv nv mm cs lim vals steps) (dst two imm : Int) (A : Option Addr) (c : Nat)
    (hd : InI dst) (hcc : cc + 1 ≤ 100000000000000) :
    Calls Try.prog 54 #[.pointer (some ⟨rb, 0, none⟩), .agg #[.int .i64 1, .int .i64 dst, .int .i64 two, .slice A 0 c, .int .i32 imm]] w (ConstPost rb mb cc av mv nv mm cs lim steps vals dst imm w) := by
  have H := Lib.hid h
  clear h
  have hrw := H.out.str.lt
  have hmw := H.out.map.lt
  go_enter Try.func54, Try.ntmps54
  go_upto_region 2 with (fail)
  obtain ⟨W1, hW1⟩ : ∃ W1, w.alloc (.cells #[.int .i64 1, .int .i64 dst, .int .i64 two, .slice A 0 c, .int .i32 imm] 36) = W1 := ⟨_, rfl⟩
  rw [hW1]
  have hb1 : Below w.heap.size w W1 := by rw [← hW1]; exact (Below.refl _ _).alloc (Nat.le_refl _) _
  have hs1 : Str W1 w.heap.size 36 [.int .i64 1, .int .i64 dst, .int .i64 two, .slice A 0 c, .int .i32 imm] := by rw [← hW1]; exact World.alloc_heap_new w _
  have hz1 : W1.heap.size = w.heap.size + 1 := by rw [← hW1]; simp
  clear hW1
  obtain ⟨W2, hW2⟩ : ∃ W2, W1.alloc (.cells #[.int .i32 0, .int .i32 0, .int .i32 0, .int .i32 0] 151) = W2 := ⟨_, rfl⟩
  rw [hW2]
  have hb2 : Below W1.heap.size W1 W2 := by rw [← hW2]; exact (Below.refl _ _).alloc (Nat.le_refl _) _
  have HS1 := Lib.hid (hs1.below hb2)
  have HB := Lib.hid (hb1.trans (hb2.mono hb1.size))
  have i0 : W2.cell? ⟨w.heap.size, 0, none⟩ = some (.int .i64 1) := HS1.out.cell 0
  have i1 : W2.cell? ⟨w.heap.size, 1, none⟩ = some (.int .i64 dst) := HS1.out.cell 1
  have i4 : W2.cell? ⟨w.heap.size, 4, none⟩ = some (.int .i32 imm) := HS1.out.cell 4
  have e3 : W2.cell? ⟨w.heap.size, 3, none⟩ = some (.slice A 0 c) := HS1.out.cell 3
  have k4 := (H.out.below HB.out).c4
  have HR := Lib.hid (H.out.below HB.out)
  clear hW2 hb1 hb2 hs1 hz1
  go_wp2_with fail
  go_loopw [7, 8, 16] (fun _ _ i wr => i = .int .i64 0 ∧ wr = W2) (fun _ _ i _ => 0)
  case atStart => exact ⟨rfl, rfl⟩
  case round =>
    obtain ⟨rfl, rfl⟩ := hrel
    go_wp2_with fail
    refine region_heldC_wp (fun w' => w'.cell? ⟨rb, 4, none⟩ = some (.map (some mb)) ∧ w'.cell? ⟨w.heap.size, 1, none⟩ = some (.int .i64 dst) ∧ w'.cell? ⟨w.heap.size, 4, none⟩ = some (.int .i32 imm)) [0, 1, 2, 3, 4, 5, 6, 7] [0, 1, 2, 3, 4, 5, 6, 7, 8] (by kernel_rfl) (by kernel_rfl) (by kernel_rfl) rfl (by intro c a d v w h; cases d <;> exact h) ⟨k4, i1, i4⟩ ?_
    refine walkC_still _ ?u0 rfl rfl rfl ?uy0 ?_
    case uy0 => intro w hS; go_simp; first | done | with_reducible rfl
    simp only [Act.put]
    refine walkC_still _ ?u1 rfl rfl rfl ?uy1 ?_
    case uy1 => intro w hS; go_simp; first | done | with_reducible rfl
    simp only [Act.put]
    refine walkC_still _ ?u2 rfl rfl rfl ?uy2 ?_
    case uy2 => intro w hS; go_simp; first | done | with_reducible rfl
    simp only [Act.put]
    refine walkC_still _ ?u3 rfl rfl rfl ?uy3 ?_
    case uy3 => intro w hS; go_simp; first | done | with_reducible rfl
    simp only [Act.put]
    refine walkC_still _ ?u4 rfl rfl rfl ?uy4 ?_
    case uy4 => intro w hS; go_simp; first | done | with_reducible rfl
    simp only [Act.put]
    refine walkC_still _ ?u5 rfl rfl rfl ?uy5 ?_
    case uy5 => intro w hS; go_simp; first | done | with_reducible rfl
    simp only [Act.put]
    refine walkC_still _ ?u6 rfl rfl rfl ?uy6 ?_
    case uy6 => intro w hS; go_simp; first | done | with_reducible rfl
    simp only [Act.put]
    refine walkC_still _ ?u7 rfl rfl rfl ?uy7 ?_
    case uy7 => intro w hS; go_simp; first | done | with_reducible rfl
    simp only [Act.put]
    try simp only [List.setIfInBounds_toArray, List.set_cons_zero, List.set_cons_succ]
    refine walkC_does _ rfl rfl ?_
    refine wpList_put rfl _ _ _ rfl mb cc vals rfl (HR.out.map.below (Below.refl _ _).drew) (by omega) dst imm rfl rfl hd ?_
    intro w9 hs9 hg9
    have hb9 : But mb _ w9 := (But.refl mb _).drew.trans (But.of_grown hg9)
    have hn : w.heap.size ≠ mb := by omega
    refine wpList_nil (behindC ⟨hb9.cell k4 H.out.ne, hb9.cell i1 hn, hb9.cell i4 hn⟩ (walkC_nil ?_))
    go_wp2
    go_ret2
    exact ⟨rfl, (But.of_below HB.out).trans hb9, ⟨(HR.out.str.below (Below.refl _ _).drew).kept hg9 (fun e => H.out.ne (Option.some.inj e)), hs9, H.out.ne⟩⟩
end Go.Proofs.Ytcangooibfddmaa.Ic
/- Stage 4: what interp's do does with Load and Store; interp's Store. -/
namespace Go.Proofs.Ytcangooibfddmaa.Ic
open Go.ChangeShapes Go.WideShapes Go.ChangeAt Go.RowKit Go.Maps Go.Proofs.Ytcangooibfddmaa.Mem Go.Proofs.Ytcangooibfddmaa.Kc Go.Proofs.Ytcangooibfddmaa.Br Go.Proofs.Ytcangooibfddmaa.Pl Go.Proofs.Ytcangooibfddmaa.Wd Go.Proofs.Ytcangooibfddmaa.Gr
set_option linter.unusedVariables false
/-- The four words, as far as k of the operands are read. -/
def arrL (vals : Int → Int) (l : List Int) (k : Nat) : List Value := (List.range 4).map fun j => .int .i32 (if j < k ∧ j < l.length then vals (l.getD j 0) else 0)
theorem arrL_zero (vals : Int → Int) (l : List Int) : arrL vals l 0 = [.int .i32 0, .int .i32 0, .int .i32 0, .int .i32 0] := by simp [arrL, List.range, List.range.loop]
theorem arrL_succ (vals : Int → Int) (l : List Int) (k : Nat) (hk : k < l.length) (hl : l.length ≤ 4) : arrL vals l (k + 1) = (arrL vals l k).set k (.int .i32 (vals l[k])) := by
  have e : l.getD k 0 = l[k] := by rw [List.getD_eq_getElem?_getD, List.getElem?_eq_getElem hk]; rfl
  rw [← e]
  have h : k = 0 ∨ k = 1 ∨ k = 2 ∨ k = 3 := by omega
  rcases h with rfl | rfl | rfl | rfl <;> simp [arrL, List.range, List.range.loop, hk]
def StoreRes (B : Nat) (mm : Value) (mem : List Int) (at_ v : Int) (w : World) (e : Ending) (w' : World) : Prop :=
  if hasB mem.length at_ = true then e = .returned (.bool true) ∧ ∃ g, mm.ownBlock = some g ∧ But g w w' ∧ OwnWords B w' mm (mem.set at_.toNat v) else e = .returned (.bool false) ∧ w' = w
set_option maxRecDepth 100000 in
theorem store_any (w : World) (B : Nat) (mm : Value) (mem : List Int) (at_ v : Int) (hm : OwnWords B w mm mem) (hl : mem.length ≤ 1000000) (ha : InW at_) :
    Calls Try.prog 26 #[mm, .int .i32 at_, .int .i32 v] w (StoreRes B mm mem at_ v w) := by
  have HM := Lib.hid hm
  have HAT := Lib.hid ha
  clear ha
  cases hB : hasB mem.length at_ with
  | false =>
    have HP := Lib.hid (show ∀ e w', (e = .returned (.bool false) ∧ w' = w) → StoreRes B mm mem at_ v w e w' from fun e w' h => by unfold StoreRes; rw [if_neg (by rw [hB]; simp)]; exact h)
    obtain ⟨A, c, rfl⟩ := own_form hm
    have HBH := Lib.hid hB
    clear hB hm
    go_enter Try.func26, Try.ntmps26
    go_wp2_with fail
    refine (has_any w A mem.length c at_ hl HAT.out).mono ?_
    rintro e w' ⟨rfl, rfl⟩
    rw [HBH.out]
    go_wp2
    go_ret
    exact HP.out _ _ ⟨rfl, rfl⟩
  | true =>
    have HP := Lib.hid (show ∀ e w', (e = .returned (.bool true) ∧ ∃ g, mm.ownBlock = some g ∧ But g w w' ∧ OwnWords B w' mm (mem.set at_.toNat v)) → StoreRes B mm mem at_ v w e w' from fun e w' h => by unfold StoreRes; rw [if_pos hB]; exact h)
    have hp : 0 ≤ at_ ∧ at_ < mem.length := has_iff.1 hB
    obtain ⟨k, rfl⟩ : ∃ k : Nat, at_ = k := ⟨at_.toNat, by omega⟩
    have hk : k < mem.length := by omega
    have hk2 : (k : Int) ≤ 2147483647 := HAT.out.2
    rcases hm.2 with ⟨rfl, h0⟩ | ⟨g, c, cur, rfl, h1, h2, h3, h4, h5⟩
    · omega
    unfold maxLen at h4
    have hc : w.cell? ⟨g, k, none⟩ = some (.int .i32 mem[k]) := by rw [World.ownsRow.cellAt hm k (by omega), List.getElem?_map, List.getElem?_eq_getElem hk]; rfl
    have hf : w.frozen? ⟨g, k, none⟩ = false := World.ownsRow.frozenAt hm k
    have HS := Lib.hid (show But g w (w.setCell ⟨g, k, none⟩ (.int .i32 v)) ∧ OwnWords B (w.setCell ⟨g, k, none⟩ (.int .i32 v)) (.slice (some ⟨g, 0, none⟩) mem.length c) (mem.set ((k : Int)).toNat v) by
      obtain ⟨s1, s2⟩ := World.ownsRow.stored hm k (.int .i32 v)
      refine ⟨But.of_grown s2, ?_⟩
      unfold OwnWords
      rw [Int.toNat_natCast, List.length_set, List.map_set]
      exact s1)
    have HBH := Lib.hid hB
    generalize mem[k] = z at *
    clear hB hp hm h2 h5
    go_enter Try.func26, Try.ntmps26
    go_wp2_with fail
    refine (has_any w _ mem.length c k hl HAT.out).mono ?_
    rintro e w' ⟨rfl, rfl⟩
    rw [HBH.out]
    go_wp2
    go_ret
    exact HP.out _ _ ⟨rfl, g, rfl, HS.out.1, HS.out.2⟩
def LoadPost (rb mb cc : Nat) (av mv nv mm cs : Value) (lim steps : Int) (vals : Int → Int) (mem : List Int) (dst a : Int) (w : World) (en : Ending) (w' : World) : Prop :=
  if hasB mem.length a = true then en = .returned (.tuple #[.int .i32 0, .bool true]) ∧ But mb w w' ∧ RunAt w' rb mb (cc + 1) av mv nv mm cs lim (upd vals dst (mem.getD a.toNat 0)) steps
  else en = .returned (.tuple #[.int .i32 (-2), .bool false]) ∧ But mb w w' ∧ RunAt w' rb mb cc av mv nv mm cs lim vals steps
set_option maxRecDepth 100000 in
set_option maxHeartbeats 1000000 in
theorem do_load (w : World) (rb mb cc : Nat) (av mv nv mm cs : Value) (lim steps : Int) (vals : Int → Int) (h : RunAt w rb mb cc av mv nv mm cs lim vals steps) (dst two imm : Int) (A : Option Addr) (c : Nat) (x : Int) (hv : Ints w (.slice A 1 c) [x])
    (hx : InI x) (hd : InI dst) (hcc : cc + 1 ≤ 100000000000000) (mem : List Int) (hm : WordsAt w mm mem) (hl : mem.length ≤ 4096) (hi : InW imm) (hr : InW (vals x)) :
    Calls Try.prog 54 #[.pointer (some ⟨rb, 0, none⟩), .agg #[.int .i64 15, .int .i64 dst, .int .i64 two, .slice A 1 c, .int .i32 imm]] w (LoadPost rb mb cc av mv nv mm cs lim steps vals mem dst (wrap32 (vals x + imm)) w) := by
  obtain ⟨A', c', e, v1, v2, v3⟩ := hv
  injection e with e1 e2 e3
  subst e1 e3
  clear e2
  have HV := Lib.hid v3
  clear v1 v2 v3
  have HI := Lib.hid (show ∀ z ∈ [x], InI z from fun z hz => by rw [List.mem_singleton] at hz; rw [hz]; exact hx)
  have HL4 := Lib.hid (show [x].length ≤ 4 by simp)
  have HM := Lib.hid hm
  obtain ⟨mA, mc, rfl, m1, m2, m3⟩ := hm
  clear m1 m2 m3
  have HLN := Lib.hid hl
  clear hx hi hr hl
  have H := Lib.hid h
  clear h
  have hrw := H.out.str.lt
  have hmw := H.out.map.lt
  go_enter Try.func54, Try.ntmps54
  go_upto_region 2 with (fail)
  obtain ⟨W1, hW1⟩ : ∃ W1, w.alloc (.cells #[.int .i64 15, .int .i64 dst, .int .i64 two, .slice A 1 c, .int .i32 imm] 36) = W1 := ⟨_, rfl⟩
  rw [hW1]
  have hb1 : Below w.heap.size w W1 := by rw [← hW1]; exact (Below.refl _ _).alloc (Nat.le_refl _) _
  have hs1 : Str W1 w.heap.size 36 [.int .i64 15, .int .i64 dst, .int .i64 two, .slice A 1 c, .int .i32 imm] := by rw [← hW1]; exact World.alloc_heap_new w _
  have hz1 : W1.heap.size = w.heap.size + 1 := by rw [← hW1]; simp
  clear hW1
  obtain ⟨W2, hW2⟩ : ∃ W2, W1.alloc (.cells #[.int .i32 0, .int .i32 0, .int .i32 0, .int .i32 0] 151) = W2 := ⟨_, rfl⟩
  rw [hW2]
  have hb2 : Below W1.heap.size W1 W2 := by rw [← hW2]; exact (Below.refl _ _).alloc (Nat.le_refl _) _
  have hs2 : Str W2 (w.heap.size + 1) 151 (arrL vals [x] 0) := by rw [← hW2, ← hz1, arrL_zero]; exact World.alloc_heap_new W1 _
  have HS1 := Lib.hid (hs1.below hb2)
  have HS2 := Lib.hid hs2
  have HB := Lib.hid (hb1.trans (hb2.mono hb1.size))
  have hz2 : w.heap.size + 1 < W2.heap.size := hs2.lt
  have e3 : W2.cell? ⟨w.heap.size, 3, none⟩ = some (.slice A 1 c) := HS1.out.cell 3
  clear hW2 hb1 hb2 hs1 hs2 hz1
  go_wp2_with fail
  go_loopw [7, 8, 16] (fun _ _ i wr => ∃ k : Nat, k ≤ 1 ∧ i = .int .i64 k ∧ Str wr (w.heap.size + 1) 151 (arrL vals [x] k) ∧ Str wr w.heap.size 36 [.int .i64 15, .int .i64 dst, .int .i64 two, .slice A 1 c, .int .i32 imm] ∧ Below w.heap.size w wr) (fun _ _ i _ => 1 - (intOf i).toNat)
  case atStart => exact ⟨0, by omega, rfl, HS2.out, HS1.out, HB.out⟩
  case round =>
    obtain ⟨k, hk, rfl, hs, hsi, hb⟩ := hrel
    have HSI := Lib.hid hsi
    clear hsi
    obtain ⟨wo, rfl⟩ : ∃ wo : World, wo = wr := ⟨_, rfl⟩
    have HBo := Lib.hid hb
    clear hb
    by_cases hlt : k < 1
    · have hlk : k < ([x] : List Int).length := hlt
      obtain ⟨ad', rfl, hc0⟩ := HV.out k hlk
      have hc := cell_keep HBo.out (Nat.le_refl _) hc0
      have HAR := Lib.hid (arrL_succ vals [x] k hlk HL4.out)
      have hz : InI ([x] : List Int)[k] := HI.out _ (List.getElem_mem hlk)
      generalize ([x] : List Int)[k] = z at *
      have hlk2 : (Instr.lookup 101 (.map (some mb)) (.int .i64 z) false).run Try.prog wo = .ok (.int .i32 (vals z)) wo := (H.out.below HBo.out).map.look hz
      have k4 := (H.out.below HBo.out).c4
      have sf := hs.frozen k
      have hal : k < (arrL vals [x] k).length := by have := HL4.out; simp [arrL]; omega
      have hsk := (hs.cell k).trans (List.getElem?_eq_getElem hal)
      have HS := Lib.hid hs
      generalize (arrL vals [x] k)[k] = zz at *
      have hk4 : k < 4 := by have := HL4.out; omega
      clear hs hc0 hal hlk
      go_wp2
      go_roundw
      case rel => exact ⟨k + 1, by omega, by go_num, by rw [HAR.out]; exact HS.out.set k _, Str.kept HSI.out (setCell_grownBy wo ⟨w.heap.size + 1, k, none⟩ _) (fun e => by have e := Option.some.inj e; simp only at e; omega), HBo.out.setCell (p := ⟨w.heap.size + 1, k, none⟩) (by simp only; omega) _⟩
      case measure => simp [intOf]; omega
    · obtain rfl : k = 1 := by omega
      have HS := Lib.hid hs
      have i0 : wo.cell? ⟨w.heap.size, 0, none⟩ = some (.int .i64 15) := HSI.out.cell 0
      have i1 : wo.cell? ⟨w.heap.size, 1, none⟩ = some (.int .i64 dst) := HSI.out.cell 1
      have i3 : wo.cell? ⟨w.heap.size, 3, none⟩ = some (.slice A 1 c) := HSI.out.cell 3
      have i4 : wo.cell? ⟨w.heap.size, 4, none⟩ = some (.int .i32 imm) := HSI.out.cell 4
      have HR := Lib.hid (H.out.below HBo.out)
      have k4 := (H.out.below HBo.out).c4
      have k5 := (H.out.below HBo.out).c5
      have a0 : wo.cell? ⟨w.heap.size + 1, 0, none⟩ = some (.int .i32 (vals x)) := hs.cell 0
      clear hs
      have HLD := Lib.hid (fun n => load_any (wo.drewN n) (.slice mA mem.length mc) mem (wrap32 (vals x + imm)) (HM.out.below (below_drewK HBo.out n)) (by have := HLN.out; omega) (wrap32_bd _))
      have HLV := Lib.hid (show loadV mem (wrap32 (vals x + imm)) = if hasB mem.length (wrap32 (vals x + imm)) = true then mem.getD (wrap32 (vals x + imm)).toNat 0 else 0 from rfl)
      cases hB : hasB mem.length (wrap32 (vals x + imm)) with
      | false =>
        have HP := Lib.hid (show ∀ en w', (en = .returned (.tuple #[.int .i32 (-2), .bool false]) ∧ But mb w w' ∧ RunAt w' rb mb cc av mv nv (.slice mA mem.length mc) cs lim vals steps) → LoadPost rb mb cc av mv nv (.slice mA mem.length mc) cs lim steps vals mem dst (wrap32 (vals x + imm)) w en w' from fun en w' h => by unfold LoadPost; rw [if_neg (by rw [hB]; simp)]; exact h)
        have HBH := Lib.hid hB
        clear hB
        go_wp2_with fail
        refine region_heldC_wp (fun w' => w'.cell? ⟨rb, 5, none⟩ = some (.slice mA mem.length mc) ∧ w'.cell? ⟨w.heap.size + 1, 0, none⟩ = some (.int .i32 (vals x)) ∧ w'.cell? ⟨w.heap.size, 4, none⟩ = some (.int .i32 imm)) [0, 1, 2, 3, 4, 5, 6, 7, 8, 10, 11, 12, 13, 14] [0, 1, 2, 3, 4, 5, 6, 7, 8, 9, 10, 11, 12, 13, 14] (by kernel_rfl) (by kernel_rfl) (by kernel_rfl) rfl (by intro c a d v w h; cases d <;> exact h) ⟨k5, a0, i4⟩ ?_
        refine walkC_still _ ?u0 rfl rfl rfl ?uy0 ?_
        case uy0 => intro w hS; go_simp; first | done | with_reducible rfl
        simp only [Act.put]
        refine walkC_still _ ?u1 rfl rfl rfl ?uy1 ?_
        case uy1 => intro w hS; go_simp; first | done | with_reducible rfl
        simp only [Act.put]
        refine walkC_still _ ?u2 rfl rfl rfl ?uy2 ?_
        case uy2 => intro w hS; go_simp; first | done | with_reducible rfl
        simp only [Act.put]
        refine walkC_still _ ?u3 rfl rfl rfl ?uy3 ?_
        case uy3 => intro w hS; go_simp; first | done | with_reducible rfl
        simp only [Act.put]
        refine walkC_still _ ?u4 rfl rfl rfl ?uy4 ?_
        case uy4 => intro w hS; go_simp; first | done | with_reducible rfl
        simp only [Act.put]
        refine walkC_still _ ?u5 rfl rfl rfl ?uy5 ?_
        case uy5 => intro w hS; go_simp; first | done | with_reducible rfl
        simp only [Act.put]
        refine walkC_still _ ?u6 rfl rfl rfl ?uy6 ?_
        case uy6 => intro w hS; go_simp; first | done | with_reducible rfl
        simp only [Act.put]
        refine walkC_still _ ?u7 rfl rfl rfl ?uy7 ?_
        case uy7 => intro w hS; go_simp; first | done | with_reducible rfl
        simp only [Act.put]
        refine walkC_still _ ?u8 rfl rfl rfl ?uy8 ?_
        case uy8 => intro w hS; go_simp; first | done | with_reducible rfl
        simp only [Act.put]
        try simp only [List.setIfInBounds_toArray, List.set_cons_zero, List.set_cons_succ]
        refine walkC_does _ rfl rfl ?_
        go_wp2_with fail
        refine (HLD.out 1).mono ?_
        rintro e w8 ⟨rfl, rfl⟩
        rw [HBH.out]
        go_wp2
        refine behindC ⟨k5, a0, i4⟩ ?_
        refine walkC_still _ ?ub10 rfl rfl rfl ?uby10 ?_
        case uby10 => intro w hS; go_simp; first | done | with_reducible rfl
        simp only [Act.put]
        refine walkC_still _ ?ub11 rfl rfl rfl ?uby11 ?_
        case uby11 => intro w hS; go_simp; first | done | with_reducible rfl
        simp only [Act.put]
        refine walkC_still _ ?ub12 rfl rfl rfl ?uby12 ?_
        case uby12 => intro w hS; go_simp; first | done | with_reducible rfl
        simp only [Act.put]
        refine walkC_still _ ?ub13 rfl rfl rfl ?uby13 ?_
        case uby13 => intro w hS; go_simp; first | done | with_reducible rfl
        simp only [Act.put]
        refine walkC_still _ ?ub14 rfl rfl rfl ?uby14 ?_
        case uby14 => intro w hS; go_simp; first | done | with_reducible rfl
        simp only [Act.put]
        try simp only [List.setIfInBounds_toArray, List.set_cons_zero, List.set_cons_succ]
        refine walkC_nil ?_
        go_wp2_with fail
        go_ret2
        exact HP.out _ _ ⟨rfl, But.of_below HBo.out.drew, HR.out.below (Below.refl _ _).drew⟩
      | true =>
        have HP := Lib.hid (show ∀ en w', (en = .returned (.tuple #[.int .i32 0, .bool true]) ∧ But mb w w' ∧ RunAt w' rb mb (cc + 1) av mv nv (.slice mA mem.length mc) cs lim (upd vals dst (mem.getD (wrap32 (vals x + imm)).toNat 0)) steps) → LoadPost rb mb cc av mv nv (.slice mA mem.length mc) cs lim steps vals mem dst (wrap32 (vals x + imm)) w en w' from fun en w' h => by unfold LoadPost; rw [if_pos hB]; exact h)
        have HBH := Lib.hid hB
        clear hB
        go_wp2_with fail
        refine region_heldC_wp (fun w' => w'.cell? ⟨rb, 5, none⟩ = some (.slice mA mem.length mc) ∧ w'.cell? ⟨w.heap.size + 1, 0, none⟩ = some (.int .i32 (vals x)) ∧ w'.cell? ⟨w.heap.size, 4, none⟩ = some (.int .i32 imm)) [0, 1, 2, 3, 4, 5, 6, 7, 8, 10, 11, 12, 13, 14] [0, 1, 2, 3, 4, 5, 6, 7, 8, 9, 10, 11, 12, 13, 14] (by kernel_rfl) (by kernel_rfl) (by kernel_rfl) rfl (by intro c a d v w h; cases d <;> exact h) ⟨k5, a0, i4⟩ ?_
        refine walkC_still _ ?v0 rfl rfl rfl ?vy0 ?_
        case vy0 => intro w hS; go_simp; first | done | with_reducible rfl
        simp only [Act.put]
        refine walkC_still _ ?v1 rfl rfl rfl ?vy1 ?_
        case vy1 => intro w hS; go_simp; first | done | with_reducible rfl
        simp only [Act.put]
        refine walkC_still _ ?v2 rfl rfl rfl ?vy2 ?_
        case vy2 => intro w hS; go_simp; first | done | with_reducible rfl
        simp only [Act.put]
        refine walkC_still _ ?v3 rfl rfl rfl ?vy3 ?_
        case vy3 => intro w hS; go_simp; first | done | with_reducible rfl
        simp only [Act.put]
        refine walkC_still _ ?v4 rfl rfl rfl ?vy4 ?_
        case vy4 => intro w hS; go_simp; first | done | with_reducible rfl
        simp only [Act.put]
        refine walkC_still _ ?v5 rfl rfl rfl ?vy5 ?_
        case vy5 => intro w hS; go_simp; first | done | with_reducible rfl
        simp only [Act.put]
        refine walkC_still _ ?v6 rfl rfl rfl ?vy6 ?_
        case vy6 => intro w hS; go_simp; first | done | with_reducible rfl
        simp only [Act.put]
        refine walkC_still _ ?v7 rfl rfl rfl ?vy7 ?_
        case vy7 => intro w hS; go_simp; first | done | with_reducible rfl
        simp only [Act.put]
        refine walkC_still _ ?v8 rfl rfl rfl ?vy8 ?_
        case vy8 => intro w hS; go_simp; first | done | with_reducible rfl
        simp only [Act.put]
        try simp only [List.setIfInBounds_toArray, List.set_cons_zero, List.set_cons_succ]
        refine walkC_does _ rfl rfl ?_
        go_wp2_with fail
        refine (HLD.out 1).mono ?_
        rintro e w8 ⟨rfl, rfl⟩
        rw [HBH.out]
        go_wp2
        refine behindC ⟨k5, a0, i4⟩ ?_
        refine walkC_still _ ?vb10 rfl rfl rfl ?vby10 ?_
        case vby10 => intro w hS; go_simp; first | done | with_reducible rfl
        simp only [Act.put]
        refine walkC_still _ ?vb11 rfl rfl rfl ?vby11 ?_
        case vby11 => intro w hS; go_simp; first | done | with_reducible rfl
        simp only [Act.put]
        refine walkC_still _ ?vb12 rfl rfl rfl ?vby12 ?_
        case vby12 => intro w hS; go_simp; first | done | with_reducible rfl
        simp only [Act.put]
        refine walkC_still _ ?vb13 rfl rfl rfl ?vby13 ?_
        case vby13 => intro w hS; go_simp; first | done | with_reducible rfl
        simp only [Act.put]
        refine walkC_still _ ?vb14 rfl rfl rfl ?vby14 ?_
        case vby14 => intro w hS; go_simp; first | done | with_reducible rfl
        simp only [Act.put]
        try simp only [List.setIfInBounds_toArray, List.set_cons_zero, List.set_cons_succ]
        refine walkC_nil ?_
        go_wp2_with fail
        refine region_heldC_wp (fun w' => w'.cell? ⟨rb, 4, none⟩ = some (.map (some mb)) ∧ w'.cell? ⟨w.heap.size, 1, none⟩ = some (.int .i64 dst)) [0, 1, 2, 3, 4, 5, 6] [0, 1, 2, 3, 4, 5, 6, 7] (by kernel_rfl) (by kernel_rfl) (by kernel_rfl) rfl (by intro c a d v w h; cases d <;> exact h) ⟨k4, i1⟩ ?_
        refine walkC_still _ ?q0 rfl rfl rfl ?qy0 ?_
        case qy0 => intro w hS; go_simp; first | done | with_reducible rfl
        simp only [Act.put]
        refine walkC_still _ ?q1 rfl rfl rfl ?qy1 ?_
        case qy1 => intro w hS; go_simp; first | done | with_reducible rfl
        simp only [Act.put]
        refine walkC_still _ ?q2 rfl rfl rfl ?qy2 ?_
        case qy2 => intro w hS; go_simp; first | done | with_reducible rfl
        simp only [Act.put]
        refine walkC_still _ ?q3 rfl rfl rfl ?qy3 ?_
        case qy3 => intro w hS; go_simp; first | done | with_reducible rfl
        simp only [Act.put]
        refine walkC_still _ ?q4 rfl rfl rfl ?qy4 ?_
        case qy4 => intro w hS; go_simp; first | done | with_reducible rfl
        simp only [Act.put]
        refine walkC_still _ ?q5 rfl rfl rfl ?qy5 ?_
        case qy5 => intro w hS; go_simp; first | done | with_reducible rfl
        simp only [Act.put]
        refine walkC_still _ ?q6 rfl rfl rfl ?qy6 ?_
        case qy6 => intro w hS; go_simp; first | done | with_reducible rfl
        simp only [Act.put]
        try simp only [List.setIfInBounds_toArray, List.set_cons_zero, List.set_cons_succ]
        refine walkC_does _ rfl rfl ?_
        refine wpList_put rfl _ _ _ rfl mb cc vals rfl (HR.out.map.below (below_drewK (Below.refl _ _) 2)) (by omega) dst (loadV mem (wrap32 (vals x + imm))) rfl rfl hd ?_
        intro w9 hs9 hg9
        have hb9 : But mb wo w9 := (But.of_below (below_drewK (Below.refl _ _) 2)).trans (But.of_grown hg9)
        refine wpList_nil (behindC ⟨hb9.cell k4 H.out.ne, hb9.cell i1 (by have := H.out.map.lt; show w.heap.size ≠ mb; omega)⟩ (walkC_nil ?_))
        go_wp2
        go_ret2
        rw [HLV.out, if_pos HBH.out] at hs9
        exact HP.out _ _ ⟨rfl, (But.of_below HBo.out).trans hb9, ⟨(HR.out.str.below (below_drewK (Below.refl _ _) 2)).kept hg9 (fun e => H.out.ne (Option.some.inj e)), hs9, H.out.ne⟩⟩
def StorePost (B : Nat) (mm : Value) (mem : List Int) (a v : Int) (w : World) (en : Ending) (w' : World) : Prop :=
  if hasB mem.length a = true then en = .returned (.tuple #[.int .i32 0, .bool true]) ∧ ∃ g, mm.ownBlock = some g ∧ But g w w' ∧ OwnWords B w' mm (mem.set a.toNat v)
  else en = .returned (.tuple #[.int .i32 (-2), .bool false]) ∧ Below w.heap.size w w'
set_option maxRecDepth 100000 in
set_option maxHeartbeats 1000000 in
theorem do_store (w : World) (rb mb cc : Nat) (av mv nv mm cs : Value) (lim steps : Int) (vals : Int → Int) (h : RunAt w rb mb cc av mv nv mm cs lim vals steps) (dst two imm : Int) (A : Option Addr) (c : Nat) (x y : Int) (hv : Ints w (.slice A 2 c) [x, y])
    (hx : InI x) (hy : InI y) (B : Nat) (mem : List Int) (hm : OwnWords B w mm mem) (hmr : ∀ g, mm.ownBlock = some g → g ≠ rb) (hl : mem.length ≤ 4096) (hi : InW imm) (hr : InW (vals x)) :
    Calls Try.prog 54 #[.pointer (some ⟨rb, 0, none⟩), .agg #[.int .i64 16, .int .i64 dst, .int .i64 two, .slice A 2 c, .int .i32 imm]] w (StorePost B mm mem (wrap32 (vals x + imm)) (vals y) w) := by
  obtain ⟨A', c', e, v1, v2, v3⟩ := hv
  injection e with e1 e2 e3
  subst e1 e3
  clear e2
  have HV := Lib.hid v3
  clear v1 v2 v3
  have HI := Lib.hid (show ∀ z ∈ [x, y], InI z from fun z hz => by simp only [List.mem_cons, List.not_mem_nil, or_false] at hz; rcases hz with rfl | rfl <;> assumption)
  have HL4 := Lib.hid (show [x, y].length ≤ 4 by simp)
  have HM := Lib.hid hm
  have HMR := Lib.hid hmr
  obtain ⟨mA, mn, mc, rfl⟩ := OwnWords.slice hm
  have HLN := Lib.hid hl
  clear hx hy hi hr hm hmr hl
  have H := Lib.hid h
  clear h
  have hrw := H.out.str.lt
  have hmw := H.out.map.lt
  go_enter Try.func54, Try.ntmps54
  go_upto_region 2 with (fail)
  obtain ⟨W1, hW1⟩ : ∃ W1, w.alloc (.cells #[.int .i64 16, .int .i64 dst, .int .i64 two, .slice A 2 c, .int .i32 imm] 36) = W1 := ⟨_, rfl⟩
  rw [hW1]
  have hb1 : Below w.heap.size w W1 := by rw [← hW1]; exact (Below.refl _ _).alloc (Nat.le_refl _) _
  have hs1 : Str W1 w.heap.size 36 [.int .i64 16, .int .i64 dst, .int .i64 two, .slice A 2 c, .int .i32 imm] := by rw [← hW1]; exact World.alloc_heap_new w _
  have hz1 : W1.heap.size = w.heap.size + 1 := by rw [← hW1]; simp
  clear hW1
  obtain ⟨W2, hW2⟩ : ∃ W2, W1.alloc (.cells #[.int .i32 0, .int .i32 0, .int .i32 0, .int .i32 0] 151) = W2 := ⟨_, rfl⟩
  rw [hW2]
  have hb2 : Below W1.heap.size W1 W2 := by rw [← hW2]; exact (Below.refl _ _).alloc (Nat.le_refl _) _
  have hs2 : Str W2 (w.heap.size + 1) 151 (arrL vals [x, y] 0) := by rw [← hW2, ← hz1, arrL_zero]; exact World.alloc_heap_new W1 _
  have HS1 := Lib.hid (hs1.below hb2)
  have HS2 := Lib.hid hs2
  have HB := Lib.hid (hb1.trans (hb2.mono hb1.size))
  have hz2 : w.heap.size + 1 < W2.heap.size := hs2.lt
  have e3 : W2.cell? ⟨w.heap.size, 3, none⟩ = some (.slice A 2 c) := HS1.out.cell 3
  clear hW2 hb1 hb2 hs1 hs2 hz1
  go_wp2_with fail
  go_loopw [7, 8, 16] (fun _ _ i wr => ∃ k : Nat, k ≤ 2 ∧ i = .int .i64 k ∧ Str wr (w.heap.size + 1) 151 (arrL vals [x, y] k) ∧ Str wr w.heap.size 36 [.int .i64 16, .int .i64 dst, .int .i64 two, .slice A 2 c, .int .i32 imm] ∧ Below w.heap.size w wr) (fun _ _ i _ => 2 - (intOf i).toNat)
  case atStart => exact ⟨0, by omega, rfl, HS2.out, HS1.out, HB.out⟩
  case round =>
    obtain ⟨k, hk, rfl, hs, hsi, hb⟩ := hrel
    have HSI := Lib.hid hsi
    clear hsi
    obtain ⟨wo, rfl⟩ : ∃ wo : World, wo = wr := ⟨_, rfl⟩
    have HBo := Lib.hid hb
    clear hb
    by_cases hlt : k < 2
    · have hlk : k < ([x, y] : List Int).length := hlt
      obtain ⟨ad', rfl, hc0⟩ := HV.out k hlk
      have hc := cell_keep HBo.out (Nat.le_refl _) hc0
      have HAR := Lib.hid (arrL_succ vals [x, y] k hlk HL4.out)
      have hz : InI ([x, y] : List Int)[k] := HI.out _ (List.getElem_mem hlk)
      generalize ([x, y] : List Int)[k] = z at *
      have hlk2 : (Instr.lookup 101 (.map (some mb)) (.int .i64 z) false).run Try.prog wo = .ok (.int .i32 (vals z)) wo := (H.out.below HBo.out).map.look hz
      have k4 := (H.out.below HBo.out).c4
      have sf := hs.frozen k
      have hal : k < (arrL vals [x, y] k).length := by have := HL4.out; simp [arrL]; omega
      have hsk := (hs.cell k).trans (List.getElem?_eq_getElem hal)
      have HS := Lib.hid hs
      generalize (arrL vals [x, y] k)[k] = zz at *
      have hk4 : k < 4 := by have := HL4.out; omega
      clear hs hc0 hal hlk
      go_wp2
      go_roundw
      case rel => exact ⟨k + 1, by omega, by go_num, by rw [HAR.out]; exact HS.out.set k _, Str.kept HSI.out (setCell_grownBy wo ⟨w.heap.size + 1, k, none⟩ _) (fun e => by have e := Option.some.inj e; simp only at e; omega), HBo.out.setCell (p := ⟨w.heap.size + 1, k, none⟩) (by simp only; omega) _⟩
      case measure => simp [intOf]; omega
    · obtain rfl : k = 2 := by omega
      have HS := Lib.hid hs
      have i0 : wo.cell? ⟨w.heap.size, 0, none⟩ = some (.int .i64 16) := HSI.out.cell 0
      have i1 : wo.cell? ⟨w.heap.size, 1, none⟩ = some (.int .i64 dst) := HSI.out.cell 1
      have i3 : wo.cell? ⟨w.heap.size, 3, none⟩ = some (.slice A 2 c) := HSI.out.cell 3
      have i4 : wo.cell? ⟨w.heap.size, 4, none⟩ = some (.int .i32 imm) := HSI.out.cell 4
      have HR := Lib.hid (H.out.below HBo.out)
      have k4 := (H.out.below HBo.out).c4
      have k5 := (H.out.below HBo.out).c5
      have a0 : wo.cell? ⟨w.heap.size + 1, 0, none⟩ = some (.int .i32 (vals x)) := hs.cell 0
      have a1 : wo.cell? ⟨w.heap.size + 1, 1, none⟩ = some (.int .i32 (vals y)) := hs.cell 1
      clear hs
      have HST := Lib.hid (store_any (wo.drewN 1) B (.slice mA mn mc) mem (wrap32 (vals x + imm)) (vals y) (HM.out.below (below_drewK HBo.out 1)) (by have := HLN.out; omega) (wrap32_bd _))
      cases hB : hasB mem.length (wrap32 (vals x + imm)) with
      | false =>
        have HP := Lib.hid (show ∀ en w', (en = .returned (.tuple #[.int .i32 (-2), .bool false]) ∧ Below w.heap.size w w') → StorePost B (.slice mA mn mc) mem (wrap32 (vals x + imm)) (vals y) w en w' from fun en w' h => by unfold StorePost; rw [if_neg (by rw [hB]; simp)]; exact h)
        have HBH := Lib.hid hB
        clear hB
        go_wp2_with fail
        refine region_heldC_wp (fun w' => w'.cell? ⟨rb, 5, none⟩ = some (.slice mA mn mc) ∧ w'.cell? ⟨w.heap.size + 1, 0, none⟩ = some (.int .i32 (vals x)) ∧ w'.cell? ⟨w.heap.size + 1, 1, none⟩ = some (.int .i32 (vals y)) ∧ w'.cell? ⟨w.heap.size, 4, none⟩ = some (.int .i32 imm)) [0, 1, 2, 3, 4, 5, 6, 7, 8, 9, 10, 12] [0, 1, 2, 3, 4, 5, 6, 7, 8, 9, 10, 11, 12] (by kernel_rfl) (by kernel_rfl) (by kernel_rfl) rfl (by intro c a d v w h; cases d <;> exact h) ⟨k5, a0, a1, i4⟩ ?_
        refine walkC_still _ ?u0 rfl rfl rfl ?uy0 ?_
        case uy0 => intro w hS; go_simp; first | done | with_reducible rfl
        simp only [Act.put]
        refine walkC_still _ ?u1 rfl rfl rfl ?uy1 ?_
        case uy1 => intro w hS; go_simp; first | done | with_reducible rfl
        simp only [Act.put]
        refine walkC_still _ ?u2 rfl rfl rfl ?uy2 ?_
        case uy2 => intro w hS; go_simp; first | done | with_reducible rfl
        simp only [Act.put]
        refine walkC_still _ ?u3 rfl rfl rfl ?uy3 ?_
        case uy3 => intro w hS; go_simp; first | done | with_reducible rfl
        simp only [Act.put]
        refine walkC_still _ ?u4 rfl rfl rfl ?uy4 ?_
        case uy4 => intro w hS; go_simp; first | done | with_reducible rfl
        simp only [Act.put]
        refine walkC_still _ ?u5 rfl rfl rfl ?uy5 ?_
        case uy5 => intro w hS; go_simp; first | done | with_reducible rfl
        simp only [Act.put]
        refine walkC_still _ ?u6 rfl rfl rfl ?uy6 ?_
        case uy6 => intro w hS; go_simp; first | done | with_reducible rfl
        simp only [Act.put]
        refine walkC_still _ ?u7 rfl rfl rfl ?uy7 ?_
        case uy7 => intro w hS; go_simp; first | done | with_reducible rfl
        simp only [Act.put]
        refine walkC_still _ ?u8 rfl rfl rfl ?uy8 ?_
        case uy8 => intro w hS; go_simp; first | done | with_reducible rfl
        simp only [Act.put]
        refine walkC_still _ ?u9 rfl rfl rfl ?uy9 ?_
        case uy9 => intro w hS; go_simp; first | done | with_reducible rfl
        simp only [Act.put]
        refine walkC_still _ ?u10 rfl rfl rfl ?uy10 ?_
        case uy10 => intro w hS; go_simp; first | done | with_reducible rfl
        simp only [Act.put]
        try simp only [List.setIfInBounds_toArray, List.set_cons_zero, List.set_cons_succ]
        refine walkC_does _ rfl rfl ?_
        go_wp2_with fail
        refine HST.out.mono ?_
        intro e w8 hp
        unfold StoreRes at hp
        rw [if_neg (by rw [HBH.out]; simp)] at hp
        obtain ⟨rfl, rfl⟩ := hp
        go_wp2
        refine behindC ⟨k5, a0, a1, i4⟩ ?_
        refine walkC_still _ ?ub12 rfl rfl rfl ?uby12 ?_
        case uby12 => intro w hS; go_simp; first | done | with_reducible rfl
        simp only [Act.put]
        try simp only [List.setIfInBounds_toArray, List.set_cons_zero, List.set_cons_succ]
        refine walkC_nil ?_
        go_wp2_with fail
        go_ret2
        exact HP.out _ _ ⟨rfl, below_drewK HBo.out 1⟩
      | true =>
        have HP := Lib.hid (show ∀ en w', (en = .returned (.tuple #[.int .i32 0, .bool true]) ∧ ∃ g, (Value.slice mA mn mc).ownBlock = some g ∧ But g w w' ∧ OwnWords B w' (.slice mA mn mc) (mem.set (wrap32 (vals x + imm)).toNat (vals y))) → StorePost B (.slice mA mn mc) mem (wrap32 (vals x + imm)) (vals y) w en w' from fun en w' h => by unfold StorePost; rw [if_pos hB]; exact h)
        have HBH := Lib.hid hB
        clear hB
        go_wp2_with fail
        refine region_heldC_wp (fun w' => w'.cell? ⟨rb, 5, none⟩ = some (.slice mA mn mc) ∧ w'.cell? ⟨w.heap.size + 1, 0, none⟩ = some (.int .i32 (vals x)) ∧ w'.cell? ⟨w.heap.size + 1, 1, none⟩ = some (.int .i32 (vals y)) ∧ w'.cell? ⟨w.heap.size, 4, none⟩ = some (.int .i32 imm)) [0, 1, 2, 3, 4, 5, 6, 7, 8, 9, 10, 12] [0, 1, 2, 3, 4, 5, 6, 7, 8, 9, 10, 11, 12] (by kernel_rfl) (by kernel_rfl) (by kernel_rfl) rfl (by intro c a d v w h; cases d <;> exact h) ⟨k5, a0, a1, i4⟩ ?_
        refine walkC_still _ ?v0 rfl rfl rfl ?vy0 ?_
        case vy0 => intro w hS; go_simp; first | done | with_reducible rfl
        simp only [Act.put]
        refine walkC_still _ ?v1 rfl rfl rfl ?vy1 ?_
        case vy1 => intro w hS; go_simp; first | done | with_reducible rfl
        simp only [Act.put]
        refine walkC_still _ ?v2 rfl rfl rfl ?vy2 ?_
        case vy2 => intro w hS; go_simp; first | done | with_reducible rfl
        simp only [Act.put]
        refine walkC_still _ ?v3 rfl rfl rfl ?vy3 ?_
        case vy3 => intro w hS; go_simp; first | done | with_reducible rfl
        simp only [Act.put]
        refine walkC_still _ ?v4 rfl rfl rfl ?vy4 ?_
        case vy4 => intro w hS; go_simp; first | done | with_reducible rfl
        simp only [Act.put]
        refine walkC_still _ ?v5 rfl rfl rfl ?vy5 ?_
        case vy5 => intro w hS; go_simp; first | done | with_reducible rfl
        simp only [Act.put]
        refine walkC_still _ ?v6 rfl rfl rfl ?vy6 ?_
        case vy6 => intro w hS; go_simp; first | done | with_reducible rfl
        simp only [Act.put]
        refine walkC_still _ ?v7 rfl rfl rfl ?vy7 ?_
        case vy7 => intro w hS; go_simp; first | done | with_reducible rfl
        simp only [Act.put]
        refine walkC_still _ ?v8 rfl rfl rfl ?vy8 ?_
        case vy8 => intro w hS; go_simp; first | done | with_reducible rfl
        simp only [Act.put]
        refine walkC_still _ ?v9 rfl rfl rfl ?vy9 ?_
        case vy9 => intro w hS; go_simp; first | done | with_reducible rfl
        simp only [Act.put]
        refine walkC_still _ ?v10 rfl rfl rfl ?vy10 ?_
        case vy10 => intro w hS; go_simp; first | done | with_reducible rfl
        simp only [Act.put]
        try simp only [List.setIfInBounds_toArray, List.set_cons_zero, List.set_cons_succ]
        refine walkC_does _ rfl rfl ?_
        go_wp2_with fail
        refine HST.out.mono ?_
        intro e w8 hp
        unfold StoreRes at hp
        rw [if_pos HBH.out] at hp
        obtain ⟨rfl, g, hg, hb8, hm8⟩ := hp
        have hgw := (OwnWords.where_ HM.out hg).2
        have hbw : But g wo w8 := (But.of_below (below_drewK (Below.refl _ _) 1)).trans hb8
        have HBW := Lib.hid hbw
        have HM8 := Lib.hid hm8
        have HG := Lib.hid hg
        have n1 : w.heap.size ≠ g := by omega
        have n2 : w.heap.size + 1 ≠ g := by omega
        have n3 : rb ≠ g := fun e => HMR.out g hg e.symm
        have b5 := hbw.cell k5 n3
        have b0 := hbw.cell a0 n2
        have b1 := hbw.cell a1 n2
        have b4 := hbw.cell i4 n1
        clear hb8 hm8 hg hbw
        go_wp2
        refine behindC ⟨b5, b0, b1, b4⟩ ?_
        refine walkC_still _ ?vb12 rfl rfl rfl ?vby12 ?_
        case vby12 => intro w hS; go_simp; first | done | with_reducible rfl
        simp only [Act.put]
        try simp only [List.setIfInBounds_toArray, List.set_cons_zero, List.set_cons_succ]
        refine walkC_nil ?_
        go_wp2_with fail
        go_ret2
        exact HP.out _ _ ⟨rfl, g, HG.out, (But.of_below HBo.out).trans HBW.out, HM8.out⟩
end Go.Proofs.Ytcangooibfddmaa.Ic
/- A region that draws its order, walked in one order, whose last operation waits for all others, if by others: what is held of the world need not hold behind it. -/
namespace Go.Proofs.Ytcangooibfddmaa.Br
open Go Go.RowKit Go.Proofs.Ytcangooibfddmaa.Mem
set_option linter.unusedVariables false
variable {P : Program}
def directB (md : Region.Mode) (ops : Array Oper) (k m : Nat) : Bool := match ops[k]? with
  | some o => o.after.any fun e => Region.binds md e && e.on == m
  | none => false
def waitsB (md : Region.Mode) (ops : Array Oper) : Nat → Nat → Nat → Bool
  | 0, _, _ => false
  | n + 1, k, m => directB md ops k m || (List.range ops.size).any fun j => directB md ops k j && waitsB md ops n j m
/-- Number z waits for every other operation, if by others. -/
def lastT (md : Region.Mode) (ops : Array Oper) (z : Nat) : Bool := (List.range ops.size).all fun k => k == z || waitsB md ops ops.size z k
def Closed (md : Region.Mode) (ops : Array Oper) (listed : Array Bool) : Prop := ∀ k m, listed.getD k false = true → directB md ops k m = true → listed.getD m false = true
theorem closed_waits {md : Region.Mode} {ops : Array Oper} {listed : Array Bool} (hc : Closed md ops listed) : ∀ n k m, listed.getD k false = true → waitsB md ops n k m = true → listed.getD m false = true
  | 0, _, _, _, h => by cases h
  | n + 1, k, m, hk, h => by
    unfold waitsB at h
    rw [Bool.or_eq_true] at h
    rcases h with h | h
    · exact hc k m hk h
    · obtain ⟨j, _, hj⟩ := List.any_eq_true.1 h
      rw [Bool.and_eq_true] at hj
      exact closed_waits hc n j m (hc k j hk hj.1) hj.2
theorem ready_direct {md : Region.Mode} {ops : Array Oper} {listed : Array Bool} {j m : Nat} (hj : j ∈ Region.ready md ops listed) (h : directB md ops j m = true) : listed.getD m false = true := by
  obtain ⟨_, oj, hoj, hall⟩ := mem_ready.1 hj
  unfold directB at h
  rw [hoj] at h
  obtain ⟨e, he, hb⟩ := Array.any_eq_true'.1 h
  rw [Bool.and_eq_true, beq_iff_eq] at hb
  have := hall e he hb.1
  rw [hb.2] at this
  exact this
theorem ready_waits {md : Region.Mode} {ops : Array Oper} {listed : Array Bool} (hc : Closed md ops listed) {j m : Nat} (hj : j ∈ Region.ready md ops listed) : ∀ n, waitsB md ops n j m = true → listed.getD m false = true
  | 0, h => by cases h
  | n + 1, h => by
    unfold waitsB at h
    rw [Bool.or_eq_true] at h
    rcases h with h | h
    · exact ready_direct hj h
    · obtain ⟨k, _, hk⟩ := List.any_eq_true.1 h
      rw [Bool.and_eq_true] at hk
      exact closed_waits hc n k m (ready_direct hj hk.1) hk.2
theorem closed_set {md : Region.Mode} {ops : Array Oper} {listed : Array Bool} (hc : Closed md ops listed) {j : Nat} (hj : j ∈ Region.ready md ops listed) : Closed md ops (listed.setIfInBounds j true) := by
  have hup : ∀ m, listed.getD m false = true → (listed.setIfInBounds j true).getD m false = true := fun m hm => by
    by_cases e : j = m
    · subst e
      have hl : j < listed.size := by
        rcases Nat.lt_or_ge j listed.size with h | h
        · exact h
        · simp [Array.getElem?_eq_none h] at hm
      simp [hl]
    · rw [getD_set_ne false e]; exact hm
  intro k m hk hd
  by_cases e : j = k
  · subst e; exact hup m (ready_direct hj hd)
  · rw [getD_set_ne false e] at hk
    exact hup m (hc k m hk hd)
/-- Whatever order is picked from here on, and S holds behind every operation but number z. -/
def wpAnyU (P : Program) (md : Region.Mode) (ops : Array Oper) (Q : Exit → Act → World → Prop) (S : World → Prop) (z : Nat) : Nat → Array Bool → Act → World → Prop
  | 0, listed, a, w => Region.ready md ops listed = [] ∧ Q .normal a w
  | fuel + 1, listed, a, w => (Region.ready md ops listed = [] → Q .normal a w) ∧
    ∀ i ∈ Region.ready md ops listed, wpOp P ops Q i (fun a' w' => (S w' ∨ i = z) ∧ wpAnyU P md ops Q S z fuel (listed.setIfInBounds i true) a' w') a w
section
variable {md : Region.Mode} {ops : Array Oper} {Q : Exit → Act → World → Prop} {S : World → Prop} {z : Nat}
theorem wpAny_of_U : ∀ (fuel : Nat) (listed : Array Bool) (a : Act) (w : World), wpAnyU P md ops Q S z fuel listed a w → wpAny P md ops Q fuel listed a w
  | 0, _, _, _, h => h
  | fuel + 1, _, _, _, h => ⟨h.1, fun i hi => wpOp_mono (fun a' w' h' => wpAny_of_U fuel _ a' w' h'.2) (h.2 i hi)⟩
theorem wpAnyU_first (hz : lastT md ops z = true) {i : Nat} {oi : Oper} {v : Value} (hi : ops[i]? = some oi) (hiz : i ≠ z) (hsel : ∀ (j : Nat) (o : Oper) cs b, ops[j]? = some o → o.op ≠ .select cs b)
    (hQ : ∀ c a w, Q (.panic c) (a.put oi.dst v) w → Q (.panic c) a w) :
    ∀ (fuel : Nat) (listed : Array Bool) (a : Act) (w : World), Closed md ops listed →
      (∀ j oj, ops[j]? = some oj → j ≠ i → listed.getD j true = false → (∀ e ∈ oj.after, Region.binds md e = true → e.on ≠ i) → oi.apart ops oj = true) →
      i ∈ Region.ready md ops listed → YieldsIf P ops S oi v a → S w →
      wpAnyU P md ops Q S z fuel (listed.setIfInBounds i true) (a.put oi.dst v) w → wpAnyU P md ops Q S z (fuel + 1) listed a w := by
  intro fuel
  induction fuel with
  | zero =>
    intro listed a w _ _ hr hy hS H
    refine ⟨fun h => (by rw [h] at hr; cases hr), fun j hj => ?_⟩
    by_cases hji : j = i
    · subst hji; exact hy.wpOp hi hS ⟨Or.inl hS, H⟩
    · have := ready_mono hj hji
      rw [H.1] at this
      cases this
  | succ fuel ih =>
    intro listed a w hcl hfree hr hy hS H
    refine ⟨fun h => (by rw [h] at hr; cases hr), fun j hj => ?_⟩
    by_cases hji : j = i
    · subst hji; exact hy.wpOp hi hS ⟨Or.inl hS, H⟩
    · have h1 := H.2 j (ready_mono hj hji)
      obtain ⟨hjun, oj, hoj, hall⟩ := mem_ready.1 hj
      have hnot : ∀ e ∈ oj.after, Region.binds md e = true → e.on ≠ i := fun e he hb heq => by
        have h1 := hall e he hb
        have h0 := (mem_ready.1 hr).1
        rw [heq] at h1
        rcases Nat.lt_or_ge i listed.size with h' | h'
        · simp [h'] at h0 h1; rw [h0] at h1; cases h1
        · simp [Array.getElem?_eq_none h'] at h1
      have hlast : j ≠ z := fun hl => by
        subst hl
        have hil : i < ops.size := (Array.getElem?_eq_some_iff.1 hi).1
        unfold lastT at hz
        have h2 := List.all_eq_true.1 hz i (List.mem_range.2 hil)
        simp only [Bool.or_eq_true, beq_iff_eq] at h2
        rcases h2 with h2 | h2
        · exact hji h2.symm
        · have h1 := ready_waits hcl hj _ h2
          have h0 := (mem_ready.1 hr).1
          rcases Nat.lt_or_ge i listed.size with h' | h'
          · simp [h'] at h0 h1; rw [h0] at h1; cases h1
          · simp [Array.getElem?_eq_none h'] at h1
      have h2 := wpOp_putIf hoj (hfree j oj hoj hji hjun hnot) (fun cs b => hsel i oi cs b hi) (fun cs b => hsel j oj cs b hoj) hQ hy h1
      have hfree' : ∀ k ok, ops[k]? = some ok → k ≠ i → (listed.setIfInBounds j true).getD k true = false →
          (∀ e ∈ ok.after, Region.binds md e = true → e.on ≠ i) → oi.apart ops ok = true := fun k ok hk hki hun hno => by
        refine hfree k ok hk hki ?_ hno
        by_cases hjk : j = k
        · subst hjk; exact hjun
        · rw [getD_set_ne true hjk] at hun; exact hun
      refine wpOp_mono (fun a' w' h3 => ?_) h2
      have hS' : S w' := h3.2.1.elim id fun hl => absurd hl hlast
      refine ⟨Or.inl hS', ih (listed.setIfInBounds j true) a' w' (closed_set hcl hj) hfree' (ready_mono hr (Ne.symm hji)) h3.1 hS' ?_⟩
      rw [Array.setIfInBounds_comm _ _ hji]
      exact h3.2.2
end
def planU (md : Region.Mode) (ops : Array Oper) (st : List Nat) (z : Nat) : List Nat → Array Bool → Bool
  | [], listed => (Region.ready md ops listed).isEmpty
  | i :: ord, listed => (if st.contains i then Region.free md ops listed i && (Region.ready md ops listed).contains i && i != z else decide (Region.ready md ops listed = [i]) && (!ord.isEmpty || i == z)) && planU md ops st z ord (listed.setIfInBounds i true)
theorem wpAnyU_plan {md : Region.Mode} {ops : Array Oper} {Q : Exit → Act → World → Prop} {S : World → Prop} {st : List Nat} {z : Nat} (hz : lastT md ops z = true) (hs : Region.noSelect ops = true) (hQ : ∀ c a d v w, Q (.panic c) (Act.put a d v) w → Q (.panic c) a w) :
    ∀ (ord : List Nat) (listed : Array Bool) (a : Act) (w : World), Closed md ops listed → planU md ops st z ord listed = true → (S w ∨ ord = []) → walkH P ops Q S st ord a w → wpAnyU P md ops Q S z ord.length listed a w
  | [], listed, a, w, _, hp, hS, h => ⟨by simpa [planU] using hp, h⟩
  | i :: ord, listed, a, w, hcl, hp, hS, h => by
    have hS : S w := hS.elim id fun e => by cases e
    unfold planU at hp
    unfold walkH at h
    rw [Bool.and_eq_true] at hp
    obtain ⟨hp1, hp2⟩ := hp
    by_cases hi : st.contains i = true
    · rw [if_pos hi] at hp1 h
      rw [Bool.and_eq_true, Bool.and_eq_true] at hp1
      obtain ⟨o, v, ho, hy, h⟩ := h
      have hr : i ∈ Region.ready md ops listed := by simpa using hp1.1.2
      exact wpAnyU_first hz ho (by simpa using hp1.2) (Region.noSelect_spec hs) (fun c a w => hQ c a _ v w) _ _ _ _ hcl (Region.free_spec ho hp1.1.1) hr hy hS (wpAnyU_plan hz hs hQ ord _ _ _ (closed_set hcl hr) hp2 (Or.inl hS) h)
    · rw [if_neg hi] at hp1 h
      rw [Bool.and_eq_true, Bool.or_eq_true] at hp1
      have hr := of_decide_eq_true hp1.1
      refine ⟨fun e => (by rw [hr] at e; cases e), fun j hj => ?_⟩
      have hj0 := hj
      rw [hr, List.mem_singleton] at hj
      subst hj
      refine wpOp_mono (fun a' w' h' => ⟨?_, wpAnyU_plan hz hs hQ ord _ _ _ (closed_set hcl hj0) hp2 h'.1 h'.2⟩) h
      rcases h'.1 with h1 | h1
      · exact Or.inl h1
      · right
        rcases hp1.2 with h2 | h2
        · rw [h1] at h2; cases h2
        · exact beq_iff_eq.1 h2
theorem region_heldT_wp {id : Nat} {l : List Oper} {Q : Exit → Act → World → Prop} {a : Act} {w : World} (S : World → Prop) (st ord : List Nat) (z : Nat) (hm : P.follows .mixedOrders = true)
    (hs : Region.noSelect l.toArray = true) (hB : planU .any l.toArray st z ord (Array.replicate l.toArray.size false) = true) (hz : lastT .any l.toArray z = true) (hl : ord.length = l.toArray.size) (hpan : ∀ c a d v w, Q (.panic c) (Act.put a d v) w → Q (.panic c) a w)
    (hS : S { w with drawn := w.drawn + 1 }) (h : walkH P l.toArray Q S st ord a { w with drawn := w.drawn + 1 }) : (Code.region id l.toArray true).wp P Q a w := by
  refine wp_region_any hm (wpAny_of_U (S := S) (z := z) _ _ _ _ ?_)
  have hcl : Closed .any l.toArray (Array.replicate l.toArray.size false) := fun k m hk _ => by
    have key : ∀ n k : Nat, (Array.replicate n false).getD k false = false := fun n k => by rw [Array.getD_eq_getD_getElem?, Array.getElem?_replicate]; split <;> rfl
    rw [key] at hk
    cases hk
  have h2 := wpAnyU_plan hz hs hpan ord _ _ _ hcl hB (Or.inl hS) h
  rw [hl] at h2
  exact h2
end Go.Proofs.Ytcangooibfddmaa.Br
/- Stage 4: what interp's call and do do with Call. -/
namespace Go.Proofs.Ytcangooibfddmaa.Ic
open Go.ChangeShapes Go.WideShapes Go.ChangeAt Go.RowKit Go.Maps Go.Proofs.Ytcangooibfddmaa.Mem Go.Proofs.Ytcangooibfddmaa.Kc Go.Proofs.Ytcangooibfddmaa.Br Go.Proofs.Ytcangooibfddmaa.Pl Go.Proofs.Ytcangooibfddmaa.Wd Go.Proofs.Ytcangooibfddmaa.Gr
set_option linter.unusedVariables false
section
variable {P : Program}
def BehindH (P : Program) (ops : Array Oper) (Q : Exit → Act → World → Prop) (S : World → Prop) (st ord : List Nat) (e : Exit) (a : Act) (w : World) : Prop :=
  match e with
  | .normal => (S w ∨ ord = []) ∧ walkH P ops Q S st ord a w
  | e => Q e a w
theorem behindH {ops : Array Oper} {Q : Exit → Act → World → Prop} {S : World → Prop} {st ord : List Nat} {a : Act} {w : World} (hS : S w ∨ ord = []) (h : walkH P ops Q S st ord a w) : BehindH P ops Q S st ord .normal a w := ⟨hS, h⟩
theorem walkHd {ops : Array Oper} {Q : Exit → Act → World → Prop} {S : World → Prop} {st ord : List Nat} {i : Nat} {a : Act} {w : World} (o : Oper) (ho : (ops.toList.drop i).head? = some o) (hi : st.contains i = false)
    (h : wpList P ops (BehindH P ops Q S st ord) [o] a w) : walkH P ops Q S st (i :: ord) a w := walkH_does o ho hi h
end
theorem info_event : (Try.prog.info? 67).map (fun i => (i.zero, i.size, i.bytes)) = some (some (.agg #[.int .i32 0, .slice none 0 0]), 2, 32) := by kernel_rfl
theorem grown_of_but {g : Nat} {w w' : World} (h : But g w w') : w.grownBy w' (some g) := ⟨h.os, h.tape, h.output, h.size, fun k hk hn => h.block k hk (fun e => hn (by rw [e]))⟩
theorem off_grown {L : Nat → Prop} {w w' : World} {row : Option Nat} (h : w.grownBy w' row) (hr : ∀ g, row = some g → ¬ L g) : Off L w w' := ⟨h.os, h.tape, h.output, h.size, fun k hk hs => h.block k hs (fun e => hr k e.symm hk)⟩
def CallPost (B : Nat) (av mv nv : Value) (lim : Int) (nl : List Int) (rb mb cc : Nat) (mm : Value) (L : Nat → Prop) (s : Sg) (callee : Int) (al : List Int) (w : World) (en : Ending) (w' : World) : Prop :=
  ∃ cs', en = .returned (.int .i32 (nl.getD s.calls.length 0)) ∧ Off L w w' ∧ RunG B av mv nv lim nl rb mb cc mm cs' L w' { s with calls := s.calls ++ [(callee, al)] }
/-- The run, when its row of events has one more. -/
theorem RunG.pushed {B : Nat} {av mv nv : Value} {lim : Int} {nl : List Int} {rb mb cc : Nat} {mm cs : Value} {L : Nat → Prop} {w : World} {s : Sg} (h : RunG B av mv nv lim nl rb mb cc mm cs L w s) {w2 w3 : World} {cs' v : Value} {es : List Value} {c : Int} {a : List Int}
    (h1 : w.ownsRow B 67 2 cs s.calls.length es) (h2 : ∀ g, cs.ownBlock = some g → ¬ (L g ∨ g = rb ∨ g = mb ∨ mm.ownBlock = some g))
    (h3 : ∀ k (h : k < s.calls.length), es[2 * k]? = some (.int .i32 s.calls[k].1) ∧ ∃ v, es[2 * k + 1]? = some v ∧ OwnWords B w v s.calls[k].2 ∧ ∀ g, v.ownBlock = some g → ¬ (L g ∨ g = rb ∨ g = mb ∨ mm.ownBlock = some g))
    (hb : Below w.heap.size w w2) (hv : OwnWords w.heap.size w2 v a) (hr : w3.ownsRow B 67 2 cs' (s.calls.length + 1) (es ++ [.int .i32 c, v])) (hg : w2.grownBy w3 cs.ownBlock) (hm : Moved w2 cs cs') (hI : InvG { s with calls := s.calls ++ [(c, a)] }) :
    Off L w (w3.setCell ⟨rb, 6, none⟩ cs') ∧ RunG B av mv nv lim nl rb mb cc mm cs' L (w3.setCell ⟨rb, 6, none⟩ cs') { s with calls := s.calls ++ [(c, a)] } := by
  have lr := h.run.str.lt
  have lm := h.run.map.lt
  have hX : ∀ g, (L g ∨ g = rb ∨ g = mb ∨ mm.ownBlock = some g) → g < w.heap.size := by
    rintro g (e | e | e | e)
    · exact h.lt g e
    · rw [e]; exact lr
    · rw [e]; exact lm
    · exact (OwnWords.where_ h.mem e).2
  have hsz := hb.size
  have nr : some rb ≠ cs.ownBlock := fun e => h2 rb e.symm (Or.inr (Or.inl rfl))
  have nm : some mb ≠ cs.ownBlock := fun e => h2 mb e.symm (Or.inr (Or.inr (Or.inl rfl)))
  have hgs : w3.grownBy (w3.setCell ⟨rb, 6, none⟩ cs') (some rb) := setCell_grownBy w3 ⟨rb, 6, none⟩ cs'
  have hv' : OwnWords B w2 v a := OwnWords.mono hv h.base.2.2
  refine ⟨(Off.of_below hb).trans ((off_grown hg (fun g e hl => h2 g e (Or.inl hl))).trans (off_grown hgs (fun g e hl => by injection e with e; rw [← e] at hl; exact h.off.1 hl))), {
    run := ⟨((h.run.str.below hb).kept hg nr).set 6 cs', ((h.run.map.below hb).kept hg nm).kept hgs (fun e => h.run.ne (by injection e with e; exact e.symm)), h.run.ne⟩
    puts := h.puts
    base := ⟨h.base.1, h.base.2.1, Nat.le_trans h.base.2.2 (Nat.le_trans hsz (Nat.le_trans hg.size hgs.size))⟩
    off := h.off
    mem := World.ownsRow.kept (World.ownsRow.kept (h.mem.below hb) hg (own_apart h.mem h1 (by decide))) hgs (own_ne (X := fun k => L k ∨ k = rb ∨ k = mb) h.moff (Or.inr (Or.inl rfl)))
    moff := h.moff
    ev := (EventsAt.push (own_below h1 hb) h2 (fun k hk => by
        obtain ⟨e1, u, e2, e3, e4⟩ := h3 k hk
        exact ⟨e1, u, e2, e3.below hb, e4⟩) (fun g hg => Nat.lt_of_lt_of_le (hX g hg) hsz) hv' (fun g hg e => by have := (OwnWords.where_ hv hg).1; have := hX g e; omega) hr hg hm).kept hgs (Or.inr (Or.inl rfl))
    lt := fun k hk => Nat.lt_of_lt_of_le (h.lt k hk) (Nat.le_trans hsz (Nat.le_trans hg.size hgs.size))
    ans := ((h.ans.below hb).kept hg (fun g e => (h1.lt g e).1)).kept hgs (fun g e => by injection e with e; rw [← e]; exact h.base.1)
    inv := hI }⟩
set_option maxRecDepth 100000 in
set_option maxHeartbeats 1000000 in
theorem call_any (w : World) (B : Nat) (av mv nv : Value) (lim : Int) (nl : List Int) (rb mb cc : Nat) (mm cs : Value) (L : Nat → Prop) (s : Sg) (h : RunG B av mv nv lim nl rb mb cc mm cs L w s) (hnl : nl.length ≤ 1000000) (callee : Int) (v : Value) (al : List Int)
    (hv : WordsAt w v al) (hal : al.length ≤ 1000000) (hI : InvG { s with calls := s.calls ++ [(callee, al)] }) :
    Calls Try.prog 100 #[.pointer (some ⟨rb, 0, none⟩), .int .i32 callee, v] w (CallPost B av mv nv lim nl rb mb cc mm L s callee al w) := by
  have H := Lib.hid h
  obtain ⟨es, h1, h2, h3⟩ := h.ev
  obtain ⟨cA, ck, rfl⟩ := own_form h1
  obtain ⟨nA, nc, rfl, n1, n2, n3⟩ := h.ans
  have HV := Lib.hid hv
  have HI := Lib.hid hI
  obtain ⟨vA, vc, rfl, v1, v2, v3⟩ := hv
  clear v1 v3
  have hcl : s.calls.length ≤ 1000000 := by have := h.inv.2.2.2.2.2.2; have := h.inv.2.1; omega
  have hbs := h.base.2.2
  have k6 := h.run.c6
  have k2 : w.cell? ⟨rb, 2, none⟩ = some (.slice nA nl.length nc) := h.run.str.cell 2
  have H1 := Lib.hid h1
  have H2 := Lib.hid h2
  have H3 := Lib.hid h3
  have HN := Lib.hid n3
  have hrl := h.run.str.lt
  unfold maxLen at n2 v2
  obtain ⟨i0, hi, hz0, hz1, hz2⟩ := info_parts info_event
  have HI0 := Lib.hid hi
  have HZ0 := Lib.hid hz0
  have HZ1 := Lib.hid hz1
  have HZ2 := Lib.hid hz2
  have HCE := Lib.hid (show ∃ n, s.calls.length = n from ⟨_, rfl⟩)
  clear h h1 h2 h3 n3 hI hi hz0 hz1 hz2
  go_enter Try.func100, Try.ntmps100
  go_wp2_with fail
  refine region_heldT_wp (fun w' => w'.cell? ⟨rb, 6, none⟩ = some (.slice cA s.calls.length ck)) [0, 1, 2, 3, 4, 5, 6, 8, 11, 12] [0, 1, 2, 3, 4, 5, 6, 7, 8, 9, 10, 11, 12, 13] 13 (by kernel_rfl) (by kernel_rfl) (by kernel_rfl) (by kernel_rfl) rfl (by intro c a d v w h; cases d <;> exact h) k6 ?_
  refine walkH_still _ ?u0 rfl rfl rfl ?uy0 ?_
  case uy0 => intro w hS; go_simp; first | done | with_reducible rfl
  simp only [Act.put]
  refine walkH_still _ ?u1 rfl rfl rfl ?uy1 ?_
  case uy1 => intro w hS; go_simp; first | done | with_reducible rfl
  simp only [Act.put]
  refine walkH_still _ ?u2 rfl rfl rfl ?uy2 ?_
  case uy2 => intro w hS; go_simp; first | done | with_reducible rfl
  simp only [Act.put]
  refine walkH_still _ ?u3 rfl rfl rfl ?uy3 ?_
  case uy3 => intro w hS; go_simp; first | done | with_reducible rfl
  simp only [Act.put]
  refine walkH_still _ ?u4 rfl rfl rfl ?uy4 ?_
  case uy4 => intro w hS; go_simp; first | done | with_reducible rfl
  simp only [Act.put]
  refine walkH_still _ ?u5 rfl rfl rfl ?uy5 ?_
  case uy5 => intro w hS; go_simp; first | done | with_reducible rfl
  simp only [Act.put]
  refine walkH_still _ ?u6 rfl rfl rfl ?uy6 ?_
  case uy6 => intro w hS; go_simp; first | done | with_reducible rfl
  simp only [Act.put]
  try simp only [List.setIfInBounds_toArray, List.set_cons_zero, List.set_cons_succ]
  refine walkHd _ rfl rfl ?_
  go_wp2_with fail
  refine (own_any _ (.slice vA al.length vc) al (HV.out.below (Below.refl _ _).drew) hal).mono ?_
  rintro e w1 ⟨v', rfl, ho1, hb1⟩
  have hb1 : Below w.heap.size w w1 := (Below.refl _ _).drew.trans hb1
  obtain ⟨oA, oc, rfl⟩ := own_form ho1
  have k61 := cell_keep hb1 (Nat.le_refl _) k6
  have HO1 := Lib.hid (show OwnWords w.heap.size w1 (.slice oA al.length oc) al from ho1)
  have HB1 := Lib.hid hb1
  have hz1 := hb1.size
  clear ho1 hb1
  go_wp2
  refine behindH (Or.inl k61) ?_
  refine walkH_still _ ?p8 rfl rfl rfl ?py8 ?_
  case py8 => intro w hS; go_simp; first | done | with_reducible rfl
  simp only [Act.put]
  try simp only [List.setIfInBounds_toArray, List.set_cons_zero, List.set_cons_succ]
  refine walkHd _ rfl rfl ?_
  go_wp2
  obtain ⟨W2, hW2⟩ : ∃ W2, w1.alloc (.cells #[.int .i32 callee, .slice oA al.length oc] 67) = W2 := ⟨_, rfl⟩
  rw [hW2]
  have hb2 : Below w1.heap.size w1 W2 := by rw [← hW2]; exact (Below.refl _ _).alloc (Nat.le_refl _) _
  have hs2 : Str W2 w1.heap.size 67 [.int .i32 callee, .slice oA al.length oc] := by rw [← hW2]; exact World.alloc_heap_new w1 _
  have k62 := cell_keep hb2 (Nat.le_refl _) k61
  have HB2 := Lib.hid (HB1.out.trans (hb2.mono hz1))
  have HO2 := Lib.hid (HO1.out.below hb2)
  have HS2 := Lib.hid hs2
  have hz2 := hb2.size
  clear hW2 hb2 hs2
  refine behindH (Or.inl k62) ?_
  try simp only [List.setIfInBounds_toArray, List.set_cons_zero, List.set_cons_succ]
  refine walkHd _ rfl rfl ?_
  refine wpList_appendM rfl _ _ _ rfl B 67 i0 (.agg #[.int .i32 0, .slice none 0 0]) 2 32 Try.underlying43 HI0.out HZ0.out HZ1.out HZ2.out rfl (by decide) (.slice cA s.calls.length ck) s.calls.length es rfl (own_below H1.out HB2.out) ⟨w1.heap.size, 0, none⟩ [.int .i32 callee, .slice oA al.length oc] rfl rfl ?news ?one hcl (by omega) (by omega) ?_
  case news =>
    intro j u hj
    rw [at_add0, HS2.out.cell j]
    exact hj
  case one =>
    intro u hu
    simp only [List.mem_cons, List.not_mem_nil, or_false] at hu
    rcases hu with rfl | rfl <;> rfl
  intro v3 w3 hr3 hg3 hm3
  obtain ⟨rA, rc, rfl⟩ := own_form hr3
  have hn6 : some rb ≠ (Value.slice cA s.calls.length ck).ownBlock := fun e => H2.out rb e.symm (Or.inr (Or.inl rfl))
  have hst3 := (H.out.run.str.below HB2.out).kept hg3 hn6
  have k63 : w3.cell? ⟨rb, 6, none⟩ = some (.slice cA s.calls.length ck) := hst3.cell 6
  have f63 := hst3.frozen 6
  have HP := Lib.hid (H.out.pushed H1.out H2.out H3.out HB2.out HO2.out hr3 hg3 hm3 HI.out)
  clear hr3 hg3 hm3 hst3
  refine wpList_nil (behindH (Or.inl k63) ?_)
  refine walkH_still _ ?q11 rfl rfl rfl ?qy11 ?_
  case qy11 => intro w hS; go_simp; first | done | with_reducible rfl
  simp only [Act.put]
  refine walkH_still _ ?q12 rfl rfl rfl ?qy12 ?_
  case qy12 => intro w hS; go_simp; first | done | with_reducible rfl
  simp only [Act.put]
  try simp only [List.setIfInBounds_toArray, List.set_cons_zero, List.set_cons_succ]
  refine walkHd _ rfl rfl ?_
  go_wp2
  refine behindH (Or.inr rfl) (walkH_nil ?_)
  obtain ⟨W4, hW4⟩ : ∃ W4, w3.setCell ⟨rb, 6, none⟩ (.slice rA (s.calls.length + 1) rc) = W4 := ⟨_, rfl⟩
  have hP := HP.out
  rw [hW4] at hP ⊢
  have k24 : W4.cell? ⟨rb, 2, none⟩ = some (.slice nA nl.length nc) := hP.2.run.str.cell 2
  have HP4 := Lib.hid hP
  clear hP hW4 HP k63 f63
  by_cases hlt : s.calls.length < nl.length
  · obtain ⟨nA', nc', e, _, _, n4⟩ := HP4.out.2.ans
    injection e with e1 _ e3
    subst e1 e3
    obtain ⟨ad, rfl, hbk, hc4⟩ := n4 _ hlt
    have HV4 := Lib.hid (show nl.getD s.calls.length 0 = nl[s.calls.length] by rw [List.getD_eq_getElem?_getD, List.getElem?_eq_getElem hlt]; rfl)
    generalize nl[s.calls.length] = z at *
    clear n4 hbk
    go_wp2_with fail
    go_ret
    exact ⟨_, by rw [HV4.out]; rfl, HP4.out.1, HP4.out.2⟩
  · have hle : nl.length ≤ s.calls.length := by omega
    have HV4 := Lib.hid (show nl.getD s.calls.length 0 = 0 by rw [List.getD_eq_getElem?_getD, List.getElem?_eq_none hle]; rfl)
    go_wp2_with fail
    go_ret
    exact ⟨_, by rw [HV4.out]; rfl, HP4.out.1, HP4.out.2⟩
theorem arrL_words {w : World} {g : Nat} {vals : Int → Int} {l : List Int} (h : Str w g 151 (arrL vals l l.length)) (hl : l.length ≤ 4) : WordsAt w (.slice (some ⟨g, 0, none⟩) l.length 4) (l.map vals) := by
  refine ⟨some ⟨g, 0, none⟩, 4, by rw [List.length_map], by rw [List.length_map]; exact hl, by unfold maxLen; omega, fun k hk => ⟨_, rfl, ?_⟩⟩
  rw [List.length_map] at hk
  rw [at_add0, h.cell k, List.getElem_map]
  have e : l.getD k 0 = l[k] := by rw [List.getD_eq_getElem?_getD, List.getElem?_eq_getElem hk]; rfl
  rw [← e]
  have h : k = 0 ∨ k = 1 ∨ k = 2 ∨ k = 3 := by omega
  rcases h with rfl | rfl | rfl | rfl <;> simp [arrL, List.range, List.range.loop, hk]
set_option maxRecDepth 100000 in
theorem run_cutA (w : World) (g n : Nat) (hn : n ≤ 4) : (Instr.sliceAt 151 (.pointer (some ⟨g, 0, none⟩)) none (some (.int .i64 n)) none).run Try.prog w = .ok (.slice (some ⟨g, 0, none⟩) n 4) w := by
  have h : n = 0 ∨ n = 1 ∨ n = 2 ∨ n = 3 ∨ n = 4 := by omega
  have ha : Try.prog.arrayLen 151 = 4 := by kernel_rfl
  have hr := run_sliceAt_array_h (P := Try.prog) w 151 ⟨g, 0, none⟩ Try.underlying151 .i64 (n : Int) (by omega) (by rw [ha]; omega)
  rw [hr, ha]
  rcases h with rfl | rfl | rfl | rfl | rfl <;> rfl
set_option maxRecDepth 100000 in
set_option maxHeartbeats 1000000 in
theorem do_call_ (w : World) (B : Nat) (av mv nv : Value) (lim : Int) (nl : List Int) (rb mb cc : Nat) (mm cs : Value) (L : Nat → Prop) (s : Sg) (vals : Int → Int) (hvs : s.vals = vals) (h0 : RunG B av mv nv lim nl rb mb cc mm cs L w s) (hnl : nl.length ≤ 1000000) (dst two imm : Int) (A : Option Addr) (c : Nat) (l : List Int)
    (hv : Ints w (.slice A l.length c) l) (hl : l.length ≤ 4) (hin : ∀ z ∈ l, InI z) (hd : InI dst) (hcc : cc + 2 ≤ 100000000000000) (hI : InvG { s with calls := s.calls ++ [(imm, l.map vals)] }) :
    Calls Try.prog 54 #[.pointer (some ⟨rb, 0, none⟩), .agg #[.int .i64 17, .int .i64 dst, .int .i64 two, .slice A l.length c, .int .i32 imm]] w
      (fun en w' => en = .returned (.tuple #[.int .i32 0, .bool true]) ∧ Off L w w' ∧ ∃ cs' w1, RunG B av mv nv lim nl rb mb cc mm cs' L w1 { s with calls := s.calls ++ [(imm, l.map vals)] } ∧ But mb w1 w' ∧ RunAt w' rb mb (cc + 1) av mv nv mm cs' lim (upd vals dst (nl.getD s.calls.length 0)) s.steps) := by
  obtain ⟨A', c', e, v1, v2, v3⟩ := hv
  injection e with e1 e2 e3
  subst e1 e3
  clear e2
  have HV := Lib.hid v3
  clear v1 v2 v3
  have HI := Lib.hid hin
  have HL4 := Lib.hid hl
  have HG := Lib.hid h0
  have HIV := Lib.hid hI
  have HVS := Lib.hid hvs
  have h : RunAt w rb mb cc av mv nv mm cs lim vals s.steps := by rw [← hvs]; exact h0.run
  clear hin h0 hI hvs
  have H := Lib.hid h
  clear h
  have hrw := H.out.str.lt
  have hmw := H.out.map.lt
  go_enter Try.func54, Try.ntmps54
  go_upto_region 2 with (fail)
  obtain ⟨W1, hW1⟩ : ∃ W1, w.alloc (.cells #[.int .i64 17, .int .i64 dst, .int .i64 two, .slice A l.length c, .int .i32 imm] 36) = W1 := ⟨_, rfl⟩
  rw [hW1]
  have hb1 : Below w.heap.size w W1 := by rw [← hW1]; exact (Below.refl _ _).alloc (Nat.le_refl _) _
  have hs1 : Str W1 w.heap.size 36 [.int .i64 17, .int .i64 dst, .int .i64 two, .slice A l.length c, .int .i32 imm] := by rw [← hW1]; exact World.alloc_heap_new w _
  have hz1 : W1.heap.size = w.heap.size + 1 := by rw [← hW1]; simp
  clear hW1
  obtain ⟨W2, hW2⟩ : ∃ W2, W1.alloc (.cells #[.int .i32 0, .int .i32 0, .int .i32 0, .int .i32 0] 151) = W2 := ⟨_, rfl⟩
  rw [hW2]
  have hb2 : Below W1.heap.size W1 W2 := by rw [← hW2]; exact (Below.refl _ _).alloc (Nat.le_refl _) _
  have hs2 : Str W2 (w.heap.size + 1) 151 (arrL vals l 0) := by rw [← hW2, ← hz1, arrL_zero]; exact World.alloc_heap_new W1 _
  have HS1 := Lib.hid (hs1.below hb2)
  have HS2 := Lib.hid hs2
  have HB := Lib.hid (hb1.trans (hb2.mono hb1.size))
  have hz2 : w.heap.size + 1 < W2.heap.size := hs2.lt
  have e3 : W2.cell? ⟨w.heap.size, 3, none⟩ = some (.slice A l.length c) := HS1.out.cell 3
  clear hW2 hb1 hb2 hs1 hs2 hz1
  go_wp2_with fail
  go_loopw [7, 8, 16] (fun _ _ i wr => ∃ k : Nat, k ≤ l.length ∧ i = .int .i64 k ∧ Str wr (w.heap.size + 1) 151 (arrL vals l k) ∧ Str wr w.heap.size 36 [.int .i64 17, .int .i64 dst, .int .i64 two, .slice A l.length c, .int .i32 imm] ∧ Below w.heap.size w wr) (fun _ _ i _ => l.length - (intOf i).toNat)
  case atStart => exact ⟨0, by omega, rfl, HS2.out, HS1.out, HB.out⟩
  case round =>
    obtain ⟨k, hk, rfl, hs, hsi, hb⟩ := hrel
    have HSI := Lib.hid hsi
    clear hsi
    obtain ⟨wo, rfl⟩ : ∃ wo : World, wo = wr := ⟨_, rfl⟩
    have HBo := Lib.hid hb
    clear hb
    by_cases hlt : k < l.length
    · have hlk : k < (l : List Int).length := hlt
      obtain ⟨ad', rfl, hc0⟩ := HV.out k hlk
      have hc := cell_keep HBo.out (Nat.le_refl _) hc0
      have HAR := Lib.hid (arrL_succ vals l k hlk HL4.out)
      have hz : InI (l : List Int)[k] := HI.out _ (List.getElem_mem hlk)
      generalize (l : List Int)[k] = z at *
      have hlk2 : (Instr.lookup 101 (.map (some mb)) (.int .i64 z) false).run Try.prog wo = .ok (.int .i32 (vals z)) wo := (H.out.below HBo.out).map.look hz
      have k4 := (H.out.below HBo.out).c4
      have sf := hs.frozen k
      have hal : k < (arrL vals l k).length := by have := HL4.out; simp [arrL]; omega
      have hsk := (hs.cell k).trans (List.getElem?_eq_getElem hal)
      have HS := Lib.hid hs
      generalize (arrL vals l k)[k] = zz at *
      have hk4 : k < 4 := by have := HL4.out; omega
      clear hs hc0 hal hlk
      go_wp2
      go_roundw
      case rel => exact ⟨k + 1, by omega, by go_num, by rw [HAR.out]; exact HS.out.set k _, Str.kept HSI.out (setCell_grownBy wo ⟨w.heap.size + 1, k, none⟩ _) (fun e => by have e := Option.some.inj e; simp only at e; omega), HBo.out.setCell (p := ⟨w.heap.size + 1, k, none⟩) (by simp only; omega) _⟩
      case measure => simp [intOf]; omega
    · obtain rfl : k = l.length := by omega
      have HS := Lib.hid hs
      have i0 : wo.cell? ⟨w.heap.size, 0, none⟩ = some (.int .i64 17) := HSI.out.cell 0
      have i1 : wo.cell? ⟨w.heap.size, 1, none⟩ = some (.int .i64 dst) := HSI.out.cell 1
      have i3 : wo.cell? ⟨w.heap.size, 3, none⟩ = some (.slice A l.length c) := HSI.out.cell 3
      have i4 : wo.cell? ⟨w.heap.size, 4, none⟩ = some (.int .i32 imm) := HSI.out.cell 4
      have HR := Lib.hid (H.out.below HBo.out)
      have k4 := (H.out.below HBo.out).c4
      have k5 := (H.out.below HBo.out).c5
      have HA := Lib.hid (arrL_words hs HL4.out)
      have HRG := Lib.hid (show RunG B av mv nv lim nl rb mb cc mm cs (More L w wo.drew) wo.drew s from HG.out.ext HBo.out.drew)
      have hn4 := HL4.out
      have hcut : ∀ w', (Instr.sliceAt 151 (.pointer (some ⟨w.heap.size + 1, 0, none⟩)) none (some (.int .i64 l.length)) none).run Try.prog w' = .ok (.slice (some ⟨w.heap.size + 1, 0, none⟩) l.length 4) w' := fun w' => run_cutA w' _ _ hn4
      have HCUT := Lib.hid hcut
      have hzo := HBo.out.size
      have hzs := HS.out.lt
      have hzi := HSI.out.lt
      clear hs hcut
      go_wp2_with fail
      refine region_heldC_wp (fun w' => w'.cell? ⟨rb, 4, none⟩ = some (.map (some mb)) ∧ w'.cell? ⟨w.heap.size, 1, none⟩ = some (.int .i64 dst) ∧ w'.cell? ⟨w.heap.size, 3, none⟩ = some (.slice A l.length c) ∧ w'.cell? ⟨w.heap.size, 4, none⟩ = some (.int .i32 imm)) [0, 1, 2, 3, 4, 5, 6, 7, 8, 9, 10, 11] [0, 1, 2, 3, 4, 5, 6, 7, 8, 9, 10, 11, 12, 13, 14] (by kernel_rfl) (by kernel_rfl) (by kernel_rfl) rfl (by intro c a d v w h; cases d <;> exact h) ⟨k4, i1, i3, i4⟩ ?_
      refine walkC_still _ ?u0 rfl rfl rfl ?uy0 ?_
      case uy0 => intro w hS; go_simp; first | done | with_reducible rfl
      simp only [Act.put]
      refine walkC_still _ ?u1 rfl rfl rfl ?uy1 ?_
      case uy1 => intro w hS; go_simp; first | done | with_reducible rfl
      simp only [Act.put]
      refine walkC_still _ ?u2 rfl rfl rfl ?uy2 ?_
      case uy2 => intro w hS; go_simp; first | done | with_reducible rfl
      simp only [Act.put]
      refine walkC_still _ ?u3 rfl rfl rfl ?uy3 ?_
      case uy3 => intro w hS; go_simp; first | done | with_reducible rfl
      simp only [Act.put]
      refine walkC_still _ ?u4 rfl rfl rfl ?uy4 ?_
      case uy4 => intro w hS; go_simp; first | done | with_reducible rfl
      simp only [Act.put]
      refine walkC_still _ ?u5 rfl rfl rfl ?uy5 ?_
      case uy5 => intro w hS; go_simp; first | done | with_reducible rfl
      simp only [Act.put]
      refine walkC_still _ ?u6 rfl rfl rfl ?uy6 ?_
      case uy6 => intro w hS; go_simp; first | done | with_reducible rfl
      simp only [Act.put]
      refine walkC_still _ ?u7 rfl rfl rfl ?uy7 ?_
      case uy7 => intro w hS; go_simp; first | done | with_reducible rfl
      simp only [Act.put]
      refine walkC_still _ ?u8 rfl rfl rfl ?uy8 ?_
      case uy8 => intro w hS; go_simp; first | done | with_reducible rfl
      simp only [Act.put]
      refine walkC_still _ ?u9 rfl rfl rfl ?uy9 ?_
      case uy9 => intro w hS; go_simp; first | done | with_reducible rfl
      simp only [Act.put]
      refine walkC_still _ ?u10 rfl rfl rfl ?uy10 ?_
      case uy10 => intro w hS; go_simp; first | done | with_reducible rfl
      simp only [Act.put]
      refine walkC_still _ ?u11 rfl rfl rfl ?uy11 ?_
      case uy11 => intro w hS; go_simp; first | done | with_reducible rfl
      simp only [Act.put]
      try simp only [List.setIfInBounds_toArray, List.set_cons_zero, List.set_cons_succ]
      refine walkC_does _ rfl rfl ?_
      go_wp2_with fail
      rw [HCUT.out]
      go_wp2
      refine behindC ⟨k4, i1, i3, i4⟩ ?_
      refine walkC_does _ rfl rfl ?_
      go_wp2_with fail
      refine (call_any wo.drew B av mv nv lim nl rb mb cc mm cs (More L w wo.drew) s HRG.out hnl imm _ (l.map vals) (HA.out.below (Below.refl _ _).drew) (by rw [List.length_map]; omega) HIV.out).mono ?_
      rintro e w5 ⟨cs', rfl, hof, hrg⟩
      have k45 := hrg.run.c4
      have i15 := hof.cell i1 (Or.inr ⟨Nat.le_refl _, by show w.heap.size < wo.heap.size; omega⟩)
      have i35 := hof.cell i3 (Or.inr ⟨Nat.le_refl _, by show w.heap.size < wo.heap.size; omega⟩)
      have i45 := hof.cell i4 (Or.inr ⟨Nat.le_refl _, by show w.heap.size < wo.heap.size; omega⟩)
      have HRG5 := Lib.hid hrg
      have HOF := Lib.hid hof
      obtain ⟨r, hr⟩ : ∃ r, nl.getD s.calls.length 0 = r := ⟨_, rfl⟩
      rw [hr]
      have HGD := Lib.hid hr
      clear hof hrg hr
      go_wp2
      refine behindC ⟨k45, i15, i35, i45⟩ ?_
      refine walkC_does _ rfl rfl ?_
      refine wpList_put rfl _ _ _ rfl mb cc s.vals rfl HRG5.out.run.map (by omega) dst r rfl rfl hd ?_
      intro w9 hs9 hg9
      have hb9 : But mb w5 w9 := But.of_grown hg9
      have hn : w.heap.size ≠ mb := by omega
      refine wpList_nil (behindC ⟨hb9.cell k45 H.out.ne, hb9.cell i15 hn, hb9.cell i35 hn, hb9.cell i45 hn⟩ (walkC_nil ?_))
      go_wp2
      go_ret2
      rw [HVS.out, ← HGD.out] at hs9
      refine ⟨rfl, (Off.of_below HBo.out.drew).trans ((HOF.out.weak fun k hk => Or.inl hk).trans (off_grown hg9 (fun g e hk => by injection e with e; rw [← e] at hk; exact HG.out.off.2 hk))), cs', w5, HRG5.out.weak fun k hk => Or.inl hk, hb9, ⟨HRG5.out.run.str.kept hg9 (fun e => H.out.ne (Option.some.inj e)), hs9, H.out.ne⟩⟩
theorem do_call (w : World) {B : Nat} (rb mb cc : Nat) (av mv nv mm cs : Value) (lim : Int) (nl : List Int) (L : Nat → Prop) (s : Sg) (h : RunG B av mv nv lim nl rb mb cc mm cs L w s) (hnl : nl.length ≤ 1000000) (i : PIns) (ho : i.op = 17) (A : Option Addr) (c : Nat)
    (hv : Ints w (.slice A i.args.length c) i.args) (hl : i.args.length ≤ 4) (hin : ∀ z ∈ i.args, InI z) (hd : InI i.dst) (hcc : cc + 2 ≤ 100000000000000) (hI : InvG (insG nl s i)) :
    Calls Try.prog 54 #[.pointer (some ⟨rb, 0, none⟩), .agg #[.int .i64 i.op, .int .i64 i.dst, .int .i64 i.two, .slice A i.args.length c, .int .i32 i.imm]] w
      (fun en w' => en = .returned (.tuple #[.int .i32 0, .bool ((0 : Int) == 0)]) ∧ Off L w w' ∧ AtG B av mv nv lim nl rb L w' (insG nl s i)) := by
  have ei : insG nl s i = { s with vals := upd s.vals i.dst (nl.getD s.calls.length 0), calls := s.calls ++ [(i.imm, i.args.map s.vals)], puts := s.puts + 1 } := by unfold insG; rw [if_neg (by omega), if_neg (by omega), if_neg (by omega), if_neg (by omega), if_pos ho]
  rw [ei] at hI ⊢
  obtain ⟨b1, b2, b3, b4, b5, b6, b7⟩ := hI
  obtain ⟨a1, a2, a3, a4, a5, a6, a7⟩ := h.inv
  have hpu := h.puts
  rw [ho]
  refine (do_call_ w B av mv nv lim nl rb mb cc mm cs L s s.vals rfl h hnl i.dst i.two i.imm A c i.args hv hl hin hd hcc ⟨a1, a2, a3, a4, a5, a6, b7⟩).mono ?_
  rintro e w' ⟨rfl, hof, cs', w1, hrg, hb, hr⟩
  exact ⟨rfl, hof, mb, cc + 1, mm, cs', hrg.mapped hb hr (by simp only; omega) rfl rfl ⟨b1, b2, b3, b4, b5, b6, b7⟩⟩
end Go.Proofs.Ytcangooibfddmaa.Ic
/- Stage 4: interp's phis: what a block's phis take from the block that control comes from. -/
namespace Go.Proofs.Ytcangooibfddmaa.Ic
open Go.ChangeShapes Go.WideShapes Go.ChangeAt Go.RowKit Go.Maps Go.Proofs.Ytcangooibfddmaa.Mem Go.Proofs.Ytcangooibfddmaa.Kc Go.Proofs.Ytcangooibfddmaa.Br Go.Proofs.Ytcangooibfddmaa.Pl Go.Proofs.Ytcangooibfddmaa.Wd Go.Proofs.Ytcangooibfddmaa.Gr
set_option linter.unusedVariables false
def ordI (x y : Int) : Int := if x < y then -1 else if y < x then 1 else 0
set_option maxRecDepth 100000 in
theorem nan_any (w : World) (x : Int) : Calls Try.prog 120 #[.int .i64 x] w fun e w' => e = .returned (.bool false) ∧ w' = w := by
  have h : (x != x) = false := by simp
  go_enter Try.func120, Try.ntmps120
  go_wp2
  go_ret
  exact ⟨rfl, rfl⟩
set_option maxRecDepth 100000 in
theorem compare_any (w : World) (x y : Int) : Calls Try.prog 99 #[.int .i64 x, .int .i64 y] w fun e w' => e = .returned (.int .i64 (ordI x y)) ∧ w' = w := by
  by_cases h : x < y
  · have HW := Lib.hid (show ordI x y = -1 from if_pos h)
    go_enter Try.func99, Try.ntmps99
    go_wp2_with ((refine (nan_any _ _).mono ?_); rintro e w' ⟨rfl, rfl⟩)
    go_ret
    exact ⟨by rw [HW.out]; rfl, rfl⟩
  · by_cases h2 : y < x
    · have HW := Lib.hid (show ordI x y = 1 by unfold ordI; rw [if_neg h, if_pos h2])
      have h' : y ≤ x := by omega
      clear h
      go_enter Try.func99, Try.ntmps99
      go_wp2_with ((refine (nan_any _ _).mono ?_); rintro e w' ⟨rfl, rfl⟩)
      go_ret
      exact ⟨by rw [HW.out]; rfl, rfl⟩
    · have HW := Lib.hid (show ordI x y = 0 by unfold ordI; rw [if_neg h, if_neg h2])
      have h1' : y ≤ x := by omega
      have h2' : x ≤ y := by omega
      clear h h2
      go_enter Try.func99, Try.ntmps99
      go_wp2_with ((refine (nan_any _ _).mono ?_); rintro e w' ⟨rfl, rfl⟩)
      go_ret
      exact ⟨by rw [HW.out]; rfl, rfl⟩
def OrdPost (n : Int) (w : World) (en : Ending) (w' : World) : Prop := en = .returned (.int .i64 n) ∧ Below w.heap.size w w'
set_option maxRecDepth 100000 in
theorem byFrom_any (w : World) (x y from_ : Int) : Calls Try.prog 98 #[.agg #[.int .i64 x, .int .i64 y], .int .i64 from_] w (OrdPost (ordI x from_) w) := by
  have HB := Lib.hid ((Below.refl w.heap.size w).alloc (Nat.le_refl _) (.cells #[.int .i64 x, .int .i64 y] 61))
  go_enter Try.func98, Try.ntmps98
  go_wp2_with ((refine (compare_any _ _ _).mono ?_); rintro e w' ⟨rfl, rfl⟩)
  go_ret
  exact ⟨rfl, HB.out⟩
theorem cnt_lt : ∀ (l : List (Int × Int)) (from_ : Int), l.Pairwise (fun x y => x.1 ≤ y.1) → ∀ k (h : k < l.length), l[k].1 < from_ ↔ k < l.countP fun x => decide (x.1 < from_)
  | [], _, _, k, h => absurd h (by simp)
  | x :: l, from_, hp, k, h => by
    rw [List.pairwise_cons] at hp
    rw [List.countP_cons]
    by_cases hx : x.1 < from_
    · rw [if_pos (decide_eq_true hx)]
      cases k with
      | zero => exact ⟨fun _ => by omega, fun _ => hx⟩
      | succ k =>
        have := cnt_lt l from_ hp.2 k (by simpa using h)
        rw [List.getElem_cons_succ, this]
        omega
    · have h0 : l.countP (fun x => decide (x.1 < from_)) = 0 := by
        rw [List.countP_eq_zero]
        intro y hy
        have := hp.1 y hy
        simp; omega
      rw [if_neg (by simpa using hx), h0]
      refine ⟨fun hk => ?_, fun hk => by omega⟩
      exfalso
      cases k with
      | zero => exact hx hk
      | succ k =>
        rw [List.getElem_cons_succ] at hk
        have := hp.1 _ (List.getElem_mem (by simpa using h : k < l.length))
        omega
def FoundPost (n : Nat) (w : World) (en : Ending) (w' : World) : Prop := ∃ f, en = .returned (.tuple #[.int .i64 (n : Int), .bool f]) ∧ Below w.heap.size w w'
set_option maxRecDepth 100000 in
set_option maxHeartbeats 1000000 in
theorem search_any (w : World) (v : Value) (ins : List (Int × Int)) (hv : RowAt w 2 InAt v ins) (from_ : Int) (hs : ins.Pairwise fun x y => x.1 ≤ y.1) (hlen : ins.length ≤ 1000000) :
    Calls Try.prog 97 #[v, .int .i64 from_, .func (.func 98) #[] #[]] w (FoundPost (ins.countP fun x => decide (x.1 < from_)) w) := by
  obtain ⟨A, c, b, o, rfl, h1, h2, h3, h4⟩ := hv
  unfold maxLen at h2
  have HA3 := Lib.hid h3
  have HA := Lib.hid h4
  have HC := Lib.hid (cnt_lt ins from_ hs)
  have hcl : (ins.countP fun x => decide (x.1 < from_)) ≤ ins.length := List.countP_le_length
  generalize (ins.countP fun x => decide (x.1 < from_)) = N at *
  clear h3 h4 hs
  go_enter Try.func97, Try.ntmps97
  go_wp2_with fail
  go_loopw [9, 10, 11] (fun i j _ wr => ∃ ik jk : Nat, ik ≤ N ∧ N ≤ jk ∧ jk ≤ ins.length ∧ i = .int .i64 ik ∧ j = .int .i64 jk ∧ Below w.heap.size w wr) (fun i j _ _ => (intOf j).toNat - (intOf i).toNat)
  case atStart => exact ⟨0, ins.length, by omega, hcl, Nat.le_refl _, rfl, rfl, Below.refl _ _⟩
  case round =>
    obtain ⟨ik, jk, hi, hj, hjl, rfl, rfl, hb⟩ := hrel
    obtain ⟨wo, rfl⟩ : ∃ wo : World, wo = wr := ⟨_, rfl⟩
    have HBB := Lib.hid hb
    by_cases hlt : ik < jk
    · obtain ⟨m, hm⟩ : ∃ m, (ik + jk) / 2 = m := ⟨_, rfl⟩
      have hm1 : ik ≤ m := by omega
      have hm2 : m < jk := by omega
      have hml : m < ins.length := by omega
      obtain rfl := HA3.out (by omega)
      obtain ⟨x0, x1⟩ := HA.out m hml
      have x0 := cell_keep hb (Nat.le_refl _) x0
      have x1 := cell_keep hb (Nat.le_refl _) x1
      have HCM := Lib.hid (HC.out m hml)
      generalize ins[m] = pr at *
      obtain ⟨pf, pv⟩ := pr
      simp only at x0 x1
      have hm3 : ((ik : Int) + jk) / 2 = (m : Int) := by omega
      have HM3 := Lib.hid hm3
      clear hb hm3
      go_wp2_with fail
      refine (byFrom_any _ pf pv from_).mono ?_
      rintro e w3 ⟨rfl, hb3⟩
      have HB3 := Lib.hid (HBB.out.trans (hb3.mono HBB.out.size))
      clear hb3
      rw [HM3.out]
      by_cases hc : pf < from_
      · have ho : ordI pf from_ = -1 := if_pos hc
        rw [ho]
        have hmn : m < N := HCM.out.1 hc
        clear ho
        go_wp2
        exact ⟨⟨m + 1, jk, by omega, hj, hjl, by go_num, rfl, HB3.out⟩, by simp [intOf]; omega⟩
      · obtain ⟨q, hq, hq0⟩ : ∃ q, ordI pf from_ = q ∧ 0 ≤ q := ⟨_, rfl, by unfold ordI; rw [if_neg hc]; split <;> omega⟩
        rw [hq]
        have hmn : N ≤ m := by have h9 : ¬ m < N := fun h => hc (HCM.out.2 h); omega
        clear hq
        go_wp2
        exact ⟨⟨ik, m, hi, hmn, by omega, rfl, rfl, HB3.out⟩, by simp [intOf]; omega⟩
    · obtain rfl : ik = N := by omega
      by_cases hn : ik < ins.length
      · obtain rfl := HA3.out (by omega)
        obtain ⟨x0, x1⟩ := HA.out ik hn
        have x0 := cell_keep hb (Nat.le_refl _) x0
        have x1 := cell_keep hb (Nat.le_refl _) x1
        generalize ins[ik] = pr at *
        obtain ⟨pf, pv⟩ := pr
        simp only at x0 x1
        clear hb
        go_wp2_with fail
        refine (byFrom_any _ pf pv from_).mono ?_
        rintro e w3 ⟨rfl, hb3⟩
        have HB3 := Lib.hid (HBB.out.trans (hb3.mono HBB.out.size))
        clear hb3
        go_wp2
        go_ret2
        exact ⟨_, rfl, HB3.out⟩
      · have hn' : ins.length ≤ ik := by omega
        clear hb
        go_wp2
        go_ret2
        exact ⟨_, rfl, HBB.out⟩

theorem no_cell {w : World} {mb cc : Nat} {f : Int → Int} (h : ValsAt w mb cc f) (o : Nat) : w.cell? ⟨mb, o, none⟩ = none := by
  obtain ⟨D, ⟨es, clock, h1, _⟩, _⟩ := h
  simp [World.cell?, h1]
def tkL (vals : Int → Int) (N : Nat) (phis : List PPhi) (k : Nat) : List Int := (phis.take k).map (takenV vals N) ++ List.replicate (phis.length - k) 0
theorem tkL_len (vals : Int → Int) (N : Nat) (phis : List PPhi) (k : Nat) (hk : k ≤ phis.length) : (tkL vals N phis k).length = phis.length := by simp [tkL]; omega
theorem tkL_set (vals : Int → Int) (N : Nat) (phis : List PPhi) (k : Nat) (hk : k < phis.length) : (tkL vals N phis k).set k (takenV vals N phis[k]) = tkL vals N phis (k + 1) := by
  unfold tkL
  have hl : ((phis.take k).map (takenV vals N)).length = k := by simp; omega
  rw [List.set_append_right _ _ (by omega), hl, Nat.sub_self, List.take_succ_eq_append_getElem hk, List.map_append, List.append_assoc, show phis.length - k = (phis.length - (k + 1)) + 1 by omega, List.replicate_succ, List.set_cons_zero]
  rfl
theorem tkL_at (vals : Int → Int) (N : Nat) (phis : List PPhi) (k : Nat) (hk : k < phis.length) : (tkL vals N phis phis.length)[k]? = some (takenV vals N phis[k]) := by
  unfold tkL
  rw [List.take_length, Nat.sub_self, List.replicate_zero, List.append_nil, List.getElem?_map, List.getElem?_eq_getElem hk]; rfl
theorem setAll_snoc (f : Int → Int) (l : List (Int × Int)) (x : Int × Int) : setAll f (l ++ [x]) = upd (setAll f l) x.1 x.2 := by unfold setAll; rw [List.foldl_append]; rfl
def putsL (vals : Int → Int) (N : Nat) (phis : List PPhi) (k : Nat) : Int → Int := setAll vals ((phis.take k).map fun p => (p.dst, takenV vals N p))
theorem putsL_succ (vals : Int → Int) (N : Nat) (phis : List PPhi) (k : Nat) (hk : k < phis.length) : upd (putsL vals N phis k) phis[k].dst (takenV vals N phis[k]) = putsL vals N phis (k + 1) := by
  unfold putsL
  rw [List.take_succ_eq_append_getElem hk, List.map_append]
  exact (setAll_snoc vals _ (phis[k].dst, takenV vals N phis[k])).symm
theorem OwnWords.stored {B : Nat} {w : World} {g n c : Nat} {l : List Int} (h : OwnWords B w (.slice (some ⟨g, 0, none⟩) n c) l) (j : Nat) (x : Int) :
    OwnWords B (w.setCell ⟨g, j, none⟩ (.int .i32 x)) (.slice (some ⟨g, 0, none⟩) n c) (l.set j x) ∧ w.grownBy (w.setCell ⟨g, j, none⟩ (.int .i32 x)) (some g) := by
  have hn : n = l.length := by
    rcases h.2 with ⟨e, _⟩ | ⟨_, _, _, e, _⟩
    · cases e
    · injection e
  subst hn
  have := World.ownsRow.stored h j (.int .i32 x)
  refine ⟨?_, this.2⟩
  unfold OwnWords
  rw [List.length_set, List.map_set]
  exact this.1
def PhisPost (rb mb cc : Nat) (av mv nv mm cs : Value) (lim : Int) (vals : Int → Int) (steps : Int) (w : World) (en : Ending) (w' : World) : Prop :=
  en = .returned (.tuple #[]) ∧ But mb w w' ∧ RunAt w' rb mb cc av mv nv mm cs lim vals steps
set_option maxRecDepth 100000 in
set_option maxHeartbeats 2000000 in
theorem phis_any (w : World) (rb mb cc : Nat) (av mv nv mm cs : Value) (lim steps : Int) (vals : Int → Int) (h : RunAt w rb mb cc av mv nv mm cs lim vals steps) (phis : List PPhi) (v : Value) (hv : RowAt w 2 PhiAt v phis) (from_ : Int) (hfi : InI from_) (ok : PhisOk phis from_)
    (hI : ∀ p ∈ phis, InI p.dst ∧ ∀ x ∈ p.ins, InI x.1 ∧ InI x.2) (hlen : phis.length ≤ 4096) (hcc : cc + phis.length ≤ 100000000000000) :
    Calls Try.prog 52 #[.pointer (some ⟨rb, 0, none⟩), v, .int .i64 from_] w (PhisPost rb mb (cc + phis.length) av mv nv mm cs lim (phiVals vals phis from_) steps w) := by
  by_cases hnil : phis = []
  · subst hnil
    obtain ⟨A, c, b, o, rfl, _⟩ := hv
    refine (phis_none w rb A c from_).mono ?_
    rintro e w' ⟨rfl, rfl⟩
    exact ⟨rfl, But.refl _ _, h⟩
  have hpos : 0 < phis.length := List.length_pos_iff.2 hnil
  obtain ⟨A, c, b, o, rfl, h1, h2, h3, h4⟩ := hv
  obtain rfl := h3 hpos
  unfold maxLen at h2
  have HF := Lib.hid (show phiVals vals phis from_ = putsL vals (phiN phis from_) phis phis.length by unfold phiVals putsL; rw [List.take_length])
  have H := Lib.hid h
  have HR := Lib.hid h4
  have HOK := Lib.hid ok
  have HII := Lib.hid hI
  obtain ⟨N, hN⟩ : ∃ N, phiN phis from_ = N := ⟨_, rfl⟩
  have HN := Lib.hid (show N = phis[0].ins.countP fun x => decide (x.1 < from_) by
    rw [← hN]
    match phis, hpos with
    | p :: l, _ => rfl)
  rw [hN] at HF
  have hok0 := ok _ (List.getElem_mem hpos)
  rw [hN] at hok0
  have HNL := Lib.hid (show ∀ p ∈ phis, N < p.ins.length from fun p hp => by rw [← hN]; exact (ok p hp).1)
  have hN6 : N ≤ 1000000 := by have := hok0.1; have := hok0.2.1; omega
  have hbm : b ≠ mb := by
    intro e
    have := (h4 0 hpos).1
    rw [e, no_cell h.map] at this
    cases this
  have hm0 := h.map.lt
  have hr0 := h.str.lt
  obtain ⟨d0, vI, c1, hrow⟩ := h4 0 hpos
  have HROW := Lib.hid hrow
  obtain ⟨pI, cI, bI0, oI0, rfl, _⟩ := hrow
  have c1 : w.cell? ⟨b, o + 1, none⟩ = some (.slice pI phis[0].ins.length cI) := by have := c1; rw [Nat.zero_mul] at this; exact this
  have HS0 := Lib.hid hok0.2.2
  have HL0 := Lib.hid hok0.2.1
  clear h ok hI h3 h4 hN hok0 d0 hnil
  obtain ⟨i0, hi, hz0, hz1, hz2⟩ := info_parts info_word
  have HI0 := Lib.hid hi
  have HZ0 := Lib.hid hz0
  have HZ1 := Lib.hid hz1
  have HZ2 := Lib.hid hz2
  clear hi hz0 hz1 hz2
  go_enter Try.func52, Try.ntmps52
  go_wp2_with fail
  refine (search_any w _ phis[0].ins HROW.out from_ HS0.out HL0.out).mono ?_
  rintro e w1 ⟨fb, rfl, hb1⟩
  rw [← HN.out]
  have HB1 := Lib.hid hb1
  have hz1 := hb1.size
  clear hb1 c1 HROW
  go_wp2_with (at_make; refine wpList_make_full _ rfl _ _ 42 rfl w1.heap.size 21 i0 (.int .i32 0) 1 Try.underlying42 HI0.out HZ0.out HZ1.out .i64 .i64 _ _ phis.length rfl rfl rfl rfl (by rw [HZ2.out]; omega) (by unfold maxLen; omega) (Nat.le_refl _) ?_)
  intro w2 hown hg2
  rw [toList_madeCells_one] at hown
  have hb2 := below_of_grown hg2
  have HO2 := Lib.hid (show OwnWords w1.heap.size w2 (.slice (some ⟨w1.heap.size, 0, none⟩) phis.length phis.length) (tkL vals N phis 0) by
    unfold OwnWords
    rw [tkL_len _ _ _ _ (Nat.zero_le _), show (tkL vals N phis 0).map (Value.int .i32) = List.replicate phis.length (.int .i32 0) by simp [tkL]]
    exact hown)
  have HB2 := Lib.hid (HB1.out.trans (hb2.mono hz1))
  have hz2 : w1.heap.size < w2.heap.size := (hown.lt w1.heap.size rfl).2
  clear hown hg2 hb2
  go_wp2_with fail
  go_loopw [9, 10, 30] (fun _ _ i wr => ∃ k : Nat, k ≤ phis.length ∧ i = .int .i64 k ∧ OwnWords w1.heap.size wr (.slice (some ⟨w1.heap.size, 0, none⟩) phis.length phis.length) (tkL vals N phis k) ∧ Below w.heap.size w wr) (fun _ _ i _ => phis.length - (intOf i).toNat)
  case atStart => exact ⟨0, by omega, rfl, HO2.out, HB2.out⟩
  case round =>
    obtain ⟨k, hk, rfl, ho, hb⟩ := hrel
    obtain ⟨wo, rfl⟩ : ∃ wo : World, wo = wr := ⟨_, rfl⟩
    have HBo := Lib.hid hb
    have HOo := Lib.hid ho
    have hzo : w1.heap.size < wo.heap.size := (ho.lt w1.heap.size rfl).2
    by_cases hlt : k < phis.length
    · obtain ⟨y0, vI, y1, hrow⟩ := HR.out k hlt
      obtain ⟨pI', cI', bI, oI, rfl, g1, g2, g3, g4⟩ := hrow
      have hnl := HNL.out _ (List.getElem_mem hlt)
      obtain rfl := g3 (by omega)
      obtain ⟨q0, q1⟩ := g4 N hnl
      have hbI : bI < w.heap.size := lt_of_cell q1
      have y0 := cell_keep hb (Nat.le_refl _) y0
      have y1 := cell_keep hb (Nat.le_refl _) y1
      have q1 := cell_keep hb (Nat.le_refl _) q1
      have hzI : InI (phis[k].ins[N]).2 := ((HII.out _ (List.getElem_mem hlt)).2 _ (List.getElem_mem hnl)).2
      have HTV := Lib.hid (show takenV vals N phis[k] = vals (phis[k].ins[N]).2 by unfold takenV; rw [List.getD_eq_getElem?_getD, List.getElem?_eq_getElem hnl]; rfl)
      have HTS := Lib.hid (tkL_set vals N phis k hlt)
      have hlen3 := tkL_len vals N phis k hk
      have hzz : ∃ zz, wo.cell? ⟨w1.heap.size, k, none⟩ = some zz := ⟨_, by rw [World.ownsRow.cellAt (by have h9 := ho; unfold OwnWords at h9; rw [hlen3] at h9; exact h9) k (by omega), List.getElem?_map, List.getElem?_eq_getElem (by rw [hlen3]; exact hlt)]; rfl⟩
      obtain ⟨zz, hsk⟩ := hzz
      have sf : wo.frozen? ⟨w1.heap.size, k, none⟩ = false := World.ownsRow.frozenAt (by have h9 := ho; unfold OwnWords at h9; rw [hlen3] at h9; exact h9) k
      generalize hph : phis[k] = ph at *
      have HPH := Lib.hid hph
      generalize (ph.ins[N]).2 = z at *
      clear g1 g2 g3 g4 q0 ho hlen3 hph
      have hA : Below wo.heap.size wo (wo.alloc (.cells #[.int .i64 ph.dst, .slice (some ⟨bI, oI, none⟩) ph.ins.length cI'] 64)) := (Below.refl _ _).alloc (Nat.le_refl _) _
      go_wp2_with fail
      obtain ⟨W3, hW3⟩ : ∃ W3, wo.alloc (.cells #[.int .i64 ph.dst, .slice (some ⟨bI, oI, none⟩) ph.ins.length cI'] 64) = W3 := ⟨_, rfl⟩
      rw [hW3] at hA ⊢
      have hs3 : Str W3 wo.heap.size 64 [.int .i64 ph.dst, .slice (some ⟨bI, oI, none⟩) ph.ins.length cI'] := by rw [← hW3]; exact World.alloc_heap_new wo _
      have s1 := hs3.cell 1
      have s1 : W3.cell? ⟨wo.heap.size, 1, none⟩ = some (.slice (some ⟨bI, oI, none⟩) ph.ins.length cI') := s1
      have q13 := cell_keep hA (Nat.le_refl _) q1
      have hsk3 := cell_keep hA (Nat.le_refl _) hsk
      have sf3 : W3.frozen? ⟨w1.heap.size, k, none⟩ = false := (hA.frozen (p := ⟨w1.heap.size, k, none⟩) hzo).trans sf
      have HB3 := Lib.hid (HBo.out.trans (hA.mono HBo.out.size))
      have HO3 := Lib.hid (HOo.out.below hA)
      have k4 := (H.out.below HB3.out).c4
      have hlk : (Instr.lookup 101 (.map (some mb)) (.int .i64 z) false).run Try.prog W3.drew = .ok (.int .i32 (vals z)) W3.drew := (H.out.below HB3.out.drew).map.look hzI
      have HLK := Lib.hid (fun w' (hb : Below w.heap.size w w') => (H.out.below hb).map.look hzI)
      have hrb1 : rb ≠ w1.heap.size := by omega
      clear hb y0 y1 q1 hsk sf hW3 hA hs3
      go_wp2_with fail
      refine region_heldC_wp (fun w' => w'.cell? ⟨rb, 4, none⟩ = some (.map (some mb)) ∧ w'.cell? ⟨wo.heap.size, 1, none⟩ = some (.slice (some ⟨bI, oI, none⟩) ph.ins.length cI') ∧ w'.cell? ⟨bI, oI + N * 2 + 1, none⟩ = some (.int .i64 z) ∧ (Instr.lookup 101 (.map (some mb)) (.int .i64 z) false).run Try.prog w' = .ok (.int .i32 (vals z)) w') [0, 1, 2, 3, 4, 5, 6, 7, 8, 9, 10, 11, 12, 13] [0, 1, 2, 3, 4, 5, 6, 7, 8, 9, 10, 11, 12, 13, 14] (by kernel_rfl) (by kernel_rfl) (by kernel_rfl) rfl (by intro c a d v w h; cases d <;> exact h) ⟨k4, s1, q13, hlk⟩ ?_
      refine walkC_still _ ?u0 rfl rfl rfl ?uy0 ?_
      case uy0 => intro w hS; go_simp; first | done | with_reducible rfl
      simp only [Act.put]
      refine walkC_still _ ?u1 rfl rfl rfl ?uy1 ?_
      case uy1 => intro w hS; go_simp; first | done | with_reducible rfl
      simp only [Act.put]
      refine walkC_still _ ?u2 rfl rfl rfl ?uy2 ?_
      case uy2 => intro w hS; go_simp; first | done | with_reducible rfl
      simp only [Act.put]
      refine walkC_still _ ?u3 rfl rfl rfl ?uy3 ?_
      case uy3 => intro w hS; go_simp; first | done | with_reducible rfl
      simp only [Act.put]
      refine walkC_still _ ?u4 rfl rfl rfl ?uy4 ?_
      case uy4 => intro w hS; go_simp; first | done | with_reducible rfl
      simp only [Act.put]
      refine walkC_still _ ?u5 rfl rfl rfl ?uy5 ?_
      case uy5 => intro w hS; go_simp; first | done | with_reducible rfl
      simp only [Act.put]
      refine walkC_still _ ?u6 rfl rfl rfl ?uy6 ?_
      case uy6 => intro w hS; go_simp; first | done | with_reducible rfl
      simp only [Act.put]
      refine walkC_still _ ?u7 rfl rfl rfl ?uy7 ?_
      case uy7 => intro w hS; go_simp; first | done | with_reducible rfl
      simp only [Act.put]
      refine walkC_still _ ?u8 rfl rfl rfl ?uy8 ?_
      case uy8 => intro w hS; go_simp; first | done | with_reducible rfl
      simp only [Act.put]
      refine walkC_still _ ?u9 rfl rfl rfl ?uy9 ?_
      case uy9 => intro w hS; go_simp; first | done | with_reducible rfl
      simp only [Act.put]
      refine walkC_still _ ?u10 rfl rfl rfl ?uy10 ?_
      case uy10 => intro w hS; go_simp; first | done | with_reducible rfl
      simp only [Act.put]
      refine walkC_still _ ?u11 rfl rfl rfl ?uy11 ?_
      case uy11 => intro w hS; go_simp; first | done | with_reducible rfl
      simp only [Act.put]
      refine walkC_still _ ?u12 rfl rfl rfl ?uy12 ?_
      case uy12 => intro w hS; go_simp; first | done | with_reducible rfl
      simp only [Act.put]
      refine walkC_still _ ?u13 rfl rfl rfl ?uy13 ?_
      case uy13 => intro w hS; go_simp; first | done | with_reducible rfl
      simp only [Act.put]
      try simp only [List.setIfInBounds_toArray, List.set_cons_zero, List.set_cons_succ]
      refine walkC_does _ rfl rfl ?_
      go_wp2
      have hbS : But w1.heap.size W3 (W3.setCell ⟨w1.heap.size, k, none⟩ (.int .i32 (vals z))).drew := (but_set w1.heap.size k (.int .i32 (vals z)) W3).drew
      have hbB : Below w.heap.size w (W3.setCell ⟨w1.heap.size, k, none⟩ (.int .i32 (vals z))).drew := (HB3.out.setCell (p := ⟨w1.heap.size, k, none⟩) (by show w.heap.size ≤ w1.heap.size; omega) _).drew
      refine behindC ⟨hbS.cell k4 hrb1, hbS.cell s1 (by show wo.heap.size ≠ w1.heap.size; omega), hbS.cell q13 (by show bI ≠ w1.heap.size; omega), HLK.out _ hbB⟩ (walkC_nil ?_)
      have HBB := Lib.hid hbB
      have HON := Lib.hid (show OwnWords w1.heap.size (W3.setCell ⟨w1.heap.size, k, none⟩ (.int .i32 (vals z))).drew (.slice (some ⟨w1.heap.size, 0, none⟩) phis.length phis.length) (tkL vals N phis (k + 1)) by
        have h9 := (HO3.out.stored k (vals z)).1
        rw [← HTV.out, HTS.out] at h9
        rw [← HTV.out]
        exact h9.below (Below.refl _ _).drew)
      clear hbS hbB
      go_wp2
      go_roundw
      case rel => exact ⟨k + 1, by omega, by go_num, HON.out, HBB.out⟩
      case measure => simp [intOf]; omega
    · obtain rfl : k = phis.length := by omega
      have HR0 := Lib.hid (show RunAt wo rb mb (cc + 0) av mv nv mm cs lim (putsL vals N phis 0) steps from H.out.below hb)
      have HBT := Lib.hid (But.of_below (m := mb) hb)
      clear hb ho
      go_wp2_with fail
      go_loopw [11, 12, 52] (fun _ _ i wr => ∃ k : Nat, k ≤ phis.length ∧ i = .int .i64 k ∧ But mb w wr ∧ RunAt wr rb mb (cc + k) av mv nv mm cs lim (putsL vals N phis k) steps ∧ OwnWords w1.heap.size wr (.slice (some ⟨w1.heap.size, 0, none⟩) phis.length phis.length) (tkL vals N phis phis.length)) (fun _ _ i _ => phis.length - (intOf i).toNat)
      case atStart => exact ⟨0, by omega, rfl, HBT.out, HR0.out, HOo.out⟩
      case round =>
        obtain ⟨k, hk, rfl, hbt, hrr, ho⟩ := hrel
        obtain ⟨wo, rfl⟩ : ∃ wo : World, wo = wr := ⟨_, rfl⟩
        have HBt := Lib.hid hbt
        have HRr := Lib.hid hrr
        have HOw := Lib.hid ho
        have hzo : w1.heap.size < wo.heap.size := (ho.lt w1.heap.size rfl).2
        have hmo := hrr.map.lt
        by_cases hlt : k < phis.length
        · obtain ⟨y0, vI, y1, hrow⟩ := HR.out k hlt
          obtain ⟨pI', cI', bI, oI, rfl, _⟩ := hrow
          have y0 := hbt.cell y0 hbm
          have y1 := hbt.cell y1 hbm
          have hd : InI phis[k].dst := (HII.out _ (List.getElem_mem hlt)).1
          have HPS := Lib.hid (putsL_succ vals N phis k hlt)
          have hlen3 := tkL_len vals N phis phis.length (Nat.le_refl _)
          have t0 : wo.cell? ⟨w1.heap.size, k, none⟩ = some (.int .i32 (takenV vals N phis[k])) := by rw [World.ownsRow.cellAt (by have h9 := ho; unfold OwnWords at h9; rw [hlen3] at h9; exact h9) k (by omega), List.getElem?_map, tkL_at vals N phis k hlt]; rfl
          generalize takenV vals N phis[k] = tv at *
          generalize hph : phis[k] = ph at *
          clear ho hlen3 hbt hrr hph
          have hA : Below wo.heap.size wo (wo.alloc (.cells #[.int .i64 ph.dst, .slice pI' ph.ins.length cI'] 64)) := (Below.refl _ _).alloc (Nat.le_refl _) _
          go_wp2_with fail
          obtain ⟨W3, hW3⟩ : ∃ W3, wo.alloc (.cells #[.int .i64 ph.dst, .slice pI' ph.ins.length cI'] 64) = W3 := ⟨_, rfl⟩
          rw [hW3] at hA ⊢
          have hs3 : Str W3 wo.heap.size 64 [.int .i64 ph.dst, .slice pI' ph.ins.length cI'] := by rw [← hW3]; exact World.alloc_heap_new wo _
          have s0 : W3.cell? ⟨wo.heap.size, 0, none⟩ = some (.int .i64 ph.dst) := hs3.cell 0
          have t0 := cell_keep hA (Nat.le_refl _) t0
          have HR3 := Lib.hid (HRr.out.below hA)
          have HB3 := Lib.hid (HBt.out.trans (But.of_below hA))
          have HO3 := Lib.hid (HOw.out.below hA)
          have k4 := HR3.out.c4
          clear y0 y1 hW3 hs3 hA
          go_wp2_with fail
          refine region_heldC_wp (fun w' => w'.cell? ⟨rb, 4, none⟩ = some (.map (some mb)) ∧ w'.cell? ⟨wo.heap.size, 0, none⟩ = some (.int .i64 ph.dst) ∧ w'.cell? ⟨w1.heap.size, k, none⟩ = some (.int .i32 tv)) [0, 1, 2, 3, 4, 5, 6, 7, 8, 9] [0, 1, 2, 3, 4, 5, 6, 7, 8, 9, 10] (by kernel_rfl) (by kernel_rfl) (by kernel_rfl) rfl (by intro c a d v w h; cases d <;> exact h) ⟨k4, s0, t0⟩ ?_
          refine walkC_still _ ?q0 rfl rfl rfl ?qy0 ?_
          case qy0 => intro w hS; go_simp; first | done | with_reducible rfl
          simp only [Act.put]
          refine walkC_still _ ?q1 rfl rfl rfl ?qy1 ?_
          case qy1 => intro w hS; go_simp; first | done | with_reducible rfl
          simp only [Act.put]
          refine walkC_still _ ?q2 rfl rfl rfl ?qy2 ?_
          case qy2 => intro w hS; go_simp; first | done | with_reducible rfl
          simp only [Act.put]
          refine walkC_still _ ?q3 rfl rfl rfl ?qy3 ?_
          case qy3 => intro w hS; go_simp; first | done | with_reducible rfl
          simp only [Act.put]
          refine walkC_still _ ?q4 rfl rfl rfl ?qy4 ?_
          case qy4 => intro w hS; go_simp; first | done | with_reducible rfl
          simp only [Act.put]
          refine walkC_still _ ?q5 rfl rfl rfl ?qy5 ?_
          case qy5 => intro w hS; go_simp; first | done | with_reducible rfl
          simp only [Act.put]
          refine walkC_still _ ?q6 rfl rfl rfl ?qy6 ?_
          case qy6 => intro w hS; go_simp; first | done | with_reducible rfl
          simp only [Act.put]
          refine walkC_still _ ?q7 rfl rfl rfl ?qy7 ?_
          case qy7 => intro w hS; go_simp; first | done | with_reducible rfl
          simp only [Act.put]
          refine walkC_still _ ?q8 rfl rfl rfl ?qy8 ?_
          case qy8 => intro w hS; go_simp; first | done | with_reducible rfl
          simp only [Act.put]
          refine walkC_still _ ?q9 rfl rfl rfl ?qy9 ?_
          case qy9 => intro w hS; go_simp; first | done | with_reducible rfl
          simp only [Act.put]
          try simp only [List.setIfInBounds_toArray, List.set_cons_zero, List.set_cons_succ]
          refine walkC_does _ rfl rfl ?_
          refine wpList_put rfl _ _ _ rfl mb (cc + k) _ rfl (HR3.out.map.below (Below.refl _ _).drew) (by omega) ph.dst tv rfl rfl hd ?_
          intro w9 hs9 hg9
          have hb9 : But mb W3 w9 := (But.refl mb _).drew.trans (But.of_grown hg9)
          have n1 : wo.heap.size ≠ mb := by omega
          have n2 : w1.heap.size ≠ mb := by omega
          refine wpList_nil (behindC ⟨hb9.cell k4 H.out.ne, hb9.cell s0 n1, hb9.cell t0 n2⟩ (walkC_nil ?_))
          rw [HPS.out] at hs9
          have HRN := Lib.hid (show RunAt w9 rb mb (cc + (k + 1)) av mv nv mm cs lim (putsL vals N phis (k + 1)) steps from ⟨(HR3.out.str.below (Below.refl _ _).drew).kept hg9 (fun e => H.out.ne (Option.some.inj e)), hs9, H.out.ne⟩)
          have HBN := Lib.hid (HB3.out.trans hb9)
          have HON := Lib.hid (show OwnWords w1.heap.size w9 (.slice (some ⟨w1.heap.size, 0, none⟩) phis.length phis.length) (tkL vals N phis phis.length) from World.ownsRow.kept (HO3.out.below (Below.refl _ _).drew) hg9 (Or.inr (fun e => n2 (Option.some.inj e))))
          clear hs9 hg9 hb9
          go_wp2
          go_roundw
          case rel => exact ⟨k + 1, by omega, by go_num, HBN.out, HRN.out, HON.out⟩
          case measure => simp [intOf]; omega
        · obtain rfl : k = phis.length := by omega
          clear ho hbt hrr
          go_wp2
          refine ⟨rfl, .tuple #[], ?_, ?_⟩
          · simp only [results]
            go_simp
          · exact ⟨rfl, HBt.out, by rw [HF.out]; exact HRr.out⟩
end Go.Proofs.Ytcangooibfddmaa.Ic
/- Stage 4: what the small functions do to a run in memory: any function that fits. -/
namespace Go.Proofs.Ytcangooibfddmaa.Ic
open Go.ChangeShapes Go.WideShapes Go.ChangeAt Go.RowKit Go.Maps Go.Proofs.Ytcangooibfddmaa.Mem Go.Proofs.Ytcangooibfddmaa.Kc Go.Proofs.Ytcangooibfddmaa.Br Go.Proofs.Ytcangooibfddmaa.Pl Go.Proofs.Ytcangooibfddmaa.Gr
set_option linter.unusedVariables false
def OutG (B : Nat) (w : World) (v : Value) (how val : Int) (s : Sg) : Prop :=
  ∃ mA mn mc cA cn ck, v = .agg #[.int .i64 how, .int .i32 val, .slice mA mn mc, .slice cA cn ck, .int .i64 s.steps] ∧ OwnWords B w (.slice mA mn mc) s.mem ∧ EventsAt B w (.slice cA cn ck) s.calls (fun _ => False) ∧ InvG s
theorem EventsAt.slice {B : Nat} {w : World} {cs : Value} {l : List (Int × List Int)} {X : Nat → Prop} (h : EventsAt B w cs l X) : ∃ A n c, cs = .slice A n c := by
  obtain ⟨es, h1, _⟩ := h
  obtain ⟨A, c, e⟩ := own_form h1
  exact ⟨A, _, c, e⟩
theorem upd_w {f : Int → Int} (h : ∀ x, InW (f x)) {k v : Int} (hv : InW v) (x : Int) : InW (upd f k v x) := by
  unfold upd
  by_cases e : x = k
  · rw [if_pos e]; exact hv
  · rw [if_neg e]; exact h x
theorem getD_w {l : List Int} (h : ∀ x ∈ l, InW x) (k : Nat) : InW (l.getD k 0) := by
  rw [List.getD_eq_getElem?_getD]
  cases hx : l[k]? with
  | none => exact ⟨by simp, by simp⟩
  | some y => exact h y (List.mem_of_getElem? hx)
theorem off_but {L : Nat → Prop} {m : Nat} {a b : World} (h : But m a b) (hm : ¬ L m) : Off L a b := ⟨h.os, h.tape, h.output, h.size, fun k hk hs => h.block k hs (fun e => hm (e ▸ hk))⟩
theorem setAll_w : ∀ (l : List (Int × Int)) (f : Int → Int), (∀ x, InW (f x)) → (∀ p ∈ l, InW p.2) → ∀ x, InW (setAll f l x)
  | [], f, h, _ => h
  | p :: l, f, h, hl => by
    show ∀ x, InW (setAll (upd f p.1 p.2) l x)
    exact setAll_w l _ (upd_w h (hl p (List.mem_cons_self ..))) (fun q hq => hl q (List.mem_cons_of_mem _ hq))
theorem inv_step {s0 : Sg} (h : InvG s0) {lim : Int} {nl : List Int} (hlim : lim ≤ 1000000) (hb : (actsG lim nl).stepB s0 = true) : (actsG lim nl).stepS s0 = { s0 with steps := s0.steps + 1 } := by
  have : s0.steps < lim := of_decide_eq_true hb
  simp only [actsG, if_pos this]
set_option maxRecDepth 100000 in
theorem inv_ins {s0 s : Sg} {nl : List Int} (h : InvG s0) (hs : s = { s0 with steps := s0.steps + 1 }) (h1 : s0.steps < 1000000) (i : PIns) (hi : InW i.imm) (hn : ∀ x ∈ nl, InW x) : InvG (insG nl s i) := by
  obtain ⟨a1, a2, a3, a4, a5, a6, a7⟩ := h
  subst hs
  have hst : s0.steps + 1 ≤ 1000000 := by omega
  unfold insG InvG
  split
  · exact ⟨by simp only; omega, by simp only; omega, upd_w a3 hi, a4, a5, by simp only; omega, by simp only; omega⟩
  split
  · exact ⟨by simp only; omega, by simp only; omega, upd_w (upd_w a3 (wide_in _ _).1) (wide_in _ _).2, a4, a5, by simp only; omega, by simp only; omega⟩
  split
  · exact ⟨by simp only; omega, by simp only; omega, upd_w a3 (getD_w a4 _), a4, a5, by simp only; omega, by simp only; omega⟩
  split
  · refine ⟨by simp only; omega, by simp only; omega, a3, fun x hx => ?_, by simp only [List.length_set]; exact a5, by simp only; omega, by simp only; omega⟩
    rcases List.mem_or_eq_of_mem_set hx with hx | rfl
    · exact a4 x hx
    · exact a3 _
  split
  · exact ⟨by simp only; omega, by simp only; omega, upd_w a3 (getD_w hn _), a4, a5, by simp only; omega, by simp only [List.length_append, List.length_singleton]; omega⟩
  · exact ⟨by simp only; omega, by simp only; omega, upd_w a3 (doV_in _ _ _ (a3 _)), a4, a5, by simp only; omega, by simp only; omega⟩
theorem may_args {op : Int} {n : Nat} (h : mayB op n = true) : (op = 1 ∧ n = 0) ∨ (op = 15 ∧ n = 1) ∨ (op = 17 ∧ n ≤ 4) ∨ (op = 16 ∧ n = 2) ∨ (op = 18 ∧ n = 2) ∨ (2 ≤ op ∧ op ≤ 14 ∧ n = 2) := by
  unfold mayB at h
  split at h
  · exact Or.inl ⟨‹_›, by simpa using h⟩
  split at h
  · exact Or.inr (Or.inl ⟨‹_›, by simp at h; omega⟩)
  split at h
  · exact Or.inr (Or.inr (Or.inl ⟨‹_›, by simp at h; omega⟩))
  split at h
  · have h : n = 2 := by simp at h; omega
    omega
  · cases h
theorem two_args {l : List Int} (h : l.length = 2) : ∃ x y, l = [x, y] := by
  match l, h with
  | [x, y], _ => exact ⟨x, y, rfl⟩
theorem one_arg {l : List Int} (h : l.length = 1) : ∃ x, l = [x] := by
  match l, h with
  | [x], _ => exact ⟨x, rfl⟩
set_option maxRecDepth 100000 in
set_option maxHeartbeats 1000000 in
theorem serveG (B : Nat) (av mv nv : Value) (lim : Int) (hlim : lim ≤ 1000000) (nl : List Int) (hn : ∀ x ∈ nl, InW x) (hnl : nl.length ≤ 1000000) (rb : Nat) (bs : List PBlock) (hbl : bs.length ≤ 1000) (hf : FitG bs) :
    Serves (actsG lim nl) rb bs (GoodG bs) InvG (AtG B av mv nv lim nl rb) (OutG B) where
  weak := by
    rintro L L' w s hl ⟨mb, cc, mm, cs, h⟩
    exact ⟨mb, cc, mm, cs, h.weak hl⟩
  ext := by
    rintro L w w' s ⟨mb, cc, mm, cs, h⟩ hb
    exact ⟨mb, cc, mm, cs, h.ext hb⟩
  inv := by
    rintro L w s ⟨mb, cc, mm, cs, h⟩
    exact h.inv
  step := by
    rintro L w s ⟨mb, cc, mm, cs, h⟩
    have hi := h.inv
    refine (step_any w rb mb cc av mv nv mm cs lim s.steps s.vals h.run hi.1 (by have := hi.2.1; omega)).mono ?_
    intro e w' hp
    unfold StepPost at hp
    by_cases hl : s.steps < lim
    · rw [if_pos hl] at hp
      obtain ⟨rfl, hb, hr⟩ := hp
      refine ⟨by simp only [actsG, hl, decide_true], off_but hb h.off.1, mb, cc, mm, cs, ?_⟩
      simp only [actsG, if_pos hl]
      obtain ⟨a1, a2, a3, a4, a5, a6, a7⟩ := hi
      exact h.stepped hb hr rfl rfl rfl ⟨by simp only; omega, by simp only; omega, a3, a4, a5, by simp only; omega, by simp only; omega⟩
    · rw [if_neg hl] at hp
      obtain ⟨rfl, hb, hr⟩ := hp
      refine ⟨by simp only [actsG, hl, decide_false], off_but hb h.off.1, mb, cc, mm, cs, ?_⟩
      simp only [actsG, if_neg hl]
      exact h.stepped hb hr rfl rfl rfl hi
  do_ := by
    rintro L w s0 s i A c hs0 hsb hs ⟨mb, cc, mm, cs, h⟩ ⟨b, hb, hib⟩ hi
    have hlt : s0.steps < 1000000 := by have : s0.steps < lim := of_decide_eq_true hsb; omega
    rw [inv_step hs0 hlim hsb] at hs
    obtain ⟨m1, m2, m3, m4, m5⟩ := hf.ins b hb i hib
    have hI := inv_ins (nl := nl) hs0 hs hlt i m4 hn
    have hinv := h.inv
    have hpu := h.puts
    have hcc : cc + 2 ≤ 100000000000000 := by have := hinv.2.2.2.2.2.1; have := hinv.2.1; omega
    have hvw := hinv.2.2.1
    rcases may_args m1 with ⟨ho, hl⟩ | ⟨ho, hl⟩ | ⟨ho, hl⟩ | ⟨ho, hl⟩ | ⟨ho, hl⟩ | ⟨ho1, ho2, hl⟩
    · have et : trapG s i = 0 := by unfold trapG; rw [if_neg (by omega), if_pos (by omega)]
      have ei : insG nl s i = { s with vals := upd s.vals i.dst i.imm, puts := s.puts + 1 } := by unfold insG; rw [if_pos ho]
      simp only [actsG]
      rw [et, if_pos rfl, ho, hl]
      rw [ei] at hI ⊢
      refine (do_const w rb mb cc av mv nv mm cs lim s.steps s.vals h.run i.dst i.two i.imm A c m2 (by omega)).mono ?_
      rintro e w' ⟨rfl, hb', hr⟩
      exact ⟨rfl, off_but hb' h.off.2, mb, cc + 1, mm, cs, h.mapped hb' hr (by simp only; omega) rfl rfl hI⟩
    · obtain ⟨x, hx⟩ := one_arg hl
      have ea : addrG s i = wrap32 (s.vals x + i.imm) := by unfold addrG argX; rw [hx]; rfl
      have hx' : InI x := m5 x (by rw [hx]; exact List.mem_cons_self ..)
      have et : trapG s i = if hasB s.mem.length (wrap32 (s.vals x + i.imm)) = true then 0 else -2 := by unfold trapG; rw [if_pos (by omega), ea]
      have ei : insG nl s i = { s with vals := upd s.vals i.dst (s.mem.getD (wrap32 (s.vals x + i.imm)).toNat 0), puts := s.puts + 1 } := by unfold insG; rw [if_neg (by omega), if_neg (by omega), if_pos ho, ea]
      simp only [actsG]
      rw [et, ho]
      rw [hx] at hi ⊢
      refine (do_load w rb mb cc av mv nv mm cs lim s.steps s.vals h.run i.dst i.two i.imm A c x hi hx' m2 (by omega) s.mem (words_of_own h.mem) hinv.2.2.2.2.1 m4 (hvw x)).mono ?_
      intro e w' hp
      unfold LoadPost at hp
      by_cases hB : hasB s.mem.length (wrap32 (s.vals x + i.imm)) = true
      · rw [if_pos hB] at hp
        obtain ⟨rfl, hb', hr⟩ := hp
        rw [if_pos hB, if_pos rfl]
        rw [ei] at hI ⊢
        exact ⟨rfl, off_but hb' h.off.2, mb, cc + 1, mm, cs, h.mapped hb' hr (by simp only; omega) rfl rfl hI⟩
      · rw [if_neg hB] at hp
        obtain ⟨rfl, hb', hr⟩ := hp
        rw [if_neg hB, if_neg (by omega)]
        exact ⟨rfl, off_but hb' h.off.2, mb, cc, mm, cs, h.mapped hb' hr hpu rfl rfl hinv⟩
    · have et : trapG s i = 0 := by unfold trapG; rw [if_neg (by omega), if_pos (by omega)]
      simp only [actsG]
      rw [et, if_pos rfl]
      exact do_call w rb mb cc av mv nv mm cs lim nl L s h hnl i ho A c hi hl m5 m2 hcc hI
    · obtain ⟨x, y, hx⟩ := two_args hl
      have ea : addrG s i = wrap32 (s.vals x + i.imm) := by unfold addrG argX; rw [hx]; rfl
      have ey : argX i 1 = y := by unfold argX; rw [hx]; rfl
      have hx' : InI x := m5 x (by rw [hx]; exact List.mem_cons_self ..)
      have hy' : InI y := m5 y (by rw [hx]; exact List.mem_cons_of_mem _ (List.mem_cons_self ..))
      have et : trapG s i = if hasB s.mem.length (wrap32 (s.vals x + i.imm)) = true then 0 else -2 := by unfold trapG; rw [if_pos (by omega), ea]
      have ei : insG nl s i = { s with mem := s.mem.set (wrap32 (s.vals x + i.imm)).toNat (s.vals y) } := by unfold insG; rw [if_neg (by omega), if_neg (by omega), if_neg (by omega), if_pos ho, ea, ey]
      simp only [actsG]
      rw [et, ho]
      rw [hx] at hi ⊢
      refine (do_store w rb mb cc av mv nv mm cs lim s.steps s.vals h.run i.dst i.two i.imm A c x y hi hx' hy' B s.mem h.mem (fun g hg e => h.moff g hg (Or.inr (Or.inl e))) hinv.2.2.2.2.1 m4 (hvw x)).mono ?_
      intro e w' hp
      unfold StorePost at hp
      by_cases hB : hasB s.mem.length (wrap32 (s.vals x + i.imm)) = true
      · rw [if_pos hB] at hp
        obtain ⟨rfl, g, hg, hb', hm⟩ := hp
        rw [if_pos hB, if_pos rfl]
        rw [ei] at hI ⊢
        have hgo := h.moff g hg
        have hgr : w.grownBy w' (some g) := ⟨hb'.os, hb'.tape, hb'.output, hb'.size, fun k hk hn => hb'.block k hk (fun e => hn (by rw [e]))⟩
        refine ⟨rfl, off_but hb' (fun e => hgo (Or.inl e)), mb, cc, mm, cs, {
          run := ⟨h.run.str.kept hgr (fun e => hgo (Or.inr (Or.inl (by injection e with e; exact e.symm)))), h.run.map.kept hgr (fun e => hgo (Or.inr (Or.inr (by injection e with e; exact e.symm)))), h.run.ne⟩
          puts := hpu
          base := ⟨h.base.1, h.base.2.1, Nat.le_trans h.base.2.2 hb'.size⟩
          off := h.off
          mem := hm
          moff := h.moff
          ev := h.ev.kept hgr (Or.inr (Or.inr (Or.inr hg)))
          lt := fun k hk => Nat.lt_of_lt_of_le (h.lt k hk) hb'.size
          ans := h.ans.kept hgr (fun g' e => by injection e with e; rw [← e]; exact (OwnWords.where_ h.mem hg).1)
          inv := hI }⟩
      · rw [if_neg hB] at hp
        obtain ⟨rfl, hb'⟩ := hp
        rw [if_neg hB, if_neg (by omega)]
        exact ⟨rfl, Off.of_below hb', mb, cc, mm, cs, (h.ext hb').weak (fun k hk => Or.inl hk)⟩
    · obtain ⟨x, y, hx⟩ := two_args hl
      have ex : argX i 0 = x := by unfold argX; rw [hx]; rfl
      have ey : argX i 1 = y := by unfold argX; rw [hx]; rfl
      have hx' : InI x := m5 x (by rw [hx]; exact List.mem_cons_self ..)
      have hy' : InI y := m5 y (by rw [hx]; exact List.mem_cons_of_mem _ (List.mem_cons_self ..))
      have et : trapG s i = 0 := by unfold trapG; rw [if_neg (by omega), if_pos (by omega)]
      have ei : insG nl s i = { s with vals := upd (upd s.vals i.dst (wLow (s.vals x) (s.vals y))) i.two (wHigh (s.vals x) (s.vals y)), puts := s.puts + 2 } := by unfold insG; rw [if_neg (by omega), if_pos ho, ex, ey]
      simp only [actsG]
      rw [et, if_pos rfl, ho]
      rw [hx] at hi ⊢
      rw [ei] at hI ⊢
      refine (do_wide w rb mb cc av mv nv mm cs lim s.steps s.vals h.run i.dst i.two i.imm A c x y hi hx' hy' m2 m3 (by omega) (hvw x) (hvw y)).mono ?_
      rintro e w' ⟨rfl, hb', hr⟩
      exact ⟨rfl, off_but hb' h.off.2, mb, cc + 2, mm, cs, h.mapped hb' hr (by simp only; omega) rfl rfl hI⟩
    · obtain ⟨x, y, hx⟩ := two_args hl
      have ex : argX i 0 = x := by unfold argX; rw [hx]; rfl
      have ey : argX i 1 = y := by unfold argX; rw [hx]; rfl
      have hx' : InI x := m5 x (by rw [hx]; exact List.mem_cons_self ..)
      have hy' : InI y := m5 y (by rw [hx]; exact List.mem_cons_of_mem _ (List.mem_cons_self ..))
      have et : trapG s i = if doB i.op (s.vals y) = true then 0 else -1 := by unfold trapG; rw [if_neg (by omega), if_neg (by omega), ey]
      have ei : insG nl s i = { s with vals := upd s.vals i.dst (doV i.op (s.vals x) (s.vals y)), puts := s.puts + 1 } := by unfold insG; rw [if_neg (by omega), if_neg (by omega), if_neg (by omega), if_neg (by omega), if_neg (by omega), ex, ey]
      simp only [actsG]
      rw [et]
      rw [hx] at hi ⊢
      refine (do_two w rb mb cc av mv nv mm cs lim s.steps s.vals h.run i.op i.dst i.two i.imm A c x y hi hx' hy' m2 (by omega) ⟨ho1, ho2⟩).mono ?_
      intro e w' hp
      unfold TwoPost at hp
      by_cases hB : doB i.op (s.vals y) = true
      · rw [if_pos hB] at hp
        obtain ⟨rfl, hb', hr⟩ := hp
        rw [if_pos hB, if_pos rfl]
        rw [ei] at hI ⊢
        exact ⟨rfl, off_but hb' h.off.2, mb, cc + 1, mm, cs, h.mapped hb' hr (by simp only; omega) rfl rfl hI⟩
      · rw [if_neg hB] at hp
        obtain ⟨rfl, hb', hr⟩ := hp
        rw [if_neg hB, if_neg (by omega)]
        exact ⟨rfl, off_but hb' h.off.2, mb, cc, mm, cs, h.mapped hb' hr hpu rfl rfl hinv⟩
  phis := by
    rintro L w s from_ at_ b v ⟨mb, cc, mm, cs, h⟩ ⟨g1, g2, g3, g4, g5⟩ hb hv
    obtain ⟨q1, q2⟩ := hf.phis b (List.mem_of_getElem? hb)
    have hinv := h.inv
    have hpu := h.puts
    refine (phis_any w rb mb cc av mv nv mm cs lim s.steps s.vals h.run b.phis v hv from_ g3 (g2 b hb) q2 q1 (by have := hinv.2.1; omega)).mono ?_
    rintro e w' ⟨rfl, hb', hr⟩
    obtain ⟨a1, a2, a3, a4, a5, a6, a7⟩ := hinv
    refine ⟨rfl, off_but hb' h.off.2, mb, cc + b.phis.length, mm, cs, h.mapped hb' hr (by simp only [actsG]; omega) rfl rfl ⟨a1, a2, ?_, a4, a5, ?_, a7⟩⟩
    · refine setAll_w _ _ a3 fun p hp => ?_
      obtain ⟨q, _, rfl⟩ := List.mem_map.1 hp
      exact a3 _
    · show s.puts + b.phis.length ≤ 10 + 4100 * (s.steps.toNat + 1)
      omega
  first := by
    rintro L w s v l ⟨mb, cc, mm, cs, h⟩ hv ⟨b, hb, rfl⟩
    exact first_any w rb mb cc av mv nv mm cs lim s.steps s.vals h.run v _ hv (hf.term b hb).2
  way := by
    rintro L w s t v u ⟨mb, cc, mm, cs, h⟩ ⟨b, hb, rfl⟩ hv hu
    exact way_any w rb mb cc av mv nv mm cs lim s.steps s.vals h.run _ v u hv hu (hf.term b hb).2
  end_ := by
    rintro L w s how val q ⟨mb, cc, mm, cs, h⟩ hq
    obtain ⟨mA, mn, mc, rfl⟩ := OwnWords.slice h.mem
    obtain ⟨cA, cn, ck, rfl⟩ := h.ev.slice
    refine (end_any w rb mb cc q av mv nv mA cA mn mc cn ck lim s.steps s.vals h.run how val hq).mono ?_
    rintro e w' ⟨rfl, hb⟩
    have h' := h.ext hb
    refine ⟨mA, mn, mc, cA, cn, ck, s.steps, rfl, fun x w'' hx hb'' => ⟨_, _, _, _, _, _, rfl, ?_, ?_, h.inv⟩, hb⟩
    · have hg : w'.grownBy w'' (some x) := ⟨hb''.os, hb''.tape, hb''.output, hb''.size, fun k hk hn => hb''.block k hk (fun e => hn (by rw [e]))⟩
      exact World.ownsRow.kept h'.mem hg (own_ne (X := fun k => More L w w' k ∨ k = rb ∨ k = mb) h'.moff (Or.inl (Or.inl hx)))
    · have hg : w'.grownBy w'' (some x) := ⟨hb''.os, hb''.tape, hb''.output, hb''.size, fun k hk hn => hb''.block k hk (fun e => hn (by rw [e]))⟩
      exact (h'.ev.kept hg (Or.inl (Or.inl hx))).weak (fun _ _ e => e.elim)
  start := by
    rintro s from_ at_ ⟨g1, _⟩
    exact g1
  goes := goesG hf hbl
  goesTo := by
    rintro s from_ at_ b s2 hg hb hi hs h4 h5
    obtain ⟨x, x1, x2, x3, _⟩ := goes_to hf hb (firstV ((actsG lim nl).stepS s2).vals b.term.args) h4 h5
    exact ⟨x, x1, x2, x3⟩
/-- What a run tells. -/
theorem run_gives (w : World) (params : Nat) (hp : params ≤ 4) (A : Option Addr) (b0 c : Nat) (bs : List PBlock) (hA : A = some ⟨b0, 0, none⟩) (hbs : BlocksAt w (.slice A bs.length c) bs) (hwf : WfP bs) (hok : (checkN params bs).1 = 0) (hbl : bs.length ≤ 1000) (hf : FitG bs)
    (av mv nv : Value) (lim : Int) (hlim : lim ≤ 1000000) (al ml nl : List Int) (ha : WordsAt w av al) (hm : WordsAt w mv ml) (hnw : WordsAt w nv nl) (hw : ∀ x ∈ al, InW x) (hmw : ∀ x ∈ ml, InW x) (hn : ∀ x ∈ nl, InW x) (hnl : nl.length ≤ 1000000) :
    Calls Try.prog 19 #[.agg #[.int .i64 params, .slice A bs.length c], .agg #[av, mv, nv, .int .i64 lim]] w
      (RunEnds (OutG w.heap.size) (runZ (actsG lim nl) bs (lim.toNat + 1) 0 0 ⟨parV al params, 0, ml.take 4096, [], 8⟩) w.heap.size w) := by
  have hg0 : GoodG bs ⟨parV al params, 0, ml.take 4096, [], 8⟩ 0 0 := ⟨hf.pos, (fun b hb p hp => by rw [hf.zero b hb] at hp; cases hp), ⟨by omega, by omega⟩, by simp, by simp⟩
  have hfu : (actsG lim nl).left ⟨parV al params, 0, ml.take 4096, [], 8⟩ = lim.toNat := by simp [actsG]
  rw [← hfu]
  refine run_any (actsG lim nl) bs (GoodG bs) InvG (AtG w.heap.size av mv nv lim nl) (OutG w.heap.size) (fun rb => serveG w.heap.size av mv nv lim hlim nl hn hnl rb bs hbl hf) w params hp A b0 c (fun _ => hA) hbs hwf hok av mv nv lim al ml ha hm _ hg0 ?_
  intro rb mb cc mm w0 w1 hb hbg
  have hr1 := hbg.r1
  have hr2 := hbg.r2
  have hcc := hbg.cc
  have hsz := hb.size
  refine ⟨mb, cc, mm, .slice none 0 0, {
    run := hbg.run
    puts := by simp only; omega
    base := ⟨by omega, by omega, Nat.le_trans hsz hbg.below.size⟩
    off := ⟨fun e => by have e : rb < w0.heap.size := e; omega, fun e => by have e : mb < w0.heap.size := e; omega⟩
    mem := hbg.own.mono hsz
    moff := fun g hg e => by
      have hwh := OwnWords.where_ hbg.own hg
      rcases e with e | e | e
      · have e : g < w0.heap.size := e; omega
      · exact hbg.m1 (by rw [hg, e])
      · exact hbg.m2 (by rw [hg, e])
    ev := EventsAt.nil _ _ _
    lt := fun k hk => by have hk : k < w0.heap.size := hk; exact Nat.lt_of_lt_of_le hk hbg.below.size
    ans := (AnsAt.of_words hnw (Nat.le_refl _)).kept (row := none) (grown_of_below (hb.trans (hbg.below.mono hsz))) (fun g e => by cases e)
    inv := ⟨by simp only; omega, by simp only; omega, fun x => ?_, fun x hx => hmw x (List.mem_of_mem_take hx), by simp only [List.length_take]; omega, by simp only; omega, by simp only [List.length_nil]; omega⟩ }⟩
  simp only [parV]
  by_cases h : 0 ≤ x ∧ x < (params : Int)
  · rw [if_pos h]; exact getD_w hw _
  · rw [if_neg h]; exact ⟨by omega, by omega⟩
end Go.Proofs.Ytcangooibfddmaa.Ic
