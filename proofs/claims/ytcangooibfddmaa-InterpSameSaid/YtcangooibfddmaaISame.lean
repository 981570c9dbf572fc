/- Stage 4: when outcomes are the same: the program's Same, and the document's. -/
import Derived.Test.YtcangooibfddmaaILawA
namespace Go.Proofs.Ytcangooibfddmaa.Ic
open Go.ChangeShapes Go.WideShapes Go.ChangeAt Go.RowKit Go.Maps Go.Proofs.Ytcangooibfddmaa.Mem Go.Proofs.Ytcangooibfddmaa.Kc Go.Proofs.Ytcangooibfddmaa.Br Go.Proofs.Ytcangooibfddmaa.Pl Go.Proofs.Ytcangooibfddmaa.Gr
set_option linter.unusedVariables false
set_option maxRecDepth 100000 in
set_option maxHeartbeats 1000000 in
theorem equal_any (w : World) (va vb : Value) (la lb : List Int) (ha : WordsAt w va la) (hb : WordsAt w vb lb) :
    Calls Try.prog 61 #[va, vb] w fun e w' => e = .returned (.bool (decide (la = lb))) ∧ ∃ n, w' = w.drewN n := by
  obtain ⟨A, ca, rfl, a1, a2, a3⟩ := ha
  obtain ⟨B, cb, rfl, b1, b2, b3⟩ := hb
  unfold maxLen at a2 b2
  have HA := Lib.hid a3
  have HB := Lib.hid b3
  clear a3 b3
  by_cases hl : la.length = lb.length
  · have hlb : ((la.length : Int) != (lb.length : Int)) = false := by rw [hl]; simp
    have HL := Lib.hid hl
    clear hl
    go_enter Try.func61, Try.ntmps61
    go_wp2_with fail
    go_loopw [5, 13] (fun _ i wr => ∃ k n : Nat, k ≤ la.length ∧ i = .int .i64 k ∧ la.take k = lb.take k ∧ wr = w.drewN n) (fun _ i _ => la.length - (intOf i).toNat)
    case atStart => exact ⟨0, 0, by omega, rfl, by simp, rfl⟩
    case round =>
      obtain ⟨k, n, hk, rfl, hpre, hw⟩ := hrel
      obtain ⟨wo, rfl⟩ : ∃ wo : World, wo = wr := ⟨_, rfl⟩
      have HPRE := Lib.hid hpre
      have HW := Lib.hid hw
      clear hpre
      by_cases hlt : k < la.length
      · have hrl : k < lb.length := by have := HL.out; omega
        obtain ⟨ad, rfl, hx⟩ := HA.out k hlt
        obtain ⟨bd, rfl, hy⟩ := HB.out k hrl
        have hx : wo.cell? (ad.add k) = some (.int .i32 la[k]) := by rw [hw]; exact hx
        have hy : wo.cell? (bd.add k) = some (.int .i32 lb[k]) := by rw [hw]; exact hy
        have HT := Lib.hid (show la.take (k + 1) = la.take k ++ [la[k]] from List.take_succ_eq_append_getElem hlt)
        have HR := Lib.hid (show lb.take (k + 1) = lb.take k ++ [lb[k]] from List.take_succ_eq_append_getElem hrl)
        have HNE := Lib.hid (show la[k] ≠ lb[k] → decide (la = lb) = false from fun hne => decide_eq_false (fun e => hne (by
          have h9 : la[k]? = lb[k]? := by rw [e]
          rw [List.getElem?_eq_getElem hlt, List.getElem?_eq_getElem hrl] at h9
          exact Option.some.inj h9)))
        generalize la[k] = x at *
        generalize lb[k] = y at *
        clear hw
        cases hxy : (x != y) with
        | true =>
          have HF := Lib.hid (HNE.out (bne_iff_ne.1 hxy))
          clear HT HR HNE
          go_wp2_with fail
          go_quiet (fail)
          go_wp2
          go_ret
          exact ⟨by rw [HF.out]; rfl, n + nq, by rw [HW.out]; simp [World.drewN, Nat.add_assoc]⟩
        | false =>
          have hxe : x = y := by simpa using hxy
          have HF := Lib.hid (show la.take (k + 1) = lb.take (k + 1) by rw [HT.out, HR.out, HPRE.out, hxe])
          clear HT HR HNE hxe
          go_wp2_with fail
          go_quiet (fail)
          go_wp2
          exact ⟨⟨k + 1, n + nq, by omega, by go_num, HF.out, by rw [HW.out]; simp [World.drewN, Nat.add_assoc]⟩, by simp [intOf]; omega⟩
      · obtain rfl : k = la.length := by omega
        have HF := Lib.hid (show decide (la = lb) = true from decide_eq_true (by have h9 := HPRE.out; rw [List.take_length, HL.out, List.take_length] at h9; exact h9))
        clear hw
        go_wp2
        go_ret
        exact ⟨by rw [HF.out]; rfl, n, HW.out⟩
  · have HF := Lib.hid (show decide (la = lb) = false from decide_eq_false (fun e => hl (by rw [e])))
    have hlb : ((la.length : Int) != (lb.length : Int)) = true := by rw [bne_iff_ne]; omega
    clear hl
    go_enter Try.func61, Try.ntmps61
    go_wp2
    go_ret
    exact ⟨by rw [HF.out]; rfl, 0, rfl⟩
abbrev Ev := Int × List Int
def EvAt (w : World) (b o : Nat) (e : Ev) : Prop := w.cell? ⟨b, o, none⟩ = some (.int .i32 e.1) ∧ CellAt w b (o + 1) fun s => WordsAt w s e.2
theorem EvAt.keep_to {w w' : World} {b o : Nat} {e : Ev} (h : EvAt w b o e) (hb : Below w.heap.size w w') : w'.cell? ⟨b, o, none⟩ = some (.int .i32 e.1) ∧ ∃ v, w'.cell? ⟨b, o + 1, none⟩ = some v ∧ WordsAt w' v e.2 := by
  obtain ⟨h1, v, h2, h3⟩ := h
  exact ⟨cell_keep hb (Nat.le_refl _) h1, v, cell_keep hb (Nat.le_refl _) h2, h3.below hb⟩
theorem EvAt.keep {w w' : World} (hb : Below w.heap.size w w') (b o : Nat) (e : Ev) (h : EvAt w b o e) : EvAt w' b o e :=
  ⟨cell_keep hb (Nat.le_refl _) h.1, h.2.kept hb fun v hv => hv.below hb⟩
def EvsAt (w : World) (v : Value) (l : List Ev) : Prop := RowAt w 2 EvAt v l
theorem EvsAt.below {w w' : World} {v : Value} {l : List Ev} (h : EvsAt w v l) (hb : Below w.heap.size w w') : EvsAt w' v l := RowAt.kept h (EvAt.keep hb)
def TellsB (b : Bool) (w : World) (e : Ending) (w' : World) : Prop := e = .returned (.bool b) ∧ Below w.heap.size w w'
set_option maxRecDepth 100000 in
set_option maxHeartbeats 1000000 in
theorem alike_any (w : World) (c d : Int) (va vb : Value) (la lb : List Int) (ha : WordsAt w va la) (hb : WordsAt w vb lb) :
    Calls Try.prog 63 #[.agg #[.int .i32 c, va], .agg #[.int .i32 d, vb]] w (TellsB (decide (((c, la) : Ev) = (d, lb))) w) := by
  have HA := Lib.hid ha
  have HB := Lib.hid hb
  obtain ⟨A, ca, rfl, a1, a2, a3⟩ := ha
  obtain ⟨B, cb, rfl, b1, b2, b3⟩ := hb
  clear a1 a2 a3 b1 b2 b3
  obtain ⟨W, hW⟩ : ∃ W, (w.alloc (.cells #[.int .i32 c, .slice A la.length ca] 67)).alloc (.cells #[.int .i32 d, .slice B lb.length cb] 67) = W := ⟨_, rfl⟩
  have HBW := Lib.hid (show Below w.heap.size w W by rw [← hW]; exact ((Below.refl _ _).alloc (Nat.le_refl _) _).alloc (by simp) _)
  have HW := Lib.hid hW
  clear hW
  cases hcd : (c == d) with
  | false =>
    have HF := Lib.hid (show decide (((c, la) : Ev) = (d, lb)) = false from decide_eq_false (fun e => by injection e with e _; rw [e] at hcd; simp at hcd))
    go_enter Try.func63, Try.ntmps63
    go_wp2
    go_ret
    refine ⟨by rw [HF.out]; rfl, ?_⟩
    first | exact HBW.out | (rw [HW.out]; exact HBW.out)
  | true =>
    have hcd2 : c = d := beq_iff_eq.1 hcd
    have HF := Lib.hid (show decide (((c, la) : Ev) = (d, lb)) = decide (la = lb) by rw [hcd2]; simp)
    clear hcd2
    go_enter Try.func63, Try.ntmps63
    go_wp2_with fail
    rw [HW.out]
    refine (equal_any W _ _ la lb (HA.out.below HBW.out) (HB.out.below HBW.out)).mono ?_
    rintro e w2 ⟨rfl, n, rfl⟩
    obtain ⟨q, hq⟩ : ∃ q, decide (la = lb) = q := ⟨_, rfl⟩
    rw [hq]
    have HQ := Lib.hid hq
    clear hq
    go_wp2
    go_ret
    exact ⟨by rw [HF.out, HQ.out]; rfl, below_drewK HBW.out n⟩
set_option maxRecDepth 100000 in
set_option maxHeartbeats 4000000 in
theorem eqfunc_any (w : World) (va vb : Value) (la lb : List Ev) (ha : EvsAt w va la) (hb : EvsAt w vb lb) :
    Calls Try.prog 62 #[va, vb, .func (.func 63) #[] #[]] w (TellsB (decide (la = lb)) w) := by
  obtain ⟨A, ca, ba, oa, rfl, a1, a2, a3, a4⟩ := ha
  obtain ⟨B, cb, bb, ob, rfl, b1, b2, b3, b4⟩ := hb
  unfold maxLen at a2 b2
  have HA3 := Lib.hid a3
  have HA := Lib.hid a4
  have HB3 := Lib.hid b3
  have HB := Lib.hid b4
  clear a3 a4 b3 b4
  by_cases hl : la.length = lb.length
  · have hlb : ((la.length : Int) != (lb.length : Int)) = false := by rw [hl]; simp
    have HL := Lib.hid hl
    clear hl
    go_enter Try.func62, Try.ntmps62
    go_wp2_with fail
    go_loopw [7, 8, 9, 17] (fun _ _ _ i wr => ∃ k : Nat, k ≤ la.length ∧ i = .int .i64 k ∧ la.take k = lb.take k ∧ Below w.heap.size w wr) (fun _ _ _ i _ => la.length - (intOf i).toNat)
    case atStart => exact ⟨0, by omega, rfl, by simp, Below.refl _ _⟩
    case round =>
      obtain ⟨k, hk, rfl, hpre, hb⟩ := hrel
      obtain ⟨wo, rfl⟩ : ∃ wo : World, wo = wr := ⟨_, rfl⟩
      have HPRE := Lib.hid hpre
      have HBo := Lib.hid hb
      have hzo := hb.size
      clear hpre
      by_cases hlt : k < la.length
      · have hrl : k < lb.length := by have := HL.out; omega
        obtain rfl := HA3.out (by omega)
        obtain rfl := HB3.out (by omega)
        obtain ⟨x0, u, x1, hu⟩ := EvAt.keep_to (HA.out k hlt) hb
        obtain ⟨y0, v, y1, hv⟩ := EvAt.keep_to (HB.out k hrl) hb
        have HT := Lib.hid (show la.take (k + 1) = la.take k ++ [la[k]] from List.take_succ_eq_append_getElem hlt)
        have HR := Lib.hid (show lb.take (k + 1) = lb.take k ++ [lb[k]] from List.take_succ_eq_append_getElem hrl)
        have HNE := Lib.hid (show la[k] ≠ lb[k] → decide (la = lb) = false from fun hne => decide_eq_false (fun e => hne (by
          have h9 : la[k]? = lb[k]? := by rw [e]
          rw [List.getElem?_eq_getElem hlt, List.getElem?_eq_getElem hrl] at h9
          exact Option.some.inj h9)))
        generalize la[k] = p at *
        generalize lb[k] = q at *
        obtain ⟨c, lc⟩ := p
        obtain ⟨d, ld⟩ := q
        simp only at x0 y0 hu hv
        obtain ⟨uA, uc, rfl, _⟩ := id hu
        obtain ⟨vA, vc, rfl, _⟩ := id hv
        have HU := Lib.hid hu
        have HVV := Lib.hid hv
        clear hb hu hv
        obtain ⟨W, hW⟩ : ∃ W, (wo.alloc (.cells #[.int .i32 c, .slice uA lc.length uc] 67)).alloc (.cells #[.int .i32 d, .slice vA ld.length vc] 67) = W := ⟨_, rfl⟩
        have hbW : Below wo.heap.size wo W := by rw [← hW]; exact ((Below.refl _ _).alloc (Nat.le_refl _) _).alloc (by simp) _
        have HUW := Lib.hid (HU.out.below hbW)
        have HVW := Lib.hid (HVV.out.below hbW)
        have HBW := Lib.hid (HBo.out.trans (hbW.mono hzo))
        have hzW := Nat.le_trans hzo hbW.size
        have HW := Lib.hid hW
        have hbV : Below wo.heap.size wo (wo.alloc (.cells #[.int .i32 c, .slice uA lc.length uc] 67)) := (Below.refl _ _).alloc (Nat.le_refl _) _
        have y0' := cell_keep hbV (Nat.le_refl _) y0
        have y1' := cell_keep hbV (Nat.le_refl _) y1
        clear hW hbW hbV
        go_wp2_with fail
        rw [HW.out]
        refine (alike_any W c d _ _ lc ld HUW.out HVW.out).mono ?_
        rintro e w3 ⟨rfl, hb3⟩
        have HB4 := Lib.hid (HBW.out.trans (hb3.mono hzW))
        clear hb3
        cases hq : decide (((c, lc) : Ev) = (d, ld)) with
        | false =>
          have HF := Lib.hid (HNE.out (of_decide_eq_false hq))
          clear HT HR HNE hq
          go_wp2
          go_ret
          exact ⟨by rw [HF.out]; rfl, HB4.out⟩
        | true =>
          have HF := Lib.hid (show la.take (k + 1) = lb.take (k + 1) by rw [HT.out, HR.out, HPRE.out, of_decide_eq_true hq])
          clear HT HR HNE hq
          go_wp2
          go_roundw
          case rel => exact ⟨k + 1, by omega, by go_num, HF.out, HB4.out⟩
          case measure => simp [intOf]; omega
      · obtain rfl : k = la.length := by omega
        have HF := Lib.hid (show decide (la = lb) = true from decide_eq_true (by have h9 := HPRE.out; rw [List.take_length, HL.out, List.take_length] at h9; exact h9))
        clear hb
        go_wp2
        go_ret
        exact ⟨by rw [HF.out]; rfl, HBo.out⟩
  · have HF := Lib.hid (show decide (la = lb) = false from decide_eq_false (fun e => hl (by rw [e])))
    have hlb : ((la.length : Int) != (lb.length : Int)) = true := by rw [bne_iff_ne]; omega
    clear hl
    go_enter Try.func62, Try.ntmps62
    go_wp2
    go_ret
    exact ⟨by rw [HF.out]; rfl, Below.refl _ _⟩
/-- An outcome in memory. -/
structure POut where
  how : Int
  val : Int
  mem : List Int
  calls : List Ev
  steps : Int
def outV (o : POut) (mv cv : Value) : List Value := [.int .i64 o.how, .int .i32 o.val, mv, cv, .int .i64 o.steps]
def sameP (a b : POut) : Bool := decide (a.how = b.how) && (decide (a.val = b.val) && (decide (a.mem = b.mem) && decide (a.calls = b.calls)))
structure OutAt (w : World) (mv cv : Value) (o : POut) : Prop where
  mem : WordsAt w mv o.mem
  calls : EvsAt w cv o.calls
theorem OutAt.below {w w' : World} {mv cv : Value} {o : POut} (h : OutAt w mv cv o) (hb : Below w.heap.size w w') : OutAt w' mv cv o := ⟨h.mem.below hb, h.calls.below hb⟩
set_option maxRecDepth 100000 in
set_option maxHeartbeats 2000000 in
theorem same_any (w : World) (ma ca mb cb : Value) (a b : POut) (ha : OutAt w ma ca a) (hb : OutAt w mb cb b) :
    Calls Try.prog 28 #[.agg #[.int .i64 a.how, .int .i32 a.val, ma, ca, .int .i64 a.steps], .agg #[.int .i64 b.how, .int .i32 b.val, mb, cb, .int .i64 b.steps]] w (TellsB (sameP a b) w) := by
  have HA := Lib.hid ha
  have HB := Lib.hid hb
  obtain ⟨Am, am, rfl, _⟩ := id ha.mem
  obtain ⟨Ac, ac, _, _, rfl, _⟩ := id ha.calls
  obtain ⟨Bm, bm, rfl, _⟩ := id hb.mem
  obtain ⟨Bc, bc, _, _, rfl, _⟩ := id hb.calls
  clear ha hb
  obtain ⟨W, hW⟩ : ∃ W, (w.alloc (.cells #[.int .i64 a.how, .int .i32 a.val, .slice Am a.mem.length am, .slice Ac a.calls.length ac, .int .i64 a.steps] 45)).alloc (.cells #[.int .i64 b.how, .int .i32 b.val, .slice Bm b.mem.length bm, .slice Bc b.calls.length bc, .int .i64 b.steps] 45) = W := ⟨_, rfl⟩
  have hbW : Below w.heap.size w W := by rw [← hW]; exact ((Below.refl _ _).alloc (Nat.le_refl _) _).alloc (by simp) _
  have hs0 : Str W w.heap.size 45 (outV a (.slice Am a.mem.length am) (.slice Ac a.calls.length ac)) := by rw [← hW]; exact Str.below (World.alloc_heap_new w _) ((Below.refl _ _).alloc (Nat.le_refl _) _)
  have hs1 : Str W (w.heap.size + 1) 45 (outV b (.slice Bm b.mem.length bm) (.slice Bc b.calls.length bc)) := by
    rw [← hW]
    have h : Str _ (w.alloc (.cells #[.int .i64 a.how, .int .i32 a.val, .slice Am a.mem.length am, .slice Ac a.calls.length ac, .int .i64 a.steps] 45)).heap.size 45 (outV b (.slice Bm b.mem.length bm) (.slice Bc b.calls.length bc)) := World.alloc_heap_new (w.alloc (.cells #[.int .i64 a.how, .int .i32 a.val, .slice Am a.mem.length am, .slice Ac a.calls.length ac, .int .i64 a.steps] 45)) _
    simp only [World.size_alloc] at h
    exact h
  have HAW := Lib.hid (HA.out.below hbW)
  have HBW := Lib.hid (HB.out.below hbW)
  have HBB := Lib.hid hbW
  have HW := Lib.hid hW
  have hzW := hbW.size
  clear hbW hW
  have a0 : W.cell? ⟨w.heap.size, 0, none⟩ = some (.int .i64 a.how) := hs0.cell 0
  have a1 : W.cell? ⟨w.heap.size, 1, none⟩ = some (.int .i32 a.val) := hs0.cell 1
  have a2 : W.cell? ⟨w.heap.size, 2, none⟩ = some (.slice Am a.mem.length am) := hs0.cell 2
  have a3 : W.cell? ⟨w.heap.size, 3, none⟩ = some (.slice Ac a.calls.length ac) := hs0.cell 3
  have b0 : W.cell? ⟨w.heap.size + 1, 0, none⟩ = some (.int .i64 b.how) := hs1.cell 0
  have b1 : W.cell? ⟨w.heap.size + 1, 1, none⟩ = some (.int .i32 b.val) := hs1.cell 1
  have b2 : W.cell? ⟨w.heap.size + 1, 2, none⟩ = some (.slice Bm b.mem.length bm) := hs1.cell 2
  have b3 : W.cell? ⟨w.heap.size + 1, 3, none⟩ = some (.slice Bc b.calls.length bc) := hs1.cell 3
  clear hs0 hs1
  have HSP := Lib.hid (show sameP a b = (decide (a.how = b.how) && (decide (a.val = b.val) && (decide (a.mem = b.mem) && decide (a.calls = b.calls)))) from rfl)
  cases h0 : (a.how == b.how) with
  | false =>
    have HF := Lib.hid (show sameP a b = false by rw [HSP.out, decide_eq_false (beq_eq_false_iff_ne.1 h0)]; rfl)
    go_enter Try.func28, Try.ntmps28
    go_upto_region 1 with (fail)
    rw [HW.out]
    go_wp2
    go_ret
    exact ⟨by rw [HF.out]; rfl, HBB.out⟩
  | true =>
    cases h1 : (a.val == b.val) with
    | false =>
      have HF := Lib.hid (show sameP a b = false by rw [HSP.out, decide_eq_false (beq_eq_false_iff_ne.1 h1)]; simp)
      go_enter Try.func28, Try.ntmps28
      go_upto_region 1 with (fail)
      rw [HW.out]
      go_wp2
      go_ret
      exact ⟨by rw [HF.out]; rfl, HBB.out⟩
    | true =>
      have HF := Lib.hid (show sameP a b = (decide (a.mem = b.mem) && decide (a.calls = b.calls)) by rw [HSP.out, decide_eq_true (beq_iff_eq.1 h0), decide_eq_true (beq_iff_eq.1 h1)]; simp)
      go_enter Try.func28, Try.ntmps28
      go_upto_region 1 with (fail)
      rw [HW.out]
      go_wp2_with fail
      refine (equal_any W _ _ a.mem b.mem HAW.out.mem HBW.out.mem).mono ?_
      rintro e w2 ⟨rfl, n, rfl⟩
      cases hm : decide (a.mem = b.mem) with
      | false =>
        have HFF := Lib.hid (show sameP a b = false by rw [HF.out, hm]; rfl)
        clear hm
        go_wp2
        go_ret
        exact ⟨by rw [HFF.out]; rfl, below_drewK HBB.out n⟩
      | true =>
        have HFF := Lib.hid (show sameP a b = decide (a.calls = b.calls) by rw [HF.out, hm]; rfl)
        clear hm
        go_wp2_with fail
        refine (eqfunc_any (W.drewN n) _ _ a.calls b.calls (HAW.out.calls.below (below_drewK (Below.refl _ _) n)) (HBW.out.calls.below (below_drewK (Below.refl _ _) n))).mono ?_
        rintro e w3 ⟨rfl, hb3⟩
        obtain ⟨q, hq⟩ : ∃ q, decide (a.calls = b.calls) = q := ⟨_, rfl⟩
        rw [hq]
        have HQ := Lib.hid hq
        have HB3 := Lib.hid ((below_drewK HBB.out n).trans (hb3.mono hzW))
        clear hq hb3
        go_wp2
        go_ret
        exact ⟨by rw [HFF.out, HQ.out]; rfl, HB3.out⟩
end Go.Proofs.Ytcangooibfddmaa.Ic
