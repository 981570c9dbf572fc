/- Stage 4: jacquardlaw04's outcome: one of its own, cut. -/
import Derived.Test.YtcangooibfddmaaISame
import Derived.Test.YtcangooibfddmaaHeldR
import Derived.Deep.DeepCutAuto
namespace Go.Proofs.Ytcangooibfddmaa.Ic
open Go.ChangeShapes Go.WideShapes Go.ChangeAt Go.RowKit Go.Maps Go.Proofs.Ytcangooibfddmaa.Mem Go.Proofs.Ytcangooibfddmaa.Kc Go.Proofs.Ytcangooibfddmaa.Br Go.Proofs.Ytcangooibfddmaa.Pl Go.Proofs.Ytcangooibfddmaa.Gr
set_option linter.unusedVariables false
def cutEv (e : Ev) : Ev := (e.1, e.2.take 6)
theorem five_setO {w : World} {p : Nat} {t : TypeId} {a0 a1 a2 a3 a4 : Value} (h : Str w p t [a0, a1, a2, a3, a4]) (b0 b1 b2 b3 b4 : Value) :
    Str (((((w.setCell ⟨p, 0, none⟩ b0).setCell ⟨p, 1, none⟩ b1).setCell ⟨p, 2, none⟩ b2).setCell ⟨p, 3, none⟩ b3).setCell ⟨p, 4, none⟩ b4) p t [b0, b1, b2, b3, b4] ∧ But p w (((((w.setCell ⟨p, 0, none⟩ b0).setCell ⟨p, 1, none⟩ b1).setCell ⟨p, 2, none⟩ b2).setCell ⟨p, 3, none⟩ b3).setCell ⟨p, 4, none⟩ b4) :=
  ⟨((((h.set 0 b0).set 1 b1).set 2 b2).set 3 b3).set 4 b4, But.five _ _ _ _ _⟩
theorem EventsAt.base {B B' : Nat} {w : World} {cs : Value} {l : List (Int × List Int)} {X : Nat → Prop} (h : EventsAt B w cs l X) (hB : B' ≤ B) : EventsAt B' w cs l X := by
  obtain ⟨es, h1, h2, h3⟩ := h
  refine ⟨es, own_base h1 hB, h2, fun k hk => ?_⟩
  obtain ⟨e1, v, e2, e3, e4⟩ := h3 k hk
  exact ⟨e1, v, e2, e3.mono hB, e4⟩
theorem EventsAt.far {B : Nat} {w w' : World} {cs : Value} {l : List (Int × List Int)} {X : Nat → Prop} {g : Nat} (h : EventsAt B w cs l X) (hg : w.grownBy w' (some g)) (hlt : g < B) : EventsAt B w' cs l X := by
  obtain ⟨es, h1, h2, h3⟩ := h
  have far : ∀ {v : Value}, (∀ k, v.ownBlock = some k → B ≤ k) → v.ownBlock = none ∨ v.ownBlock ≠ some g := fun {v} hv => Or.inr (fun e => by have := hv g e; omega)
  refine ⟨es, h1.kept hg (far fun k hk => (h1.lt k hk).1), h2, fun k hk => ?_⟩
  obtain ⟨e1, v, e2, e3, e4⟩ := h3 k hk
  exact ⟨e1, v, e2, World.ownsRow.kept e3 hg (far fun k hk => (OwnWords.where_ e3 hk).1), e4⟩
/-- What outcome makes of one. -/
def OutcomePost (o : POut) (w : World) (en : Ending) (w' : World) : Prop :=
  ∃ mA mc cA cc, en = .returned (.agg #[.int .i64 o.how, .int .i32 o.val, .slice mA (o.mem.take 20).length mc, .slice cA (o.calls.take 10).length cc, .int .i64 o.steps]) ∧ OwnWords w.heap.size w' (.slice mA (o.mem.take 20).length mc) (o.mem.take 20) ∧
    EventsAt w.heap.size w' (.slice cA (o.calls.take 10).length cc) ((o.calls.take 10).map cutEv) (fun g => (Value.slice mA (o.mem.take 20).length mc).ownBlock = some g) ∧ Below w.heap.size w w'
set_option maxRecDepth 100000 in
set_option maxHeartbeats 4000000 in
theorem outcome_any (w : World) (mv cv : Value) (o : POut) (ho : OutAt w mv cv o) :
    Calls Try.prog 27 #[.agg #[.int .i64 o.how, .int .i32 o.val, mv, cv, .int .i64 o.steps]] w (OutcomePost o w) := by
  have HO := Lib.hid ho
  obtain ⟨Am, am, rfl, m1, m2, m3⟩ := id ho.mem
  obtain ⟨Ac, ac, cb, co, rfl, c1, c2, c3, c4⟩ := id ho.calls
  unfold maxLen at m2 c2
  obtain ⟨q, hq⟩ : ∃ q : Nat, min (o.mem.length : Int) 20 = q := ⟨(min (o.mem.length : Int) 20).toNat, by omega⟩
  have hq1 : q ≤ o.mem.length := by omega
  have hq2 : (q : Int) ≤ am := by omega
  obtain ⟨tm, htm⟩ : ∃ tm, o.mem.take 20 = tm := ⟨_, rfl⟩
  have HTM := Lib.hid htm
  have HMIN := Lib.hid (show o.mem.take q = tm by
    rw [← htm]
    by_cases hc : o.mem.length ≤ 20
    · rw [List.take_of_length_le (by omega), List.take_of_length_le hc]
    · rw [show q = 20 by omega])
  have HT := Lib.hid (show tm.length ≤ 20 by rw [← htm, List.length_take]; omega)
  have HQ := Lib.hid hq
  have HC3 := Lib.hid c3
  have HC4 := Lib.hid c4
  clear ho m3 c3 c4 hq htm
  go_enter Try.func27, Try.ntmps27
  go_upto_region 1 with (fail)
  obtain ⟨W, hLW⟩ : ∃ W, (w.alloc (.cells #[.int .i64 o.how, .int .i32 o.val, .slice Am o.mem.length am, .slice Ac o.calls.length ac, .int .i64 o.steps] 45)).alloc (.cells #[.int .i64 0, .int .i32 0, .slice none 0 0, .slice none 0 0, .int .i64 0] 45) = W := ⟨_, rfl⟩
  rw [hLW]
  have hMW : laid w [([.int .i64 o.how, .int .i32 o.val, .slice Am o.mem.length am, .slice Ac o.calls.length ac, .int .i64 o.steps], 45), ([.int .i64 0, .int .i32 0, .slice none 0 0, .slice none 0 0, .int .i64 0], 45)] = W := hLW
  have hbW : Below w.heap.size w W := by rw [← hMW]; exact laid_below _ _ _ (Nat.le_refl _)
  have s0 : Str W (w.heap.size) 45 [.int .i64 o.how, .int .i32 o.val, .slice Am o.mem.length am, .slice Ac o.calls.length ac, .int .i64 o.steps] := by rw [← hMW]; exact laid_at _ w 0 _ _ rfl
  have s1 : Str W (w.heap.size + 1) 45 [.int .i64 0, .int .i32 0, .slice none 0 0, .slice none 0 0, .int .i64 0] := by rw [← hMW]; exact laid_at _ w 1 _ _ rfl
  have hzW : W.heap.size = w.heap.size + 2 := by rw [← hMW]; exact laid_size _ _
  clear hLW hMW
  have HOW := Lib.hid (HO.out.below hbW)
  have HBW := Lib.hid hbW
  have HS0 := Lib.hid s0
  have HS1 := Lib.hid s1
  have q0 : W.cell? ⟨w.heap.size, 0, none⟩ = some (.int .i64 o.how) := s0.cell 0
  have q1 : W.cell? ⟨w.heap.size, 1, none⟩ = some (.int .i32 o.val) := s0.cell 1
  have q2 : W.cell? ⟨w.heap.size, 2, none⟩ = some (.slice Am o.mem.length am) := s0.cell 2
  have q4 : W.cell? ⟨w.heap.size, 4, none⟩ = some (.int .i64 o.steps) := s0.cell 4
  have hzl : w.heap.size + 1 < W.heap.size := s1.lt
  clear hbW s0 s1 hzW
  go_cut [3] (fun s3 wx => ∃ (xb : Nat) (mA : Option Addr) (mc : Nat), s3 = .pointer (some ⟨xb, 0, none⟩) ∧ Str wx xb 45 [.int .i64 o.how, .int .i32 o.val, .slice mA tm.length mc, .slice none 0 0, .int .i64 o.steps] ∧ OwnWords W.heap.size wx (.slice mA tm.length mc) tm ∧ Below W.heap.size W wx ∧ W.heap.size ≤ xb)
  case first =>
    have hq := HQ.out
    refine region_heldR_wp (fun w' => w'.cell? ⟨w.heap.size, 0, none⟩ = some (.int .i64 o.how) ∧ w'.cell? ⟨w.heap.size, 1, none⟩ = some (.int .i32 o.val) ∧ w'.cell? ⟨w.heap.size, 2, none⟩ = some (.slice Am o.mem.length am) ∧ w'.cell? ⟨w.heap.size, 4, none⟩ = some (.int .i64 o.steps)) [0, 1, 2, 3, 4, 5, 7, 8, 9, 10, 11, 12, 13, 15] (.step 0 (.step 1 (.step 2 (.step 3 (.step 4 (.step 5 (.step 7 (.step 8 (.step 9 (.step 10 (.step 11 (.step 12 (.step 13 (.fork 6 16 (.fork 14 16 (.step 15 (.step 16 (.step 17 .done))) (.step 14 (.step 15 (.step 17 .done)))) (.step 6 (.step 14 (.step 15 (.step 17 .done)))))))))))))))))) (by kernel_rfl) (by kernel_rfl) (by kernel_rfl) rfl (by intro c a d v w h; cases d <;> exact h) ⟨q0, q1, q2, q4⟩ ?_
    refine walkR_still _ ?t0 rfl rfl rfl ?ty0 ?_
    case ty0 => intro w hS; go_simp; first | done | with_reducible rfl
    simp only [Act.put]
    refine walkR_still _ ?t1 rfl rfl rfl ?ty1 ?_
    case ty1 => intro w hS; go_simp; first | done | with_reducible rfl
    simp only [Act.put]
    refine walkR_still _ ?t2 rfl rfl rfl ?ty2 ?_
    case ty2 => intro w hS; go_simp; first | done | with_reducible rfl
    simp only [Act.put]
    refine walkR_still _ ?t3 rfl rfl rfl ?ty3 ?_
    case ty3 => intro w hS; go_simp; first | done | with_reducible rfl
    simp only [Act.put]
    refine walkR_still _ ?t4 rfl rfl rfl ?ty4 ?_
    case ty4 => intro w hS; go_simp; first | done | with_reducible rfl
    simp only [Act.put]
    refine walkR_still _ ?t5 rfl rfl rfl ?ty5 ?_
    case ty5 => intro w hS; go_simp; first | done | with_reducible rfl
    simp only [Act.put]
    refine walkR_still _ ?t7 rfl rfl rfl ?ty7 ?_
    case ty7 => intro w hS; go_simp; first | done | with_reducible rfl
    simp only [Act.put]
    refine walkR_still _ ?t8 rfl rfl rfl ?ty8 ?_
    case ty8 => intro w hS; go_simp; first | done | with_reducible rfl
    simp only [Act.put]
    refine walkR_still _ ?t9 rfl rfl rfl ?ty9 ?_
    case ty9 => intro w hS; go_simp; first | done | with_reducible rfl
    simp only [Act.put]
    refine walkR_still _ ?t10 rfl rfl rfl ?ty10 ?_
    case ty10 => intro w hS; go_simp; first | done | with_reducible rfl
    simp only [Act.put]
    refine walkR_still _ ?t11 rfl rfl rfl ?ty11 ?_
    case ty11 => intro w hS; go_simp; first | done | with_reducible rfl
    simp only [Act.put]
    refine walkR_still _ (.int .i64 q) rfl rfl rfl ?ty12 ?_
    case ty12 => intro w hS; go_simp; first | done | with_reducible rfl
    simp only [Act.put]
    refine walkR_still _ ?t13 rfl rfl rfl ?ty13 ?_
    case ty13 => intro w hS; go_simp; first | done | with_reducible rfl
    simp only [Act.put]
    try simp only [List.setIfInBounds_toArray, List.set_cons_zero, List.set_cons_succ]
    clear hq
    refine walkR_fork _ _ rfl rfl ?fa ?fb
    case fa =>
      go_wp2
      obtain ⟨W2, hW2⟩ : ∃ V, (W.alloc (.cells #[] 21)).drew = V := ⟨_, rfl⟩
      rw [hW2]
      have hbW2 : Below W.heap.size W W2 := by rw [← hW2]; exact ((Below.refl _ _).alloc (Nat.le_refl _) _).drew
      have eW2 : Str W2 W.heap.size 21 [] := by rw [← hW2]; exact World.alloc_heap_new W _
      clear hW2
      have q02 := cell_keep hbW2 (Nat.le_refl _) q0
      have q12 := cell_keep hbW2 (Nat.le_refl _) q1
      have q22 := cell_keep hbW2 (Nat.le_refl _) q2
      have q42 := cell_keep hbW2 (Nat.le_refl _) q4
      have h0 : W2.ownsRow W.heap.size 21 1 (.slice (some ⟨W.heap.size, 0, none⟩) 0 0) 0 [] := ⟨by simp, Or.inr ⟨W.heap.size, 0, #[], rfl, Nat.le_refl _, eW2, by omega, by unfold maxLen; omega, by simp, by simp⟩⟩
      refine behindR ⟨q02, q12, q22, q42⟩ ?_
      try simp only [List.setIfInBounds_toArray, List.set_cons_zero, List.set_cons_succ]
      refine walkR_fork _ _ rfl rfl ?ga ?gb
      case ga =>
        refine wpList_own0 rfl _ _ rfl rfl W.heap.size _ tm rfl h0 (by rw [← HMIN.out]; exact (HOW.out.mem.below (hbW2)).take q hq1) (by have := HT.out; omega) (by have := (hbW2).size; omega) ?_
        intro vw w5 ho hg
        have hb5 : Below W.heap.size W w5 := (hbW2).trans ⟨hg.os, hg.tape, hg.output, hg.size, fun j hj => hg.block j (Nat.lt_of_lt_of_le hj (hbW2).size) (fun e => by injection e with e; have e : j = W.heap.size := e; omega)⟩
        have q05 := cell_keep hb5 (Nat.le_refl _) q0
        have q15 := cell_keep hb5 (Nat.le_refl _) q1
        have q25 := cell_keep hb5 (Nat.le_refl _) q2
        have q45 := cell_keep hb5 (Nat.le_refl _) q4
        obtain ⟨vA, vc, rfl⟩ := own_form ho
        refine wpList_nil (behindR ⟨q05, q15, q25, q45⟩ ?_)
        refine walkR_still _ ?r15 rfl rfl rfl ?ry15 ?_
        case ry15 => intro w hS; go_simp; first | done | with_reducible rfl
        simp only [Act.put]
        try simp only [List.setIfInBounds_toArray, List.set_cons_zero, List.set_cons_succ]
        refine walkR_does _ rfl rfl ?_
        go_wp2
        obtain ⟨W8, hW8⟩ : ∃ V, w5.alloc (.cells #[.int .i64 0, .int .i32 0, .slice none 0 0, .slice none 0 0, .int .i64 0] 45) = V := ⟨_, rfl⟩
        rw [hW8]
        have hbW8 : Below w5.heap.size w5 W8 := by rw [← hW8]; exact (Below.refl _ _).alloc (Nat.le_refl _) _
        have xW8 : Str W8 w5.heap.size 45 [.int .i64 0, .int .i32 0, .slice none 0 0, .slice none 0 0, .int .i64 0] := by rw [← hW8]; exact World.alloc_heap_new w5 _
        clear hW8
        have q08 := cell_keep hbW8 (Nat.le_refl _) q05
        have q18 := cell_keep hbW8 (Nat.le_refl _) q15
        have q28 := cell_keep hbW8 (Nat.le_refl _) q25
        have q48 := cell_keep hbW8 (Nat.le_refl _) q45
        refine behindR ⟨q08, q18, q28, q48⟩ ?_
        have z0 := (xW8).cell 0
        have y0 := (xW8).frozen 0
        have z1 := (xW8).cell 1
        have y1 := (xW8).frozen 1
        have z2 := (xW8).cell 2
        have y2 := (xW8).frozen 2
        have z3 := (xW8).cell 3
        have y3 := (xW8).frozen 3
        have z4 := (xW8).cell 4
        have y4 := (xW8).frozen 4
        have HST := Lib.hid (xW8)
        have HBE := Lib.hid (hb5.trans (hbW8.mono hb5.size))
        have HOW5 := Lib.hid (show OwnWords W.heap.size _ (.slice vA tm.length vc) tm from OwnWords.below ho hbW8)
        try simp only [List.setIfInBounds_toArray, List.set_cons_zero, List.set_cons_succ]
        refine walkR_does _ rfl rfl ?_
        go_wp2
        obtain ⟨f1, f2⟩ := five_setO HST.out (.int .i64 o.how) (.int .i32 o.val) (.slice vA tm.length vc) (.slice none 0 0) (.int .i64 o.steps)
        have HF1 := Lib.hid f1
        have HF2 := Lib.hid f2
        clear f1 f2 z0 z1 z2 z3 z4 y0 y1 y2 y3 y4
        refine behindR ⟨HF2.out.cell q08 (by show w.heap.size ≠ w5.heap.size; have := hb5.size; omega), HF2.out.cell q18 (by show w.heap.size ≠ w5.heap.size; have := hb5.size; omega), HF2.out.cell q28 (by show w.heap.size ≠ w5.heap.size; have := hb5.size; omega), HF2.out.cell q48 (by show w.heap.size ≠ w5.heap.size; have := hb5.size; omega)⟩ (walkR_done ?_)
        go_wp2_with fail
        go_meet
        exact ⟨_, vA, vc, rfl, HF1.out, World.ownsRow.kept HOW5.out (grown_of_but HF2.out) (Or.inr (fun e => HST.out.not_row (by decide) HOW5.out e.symm)), HBE.out.trans (below_of_but HF2.out (by have := hb5.size; omega) HBE.out.size), by have := hb5.size; omega⟩
      case gb =>
        go_wp2
        obtain ⟨W3, hW3⟩ : ∃ V, W2.alloc (.cells #[.int .i64 0, .int .i32 0, .slice none 0 0, .slice none 0 0, .int .i64 0] 45) = V := ⟨_, rfl⟩
        rw [hW3]
        have hbW3 : Below W2.heap.size W2 W3 := by rw [← hW3]; exact (Below.refl _ _).alloc (Nat.le_refl _) _
        have xW3 : Str W3 W2.heap.size 45 [.int .i64 0, .int .i32 0, .slice none 0 0, .slice none 0 0, .int .i64 0] := by rw [← hW3]; exact World.alloc_heap_new W2 _
        clear hW3
        have q03 := cell_keep hbW3 (Nat.le_refl _) q02
        have q13 := cell_keep hbW3 (Nat.le_refl _) q12
        have q23 := cell_keep hbW3 (Nat.le_refl _) q22
        have q43 := cell_keep hbW3 (Nat.le_refl _) q42
        have h03 := own_below h0 hbW3
        have hb23 := hbW2.trans (hbW3.mono hbW2.size)
        refine behindR ⟨q03, q13, q23, q43⟩ ?_
        try simp only [List.setIfInBounds_toArray, List.set_cons_zero, List.set_cons_succ]
        refine walkR_does _ rfl rfl ?_
        refine wpList_own0 rfl _ _ rfl rfl W.heap.size _ tm rfl h03 (by rw [← HMIN.out]; exact (HOW.out.mem.below (hb23)).take q hq1) (by have := HT.out; omega) (by have := (hb23).size; omega) ?_
        intro vw w5 ho hg
        have hb5 : Below W.heap.size W w5 := (hb23).trans ⟨hg.os, hg.tape, hg.output, hg.size, fun j hj => hg.block j (Nat.lt_of_lt_of_le hj (hb23).size) (fun e => by injection e with e; have e : j = W.heap.size := e; omega)⟩
        have q05 := cell_keep hb5 (Nat.le_refl _) q0
        have q15 := cell_keep hb5 (Nat.le_refl _) q1
        have q25 := cell_keep hb5 (Nat.le_refl _) q2
        have q45 := cell_keep hb5 (Nat.le_refl _) q4
        obtain ⟨vA, vc, rfl⟩ := own_form ho
        refine wpList_nil (behindR ⟨q05, q15, q25, q45⟩ ?_)
        refine walkR_still _ ?s15 rfl rfl rfl ?sy15 ?_
        case sy15 => intro w hS; go_simp; first | done | with_reducible rfl
        simp only [Act.put]
        have hx5 : Str w5 W2.heap.size 45 [.int .i64 0, .int .i32 0, .slice none 0 0, .slice none 0 0, .int .i64 0] := xW3.kept hg (fun e => by injection e with e; have e : W2.heap.size = W.heap.size := e; have := eW2.lt; omega)
        have z0 := (hx5).cell 0
        have y0 := (hx5).frozen 0
        have z1 := (hx5).cell 1
        have y1 := (hx5).frozen 1
        have z2 := (hx5).cell 2
        have y2 := (hx5).frozen 2
        have z3 := (hx5).cell 3
        have y3 := (hx5).frozen 3
        have z4 := (hx5).cell 4
        have y4 := (hx5).frozen 4
        have HST := Lib.hid (hx5)
        have HBE := Lib.hid (hb5)
        have HOW5 := Lib.hid (show OwnWords W.heap.size _ (.slice vA tm.length vc) tm from ho)
        try simp only [List.setIfInBounds_toArray, List.set_cons_zero, List.set_cons_succ]
        refine walkR_does _ rfl rfl ?_
        go_wp2
        obtain ⟨f1, f2⟩ := five_setO HST.out (.int .i64 o.how) (.int .i32 o.val) (.slice vA tm.length vc) (.slice none 0 0) (.int .i64 o.steps)
        have HF1 := Lib.hid f1
        have HF2 := Lib.hid f2
        clear f1 f2 z0 z1 z2 z3 z4 y0 y1 y2 y3 y4
        refine behindR ⟨HF2.out.cell q05 (by show w.heap.size ≠ W2.heap.size; have := hbW2.size; omega), HF2.out.cell q15 (by show w.heap.size ≠ W2.heap.size; have := hbW2.size; omega), HF2.out.cell q25 (by show w.heap.size ≠ W2.heap.size; have := hbW2.size; omega), HF2.out.cell q45 (by show w.heap.size ≠ W2.heap.size; have := hbW2.size; omega)⟩ (walkR_done ?_)
        go_wp2_with fail
        go_meet
        exact ⟨_, vA, vc, rfl, HF1.out, World.ownsRow.kept HOW5.out (grown_of_but HF2.out) (Or.inr (fun e => HST.out.not_row (by decide) HOW5.out e.symm)), HBE.out.trans (below_of_but HF2.out (by have := hbW2.size; omega) HBE.out.size), by have := hbW2.size; omega⟩
    case fb =>
      go_wp2
      obtain ⟨W2, hW2⟩ : ∃ V, (W.alloc (.cells #[.int .i64 0, .int .i32 0, .slice none 0 0, .slice none 0 0, .int .i64 0] 45)).drew = V := ⟨_, rfl⟩
      rw [hW2]
      have hbW2 : Below W.heap.size W W2 := by rw [← hW2]; exact ((Below.refl _ _).alloc (Nat.le_refl _) _).drew
      have xW2 : Str W2 W.heap.size 45 [.int .i64 0, .int .i32 0, .slice none 0 0, .slice none 0 0, .int .i64 0] := by rw [← hW2]; exact World.alloc_heap_new W _
      clear hW2
      have q02 := cell_keep hbW2 (Nat.le_refl _) q0
      have q12 := cell_keep hbW2 (Nat.le_refl _) q1
      have q22 := cell_keep hbW2 (Nat.le_refl _) q2
      have q42 := cell_keep hbW2 (Nat.le_refl _) q4
      refine behindR ⟨q02, q12, q22, q42⟩ ?_
      try simp only [List.setIfInBounds_toArray, List.set_cons_zero, List.set_cons_succ]
      refine walkR_does _ rfl rfl ?_
      go_wp2
      obtain ⟨W3, hW3⟩ : ∃ V, W2.alloc (.cells #[] 21) = V := ⟨_, rfl⟩
      rw [hW3]
      have hbW3 : Below W2.heap.size W2 W3 := by rw [← hW3]; exact (Below.refl _ _).alloc (Nat.le_refl _) _
      have eW3 : Str W3 W2.heap.size 21 [] := by rw [← hW3]; exact World.alloc_heap_new W2 _
      clear hW3
      have q03 := cell_keep hbW3 (Nat.le_refl _) q02
      have q13 := cell_keep hbW3 (Nat.le_refl _) q12
      have q23 := cell_keep hbW3 (Nat.le_refl _) q22
      have q43 := cell_keep hbW3 (Nat.le_refl _) q42
      have hb23 := hbW2.trans (hbW3.mono hbW2.size)
      have h0 : W3.ownsRow W.heap.size 21 1 (.slice (some ⟨W2.heap.size, 0, none⟩) 0 0) 0 [] := ⟨by simp, Or.inr ⟨W2.heap.size, 0, #[], rfl, hbW2.size, eW3, by omega, by unfold maxLen; omega, by simp, by simp⟩⟩
      refine behindR ⟨q03, q13, q23, q43⟩ ?_
      try simp only [List.setIfInBounds_toArray, List.set_cons_zero, List.set_cons_succ]
      refine walkR_does _ rfl rfl ?_
      refine wpList_own0 rfl _ _ rfl rfl W.heap.size _ tm rfl h0 (by rw [← HMIN.out]; exact (HOW.out.mem.below (hb23)).take q hq1) (by have := HT.out; omega) (by have := (hb23).size; omega) ?_
      intro vw w5 ho hg
      have hb5 : Below W.heap.size W w5 := (hb23).trans ⟨hg.os, hg.tape, hg.output, hg.size, fun j hj => hg.block j (Nat.lt_of_lt_of_le hj (hb23).size) (fun e => by injection e with e; have e : j = W2.heap.size := e; have := hbW2.size; omega)⟩
      have q05 := cell_keep hb5 (Nat.le_refl _) q0
      have q15 := cell_keep hb5 (Nat.le_refl _) q1
      have q25 := cell_keep hb5 (Nat.le_refl _) q2
      have q45 := cell_keep hb5 (Nat.le_refl _) q4
      obtain ⟨vA, vc, rfl⟩ := own_form ho
      refine wpList_nil (behindR ⟨q05, q15, q25, q45⟩ ?_)
      refine walkR_still _ ?v15 rfl rfl rfl ?vy15 ?_
      case vy15 => intro w hS; go_simp; first | done | with_reducible rfl
      simp only [Act.put]
      have hlx := xW2.lt
      have hx5 : Str w5 W.heap.size 45 [.int .i64 0, .int .i32 0, .slice none 0 0, .slice none 0 0, .int .i64 0] := (xW2.below hbW3).kept hg (fun e => by injection e with e; have e : W.heap.size = W2.heap.size := e; omega)
      have z0 := (hx5).cell 0
      have y0 := (hx5).frozen 0
      have z1 := (hx5).cell 1
      have y1 := (hx5).frozen 1
      have z2 := (hx5).cell 2
      have y2 := (hx5).frozen 2
      have z3 := (hx5).cell 3
      have y3 := (hx5).frozen 3
      have z4 := (hx5).cell 4
      have y4 := (hx5).frozen 4
      have HST := Lib.hid (hx5)
      have HBE := Lib.hid (hb5)
      have HOW5 := Lib.hid (show OwnWords W.heap.size _ (.slice vA tm.length vc) tm from ho)
      try simp only [List.setIfInBounds_toArray, List.set_cons_zero, List.set_cons_succ]
      refine walkR_does _ rfl rfl ?_
      go_wp2
      obtain ⟨f1, f2⟩ := five_setO HST.out (.int .i64 o.how) (.int .i32 o.val) (.slice vA tm.length vc) (.slice none 0 0) (.int .i64 o.steps)
      have HF1 := Lib.hid f1
      have HF2 := Lib.hid f2
      clear f1 f2 z0 z1 z2 z3 z4 y0 y1 y2 y3 y4
      refine behindR ⟨HF2.out.cell q05 (by show w.heap.size ≠ W.heap.size; omega), HF2.out.cell q15 (by show w.heap.size ≠ W.heap.size; omega), HF2.out.cell q25 (by show w.heap.size ≠ W.heap.size; omega), HF2.out.cell q45 (by show w.heap.size ≠ W.heap.size; omega)⟩ (walkR_done ?_)
      go_wp2_with fail
      go_meet
      exact ⟨_, vA, vc, rfl, HF1.out, World.ownsRow.kept HOW5.out (grown_of_but HF2.out) (Or.inr (fun e => HST.out.not_row (by decide) HOW5.out e.symm)), HBE.out.trans (below_of_but HF2.out (by omega) HBE.out.size), by omega⟩
  case rest =>
    obtain ⟨xb, mA, mc, rfl, hx, hm, hbx, hxw⟩ := hcut
    have HX := Lib.hid hx
    have HM := Lib.hid hm
    have HBX := Lib.hid hbx
    clear hx hm hbx q0 q1 q2 q4
    obtain ⟨i0, hi, hz0, hz1, hz2⟩ := info_parts info_event
    have HI0 := Lib.hid hi
    have HZ0 := Lib.hid hz0
    have HZ1 := Lib.hid hz1
    have HZ2 := Lib.hid hz2
    clear hi hz0 hz1 hz2
    go_wp2_with fail
    go_loopw [4] (fun i wr => ∃ (k : Nat) (cA : Option Addr) (cc : Nat), k ≤ o.calls.length ∧ k ≤ 10 ∧ i = .int .i64 k ∧ Str wr xb 45 [.int .i64 o.how, .int .i32 o.val, .slice mA tm.length mc, .slice cA k cc, .int .i64 o.steps] ∧ OwnWords W.heap.size wr (.slice mA tm.length mc) tm ∧
      EventsAt W.heap.size wr (.slice cA k cc) ((o.calls.take k).map cutEv) (fun g => g = xb ∨ (Value.slice mA tm.length mc).ownBlock = some g) ∧ Below W.heap.size W wr) (fun i _ => 10 - (intOf i).toNat)
    case atStart => exact ⟨0, none, 0, by omega, by omega, rfl, HX.out, HM.out, EventsAt.nil _ _ _, HBX.out⟩
    case round =>
      obtain ⟨k, cA, cc, hk, hk10, rfl, hx, hm, hev, hb⟩ := hrel
      obtain ⟨wo, rfl⟩ : ∃ wo : World, wo = wr := ⟨_, rfl⟩
      have HXo := Lib.hid hx
      have HMo := Lib.hid hm
      have HEo := Lib.hid hev
      have HBo := Lib.hid hb
      have hzo := hb.size
      have hxl := hx.lt
      have x3 : wo.cell? ⟨xb, 3, none⟩ = some (.slice cA k cc) := hx.cell 3
      have p3 : wo.cell? ⟨w.heap.size, 3, none⟩ = some (.slice Ac o.calls.length ac) := (HS0.out.below hb).cell 3
      have hbw : Below w.heap.size w wo := HBW.out.trans (hb.mono HBW.out.size)
      clear hx hm hev hb
      by_cases hlt : k < o.calls.length ∧ k < 10
      · obtain ⟨hl1, hl2⟩ := hlt
        obtain rfl := HC3.out (by omega)
        obtain ⟨x0, u, x1, hu⟩ := EvAt.keep_to (HC4.out k hl1) hbw
        have hcb : cb < w.heap.size := lt_of_cell (HC4.out k hl1).1
        have HTK := Lib.hid (show (o.calls.take (k + 1)).map cutEv = (o.calls.take k).map cutEv ++ [cutEv o.calls[k]] by rw [List.take_succ_eq_append_getElem hl1, List.map_append]; rfl)
        generalize o.calls[k] = ev at *
        obtain ⟨c, lc⟩ := ev
        simp only at x0 hu
        obtain ⟨uA, uc, rfl, u1, u2, u3⟩ := id hu
        unfold maxLen at u2
        obtain ⟨r, hr⟩ : ∃ r : Nat, min (lc.length : Int) 6 = r := ⟨(min (lc.length : Int) 6).toNat, by omega⟩
        have hr1 : r ≤ lc.length := by omega
        have hr2 : (r : Int) ≤ uc := by omega
        obtain ⟨tl, htl⟩ : ∃ tl, lc.take 6 = tl := ⟨_, rfl⟩
        have HRT := Lib.hid (show lc.take r = tl by
          rw [← htl]
          by_cases hc : lc.length ≤ 6
          · rw [List.take_of_length_le (by omega), List.take_of_length_le hc]
          · rw [show r = 6 by omega])
        have HTL := Lib.hid (show tl.length ≤ 6 by rw [← htl, List.length_take]; omega)
        have HCE := Lib.hid (show cutEv (c, lc) = (c, tl) by rw [← htl]; rfl)
        have HU := Lib.hid hu
        obtain ⟨es, h1, h2, h3⟩ := HEo.out
        have hel : ((o.calls.take k).map cutEv).length = k := by rw [List.length_map, List.length_take]; omega
        rw [hel] at h1
        have H1 := Lib.hid h1
        have H2 := Lib.hid h2
        have H3 := Lib.hid h3
        have HEL := Lib.hid hel
        clear hu u1 u3 htl h1 h2 h3 hel hbw
        go_wp2_with fail
        refine region_heldT_wp (fun w' => w'.cell? ⟨xb, 3, none⟩ = some (.slice cA k cc) ∧ w'.cell? ⟨w.heap.size, 3, none⟩ = some (.slice (some ⟨cb, co, none⟩) o.calls.length ac) ∧ w'.cell? ⟨cb, co + k * 2, none⟩ = some (.int .i32 c) ∧ w'.cell? ⟨cb, co + k * 2 + 1, none⟩ = some (.slice uA lc.length uc)) [0, 1, 2, 3, 4, 5, 6, 7, 9, 10, 11, 12, 13, 14, 15, 16, 17, 18, 19, 20, 21, 22, 23, 25, 28] [0, 1, 2, 3, 4, 5, 6, 7, 9, 10, 11, 12, 13, 14, 15, 16, 17, 18, 19, 20, 21, 22, 23, 8, 24, 25, 26, 27, 28, 29] 29 (by kernel_rfl) (by kernel_rfl) (by kernel_rfl) (by kernel_rfl) rfl (by intro c a d v w h; cases d <;> exact h) ⟨x3, p3, x0, x1⟩ ?_
        refine walkH_still _ ?h0 rfl rfl rfl ?hy0 ?_
        case hy0 => intro w hS; go_simp; first | done | with_reducible rfl
        simp only [Act.put]
        refine walkH_still _ ?h1 rfl rfl rfl ?hy1 ?_
        case hy1 => intro w hS; go_simp; first | done | with_reducible rfl
        simp only [Act.put]
        refine walkH_still _ ?h2 rfl rfl rfl ?hy2 ?_
        case hy2 => intro w hS; go_simp; first | done | with_reducible rfl
        simp only [Act.put]
        refine walkH_still _ ?h3 rfl rfl rfl ?hy3 ?_
        case hy3 => intro w hS; go_simp; first | done | with_reducible rfl
        simp only [Act.put]
        refine walkH_still _ ?h4 rfl rfl rfl ?hy4 ?_
        case hy4 => intro w hS; go_simp; first | done | with_reducible rfl
        simp only [Act.put]
        refine walkH_still _ ?h5 rfl rfl rfl ?hy5 ?_
        case hy5 => intro w hS; go_simp; first | done | with_reducible rfl
        simp only [Act.put]
        refine walkH_still _ ?h6 rfl rfl rfl ?hy6 ?_
        case hy6 => intro w hS; go_simp; first | done | with_reducible rfl
        simp only [Act.put]
        refine walkH_still _ ?h7 rfl rfl rfl ?hy7 ?_
        case hy7 => intro w hS; go_simp; first | done | with_reducible rfl
        simp only [Act.put]
        refine walkH_still _ ?h9 rfl rfl rfl ?hy9 ?_
        case hy9 => intro w hS; go_simp; first | done | with_reducible rfl
        simp only [Act.put]
        refine walkH_still _ ?h10 rfl rfl rfl ?hy10 ?_
        case hy10 => intro w hS; go_simp; first | done | with_reducible rfl
        simp only [Act.put]
        refine walkH_still _ ?h11 rfl rfl rfl ?hy11 ?_
        case hy11 => intro w hS; go_simp; first | done | with_reducible rfl
        simp only [Act.put]
        refine walkH_still _ ?h12 rfl rfl rfl ?hy12 ?_
        case hy12 => intro w hS; go_simp; first | done | with_reducible rfl
        simp only [Act.put]
        refine walkH_still _ ?h13 rfl rfl rfl ?hy13 ?_
        case hy13 => intro w hS; go_simp; first | done | with_reducible rfl
        simp only [Act.put]
        refine walkH_still _ ?h14 rfl rfl rfl ?hy14 ?_
        case hy14 => intro w hS; go_simp; first | done | with_reducible rfl
        simp only [Act.put]
        refine walkH_still _ ?h15 rfl rfl rfl ?hy15 ?_
        case hy15 => intro w hS; go_simp; first | done | with_reducible rfl
        simp only [Act.put]
        refine walkH_still _ ?h16 rfl rfl rfl ?hy16 ?_
        case hy16 => intro w hS; go_simp; first | done | with_reducible rfl
        simp only [Act.put]
        refine walkH_still _ ?h17 rfl rfl rfl ?hy17 ?_
        case hy17 => intro w hS; go_simp; first | done | with_reducible rfl
        simp only [Act.put]
        refine walkH_still _ ?h18 rfl rfl rfl ?hy18 ?_
        case hy18 => intro w hS; go_simp; first | done | with_reducible rfl
        simp only [Act.put]
        refine walkH_still _ ?h19 rfl rfl rfl ?hy19 ?_
        case hy19 => intro w hS; go_simp; first | done | with_reducible rfl
        simp only [Act.put]
        refine walkH_still _ ?h20 rfl rfl rfl ?hy20 ?_
        case hy20 => intro w hS; go_simp; first | done | with_reducible rfl
        simp only [Act.put]
        refine walkH_still _ ?h21 rfl rfl rfl ?hy21 ?_
        case hy21 => intro w hS; go_simp; first | done | with_reducible rfl
        simp only [Act.put]
        refine walkH_still _ (.int .i64 r) rfl rfl rfl ?hy22 ?_
        case hy22 => intro w hS; go_simp; first | done | with_reducible rfl
        simp only [Act.put]
        refine walkH_still _ ?h23 rfl rfl rfl ?hy23 ?_
        case hy23 => intro w hS; go_simp; first | done | with_reducible rfl
        simp only [Act.put]
        try simp only [List.setIfInBounds_toArray, List.set_cons_zero, List.set_cons_succ]
        refine walkHd _ rfl rfl ?_
        go_wp2
        obtain ⟨W2, hW2⟩ : ∃ V, (wo.alloc (.cells #[] 21)).drew = V := ⟨_, rfl⟩
        rw [hW2]
        have hbW2 : Below wo.heap.size wo W2 := by rw [← hW2]; exact ((Below.refl _ _).alloc (Nat.le_refl _) _).drew
        have eW2 : Str W2 wo.heap.size 21 [] := by rw [← hW2]; exact World.alloc_heap_new wo _
        clear hW2
        clear hr
        have h0 : W2.ownsRow wo.heap.size 21 1 (.slice (some ⟨wo.heap.size, 0, none⟩) 0 0) 0 [] := ⟨by simp, Or.inr ⟨wo.heap.size, 0, #[], rfl, Nat.le_refl _, eW2, by omega, by unfold maxLen; omega, by simp, by simp⟩⟩
        refine behindH (Or.inl ⟨cell_keep hbW2 (Nat.le_refl _) x3, cell_keep hbW2 (Nat.le_refl _) p3, cell_keep hbW2 (Nat.le_refl _) x0, cell_keep hbW2 (Nat.le_refl _) x1⟩) ?_
        try simp only [List.setIfInBounds_toArray, List.set_cons_zero, List.set_cons_succ]
        refine walkHd _ rfl rfl ?_
        refine wpList_own0 rfl _ _ rfl rfl wo.heap.size _ tl rfl h0 (by rw [← HRT.out]; exact (HU.out.below hbW2).take r hr1) (by have := HTL.out; omega) hbW2.size ?_
        intro va w3 ho3 hg3
        have hb3 : Below wo.heap.size wo w3 := hbW2.trans ⟨hg3.os, hg3.tape, hg3.output, hg3.size, fun j hj => hg3.block j (Nat.lt_of_lt_of_le hj hbW2.size) (fun e => by injection e with e; have e : j = wo.heap.size := e; omega)⟩
        obtain ⟨vA, vc, rfl⟩ := own_form ho3
        have x33 := cell_keep hb3 (Nat.le_refl _) x3
        have p33 := cell_keep hb3 (Nat.le_refl _) p3
        have x03 := cell_keep hb3 (Nat.le_refl _) x0
        have x13 := cell_keep hb3 (Nat.le_refl _) x1
        have HV3 := Lib.hid (show OwnWords wo.heap.size w3 (.slice vA tl.length vc) tl from ho3)
        have HB3 := Lib.hid hb3
        have hz3 := hb3.size
        clear ho3 hg3 hb3 h0 eW2 hbW2
        refine wpList_nil (behindH (Or.inl ⟨x33, p33, x03, x13⟩) ?_)
        refine walkH_still _ ?k25 rfl rfl rfl ?ky25 ?_
        case ky25 => intro w hS; go_simp; first | done | with_reducible rfl
        simp only [Act.put]
        try simp only [List.setIfInBounds_toArray, List.set_cons_zero, List.set_cons_succ]
        refine walkHd _ rfl rfl ?_
        go_wp2
        obtain ⟨W4, hW4⟩ : ∃ V, w3.alloc (.cells #[.int .i32 c, .slice vA tl.length vc] 67) = V := ⟨_, rfl⟩
        rw [hW4]
        have hbW4 : Below w3.heap.size w3 W4 := by rw [← hW4]; exact (Below.refl _ _).alloc (Nat.le_refl _) _
        have sW4 : Str W4 w3.heap.size 67 [.int .i32 c, .slice vA tl.length vc] := by rw [← hW4]; exact World.alloc_heap_new w3 _
        clear hW4
        have x34 := cell_keep hbW4 (Nat.le_refl _) x33
        have p34 := cell_keep hbW4 (Nat.le_refl _) p33
        have x04 := cell_keep hbW4 (Nat.le_refl _) x03
        have x14 := cell_keep hbW4 (Nat.le_refl _) x13
        have HB4 := Lib.hid (HB3.out.trans (hbW4.mono hz3))
        have HV4 := Lib.hid (HV3.out.below hbW4)
        have HS4 := Lib.hid sW4
        have hz4 := Nat.le_trans hz3 hbW4.size
        clear hbW4 sW4
        refine behindH (Or.inl ⟨x34, p34, x04, x14⟩) ?_
        try simp only [List.setIfInBounds_toArray, List.set_cons_zero, List.set_cons_succ]
        refine walkHd _ rfl rfl ?_
        refine wpList_appendM rfl _ _ _ rfl W.heap.size 67 i0 (.agg #[.int .i32 0, .slice none 0 0]) 2 32 Try.underlying43 HI0.out HZ0.out HZ1.out HZ2.out rfl (by decide) (.slice cA k cc) k es rfl (own_below H1.out HB4.out) ⟨w3.heap.size, 0, none⟩ [.int .i32 c, .slice vA tl.length vc] rfl rfl ?news ?one (by omega) (by omega) (by omega) ?_
        case news =>
          intro j u hj
          rw [at_add0, HS4.out.cell j]
          exact hj
        case one =>
          intro u hu
          simp only [List.mem_cons, List.not_mem_nil, or_false] at hu
          rcases hu with rfl | rfl <;> rfl
        intro v5 w5 hr5 hg5 hm5
        obtain ⟨rA, rc, rfl⟩ := own_form hr5
        have hrow4 := own_below H1.out HB4.out
        have hx4 := HXo.out.below HB4.out
        have hx5 := hx4.kept hg5 (hx4.not_row (by decide) hrow4)
        have hlo : ∀ (j : Nat), j < W.heap.size → some j ≠ (Value.slice cA k cc).ownBlock := fun j hj e => by have := (hrow4.lt j e.symm).1; omega
        have x35 : w5.cell? ⟨xb, 3, none⟩ = some (.slice cA k cc) := hx5.cell 3
        have y35 := hx5.frozen 3
        have p35 := hg5.cell p34 (hlo _ (by show w.heap.size < W.heap.size; omega))
        have x05 := hg5.cell x04 (hlo _ (by show cb < W.heap.size; omega))
        have x15 := hg5.cell x14 (hlo _ (by show cb < W.heap.size; omega))
        have HX5 := Lib.hid hx5
        have hgs : w5.grownBy (w5.setCell ⟨xb, 3, none⟩ (.slice rA (k + 1) rc)) (some xb) := setCell_grownBy w5 ⟨xb, 3, none⟩ (.slice rA (k + 1) rc)
        have hm4 := HMo.out.below HB4.out
        have hm5' := World.ownsRow.kept hm4 hg5 (own_apart hm4 hrow4 (by decide))
        have HM6 := Lib.hid (show OwnWords W.heap.size (w5.setCell ⟨xb, 3, none⟩ (.slice rA (k + 1) rc)) (.slice mA tm.length mc) tm from World.ownsRow.kept hm5' hgs (Or.inr (fun e => hx5.not_row (by decide) hm5' e.symm)))
        have HE6 := Lib.hid (show EventsAt W.heap.size (w5.setCell ⟨xb, 3, none⟩ (.slice rA (k + 1) rc)) (.slice rA (k + 1) rc) ((o.calls.take (k + 1)).map cutEv) (fun g => g = xb ∨ (Value.slice mA tm.length mc).ownBlock = some g) by
          rw [HTK.out, HCE.out]
          refine (EventsAt.push (w := W4) (cs := .slice cA k cc) (es := es) (v := .slice vA tl.length vc) (by rw [HEL.out]; exact hrow4) H2.out (fun j hj => ?_) (fun g hg => ?_) (HV4.out.mono hzo) (fun g hg e => ?_) (by rw [HEL.out]; exact hr5) hg5 hm5).kept hgs (Or.inl rfl)
          · obtain ⟨e1, u, e2, e3, e4⟩ := H3.out j hj
            exact ⟨e1, u, e2, e3.below HB4.out, e4⟩
          · rcases hg with rfl | hg
            · exact hx4.lt
            · exact (OwnWords.where_ hm4 hg).2
          · have hw4 := (OwnWords.where_ HV4.out hg).1
            rcases e with e | e
            · omega
            · have := (OwnWords.where_ HMo.out e).2
              omega)
        have HB6 := Lib.hid ((below_of_own (HBo.out.trans (HB4.out.mono hzo)) hg5 (fun g hg => (hrow4.lt g hg).1)).setCell (p := ⟨xb, 3, none⟩) hxw (.slice rA (k + 1) rc))
        clear hr5 hg5 hm5 hrow4 hx4 hx5 hlo hgs hm4 hm5'
        refine wpList_nil (behindH (Or.inl ⟨x35, p35, x05, x15⟩) ?_)
        refine walkH_still _ ?m28 rfl rfl rfl ?my28 ?_
        case my28 => intro w hS; go_simp; first | done | with_reducible rfl
        simp only [Act.put]
        try simp only [List.setIfInBounds_toArray, List.set_cons_zero, List.set_cons_succ]
        refine walkHd _ rfl rfl ?_
        go_wp2
        refine behindH (Or.inr rfl) (walkH_nil ?_)
        go_wp2
        exact ⟨⟨k + 1, rA, rc, by omega, by omega, by go_num, HX5.out.set 3 _, HM6.out, HE6.out, HB6.out⟩, by simp [intOf]; omega⟩
      · have hkl : k = (o.calls.take 10).length := by rw [List.length_take]; omega
        have HKT := Lib.hid (show o.calls.take k = o.calls.take 10 by
          by_cases hc : o.calls.length ≤ 10
          · rw [List.take_of_length_le (by omega), List.take_of_length_le hc]
          · rw [show k = 10 by omega])
        have HKL := Lib.hid hkl
        have hr := HS1.out.below HBo.out
        have z0 := hr.cell 0
        have y0 := hr.frozen 0
        have z1 := hr.cell 1
        have y1 := hr.frozen 1
        have z2 := hr.cell 2
        have y2 := hr.frozen 2
        have z3 := hr.cell 3
        have y3 := hr.frozen 3
        have z4 := hr.cell 4
        have y4 := hr.frozen 4
        have X0 := HXo.out.cell 0
        have X1 := HXo.out.cell 1
        have X2 := HXo.out.cell 2
        have X4 := HXo.out.cell 4
        simp only [List.getElem?_cons_succ, List.getElem?_cons_zero] at X0 X1 X2 X4
        have HR := Lib.hid hr
        have hcase : (o.calls.length ≤ k) ∨ (k < o.calls.length ∧ k = 10) := by omega
        clear hkl hbw hr
        have J : ∀ wf, Str wf (w.heap.size + 1) 45 [.int .i64 o.how, .int .i32 o.val, .slice mA tm.length mc, .slice cA k cc, .int .i64 o.steps] → But (w.heap.size + 1) wo wf → OutcomePost o w (.returned (.agg #[.int .i64 o.how, .int .i32 o.val, .slice mA tm.length mc, .slice cA k cc, .int .i64 o.steps])) wf := by
          intro wf _ hbf
          have hgf := grown_of_but hbf
          refine ⟨mA, mc, cA, cc, by rw [HTM.out, ← HKL.out], ?_, ?_, (HBW.out.trans (HBo.out.mono HBW.out.size)).trans (below_of_but hbf (by omega) (by have := HBo.out.size; omega))⟩
          · rw [HTM.out]
            refine OwnWords.mono (World.ownsRow.kept HMo.out hgf ?_) (by omega)
            cases hv : (Value.slice mA tm.length mc).ownBlock with
            | none => exact Or.inl rfl
            | some g => exact Or.inr (fun e => by injection e with e; have := (OwnWords.where_ HMo.out hv).1; omega)
          · rw [← HKL.out, ← HKT.out, HTM.out]
            exact ((HEo.out.far hgf (by omega)).base (by omega)).weak (fun g _ e => Or.inr e)
        have HJ := Lib.hid J
        clear J
        rcases hcase with hc | ⟨hc, rfl⟩
        · go_wp2_with fail
          refine ⟨rfl, .agg #[.int .i64 o.how, .int .i32 o.val, .slice mA tm.length mc, .slice cA k cc, .int .i64 o.steps], ?_, ?_⟩
          · simp only [results]
            go_simp
          · exact HJ.out _ (five_setO HR.out _ _ _ _ _).1 (five_setO HR.out (.int .i64 o.how) (.int .i32 o.val) (.slice mA tm.length mc) (.slice cA k cc) (.int .i64 o.steps)).2
        · go_wp2_with fail
          refine ⟨rfl, .agg #[.int .i64 o.how, .int .i32 o.val, .slice mA tm.length mc, .slice cA (10 : Nat) cc, .int .i64 o.steps], ?_, ?_⟩
          · simp only [results]
            go_simp
          · exact HJ.out _ (five_setO HR.out _ _ _ _ _).1 (five_setO HR.out (.int .i64 o.how) (.int .i32 o.val) (.slice mA tm.length mc) (.slice cA (10 : Nat) cc) (.int .i64 o.steps)).2
end Go.Proofs.Ytcangooibfddmaa.Ic
