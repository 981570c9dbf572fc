/- Stage 12: the reference's registers. -/
import Derived.Test.YtdidacjmcafcpaaQC
import Derived.Test.YtdidacjmcafcpaaQE
import Derived.Test.YtdidacjmcafcpaaHeldR
namespace Go.Proofs.Ytdidacjmcafcpaa.Ph
open Go.ChangeShapes Go.WideShapes Go.ChangeAt Go.RowKit Go.Proofs.Ytdidacjmcafcpaa.Mem Go.Proofs.Ytdidacjmcafcpaa.Kc Go.Proofs.Ytdidacjmcafcpaa.Pl Go.Proofs.Ytdidacjmcafcpaa.Mw Go.Proofs.Ytdidacjmcafcpaa.Mc Go.Proofs.Ytdidacjmcafcpaa.Br Go.Proofs.Ytdidacjmcafcpaa.Gr
set_option linter.unusedVariables false
set_option linter.unusedSimpArgs false
attribute [local go_sem] Oper.semAt_some
set_option maxRecDepth 100000 in
/-- A row of numbers appended to one of one's own. -/
theorem run_ints (w : World) (B : Nat) (v0 v : Value) (pre l : List Int) (h0 : OwnInts B w v0 pre) (h : Ints w v l) (hl : pre.length + l.length ≤ 1000000) (hB : B ≤ w.heap.size) :
    ∃ v' w', (Builtin.append_ #[22, 22] 22 #[v0, v]).run Try.prog w = .ok v' w' ∧ OwnInts B w' v' (pre ++ l) ∧ w.grownBy w' v0.ownBlock := by
  obtain ⟨A, c, rfl, h1, h2, h3⟩ := h
  obtain ⟨i0, hi, hz0, hz1, hz2⟩ := info_parts info_int
  cases A with
  | none =>
    cases l with
    | nil =>
      refine ⟨v0, w, ?_, by rw [List.append_nil]; exact h0, ⟨rfl, rfl, rfl, Nat.le_refl _, fun _ _ _ => rfl⟩⟩
      rcases h0.2 with ⟨rfl, _⟩ | ⟨g, cap, cur, rfl, _, _, hnc, _⟩
      · exact append_nonei w c
      · simp [Builtin.append_, run_underlying Try.underlying22, sizeOf, typeInfo, hi, Builtin.lenOf, Builtin.firstCells, storeCells, hnc]
    | cons x l =>
      obtain ⟨ad, e, _⟩ := h3 0 (by simp)
      cases e
  | some ad =>
    have hc : ∀ j u, (l.map (Value.int .i64))[j]? = some u → w.cell? (ad.add j) = some u := by
      intro j u hj
      rw [List.getElem?_map] at hj
      by_cases hlt : j < l.length
      · rw [List.getElem?_eq_getElem hlt] at hj
        obtain ⟨ad', e, hc⟩ := h3 j hlt
        injection e with e
        subst e
        rw [hc]; exact hj
      · rw [List.getElem?_eq_none (by omega)] at hj
        cases hj
    obtain ⟨v', w', hr, r1, r2, _⟩ := run_append_own (P := Try.prog) w B 22 22 3 i0 (.int .i64 0) 1 8 Try.underlying22 hi hz0 hz1 hz2 rfl (by decide) v0 pre.length (pre.map (Value.int .i64)) h0 ad l.length c (l.map (Value.int .i64)) (by rw [List.length_map, Nat.mul_one]) hc
      (by intro u hu; obtain ⟨x, _, rfl⟩ := List.mem_map.1 hu; rfl) (by unfold maxLen; omega) (by omega) hB
    refine ⟨v', w', hr, ?_, r2⟩
    unfold OwnInts
    rw [List.length_append, List.map_append]
    exact r1
theorem wpList_ints {w : World} {ops : Array Oper} {rest : List Oper} {o : Oper} {a : Act} {Q : Exit → Act → World → Prop} (hgd : o.guard = none) (s x : Operand)
    (ho : o.op = .call { callee := .builtin .append, args := #[s, x], argTypes := #[22, 22] }) (ht : o.type = 22) (B : Nat) (v0 : Value) (pre l : List Int) (hs : a.eval s = v0) (h0 : OwnInts B w v0 pre) (h : Ints w (a.eval x) l) (hl : pre.length + l.length ≤ 1000000) (hB : B ≤ w.heap.size)
    (hK : ∀ v' w', OwnInts B w' v' (pre ++ l) → w.grownBy w' v0.ownBlock → wpList Try.prog ops Q rest (a.put o.dst v') w') : wpList Try.prog ops Q (o :: rest) a w := by
  refine wpList_plain hgd fun K hK' => ?_
  obtain ⟨v', w', hr, h2, h3⟩ := run_ints w B v0 _ pre l h0 h hl hB
  unfold Oper.wp execOp
  simp only [ho, resolve, invoke, builtin, Sem.run_bind, Sem.run_pure, Result.andThen_ok, List.map_toArray, List.map_cons, List.map_nil, hs, ht, hr]
  exact hK' _ _ (hK v' w' h2 h3)
/-- The registers that an instruction names, as the reference gathers them. -/
def namedQ (i : PMach) : List Int := if i.op = 30 then [i.d] else if i.op = 31 then [i.a] else takesQ i ++ makesQ i
theorem takesQ_len (i : PMach) : (takesQ i).length ≤ i.args.length + 3 := by
  unfold takesQ takesL
  split
  · simp only [List.length_cons, List.length_nil]; omega
  · split
    · omega
    · rw [List.length_take]; simp only [List.length_cons, List.length_nil]; omega
theorem makesQ_len (i : PMach) : (makesQ i).length ≤ 2 := by
  unfold makesQ makesL
  split
  · simp only [List.length_cons, List.length_nil]; omega
  · rw [List.length_take]
    split
    · simp only [List.length_cons, List.length_nil]; omega
    · simp only [List.length_cons, List.length_nil]; omega
set_option maxRecDepth 100000 in
set_option maxHeartbeats 4000000 in
theorem registers_any (w : World) (i : PMach) (A : Option Addr) (n k : Nat) (hw : InW i.imm) (hv : Ints w (.slice A n k) i.args) (hl : i.args.length ≤ 900000) : Calls Try.prog 39 #[.agg #[.int .i64 i.op, .int .i64 i.d, .int .i64 i.e, .int .i64 i.a, .int .i64 i.b, .int .i64 i.c, .int .i32 i.imm, .slice A n k]] w (RowPost (namedQ i) w) := by
  obtain ⟨W1, hW1⟩ : ∃ W1, w.alloc (.cells #[.int .i64 i.op, .int .i64 i.d, .int .i64 i.e, .int .i64 i.a, .int .i64 i.b, .int .i64 i.c, .int .i32 i.imm, .slice A n k] 24) = W1 := ⟨_, rfl⟩
  have hb1 : Below w.heap.size w W1 := by rw [← hW1]; exact (Below.refl _ _).alloc (Nat.le_refl _) _
  have hs1 : Str W1 w.heap.size 24 [.int .i64 i.op, .int .i64 i.d, .int .i64 i.e, .int .i64 i.a, .int .i64 i.b, .int .i64 i.c, .int .i32 i.imm, .slice A n k] := by rw [← hW1]; exact World.alloc_heap_new w _
  have HB1 := Lib.hid hb1
  have HS1 := Lib.hid hs1
  have m0 : W1.cell? ⟨w.heap.size, 0, none⟩ = some (.int .i64 i.op) := hs1.cell 0
  have m1 : W1.cell? ⟨w.heap.size, 1, none⟩ = some (.int .i64 i.d) := hs1.cell 1
  have m2 : W1.cell? ⟨w.heap.size, 2, none⟩ = some (.int .i64 i.e) := hs1.cell 2
  have m3 : W1.cell? ⟨w.heap.size, 3, none⟩ = some (.int .i64 i.a) := hs1.cell 3
  have m4 : W1.cell? ⟨w.heap.size, 4, none⟩ = some (.int .i64 i.b) := hs1.cell 4
  have m5 : W1.cell? ⟨w.heap.size, 5, none⟩ = some (.int .i64 i.c) := hs1.cell 5
  have m6 : W1.cell? ⟨w.heap.size, 6, none⟩ = some (.int .i32 i.imm) := hs1.cell 6
  have m7 : W1.cell? ⟨w.heap.size, 7, none⟩ = some (.slice A n k) := hs1.cell 7
  have HS1b := Lib.hid hs1
  clear hb1 hs1
  have HV := Lib.hid (ints_low hv HB1.out)
  clear hv
  by_cases h1 : i.op = 30
  · have e1 : (i.op == 30) = true := beq_iff_eq.2 h1
    have HT := Lib.hid (show namedQ i = [i.d] by unfold namedQ; rw [if_pos h1])
    clear h1
    obtain ⟨W3, hW3⟩ : ∃ W3, W1.alloc (.cells #[.int .i64 i.d] 3) = W3 := ⟨_, rfl⟩
    have hb3 : Below W1.heap.size W1 W3 := by rw [← hW3]; exact (Below.refl _ _).alloc (Nat.le_refl _) _
    have HO := Lib.hid (show OwnInts w.heap.size W3 (.slice (some ⟨W1.heap.size, 0, none⟩) 1 1) [i.d] by
      rw [← hW3]
      exact World.ownsRow_lit (size := 1) (e := 3) (base := w.heap.size) W1 #[.int .i64 i.d] 1 HB1.out.size (by unfold maxLen; omega) (by simp))
    have HB3 := Lib.hid (HB1.out.trans (hb3.mono HB1.out.size))
    clear hb3
    go_enter Try.func39, Try.ntmps39
    go_wp2
    go_ret
    exact ⟨_, rfl, by rw [HT.out]; exact HO.out, HB3.out⟩
  · have e1 : (i.op == 30) = false := beq_eq_false_iff_ne.2 h1
    by_cases h2 : i.op = 31
    · have e2 : (i.op == 31) = true := beq_iff_eq.2 h2
      have HT := Lib.hid (show namedQ i = [i.a] by unfold namedQ; rw [if_neg h1, if_pos h2])
      clear h1 h2
      obtain ⟨W3, hW3⟩ : ∃ W3, W1.alloc (.cells #[.int .i64 i.a] 3) = W3 := ⟨_, rfl⟩
      have hb3 : Below W1.heap.size W1 W3 := by rw [← hW3]; exact (Below.refl _ _).alloc (Nat.le_refl _) _
      have HO := Lib.hid (show OwnInts w.heap.size W3 (.slice (some ⟨W1.heap.size, 0, none⟩) 1 1) [i.a] by
        rw [← hW3]
        exact World.ownsRow_lit (size := 1) (e := 3) (base := w.heap.size) W1 #[.int .i64 i.a] 1 HB1.out.size (by unfold maxLen; omega) (by simp))
      have HB3 := Lib.hid (HB1.out.trans (hb3.mono HB1.out.size))
      clear hb3
      go_enter Try.func39, Try.ntmps39
      go_wp2
      go_ret
      exact ⟨_, rfl, by rw [HT.out]; exact HO.out, HB3.out⟩
    · have e2 : (i.op == 31) = false := beq_eq_false_iff_ne.2 h2
      have HT := Lib.hid (show namedQ i = takesQ i ++ makesQ i by unfold namedQ; rw [if_neg h1, if_neg h2])
      clear h1 h2
      go_enter Try.func39, Try.ntmps39
      go_wp2_with fail
      clear hW1
      refine region_heldR_wp (fun w' => w'.cell? ⟨w.heap.size, 0, none⟩ = some (.int .i64 i.op) ∧ w'.cell? ⟨w.heap.size, 1, none⟩ = some (.int .i64 i.d) ∧ w'.cell? ⟨w.heap.size, 2, none⟩ = some (.int .i64 i.e) ∧ w'.cell? ⟨w.heap.size, 3, none⟩ = some (.int .i64 i.a) ∧ w'.cell? ⟨w.heap.size, 4, none⟩ = some (.int .i64 i.b) ∧ w'.cell? ⟨w.heap.size, 5, none⟩ = some (.int .i64 i.c) ∧ w'.cell? ⟨w.heap.size, 6, none⟩ = some (.int .i32 i.imm) ∧ w'.cell? ⟨w.heap.size, 7, none⟩ = some (.slice A n k)) [1, 4] (.step 1 (.step 4 (.fork 0 2 (.step 2 (.step 3 (.step 5 (.step 6 (.step 7 .done))))) (.step 0 (.step 3 (.step 5 (.step 6 (.step 7 .done)))))))) (by kernel_rfl) (by kernel_rfl) (by kernel_rfl) rfl (by intro c a d v w h; cases d <;> exact h) ⟨m0, m1, m2, m3, m4, m5, m6, m7⟩ ?_
      refine walkR_still _ ?g1 rfl rfl rfl ?gy1 ?_
      case gy1 => intro w hS; go_simp; first | done | with_reducible rfl
      simp only [Act.put]
      refine walkR_still _ ?g4 rfl rfl rfl ?gy4 ?_
      case gy4 => intro w hS; go_simp; first | done | with_reducible rfl
      simp only [Act.put]
      refine walkR_fork _ _ rfl rfl ?_ ?_
      · obtain ⟨Wa, hWa⟩ : ∃ Wa, (W1.drew).alloc (.cells #[] 3) = Wa := ⟨_, rfl⟩
        have hba : Below W1.heap.size W1 Wa := by rw [← hWa]; exact ((Below.refl _ W1).drew).alloc (Nat.le_refl _) _
        have HEa := Lib.hid (show OwnInts W1.heap.size Wa (.slice (some ⟨W1.heap.size, 0, none⟩) 0 0) [] by rw [← hWa]; exact empty_own W1.drew _ 1)
        have HVa := Lib.hid (ints_low HV.out hba)
        have HBa := Lib.hid (HB1.out.trans (hba.mono HB1.out.size))
        have HSa := Lib.hid (HS1b.out.below hba)
        have a0 : Wa.cell? ⟨w.heap.size, 0, none⟩ = some (.int .i64 i.op) := cell_keep hba (Nat.le_refl _) m0
        have a1 : Wa.cell? ⟨w.heap.size, 1, none⟩ = some (.int .i64 i.d) := cell_keep hba (Nat.le_refl _) m1
        have a2 : Wa.cell? ⟨w.heap.size, 2, none⟩ = some (.int .i64 i.e) := cell_keep hba (Nat.le_refl _) m2
        have a3 : Wa.cell? ⟨w.heap.size, 3, none⟩ = some (.int .i64 i.a) := cell_keep hba (Nat.le_refl _) m3
        have a4 : Wa.cell? ⟨w.heap.size, 4, none⟩ = some (.int .i64 i.b) := cell_keep hba (Nat.le_refl _) m4
        have a5 : Wa.cell? ⟨w.heap.size, 5, none⟩ = some (.int .i64 i.c) := cell_keep hba (Nat.le_refl _) m5
        have a6 : Wa.cell? ⟨w.heap.size, 6, none⟩ = some (.int .i32 i.imm) := cell_keep hba (Nat.le_refl _) m6
        have a7 : Wa.cell? ⟨w.heap.size, 7, none⟩ = some (.slice A n k) := cell_keep hba (Nat.le_refl _) m7
        clear hba
        go_wp2_with fail
        clear hWa
        refine behindR ⟨a0, a1, a2, a3, a4, a5, a6, a7⟩ ?_
        refine walkR_does _ rfl rfl ?_
        go_wp2_with fail
        refine (rtakesQ_any Wa i A n k hw HVa.out (by omega)).mono ?_
        rintro e w3 ⟨v3, rfl, ho3, hb3⟩
        have HV3W := Lib.hid (OwnInts.ints ho3)
        have HEW := Lib.hid (show OwnInts w.heap.size w3 (.slice (some ⟨W1.heap.size, 0, none⟩) 0 0) [] from own_base (own_below HEa.out hb3) HB1.out.size)
        have HSW := Lib.hid (HSa.out.below hb3)
        have HBW := Lib.hid (HBa.out.trans (hb3.mono HBa.out.size))
        have p0 : w3.cell? ⟨w.heap.size, 0, none⟩ = some (.int .i64 i.op) := cell_keep hb3 (Nat.le_refl _) a0
        have p1 : w3.cell? ⟨w.heap.size, 1, none⟩ = some (.int .i64 i.d) := cell_keep hb3 (Nat.le_refl _) a1
        have p2 : w3.cell? ⟨w.heap.size, 2, none⟩ = some (.int .i64 i.e) := cell_keep hb3 (Nat.le_refl _) a2
        have p3 : w3.cell? ⟨w.heap.size, 3, none⟩ = some (.int .i64 i.a) := cell_keep hb3 (Nat.le_refl _) a3
        have p4 : w3.cell? ⟨w.heap.size, 4, none⟩ = some (.int .i64 i.b) := cell_keep hb3 (Nat.le_refl _) a4
        have p5 : w3.cell? ⟨w.heap.size, 5, none⟩ = some (.int .i64 i.c) := cell_keep hb3 (Nat.le_refl _) a5
        have p6 : w3.cell? ⟨w.heap.size, 6, none⟩ = some (.int .i32 i.imm) := cell_keep hb3 (Nat.le_refl _) a6
        have p7 : w3.cell? ⟨w.heap.size, 7, none⟩ = some (.slice A n k) := cell_keep hb3 (Nat.le_refl _) a7
        clear ho3 hb3
        go_wp2_with fail
        refine behindR ⟨p0, p1, p2, p3, p4, p5, p6, p7⟩ ?_
        refine walkR_does _ rfl rfl ?_
        refine wpList_ints rfl _ _ rfl rfl w.heap.size _ [] (takesQ i) rfl HEW.out HV3W.out (by have := takesQ_len i; simp only [List.length_nil]; omega) HBW.out.size ?_
        intro v4 w4 ho4 hg4
        have hb4 : Below w.heap.size w w4 := HBW.out.grown hg4 HBW.out.size (fun j e => (World.ownsRow.lt HEW.out j e).1)
        have hs4 := HSW.out.kept hg4 (HSW.out.not_row (by decide) HEW.out)
        have HO4 := Lib.hid (show OwnInts w.heap.size w4 v4 (takesQ i) from ho4)
        have HS4 := Lib.hid hs4
        have HB4 := Lib.hid hb4
        have q0 : w4.cell? ⟨w.heap.size, 0, none⟩ = some (.int .i64 i.op) := hs4.cell 0
        have q1 : w4.cell? ⟨w.heap.size, 1, none⟩ = some (.int .i64 i.d) := hs4.cell 1
        have q2 : w4.cell? ⟨w.heap.size, 2, none⟩ = some (.int .i64 i.e) := hs4.cell 2
        have q3 : w4.cell? ⟨w.heap.size, 3, none⟩ = some (.int .i64 i.a) := hs4.cell 3
        have q4 : w4.cell? ⟨w.heap.size, 4, none⟩ = some (.int .i64 i.b) := hs4.cell 4
        have q5 : w4.cell? ⟨w.heap.size, 5, none⟩ = some (.int .i64 i.c) := hs4.cell 5
        have q6 : w4.cell? ⟨w.heap.size, 6, none⟩ = some (.int .i32 i.imm) := hs4.cell 6
        have q7 : w4.cell? ⟨w.heap.size, 7, none⟩ = some (.slice A n k) := hs4.cell 7
        clear ho4 hg4 hb4 hs4
        go_wp2_with fail
        refine behindR ⟨q0, q1, q2, q3, q4, q5, q6, q7⟩ ?_
        refine walkR_does _ rfl rfl ?_
        go_wp2_with fail
        refine (rmakesQ_any w4 i A n k hw).mono ?_
        rintro e w5 ⟨v5, rfl, ho5, hb5⟩
        have HO5 := Lib.hid (OwnInts.ints ho5)
        have HR5 := Lib.hid (show OwnInts w.heap.size w5 v4 (takesQ i) from own_below HO4.out hb5)
        have HS5 := Lib.hid (HS4.out.below hb5)
        have HB5 := Lib.hid (HB4.out.trans (hb5.mono HB4.out.size))
        have r0 : w5.cell? ⟨w.heap.size, 0, none⟩ = some (.int .i64 i.op) := cell_keep hb5 (Nat.le_refl _) q0
        have r1 : w5.cell? ⟨w.heap.size, 1, none⟩ = some (.int .i64 i.d) := cell_keep hb5 (Nat.le_refl _) q1
        have r2 : w5.cell? ⟨w.heap.size, 2, none⟩ = some (.int .i64 i.e) := cell_keep hb5 (Nat.le_refl _) q2
        have r3 : w5.cell? ⟨w.heap.size, 3, none⟩ = some (.int .i64 i.a) := cell_keep hb5 (Nat.le_refl _) q3
        have r4 : w5.cell? ⟨w.heap.size, 4, none⟩ = some (.int .i64 i.b) := cell_keep hb5 (Nat.le_refl _) q4
        have r5 : w5.cell? ⟨w.heap.size, 5, none⟩ = some (.int .i64 i.c) := cell_keep hb5 (Nat.le_refl _) q5
        have r6 : w5.cell? ⟨w.heap.size, 6, none⟩ = some (.int .i32 i.imm) := cell_keep hb5 (Nat.le_refl _) q6
        have r7 : w5.cell? ⟨w.heap.size, 7, none⟩ = some (.slice A n k) := cell_keep hb5 (Nat.le_refl _) q7
        clear ho5 hb5
        go_wp2_with fail
        refine behindR ⟨r0, r1, r2, r3, r4, r5, r6, r7⟩ ?_
        refine walkR_does _ rfl rfl ?_
        refine wpList_ints rfl _ _ rfl rfl w.heap.size _ (takesQ i) (makesQ i) rfl HR5.out HO5.out (by have := takesQ_len i; have := makesQ_len i; omega) HB5.out.size ?_
        intro v6 w6 ho6 hg6
        have hb6 : Below w.heap.size w w6 := HB5.out.grown hg6 HB5.out.size (fun j e => (World.ownsRow.lt HR5.out j e).1)
        have hs6 := HS5.out.kept hg6 (HS5.out.not_row (by decide) HR5.out)
        have HO6 := Lib.hid ho6
        have HB6 := Lib.hid hb6
        have s0 : w6.cell? ⟨w.heap.size, 0, none⟩ = some (.int .i64 i.op) := hs6.cell 0
        have s1 : w6.cell? ⟨w.heap.size, 1, none⟩ = some (.int .i64 i.d) := hs6.cell 1
        have s2 : w6.cell? ⟨w.heap.size, 2, none⟩ = some (.int .i64 i.e) := hs6.cell 2
        have s3 : w6.cell? ⟨w.heap.size, 3, none⟩ = some (.int .i64 i.a) := hs6.cell 3
        have s4 : w6.cell? ⟨w.heap.size, 4, none⟩ = some (.int .i64 i.b) := hs6.cell 4
        have s5 : w6.cell? ⟨w.heap.size, 5, none⟩ = some (.int .i64 i.c) := hs6.cell 5
        have s6 : w6.cell? ⟨w.heap.size, 6, none⟩ = some (.int .i32 i.imm) := hs6.cell 6
        have s7 : w6.cell? ⟨w.heap.size, 7, none⟩ = some (.slice A n k) := hs6.cell 7
        clear ho6 hg6 hb6 hs6
        go_wp2_with fail
        refine behindR ⟨s0, s1, s2, s3, s4, s5, s6, s7⟩ ?_
        refine walkR_does _ rfl rfl ?_
        go_wp2_with fail
        refine behindR ⟨s0, s1, s2, s3, s4, s5, s6, s7⟩ (walkR_done ?_)
        go_wp2
        go_ret
        exact ⟨v6, rfl, by rw [HT.out]; exact HO6.out, HB6.out⟩
      · go_wp2_with fail
        refine (rtakesQ_any W1.drew i A n k hw HV.out (by omega)).mono ?_
        rintro e w2 ⟨v3, rfl, ho3, hb2⟩
        have hb2 : Below W1.heap.size W1 w2 := (Below.refl _ W1).drew.trans hb2
        have HO3 := Lib.hid (OwnInts.ints ho3)
        have HS2 := Lib.hid (HS1b.out.below hb2)
        have HB2 := Lib.hid (HB1.out.trans (hb2.mono HB1.out.size))
        have a0 : w2.cell? ⟨w.heap.size, 0, none⟩ = some (.int .i64 i.op) := cell_keep hb2 (Nat.le_refl _) m0
        have a1 : w2.cell? ⟨w.heap.size, 1, none⟩ = some (.int .i64 i.d) := cell_keep hb2 (Nat.le_refl _) m1
        have a2 : w2.cell? ⟨w.heap.size, 2, none⟩ = some (.int .i64 i.e) := cell_keep hb2 (Nat.le_refl _) m2
        have a3 : w2.cell? ⟨w.heap.size, 3, none⟩ = some (.int .i64 i.a) := cell_keep hb2 (Nat.le_refl _) m3
        have a4 : w2.cell? ⟨w.heap.size, 4, none⟩ = some (.int .i64 i.b) := cell_keep hb2 (Nat.le_refl _) m4
        have a5 : w2.cell? ⟨w.heap.size, 5, none⟩ = some (.int .i64 i.c) := cell_keep hb2 (Nat.le_refl _) m5
        have a6 : w2.cell? ⟨w.heap.size, 6, none⟩ = some (.int .i32 i.imm) := cell_keep hb2 (Nat.le_refl _) m6
        have a7 : w2.cell? ⟨w.heap.size, 7, none⟩ = some (.slice A n k) := cell_keep hb2 (Nat.le_refl _) m7
        clear ho3 hb2
        go_wp2_with fail
        refine behindR ⟨a0, a1, a2, a3, a4, a5, a6, a7⟩ ?_
        obtain ⟨Wa, hWa⟩ : ∃ Wa, w2.alloc (.cells #[] 3) = Wa := ⟨_, rfl⟩
        have hba : Below w2.heap.size w2 Wa := by rw [← hWa]; exact (Below.refl _ _).alloc (Nat.le_refl _) _
        have HEW := Lib.hid (show OwnInts w.heap.size Wa (.slice (some ⟨w2.heap.size, 0, none⟩) 0 0) [] by rw [← hWa]; exact own_base (empty_own w2 _ 1) HB2.out.size)
        have HV3W := Lib.hid (ints_low HO3.out hba)
        have HBW := Lib.hid (HB2.out.trans (hba.mono HB2.out.size))
        have HSW := Lib.hid (HS2.out.below hba)
        have p0 : Wa.cell? ⟨w.heap.size, 0, none⟩ = some (.int .i64 i.op) := cell_keep hba (Nat.le_refl _) a0
        have p1 : Wa.cell? ⟨w.heap.size, 1, none⟩ = some (.int .i64 i.d) := cell_keep hba (Nat.le_refl _) a1
        have p2 : Wa.cell? ⟨w.heap.size, 2, none⟩ = some (.int .i64 i.e) := cell_keep hba (Nat.le_refl _) a2
        have p3 : Wa.cell? ⟨w.heap.size, 3, none⟩ = some (.int .i64 i.a) := cell_keep hba (Nat.le_refl _) a3
        have p4 : Wa.cell? ⟨w.heap.size, 4, none⟩ = some (.int .i64 i.b) := cell_keep hba (Nat.le_refl _) a4
        have p5 : Wa.cell? ⟨w.heap.size, 5, none⟩ = some (.int .i64 i.c) := cell_keep hba (Nat.le_refl _) a5
        have p6 : Wa.cell? ⟨w.heap.size, 6, none⟩ = some (.int .i32 i.imm) := cell_keep hba (Nat.le_refl _) a6
        have p7 : Wa.cell? ⟨w.heap.size, 7, none⟩ = some (.slice A n k) := cell_keep hba (Nat.le_refl _) a7
        clear hba
        refine walkR_does _ rfl rfl ?_
        go_wp2_with fail
        clear hWa
        refine behindR ⟨p0, p1, p2, p3, p4, p5, p6, p7⟩ ?_
        refine walkR_does _ rfl rfl ?_
        refine wpList_ints rfl _ _ rfl rfl w.heap.size _ [] (takesQ i) rfl HEW.out HV3W.out (by have := takesQ_len i; simp only [List.length_nil]; omega) HBW.out.size ?_
        intro v4 w4 ho4 hg4
        have hb4 : Below w.heap.size w w4 := HBW.out.grown hg4 HBW.out.size (fun j e => (World.ownsRow.lt HEW.out j e).1)
        have hs4 := HSW.out.kept hg4 (HSW.out.not_row (by decide) HEW.out)
        have HO4 := Lib.hid (show OwnInts w.heap.size w4 v4 (takesQ i) from ho4)
        have HS4 := Lib.hid hs4
        have HB4 := Lib.hid hb4
        have q0 : w4.cell? ⟨w.heap.size, 0, none⟩ = some (.int .i64 i.op) := hs4.cell 0
        have q1 : w4.cell? ⟨w.heap.size, 1, none⟩ = some (.int .i64 i.d) := hs4.cell 1
        have q2 : w4.cell? ⟨w.heap.size, 2, none⟩ = some (.int .i64 i.e) := hs4.cell 2
        have q3 : w4.cell? ⟨w.heap.size, 3, none⟩ = some (.int .i64 i.a) := hs4.cell 3
        have q4 : w4.cell? ⟨w.heap.size, 4, none⟩ = some (.int .i64 i.b) := hs4.cell 4
        have q5 : w4.cell? ⟨w.heap.size, 5, none⟩ = some (.int .i64 i.c) := hs4.cell 5
        have q6 : w4.cell? ⟨w.heap.size, 6, none⟩ = some (.int .i32 i.imm) := hs4.cell 6
        have q7 : w4.cell? ⟨w.heap.size, 7, none⟩ = some (.slice A n k) := hs4.cell 7
        clear ho4 hg4 hb4 hs4
        go_wp2_with fail
        refine behindR ⟨q0, q1, q2, q3, q4, q5, q6, q7⟩ ?_
        refine walkR_does _ rfl rfl ?_
        go_wp2_with fail
        refine (rmakesQ_any w4 i A n k hw).mono ?_
        rintro e w5 ⟨v5, rfl, ho5, hb5⟩
        have HO5 := Lib.hid (OwnInts.ints ho5)
        have HR5 := Lib.hid (show OwnInts w.heap.size w5 v4 (takesQ i) from own_below HO4.out hb5)
        have HS5 := Lib.hid (HS4.out.below hb5)
        have HB5 := Lib.hid (HB4.out.trans (hb5.mono HB4.out.size))
        have r0 : w5.cell? ⟨w.heap.size, 0, none⟩ = some (.int .i64 i.op) := cell_keep hb5 (Nat.le_refl _) q0
        have r1 : w5.cell? ⟨w.heap.size, 1, none⟩ = some (.int .i64 i.d) := cell_keep hb5 (Nat.le_refl _) q1
        have r2 : w5.cell? ⟨w.heap.size, 2, none⟩ = some (.int .i64 i.e) := cell_keep hb5 (Nat.le_refl _) q2
        have r3 : w5.cell? ⟨w.heap.size, 3, none⟩ = some (.int .i64 i.a) := cell_keep hb5 (Nat.le_refl _) q3
        have r4 : w5.cell? ⟨w.heap.size, 4, none⟩ = some (.int .i64 i.b) := cell_keep hb5 (Nat.le_refl _) q4
        have r5 : w5.cell? ⟨w.heap.size, 5, none⟩ = some (.int .i64 i.c) := cell_keep hb5 (Nat.le_refl _) q5
        have r6 : w5.cell? ⟨w.heap.size, 6, none⟩ = some (.int .i32 i.imm) := cell_keep hb5 (Nat.le_refl _) q6
        have r7 : w5.cell? ⟨w.heap.size, 7, none⟩ = some (.slice A n k) := cell_keep hb5 (Nat.le_refl _) q7
        clear ho5 hb5
        go_wp2_with fail
        refine behindR ⟨r0, r1, r2, r3, r4, r5, r6, r7⟩ ?_
        refine walkR_does _ rfl rfl ?_
        refine wpList_ints rfl _ _ rfl rfl w.heap.size _ (takesQ i) (makesQ i) rfl HR5.out HO5.out (by have := takesQ_len i; have := makesQ_len i; omega) HB5.out.size ?_
        intro v6 w6 ho6 hg6
        have hb6 : Below w.heap.size w w6 := HB5.out.grown hg6 HB5.out.size (fun j e => (World.ownsRow.lt HR5.out j e).1)
        have hs6 := HS5.out.kept hg6 (HS5.out.not_row (by decide) HR5.out)
        have HO6 := Lib.hid ho6
        have HB6 := Lib.hid hb6
        have s0 : w6.cell? ⟨w.heap.size, 0, none⟩ = some (.int .i64 i.op) := hs6.cell 0
        have s1 : w6.cell? ⟨w.heap.size, 1, none⟩ = some (.int .i64 i.d) := hs6.cell 1
        have s2 : w6.cell? ⟨w.heap.size, 2, none⟩ = some (.int .i64 i.e) := hs6.cell 2
        have s3 : w6.cell? ⟨w.heap.size, 3, none⟩ = some (.int .i64 i.a) := hs6.cell 3
        have s4 : w6.cell? ⟨w.heap.size, 4, none⟩ = some (.int .i64 i.b) := hs6.cell 4
        have s5 : w6.cell? ⟨w.heap.size, 5, none⟩ = some (.int .i64 i.c) := hs6.cell 5
        have s6 : w6.cell? ⟨w.heap.size, 6, none⟩ = some (.int .i32 i.imm) := hs6.cell 6
        have s7 : w6.cell? ⟨w.heap.size, 7, none⟩ = some (.slice A n k) := hs6.cell 7
        clear ho6 hg6 hb6 hs6
        go_wp2_with fail
        refine behindR ⟨s0, s1, s2, s3, s4, s5, s6, s7⟩ ?_
        refine walkR_does _ rfl rfl ?_
        go_wp2_with fail
        refine behindR ⟨s0, s1, s2, s3, s4, s5, s6, s7⟩ (walkR_done ?_)
        go_wp2
        go_ret
        exact ⟨v6, rfl, by rw [HT.out]; exact HO6.out, HB6.out⟩
end Go.Proofs.Ytdidacjmcafcpaa.Ph
