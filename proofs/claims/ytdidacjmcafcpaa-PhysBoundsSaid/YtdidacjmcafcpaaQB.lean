/- Stage 7's reference: what an instruction takes and makes, what an end needs. -/
import Derived.Test.YtdidacjmcafcpaaMB
import Derived.Test.YtdidacjmcafcpaaHeld
import Derived.Test.YtdidacjmcafcpaaInfo
namespace Go.Proofs.Ytdidacjmcafcpaa.Mc
open Go.ChangeShapes Go.WideShapes Go.ChangeAt Go.RowKit Go.Maps Go.Proofs.Ytdidacjmcafcpaa.Mem Go.Proofs.Ytdidacjmcafcpaa.Kc Go.Proofs.Ytdidacjmcafcpaa.Br Go.Proofs.Ytdidacjmcafcpaa.Pl Go.Proofs.Ytdidacjmcafcpaa.Mw Go.Proofs.Ytdidacjmcafcpaa.Gr
set_option linter.unusedVariables false
set_option linter.unusedSimpArgs false
theorem Ints.take {w : World} {A : Option Addr} {n c : Nat} {l : List Int} (h : Ints w (.slice A n c) l) (m : Nat) (hm : m ≤ n) : Ints w (.slice A m c) (l.take m) := by
  obtain ⟨A', c', e, h1, h2, h3⟩ := h
  injection e with e1 e2 e3
  subst e1 e2 e3
  have hl : (l.take m).length = m := by rw [List.length_take]; omega
  refine ⟨A, c, by rw [hl], by omega, h2, fun k hk => ?_⟩
  obtain ⟨ad, e, hc⟩ := h3 k (by omega)
  exact ⟨ad, e, by rw [hc, List.getElem_take]⟩
theorem append_nonei (w : World) (c : Nat) : (Builtin.append_ #[22, 22] 22 #[.slice none 0 0, .slice none 0 c]).run Try.prog w = .ok (.slice none 0 0) w := by
  kernel_rfl
/-- An empty literal, as it is laid. -/
theorem empty_own (w : World) (t : TypeId) (size : Nat) : (w.alloc (.cells #[] t)).ownsRow w.heap.size t size (.slice (some ⟨w.heap.size, 0, none⟩) 0 0) 0 [] :=
  World.ownsRow_made w #[] 0 (Nat.le_refl _) (Nat.zero_le _) (by simp)
theorem below_of_own {w w1 w2 : World} {v : Value} (hb : Below w.heap.size w w1) (hg : w1.grownBy w2 v.ownBlock) (hv : ∀ g, v.ownBlock = some g → w.heap.size ≤ g) : Below w.heap.size w w2 :=
  hb.trans ⟨hg.os, hg.tape, hg.output, hg.size, fun k hk => hg.block k (Nat.lt_of_lt_of_le hk hb.size) (fun e => by have := hv k e.symm; omega)⟩
set_option maxRecDepth 100000 in
theorem run_own0i (w : World) (B : Nat) (v0 v : Value) (l : List Int) (h0 : w.ownsRow B 3 1 v0 0 []) (h : Ints w v l) (hl : l.length ≤ 1000000) (hB : B ≤ w.heap.size) :
    ∃ v' w', (Builtin.append_ #[22, 22] 22 #[v0, v]).run Try.prog w = .ok v' w' ∧ OwnInts B w' v' l ∧ w.grownBy w' v0.ownBlock := by
  obtain ⟨A, c, rfl, h1, h2, h3⟩ := h
  obtain ⟨i0, hi, hz0, hz1, hz2⟩ := info_parts info_int
  cases A with
  | none =>
    cases l with
    | nil =>
      refine ⟨v0, w, ?_, h0, ⟨rfl, rfl, rfl, Nat.le_refl _, fun _ _ _ => rfl⟩⟩
      rcases h0.2 with ⟨rfl, _⟩ | ⟨g, cap, cur, rfl, _, _, hnc, _⟩
      · exact append_nonei w c
      · simp [Builtin.append_, run_underlying Try.underlying22, sizeOf, typeInfo, hi, Builtin.lenOf, Builtin.firstCells, storeCells]
    | cons x l =>
      obtain ⟨ad, e, _⟩ := h3 0 (by simp)
      cases e
  | some ad =>
    have hc : ∀ j u, (l.map (Value.int .i64))[j]? = some u → w.cell? (ad.add j) = some u := by
      intro j u hj
      rw [List.getElem?_map] at hj
      by_cases hlt : j < l.length
      · rw [List.getElem?_eq_getElem hlt] at hj
        obtain ⟨ad', e, hc⟩ := h3 j hlt
        injection e with e
        subst e
        rw [hc]; exact hj
      · rw [List.getElem?_eq_none (by omega)] at hj
        cases hj
    obtain ⟨v', w', hr, r1, r2, _⟩ := run_append_own (P := Try.prog) w B 22 22 3 i0 (.int .i64 0) 1 8 Try.underlying22 hi hz0 hz1 hz2 rfl (by decide) v0 0 [] h0 ad l.length c (l.map (Value.int .i64)) (by rw [List.length_map, Nat.mul_one]) hc
      (by intro u hu; obtain ⟨x, _, rfl⟩ := List.mem_map.1 hu; rfl) (by unfold maxLen; omega) (by omega) hB
    refine ⟨v', w', hr, ?_, r2⟩
    rw [Nat.zero_add, List.nil_append] at r1
    exact r1
theorem wpList_own0i {w : World} {ops : Array Oper} {rest : List Oper} {o : Oper} {a : Act} {Q : Exit → Act → World → Prop} (hgd : o.guard = none) (s x : Operand)
    (ho : o.op = .call { callee := .builtin .append, args := #[s, x], argTypes := #[22, 22] }) (ht : o.type = 22) (B : Nat) (v0 : Value) (l : List Int) (hs : a.eval s = v0) (h0 : w.ownsRow B 3 1 v0 0 []) (h : Ints w (a.eval x) l) (hl : l.length ≤ 1000000) (hB : B ≤ w.heap.size)
    (hK : ∀ v' w', OwnInts B w' v' l → w.grownBy w' v0.ownBlock → wpList Try.prog ops Q rest (a.put o.dst v') w') : wpList Try.prog ops Q (o :: rest) a w := by
  refine wpList_plain hgd fun K hK' => ?_
  obtain ⟨v', w', hr, h2, h3⟩ := run_own0i w B v0 _ l h0 h hl hB
  unfold Oper.wp execOp
  simp only [ho, resolve, invoke, builtin, Sem.run_bind, Sem.run_pure, Result.andThen_ok, List.map_toArray, List.map_cons, List.map_nil, hs, ht, hr]
  exact hK' _ _ (hK v' w' h2 h3)
theorem takesN_two {op : Int} (h1 : 5 ≤ op) (h2 : op ≤ 17) : takesN op = 2 := by
  unfold takesN
  rw [if_neg (by omega), if_neg (by omega), if_neg (by omega), if_neg (by omega), if_pos ⟨h1, h2⟩]
theorem takesN_one {op : Int} (h1 : 18 ≤ op) (h2 : op ≤ 22) : takesN op = 1 := by
  unfold takesN
  rw [if_neg (by omega), if_neg (by omega), if_neg (by omega), if_neg (by omega), if_neg (by omega), if_pos ⟨h1, h2⟩]
theorem makesN_one {op : Int} (h1 : 5 ≤ op) (h2 : op ≤ 22) : makesN op = 1 := by
  unfold makesN
  rw [if_neg (by omega), if_neg (by omega), if_neg (by omega), if_neg (by omega), if_neg (by omega), if_pos ⟨by omega, by omega⟩]
set_option maxRecDepth 100000 in
set_option maxHeartbeats 8000000 in
theorem rtakes_any (w : World) (i : PMach) (A : Option Addr) (n k : Nat) (hv : Ints w (.slice A n k) i.args) (hl : i.args.length ≤ 1000000) :
    Calls Try.prog 30 #[.agg #[.int .i64 i.op, .int .i64 i.d, .int .i64 i.e, .int .i64 i.a, .int .i64 i.b, .int .i64 i.c, .int .i32 i.imm, .slice A n k]] w (RowPost (takesL i) w) := by
  obtain ⟨op, d, e, a, b, c, imm, args⟩ := i
  simp only at *
  have HV := Lib.hid hv
  clear hv
  rcases (show op = 1 ∨ op = 2 ∨ op = 3 ∨ op = 4 ∨ (5 ≤ op ∧ op ≤ 17) ∨ (18 ≤ op ∧ op ≤ 22) ∨ op = 23 ∨ op = 24 ∨ op = 25 ∨ op = 26 ∨ op = 27 ∨ op = 28 ∨ op = 29 ∨ op = 30 ∨ op = 31 ∨ op < 1 ∨ 31 < op by omega) with h | h | h | h | h | h | h | h | h | h | h | h | h | h | h | h | h
  · subst h
    have HT := Lib.hid (show takesL ⟨1, d, e, a, b, c, imm, args⟩ = [a] from rfl)
    go_enter Try.func30, Try.ntmps30
    go_upto_region 1 with (fail)
    obtain ⟨W1, hW1⟩ : ∃ W1, w.alloc (.cells #[.int .i64 1, .int .i64 d, .int .i64 e, .int .i64 a, .int .i64 b, .int .i64 c, .int .i32 imm, .slice A n k] 24) = W1 := ⟨_, rfl⟩
    have hbW1 : Below w.heap.size w W1 := by rw [← hW1]; exact (Below.refl _ _).alloc (Nat.le_refl _) _
    have hsW1 : Str W1 w.heap.size 24 [.int .i64 1, .int .i64 d, .int .i64 e, .int .i64 a, .int .i64 b, .int .i64 c, .int .i32 imm, .slice A n k] := by rw [← hW1]; exact World.alloc_heap_new w _
    rw [hW1]
    clear hW1
    have m0 : W1.cell? ⟨w.heap.size, 0, none⟩ = some (.int .i64 1) := hsW1.cell 0
    have m1 : W1.cell? ⟨w.heap.size, 1, none⟩ = some (.int .i64 d) := hsW1.cell 1
    have m2 : W1.cell? ⟨w.heap.size, 2, none⟩ = some (.int .i64 e) := hsW1.cell 2
    have m3 : W1.cell? ⟨w.heap.size, 3, none⟩ = some (.int .i64 a) := hsW1.cell 3
    have m4 : W1.cell? ⟨w.heap.size, 4, none⟩ = some (.int .i64 b) := hsW1.cell 4
    have m5 : W1.cell? ⟨w.heap.size, 5, none⟩ = some (.int .i64 c) := hsW1.cell 5
    have m6 : W1.cell? ⟨w.heap.size, 6, none⟩ = some (.int .i32 imm) := hsW1.cell 6
    have m7 : W1.cell? ⟨w.heap.size, 7, none⟩ = some (.slice A n k) := hsW1.cell 7
    have HB := Lib.hid hbW1
    clear hsW1 hbW1
    go_wp2
    go_ret
    refine ⟨_, rfl, ?_, HB.out.alloc HB.out.size _⟩
    rw [HT.out]
    exact World.ownsRow_lit W1 #[.int .i64 a] 1 HB.out.size (by decide) rfl
  · subst h
    have HT := Lib.hid (show takesL ⟨2, d, e, a, b, c, imm, args⟩ = [a, b] from rfl)
    go_enter Try.func30, Try.ntmps30
    go_upto_region 1 with (fail)
    obtain ⟨W1, hW1⟩ : ∃ W1, w.alloc (.cells #[.int .i64 2, .int .i64 d, .int .i64 e, .int .i64 a, .int .i64 b, .int .i64 c, .int .i32 imm, .slice A n k] 24) = W1 := ⟨_, rfl⟩
    have hbW1 : Below w.heap.size w W1 := by rw [← hW1]; exact (Below.refl _ _).alloc (Nat.le_refl _) _
    have hsW1 : Str W1 w.heap.size 24 [.int .i64 2, .int .i64 d, .int .i64 e, .int .i64 a, .int .i64 b, .int .i64 c, .int .i32 imm, .slice A n k] := by rw [← hW1]; exact World.alloc_heap_new w _
    rw [hW1]
    clear hW1
    have m0 : W1.cell? ⟨w.heap.size, 0, none⟩ = some (.int .i64 2) := hsW1.cell 0
    have m1 : W1.cell? ⟨w.heap.size, 1, none⟩ = some (.int .i64 d) := hsW1.cell 1
    have m2 : W1.cell? ⟨w.heap.size, 2, none⟩ = some (.int .i64 e) := hsW1.cell 2
    have m3 : W1.cell? ⟨w.heap.size, 3, none⟩ = some (.int .i64 a) := hsW1.cell 3
    have m4 : W1.cell? ⟨w.heap.size, 4, none⟩ = some (.int .i64 b) := hsW1.cell 4
    have m5 : W1.cell? ⟨w.heap.size, 5, none⟩ = some (.int .i64 c) := hsW1.cell 5
    have m6 : W1.cell? ⟨w.heap.size, 6, none⟩ = some (.int .i32 imm) := hsW1.cell 6
    have m7 : W1.cell? ⟨w.heap.size, 7, none⟩ = some (.slice A n k) := hsW1.cell 7
    have HB := Lib.hid hbW1
    clear hsW1 hbW1
    go_wp2
    go_ret
    refine ⟨_, rfl, ?_, HB.out.alloc HB.out.size _⟩
    rw [HT.out]
    exact World.ownsRow_lit W1 #[.int .i64 a, .int .i64 b] 2 HB.out.size (by decide) rfl
  · subst h
    have HT := Lib.hid (show takesL ⟨3, d, e, a, b, c, imm, args⟩ = [] from rfl)
    go_enter Try.func30, Try.ntmps30
    go_upto_region 1 with (fail)
    obtain ⟨W1, hW1⟩ : ∃ W1, w.alloc (.cells #[.int .i64 3, .int .i64 d, .int .i64 e, .int .i64 a, .int .i64 b, .int .i64 c, .int .i32 imm, .slice A n k] 24) = W1 := ⟨_, rfl⟩
    have hbW1 : Below w.heap.size w W1 := by rw [← hW1]; exact (Below.refl _ _).alloc (Nat.le_refl _) _
    have hsW1 : Str W1 w.heap.size 24 [.int .i64 3, .int .i64 d, .int .i64 e, .int .i64 a, .int .i64 b, .int .i64 c, .int .i32 imm, .slice A n k] := by rw [← hW1]; exact World.alloc_heap_new w _
    rw [hW1]
    clear hW1
    have m0 : W1.cell? ⟨w.heap.size, 0, none⟩ = some (.int .i64 3) := hsW1.cell 0
    have m1 : W1.cell? ⟨w.heap.size, 1, none⟩ = some (.int .i64 d) := hsW1.cell 1
    have m2 : W1.cell? ⟨w.heap.size, 2, none⟩ = some (.int .i64 e) := hsW1.cell 2
    have m3 : W1.cell? ⟨w.heap.size, 3, none⟩ = some (.int .i64 a) := hsW1.cell 3
    have m4 : W1.cell? ⟨w.heap.size, 4, none⟩ = some (.int .i64 b) := hsW1.cell 4
    have m5 : W1.cell? ⟨w.heap.size, 5, none⟩ = some (.int .i64 c) := hsW1.cell 5
    have m6 : W1.cell? ⟨w.heap.size, 6, none⟩ = some (.int .i32 imm) := hsW1.cell 6
    have m7 : W1.cell? ⟨w.heap.size, 7, none⟩ = some (.slice A n k) := hsW1.cell 7
    have HB := Lib.hid hbW1
    clear hsW1 hbW1
    go_wp2
    go_ret
    refine ⟨_, rfl, ?_, HB.out⟩
    rw [HT.out]
    exact World.ownsRow_nil _ _ _ _
  · subst h
    have HT := Lib.hid (show takesL ⟨4, d, e, a, b, c, imm, args⟩ = [] from rfl)
    go_enter Try.func30, Try.ntmps30
    go_upto_region 1 with (fail)
    obtain ⟨W1, hW1⟩ : ∃ W1, w.alloc (.cells #[.int .i64 4, .int .i64 d, .int .i64 e, .int .i64 a, .int .i64 b, .int .i64 c, .int .i32 imm, .slice A n k] 24) = W1 := ⟨_, rfl⟩
    have hbW1 : Below w.heap.size w W1 := by rw [← hW1]; exact (Below.refl _ _).alloc (Nat.le_refl _) _
    have hsW1 : Str W1 w.heap.size 24 [.int .i64 4, .int .i64 d, .int .i64 e, .int .i64 a, .int .i64 b, .int .i64 c, .int .i32 imm, .slice A n k] := by rw [← hW1]; exact World.alloc_heap_new w _
    rw [hW1]
    clear hW1
    have m0 : W1.cell? ⟨w.heap.size, 0, none⟩ = some (.int .i64 4) := hsW1.cell 0
    have m1 : W1.cell? ⟨w.heap.size, 1, none⟩ = some (.int .i64 d) := hsW1.cell 1
    have m2 : W1.cell? ⟨w.heap.size, 2, none⟩ = some (.int .i64 e) := hsW1.cell 2
    have m3 : W1.cell? ⟨w.heap.size, 3, none⟩ = some (.int .i64 a) := hsW1.cell 3
    have m4 : W1.cell? ⟨w.heap.size, 4, none⟩ = some (.int .i64 b) := hsW1.cell 4
    have m5 : W1.cell? ⟨w.heap.size, 5, none⟩ = some (.int .i64 c) := hsW1.cell 5
    have m6 : W1.cell? ⟨w.heap.size, 6, none⟩ = some (.int .i32 imm) := hsW1.cell 6
    have m7 : W1.cell? ⟨w.heap.size, 7, none⟩ = some (.slice A n k) := hsW1.cell 7
    have HB := Lib.hid hbW1
    clear hsW1 hbW1
    go_wp2
    go_ret
    refine ⟨_, rfl, ?_, HB.out⟩
    rw [HT.out]
    exact World.ownsRow_nil _ _ _ _
  · obtain ⟨h1, h2⟩ := h
    have g1 : (op == 1) = false := beq_eq_false_iff_ne.2 (by omega)
    have g24 : (op == 24) = false := beq_eq_false_iff_ne.2 (by omega)
    have g31 : (op == 31) = false := beq_eq_false_iff_ne.2 (by omega)
    have g2 : (op == 2) = false := beq_eq_false_iff_ne.2 (by omega)
    have g25 : (op == 25) = false := beq_eq_false_iff_ne.2 (by omega)
    have g26 : (op == 26) = false := beq_eq_false_iff_ne.2 (by omega)
    have g29 : (op == 29) = false := beq_eq_false_iff_ne.2 (by omega)
    have g23 : (op == 23) = false := beq_eq_false_iff_ne.2 (by omega)
    have g27 : (op == 27) = false := beq_eq_false_iff_ne.2 (by omega)
    have g28 : (op == 28) = false := beq_eq_false_iff_ne.2 (by omega)
    have HT := Lib.hid (show takesL ⟨op, d, e, a, b, c, imm, args⟩ = [a, b] from by unfold takesL; rw [if_neg (by simp only; omega), show takesN _ = 2 from takesN_two h1 h2]; rfl)
    go_enter Try.func30, Try.ntmps30
    go_upto_region 1 with (fail)
    obtain ⟨W1, hW1⟩ : ∃ W1, w.alloc (.cells #[.int .i64 op, .int .i64 d, .int .i64 e, .int .i64 a, .int .i64 b, .int .i64 c, .int .i32 imm, .slice A n k] 24) = W1 := ⟨_, rfl⟩
    have hbW1 : Below w.heap.size w W1 := by rw [← hW1]; exact (Below.refl _ _).alloc (Nat.le_refl _) _
    have hsW1 : Str W1 w.heap.size 24 [.int .i64 op, .int .i64 d, .int .i64 e, .int .i64 a, .int .i64 b, .int .i64 c, .int .i32 imm, .slice A n k] := by rw [← hW1]; exact World.alloc_heap_new w _
    rw [hW1]
    clear hW1
    have m0 : W1.cell? ⟨w.heap.size, 0, none⟩ = some (.int .i64 op) := hsW1.cell 0
    have m1 : W1.cell? ⟨w.heap.size, 1, none⟩ = some (.int .i64 d) := hsW1.cell 1
    have m2 : W1.cell? ⟨w.heap.size, 2, none⟩ = some (.int .i64 e) := hsW1.cell 2
    have m3 : W1.cell? ⟨w.heap.size, 3, none⟩ = some (.int .i64 a) := hsW1.cell 3
    have m4 : W1.cell? ⟨w.heap.size, 4, none⟩ = some (.int .i64 b) := hsW1.cell 4
    have m5 : W1.cell? ⟨w.heap.size, 5, none⟩ = some (.int .i64 c) := hsW1.cell 5
    have m6 : W1.cell? ⟨w.heap.size, 6, none⟩ = some (.int .i32 imm) := hsW1.cell 6
    have m7 : W1.cell? ⟨w.heap.size, 7, none⟩ = some (.slice A n k) := hsW1.cell 7
    have HB := Lib.hid hbW1
    clear hsW1 hbW1
    go_wp2
    go_ret
    refine ⟨_, rfl, ?_, HB.out.alloc HB.out.size _⟩
    rw [HT.out]
    exact World.ownsRow_lit W1 #[.int .i64 a, .int .i64 b] 2 HB.out.size (by decide) rfl
  · obtain ⟨h1, h2⟩ := h
    have g1 : (op == 1) = false := beq_eq_false_iff_ne.2 (by omega)
    have g24 : (op == 24) = false := beq_eq_false_iff_ne.2 (by omega)
    have g31 : (op == 31) = false := beq_eq_false_iff_ne.2 (by omega)
    have g2 : (op == 2) = false := beq_eq_false_iff_ne.2 (by omega)
    have g25 : (op == 25) = false := beq_eq_false_iff_ne.2 (by omega)
    have g26 : (op == 26) = false := beq_eq_false_iff_ne.2 (by omega)
    have g29 : (op == 29) = false := beq_eq_false_iff_ne.2 (by omega)
    have g23 : (op == 23) = false := beq_eq_false_iff_ne.2 (by omega)
    have g27 : (op == 27) = false := beq_eq_false_iff_ne.2 (by omega)
    have g28 : (op == 28) = false := beq_eq_false_iff_ne.2 (by omega)
    have HT := Lib.hid (show takesL ⟨op, d, e, a, b, c, imm, args⟩ = [a] from by unfold takesL; rw [if_neg (by simp only; omega), show takesN _ = 1 from takesN_one h1 h2]; rfl)
    go_enter Try.func30, Try.ntmps30
    go_upto_region 1 with (fail)
    obtain ⟨W1, hW1⟩ : ∃ W1, w.alloc (.cells #[.int .i64 op, .int .i64 d, .int .i64 e, .int .i64 a, .int .i64 b, .int .i64 c, .int .i32 imm, .slice A n k] 24) = W1 := ⟨_, rfl⟩
    have hbW1 : Below w.heap.size w W1 := by rw [← hW1]; exact (Below.refl _ _).alloc (Nat.le_refl _) _
    have hsW1 : Str W1 w.heap.size 24 [.int .i64 op, .int .i64 d, .int .i64 e, .int .i64 a, .int .i64 b, .int .i64 c, .int .i32 imm, .slice A n k] := by rw [← hW1]; exact World.alloc_heap_new w _
    rw [hW1]
    clear hW1
    have m0 : W1.cell? ⟨w.heap.size, 0, none⟩ = some (.int .i64 op) := hsW1.cell 0
    have m1 : W1.cell? ⟨w.heap.size, 1, none⟩ = some (.int .i64 d) := hsW1.cell 1
    have m2 : W1.cell? ⟨w.heap.size, 2, none⟩ = some (.int .i64 e) := hsW1.cell 2
    have m3 : W1.cell? ⟨w.heap.size, 3, none⟩ = some (.int .i64 a) := hsW1.cell 3
    have m4 : W1.cell? ⟨w.heap.size, 4, none⟩ = some (.int .i64 b) := hsW1.cell 4
    have m5 : W1.cell? ⟨w.heap.size, 5, none⟩ = some (.int .i64 c) := hsW1.cell 5
    have m6 : W1.cell? ⟨w.heap.size, 6, none⟩ = some (.int .i32 imm) := hsW1.cell 6
    have m7 : W1.cell? ⟨w.heap.size, 7, none⟩ = some (.slice A n k) := hsW1.cell 7
    have HB := Lib.hid hbW1
    clear hsW1 hbW1
    go_wp2
    go_ret
    refine ⟨_, rfl, ?_, HB.out.alloc HB.out.size _⟩
    rw [HT.out]
    exact World.ownsRow_lit W1 #[.int .i64 a] 1 HB.out.size (by decide) rfl
  · subst h
    have HT := Lib.hid (show takesL ⟨23, d, e, a, b, c, imm, args⟩ = [a, b, c] from rfl)
    go_enter Try.func30, Try.ntmps30
    go_upto_region 1 with (fail)
    obtain ⟨W1, hW1⟩ : ∃ W1, w.alloc (.cells #[.int .i64 23, .int .i64 d, .int .i64 e, .int .i64 a, .int .i64 b, .int .i64 c, .int .i32 imm, .slice A n k] 24) = W1 := ⟨_, rfl⟩
    have hbW1 : Below w.heap.size w W1 := by rw [← hW1]; exact (Below.refl _ _).alloc (Nat.le_refl _) _
    have hsW1 : Str W1 w.heap.size 24 [.int .i64 23, .int .i64 d, .int .i64 e, .int .i64 a, .int .i64 b, .int .i64 c, .int .i32 imm, .slice A n k] := by rw [← hW1]; exact World.alloc_heap_new w _
    rw [hW1]
    clear hW1
    have m0 : W1.cell? ⟨w.heap.size, 0, none⟩ = some (.int .i64 23) := hsW1.cell 0
    have m1 : W1.cell? ⟨w.heap.size, 1, none⟩ = some (.int .i64 d) := hsW1.cell 1
    have m2 : W1.cell? ⟨w.heap.size, 2, none⟩ = some (.int .i64 e) := hsW1.cell 2
    have m3 : W1.cell? ⟨w.heap.size, 3, none⟩ = some (.int .i64 a) := hsW1.cell 3
    have m4 : W1.cell? ⟨w.heap.size, 4, none⟩ = some (.int .i64 b) := hsW1.cell 4
    have m5 : W1.cell? ⟨w.heap.size, 5, none⟩ = some (.int .i64 c) := hsW1.cell 5
    have m6 : W1.cell? ⟨w.heap.size, 6, none⟩ = some (.int .i32 imm) := hsW1.cell 6
    have m7 : W1.cell? ⟨w.heap.size, 7, none⟩ = some (.slice A n k) := hsW1.cell 7
    have HB := Lib.hid hbW1
    clear hsW1 hbW1
    go_wp2
    go_ret
    refine ⟨_, rfl, ?_, HB.out.alloc HB.out.size _⟩
    rw [HT.out]
    exact World.ownsRow_lit W1 #[.int .i64 a, .int .i64 b, .int .i64 c] 3 HB.out.size (by decide) rfl
  · subst h
    have HT := Lib.hid (show takesL ⟨24, d, e, a, b, c, imm, args⟩ = [a] from rfl)
    go_enter Try.func30, Try.ntmps30
    go_upto_region 1 with (fail)
    obtain ⟨W1, hW1⟩ : ∃ W1, w.alloc (.cells #[.int .i64 24, .int .i64 d, .int .i64 e, .int .i64 a, .int .i64 b, .int .i64 c, .int .i32 imm, .slice A n k] 24) = W1 := ⟨_, rfl⟩
    have hbW1 : Below w.heap.size w W1 := by rw [← hW1]; exact (Below.refl _ _).alloc (Nat.le_refl _) _
    have hsW1 : Str W1 w.heap.size 24 [.int .i64 24, .int .i64 d, .int .i64 e, .int .i64 a, .int .i64 b, .int .i64 c, .int .i32 imm, .slice A n k] := by rw [← hW1]; exact World.alloc_heap_new w _
    rw [hW1]
    clear hW1
    have m0 : W1.cell? ⟨w.heap.size, 0, none⟩ = some (.int .i64 24) := hsW1.cell 0
    have m1 : W1.cell? ⟨w.heap.size, 1, none⟩ = some (.int .i64 d) := hsW1.cell 1
    have m2 : W1.cell? ⟨w.heap.size, 2, none⟩ = some (.int .i64 e) := hsW1.cell 2
    have m3 : W1.cell? ⟨w.heap.size, 3, none⟩ = some (.int .i64 a) := hsW1.cell 3
    have m4 : W1.cell? ⟨w.heap.size, 4, none⟩ = some (.int .i64 b) := hsW1.cell 4
    have m5 : W1.cell? ⟨w.heap.size, 5, none⟩ = some (.int .i64 c) := hsW1.cell 5
    have m6 : W1.cell? ⟨w.heap.size, 6, none⟩ = some (.int .i32 imm) := hsW1.cell 6
    have m7 : W1.cell? ⟨w.heap.size, 7, none⟩ = some (.slice A n k) := hsW1.cell 7
    have HB := Lib.hid hbW1
    clear hsW1 hbW1
    go_wp2
    go_ret
    refine ⟨_, rfl, ?_, HB.out.alloc HB.out.size _⟩
    rw [HT.out]
    exact World.ownsRow_lit W1 #[.int .i64 a] 1 HB.out.size (by decide) rfl
  · subst h
    have HT := Lib.hid (show takesL ⟨25, d, e, a, b, c, imm, args⟩ = [a, b] from rfl)
    go_enter Try.func30, Try.ntmps30
    go_upto_region 1 with (fail)
    obtain ⟨W1, hW1⟩ : ∃ W1, w.alloc (.cells #[.int .i64 25, .int .i64 d, .int .i64 e, .int .i64 a, .int .i64 b, .int .i64 c, .int .i32 imm, .slice A n k] 24) = W1 := ⟨_, rfl⟩
    have hbW1 : Below w.heap.size w W1 := by rw [← hW1]; exact (Below.refl _ _).alloc (Nat.le_refl _) _
    have hsW1 : Str W1 w.heap.size 24 [.int .i64 25, .int .i64 d, .int .i64 e, .int .i64 a, .int .i64 b, .int .i64 c, .int .i32 imm, .slice A n k] := by rw [← hW1]; exact World.alloc_heap_new w _
    rw [hW1]
    clear hW1
    have m0 : W1.cell? ⟨w.heap.size, 0, none⟩ = some (.int .i64 25) := hsW1.cell 0
    have m1 : W1.cell? ⟨w.heap.size, 1, none⟩ = some (.int .i64 d) := hsW1.cell 1
    have m2 : W1.cell? ⟨w.heap.size, 2, none⟩ = some (.int .i64 e) := hsW1.cell 2
    have m3 : W1.cell? ⟨w.heap.size, 3, none⟩ = some (.int .i64 a) := hsW1.cell 3
    have m4 : W1.cell? ⟨w.heap.size, 4, none⟩ = some (.int .i64 b) := hsW1.cell 4
    have m5 : W1.cell? ⟨w.heap.size, 5, none⟩ = some (.int .i64 c) := hsW1.cell 5
    have m6 : W1.cell? ⟨w.heap.size, 6, none⟩ = some (.int .i32 imm) := hsW1.cell 6
    have m7 : W1.cell? ⟨w.heap.size, 7, none⟩ = some (.slice A n k) := hsW1.cell 7
    have HB := Lib.hid hbW1
    clear hsW1 hbW1
    go_wp2
    go_ret
    refine ⟨_, rfl, ?_, HB.out.alloc HB.out.size _⟩
    rw [HT.out]
    exact World.ownsRow_lit W1 #[.int .i64 a, .int .i64 b] 2 HB.out.size (by decide) rfl
  · subst h
    have HT := Lib.hid (show takesL ⟨26, d, e, a, b, c, imm, args⟩ = [a, b] from rfl)
    go_enter Try.func30, Try.ntmps30
    go_upto_region 1 with (fail)
    obtain ⟨W1, hW1⟩ : ∃ W1, w.alloc (.cells #[.int .i64 26, .int .i64 d, .int .i64 e, .int .i64 a, .int .i64 b, .int .i64 c, .int .i32 imm, .slice A n k] 24) = W1 := ⟨_, rfl⟩
    have hbW1 : Below w.heap.size w W1 := by rw [← hW1]; exact (Below.refl _ _).alloc (Nat.le_refl _) _
    have hsW1 : Str W1 w.heap.size 24 [.int .i64 26, .int .i64 d, .int .i64 e, .int .i64 a, .int .i64 b, .int .i64 c, .int .i32 imm, .slice A n k] := by rw [← hW1]; exact World.alloc_heap_new w _
    rw [hW1]
    clear hW1
    have m0 : W1.cell? ⟨w.heap.size, 0, none⟩ = some (.int .i64 26) := hsW1.cell 0
    have m1 : W1.cell? ⟨w.heap.size, 1, none⟩ = some (.int .i64 d) := hsW1.cell 1
    have m2 : W1.cell? ⟨w.heap.size, 2, none⟩ = some (.int .i64 e) := hsW1.cell 2
    have m3 : W1.cell? ⟨w.heap.size, 3, none⟩ = some (.int .i64 a) := hsW1.cell 3
    have m4 : W1.cell? ⟨w.heap.size, 4, none⟩ = some (.int .i64 b) := hsW1.cell 4
    have m5 : W1.cell? ⟨w.heap.size, 5, none⟩ = some (.int .i64 c) := hsW1.cell 5
    have m6 : W1.cell? ⟨w.heap.size, 6, none⟩ = some (.int .i32 imm) := hsW1.cell 6
    have m7 : W1.cell? ⟨w.heap.size, 7, none⟩ = some (.slice A n k) := hsW1.cell 7
    have HB := Lib.hid hbW1
    clear hsW1 hbW1
    go_wp2
    go_ret
    refine ⟨_, rfl, ?_, HB.out.alloc HB.out.size _⟩
    rw [HT.out]
    exact World.ownsRow_lit W1 #[.int .i64 a, .int .i64 b] 2 HB.out.size (by decide) rfl
  · subst h
    have HT := Lib.hid (show takesL ⟨27, d, e, a, b, c, imm, args⟩ = [a, b, c] from rfl)
    go_enter Try.func30, Try.ntmps30
    go_upto_region 1 with (fail)
    obtain ⟨W1, hW1⟩ : ∃ W1, w.alloc (.cells #[.int .i64 27, .int .i64 d, .int .i64 e, .int .i64 a, .int .i64 b, .int .i64 c, .int .i32 imm, .slice A n k] 24) = W1 := ⟨_, rfl⟩
    have hbW1 : Below w.heap.size w W1 := by rw [← hW1]; exact (Below.refl _ _).alloc (Nat.le_refl _) _
    have hsW1 : Str W1 w.heap.size 24 [.int .i64 27, .int .i64 d, .int .i64 e, .int .i64 a, .int .i64 b, .int .i64 c, .int .i32 imm, .slice A n k] := by rw [← hW1]; exact World.alloc_heap_new w _
    rw [hW1]
    clear hW1
    have m0 : W1.cell? ⟨w.heap.size, 0, none⟩ = some (.int .i64 27) := hsW1.cell 0
    have m1 : W1.cell? ⟨w.heap.size, 1, none⟩ = some (.int .i64 d) := hsW1.cell 1
    have m2 : W1.cell? ⟨w.heap.size, 2, none⟩ = some (.int .i64 e) := hsW1.cell 2
    have m3 : W1.cell? ⟨w.heap.size, 3, none⟩ = some (.int .i64 a) := hsW1.cell 3
    have m4 : W1.cell? ⟨w.heap.size, 4, none⟩ = some (.int .i64 b) := hsW1.cell 4
    have m5 : W1.cell? ⟨w.heap.size, 5, none⟩ = some (.int .i64 c) := hsW1.cell 5
    have m6 : W1.cell? ⟨w.heap.size, 6, none⟩ = some (.int .i32 imm) := hsW1.cell 6
    have m7 : W1.cell? ⟨w.heap.size, 7, none⟩ = some (.slice A n k) := hsW1.cell 7
    have HB := Lib.hid hbW1
    clear hsW1 hbW1
    go_wp2
    go_ret
    refine ⟨_, rfl, ?_, HB.out.alloc HB.out.size _⟩
    rw [HT.out]
    exact World.ownsRow_lit W1 #[.int .i64 a, .int .i64 b, .int .i64 c] 3 HB.out.size (by decide) rfl
  · subst h
    have HT := Lib.hid (show takesL ⟨28, d, e, a, b, c, imm, args⟩ = args from rfl)
    go_enter Try.func30, Try.ntmps30
    go_upto_region 1 with (fail)
    obtain ⟨W1, hW1⟩ : ∃ W1, w.alloc (.cells #[.int .i64 28, .int .i64 d, .int .i64 e, .int .i64 a, .int .i64 b, .int .i64 c, .int .i32 imm, .slice A n k] 24) = W1 := ⟨_, rfl⟩
    have hbW1 : Below w.heap.size w W1 := by rw [← hW1]; exact (Below.refl _ _).alloc (Nat.le_refl _) _
    have hsW1 : Str W1 w.heap.size 24 [.int .i64 28, .int .i64 d, .int .i64 e, .int .i64 a, .int .i64 b, .int .i64 c, .int .i32 imm, .slice A n k] := by rw [← hW1]; exact World.alloc_heap_new w _
    rw [hW1]
    clear hW1
    have m0 : W1.cell? ⟨w.heap.size, 0, none⟩ = some (.int .i64 28) := hsW1.cell 0
    have m1 : W1.cell? ⟨w.heap.size, 1, none⟩ = some (.int .i64 d) := hsW1.cell 1
    have m2 : W1.cell? ⟨w.heap.size, 2, none⟩ = some (.int .i64 e) := hsW1.cell 2
    have m3 : W1.cell? ⟨w.heap.size, 3, none⟩ = some (.int .i64 a) := hsW1.cell 3
    have m4 : W1.cell? ⟨w.heap.size, 4, none⟩ = some (.int .i64 b) := hsW1.cell 4
    have m5 : W1.cell? ⟨w.heap.size, 5, none⟩ = some (.int .i64 c) := hsW1.cell 5
    have m6 : W1.cell? ⟨w.heap.size, 6, none⟩ = some (.int .i32 imm) := hsW1.cell 6
    have m7 : W1.cell? ⟨w.heap.size, 7, none⟩ = some (.slice A n k) := hsW1.cell 7
    have HB := Lib.hid hbW1
    have HV1 := Lib.hid (HV.out.keep hbW1)
    have m7b : (W1.alloc (.cells #[] 3)).cell? ⟨w.heap.size, 7, none⟩ = some (.slice A n k) := cell_keep ((Below.refl _ _).alloc (Nat.le_refl _) _) (Nat.le_refl _) m7
    clear hsW1 hbW1
    go_wp2_with (at_builtin; refine wpList_own0i rfl _ _ rfl rfl W1.heap.size _ args rfl (empty_own W1 _ 1) ?c1 ?c2 ?c3 ?_)
    case c1 => exact HV1.out.keep ((Below.refl _ _).alloc (Nat.le_refl _) _)
    case c2 => exact hl
    case c3 => simp
    intro v' w3 ho hg3
    have hb3 := below_of_own ((Below.refl W1.heap.size W1).alloc (Nat.le_refl _) _) hg3 (fun g hg => by have e2 : W1.heap.size = g := Option.some.inj hg; omega)
    have HO := Lib.hid (own_base (show w3.ownsRow _ _ _ _ _ _ from ho) HB.out.size)
    have HB3 := Lib.hid (HB.out.trans (hb3.mono HB.out.size))
    clear ho hg3 hb3
    go_wp2
    go_ret
    exact ⟨v', rfl, by rw [HT.out]; exact HO.out, HB3.out⟩
  · subst h
    have HT := Lib.hid (show takesL ⟨29, d, e, a, b, c, imm, args⟩ = [a, b] from rfl)
    go_enter Try.func30, Try.ntmps30
    go_upto_region 1 with (fail)
    obtain ⟨W1, hW1⟩ : ∃ W1, w.alloc (.cells #[.int .i64 29, .int .i64 d, .int .i64 e, .int .i64 a, .int .i64 b, .int .i64 c, .int .i32 imm, .slice A n k] 24) = W1 := ⟨_, rfl⟩
    have hbW1 : Below w.heap.size w W1 := by rw [← hW1]; exact (Below.refl _ _).alloc (Nat.le_refl _) _
    have hsW1 : Str W1 w.heap.size 24 [.int .i64 29, .int .i64 d, .int .i64 e, .int .i64 a, .int .i64 b, .int .i64 c, .int .i32 imm, .slice A n k] := by rw [← hW1]; exact World.alloc_heap_new w _
    rw [hW1]
    clear hW1
    have m0 : W1.cell? ⟨w.heap.size, 0, none⟩ = some (.int .i64 29) := hsW1.cell 0
    have m1 : W1.cell? ⟨w.heap.size, 1, none⟩ = some (.int .i64 d) := hsW1.cell 1
    have m2 : W1.cell? ⟨w.heap.size, 2, none⟩ = some (.int .i64 e) := hsW1.cell 2
    have m3 : W1.cell? ⟨w.heap.size, 3, none⟩ = some (.int .i64 a) := hsW1.cell 3
    have m4 : W1.cell? ⟨w.heap.size, 4, none⟩ = some (.int .i64 b) := hsW1.cell 4
    have m5 : W1.cell? ⟨w.heap.size, 5, none⟩ = some (.int .i64 c) := hsW1.cell 5
    have m6 : W1.cell? ⟨w.heap.size, 6, none⟩ = some (.int .i32 imm) := hsW1.cell 6
    have m7 : W1.cell? ⟨w.heap.size, 7, none⟩ = some (.slice A n k) := hsW1.cell 7
    have HB := Lib.hid hbW1
    clear hsW1 hbW1
    go_wp2
    go_ret
    refine ⟨_, rfl, ?_, HB.out.alloc HB.out.size _⟩
    rw [HT.out]
    exact World.ownsRow_lit W1 #[.int .i64 a, .int .i64 b] 2 HB.out.size (by decide) rfl
  · subst h
    have HT := Lib.hid (show takesL ⟨30, d, e, a, b, c, imm, args⟩ = [] from rfl)
    go_enter Try.func30, Try.ntmps30
    go_upto_region 1 with (fail)
    obtain ⟨W1, hW1⟩ : ∃ W1, w.alloc (.cells #[.int .i64 30, .int .i64 d, .int .i64 e, .int .i64 a, .int .i64 b, .int .i64 c, .int .i32 imm, .slice A n k] 24) = W1 := ⟨_, rfl⟩
    have hbW1 : Below w.heap.size w W1 := by rw [← hW1]; exact (Below.refl _ _).alloc (Nat.le_refl _) _
    have hsW1 : Str W1 w.heap.size 24 [.int .i64 30, .int .i64 d, .int .i64 e, .int .i64 a, .int .i64 b, .int .i64 c, .int .i32 imm, .slice A n k] := by rw [← hW1]; exact World.alloc_heap_new w _
    rw [hW1]
    clear hW1
    have m0 : W1.cell? ⟨w.heap.size, 0, none⟩ = some (.int .i64 30) := hsW1.cell 0
    have m1 : W1.cell? ⟨w.heap.size, 1, none⟩ = some (.int .i64 d) := hsW1.cell 1
    have m2 : W1.cell? ⟨w.heap.size, 2, none⟩ = some (.int .i64 e) := hsW1.cell 2
    have m3 : W1.cell? ⟨w.heap.size, 3, none⟩ = some (.int .i64 a) := hsW1.cell 3
    have m4 : W1.cell? ⟨w.heap.size, 4, none⟩ = some (.int .i64 b) := hsW1.cell 4
    have m5 : W1.cell? ⟨w.heap.size, 5, none⟩ = some (.int .i64 c) := hsW1.cell 5
    have m6 : W1.cell? ⟨w.heap.size, 6, none⟩ = some (.int .i32 imm) := hsW1.cell 6
    have m7 : W1.cell? ⟨w.heap.size, 7, none⟩ = some (.slice A n k) := hsW1.cell 7
    have HB := Lib.hid hbW1
    clear hsW1 hbW1
    go_wp2
    go_ret
    refine ⟨_, rfl, ?_, HB.out⟩
    rw [HT.out]
    exact World.ownsRow_nil _ _ _ _
  · subst h
    have HT := Lib.hid (show takesL ⟨31, d, e, a, b, c, imm, args⟩ = [a] from rfl)
    go_enter Try.func30, Try.ntmps30
    go_upto_region 1 with (fail)
    obtain ⟨W1, hW1⟩ : ∃ W1, w.alloc (.cells #[.int .i64 31, .int .i64 d, .int .i64 e, .int .i64 a, .int .i64 b, .int .i64 c, .int .i32 imm, .slice A n k] 24) = W1 := ⟨_, rfl⟩
    have hbW1 : Below w.heap.size w W1 := by rw [← hW1]; exact (Below.refl _ _).alloc (Nat.le_refl _) _
    have hsW1 : Str W1 w.heap.size 24 [.int .i64 31, .int .i64 d, .int .i64 e, .int .i64 a, .int .i64 b, .int .i64 c, .int .i32 imm, .slice A n k] := by rw [← hW1]; exact World.alloc_heap_new w _
    rw [hW1]
    clear hW1
    have m0 : W1.cell? ⟨w.heap.size, 0, none⟩ = some (.int .i64 31) := hsW1.cell 0
    have m1 : W1.cell? ⟨w.heap.size, 1, none⟩ = some (.int .i64 d) := hsW1.cell 1
    have m2 : W1.cell? ⟨w.heap.size, 2, none⟩ = some (.int .i64 e) := hsW1.cell 2
    have m3 : W1.cell? ⟨w.heap.size, 3, none⟩ = some (.int .i64 a) := hsW1.cell 3
    have m4 : W1.cell? ⟨w.heap.size, 4, none⟩ = some (.int .i64 b) := hsW1.cell 4
    have m5 : W1.cell? ⟨w.heap.size, 5, none⟩ = some (.int .i64 c) := hsW1.cell 5
    have m6 : W1.cell? ⟨w.heap.size, 6, none⟩ = some (.int .i32 imm) := hsW1.cell 6
    have m7 : W1.cell? ⟨w.heap.size, 7, none⟩ = some (.slice A n k) := hsW1.cell 7
    have HB := Lib.hid hbW1
    clear hsW1 hbW1
    go_wp2
    go_ret
    refine ⟨_, rfl, ?_, HB.out.alloc HB.out.size _⟩
    rw [HT.out]
    exact World.ownsRow_lit W1 #[.int .i64 a] 1 HB.out.size (by decide) rfl
  · have g1 : (op == 1) = false := beq_eq_false_iff_ne.2 (by omega)
    have g24 : (op == 24) = false := beq_eq_false_iff_ne.2 (by omega)
    have g31 : (op == 31) = false := beq_eq_false_iff_ne.2 (by omega)
    have g2 : (op == 2) = false := beq_eq_false_iff_ne.2 (by omega)
    have g25 : (op == 25) = false := beq_eq_false_iff_ne.2 (by omega)
    have g26 : (op == 26) = false := beq_eq_false_iff_ne.2 (by omega)
    have g29 : (op == 29) = false := beq_eq_false_iff_ne.2 (by omega)
    have g23 : (op == 23) = false := beq_eq_false_iff_ne.2 (by omega)
    have g27 : (op == 27) = false := beq_eq_false_iff_ne.2 (by omega)
    have g28 : (op == 28) = false := beq_eq_false_iff_ne.2 (by omega)
    have HT := Lib.hid (show takesL ⟨op, d, e, a, b, c, imm, args⟩ = [] from by unfold takesL; rw [if_neg (by simp only; omega), show takesN _ = 0 from takesN_none (by simp only; omega)]; rfl)
    go_enter Try.func30, Try.ntmps30
    go_upto_region 1 with (fail)
    obtain ⟨W1, hW1⟩ : ∃ W1, w.alloc (.cells #[.int .i64 op, .int .i64 d, .int .i64 e, .int .i64 a, .int .i64 b, .int .i64 c, .int .i32 imm, .slice A n k] 24) = W1 := ⟨_, rfl⟩
    have hbW1 : Below w.heap.size w W1 := by rw [← hW1]; exact (Below.refl _ _).alloc (Nat.le_refl _) _
    have hsW1 : Str W1 w.heap.size 24 [.int .i64 op, .int .i64 d, .int .i64 e, .int .i64 a, .int .i64 b, .int .i64 c, .int .i32 imm, .slice A n k] := by rw [← hW1]; exact World.alloc_heap_new w _
    rw [hW1]
    clear hW1
    have m0 : W1.cell? ⟨w.heap.size, 0, none⟩ = some (.int .i64 op) := hsW1.cell 0
    have m1 : W1.cell? ⟨w.heap.size, 1, none⟩ = some (.int .i64 d) := hsW1.cell 1
    have m2 : W1.cell? ⟨w.heap.size, 2, none⟩ = some (.int .i64 e) := hsW1.cell 2
    have m3 : W1.cell? ⟨w.heap.size, 3, none⟩ = some (.int .i64 a) := hsW1.cell 3
    have m4 : W1.cell? ⟨w.heap.size, 4, none⟩ = some (.int .i64 b) := hsW1.cell 4
    have m5 : W1.cell? ⟨w.heap.size, 5, none⟩ = some (.int .i64 c) := hsW1.cell 5
    have m6 : W1.cell? ⟨w.heap.size, 6, none⟩ = some (.int .i32 imm) := hsW1.cell 6
    have m7 : W1.cell? ⟨w.heap.size, 7, none⟩ = some (.slice A n k) := hsW1.cell 7
    have HB := Lib.hid hbW1
    clear hsW1 hbW1
    go_wp2
    go_ret
    refine ⟨_, rfl, ?_, HB.out⟩
    rw [HT.out]
    exact World.ownsRow_nil _ _ _ _
  · have g1 : (op == 1) = false := beq_eq_false_iff_ne.2 (by omega)
    have g24 : (op == 24) = false := beq_eq_false_iff_ne.2 (by omega)
    have g31 : (op == 31) = false := beq_eq_false_iff_ne.2 (by omega)
    have g2 : (op == 2) = false := beq_eq_false_iff_ne.2 (by omega)
    have g25 : (op == 25) = false := beq_eq_false_iff_ne.2 (by omega)
    have g26 : (op == 26) = false := beq_eq_false_iff_ne.2 (by omega)
    have g29 : (op == 29) = false := beq_eq_false_iff_ne.2 (by omega)
    have g23 : (op == 23) = false := beq_eq_false_iff_ne.2 (by omega)
    have g27 : (op == 27) = false := beq_eq_false_iff_ne.2 (by omega)
    have g28 : (op == 28) = false := beq_eq_false_iff_ne.2 (by omega)
    have HT := Lib.hid (show takesL ⟨op, d, e, a, b, c, imm, args⟩ = [] from by unfold takesL; rw [if_neg (by simp only; omega), show takesN _ = 0 from takesN_none (by simp only; omega)]; rfl)
    go_enter Try.func30, Try.ntmps30
    go_upto_region 1 with (fail)
    obtain ⟨W1, hW1⟩ : ∃ W1, w.alloc (.cells #[.int .i64 op, .int .i64 d, .int .i64 e, .int .i64 a, .int .i64 b, .int .i64 c, .int .i32 imm, .slice A n k] 24) = W1 := ⟨_, rfl⟩
    have hbW1 : Below w.heap.size w W1 := by rw [← hW1]; exact (Below.refl _ _).alloc (Nat.le_refl _) _
    have hsW1 : Str W1 w.heap.size 24 [.int .i64 op, .int .i64 d, .int .i64 e, .int .i64 a, .int .i64 b, .int .i64 c, .int .i32 imm, .slice A n k] := by rw [← hW1]; exact World.alloc_heap_new w _
    rw [hW1]
    clear hW1
    have m0 : W1.cell? ⟨w.heap.size, 0, none⟩ = some (.int .i64 op) := hsW1.cell 0
    have m1 : W1.cell? ⟨w.heap.size, 1, none⟩ = some (.int .i64 d) := hsW1.cell 1
    have m2 : W1.cell? ⟨w.heap.size, 2, none⟩ = some (.int .i64 e) := hsW1.cell 2
    have m3 : W1.cell? ⟨w.heap.size, 3, none⟩ = some (.int .i64 a) := hsW1.cell 3
    have m4 : W1.cell? ⟨w.heap.size, 4, none⟩ = some (.int .i64 b) := hsW1.cell 4
    have m5 : W1.cell? ⟨w.heap.size, 5, none⟩ = some (.int .i64 c) := hsW1.cell 5
    have m6 : W1.cell? ⟨w.heap.size, 6, none⟩ = some (.int .i32 imm) := hsW1.cell 6
    have m7 : W1.cell? ⟨w.heap.size, 7, none⟩ = some (.slice A n k) := hsW1.cell 7
    have HB := Lib.hid hbW1
    clear hsW1 hbW1
    go_wp2
    go_ret
    refine ⟨_, rfl, ?_, HB.out⟩
    rw [HT.out]
    exact World.ownsRow_nil _ _ _ _
set_option maxRecDepth 100000 in
set_option maxHeartbeats 8000000 in
theorem rmakes_any (w : World) (i : PMach) (A : Option Addr) (n k : Nat) :
    Calls Try.prog 31 #[.agg #[.int .i64 i.op, .int .i64 i.d, .int .i64 i.e, .int .i64 i.a, .int .i64 i.b, .int .i64 i.c, .int .i32 i.imm, .slice A n k]] w (RowPost (makesL i) w) := by
  obtain ⟨op, d, e, a, b, c, imm, args⟩ := i
  simp only at *
  rcases (show op = 1 ∨ op = 2 ∨ op = 3 ∨ op = 4 ∨ (5 ≤ op ∧ op ≤ 17) ∨ (18 ≤ op ∧ op ≤ 22) ∨ op = 23 ∨ op = 24 ∨ op = 25 ∨ op = 26 ∨ op = 27 ∨ op = 28 ∨ op = 29 ∨ op = 30 ∨ op = 31 ∨ op < 1 ∨ 31 < op by omega) with h | h | h | h | h | h | h | h | h | h | h | h | h | h | h | h | h
  · subst h
    have HT := Lib.hid (show makesL ⟨1, d, e, a, b, c, imm, args⟩ = [d] from rfl)
    go_enter Try.func31, Try.ntmps31
    go_upto_region 1 with (fail)
    obtain ⟨W1, hW1⟩ : ∃ W1, w.alloc (.cells #[.int .i64 1, .int .i64 d, .int .i64 e, .int .i64 a, .int .i64 b, .int .i64 c, .int .i32 imm, .slice A n k] 24) = W1 := ⟨_, rfl⟩
    have hbW1 : Below w.heap.size w W1 := by rw [← hW1]; exact (Below.refl _ _).alloc (Nat.le_refl _) _
    have hsW1 : Str W1 w.heap.size 24 [.int .i64 1, .int .i64 d, .int .i64 e, .int .i64 a, .int .i64 b, .int .i64 c, .int .i32 imm, .slice A n k] := by rw [← hW1]; exact World.alloc_heap_new w _
    rw [hW1]
    clear hW1
    have m0 : W1.cell? ⟨w.heap.size, 0, none⟩ = some (.int .i64 1) := hsW1.cell 0
    have m1 : W1.cell? ⟨w.heap.size, 1, none⟩ = some (.int .i64 d) := hsW1.cell 1
    have m2 : W1.cell? ⟨w.heap.size, 2, none⟩ = some (.int .i64 e) := hsW1.cell 2
    have m3 : W1.cell? ⟨w.heap.size, 3, none⟩ = some (.int .i64 a) := hsW1.cell 3
    have m4 : W1.cell? ⟨w.heap.size, 4, none⟩ = some (.int .i64 b) := hsW1.cell 4
    have m5 : W1.cell? ⟨w.heap.size, 5, none⟩ = some (.int .i64 c) := hsW1.cell 5
    have m6 : W1.cell? ⟨w.heap.size, 6, none⟩ = some (.int .i32 imm) := hsW1.cell 6
    have m7 : W1.cell? ⟨w.heap.size, 7, none⟩ = some (.slice A n k) := hsW1.cell 7
    have HB := Lib.hid hbW1
    clear hsW1 hbW1
    go_wp2
    go_ret
    refine ⟨_, rfl, ?_, HB.out.alloc HB.out.size _⟩
    rw [HT.out]
    exact World.ownsRow_lit W1 #[.int .i64 d] 1 HB.out.size (by decide) rfl
  · subst h
    have HT := Lib.hid (show makesL ⟨2, d, e, a, b, c, imm, args⟩ = [a, b] from rfl)
    go_enter Try.func31, Try.ntmps31
    go_upto_region 1 with (fail)
    obtain ⟨W1, hW1⟩ : ∃ W1, w.alloc (.cells #[.int .i64 2, .int .i64 d, .int .i64 e, .int .i64 a, .int .i64 b, .int .i64 c, .int .i32 imm, .slice A n k] 24) = W1 := ⟨_, rfl⟩
    have hbW1 : Below w.heap.size w W1 := by rw [← hW1]; exact (Below.refl _ _).alloc (Nat.le_refl _) _
    have hsW1 : Str W1 w.heap.size 24 [.int .i64 2, .int .i64 d, .int .i64 e, .int .i64 a, .int .i64 b, .int .i64 c, .int .i32 imm, .slice A n k] := by rw [← hW1]; exact World.alloc_heap_new w _
    rw [hW1]
    clear hW1
    have m0 : W1.cell? ⟨w.heap.size, 0, none⟩ = some (.int .i64 2) := hsW1.cell 0
    have m1 : W1.cell? ⟨w.heap.size, 1, none⟩ = some (.int .i64 d) := hsW1.cell 1
    have m2 : W1.cell? ⟨w.heap.size, 2, none⟩ = some (.int .i64 e) := hsW1.cell 2
    have m3 : W1.cell? ⟨w.heap.size, 3, none⟩ = some (.int .i64 a) := hsW1.cell 3
    have m4 : W1.cell? ⟨w.heap.size, 4, none⟩ = some (.int .i64 b) := hsW1.cell 4
    have m5 : W1.cell? ⟨w.heap.size, 5, none⟩ = some (.int .i64 c) := hsW1.cell 5
    have m6 : W1.cell? ⟨w.heap.size, 6, none⟩ = some (.int .i32 imm) := hsW1.cell 6
    have m7 : W1.cell? ⟨w.heap.size, 7, none⟩ = some (.slice A n k) := hsW1.cell 7
    have HB := Lib.hid hbW1
    clear hsW1 hbW1
    go_wp2
    go_ret
    refine ⟨_, rfl, ?_, HB.out.alloc HB.out.size _⟩
    rw [HT.out]
    exact World.ownsRow_lit W1 #[.int .i64 a, .int .i64 b] 2 HB.out.size (by decide) rfl
  · subst h
    have HT := Lib.hid (show makesL ⟨3, d, e, a, b, c, imm, args⟩ = [d] from rfl)
    go_enter Try.func31, Try.ntmps31
    go_upto_region 1 with (fail)
    obtain ⟨W1, hW1⟩ : ∃ W1, w.alloc (.cells #[.int .i64 3, .int .i64 d, .int .i64 e, .int .i64 a, .int .i64 b, .int .i64 c, .int .i32 imm, .slice A n k] 24) = W1 := ⟨_, rfl⟩
    have hbW1 : Below w.heap.size w W1 := by rw [← hW1]; exact (Below.refl _ _).alloc (Nat.le_refl _) _
    have hsW1 : Str W1 w.heap.size 24 [.int .i64 3, .int .i64 d, .int .i64 e, .int .i64 a, .int .i64 b, .int .i64 c, .int .i32 imm, .slice A n k] := by rw [← hW1]; exact World.alloc_heap_new w _
    rw [hW1]
    clear hW1
    have m0 : W1.cell? ⟨w.heap.size, 0, none⟩ = some (.int .i64 3) := hsW1.cell 0
    have m1 : W1.cell? ⟨w.heap.size, 1, none⟩ = some (.int .i64 d) := hsW1.cell 1
    have m2 : W1.cell? ⟨w.heap.size, 2, none⟩ = some (.int .i64 e) := hsW1.cell 2
    have m3 : W1.cell? ⟨w.heap.size, 3, none⟩ = some (.int .i64 a) := hsW1.cell 3
    have m4 : W1.cell? ⟨w.heap.size, 4, none⟩ = some (.int .i64 b) := hsW1.cell 4
    have m5 : W1.cell? ⟨w.heap.size, 5, none⟩ = some (.int .i64 c) := hsW1.cell 5
    have m6 : W1.cell? ⟨w.heap.size, 6, none⟩ = some (.int .i32 imm) := hsW1.cell 6
    have m7 : W1.cell? ⟨w.heap.size, 7, none⟩ = some (.slice A n k) := hsW1.cell 7
    have HB := Lib.hid hbW1
    clear hsW1 hbW1
    go_wp2
    go_ret
    refine ⟨_, rfl, ?_, HB.out.alloc HB.out.size _⟩
    rw [HT.out]
    exact World.ownsRow_lit W1 #[.int .i64 d] 1 HB.out.size (by decide) rfl
  · subst h
    have HT := Lib.hid (show makesL ⟨4, d, e, a, b, c, imm, args⟩ = [d] from rfl)
    go_enter Try.func31, Try.ntmps31
    go_upto_region 1 with (fail)
    obtain ⟨W1, hW1⟩ : ∃ W1, w.alloc (.cells #[.int .i64 4, .int .i64 d, .int .i64 e, .int .i64 a, .int .i64 b, .int .i64 c, .int .i32 imm, .slice A n k] 24) = W1 := ⟨_, rfl⟩
    have hbW1 : Below w.heap.size w W1 := by rw [← hW1]; exact (Below.refl _ _).alloc (Nat.le_refl _) _
    have hsW1 : Str W1 w.heap.size 24 [.int .i64 4, .int .i64 d, .int .i64 e, .int .i64 a, .int .i64 b, .int .i64 c, .int .i32 imm, .slice A n k] := by rw [← hW1]; exact World.alloc_heap_new w _
    rw [hW1]
    clear hW1
    have m0 : W1.cell? ⟨w.heap.size, 0, none⟩ = some (.int .i64 4) := hsW1.cell 0
    have m1 : W1.cell? ⟨w.heap.size, 1, none⟩ = some (.int .i64 d) := hsW1.cell 1
    have m2 : W1.cell? ⟨w.heap.size, 2, none⟩ = some (.int .i64 e) := hsW1.cell 2
    have m3 : W1.cell? ⟨w.heap.size, 3, none⟩ = some (.int .i64 a) := hsW1.cell 3
    have m4 : W1.cell? ⟨w.heap.size, 4, none⟩ = some (.int .i64 b) := hsW1.cell 4
    have m5 : W1.cell? ⟨w.heap.size, 5, none⟩ = some (.int .i64 c) := hsW1.cell 5
    have m6 : W1.cell? ⟨w.heap.size, 6, none⟩ = some (.int .i32 imm) := hsW1.cell 6
    have m7 : W1.cell? ⟨w.heap.size, 7, none⟩ = some (.slice A n k) := hsW1.cell 7
    have HB := Lib.hid hbW1
    clear hsW1 hbW1
    go_wp2
    go_ret
    refine ⟨_, rfl, ?_, HB.out.alloc HB.out.size _⟩
    rw [HT.out]
    exact World.ownsRow_lit W1 #[.int .i64 d] 1 HB.out.size (by decide) rfl
  · obtain ⟨h1, h2⟩ := h
    have g2 : (op == 2) = false := beq_eq_false_iff_ne.2 (by omega)
    have g29 : (op == 29) = false := beq_eq_false_iff_ne.2 (by omega)
    have g26 : (op == 26) = false := beq_eq_false_iff_ne.2 (by omega)
    have g27 : (op == 27) = false := beq_eq_false_iff_ne.2 (by omega)
    have g31 : (op == 31) = false := beq_eq_false_iff_ne.2 (by omega)
    have HT := Lib.hid (show makesL ⟨op, d, e, a, b, c, imm, args⟩ = [d] from by unfold makesL; rw [if_neg (by simp only; omega), show makesN _ = 1 from makesN_one (by simp only; omega) (by simp only; omega)]; rfl)
    go_enter Try.func31, Try.ntmps31
    go_upto_region 1 with (fail)
    obtain ⟨W1, hW1⟩ : ∃ W1, w.alloc (.cells #[.int .i64 op, .int .i64 d, .int .i64 e, .int .i64 a, .int .i64 b, .int .i64 c, .int .i32 imm, .slice A n k] 24) = W1 := ⟨_, rfl⟩
    have hbW1 : Below w.heap.size w W1 := by rw [← hW1]; exact (Below.refl _ _).alloc (Nat.le_refl _) _
    have hsW1 : Str W1 w.heap.size 24 [.int .i64 op, .int .i64 d, .int .i64 e, .int .i64 a, .int .i64 b, .int .i64 c, .int .i32 imm, .slice A n k] := by rw [← hW1]; exact World.alloc_heap_new w _
    rw [hW1]
    clear hW1
    have m0 : W1.cell? ⟨w.heap.size, 0, none⟩ = some (.int .i64 op) := hsW1.cell 0
    have m1 : W1.cell? ⟨w.heap.size, 1, none⟩ = some (.int .i64 d) := hsW1.cell 1
    have m2 : W1.cell? ⟨w.heap.size, 2, none⟩ = some (.int .i64 e) := hsW1.cell 2
    have m3 : W1.cell? ⟨w.heap.size, 3, none⟩ = some (.int .i64 a) := hsW1.cell 3
    have m4 : W1.cell? ⟨w.heap.size, 4, none⟩ = some (.int .i64 b) := hsW1.cell 4
    have m5 : W1.cell? ⟨w.heap.size, 5, none⟩ = some (.int .i64 c) := hsW1.cell 5
    have m6 : W1.cell? ⟨w.heap.size, 6, none⟩ = some (.int .i32 imm) := hsW1.cell 6
    have m7 : W1.cell? ⟨w.heap.size, 7, none⟩ = some (.slice A n k) := hsW1.cell 7
    have HB := Lib.hid hbW1
    clear hsW1 hbW1
    go_wp2
    go_ret
    refine ⟨_, rfl, ?_, HB.out.alloc HB.out.size _⟩
    rw [HT.out]
    exact World.ownsRow_lit W1 #[.int .i64 d] 1 HB.out.size (by decide) rfl
  · obtain ⟨h1, h2⟩ := h
    have g2 : (op == 2) = false := beq_eq_false_iff_ne.2 (by omega)
    have g29 : (op == 29) = false := beq_eq_false_iff_ne.2 (by omega)
    have g26 : (op == 26) = false := beq_eq_false_iff_ne.2 (by omega)
    have g27 : (op == 27) = false := beq_eq_false_iff_ne.2 (by omega)
    have g31 : (op == 31) = false := beq_eq_false_iff_ne.2 (by omega)
    have HT := Lib.hid (show makesL ⟨op, d, e, a, b, c, imm, args⟩ = [d] from by unfold makesL; rw [if_neg (by simp only; omega), show makesN _ = 1 from makesN_one (by simp only; omega) (by simp only; omega)]; rfl)
    go_enter Try.func31, Try.ntmps31
    go_upto_region 1 with (fail)
    obtain ⟨W1, hW1⟩ : ∃ W1, w.alloc (.cells #[.int .i64 op, .int .i64 d, .int .i64 e, .int .i64 a, .int .i64 b, .int .i64 c, .int .i32 imm, .slice A n k] 24) = W1 := ⟨_, rfl⟩
    have hbW1 : Below w.heap.size w W1 := by rw [← hW1]; exact (Below.refl _ _).alloc (Nat.le_refl _) _
    have hsW1 : Str W1 w.heap.size 24 [.int .i64 op, .int .i64 d, .int .i64 e, .int .i64 a, .int .i64 b, .int .i64 c, .int .i32 imm, .slice A n k] := by rw [← hW1]; exact World.alloc_heap_new w _
    rw [hW1]
    clear hW1
    have m0 : W1.cell? ⟨w.heap.size, 0, none⟩ = some (.int .i64 op) := hsW1.cell 0
    have m1 : W1.cell? ⟨w.heap.size, 1, none⟩ = some (.int .i64 d) := hsW1.cell 1
    have m2 : W1.cell? ⟨w.heap.size, 2, none⟩ = some (.int .i64 e) := hsW1.cell 2
    have m3 : W1.cell? ⟨w.heap.size, 3, none⟩ = some (.int .i64 a) := hsW1.cell 3
    have m4 : W1.cell? ⟨w.heap.size, 4, none⟩ = some (.int .i64 b) := hsW1.cell 4
    have m5 : W1.cell? ⟨w.heap.size, 5, none⟩ = some (.int .i64 c) := hsW1.cell 5
    have m6 : W1.cell? ⟨w.heap.size, 6, none⟩ = some (.int .i32 imm) := hsW1.cell 6
    have m7 : W1.cell? ⟨w.heap.size, 7, none⟩ = some (.slice A n k) := hsW1.cell 7
    have HB := Lib.hid hbW1
    clear hsW1 hbW1
    go_wp2
    go_ret
    refine ⟨_, rfl, ?_, HB.out.alloc HB.out.size _⟩
    rw [HT.out]
    exact World.ownsRow_lit W1 #[.int .i64 d] 1 HB.out.size (by decide) rfl
  · subst h
    have HT := Lib.hid (show makesL ⟨23, d, e, a, b, c, imm, args⟩ = [d] from rfl)
    go_enter Try.func31, Try.ntmps31
    go_upto_region 1 with (fail)
    obtain ⟨W1, hW1⟩ : ∃ W1, w.alloc (.cells #[.int .i64 23, .int .i64 d, .int .i64 e, .int .i64 a, .int .i64 b, .int .i64 c, .int .i32 imm, .slice A n k] 24) = W1 := ⟨_, rfl⟩
    have hbW1 : Below w.heap.size w W1 := by rw [← hW1]; exact (Below.refl _ _).alloc (Nat.le_refl _) _
    have hsW1 : Str W1 w.heap.size 24 [.int .i64 23, .int .i64 d, .int .i64 e, .int .i64 a, .int .i64 b, .int .i64 c, .int .i32 imm, .slice A n k] := by rw [← hW1]; exact World.alloc_heap_new w _
    rw [hW1]
    clear hW1
    have m0 : W1.cell? ⟨w.heap.size, 0, none⟩ = some (.int .i64 23) := hsW1.cell 0
    have m1 : W1.cell? ⟨w.heap.size, 1, none⟩ = some (.int .i64 d) := hsW1.cell 1
    have m2 : W1.cell? ⟨w.heap.size, 2, none⟩ = some (.int .i64 e) := hsW1.cell 2
    have m3 : W1.cell? ⟨w.heap.size, 3, none⟩ = some (.int .i64 a) := hsW1.cell 3
    have m4 : W1.cell? ⟨w.heap.size, 4, none⟩ = some (.int .i64 b) := hsW1.cell 4
    have m5 : W1.cell? ⟨w.heap.size, 5, none⟩ = some (.int .i64 c) := hsW1.cell 5
    have m6 : W1.cell? ⟨w.heap.size, 6, none⟩ = some (.int .i32 imm) := hsW1.cell 6
    have m7 : W1.cell? ⟨w.heap.size, 7, none⟩ = some (.slice A n k) := hsW1.cell 7
    have HB := Lib.hid hbW1
    clear hsW1 hbW1
    go_wp2
    go_ret
    refine ⟨_, rfl, ?_, HB.out.alloc HB.out.size _⟩
    rw [HT.out]
    exact World.ownsRow_lit W1 #[.int .i64 d] 1 HB.out.size (by decide) rfl
  · subst h
    have HT := Lib.hid (show makesL ⟨24, d, e, a, b, c, imm, args⟩ = [d] from rfl)
    go_enter Try.func31, Try.ntmps31
    go_upto_region 1 with (fail)
    obtain ⟨W1, hW1⟩ : ∃ W1, w.alloc (.cells #[.int .i64 24, .int .i64 d, .int .i64 e, .int .i64 a, .int .i64 b, .int .i64 c, .int .i32 imm, .slice A n k] 24) = W1 := ⟨_, rfl⟩
    have hbW1 : Below w.heap.size w W1 := by rw [← hW1]; exact (Below.refl _ _).alloc (Nat.le_refl _) _
    have hsW1 : Str W1 w.heap.size 24 [.int .i64 24, .int .i64 d, .int .i64 e, .int .i64 a, .int .i64 b, .int .i64 c, .int .i32 imm, .slice A n k] := by rw [← hW1]; exact World.alloc_heap_new w _
    rw [hW1]
    clear hW1
    have m0 : W1.cell? ⟨w.heap.size, 0, none⟩ = some (.int .i64 24) := hsW1.cell 0
    have m1 : W1.cell? ⟨w.heap.size, 1, none⟩ = some (.int .i64 d) := hsW1.cell 1
    have m2 : W1.cell? ⟨w.heap.size, 2, none⟩ = some (.int .i64 e) := hsW1.cell 2
    have m3 : W1.cell? ⟨w.heap.size, 3, none⟩ = some (.int .i64 a) := hsW1.cell 3
    have m4 : W1.cell? ⟨w.heap.size, 4, none⟩ = some (.int .i64 b) := hsW1.cell 4
    have m5 : W1.cell? ⟨w.heap.size, 5, none⟩ = some (.int .i64 c) := hsW1.cell 5
    have m6 : W1.cell? ⟨w.heap.size, 6, none⟩ = some (.int .i32 imm) := hsW1.cell 6
    have m7 : W1.cell? ⟨w.heap.size, 7, none⟩ = some (.slice A n k) := hsW1.cell 7
    have HB := Lib.hid hbW1
    clear hsW1 hbW1
    go_wp2
    go_ret
    refine ⟨_, rfl, ?_, HB.out.alloc HB.out.size _⟩
    rw [HT.out]
    exact World.ownsRow_lit W1 #[.int .i64 d] 1 HB.out.size (by decide) rfl
  · subst h
    have HT := Lib.hid (show makesL ⟨25, d, e, a, b, c, imm, args⟩ = [d] from rfl)
    go_enter Try.func31, Try.ntmps31
    go_upto_region 1 with (fail)
    obtain ⟨W1, hW1⟩ : ∃ W1, w.alloc (.cells #[.int .i64 25, .int .i64 d, .int .i64 e, .int .i64 a, .int .i64 b, .int .i64 c, .int .i32 imm, .slice A n k] 24) = W1 := ⟨_, rfl⟩
    have hbW1 : Below w.heap.size w W1 := by rw [← hW1]; exact (Below.refl _ _).alloc (Nat.le_refl _) _
    have hsW1 : Str W1 w.heap.size 24 [.int .i64 25, .int .i64 d, .int .i64 e, .int .i64 a, .int .i64 b, .int .i64 c, .int .i32 imm, .slice A n k] := by rw [← hW1]; exact World.alloc_heap_new w _
    rw [hW1]
    clear hW1
    have m0 : W1.cell? ⟨w.heap.size, 0, none⟩ = some (.int .i64 25) := hsW1.cell 0
    have m1 : W1.cell? ⟨w.heap.size, 1, none⟩ = some (.int .i64 d) := hsW1.cell 1
    have m2 : W1.cell? ⟨w.heap.size, 2, none⟩ = some (.int .i64 e) := hsW1.cell 2
    have m3 : W1.cell? ⟨w.heap.size, 3, none⟩ = some (.int .i64 a) := hsW1.cell 3
    have m4 : W1.cell? ⟨w.heap.size, 4, none⟩ = some (.int .i64 b) := hsW1.cell 4
    have m5 : W1.cell? ⟨w.heap.size, 5, none⟩ = some (.int .i64 c) := hsW1.cell 5
    have m6 : W1.cell? ⟨w.heap.size, 6, none⟩ = some (.int .i32 imm) := hsW1.cell 6
    have m7 : W1.cell? ⟨w.heap.size, 7, none⟩ = some (.slice A n k) := hsW1.cell 7
    have HB := Lib.hid hbW1
    clear hsW1 hbW1
    go_wp2
    go_ret
    refine ⟨_, rfl, ?_, HB.out.alloc HB.out.size _⟩
    rw [HT.out]
    exact World.ownsRow_lit W1 #[.int .i64 d] 1 HB.out.size (by decide) rfl
  · subst h
    have HT := Lib.hid (show makesL ⟨26, d, e, a, b, c, imm, args⟩ = [] from rfl)
    go_enter Try.func31, Try.ntmps31
    go_upto_region 1 with (fail)
    obtain ⟨W1, hW1⟩ : ∃ W1, w.alloc (.cells #[.int .i64 26, .int .i64 d, .int .i64 e, .int .i64 a, .int .i64 b, .int .i64 c, .int .i32 imm, .slice A n k] 24) = W1 := ⟨_, rfl⟩
    have hbW1 : Below w.heap.size w W1 := by rw [← hW1]; exact (Below.refl _ _).alloc (Nat.le_refl _) _
    have hsW1 : Str W1 w.heap.size 24 [.int .i64 26, .int .i64 d, .int .i64 e, .int .i64 a, .int .i64 b, .int .i64 c, .int .i32 imm, .slice A n k] := by rw [← hW1]; exact World.alloc_heap_new w _
    rw [hW1]
    clear hW1
    have m0 : W1.cell? ⟨w.heap.size, 0, none⟩ = some (.int .i64 26) := hsW1.cell 0
    have m1 : W1.cell? ⟨w.heap.size, 1, none⟩ = some (.int .i64 d) := hsW1.cell 1
    have m2 : W1.cell? ⟨w.heap.size, 2, none⟩ = some (.int .i64 e) := hsW1.cell 2
    have m3 : W1.cell? ⟨w.heap.size, 3, none⟩ = some (.int .i64 a) := hsW1.cell 3
    have m4 : W1.cell? ⟨w.heap.size, 4, none⟩ = some (.int .i64 b) := hsW1.cell 4
    have m5 : W1.cell? ⟨w.heap.size, 5, none⟩ = some (.int .i64 c) := hsW1.cell 5
    have m6 : W1.cell? ⟨w.heap.size, 6, none⟩ = some (.int .i32 imm) := hsW1.cell 6
    have m7 : W1.cell? ⟨w.heap.size, 7, none⟩ = some (.slice A n k) := hsW1.cell 7
    have HB := Lib.hid hbW1
    clear hsW1 hbW1
    go_wp2
    go_ret
    refine ⟨_, rfl, ?_, HB.out⟩
    rw [HT.out]
    exact World.ownsRow_nil _ _ _ _
  · subst h
    have HT := Lib.hid (show makesL ⟨27, d, e, a, b, c, imm, args⟩ = [] from rfl)
    go_enter Try.func31, Try.ntmps31
    go_upto_region 1 with (fail)
    obtain ⟨W1, hW1⟩ : ∃ W1, w.alloc (.cells #[.int .i64 27, .int .i64 d, .int .i64 e, .int .i64 a, .int .i64 b, .int .i64 c, .int .i32 imm, .slice A n k] 24) = W1 := ⟨_, rfl⟩
    have hbW1 : Below w.heap.size w W1 := by rw [← hW1]; exact (Below.refl _ _).alloc (Nat.le_refl _) _
    have hsW1 : Str W1 w.heap.size 24 [.int .i64 27, .int .i64 d, .int .i64 e, .int .i64 a, .int .i64 b, .int .i64 c, .int .i32 imm, .slice A n k] := by rw [← hW1]; exact World.alloc_heap_new w _
    rw [hW1]
    clear hW1
    have m0 : W1.cell? ⟨w.heap.size, 0, none⟩ = some (.int .i64 27) := hsW1.cell 0
    have m1 : W1.cell? ⟨w.heap.size, 1, none⟩ = some (.int .i64 d) := hsW1.cell 1
    have m2 : W1.cell? ⟨w.heap.size, 2, none⟩ = some (.int .i64 e) := hsW1.cell 2
    have m3 : W1.cell? ⟨w.heap.size, 3, none⟩ = some (.int .i64 a) := hsW1.cell 3
    have m4 : W1.cell? ⟨w.heap.size, 4, none⟩ = some (.int .i64 b) := hsW1.cell 4
    have m5 : W1.cell? ⟨w.heap.size, 5, none⟩ = some (.int .i64 c) := hsW1.cell 5
    have m6 : W1.cell? ⟨w.heap.size, 6, none⟩ = some (.int .i32 imm) := hsW1.cell 6
    have m7 : W1.cell? ⟨w.heap.size, 7, none⟩ = some (.slice A n k) := hsW1.cell 7
    have HB := Lib.hid hbW1
    clear hsW1 hbW1
    go_wp2
    go_ret
    refine ⟨_, rfl, ?_, HB.out⟩
    rw [HT.out]
    exact World.ownsRow_nil _ _ _ _
  · subst h
    have HT := Lib.hid (show makesL ⟨28, d, e, a, b, c, imm, args⟩ = [d] from rfl)
    go_enter Try.func31, Try.ntmps31
    go_upto_region 1 with (fail)
    obtain ⟨W1, hW1⟩ : ∃ W1, w.alloc (.cells #[.int .i64 28, .int .i64 d, .int .i64 e, .int .i64 a, .int .i64 b, .int .i64 c, .int .i32 imm, .slice A n k] 24) = W1 := ⟨_, rfl⟩
    have hbW1 : Below w.heap.size w W1 := by rw [← hW1]; exact (Below.refl _ _).alloc (Nat.le_refl _) _
    have hsW1 : Str W1 w.heap.size 24 [.int .i64 28, .int .i64 d, .int .i64 e, .int .i64 a, .int .i64 b, .int .i64 c, .int .i32 imm, .slice A n k] := by rw [← hW1]; exact World.alloc_heap_new w _
    rw [hW1]
    clear hW1
    have m0 : W1.cell? ⟨w.heap.size, 0, none⟩ = some (.int .i64 28) := hsW1.cell 0
    have m1 : W1.cell? ⟨w.heap.size, 1, none⟩ = some (.int .i64 d) := hsW1.cell 1
    have m2 : W1.cell? ⟨w.heap.size, 2, none⟩ = some (.int .i64 e) := hsW1.cell 2
    have m3 : W1.cell? ⟨w.heap.size, 3, none⟩ = some (.int .i64 a) := hsW1.cell 3
    have m4 : W1.cell? ⟨w.heap.size, 4, none⟩ = some (.int .i64 b) := hsW1.cell 4
    have m5 : W1.cell? ⟨w.heap.size, 5, none⟩ = some (.int .i64 c) := hsW1.cell 5
    have m6 : W1.cell? ⟨w.heap.size, 6, none⟩ = some (.int .i32 imm) := hsW1.cell 6
    have m7 : W1.cell? ⟨w.heap.size, 7, none⟩ = some (.slice A n k) := hsW1.cell 7
    have HB := Lib.hid hbW1
    clear hsW1 hbW1
    go_wp2
    go_ret
    refine ⟨_, rfl, ?_, HB.out.alloc HB.out.size _⟩
    rw [HT.out]
    exact World.ownsRow_lit W1 #[.int .i64 d] 1 HB.out.size (by decide) rfl
  · subst h
    have HT := Lib.hid (show makesL ⟨29, d, e, a, b, c, imm, args⟩ = [d, e] from rfl)
    go_enter Try.func31, Try.ntmps31
    go_upto_region 1 with (fail)
    obtain ⟨W1, hW1⟩ : ∃ W1, w.alloc (.cells #[.int .i64 29, .int .i64 d, .int .i64 e, .int .i64 a, .int .i64 b, .int .i64 c, .int .i32 imm, .slice A n k] 24) = W1 := ⟨_, rfl⟩
    have hbW1 : Below w.heap.size w W1 := by rw [← hW1]; exact (Below.refl _ _).alloc (Nat.le_refl _) _
    have hsW1 : Str W1 w.heap.size 24 [.int .i64 29, .int .i64 d, .int .i64 e, .int .i64 a, .int .i64 b, .int .i64 c, .int .i32 imm, .slice A n k] := by rw [← hW1]; exact World.alloc_heap_new w _
    rw [hW1]
    clear hW1
    have m0 : W1.cell? ⟨w.heap.size, 0, none⟩ = some (.int .i64 29) := hsW1.cell 0
    have m1 : W1.cell? ⟨w.heap.size, 1, none⟩ = some (.int .i64 d) := hsW1.cell 1
    have m2 : W1.cell? ⟨w.heap.size, 2, none⟩ = some (.int .i64 e) := hsW1.cell 2
    have m3 : W1.cell? ⟨w.heap.size, 3, none⟩ = some (.int .i64 a) := hsW1.cell 3
    have m4 : W1.cell? ⟨w.heap.size, 4, none⟩ = some (.int .i64 b) := hsW1.cell 4
    have m5 : W1.cell? ⟨w.heap.size, 5, none⟩ = some (.int .i64 c) := hsW1.cell 5
    have m6 : W1.cell? ⟨w.heap.size, 6, none⟩ = some (.int .i32 imm) := hsW1.cell 6
    have m7 : W1.cell? ⟨w.heap.size, 7, none⟩ = some (.slice A n k) := hsW1.cell 7
    have HB := Lib.hid hbW1
    clear hsW1 hbW1
    go_wp2
    go_ret
    refine ⟨_, rfl, ?_, HB.out.alloc HB.out.size _⟩
    rw [HT.out]
    exact World.ownsRow_lit W1 #[.int .i64 d, .int .i64 e] 2 HB.out.size (by decide) rfl
  · subst h
    have HT := Lib.hid (show makesL ⟨30, d, e, a, b, c, imm, args⟩ = [d] from rfl)
    go_enter Try.func31, Try.ntmps31
    go_upto_region 1 with (fail)
    obtain ⟨W1, hW1⟩ : ∃ W1, w.alloc (.cells #[.int .i64 30, .int .i64 d, .int .i64 e, .int .i64 a, .int .i64 b, .int .i64 c, .int .i32 imm, .slice A n k] 24) = W1 := ⟨_, rfl⟩
    have hbW1 : Below w.heap.size w W1 := by rw [← hW1]; exact (Below.refl _ _).alloc (Nat.le_refl _) _
    have hsW1 : Str W1 w.heap.size 24 [.int .i64 30, .int .i64 d, .int .i64 e, .int .i64 a, .int .i64 b, .int .i64 c, .int .i32 imm, .slice A n k] := by rw [← hW1]; exact World.alloc_heap_new w _
    rw [hW1]
    clear hW1
    have m0 : W1.cell? ⟨w.heap.size, 0, none⟩ = some (.int .i64 30) := hsW1.cell 0
    have m1 : W1.cell? ⟨w.heap.size, 1, none⟩ = some (.int .i64 d) := hsW1.cell 1
    have m2 : W1.cell? ⟨w.heap.size, 2, none⟩ = some (.int .i64 e) := hsW1.cell 2
    have m3 : W1.cell? ⟨w.heap.size, 3, none⟩ = some (.int .i64 a) := hsW1.cell 3
    have m4 : W1.cell? ⟨w.heap.size, 4, none⟩ = some (.int .i64 b) := hsW1.cell 4
    have m5 : W1.cell? ⟨w.heap.size, 5, none⟩ = some (.int .i64 c) := hsW1.cell 5
    have m6 : W1.cell? ⟨w.heap.size, 6, none⟩ = some (.int .i32 imm) := hsW1.cell 6
    have m7 : W1.cell? ⟨w.heap.size, 7, none⟩ = some (.slice A n k) := hsW1.cell 7
    have HB := Lib.hid hbW1
    clear hsW1 hbW1
    go_wp2
    go_ret
    refine ⟨_, rfl, ?_, HB.out.alloc HB.out.size _⟩
    rw [HT.out]
    exact World.ownsRow_lit W1 #[.int .i64 d] 1 HB.out.size (by decide) rfl
  · subst h
    have HT := Lib.hid (show makesL ⟨31, d, e, a, b, c, imm, args⟩ = [] from rfl)
    go_enter Try.func31, Try.ntmps31
    go_upto_region 1 with (fail)
    obtain ⟨W1, hW1⟩ : ∃ W1, w.alloc (.cells #[.int .i64 31, .int .i64 d, .int .i64 e, .int .i64 a, .int .i64 b, .int .i64 c, .int .i32 imm, .slice A n k] 24) = W1 := ⟨_, rfl⟩
    have hbW1 : Below w.heap.size w W1 := by rw [← hW1]; exact (Below.refl _ _).alloc (Nat.le_refl _) _
    have hsW1 : Str W1 w.heap.size 24 [.int .i64 31, .int .i64 d, .int .i64 e, .int .i64 a, .int .i64 b, .int .i64 c, .int .i32 imm, .slice A n k] := by rw [← hW1]; exact World.alloc_heap_new w _
    rw [hW1]
    clear hW1
    have m0 : W1.cell? ⟨w.heap.size, 0, none⟩ = some (.int .i64 31) := hsW1.cell 0
    have m1 : W1.cell? ⟨w.heap.size, 1, none⟩ = some (.int .i64 d) := hsW1.cell 1
    have m2 : W1.cell? ⟨w.heap.size, 2, none⟩ = some (.int .i64 e) := hsW1.cell 2
    have m3 : W1.cell? ⟨w.heap.size, 3, none⟩ = some (.int .i64 a) := hsW1.cell 3
    have m4 : W1.cell? ⟨w.heap.size, 4, none⟩ = some (.int .i64 b) := hsW1.cell 4
    have m5 : W1.cell? ⟨w.heap.size, 5, none⟩ = some (.int .i64 c) := hsW1.cell 5
    have m6 : W1.cell? ⟨w.heap.size, 6, none⟩ = some (.int .i32 imm) := hsW1.cell 6
    have m7 : W1.cell? ⟨w.heap.size, 7, none⟩ = some (.slice A n k) := hsW1.cell 7
    have HB := Lib.hid hbW1
    clear hsW1 hbW1
    go_wp2
    go_ret
    refine ⟨_, rfl, ?_, HB.out⟩
    rw [HT.out]
    exact World.ownsRow_nil _ _ _ _
  · have g2 : (op == 2) = false := beq_eq_false_iff_ne.2 (by omega)
    have g29 : (op == 29) = false := beq_eq_false_iff_ne.2 (by omega)
    have g26 : (op == 26) = false := beq_eq_false_iff_ne.2 (by omega)
    have g27 : (op == 27) = false := beq_eq_false_iff_ne.2 (by omega)
    have g31 : (op == 31) = false := beq_eq_false_iff_ne.2 (by omega)
    have HT := Lib.hid (show makesL ⟨op, d, e, a, b, c, imm, args⟩ = [] from by unfold makesL; rw [if_neg (by simp only; omega), show makesN _ = 0 from makesN_none (by simp only; omega)]; rfl)
    go_enter Try.func31, Try.ntmps31
    go_upto_region 1 with (fail)
    obtain ⟨W1, hW1⟩ : ∃ W1, w.alloc (.cells #[.int .i64 op, .int .i64 d, .int .i64 e, .int .i64 a, .int .i64 b, .int .i64 c, .int .i32 imm, .slice A n k] 24) = W1 := ⟨_, rfl⟩
    have hbW1 : Below w.heap.size w W1 := by rw [← hW1]; exact (Below.refl _ _).alloc (Nat.le_refl _) _
    have hsW1 : Str W1 w.heap.size 24 [.int .i64 op, .int .i64 d, .int .i64 e, .int .i64 a, .int .i64 b, .int .i64 c, .int .i32 imm, .slice A n k] := by rw [← hW1]; exact World.alloc_heap_new w _
    rw [hW1]
    clear hW1
    have m0 : W1.cell? ⟨w.heap.size, 0, none⟩ = some (.int .i64 op) := hsW1.cell 0
    have m1 : W1.cell? ⟨w.heap.size, 1, none⟩ = some (.int .i64 d) := hsW1.cell 1
    have m2 : W1.cell? ⟨w.heap.size, 2, none⟩ = some (.int .i64 e) := hsW1.cell 2
    have m3 : W1.cell? ⟨w.heap.size, 3, none⟩ = some (.int .i64 a) := hsW1.cell 3
    have m4 : W1.cell? ⟨w.heap.size, 4, none⟩ = some (.int .i64 b) := hsW1.cell 4
    have m5 : W1.cell? ⟨w.heap.size, 5, none⟩ = some (.int .i64 c) := hsW1.cell 5
    have m6 : W1.cell? ⟨w.heap.size, 6, none⟩ = some (.int .i32 imm) := hsW1.cell 6
    have m7 : W1.cell? ⟨w.heap.size, 7, none⟩ = some (.slice A n k) := hsW1.cell 7
    have HB := Lib.hid hbW1
    clear hsW1 hbW1
    go_wp2
    go_ret
    refine ⟨_, rfl, ?_, HB.out⟩
    rw [HT.out]
    exact World.ownsRow_nil _ _ _ _
  · have g2 : (op == 2) = false := beq_eq_false_iff_ne.2 (by omega)
    have g29 : (op == 29) = false := beq_eq_false_iff_ne.2 (by omega)
    have g26 : (op == 26) = false := beq_eq_false_iff_ne.2 (by omega)
    have g27 : (op == 27) = false := beq_eq_false_iff_ne.2 (by omega)
    have g31 : (op == 31) = false := beq_eq_false_iff_ne.2 (by omega)
    have HT := Lib.hid (show makesL ⟨op, d, e, a, b, c, imm, args⟩ = [] from by unfold makesL; rw [if_neg (by simp only; omega), show makesN _ = 0 from makesN_none (by simp only; omega)]; rfl)
    go_enter Try.func31, Try.ntmps31
    go_upto_region 1 with (fail)
    obtain ⟨W1, hW1⟩ : ∃ W1, w.alloc (.cells #[.int .i64 op, .int .i64 d, .int .i64 e, .int .i64 a, .int .i64 b, .int .i64 c, .int .i32 imm, .slice A n k] 24) = W1 := ⟨_, rfl⟩
    have hbW1 : Below w.heap.size w W1 := by rw [← hW1]; exact (Below.refl _ _).alloc (Nat.le_refl _) _
    have hsW1 : Str W1 w.heap.size 24 [.int .i64 op, .int .i64 d, .int .i64 e, .int .i64 a, .int .i64 b, .int .i64 c, .int .i32 imm, .slice A n k] := by rw [← hW1]; exact World.alloc_heap_new w _
    rw [hW1]
    clear hW1
    have m0 : W1.cell? ⟨w.heap.size, 0, none⟩ = some (.int .i64 op) := hsW1.cell 0
    have m1 : W1.cell? ⟨w.heap.size, 1, none⟩ = some (.int .i64 d) := hsW1.cell 1
    have m2 : W1.cell? ⟨w.heap.size, 2, none⟩ = some (.int .i64 e) := hsW1.cell 2
    have m3 : W1.cell? ⟨w.heap.size, 3, none⟩ = some (.int .i64 a) := hsW1.cell 3
    have m4 : W1.cell? ⟨w.heap.size, 4, none⟩ = some (.int .i64 b) := hsW1.cell 4
    have m5 : W1.cell? ⟨w.heap.size, 5, none⟩ = some (.int .i64 c) := hsW1.cell 5
    have m6 : W1.cell? ⟨w.heap.size, 6, none⟩ = some (.int .i32 imm) := hsW1.cell 6
    have m7 : W1.cell? ⟨w.heap.size, 7, none⟩ = some (.slice A n k) := hsW1.cell 7
    have HB := Lib.hid hbW1
    clear hsW1 hbW1
    go_wp2
    go_ret
    refine ⟨_, rfl, ?_, HB.out⟩
    rw [HT.out]
    exact World.ownsRow_nil _ _ _ _
set_option maxRecDepth 100000 in
set_option maxHeartbeats 8000000 in
theorem rneeds_any (w : World) (i : PEnd) (A : Option Addr) (n k : Nat) :
    Calls Try.prog 16 #[.agg #[.int .i64 i.op, .int .i64 i.a, .int .i64 i.b, .slice A n k, .int .i32 i.imm]] w (RowPost (needsL i) w) := by
  obtain ⟨op, a, b, too, imm⟩ := i
  simp only at *
  rcases (show op = 1 ∨ op = 2 ∨ op = 3 ∨ op = 4 ∨ op = 5 ∨ op = 6 ∨ op = 7 ∨ op < 1 ∨ 7 < op by omega) with h | h | h | h | h | h | h | h | h
  · subst h
    have HT := Lib.hid (show needsL ⟨1, a, b, too, imm⟩ = [] from rfl)
    go_enter Try.func16, Try.ntmps16
    go_upto_region 1 with (fail)
    obtain ⟨W1, hW1⟩ : ∃ W1, w.alloc (.cells #[.int .i64 1, .int .i64 a, .int .i64 b, .slice A n k, .int .i32 imm] 26) = W1 := ⟨_, rfl⟩
    have hbW1 : Below w.heap.size w W1 := by rw [← hW1]; exact (Below.refl _ _).alloc (Nat.le_refl _) _
    have hsW1 : Str W1 w.heap.size 26 [.int .i64 1, .int .i64 a, .int .i64 b, .slice A n k, .int .i32 imm] := by rw [← hW1]; exact World.alloc_heap_new w _
    rw [hW1]
    clear hW1
    have m0 : W1.cell? ⟨w.heap.size, 0, none⟩ = some (.int .i64 1) := hsW1.cell 0
    have m1 : W1.cell? ⟨w.heap.size, 1, none⟩ = some (.int .i64 a) := hsW1.cell 1
    have m2 : W1.cell? ⟨w.heap.size, 2, none⟩ = some (.int .i64 b) := hsW1.cell 2
    have m3 : W1.cell? ⟨w.heap.size, 3, none⟩ = some (.slice A n k) := hsW1.cell 3
    have m4 : W1.cell? ⟨w.heap.size, 4, none⟩ = some (.int .i32 imm) := hsW1.cell 4
    have HB := Lib.hid hbW1
    clear hsW1 hbW1
    go_wp2
    go_ret
    refine ⟨_, rfl, ?_, HB.out⟩
    rw [HT.out]
    exact World.ownsRow_nil _ _ _ _
  · subst h
    have HT := Lib.hid (show needsL ⟨2, a, b, too, imm⟩ = [a] from rfl)
    go_enter Try.func16, Try.ntmps16
    go_upto_region 1 with (fail)
    obtain ⟨W1, hW1⟩ : ∃ W1, w.alloc (.cells #[.int .i64 2, .int .i64 a, .int .i64 b, .slice A n k, .int .i32 imm] 26) = W1 := ⟨_, rfl⟩
    have hbW1 : Below w.heap.size w W1 := by rw [← hW1]; exact (Below.refl _ _).alloc (Nat.le_refl _) _
    have hsW1 : Str W1 w.heap.size 26 [.int .i64 2, .int .i64 a, .int .i64 b, .slice A n k, .int .i32 imm] := by rw [← hW1]; exact World.alloc_heap_new w _
    rw [hW1]
    clear hW1
    have m0 : W1.cell? ⟨w.heap.size, 0, none⟩ = some (.int .i64 2) := hsW1.cell 0
    have m1 : W1.cell? ⟨w.heap.size, 1, none⟩ = some (.int .i64 a) := hsW1.cell 1
    have m2 : W1.cell? ⟨w.heap.size, 2, none⟩ = some (.int .i64 b) := hsW1.cell 2
    have m3 : W1.cell? ⟨w.heap.size, 3, none⟩ = some (.slice A n k) := hsW1.cell 3
    have m4 : W1.cell? ⟨w.heap.size, 4, none⟩ = some (.int .i32 imm) := hsW1.cell 4
    have HB := Lib.hid hbW1
    clear hsW1 hbW1
    go_wp2
    go_ret
    refine ⟨_, rfl, ?_, HB.out.alloc HB.out.size _⟩
    rw [HT.out]
    exact World.ownsRow_lit W1 #[.int .i64 a] 1 HB.out.size (by decide) rfl
  · subst h
    have HT := Lib.hid (show needsL ⟨3, a, b, too, imm⟩ = [a, b] from rfl)
    go_enter Try.func16, Try.ntmps16
    go_upto_region 1 with (fail)
    obtain ⟨W1, hW1⟩ : ∃ W1, w.alloc (.cells #[.int .i64 3, .int .i64 a, .int .i64 b, .slice A n k, .int .i32 imm] 26) = W1 := ⟨_, rfl⟩
    have hbW1 : Below w.heap.size w W1 := by rw [← hW1]; exact (Below.refl _ _).alloc (Nat.le_refl _) _
    have hsW1 : Str W1 w.heap.size 26 [.int .i64 3, .int .i64 a, .int .i64 b, .slice A n k, .int .i32 imm] := by rw [← hW1]; exact World.alloc_heap_new w _
    rw [hW1]
    clear hW1
    have m0 : W1.cell? ⟨w.heap.size, 0, none⟩ = some (.int .i64 3) := hsW1.cell 0
    have m1 : W1.cell? ⟨w.heap.size, 1, none⟩ = some (.int .i64 a) := hsW1.cell 1
    have m2 : W1.cell? ⟨w.heap.size, 2, none⟩ = some (.int .i64 b) := hsW1.cell 2
    have m3 : W1.cell? ⟨w.heap.size, 3, none⟩ = some (.slice A n k) := hsW1.cell 3
    have m4 : W1.cell? ⟨w.heap.size, 4, none⟩ = some (.int .i32 imm) := hsW1.cell 4
    have HB := Lib.hid hbW1
    clear hsW1 hbW1
    go_wp2
    go_ret
    refine ⟨_, rfl, ?_, HB.out.alloc HB.out.size _⟩
    rw [HT.out]
    exact World.ownsRow_lit W1 #[.int .i64 a, .int .i64 b] 2 HB.out.size (by decide) rfl
  · subst h
    have HT := Lib.hid (show needsL ⟨4, a, b, too, imm⟩ = [a, b] from rfl)
    go_enter Try.func16, Try.ntmps16
    go_upto_region 1 with (fail)
    obtain ⟨W1, hW1⟩ : ∃ W1, w.alloc (.cells #[.int .i64 4, .int .i64 a, .int .i64 b, .slice A n k, .int .i32 imm] 26) = W1 := ⟨_, rfl⟩
    have hbW1 : Below w.heap.size w W1 := by rw [← hW1]; exact (Below.refl _ _).alloc (Nat.le_refl _) _
    have hsW1 : Str W1 w.heap.size 26 [.int .i64 4, .int .i64 a, .int .i64 b, .slice A n k, .int .i32 imm] := by rw [← hW1]; exact World.alloc_heap_new w _
    rw [hW1]
    clear hW1
    have m0 : W1.cell? ⟨w.heap.size, 0, none⟩ = some (.int .i64 4) := hsW1.cell 0
    have m1 : W1.cell? ⟨w.heap.size, 1, none⟩ = some (.int .i64 a) := hsW1.cell 1
    have m2 : W1.cell? ⟨w.heap.size, 2, none⟩ = some (.int .i64 b) := hsW1.cell 2
    have m3 : W1.cell? ⟨w.heap.size, 3, none⟩ = some (.slice A n k) := hsW1.cell 3
    have m4 : W1.cell? ⟨w.heap.size, 4, none⟩ = some (.int .i32 imm) := hsW1.cell 4
    have HB := Lib.hid hbW1
    clear hsW1 hbW1
    go_wp2
    go_ret
    refine ⟨_, rfl, ?_, HB.out.alloc HB.out.size _⟩
    rw [HT.out]
    exact World.ownsRow_lit W1 #[.int .i64 a, .int .i64 b] 2 HB.out.size (by decide) rfl
  · subst h
    have HT := Lib.hid (show needsL ⟨5, a, b, too, imm⟩ = [a, b] from rfl)
    go_enter Try.func16, Try.ntmps16
    go_upto_region 1 with (fail)
    obtain ⟨W1, hW1⟩ : ∃ W1, w.alloc (.cells #[.int .i64 5, .int .i64 a, .int .i64 b, .slice A n k, .int .i32 imm] 26) = W1 := ⟨_, rfl⟩
    have hbW1 : Below w.heap.size w W1 := by rw [← hW1]; exact (Below.refl _ _).alloc (Nat.le_refl _) _
    have hsW1 : Str W1 w.heap.size 26 [.int .i64 5, .int .i64 a, .int .i64 b, .slice A n k, .int .i32 imm] := by rw [← hW1]; exact World.alloc_heap_new w _
    rw [hW1]
    clear hW1
    have m0 : W1.cell? ⟨w.heap.size, 0, none⟩ = some (.int .i64 5) := hsW1.cell 0
    have m1 : W1.cell? ⟨w.heap.size, 1, none⟩ = some (.int .i64 a) := hsW1.cell 1
    have m2 : W1.cell? ⟨w.heap.size, 2, none⟩ = some (.int .i64 b) := hsW1.cell 2
    have m3 : W1.cell? ⟨w.heap.size, 3, none⟩ = some (.slice A n k) := hsW1.cell 3
    have m4 : W1.cell? ⟨w.heap.size, 4, none⟩ = some (.int .i32 imm) := hsW1.cell 4
    have HB := Lib.hid hbW1
    clear hsW1 hbW1
    go_wp2
    go_ret
    refine ⟨_, rfl, ?_, HB.out.alloc HB.out.size _⟩
    rw [HT.out]
    exact World.ownsRow_lit W1 #[.int .i64 a, .int .i64 b] 2 HB.out.size (by decide) rfl
  · subst h
    have HT := Lib.hid (show needsL ⟨6, a, b, too, imm⟩ = [a] from rfl)
    go_enter Try.func16, Try.ntmps16
    go_upto_region 1 with (fail)
    obtain ⟨W1, hW1⟩ : ∃ W1, w.alloc (.cells #[.int .i64 6, .int .i64 a, .int .i64 b, .slice A n k, .int .i32 imm] 26) = W1 := ⟨_, rfl⟩
    have hbW1 : Below w.heap.size w W1 := by rw [← hW1]; exact (Below.refl _ _).alloc (Nat.le_refl _) _
    have hsW1 : Str W1 w.heap.size 26 [.int .i64 6, .int .i64 a, .int .i64 b, .slice A n k, .int .i32 imm] := by rw [← hW1]; exact World.alloc_heap_new w _
    rw [hW1]
    clear hW1
    have m0 : W1.cell? ⟨w.heap.size, 0, none⟩ = some (.int .i64 6) := hsW1.cell 0
    have m1 : W1.cell? ⟨w.heap.size, 1, none⟩ = some (.int .i64 a) := hsW1.cell 1
    have m2 : W1.cell? ⟨w.heap.size, 2, none⟩ = some (.int .i64 b) := hsW1.cell 2
    have m3 : W1.cell? ⟨w.heap.size, 3, none⟩ = some (.slice A n k) := hsW1.cell 3
    have m4 : W1.cell? ⟨w.heap.size, 4, none⟩ = some (.int .i32 imm) := hsW1.cell 4
    have HB := Lib.hid hbW1
    clear hsW1 hbW1
    go_wp2
    go_ret
    refine ⟨_, rfl, ?_, HB.out.alloc HB.out.size _⟩
    rw [HT.out]
    exact World.ownsRow_lit W1 #[.int .i64 a] 1 HB.out.size (by decide) rfl
  · subst h
    by_cases h0 : 0 ≤ a
    · have HT := Lib.hid (show needsL ⟨7, a, b, too, imm⟩ = [a] from by show (if 0 ≤ a then [a] else []) = _; exact if_pos h0)
      go_enter Try.func16, Try.ntmps16
      go_upto_region 1 with (fail)
      obtain ⟨W1, hW1⟩ : ∃ W1, w.alloc (.cells #[.int .i64 7, .int .i64 a, .int .i64 b, .slice A n k, .int .i32 imm] 26) = W1 := ⟨_, rfl⟩
      have hbW1 : Below w.heap.size w W1 := by rw [← hW1]; exact (Below.refl _ _).alloc (Nat.le_refl _) _
      have hsW1 : Str W1 w.heap.size 26 [.int .i64 7, .int .i64 a, .int .i64 b, .slice A n k, .int .i32 imm] := by rw [← hW1]; exact World.alloc_heap_new w _
      rw [hW1]
      clear hW1
      have m0 : W1.cell? ⟨w.heap.size, 0, none⟩ = some (.int .i64 7) := hsW1.cell 0
      have m1 : W1.cell? ⟨w.heap.size, 1, none⟩ = some (.int .i64 a) := hsW1.cell 1
      have m2 : W1.cell? ⟨w.heap.size, 2, none⟩ = some (.int .i64 b) := hsW1.cell 2
      have m3 : W1.cell? ⟨w.heap.size, 3, none⟩ = some (.slice A n k) := hsW1.cell 3
      have m4 : W1.cell? ⟨w.heap.size, 4, none⟩ = some (.int .i32 imm) := hsW1.cell 4
      have HB := Lib.hid hbW1
      clear hsW1 hbW1
      go_wp2
      go_ret
      refine ⟨_, rfl, ?_, HB.out.alloc HB.out.size _⟩
      rw [HT.out]
      exact World.ownsRow_lit W1 #[.int .i64 a] 1 HB.out.size (by decide) rfl
    · have HT := Lib.hid (show needsL ⟨7, a, b, too, imm⟩ = [] from by show (if 0 ≤ a then [a] else []) = _; exact if_neg h0)
      have h0 : a < 0 := by omega
      go_enter Try.func16, Try.ntmps16
      go_upto_region 1 with (fail)
      obtain ⟨W1, hW1⟩ : ∃ W1, w.alloc (.cells #[.int .i64 7, .int .i64 a, .int .i64 b, .slice A n k, .int .i32 imm] 26) = W1 := ⟨_, rfl⟩
      have hbW1 : Below w.heap.size w W1 := by rw [← hW1]; exact (Below.refl _ _).alloc (Nat.le_refl _) _
      have hsW1 : Str W1 w.heap.size 26 [.int .i64 7, .int .i64 a, .int .i64 b, .slice A n k, .int .i32 imm] := by rw [← hW1]; exact World.alloc_heap_new w _
      rw [hW1]
      clear hW1
      have m0 : W1.cell? ⟨w.heap.size, 0, none⟩ = some (.int .i64 7) := hsW1.cell 0
      have m1 : W1.cell? ⟨w.heap.size, 1, none⟩ = some (.int .i64 a) := hsW1.cell 1
      have m2 : W1.cell? ⟨w.heap.size, 2, none⟩ = some (.int .i64 b) := hsW1.cell 2
      have m3 : W1.cell? ⟨w.heap.size, 3, none⟩ = some (.slice A n k) := hsW1.cell 3
      have m4 : W1.cell? ⟨w.heap.size, 4, none⟩ = some (.int .i32 imm) := hsW1.cell 4
      have HB := Lib.hid hbW1
      clear hsW1 hbW1
      go_wp2
      go_ret
      refine ⟨_, rfl, ?_, HB.out⟩
      rw [HT.out]
      exact World.ownsRow_nil _ _ _ _
  · have g2 : (op == 2) = false := beq_eq_false_iff_ne.2 (by omega)
    have g6 : (op == 6) = false := beq_eq_false_iff_ne.2 (by omega)
    have g3 : (op == 3) = false := beq_eq_false_iff_ne.2 (by omega)
    have g4 : (op == 4) = false := beq_eq_false_iff_ne.2 (by omega)
    have g5 : (op == 5) = false := beq_eq_false_iff_ne.2 (by omega)
    have g7 : (op == 7) = false := beq_eq_false_iff_ne.2 (by omega)
    have HT := Lib.hid (show needsL ⟨op, a, b, too, imm⟩ = [] from by unfold needsL; simp only; rw [if_neg (by omega), if_neg (by omega), if_neg (by omega), if_neg (by omega), if_neg (by omega), if_neg (by omega)])
    go_enter Try.func16, Try.ntmps16
    go_upto_region 1 with (fail)
    obtain ⟨W1, hW1⟩ : ∃ W1, w.alloc (.cells #[.int .i64 op, .int .i64 a, .int .i64 b, .slice A n k, .int .i32 imm] 26) = W1 := ⟨_, rfl⟩
    have hbW1 : Below w.heap.size w W1 := by rw [← hW1]; exact (Below.refl _ _).alloc (Nat.le_refl _) _
    have hsW1 : Str W1 w.heap.size 26 [.int .i64 op, .int .i64 a, .int .i64 b, .slice A n k, .int .i32 imm] := by rw [← hW1]; exact World.alloc_heap_new w _
    rw [hW1]
    clear hW1
    have m0 : W1.cell? ⟨w.heap.size, 0, none⟩ = some (.int .i64 op) := hsW1.cell 0
    have m1 : W1.cell? ⟨w.heap.size, 1, none⟩ = some (.int .i64 a) := hsW1.cell 1
    have m2 : W1.cell? ⟨w.heap.size, 2, none⟩ = some (.int .i64 b) := hsW1.cell 2
    have m3 : W1.cell? ⟨w.heap.size, 3, none⟩ = some (.slice A n k) := hsW1.cell 3
    have m4 : W1.cell? ⟨w.heap.size, 4, none⟩ = some (.int .i32 imm) := hsW1.cell 4
    have HB := Lib.hid hbW1
    clear hsW1 hbW1
    go_wp2
    go_ret
    refine ⟨_, rfl, ?_, HB.out⟩
    rw [HT.out]
    exact World.ownsRow_nil _ _ _ _
  · have g2 : (op == 2) = false := beq_eq_false_iff_ne.2 (by omega)
    have g6 : (op == 6) = false := beq_eq_false_iff_ne.2 (by omega)
    have g3 : (op == 3) = false := beq_eq_false_iff_ne.2 (by omega)
    have g4 : (op == 4) = false := beq_eq_false_iff_ne.2 (by omega)
    have g5 : (op == 5) = false := beq_eq_false_iff_ne.2 (by omega)
    have g7 : (op == 7) = false := beq_eq_false_iff_ne.2 (by omega)
    have HT := Lib.hid (show needsL ⟨op, a, b, too, imm⟩ = [] from by unfold needsL; simp only; rw [if_neg (by omega), if_neg (by omega), if_neg (by omega), if_neg (by omega), if_neg (by omega), if_neg (by omega)])
    go_enter Try.func16, Try.ntmps16
    go_upto_region 1 with (fail)
    obtain ⟨W1, hW1⟩ : ∃ W1, w.alloc (.cells #[.int .i64 op, .int .i64 a, .int .i64 b, .slice A n k, .int .i32 imm] 26) = W1 := ⟨_, rfl⟩
    have hbW1 : Below w.heap.size w W1 := by rw [← hW1]; exact (Below.refl _ _).alloc (Nat.le_refl _) _
    have hsW1 : Str W1 w.heap.size 26 [.int .i64 op, .int .i64 a, .int .i64 b, .slice A n k, .int .i32 imm] := by rw [← hW1]; exact World.alloc_heap_new w _
    rw [hW1]
    clear hW1
    have m0 : W1.cell? ⟨w.heap.size, 0, none⟩ = some (.int .i64 op) := hsW1.cell 0
    have m1 : W1.cell? ⟨w.heap.size, 1, none⟩ = some (.int .i64 a) := hsW1.cell 1
    have m2 : W1.cell? ⟨w.heap.size, 2, none⟩ = some (.int .i64 b) := hsW1.cell 2
    have m3 : W1.cell? ⟨w.heap.size, 3, none⟩ = some (.slice A n k) := hsW1.cell 3
    have m4 : W1.cell? ⟨w.heap.size, 4, none⟩ = some (.int .i32 imm) := hsW1.cell 4
    have HB := Lib.hid hbW1
    clear hsW1 hbW1
    go_wp2
    go_ret
    refine ⟨_, rfl, ?_, HB.out⟩
    rw [HT.out]
    exact World.ownsRow_nil _ _ _ _
end Go.Proofs.Ytdidacjmcafcpaa.Mc
