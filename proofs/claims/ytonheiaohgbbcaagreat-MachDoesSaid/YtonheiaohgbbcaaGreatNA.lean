/- Stage 7: the laws' own rows. -/
import Derived.Test.YtonheiaohgbbcaaGreatMZ
namespace Go.Proofs.YtonheiaohgbbcaaGreat.Mc
open Go.ChangeShapes Go.WideShapes Go.ChangeAt Go.RowKit Go.Maps Go.Proofs.YtonheiaohgbbcaaGreat.Mem Go.Proofs.YtonheiaohgbbcaaGreat.Kc Go.Proofs.YtonheiaohgbbcaaGreat.Br Go.Proofs.YtonheiaohgbbcaaGreat.Pl Go.Proofs.YtonheiaohgbbcaaGreat.Mw Go.Proofs.YtonheiaohgbbcaaGreat.Gr
set_option linter.unusedVariables false
set_option linter.unusedSimpArgs false
theorem Ints.take {w : World} {A : Option Addr} {n c : Nat} {l : List Int} (h : Ints w (.slice A n c) l) (m : Nat) (hm : m ≤ n) : Ints w (.slice A m c) (l.take m) := by
  obtain ⟨A', c', e, h1, h2, h3⟩ := h
  injection e with e1 e2 e3
  subst e1 e2 e3
  have hl : (l.take m).length = m := by rw [List.length_take]; omega
  refine ⟨A, c, by rw [hl], by omega, h2, fun k hk => ?_⟩
  obtain ⟨ad, e, hc⟩ := h3 k (by omega)
  exact ⟨ad, e, by rw [hc, List.getElem_take]⟩
theorem append_nonei (w : World) (c : Nat) : (Builtin.append_ #[38, 38] 38 #[.slice none 0 0, .slice none 0 c]).run Tryz.prog w = .ok (.slice none 0 0) w := by
  kernel_rfl
set_option maxRecDepth 100000 in
/-- append([]int32{}, l...) -/
theorem run_own0 (w : World) (B : Nat) (v0 v : Value) (l : List Int) (h0 : w.ownsRow B 21 1 v0 0 []) (h : WordsAt w v l) (hl : l.length ≤ 1000000) (hB : B ≤ w.heap.size) :
    ∃ v' w', (Builtin.append_ #[25, 25] 25 #[v0, v]).run Tryz.prog w = .ok v' w' ∧ OwnWords B w' v' l ∧ w.grownBy w' v0.ownBlock := by
  obtain ⟨A, c, rfl, h1, h2, h3⟩ := h
  obtain ⟨i0, hi, hz0, hz1, hz2⟩ := info_parts info_word
  cases A with
  | none =>
    cases l with
    | nil =>
      refine ⟨v0, w, ?_, h0, ⟨rfl, rfl, rfl, Nat.le_refl _, fun _ _ _ => rfl⟩⟩
      rcases h0.2 with ⟨rfl, _⟩ | ⟨g, cap, cur, rfl, _, _, hnc, _⟩
      · exact append_none w c
      · simp [Builtin.append_, run_underlying Tryz.underlying25, sizeOf, typeInfo, hi, Builtin.lenOf, Builtin.firstCells, storeCells]
    | cons x l =>
      obtain ⟨ad, e, _⟩ := h3 0 (by simp)
      cases e
  | some ad =>
    have hc : ∀ j u, (l.map (Value.int .i32))[j]? = some u → w.cell? (ad.add j) = some u := by
      intro j u hj
      rw [List.getElem?_map] at hj
      by_cases hlt : j < l.length
      · rw [List.getElem?_eq_getElem hlt] at hj
        obtain ⟨ad', e, hc⟩ := h3 j hlt
        injection e with e
        subst e
        rw [hc]; exact hj
      · rw [List.getElem?_eq_none (by omega)] at hj
        cases hj
    obtain ⟨v', w', hr, r1, r2, _⟩ := run_append_own (P := Tryz.prog) w B 25 25 21 i0 (.int .i32 0) 1 4 Tryz.underlying25 hi hz0 hz1 hz2 rfl (by decide) v0 0 [] h0 ad l.length c (l.map (Value.int .i32)) (by rw [List.length_map, Nat.mul_one]) hc
      (by intro u hu; obtain ⟨x, _, rfl⟩ := List.mem_map.1 hu; rfl) (by unfold maxLen; omega) (by omega) hB
    refine ⟨v', w', hr, ?_, r2⟩
    rw [Nat.zero_add, List.nil_append] at r1
    exact r1
theorem wpList_own0 {w : World} {ops : Array Oper} {rest : List Oper} {o : Oper} {a : Act} {Q : Exit → Act → World → Prop} (hgd : o.guard = none) (s x : Operand)
    (ho : o.op = .call { callee := .builtin .append, args := #[s, x], argTypes := #[25, 25] }) (ht : o.type = 25) (B : Nat) (v0 : Value) (l : List Int) (hs : a.eval s = v0) (h0 : w.ownsRow B 21 1 v0 0 []) (h : WordsAt w (a.eval x) l) (hl : l.length ≤ 1000000) (hB : B ≤ w.heap.size)
    (hK : ∀ v' w', OwnWords B w' v' l → w.grownBy w' v0.ownBlock → wpList Tryz.prog ops Q rest (a.put o.dst v') w') : wpList Tryz.prog ops Q (o :: rest) a w := by
  refine wpList_plain hgd fun K hK' => ?_
  obtain ⟨v', w', hr, h2, h3⟩ := run_own0 w B v0 _ l h0 h hl hB
  unfold Oper.wp execOp
  simp only [ho, resolve, invoke, builtin, Sem.run_bind, Sem.run_pure, Result.andThen_ok, List.map_toArray, List.map_cons, List.map_nil, hs, ht, hr]
  exact hK' _ _ (hK v' w' h2 h3)
/-- An empty literal, as it is laid. -/
theorem empty_own (w : World) (t : TypeId) (size : Nat) : (w.alloc (.cells #[] t)).ownsRow w.heap.size t size (.slice (some ⟨w.heap.size, 0, none⟩) 0 0) 0 [] :=
  World.ownsRow_made w #[] 0 (Nat.le_refl _) (Nat.zero_le _) (by simp)
theorem below_of_own {w w1 w2 : World} {v : Value} (hb : Below w.heap.size w w1) (hg : w1.grownBy w2 v.ownBlock) (hv : ∀ g, v.ownBlock = some g → w.heap.size ≤ g) : Below w.heap.size w w2 :=
  hb.trans ⟨hg.os, hg.tape, hg.output, hg.size, fun k hk => hg.block k (Nat.lt_of_lt_of_le hk hb.size) (fun e => by have := hv k e.symm; omega)⟩
set_option maxRecDepth 100000 in
set_option maxHeartbeats 1000000 in
theorem words_any (w : World) (va vb : Value) (la lb : List Int) (ha : WordsAt w va la) (hb : WordsAt w vb lb) :
    Calls Tryz.prog 20 #[va, vb] w fun e w' => e = .returned (.bool (decide (la = lb))) ∧ ∃ n, w' = w.drewN n := by
  obtain ⟨A, ca, rfl, a1, a2, a3⟩ := ha
  obtain ⟨B, cb, rfl, b1, b2, b3⟩ := hb
  unfold maxLen at a2 b2
  have HA := Lib.hid a3
  have HB := Lib.hid b3
  clear a3 b3
  by_cases hl : la.length = lb.length
  · have hlb : ((la.length : Int) != (lb.length : Int)) = false := by rw [hl]; simp
    have HL := Lib.hid hl
    clear hl
    go_enter Tryz.func20, Tryz.ntmps20
    go_wp2_with fail
    go_loopw [5] (fun i wr => ∃ k n : Nat, k ≤ la.length ∧ i = .int .i64 k ∧ la.take k = lb.take k ∧ wr = w.drewN n) (fun i _ => la.length - (intOf i).toNat)
    case atStart => exact ⟨0, 0, by omega, rfl, by simp, rfl⟩
    case round =>
      obtain ⟨k, n, hk, rfl, hpre, hw⟩ := hrel
      obtain ⟨wo, rfl⟩ : ∃ wo : World, wo = wr := ⟨_, rfl⟩
      have HPRE := Lib.hid hpre
      have HW := Lib.hid hw
      clear hpre
      by_cases hlt : k < la.length
      · have hrl : k < lb.length := by have := HL.out; omega
        obtain ⟨ad, rfl, hx⟩ := HA.out k hlt
        obtain ⟨bd, rfl, hy⟩ := HB.out k hrl
        have hx : wo.cell? (ad.add k) = some (.int .i32 la[k]) := by rw [hw]; exact hx
        have hy : wo.cell? (bd.add k) = some (.int .i32 lb[k]) := by rw [hw]; exact hy
        have HT := Lib.hid (show la.take (k + 1) = la.take k ++ [la[k]] from List.take_succ_eq_append_getElem hlt)
        have HR := Lib.hid (show lb.take (k + 1) = lb.take k ++ [lb[k]] from List.take_succ_eq_append_getElem hrl)
        have HNE := Lib.hid (show la[k] ≠ lb[k] → decide (la = lb) = false from fun hne => decide_eq_false (fun e => hne (by
          have h9 : la[k]? = lb[k]? := by rw [e]
          rw [List.getElem?_eq_getElem hlt, List.getElem?_eq_getElem hrl] at h9
          exact Option.some.inj h9)))
        generalize la[k] = x at *
        generalize lb[k] = y at *
        clear hw
        cases hxy : (x != y) with
        | true =>
          have HF := Lib.hid (HNE.out (bne_iff_ne.1 hxy))
          clear HT HR HNE
          go_wp2_with fail
          go_quiet (fail)
          go_wp2
          go_ret
          exact ⟨by rw [HF.out]; rfl, n + nq, by rw [HW.out]; simp [World.drewN, Nat.add_assoc]⟩
        | false =>
          have hxe : x = y := by simpa using hxy
          have HF := Lib.hid (show la.take (k + 1) = lb.take (k + 1) by rw [HT.out, HR.out, HPRE.out, hxe])
          clear HT HR HNE hxe
          go_wp2_with fail
          go_quiet (fail)
          go_wp2
          exact ⟨⟨k + 1, n + nq, by omega, by go_num, HF.out, by rw [HW.out]; simp [World.drewN, Nat.add_assoc]⟩, by simp [intOf]; omega⟩
      · obtain rfl : k = la.length := by omega
        have HF := Lib.hid (show decide (la = lb) = true from decide_eq_true (by have h9 := HPRE.out; rw [List.take_length, HL.out, List.take_length] at h9; exact h9))
        clear hw
        go_wp2
        go_ret
        exact ⟨by rw [HF.out]; rfl, n, HW.out⟩
  · have HF := Lib.hid (show decide (la = lb) = false from decide_eq_false (fun e => hl (by rw [e])))
    have hlb : ((la.length : Int) != (lb.length : Int)) = true := by rw [bne_iff_ne]; omega
    clear hl
    go_enter Tryz.func20, Tryz.ntmps20
    go_wp2
    go_ret
    exact ⟨by rw [HF.out]; rfl, 0, rfl⟩
set_option maxRecDepth 100000 in
theorem run_own0i (w : World) (B : Nat) (v0 v : Value) (l : List Int) (h0 : w.ownsRow B 3 1 v0 0 []) (h : Ints w v l) (hl : l.length ≤ 1000000) (hB : B ≤ w.heap.size) :
    ∃ v' w', (Builtin.append_ #[38, 38] 38 #[v0, v]).run Tryz.prog w = .ok v' w' ∧ OwnInts B w' v' l ∧ w.grownBy w' v0.ownBlock := by
  obtain ⟨A, c, rfl, h1, h2, h3⟩ := h
  obtain ⟨i0, hi, hz0, hz1, hz2⟩ := info_parts info_int
  cases A with
  | none =>
    cases l with
    | nil =>
      refine ⟨v0, w, ?_, h0, ⟨rfl, rfl, rfl, Nat.le_refl _, fun _ _ _ => rfl⟩⟩
      rcases h0.2 with ⟨rfl, _⟩ | ⟨g, cap, cur, rfl, _, _, hnc, _⟩
      · exact append_nonei w c
      · simp [Builtin.append_, run_underlying Tryz.underlying38, sizeOf, typeInfo, hi, Builtin.lenOf, Builtin.firstCells, storeCells]
    | cons x l =>
      obtain ⟨ad, e, _⟩ := h3 0 (by simp)
      cases e
  | some ad =>
    have hc : ∀ j u, (l.map (Value.int .i64))[j]? = some u → w.cell? (ad.add j) = some u := by
      intro j u hj
      rw [List.getElem?_map] at hj
      by_cases hlt : j < l.length
      · rw [List.getElem?_eq_getElem hlt] at hj
        obtain ⟨ad', e, hc⟩ := h3 j hlt
        injection e with e
        subst e
        rw [hc]; exact hj
      · rw [List.getElem?_eq_none (by omega)] at hj
        cases hj
    obtain ⟨v', w', hr, r1, r2, _⟩ := run_append_own (P := Tryz.prog) w B 38 38 3 i0 (.int .i64 0) 1 8 Tryz.underlying38 hi hz0 hz1 hz2 rfl (by decide) v0 0 [] h0 ad l.length c (l.map (Value.int .i64)) (by rw [List.length_map, Nat.mul_one]) hc
      (by intro u hu; obtain ⟨x, _, rfl⟩ := List.mem_map.1 hu; rfl) (by unfold maxLen; omega) (by omega) hB
    refine ⟨v', w', hr, ?_, r2⟩
    rw [Nat.zero_add, List.nil_append] at r1
    exact r1
theorem wpList_own0i {w : World} {ops : Array Oper} {rest : List Oper} {o : Oper} {a : Act} {Q : Exit → Act → World → Prop} (hgd : o.guard = none) (s x : Operand)
    (ho : o.op = .call { callee := .builtin .append, args := #[s, x], argTypes := #[38, 38] }) (ht : o.type = 38) (B : Nat) (v0 : Value) (l : List Int) (hs : a.eval s = v0) (h0 : w.ownsRow B 3 1 v0 0 []) (h : Ints w (a.eval x) l) (hl : l.length ≤ 1000000) (hB : B ≤ w.heap.size)
    (hK : ∀ v' w', OwnInts B w' v' l → w.grownBy w' v0.ownBlock → wpList Tryz.prog ops Q rest (a.put o.dst v') w') : wpList Tryz.prog ops Q (o :: rest) a w := by
  refine wpList_plain hgd fun K hK' => ?_
  obtain ⟨v', w', hr, h2, h3⟩ := run_own0i w B v0 _ l h0 h hl hB
  unfold Oper.wp execOp
  simp only [ho, resolve, invoke, builtin, Sem.run_bind, Sem.run_pure, Result.andThen_ok, List.map_toArray, List.map_cons, List.map_nil, hs, ht, hr]
  exact hK' _ _ (hK v' w' h2 h3)
set_option maxRecDepth 100000 in
set_option maxHeartbeats 4000000 in
theorem some_any (w : World) (v : Value) (l : List Int) (h : WordsAt w v l) :
    Calls Tryz.prog 11 #[v] w (OwnPost (l.take 20) w) := by
  have H := Lib.hid h
  obtain ⟨A, c, rfl, h1, h2, h3⟩ := h
  unfold maxLen at h2
  clear h3
  have hm : (min (l.length : Int) 20).toNat ≤ l.length := by omega
  have ht : l.take (min (l.length : Int) 20).toNat = l.take 20 := by
    by_cases hc : l.length ≤ 20
    · rw [List.take_of_length_le (by omega), List.take_of_length_le hc]
    · rw [show (min (l.length : Int) 20).toNat = 20 by omega]
  have HT := Lib.hid ht
  have HM := Lib.hid hm
  clear ht
  go_enter Tryz.func11, Tryz.ntmps11
  go_wp2_with (at_builtin; refine wpList_own0 rfl _ _ rfl rfl w.heap.size _ (l.take 20) rfl (empty_own w _ 1) ?c1 ?c2 ?c3 ?_)
  case c1 => rw [← HT.out]; exact (H.out.below ((Below.refl _ _).alloc (Nat.le_refl _) _)).take _ HM.out
  case c2 => rw [List.length_take]; omega
  case c3 => simp
  intro v' w' h1 h2
  have hb := below_of_own ((Below.refl w.heap.size w).alloc (Nat.le_refl _) _) h2 (fun g hg => by have e2 : w.heap.size = g := Option.some.inj hg; omega)
  go_wp2
  go_ret
  exact ⟨v', rfl, h1, hb⟩
def FewPost (i : PMach) (w : World) (en : Ending) (w' : World) : Prop :=
  ∃ A k, en = .returned (.agg #[.int .i64 i.op, .int .i64 i.d, .int .i64 i.e, .int .i64 i.a, .int .i64 i.b, .int .i64 i.c, .int .i32 i.imm, .slice A (i.args.take 7).length k]) ∧ OwnInts w.heap.size w' (.slice A (i.args.take 7).length k) (i.args.take 7) ∧ Below w.heap.size w w'
set_option maxRecDepth 100000 in
set_option maxHeartbeats 4000000 in
theorem few_any (w : World) (i : PMach) (A : Option Addr) (n k : Nat) (hv : Ints w (.slice A n k) i.args) :
    Calls Tryz.prog 17 #[.agg #[.int .i64 i.op, .int .i64 i.d, .int .i64 i.e, .int .i64 i.a, .int .i64 i.b, .int .i64 i.c, .int .i32 i.imm, .slice A n k]] w (FewPost i w) := by
  have H := Lib.hid hv
  obtain ⟨A', c, e, h1, h2, h3⟩ := hv
  injection e with e1 e2 e3
  subst e1 e2 e3
  unfold maxLen at h2
  clear h3
  obtain ⟨l7, hl7⟩ : ∃ l7, i.args.take 7 = l7 := ⟨_, rfl⟩
  have hl77 : l7.length ≤ 7 := by rw [← hl7, List.length_take]; omega
  have H7 := Lib.hid hl7
  have hm : (min (i.args.length : Int) 7).toNat ≤ i.args.length := by omega
  have ht : i.args.take (min (i.args.length : Int) 7).toNat = l7 := by
    rw [← hl7]
    by_cases hc : i.args.length ≤ 7
    · rw [List.take_of_length_le (by omega), List.take_of_length_le hc]
    · rw [show (min (i.args.length : Int) 7).toNat = 7 by omega]
  have HT := Lib.hid ht
  have HM := Lib.hid hm
  clear ht hl7
  go_enter Tryz.func17, Tryz.ntmps17
  go_upto_region 1 with (fail)
  obtain ⟨W2, hW2⟩ : ∃ W2, (w.alloc (.cells #[.int .i64 i.op, .int .i64 i.d, .int .i64 i.e, .int .i64 i.a, .int .i64 i.b, .int .i64 i.c, .int .i32 i.imm, .slice A i.args.length k] 40)).alloc (.cells #[.int .i64 0, .int .i64 0, .int .i64 0, .int .i64 0, .int .i64 0, .int .i64 0, .int .i32 0, .slice none 0 0] 40) = W2 := ⟨_, rfl⟩
  have hb2 : Below w.heap.size w W2 := by rw [← hW2]; exact ((Below.refl _ _).alloc (Nat.le_refl _) _).alloc (by simp) _
  have hs2 : Str W2 w.heap.size 40 [.int .i64 i.op, .int .i64 i.d, .int .i64 i.e, .int .i64 i.a, .int .i64 i.b, .int .i64 i.c, .int .i32 i.imm, .slice A i.args.length k] := by rw [← hW2]; exact Str.below (World.alloc_heap_new w _) ((Below.refl _ _).alloc (Nat.le_refl _) _)
  have hz2 : Str W2 (w.heap.size + 1) 40 [.int .i64 0, .int .i64 0, .int .i64 0, .int .i64 0, .int .i64 0, .int .i64 0, .int .i32 0, .slice none 0 0] := by
    have h := World.alloc_heap_new (w.alloc (.cells #[.int .i64 i.op, .int .i64 i.d, .int .i64 i.e, .int .i64 i.a, .int .i64 i.b, .int .i64 i.c, .int .i32 i.imm, .slice A i.args.length k] 40)) (.cells #[.int .i64 0, .int .i64 0, .int .i64 0, .int .i64 0, .int .i64 0, .int .i64 0, .int .i32 0, .slice none 0 0] 40)
    rw [hW2] at h
    simp only [World.size_alloc] at h
    exact h
  rw [hW2]
  have m7 := hs2.cell 7
  have HS2 := Lib.hid hs2
  have HZ2 := Lib.hid hz2
  have HB2 := Lib.hid hb2
  have HI2 := Lib.hid (H.out.keep hb2)
  have m7b : (W2.alloc (.cells #[] 3)).cell? ⟨w.heap.size, 7, none⟩ = some (.slice A i.args.length k) := cell_keep ((Below.refl _ _).alloc (Nat.le_refl _) _) (Nat.le_refl _) m7
  clear hW2 hs2 hz2 hb2
  go_wp2_with (at_builtin; refine wpList_own0i rfl _ _ rfl rfl W2.heap.size _ l7 rfl (empty_own W2 _ 1) ?c1 ?c2 ?c3 ?_)
  case c1 => rw [← HT.out]; exact Ints.take (HI2.out.keep ((Below.refl _ _).alloc (Nat.le_refl _) _)) _ HM.out
  case c2 => omega
  case c3 => simp
  intro v' w3 ho hg3
  have hb3 := below_of_own ((Below.refl W2.heap.size W2).alloc (Nat.le_refl _) _) hg3 (fun g hg => by have e2 : W2.heap.size = g := Option.some.inj hg; omega)
  obtain ⟨A', k', rfl⟩ := ho.form
  have hs3 := HS2.out.below hb3
  have hz3 := HZ2.out.below hb3
  have m7 := hs3.cell 7
  have f7 := hs3.frozen 7
  have HS3 := Lib.hid hs3
  have HZ3 := Lib.hid hz3
  have HO := Lib.hid ho
  have HB3 := Lib.hid (HB2.out.trans (hb3.mono HB2.out.size))
  clear ho hg3 hb3 hs3 hz3
  go_upto_region 2 with (fail)
  obtain ⟨W4, hW4⟩ : ∃ W4, w3.setCell ⟨w.heap.size, 7, none⟩ (.slice A' l7.length k') = W4 := ⟨_, rfl⟩
  rw [hW4]
  have hb4 : But w.heap.size w3 W4 := by rw [← hW4]; exact but_set _ 7 _ _
  have hs4 : Str W4 w.heap.size 40 [.int .i64 i.op, .int .i64 i.d, .int .i64 i.e, .int .i64 i.a, .int .i64 i.b, .int .i64 i.c, .int .i32 i.imm, .slice A' l7.length k'] := by rw [← hW4]; have h := HS3.out.set 7 (.slice A' l7.length k'); simpa using h
  have hz4 := hb4.str HZ3.out (by omega)
  have ho4 : OwnInts W2.heap.size W4 (.slice A' l7.length k') l7 := by
    rw [← hW4]
    exact ownsRow_setCell_below HO.out HS2.out.lt _
  have HB4 := Lib.hid (HB3.out.trans (below_of_but hb4 (Nat.le_refl _) HB3.out.size))
  have HO4 := Lib.hid ho4
  have HL := Lib.hid hz4.lt
  have m0a := hs4.cell 0
  have m1a := hs4.cell 1
  have m2a := hs4.cell 2
  have m3a := hs4.cell 3
  have m4a := hs4.cell 4
  have m5a := hs4.cell 5
  have m6a := hs4.cell 6
  have m7a := hs4.cell 7
  have z0a := hz4.cell 0
  have z1a := hz4.cell 1
  have z2a := hz4.cell 2
  have z3a := hz4.cell 3
  have z4a := hz4.cell 4
  have z5a := hz4.cell 5
  have z6a := hz4.cell 6
  have z7a := hz4.cell 7
  have g0a := hz4.frozen 0
  have g1a := hz4.frozen 1
  have g2a := hz4.frozen 2
  have g3a := hz4.frozen 3
  have g4a := hz4.frozen 4
  have g5a := hz4.frozen 5
  have g6a := hz4.frozen 6
  have g7a := hz4.frozen 7
  have HS4 := Lib.hid hs4
  have HZ4 := Lib.hid hz4
  clear hW4 hb4 hs4 hz4 ho4 m7 f7
  go_wp2
  obtain ⟨W5, hW5⟩ : ∃ W5, ((((((((W4.setCell ⟨w.heap.size + 1, 0, none⟩ (.int .i64 i.op)).setCell ⟨w.heap.size + 1, 1, none⟩ (.int .i64 i.d)).setCell ⟨w.heap.size + 1, 2, none⟩ (.int .i64 i.e)).setCell ⟨w.heap.size + 1, 3, none⟩ (.int .i64 i.a)).setCell ⟨w.heap.size + 1, 4, none⟩ (.int .i64 i.b)).setCell ⟨w.heap.size + 1, 5, none⟩ (.int .i64 i.c)).setCell ⟨w.heap.size + 1, 6, none⟩ (.int .i32 i.imm)).setCell ⟨w.heap.size + 1, 7, none⟩ (.slice A' l7.length k')) = W5 := ⟨_, rfl⟩
  rw [hW5]
  have hb5 : But (w.heap.size + 1) W4 W5 := by rw [← hW5]; exact ((((((((but_set (w.heap.size + 1) 0 _ W4).trans (but_set (w.heap.size + 1) 1 _ _)).trans (but_set (w.heap.size + 1) 2 _ _)).trans (but_set (w.heap.size + 1) 3 _ _)).trans (but_set (w.heap.size + 1) 4 _ _)).trans (but_set (w.heap.size + 1) 5 _ _)).trans (but_set (w.heap.size + 1) 6 _ _)).trans (but_set (w.heap.size + 1) 7 _ _))
  have hs5 : Str W5 (w.heap.size + 1) 40 [.int .i64 i.op, .int .i64 i.d, .int .i64 i.e, .int .i64 i.a, .int .i64 i.b, .int .i64 i.c, .int .i32 i.imm, .slice A' l7.length k'] := by rw [← hW5]; have h := ((((((((HZ4.out.set 0 (.int .i64 i.op)).set 1 (.int .i64 i.d)).set 2 (.int .i64 i.e)).set 3 (.int .i64 i.a)).set 4 (.int .i64 i.b)).set 5 (.int .i64 i.c)).set 6 (.int .i32 i.imm)).set 7 (.slice A' l7.length k')); simpa using h
  have hB5 := HB4.out.trans (below_of_but hb5 (by omega) HB4.out.size)
  have ho5 : OwnInts w.heap.size W5 (.slice A' l7.length k') l7 := by
    rw [← hW5]
    exact own_base (ownsRow_setCell_below (ownsRow_setCell_below (ownsRow_setCell_below (ownsRow_setCell_below (ownsRow_setCell_below (ownsRow_setCell_below (ownsRow_setCell_below (ownsRow_setCell_below HO4.out HZ2.out.lt _) HZ2.out.lt _) HZ2.out.lt _) HZ2.out.lt _) HZ2.out.lt _) HZ2.out.lt _) HZ2.out.lt _) HZ2.out.lt _) HB2.out.size
  have r0a := hs5.cell 0
  have r1a := hs5.cell 1
  have r2a := hs5.cell 2
  have r3a := hs5.cell 3
  have r4a := hs5.cell 4
  have r5a := hs5.cell 5
  have r6a := hs5.cell 6
  have r7a := hs5.cell 7
  refine ⟨rfl, .agg #[.int .i64 i.op, .int .i64 i.d, .int .i64 i.e, .int .i64 i.a, .int .i64 i.b, .int .i64 i.c, .int .i32 i.imm, .slice A' l7.length k'], ?_, ?_⟩
  · simp only [results]
    go_simp
  · unfold FewPost
    rw [H7.out]
    exact ⟨A', k', rfl, ho5, hB5⟩
end Go.Proofs.YtonheiaohgbbcaaGreat.Mc
