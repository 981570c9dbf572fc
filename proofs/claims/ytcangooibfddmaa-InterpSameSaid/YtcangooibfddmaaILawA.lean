/- Stage 4: what the laws lean on: rows of words made of others, words held against words, structs laid one behind the other. -/
import Derived.Test.YtcangooibfddmaaIF
namespace Go.Proofs.Ytcangooibfddmaa.Ic
open Go.ChangeShapes Go.WideShapes Go.ChangeAt Go.RowKit Go.Maps Go.Proofs.Ytcangooibfddmaa.Mem Go.Proofs.Ytcangooibfddmaa.Kc Go.Proofs.Ytcangooibfddmaa.Br Go.Proofs.Ytcangooibfddmaa.Pl Go.Proofs.Ytcangooibfddmaa.Gr
set_option linter.unusedVariables false
set_option maxRecDepth 100000 in
/-- append([]int32{}, l...) -/
theorem run_own0 (w : World) (B : Nat) (v0 v : Value) (l : List Int) (h0 : w.ownsRow B 21 1 v0 0 []) (h : WordsAt w v l) (hl : l.length ≤ 1000000) (hB : B ≤ w.heap.size) :
    ∃ v' w', (Builtin.append_ #[42, 42] 42 #[v0, v]).run Try.prog w = .ok v' w' ∧ OwnWords B w' v' l ∧ w.grownBy w' v0.ownBlock := by
  obtain ⟨A, c, rfl, h1, h2, h3⟩ := h
  obtain ⟨i0, hi, hz0, hz1, hz2⟩ := info_parts info_word
  cases A with
  | none =>
    cases l with
    | nil =>
      refine ⟨v0, w, ?_, h0, ⟨rfl, rfl, rfl, Nat.le_refl _, fun _ _ _ => rfl⟩⟩
      rcases h0.2 with ⟨rfl, _⟩ | ⟨g, cap, cur, rfl, _, _, hnc, _⟩
      · exact append_none w c
      · simp [Builtin.append_, run_underlying Try.underlying42, sizeOf, typeInfo, hi, Builtin.lenOf, Builtin.firstCells, storeCells]
    | cons x l =>
      obtain ⟨ad, e, _⟩ := h3 0 (by simp)
      cases e
  | some ad =>
    have hc : ∀ j u, (l.map (Value.int .i32))[j]? = some u → w.cell? (ad.add j) = some u := by
      intro j u hj
      rw [List.getElem?_map] at hj
      by_cases hlt : j < l.length
      · rw [List.getElem?_eq_getElem hlt] at hj
        obtain ⟨ad', e, hc⟩ := h3 j hlt
        injection e with e
        subst e
        rw [hc]; exact hj
      · rw [List.getElem?_eq_none (by omega)] at hj
        cases hj
    obtain ⟨v', w', hr, r1, r2, _⟩ := run_append_own (P := Try.prog) w B 42 42 21 i0 (.int .i32 0) 1 4 Try.underlying42 hi hz0 hz1 hz2 rfl (by decide) v0 0 [] h0 ad l.length c (l.map (Value.int .i32)) (by rw [List.length_map, Nat.mul_one]) hc
      (by intro u hu; obtain ⟨x, _, rfl⟩ := List.mem_map.1 hu; rfl) (by unfold maxLen; omega) (by omega) hB
    refine ⟨v', w', hr, ?_, r2⟩
    rw [Nat.zero_add, List.nil_append] at r1
    exact r1
theorem wpList_own0 {w : World} {ops : Array Oper} {rest : List Oper} {o : Oper} {a : Act} {Q : Exit → Act → World → Prop} (hgd : o.guard = none) (s x : Operand)
    (ho : o.op = .call { callee := .builtin .append, args := #[s, x], argTypes := #[42, 42] }) (ht : o.type = 42) (B : Nat) (v0 : Value) (l : List Int) (hs : a.eval s = v0) (h0 : w.ownsRow B 21 1 v0 0 []) (h : WordsAt w (a.eval x) l) (hl : l.length ≤ 1000000) (hB : B ≤ w.heap.size)
    (hK : ∀ v' w', OwnWords B w' v' l → w.grownBy w' v0.ownBlock → wpList Try.prog ops Q rest (a.put o.dst v') w') : wpList Try.prog ops Q (o :: rest) a w := by
  refine wpList_plain hgd fun K hK' => ?_
  obtain ⟨v', w', hr, h2, h3⟩ := run_own0 w B v0 _ l h0 h hl hB
  unfold Oper.wp execOp
  simp only [ho, resolve, invoke, builtin, Sem.run_bind, Sem.run_pure, Result.andThen_ok, List.map_toArray, List.map_cons, List.map_nil, hs, ht, hr]
  exact hK' _ _ (hK v' w' h2 h3)
/-- An empty literal, as it is laid. -/
theorem empty_own (w : World) (t : TypeId) (size : Nat) : (w.alloc (.cells #[] t)).ownsRow w.heap.size t size (.slice (some ⟨w.heap.size, 0, none⟩) 0 0) 0 [] :=
  World.ownsRow_made w #[] 0 (Nat.le_refl _) (Nat.zero_le _) (by simp)
theorem below_of_own {w w1 w2 : World} {v : Value} (hb : Below w.heap.size w w1) (hg : w1.grownBy w2 v.ownBlock) (hv : ∀ g, v.ownBlock = some g → w.heap.size ≤ g) : Below w.heap.size w w2 :=
  hb.trans ⟨hg.os, hg.tape, hg.output, hg.size, fun k hk => hg.block k (Nat.lt_of_lt_of_le hk hb.size) (fun e => by have := hv k e.symm; omega)⟩
set_option maxRecDepth 100000 in
set_option maxHeartbeats 1000000 in
theorem words_any (w : World) (va vb : Value) (la lb : List Int) (ha : WordsAt w va la) (hb : WordsAt w vb lb) :
    Calls Try.prog 25 #[va, vb] w fun e w' => e = .returned (.bool (decide (la = lb))) ∧ ∃ n, w' = w.drewN n := by
  obtain ⟨A, ca, rfl, a1, a2, a3⟩ := ha
  obtain ⟨B, cb, rfl, b1, b2, b3⟩ := hb
  unfold maxLen at a2 b2
  have HA := Lib.hid a3
  have HB := Lib.hid b3
  clear a3 b3
  by_cases hl : la.length = lb.length
  · have hlb : ((la.length : Int) != (lb.length : Int)) = false := by rw [hl]; simp
    have HL := Lib.hid hl
    clear hl
    go_enter Try.func25, Try.ntmps25
    go_wp2_with fail
    go_loopw [5] (fun i wr => ∃ k n : Nat, k ≤ la.length ∧ i = .int .i64 k ∧ la.take k = lb.take k ∧ wr = w.drewN n) (fun i _ => la.length - (intOf i).toNat)
    case atStart => exact ⟨0, 0, by omega, rfl, by simp, rfl⟩
    case round =>
      obtain ⟨k, n, hk, rfl, hpre, hw⟩ := hrel
      obtain ⟨wo, rfl⟩ : ∃ wo : World, wo = wr := ⟨_, rfl⟩
      have HPRE := Lib.hid hpre
      have HW := Lib.hid hw
      clear hpre
      by_cases hlt : k < la.length
      · have hrl : k < lb.length := by have := HL.out; omega
        obtain ⟨ad, rfl, hx⟩ := HA.out k hlt
        obtain ⟨bd, rfl, hy⟩ := HB.out k hrl
        have hx : wo.cell? (ad.add k) = some (.int .i32 la[k]) := by rw [hw]; exact hx
        have hy : wo.cell? (bd.add k) = some (.int .i32 lb[k]) := by rw [hw]; exact hy
        have HT := Lib.hid (show la.take (k + 1) = la.take k ++ [la[k]] from List.take_succ_eq_append_getElem hlt)
        have HR := Lib.hid (show lb.take (k + 1) = lb.take k ++ [lb[k]] from List.take_succ_eq_append_getElem hrl)
        have HNE := Lib.hid (show la[k] ≠ lb[k] → decide (la = lb) = false from fun hne => decide_eq_false (fun e => hne (by
          have h9 : la[k]? = lb[k]? := by rw [e]
          rw [List.getElem?_eq_getElem hlt, List.getElem?_eq_getElem hrl] at h9
          exact Option.some.inj h9)))
        generalize la[k] = x at *
        generalize lb[k] = y at *
        clear hw
        cases hxy : (x != y) with
        | true =>
          have HF := Lib.hid (HNE.out (bne_iff_ne.1 hxy))
          clear HT HR HNE
          go_wp2_with fail
          go_quiet (fail)
          go_wp2
          go_ret
          exact ⟨by rw [HF.out]; rfl, n + nq, by rw [HW.out]; simp [World.drewN, Nat.add_assoc]⟩
        | false =>
          have hxe : x = y := by simpa using hxy
          have HF := Lib.hid (show la.take (k + 1) = lb.take (k + 1) by rw [HT.out, HR.out, HPRE.out, hxe])
          clear HT HR HNE hxe
          go_wp2_with fail
          go_quiet (fail)
          go_wp2
          exact ⟨⟨k + 1, n + nq, by omega, by go_num, HF.out, by rw [HW.out]; simp [World.drewN, Nat.add_assoc]⟩, by simp [intOf]; omega⟩
      · obtain rfl : k = la.length := by omega
        have HF := Lib.hid (show decide (la = lb) = true from decide_eq_true (by have h9 := HPRE.out; rw [List.take_length, HL.out, List.take_length] at h9; exact h9))
        clear hw
        go_wp2
        go_ret
        exact ⟨by rw [HF.out]; rfl, n, HW.out⟩
  · have HF := Lib.hid (show decide (la = lb) = false from decide_eq_false (fun e => hl (by rw [e])))
    have hlb : ((la.length : Int) != (lb.length : Int)) = true := by rw [bne_iff_ne]; omega
    clear hl
    go_enter Try.func25, Try.ntmps25
    go_wp2
    go_ret
    exact ⟨by rw [HF.out]; rfl, 0, rfl⟩
/-- Structs laid one behind the other. -/
def laid (w : World) : List (List Value × TypeId) → World
  | [] => w
  | x :: l => laid (w.alloc (.cells x.1.toArray x.2)) l
theorem laid_size : ∀ (l : List (List Value × TypeId)) (w : World), (laid w l).heap.size = w.heap.size + l.length
  | [], w => rfl
  | x :: l, w => by
    show (laid (w.alloc _) l).heap.size = _
    rw [laid_size l, World.size_alloc, List.length_cons]
    omega
theorem laid_below : ∀ (l : List (List Value × TypeId)) (w : World) (B : Nat), B ≤ w.heap.size → Below B w (laid w l)
  | [], w, B, _ => Below.refl _ _
  | x :: l, w, B, hB => by
    have h : Below B w (w.alloc (.cells x.1.toArray x.2)) := (Below.refl _ _).alloc hB _
    exact h.trans (laid_below l _ B (Nat.le_trans hB h.size))
theorem laid_at : ∀ (l : List (List Value × TypeId)) (w : World) (k : Nat) (vs : List Value) (t : TypeId), l[k]? = some (vs, t) → Str (laid w l) (w.heap.size + k) t vs
  | [], w, k, vs, t, h => by cases h
  | x :: l, w, 0, vs, t, h => by
    injection h with h
    subst h
    have hb := laid_below l (w.alloc (.cells vs.toArray t)) (w.alloc (.cells vs.toArray t)).heap.size (Nat.le_refl _)
    exact Str.below (World.alloc_heap_new w _) hb
  | x :: l, w, k + 1, vs, t, h => by
    have h2 := laid_at l (w.alloc (.cells x.1.toArray x.2)) k vs t h
    rw [World.size_alloc, show w.heap.size + 1 + k = w.heap.size + (k + 1) by omega] at h2
    exact h2
theorem words_same (w : World) (va vb : Value) (l : List Int) (ha : WordsAt w va l) (hb : WordsAt w vb l) :
    Calls Try.prog 25 #[va, vb] w fun e w' => e = .returned (.bool true) ∧ ∃ n, w' = w.drewN n := by
  have h := words_any w va vb l l ha hb
  rwa [decide_eq_true (rfl : l = l)] at h
/-- Events as they are read. -/
theorem EventsAt.reads {B : Nat} {w : World} {cA : Option Addr} {cn ck : Nat} {l : List (Int × List Int)} {X : Nat → Prop} (h : EventsAt B w (.slice cA cn ck) l X) :
    cn = l.length ∧ cn ≤ ck ∧ ck ≤ maxLen ∧ (0 < l.length → ∃ g, cA = some ⟨g, 0, none⟩ ∧ ∀ k (h : k < l.length), w.cell? ⟨g, k * 2, none⟩ = some (.int .i32 l[k].1) ∧ ∃ A n c, w.cell? ⟨g, k * 2 + 1, none⟩ = some (.slice A n c) ∧ WordsAt w (.slice A n c) l[k].2) := by
  obtain ⟨es, h1, _, h3⟩ := h
  rcases h1.2 with ⟨e, h0⟩ | ⟨g, c, cur, e, _, _, hn, hm, _⟩
  · injection e with e1 e2 e3
    subst e1 e2 e3
    exact ⟨h0.symm, Nat.le_refl _, by unfold maxLen; omega, fun hp => absurd h0 (by omega)⟩
  · injection e with e1 e2 e3
    subst e1 e2 e3
    refine ⟨rfl, hn, hm, fun _ => ⟨g, rfl, fun k hk => ?_⟩⟩
    obtain ⟨e1, v, e2, e3, _⟩ := h3 k hk
    obtain ⟨A, c', rfl⟩ := own_form e3
    refine ⟨by rw [World.ownsRow.cellAt h1 _ (by omega), Nat.mul_comm]; exact e1, A, _, c', by rw [World.ownsRow.cellAt h1 _ (by omega), Nat.mul_comm]; exact e2, words_of_own e3⟩
/-- Things that lie one behind the other. -/
def AllAt {α : Type} (R : World → Nat → Nat → α → Prop) (w : World) (g size : Nat) : Nat → List α → Prop
  | _, [] => True
  | o, x :: l => R w g o x ∧ AllAt R w g size (o + size) l
theorem allAt_get {α : Type} {R : World → Nat → Nat → α → Prop} {w : World} {g size : Nat} : ∀ (l : List α) (o : Nat), AllAt R w g size o l → ∀ k (h : k < l.length), R w g (o + k * size) l[k]
  | x :: l, o, h, 0, _ => by rw [Nat.zero_mul]; exact h.1
  | x :: l, o, h, k + 1, hk => by
    have := allAt_get l (o + size) h.2 k (by simpa using hk)
    rw [show o + (k + 1) * size = o + size + k * size by rw [Nat.add_mul]; omega]
    exact this
theorem rowAt_lit {α : Type} {R : World → Nat → Nat → α → Prop} {w : World} {g size c n : Nat} {l : List α} (h : AllAt R w g size 0 l) (hn : n = l.length) (hc : n ≤ c ∧ c ≤ 1000) : RowAt w size R (.slice (some ⟨g, 0, none⟩) n c) l := by
  subst hn
  exact ⟨_, c, g, 0, rfl, hc.1, by unfold maxLen; omega, fun _ => rfl, allAt_get l 0 h⟩
theorem rowAt_nil {α : Type} {R : World → Nat → Nat → α → Prop} {w : World} {size : Nat} : RowAt w size R (.slice none 0 0) ([] : List α) := ⟨none, 0, 0, 0, rfl, Nat.le_refl _, by unfold maxLen; omega, fun h => absurd h (by simp), fun k h => absurd h (by simp)⟩
theorem ints_lit {w : World} {g c n : Nat} {t : TypeId} {l : List Int} (h : Str w g t (l.map (Value.int .i64))) (hn : n = l.length) (hc : n ≤ c ∧ c ≤ 1000) : Ints w (.slice (some ⟨g, 0, none⟩) n c) l := by
  subst hn
  refine ⟨_, c, rfl, hc.1, by unfold maxLen; omega, fun k hk => ⟨_, rfl, ?_⟩⟩
  rw [at_add0, h.cell k, List.getElem?_map, List.getElem?_eq_getElem hk]; rfl
end Go.Proofs.Ytcangooibfddmaa.Ic
