/- Moves: jacquardref11's layer: load, store, bring. Moves: jacquardref11's layer: round. -/
import Derived.Test.YtdohaoomckhbgaaVEA
import Derived.Test.YtdohaoomckhbgaaVY
namespace Go.Proofs.Ytdohaoomckhbgaa.Vm
open Go.ChangeShapes Go.WideShapes Go.ChangeAt Go.RowKit Go.Maps Go.WideElems Go.ChangeMaps Go.Sort Go.Shelf Go.Proofs.Ytdohaoomckhbgaa.Mem Go.Proofs.Ytdohaoomckhbgaa.Br Go.Proofs.Ytdohaoomckhbgaa.Va Go.Proofs.Ytdohaoomckhbgaa.Vr
set_option linter.unusedVariables false
set_option linter.unusedSimpArgs false
attribute [local go_sem] Oper.semAt_some
theorem flatM_len (l : List PM) : (l.flatMap cellsM).length = l.length * 8 := by
  induction l with
  | nil => rfl
  | cons m l ih => rw [List.flatMap_cons, List.length_append, ih, List.length_cons]; show 8 + _ = _; omega
set_option maxRecDepth 100000 in
theorem run_mchs (w : World) (B : Nat) (v0 : Value) (pre l : List PM) (h0 : OwnMach B w v0 pre) (ad : Addr) (c : Nat) (hc : ∀ j u, (l.flatMap cellsM)[j]? = some u → w.cell? (ad.add j) = some u) (hl : pre.length + l.length ≤ 1000000) (hB : B ≤ w.heap.size) :
    ∃ v' w', (Builtin.append_ #[30, 30] 30 #[v0, .slice (some ad) l.length c]).run Try.prog w = .ok v' w' ∧ OwnMach B w' v' (pre ++ l) ∧ w.grownBy w' v0.ownBlock := by
  obtain ⟨i0, hi, hz0, hz1, hz2⟩ := info_parts info_mach
  obtain ⟨v', w', hr, r1, r2, _⟩ := run_append_own (P := Try.prog) w B 30 30 48 i0 (.agg #[.int .i64 0, .int .i64 0, .int .i64 0, .int .i64 0, .int .i64 0, .int .i64 0, .int .i32 0, .slice none 0 0]) 8 80 Try.underlying30 hi hz0 hz1 hz2 rfl (by decide) v0 pre.length (pre.flatMap cellsM) h0 ad l.length c (l.flatMap cellsM) (flatM_len l) hc
      (by intro u hu; obtain ⟨x, _, hx⟩ := List.mem_flatMap.1 hu; simp only [cellsM, List.mem_cons, List.not_mem_nil, or_false] at hx; rcases hx with rfl | rfl | rfl | rfl | rfl | rfl | rfl | rfl <;> rfl) (by unfold maxLen; omega) (by omega) hB
  refine ⟨v', w', hr, ?_, r2⟩
  unfold OwnMach
  rw [List.length_append, List.flatMap_append]
  exact r1
theorem wpList_mchs {w : World} {ops : Array Oper} {rest : List Oper} {o : Oper} {a : Act} {Q : Exit → Act → World → Prop} (hgd : o.guard = none) (s x : Operand)
    (ho : o.op = .call { callee := .builtin .append, args := #[s, x], argTypes := #[30, 30] }) (ht : o.type = 30) (B : Nat) (v0 : Value) (pre l : List PM) (hs : a.eval s = v0) (h0 : OwnMach B w v0 pre) (ad : Addr) (c : Nat) (hx : a.eval x = .slice (some ad) l.length c)
    (hc : ∀ j u, (l.flatMap cellsM)[j]? = some u → w.cell? (ad.add j) = some u) (hl : pre.length + l.length ≤ 1000000) (hB : B ≤ w.heap.size)
    (hK : ∀ v' w', OwnMach B w' v' (pre ++ l) → w.grownBy w' v0.ownBlock → wpList Try.prog ops Q rest (a.put o.dst v') w') : wpList Try.prog ops Q (o :: rest) a w := by
  refine wpList_plain hgd fun K hK' => ?_
  obtain ⟨v', w', hr, h2, h3⟩ := run_mchs w B v0 pre l h0 ad c hc hl hB
  unfold Oper.wp execOp
  simp only [ho, resolve, invoke, builtin, Sem.run_bind, Sem.run_pure, Result.andThen_ok, List.map_toArray, List.map_cons, List.map_nil, hs, hx, ht, hr]
  exact hK' _ _ (hK v' w' h2 h3)
def Bd6 (x : Int) : Prop := -1000000 ≤ x ∧ x ≤ 1000000
def OneRes (x : PM) (w : World) (e : Ending) (w' : World) : Prop := e = .returned (machV x) ∧ Below w.heap.size w w'
set_option maxRecDepth 100000 in
theorem ld_any (w : World) (r p : Int) (hp : Bd6 p) : Calls Try.prog 74 #[.int .i64 r, .int .i64 p] w (fun e w' => e = .returned (.agg #[.int .i64 30, .int .i64 r, .int .i64 0, .int .i64 0, .int .i64 0, .int .i64 0, .int .i32 (p - 16), .slice none 0 0]) ∧ Below w.heap.size w w') := by
  obtain ⟨hp1, hp2⟩ := hp
  obtain ⟨q, hq⟩ : ∃ q : Int, p - 16 = q := ⟨_, rfl⟩
  have hq1 : -2147483648 ≤ q := by omega
  have hq2 : q ≤ 2147483647 := by omega
  go_enter Try.func74, Try.ntmps74
  go_wp2_with fail
  obtain rfl := hq
  refine ⟨rfl, .agg #[.int .i64 30, .int .i64 r, .int .i64 0, .int .i64 0, .int .i64 0, .int .i64 0, .int .i32 (p - 16), .slice none 0 0], ?_, rfl, (Below.refl _ _).alloc (Nat.le_refl _) _⟩
  simp only [results]
  go_simp
  first | done | exact ⟨rfl, rfl, rfl, rfl, rfl, rfl, rfl⟩
set_option maxRecDepth 100000 in
theorem st_any (w : World) (r p : Int) (hp : Bd6 p) : Calls Try.prog 75 #[.int .i64 r, .int .i64 p] w (fun e w' => e = .returned (.agg #[.int .i64 31, .int .i64 0, .int .i64 0, .int .i64 r, .int .i64 0, .int .i64 0, .int .i32 (p - 16), .slice none 0 0]) ∧ Below w.heap.size w w') := by
  obtain ⟨hp1, hp2⟩ := hp
  obtain ⟨q, hq⟩ : ∃ q : Int, p - 16 = q := ⟨_, rfl⟩
  have hq1 : -2147483648 ≤ q := by omega
  have hq2 : q ≤ 2147483647 := by omega
  go_enter Try.func75, Try.ntmps75
  go_wp2_with fail
  obtain rfl := hq
  refine ⟨rfl, .agg #[.int .i64 31, .int .i64 0, .int .i64 0, .int .i64 r, .int .i64 0, .int .i64 0, .int .i32 (p - 16), .slice none 0 0], ?_, rfl, (Below.refl _ _).alloc (Nat.le_refl _) _⟩
  simp only [results]
  go_simp
  first | done | exact ⟨rfl, rfl, rfl, rfl, rfl, rfl, rfl⟩
/-- What the layer holds. -/
def LyrAt (w : World) (by_ B : Nat) (sc sp : Int) (o : Option (List PM)) (n : Nat) : Prop := ∃ v xs e, Str w by_ 84 [v, .int .i64 sc, .int .i64 sp, .int .i64 e] ∧ OwnMach B w v xs ∧ xs.length ≤ n ∧ ((o = some xs ∧ e = 0) ∨ (o = none ∧ e = 43))
def LyrRes (by_ B : Nat) (sc sp : Int) (o : Option (List PM)) (n : Nat) (w : World) (e : Ending) (w' : World) : Prop := e = .returned (.tuple #[]) ∧ LyrAt w' by_ B sc sp o n ∧ Lay by_ w w' ∧ Below (min B by_) w w'
theorem LyrAt.more {w : World} {by_ B n m : Nat} {sc sp : Int} {o : Option (List PM)} (h : LyrAt w by_ B sc sp o n) (hm : n ≤ m) : LyrAt w by_ B sc sp o m := by
  obtain ⟨v, xs, e, h1, h2, h3, h4⟩ := h
  exact ⟨v, xs, e, h1, h2, by omega, h4⟩
/-- One row of instructions more. -/
theorem layer_next {w W w5 : World} {by_ B n n5 : Nat} {sc sp : Int} {v : Value} {xs ys : List PM} {A5 : Option Addr} {c5 : Nat} (hx0 : Str w by_ 84 [v, .int .i64 sc, .int .i64 sp, .int .i64 0]) (ho0 : OwnMach B w v xs) (hlen : xs.length ≤ n) (hb : Below w.heap.size w W) (hx : Str W by_ 84 [v, .int .i64 sc, .int .i64 sp, .int .i64 0]) (ho : OwnMach B W v xs)
    (hg : W.grownBy w5 v.ownBlock) (ho5 : OwnMach B w5 (.slice A5 n5 c5) (xs ++ ys)) (hB : B ≤ w.heap.size) :
    LyrAt (w5.setCell ⟨by_, 0, none⟩ (.slice A5 n5 c5)) by_ B sc sp (some (xs ++ ys)) (n + ys.length) ∧ Lay by_ w (w5.setCell ⟨by_, 0, none⟩ (.slice A5 n5 c5)) ∧ Below (min B by_) w (w5.setCell ⟨by_, 0, none⟩ (.slice A5 n5 c5)) := by
  have hx5 := hx.kept hg (hx.not_row (by decide) ho)
  have hz := hb.size
  have hlt := hx0.lt
  have hb5 : Below (min B by_) w w5 := (hb.mono (by omega)).grown hg (by omega) (fun j e => Nat.le_trans (Nat.min_le_left _ _) (World.ownsRow.lt ho j e).1)
  refine ⟨⟨_, xs ++ ys, 0, hx5.set 0 _, ?_, by rw [List.length_append]; omega, Or.inl ⟨rfl, rfl⟩⟩, ((Lay.of_below hb).trans (Lay.of_row ho hg)).trans (Lay.of_box 0 _), hb5.setCell (p := ⟨by_, 0, none⟩) (show min B by_ ≤ by_ by omega) _⟩
  refine own_same_kv ho5 (fun g hg => Below.heap_setCell _ _ _ _ (fun e => ?_))
  have e : g = by_ := e
  subst e
  exact hx5.not_row (by decide) ho5 hg.symm
set_option maxRecDepth 100000 in
set_option maxHeartbeats 4000000 in
theorem bringL_any (w : World) (by_ B : Nat) (sc sp : Int) (o : Option (List PM)) (n : Nat) (a b : Int) (h : LyrAt w by_ B sc sp o n) (hBw : B ≤ w.heap.size) (hn : n ≤ 800000) (ha : Bd6 a) (hb : Bd6 b) (hsc : sc < 16) (hsp : sp < 16383) :
    Calls Try.prog 49 #[.pointer (some ⟨by_, 0, none⟩), .int .i64 a, .int .i64 b] w (LyrRes by_ B sc sp (appO o (bringN sc sp a b)) (n + 4) w) := by
  obtain ⟨v, xs, e, hx, ho, hlen, hoe⟩ := h
  obtain ⟨ha1, ha2⟩ := ha
  obtain ⟨hb1, hb2⟩ := hb
  have HX0 := Lib.hid hx
  have HO0 := Lib.hid ho
  have HB0 := Lib.hid (Below.refl w.heap.size w)
  have k0 : w.cell? ⟨by_, 0, none⟩ = some v := hx.cell 0
  have k1 : w.cell? ⟨by_, 1, none⟩ = some (.int .i64 sc) := hx.cell 1
  have k2 : w.cell? ⟨by_, 2, none⟩ = some (.int .i64 sp) := hx.cell 2
  have k3 : w.cell? ⟨by_, 3, none⟩ = some (.int .i64 e) := hx.cell 3
  clear hx ho
  rcases hoe with ⟨rfl, rfl⟩ | ⟨rfl, rfl⟩
  · go_enter Try.func49, Try.ntmps49
    by_cases hra : a < 16
    · by_cases hrb : b < 16
      · have HE := Lib.hid (show appO (some xs) (bringN sc sp a b) = some (xs ++ [mMov a b]) by unfold bringN bringR; rw [if_pos (Or.inl hra), if_pos hra, if_pos hrb]; rfl)
        obtain ⟨W1, hW1⟩ : ∃ V, w.alloc (.cells #[.int .i64 1, .int .i64 a, .int .i64 0, .int .i64 b, .int .i64 0, .int .i64 0, .int .i32 0, .slice none 0 0] 48) = V := ⟨_, rfl⟩
        have hb : Below w.heap.size w W1 := by rw [← hW1]; exact (Below.refl _ _).alloc (Nat.le_refl _) _
        have HN := Lib.hid (show Str W1 w.heap.size 48 ([mMov a b].flatMap cellsM) by rw [← hW1]; exact World.alloc_heap_new w _)
        have HB1 := Lib.hid hb
        have HX1 := Lib.hid (HX0.out.below hb)
        have HO1 := Lib.hid (show OwnMach B W1 v xs from own_same_row HO0.out (fun g cur hg => hb.block g (Array.getElem?_eq_some_iff.1 hg).1))
        have hz1 := HB1.out.size
        clear hb
        go_wp2_with (at_builtin; refine wpList_mchs rfl _ _ rfl rfl B v xs [mMov a b] rfl HO1.out ⟨w.heap.size, 0, none⟩ 1 rfl (fun j u hj => by
          first
          | (rw [at_add0, HN.out.cell j]; exact hj)
          | (rw [HN.out.cell j]; exact hj)) (by simp only [List.length_cons, List.length_nil]; omega) (by omega) ?_)
        intro v5 w5 ho5 hg5
        obtain ⟨A5, c5, rfl⟩ := own_form ho5
        have hx5 := HX1.out.kept hg5 (HX1.out.not_row (by decide) HO1.out)
        have hr := layer_next HX0.out HO0.out hlen HB1.out HX1.out HO1.out hg5 ho5 hBw
        rw [show (xs ++ [mMov a b]).length = xs.length + 1 by rw [List.length_append]; rfl] at hr
        have HR := Lib.hid hr
        clear hr
        have zf := hx5.frozen 0
        have z0 : w5.cell? ⟨by_, 0, none⟩ = some v := hx5.cell 0
        clear ho5 hg5 hx5 hW1
        go_wp2
        refine ⟨rfl, .tuple #[], by simp only [results]; go_simp, ?_⟩
        rw [HE.out]
        exact ⟨rfl, HR.out.1.more (by simp only [List.length_cons, List.length_nil]; omega), HR.out.2.1, HR.out.2.2⟩
      · have HE := Lib.hid (show appO (some xs) (bringN sc sp a b) = some (xs ++ [mSld a b]) by unfold bringN bringR; rw [if_pos (Or.inl hra), if_pos hra, if_neg hrb]; rfl)
        go_wp2_with fail
        refine region_heldT_wp (fun w' => w'.cell? ⟨by_, 0, none⟩ = some v ∧ w'.cell? ⟨by_, 1, none⟩ = some (.int .i64 sc) ∧ w'.cell? ⟨by_, 2, none⟩ = some (.int .i64 sp) ∧ w'.cell? ⟨by_, 3, none⟩ = some (.int .i64 0)) [0, 1, 2, 3, 4, 5, 6, 10, 11] [0, 1, 2, 3, 4, 5, 6, 7, 8, 9, 10, 11, 12] 12 (by kernel_rfl) (by kernel_rfl) (by kernel_rfl) (by kernel_rfl) rfl (by intro c a d v w h; cases d <;> exact h) ⟨k0, k1, k2, k3⟩ ?_
        refine walkH_still _ ?p0 rfl rfl rfl ?py0 ?_
        case py0 => intro w hS; go_simp; first | done | with_reducible rfl
        simp only [Act.put]
        refine walkH_still _ ?p1 rfl rfl rfl ?py1 ?_
        case py1 => intro w hS; go_simp; first | done | with_reducible rfl
        simp only [Act.put]
        refine walkH_still _ ?p2 rfl rfl rfl ?py2 ?_
        case py2 => intro w hS; go_simp; first | done | with_reducible rfl
        simp only [Act.put]
        refine walkH_still _ ?p3 rfl rfl rfl ?py3 ?_
        case py3 => intro w hS; go_simp; first | done | with_reducible rfl
        simp only [Act.put]
        refine walkH_still _ ?p4 rfl rfl rfl ?py4 ?_
        case py4 => intro w hS; go_simp; first | done | with_reducible rfl
        simp only [Act.put]
        refine walkH_still _ ?p5 rfl rfl rfl ?py5 ?_
        case py5 => intro w hS; go_simp; first | done | with_reducible rfl
        simp only [Act.put]
        refine walkH_still _ ?p6 rfl rfl rfl ?py6 ?_
        case py6 => intro w hS; go_simp; first | done | with_reducible rfl
        simp only [Act.put]
        try simp only [List.setIfInBounds_toArray, List.set_cons_zero, List.set_cons_succ]
        refine walkHd _ rfl rfl ?_
        go_wp2_with fail
        refine (ld_any _ a b ⟨by omega, by omega⟩).mono ?_
        rintro e pW1 ⟨rfl, hb⟩
        have hb : Below w.heap.size w pW1 := (Below.refl _ w).drew.trans hb
        have HBp1 := Lib.hid (HB0.out.trans (hb.mono HB0.out.size))
        have HXp1 := Lib.hid (HX0.out.below hb)
        have HOp1 := Lib.hid (show OwnMach B pW1 v xs from own_same_row HO0.out (fun g cur hg => hb.block g (Array.getElem?_eq_some_iff.1 hg).1))
        have hzp1 := HBp1.out.size
        clear hb
        have p1k0 : pW1.cell? ⟨by_, 0, none⟩ = some v := HXp1.out.cell 0
        have p1k1 : pW1.cell? ⟨by_, 1, none⟩ = some (.int .i64 sc) := HXp1.out.cell 1
        have p1k2 : pW1.cell? ⟨by_, 2, none⟩ = some (.int .i64 sp) := HXp1.out.cell 2
        have p1k3 : pW1.cell? ⟨by_, 3, none⟩ = some (.int .i64 0) := HXp1.out.cell 3
        go_wp2_with fail
        obtain ⟨pW2, hpW2⟩ : ∃ V, pW1.alloc (.cells #[.int .i64 30, .int .i64 a, .int .i64 0, .int .i64 0, .int .i64 0, .int .i64 0, .int .i32 (b - 16), .slice none 0 0] 48) = V := ⟨_, rfl⟩
        have hb : Below pW1.heap.size pW1 pW2 := by rw [← hpW2]; exact (Below.refl _ _).alloc (Nat.le_refl _) _
        have HNp := Lib.hid (show Str pW2 pW1.heap.size 48 ([mSld a b].flatMap cellsM) by rw [← hpW2]; exact World.alloc_heap_new pW1 _)
        have HBp2 := Lib.hid (HBp1.out.trans (hb.mono HBp1.out.size))
        have HXp2 := Lib.hid (HXp1.out.below hb)
        have HOp2 := Lib.hid (show OwnMach B pW2 v xs from own_same_row HOp1.out (fun g cur hg => hb.block g (Array.getElem?_eq_some_iff.1 hg).1))
        have hzp2 := HBp2.out.size
        clear hb
        have p2k0 : pW2.cell? ⟨by_, 0, none⟩ = some v := HXp2.out.cell 0
        have p2k1 : pW2.cell? ⟨by_, 1, none⟩ = some (.int .i64 sc) := HXp2.out.cell 1
        have p2k2 : pW2.cell? ⟨by_, 2, none⟩ = some (.int .i64 sp) := HXp2.out.cell 2
        have p2k3 : pW2.cell? ⟨by_, 3, none⟩ = some (.int .i64 0) := HXp2.out.cell 3
        refine behindH (Or.inl ⟨p1k0, p1k1, p1k2, p1k3⟩) ?_
        try simp only [List.setIfInBounds_toArray, List.set_cons_zero, List.set_cons_succ]
        refine walkHd _ rfl rfl ?_
        go_wp2_with fail
        clear hpW2
        refine behindH (Or.inl ⟨p2k0, p2k1, p2k2, p2k3⟩) ?_
        try simp only [List.setIfInBounds_toArray, List.set_cons_zero, List.set_cons_succ]
        refine walkHd _ rfl rfl ?_
        refine wpList_mchs rfl _ _ rfl rfl B v xs [mSld a b] rfl HOp2.out ⟨pW1.heap.size, 0, none⟩ 1 rfl (fun j u hj => by
          first
          | (rw [at_add0, HNp.out.cell j]; exact hj)
          | (rw [HNp.out.cell j]; exact hj)) (by simp only [List.length_cons, List.length_nil]; omega) (by omega) ?_
        intro v5 w5 ho5 hg5
        obtain ⟨A5, c5, rfl⟩ := own_form ho5
        have hx5 := HXp2.out.kept hg5 (HXp2.out.not_row (by decide) HOp2.out)
        have hr := layer_next HX0.out HO0.out hlen HBp2.out HXp2.out HOp2.out hg5 ho5 hBw
        rw [show (xs ++ [mSld a b]).length = xs.length + 1 by rw [List.length_append]; rfl] at hr
        have HR := Lib.hid hr
        clear hr
        have z0 : w5.cell? ⟨by_, 0, none⟩ = some v := hx5.cell 0
        have z1 : w5.cell? ⟨by_, 1, none⟩ = some (.int .i64 sc) := hx5.cell 1
        have z2 : w5.cell? ⟨by_, 2, none⟩ = some (.int .i64 sp) := hx5.cell 2
        have z3 : w5.cell? ⟨by_, 3, none⟩ = some (.int .i64 0) := hx5.cell 3
        have zf := hx5.frozen 0
        clear ho5 hg5 hx5
        go_wp2_with fail
        refine behindH (Or.inl ⟨z0, z1, z2, z3⟩) ?_
        refine walkH_still _ ?p10 rfl rfl rfl ?py10 ?_
        case py10 => intro w hS; go_simp; first | done | with_reducible rfl
        simp only [Act.put]
        refine walkH_still _ ?p11 rfl rfl rfl ?py11 ?_
        case py11 => intro w hS; go_simp; first | done | with_reducible rfl
        simp only [Act.put]
        try simp only [List.setIfInBounds_toArray, List.set_cons_zero, List.set_cons_succ]
        refine walkHd _ rfl rfl ?_
        go_wp2_with fail
        refine behindH (Or.inr rfl) (walkH_nil ?_)
        go_wp2
        refine ⟨rfl, .tuple #[], by simp only [results]; go_simp, ?_⟩
        rw [HE.out]
        exact ⟨rfl, HR.out.1.more (by simp only [List.length_cons, List.length_nil]; omega), HR.out.2.1, HR.out.2.2⟩
    · by_cases hrb : b < 16
      · have HE := Lib.hid (show appO (some xs) (bringN sc sp a b) = some (xs ++ [mSst b a]) by unfold bringN bringR; rw [if_pos (Or.inr hrb), if_neg hra]; rfl)
        go_wp2_with fail
        refine region_heldT_wp (fun w' => w'.cell? ⟨by_, 0, none⟩ = some v ∧ w'.cell? ⟨by_, 1, none⟩ = some (.int .i64 sc) ∧ w'.cell? ⟨by_, 2, none⟩ = some (.int .i64 sp) ∧ w'.cell? ⟨by_, 3, none⟩ = some (.int .i64 0)) [0, 1, 2, 3, 4, 5, 6, 10, 11] [0, 1, 2, 3, 4, 5, 6, 7, 8, 9, 10, 11, 12] 12 (by kernel_rfl) (by kernel_rfl) (by kernel_rfl) (by kernel_rfl) rfl (by intro c a d v w h; cases d <;> exact h) ⟨k0, k1, k2, k3⟩ ?_
        refine walkH_still _ ?r0 rfl rfl rfl ?ry0 ?_
        case ry0 => intro w hS; go_simp; first | done | with_reducible rfl
        simp only [Act.put]
        refine walkH_still _ ?r1 rfl rfl rfl ?ry1 ?_
        case ry1 => intro w hS; go_simp; first | done | with_reducible rfl
        simp only [Act.put]
        refine walkH_still _ ?r2 rfl rfl rfl ?ry2 ?_
        case ry2 => intro w hS; go_simp; first | done | with_reducible rfl
        simp only [Act.put]
        refine walkH_still _ ?r3 rfl rfl rfl ?ry3 ?_
        case ry3 => intro w hS; go_simp; first | done | with_reducible rfl
        simp only [Act.put]
        refine walkH_still _ ?r4 rfl rfl rfl ?ry4 ?_
        case ry4 => intro w hS; go_simp; first | done | with_reducible rfl
        simp only [Act.put]
        refine walkH_still _ ?r5 rfl rfl rfl ?ry5 ?_
        case ry5 => intro w hS; go_simp; first | done | with_reducible rfl
        simp only [Act.put]
        refine walkH_still _ ?r6 rfl rfl rfl ?ry6 ?_
        case ry6 => intro w hS; go_simp; first | done | with_reducible rfl
        simp only [Act.put]
        try simp only [List.setIfInBounds_toArray, List.set_cons_zero, List.set_cons_succ]
        refine walkHd _ rfl rfl ?_
        go_wp2_with fail
        refine (st_any _ b a ⟨by omega, by omega⟩).mono ?_
        rintro e rW1 ⟨rfl, hb⟩
        have hb : Below w.heap.size w rW1 := (Below.refl _ w).drew.trans hb
        have HBr1 := Lib.hid (HB0.out.trans (hb.mono HB0.out.size))
        have HXr1 := Lib.hid (HX0.out.below hb)
        have HOr1 := Lib.hid (show OwnMach B rW1 v xs from own_same_row HO0.out (fun g cur hg => hb.block g (Array.getElem?_eq_some_iff.1 hg).1))
        have hzr1 := HBr1.out.size
        clear hb
        have r1k0 : rW1.cell? ⟨by_, 0, none⟩ = some v := HXr1.out.cell 0
        have r1k1 : rW1.cell? ⟨by_, 1, none⟩ = some (.int .i64 sc) := HXr1.out.cell 1
        have r1k2 : rW1.cell? ⟨by_, 2, none⟩ = some (.int .i64 sp) := HXr1.out.cell 2
        have r1k3 : rW1.cell? ⟨by_, 3, none⟩ = some (.int .i64 0) := HXr1.out.cell 3
        go_wp2_with fail
        obtain ⟨rW2, hrW2⟩ : ∃ V, rW1.alloc (.cells #[.int .i64 31, .int .i64 0, .int .i64 0, .int .i64 b, .int .i64 0, .int .i64 0, .int .i32 (a - 16), .slice none 0 0] 48) = V := ⟨_, rfl⟩
        have hb : Below rW1.heap.size rW1 rW2 := by rw [← hrW2]; exact (Below.refl _ _).alloc (Nat.le_refl _) _
        have HNr := Lib.hid (show Str rW2 rW1.heap.size 48 ([mSst b a].flatMap cellsM) by rw [← hrW2]; exact World.alloc_heap_new rW1 _)
        have HBr2 := Lib.hid (HBr1.out.trans (hb.mono HBr1.out.size))
        have HXr2 := Lib.hid (HXr1.out.below hb)
        have HOr2 := Lib.hid (show OwnMach B rW2 v xs from own_same_row HOr1.out (fun g cur hg => hb.block g (Array.getElem?_eq_some_iff.1 hg).1))
        have hzr2 := HBr2.out.size
        clear hb
        have r2k0 : rW2.cell? ⟨by_, 0, none⟩ = some v := HXr2.out.cell 0
        have r2k1 : rW2.cell? ⟨by_, 1, none⟩ = some (.int .i64 sc) := HXr2.out.cell 1
        have r2k2 : rW2.cell? ⟨by_, 2, none⟩ = some (.int .i64 sp) := HXr2.out.cell 2
        have r2k3 : rW2.cell? ⟨by_, 3, none⟩ = some (.int .i64 0) := HXr2.out.cell 3
        refine behindH (Or.inl ⟨r1k0, r1k1, r1k2, r1k3⟩) ?_
        try simp only [List.setIfInBounds_toArray, List.set_cons_zero, List.set_cons_succ]
        refine walkHd _ rfl rfl ?_
        go_wp2_with fail
        clear hrW2
        refine behindH (Or.inl ⟨r2k0, r2k1, r2k2, r2k3⟩) ?_
        try simp only [List.setIfInBounds_toArray, List.set_cons_zero, List.set_cons_succ]
        refine walkHd _ rfl rfl ?_
        refine wpList_mchs rfl _ _ rfl rfl B v xs [mSst b a] rfl HOr2.out ⟨rW1.heap.size, 0, none⟩ 1 rfl (fun j u hj => by
          first
          | (rw [at_add0, HNr.out.cell j]; exact hj)
          | (rw [HNr.out.cell j]; exact hj)) (by simp only [List.length_cons, List.length_nil]; omega) (by omega) ?_
        intro v5 w5 ho5 hg5
        obtain ⟨A5, c5, rfl⟩ := own_form ho5
        have hx5 := HXr2.out.kept hg5 (HXr2.out.not_row (by decide) HOr2.out)
        have hr := layer_next HX0.out HO0.out hlen HBr2.out HXr2.out HOr2.out hg5 ho5 hBw
        rw [show (xs ++ [mSst b a]).length = xs.length + 1 by rw [List.length_append]; rfl] at hr
        have HR := Lib.hid hr
        clear hr
        have z0 : w5.cell? ⟨by_, 0, none⟩ = some v := hx5.cell 0
        have z1 : w5.cell? ⟨by_, 1, none⟩ = some (.int .i64 sc) := hx5.cell 1
        have z2 : w5.cell? ⟨by_, 2, none⟩ = some (.int .i64 sp) := hx5.cell 2
        have z3 : w5.cell? ⟨by_, 3, none⟩ = some (.int .i64 0) := hx5.cell 3
        have zf := hx5.frozen 0
        clear ho5 hg5 hx5
        go_wp2_with fail
        refine behindH (Or.inl ⟨z0, z1, z2, z3⟩) ?_
        refine walkH_still _ ?r10 rfl rfl rfl ?ry10 ?_
        case ry10 => intro w hS; go_simp; first | done | with_reducible rfl
        simp only [Act.put]
        refine walkH_still _ ?r11 rfl rfl rfl ?ry11 ?_
        case ry11 => intro w hS; go_simp; first | done | with_reducible rfl
        simp only [Act.put]
        try simp only [List.setIfInBounds_toArray, List.set_cons_zero, List.set_cons_succ]
        refine walkHd _ rfl rfl ?_
        go_wp2_with fail
        refine behindH (Or.inr rfl) (walkH_nil ?_)
        go_wp2
        refine ⟨rfl, .tuple #[], by simp only [results]; go_simp, ?_⟩
        rw [HE.out]
        exact ⟨rfl, HR.out.1.more (by simp only [List.length_cons, List.length_nil]; omega), HR.out.2.1, HR.out.2.2⟩
      · by_cases hs0 : 0 ≤ sc
        · have HE := Lib.hid (show appO (some xs) (bringN sc sp a b) = some (xs ++ [mSld sc b, mSst sc a]) by unfold bringN; rw [if_neg (by omega), if_pos hs0]; rfl)
          go_wp2_with fail
          refine region_heldT_wp (fun w' => w'.cell? ⟨by_, 0, none⟩ = some v ∧ w'.cell? ⟨by_, 1, none⟩ = some (.int .i64 sc) ∧ w'.cell? ⟨by_, 2, none⟩ = some (.int .i64 sp) ∧ w'.cell? ⟨by_, 3, none⟩ = some (.int .i64 0)) [0, 1, 2, 3, 4, 5, 6, 7, 8, 9, 11, 12, 13, 14, 15, 19, 20] [0, 1, 2, 3, 4, 5, 6, 7, 8, 9, 11, 12, 13, 14, 15, 10, 16, 17, 18, 19, 20, 21] 21 (by kernel_rfl) (by kernel_rfl) (by kernel_rfl) (by kernel_rfl) rfl (by intro c a d v w h; cases d <;> exact h) ⟨k0, k1, k2, k3⟩ ?_
          refine walkH_still _ ?s0 rfl rfl rfl ?sy0 ?_
          case sy0 => intro w hS; go_simp; first | done | with_reducible rfl
          simp only [Act.put]
          refine walkH_still _ ?s1 rfl rfl rfl ?sy1 ?_
          case sy1 => intro w hS; go_simp; first | done | with_reducible rfl
          simp only [Act.put]
          refine walkH_still _ ?s2 rfl rfl rfl ?sy2 ?_
          case sy2 => intro w hS; go_simp; first | done | with_reducible rfl
          simp only [Act.put]
          refine walkH_still _ ?s3 rfl rfl rfl ?sy3 ?_
          case sy3 => intro w hS; go_simp; first | done | with_reducible rfl
          simp only [Act.put]
          refine walkH_still _ ?s4 rfl rfl rfl ?sy4 ?_
          case sy4 => intro w hS; go_simp; first | done | with_reducible rfl
          simp only [Act.put]
          refine walkH_still _ ?s5 rfl rfl rfl ?sy5 ?_
          case sy5 => intro w hS; go_simp; first | done | with_reducible rfl
          simp only [Act.put]
          refine walkH_still _ ?s6 rfl rfl rfl ?sy6 ?_
          case sy6 => intro w hS; go_simp; first | done | with_reducible rfl
          simp only [Act.put]
          refine walkH_still _ ?s7 rfl rfl rfl ?sy7 ?_
          case sy7 => intro w hS; go_simp; first | done | with_reducible rfl
          simp only [Act.put]
          refine walkH_still _ ?s8 rfl rfl rfl ?sy8 ?_
          case sy8 => intro w hS; go_simp; first | done | with_reducible rfl
          simp only [Act.put]
          refine walkH_still _ ?s9 rfl rfl rfl ?sy9 ?_
          case sy9 => intro w hS; go_simp; first | done | with_reducible rfl
          simp only [Act.put]
          refine walkH_still _ ?s11 rfl rfl rfl ?sy11 ?_
          case sy11 => intro w hS; go_simp; first | done | with_reducible rfl
          simp only [Act.put]
          refine walkH_still _ ?s12 rfl rfl rfl ?sy12 ?_
          case sy12 => intro w hS; go_simp; first | done | with_reducible rfl
          simp only [Act.put]
          refine walkH_still _ ?s13 rfl rfl rfl ?sy13 ?_
          case sy13 => intro w hS; go_simp; first | done | with_reducible rfl
          simp only [Act.put]
          refine walkH_still _ ?s14 rfl rfl rfl ?sy14 ?_
          case sy14 => intro w hS; go_simp; first | done | with_reducible rfl
          simp only [Act.put]
          refine walkH_still _ ?s15 rfl rfl rfl ?sy15 ?_
          case sy15 => intro w hS; go_simp; first | done | with_reducible rfl
          simp only [Act.put]
          try simp only [List.setIfInBounds_toArray, List.set_cons_zero, List.set_cons_succ]
          refine walkHd _ rfl rfl ?_
          go_wp2_with fail
          refine (ld_any _ sc b ⟨by omega, by omega⟩).mono ?_
          rintro e sW1 ⟨rfl, hb⟩
          have hb : Below w.heap.size w sW1 := (Below.refl _ w).drew.trans hb
          have HBs1 := Lib.hid (HB0.out.trans (hb.mono HB0.out.size))
          have HXs1 := Lib.hid (HX0.out.below hb)
          have HOs1 := Lib.hid (show OwnMach B sW1 v xs from own_same_row HO0.out (fun g cur hg => hb.block g (Array.getElem?_eq_some_iff.1 hg).1))
          have hzs1 := HBs1.out.size
          clear hb
          have s1k0 : sW1.cell? ⟨by_, 0, none⟩ = some v := HXs1.out.cell 0
          have s1k1 : sW1.cell? ⟨by_, 1, none⟩ = some (.int .i64 sc) := HXs1.out.cell 1
          have s1k2 : sW1.cell? ⟨by_, 2, none⟩ = some (.int .i64 sp) := HXs1.out.cell 2
          have s1k3 : sW1.cell? ⟨by_, 3, none⟩ = some (.int .i64 0) := HXs1.out.cell 3
          go_wp2_with fail
          refine behindH (Or.inl ⟨s1k0, s1k1, s1k2, s1k3⟩) ?_
          try simp only [List.setIfInBounds_toArray, List.set_cons_zero, List.set_cons_succ]
          refine walkHd _ rfl rfl ?_
          go_wp2_with fail
          refine (st_any _ sc a ⟨by omega, by omega⟩).mono ?_
          rintro e sW2 ⟨rfl, hb⟩
          have HBs2 := Lib.hid (HBs1.out.trans (hb.mono HBs1.out.size))
          have HXs2 := Lib.hid (HXs1.out.below hb)
          have HOs2 := Lib.hid (show OwnMach B sW2 v xs from own_same_row HOs1.out (fun g cur hg => hb.block g (Array.getElem?_eq_some_iff.1 hg).1))
          have hzs2 := HBs2.out.size
          clear hb
          have s2k0 : sW2.cell? ⟨by_, 0, none⟩ = some v := HXs2.out.cell 0
          have s2k1 : sW2.cell? ⟨by_, 1, none⟩ = some (.int .i64 sc) := HXs2.out.cell 1
          have s2k2 : sW2.cell? ⟨by_, 2, none⟩ = some (.int .i64 sp) := HXs2.out.cell 2
          have s2k3 : sW2.cell? ⟨by_, 3, none⟩ = some (.int .i64 0) := HXs2.out.cell 3
          go_wp2_with fail
          obtain ⟨sW3, hsW3⟩ : ∃ V, sW2.alloc (.cells #[.int .i64 30, .int .i64 sc, .int .i64 0, .int .i64 0, .int .i64 0, .int .i64 0, .int .i32 (b - 16), .slice none 0 0, .int .i64 31, .int .i64 0, .int .i64 0, .int .i64 sc, .int .i64 0, .int .i64 0, .int .i32 (a - 16), .slice none 0 0] 48) = V := ⟨_, rfl⟩
          have hb : Below sW2.heap.size sW2 sW3 := by rw [← hsW3]; exact (Below.refl _ _).alloc (Nat.le_refl _) _
          have HNs := Lib.hid (show Str sW3 sW2.heap.size 48 ([mSld sc b, mSst sc a].flatMap cellsM) by rw [← hsW3]; exact World.alloc_heap_new sW2 _)
          have HBs3 := Lib.hid (HBs2.out.trans (hb.mono HBs2.out.size))
          have HXs3 := Lib.hid (HXs2.out.below hb)
          have HOs3 := Lib.hid (show OwnMach B sW3 v xs from own_same_row HOs2.out (fun g cur hg => hb.block g (Array.getElem?_eq_some_iff.1 hg).1))
          have hzs3 := HBs3.out.size
          clear hb
          have s3k0 : sW3.cell? ⟨by_, 0, none⟩ = some v := HXs3.out.cell 0
          have s3k1 : sW3.cell? ⟨by_, 1, none⟩ = some (.int .i64 sc) := HXs3.out.cell 1
          have s3k2 : sW3.cell? ⟨by_, 2, none⟩ = some (.int .i64 sp) := HXs3.out.cell 2
          have s3k3 : sW3.cell? ⟨by_, 3, none⟩ = some (.int .i64 0) := HXs3.out.cell 3
          refine behindH (Or.inl ⟨s2k0, s2k1, s2k2, s2k3⟩) ?_
          try simp only [List.setIfInBounds_toArray, List.set_cons_zero, List.set_cons_succ]
          refine walkHd _ rfl rfl ?_
          go_wp2_with fail
          clear hsW3
          refine behindH (Or.inl ⟨s3k0, s3k1, s3k2, s3k3⟩) ?_
          try simp only [List.setIfInBounds_toArray, List.set_cons_zero, List.set_cons_succ]
          refine walkHd _ rfl rfl ?_
          refine wpList_mchs rfl _ _ rfl rfl B v xs [mSld sc b, mSst sc a] rfl HOs3.out ⟨sW2.heap.size, 0, none⟩ 2 rfl (fun j u hj => by
            first
            | (rw [at_add0, HNs.out.cell j]; exact hj)
            | (rw [HNs.out.cell j]; exact hj)) (by simp only [List.length_cons, List.length_nil]; omega) (by omega) ?_
          intro v5 w5 ho5 hg5
          obtain ⟨A5, c5, rfl⟩ := own_form ho5
          have hx5 := HXs3.out.kept hg5 (HXs3.out.not_row (by decide) HOs3.out)
          have hr := layer_next HX0.out HO0.out hlen HBs3.out HXs3.out HOs3.out hg5 ho5 hBw
          rw [show (xs ++ [mSld sc b, mSst sc a]).length = xs.length + 2 by rw [List.length_append]; rfl] at hr
          have HR := Lib.hid hr
          clear hr
          have z0 : w5.cell? ⟨by_, 0, none⟩ = some v := hx5.cell 0
          have z1 : w5.cell? ⟨by_, 1, none⟩ = some (.int .i64 sc) := hx5.cell 1
          have z2 : w5.cell? ⟨by_, 2, none⟩ = some (.int .i64 sp) := hx5.cell 2
          have z3 : w5.cell? ⟨by_, 3, none⟩ = some (.int .i64 0) := hx5.cell 3
          have zf := hx5.frozen 0
          clear ho5 hg5 hx5
          go_wp2_with fail
          refine behindH (Or.inl ⟨z0, z1, z2, z3⟩) ?_
          refine walkH_still _ ?s19 rfl rfl rfl ?sy19 ?_
          case sy19 => intro w hS; go_simp; first | done | with_reducible rfl
          simp only [Act.put]
          refine walkH_still _ ?s20 rfl rfl rfl ?sy20 ?_
          case sy20 => intro w hS; go_simp; first | done | with_reducible rfl
          simp only [Act.put]
          try simp only [List.setIfInBounds_toArray, List.set_cons_zero, List.set_cons_succ]
          refine walkHd _ rfl rfl ?_
          go_wp2_with fail
          refine behindH (Or.inr rfl) (walkH_nil ?_)
          go_wp2
          refine ⟨rfl, .tuple #[], by simp only [results]; go_simp, ?_⟩
          rw [HE.out]
          exact ⟨rfl, HR.out.1.more (by simp only [List.length_cons, List.length_nil]; omega), HR.out.2.1, HR.out.2.2⟩
        · by_cases hp0 : sp < 0
          · have HE := Lib.hid (show appO (some xs) (bringN sc sp a b) = none by unfold bringN; rw [if_neg (by omega), if_neg hs0, if_pos hp0]; rfl)
            have kf := HX0.out.frozen 3
            have HR := Lib.hid (show LyrAt (w.setCell ⟨by_, 3, none⟩ (.int .i64 43)) by_ B sc sp none (n + 4) from ⟨v, xs, 43, HX0.out.set 3 _, own_same_kv HO0.out (fun g hg => Below.heap_setCell _ _ _ _ (fun e => (by have e : g = by_ := e; subst e; exact HX0.out.not_row (by decide) HO0.out hg.symm))), by omega, Or.inr ⟨rfl, rfl⟩⟩)
            have hlt := HX0.out.lt
            go_wp2_with fail
            refine ⟨rfl, .tuple #[], by simp only [results]; go_simp, ?_⟩
            rw [HE.out]
            exact ⟨rfl, HR.out, Lay.of_box 3 _, (Below.refl _ _).setCell (p := ⟨by_, 3, none⟩) (show min B by_ ≤ by_ by omega) _⟩
          · obtain ⟨q, hq⟩ : ∃ q : Int, 16 + sp + 1 = q := ⟨_, rfl⟩
            have HE := Lib.hid (show appO (some xs) (bringN sc sp a b) = some (xs ++ [mSst 0 q, mSld 0 b, mSst 0 a, mSld 0 q]) by unfold bringN; rw [if_neg (by omega), if_neg hs0, if_neg hp0, hq]; rfl)
            go_wp2_with fail
            try rw [hq]
            refine region_heldT_wp (fun w' => w'.cell? ⟨by_, 0, none⟩ = some v ∧ w'.cell? ⟨by_, 1, none⟩ = some (.int .i64 sc) ∧ w'.cell? ⟨by_, 2, none⟩ = some (.int .i64 sp) ∧ w'.cell? ⟨by_, 3, none⟩ = some (.int .i64 0)) [0, 1, 2, 3, 4, 5, 7, 9, 11, 15, 16] [0, 1, 2, 3, 4, 5, 7, 9, 11, 6, 8, 10, 12, 13, 14, 15, 16, 17] 17 (by kernel_rfl) (by kernel_rfl) (by kernel_rfl) (by kernel_rfl) rfl (by intro c a d v w h; cases d <;> exact h) ⟨k0, k1, k2, k3⟩ ?_
            refine walkH_still _ ?t0 rfl rfl rfl ?ty0 ?_
            case ty0 => intro w hS; go_simp; first | done | with_reducible rfl
            simp only [Act.put]
            refine walkH_still _ ?t1 rfl rfl rfl ?ty1 ?_
            case ty1 => intro w hS; go_simp; first | done | with_reducible rfl
            simp only [Act.put]
            refine walkH_still _ ?t2 rfl rfl rfl ?ty2 ?_
            case ty2 => intro w hS; go_simp; first | done | with_reducible rfl
            simp only [Act.put]
            refine walkH_still _ ?t3 rfl rfl rfl ?ty3 ?_
            case ty3 => intro w hS; go_simp; first | done | with_reducible rfl
            simp only [Act.put]
            refine walkH_still _ ?t4 rfl rfl rfl ?ty4 ?_
            case ty4 => intro w hS; go_simp; first | done | with_reducible rfl
            simp only [Act.put]
            refine walkH_still _ ?t5 rfl rfl rfl ?ty5 ?_
            case ty5 => intro w hS; go_simp; first | done | with_reducible rfl
            simp only [Act.put]
            refine walkH_still _ ?t7 rfl rfl rfl ?ty7 ?_
            case ty7 => intro w hS; go_simp; first | done | with_reducible rfl
            simp only [Act.put]
            refine walkH_still _ ?t9 rfl rfl rfl ?ty9 ?_
            case ty9 => intro w hS; go_simp; first | done | with_reducible rfl
            simp only [Act.put]
            refine walkH_still _ ?t11 rfl rfl rfl ?ty11 ?_
            case ty11 => intro w hS; go_simp; first | done | with_reducible rfl
            simp only [Act.put]
            try simp only [List.setIfInBounds_toArray, List.set_cons_zero, List.set_cons_succ]
            refine walkHd _ rfl rfl ?_
            go_wp2_with fail
            refine (st_any _ 0 q ⟨by omega, by omega⟩).mono ?_
            rintro e tW1 ⟨rfl, hb⟩
            have hb : Below w.heap.size w tW1 := (Below.refl _ w).drew.trans hb
            have HBt1 := Lib.hid (HB0.out.trans (hb.mono HB0.out.size))
            have HXt1 := Lib.hid (HX0.out.below hb)
            have HOt1 := Lib.hid (show OwnMach B tW1 v xs from own_same_row HO0.out (fun g cur hg => hb.block g (Array.getElem?_eq_some_iff.1 hg).1))
            have hzt1 := HBt1.out.size
            clear hb
            have t1k0 : tW1.cell? ⟨by_, 0, none⟩ = some v := HXt1.out.cell 0
            have t1k1 : tW1.cell? ⟨by_, 1, none⟩ = some (.int .i64 sc) := HXt1.out.cell 1
            have t1k2 : tW1.cell? ⟨by_, 2, none⟩ = some (.int .i64 sp) := HXt1.out.cell 2
            have t1k3 : tW1.cell? ⟨by_, 3, none⟩ = some (.int .i64 0) := HXt1.out.cell 3
            go_wp2_with fail
            refine behindH (Or.inl ⟨t1k0, t1k1, t1k2, t1k3⟩) ?_
            try simp only [List.setIfInBounds_toArray, List.set_cons_zero, List.set_cons_succ]
            refine walkHd _ rfl rfl ?_
            go_wp2_with fail
            refine (ld_any _ 0 b ⟨by omega, by omega⟩).mono ?_
            rintro e tW2 ⟨rfl, hb⟩
            have HBt2 := Lib.hid (HBt1.out.trans (hb.mono HBt1.out.size))
            have HXt2 := Lib.hid (HXt1.out.below hb)
            have HOt2 := Lib.hid (show OwnMach B tW2 v xs from own_same_row HOt1.out (fun g cur hg => hb.block g (Array.getElem?_eq_some_iff.1 hg).1))
            have hzt2 := HBt2.out.size
            clear hb
            have t2k0 : tW2.cell? ⟨by_, 0, none⟩ = some v := HXt2.out.cell 0
            have t2k1 : tW2.cell? ⟨by_, 1, none⟩ = some (.int .i64 sc) := HXt2.out.cell 1
            have t2k2 : tW2.cell? ⟨by_, 2, none⟩ = some (.int .i64 sp) := HXt2.out.cell 2
            have t2k3 : tW2.cell? ⟨by_, 3, none⟩ = some (.int .i64 0) := HXt2.out.cell 3
            go_wp2_with fail
            refine behindH (Or.inl ⟨t2k0, t2k1, t2k2, t2k3⟩) ?_
            try simp only [List.setIfInBounds_toArray, List.set_cons_zero, List.set_cons_succ]
            refine walkHd _ rfl rfl ?_
            go_wp2_with fail
            refine (st_any _ 0 a ⟨by omega, by omega⟩).mono ?_
            rintro e tW3 ⟨rfl, hb⟩
            have HBt3 := Lib.hid (HBt2.out.trans (hb.mono HBt2.out.size))
            have HXt3 := Lib.hid (HXt2.out.below hb)
            have HOt3 := Lib.hid (show OwnMach B tW3 v xs from own_same_row HOt2.out (fun g cur hg => hb.block g (Array.getElem?_eq_some_iff.1 hg).1))
            have hzt3 := HBt3.out.size
            clear hb
            have t3k0 : tW3.cell? ⟨by_, 0, none⟩ = some v := HXt3.out.cell 0
            have t3k1 : tW3.cell? ⟨by_, 1, none⟩ = some (.int .i64 sc) := HXt3.out.cell 1
            have t3k2 : tW3.cell? ⟨by_, 2, none⟩ = some (.int .i64 sp) := HXt3.out.cell 2
            have t3k3 : tW3.cell? ⟨by_, 3, none⟩ = some (.int .i64 0) := HXt3.out.cell 3
            go_wp2_with fail
            refine behindH (Or.inl ⟨t3k0, t3k1, t3k2, t3k3⟩) ?_
            try simp only [List.setIfInBounds_toArray, List.set_cons_zero, List.set_cons_succ]
            refine walkHd _ rfl rfl ?_
            go_wp2_with fail
            refine (ld_any _ 0 q ⟨by omega, by omega⟩).mono ?_
            rintro e tW4 ⟨rfl, hb⟩
            have HBt4 := Lib.hid (HBt3.out.trans (hb.mono HBt3.out.size))
            have HXt4 := Lib.hid (HXt3.out.below hb)
            have HOt4 := Lib.hid (show OwnMach B tW4 v xs from own_same_row HOt3.out (fun g cur hg => hb.block g (Array.getElem?_eq_some_iff.1 hg).1))
            have hzt4 := HBt4.out.size
            clear hb
            have t4k0 : tW4.cell? ⟨by_, 0, none⟩ = some v := HXt4.out.cell 0
            have t4k1 : tW4.cell? ⟨by_, 1, none⟩ = some (.int .i64 sc) := HXt4.out.cell 1
            have t4k2 : tW4.cell? ⟨by_, 2, none⟩ = some (.int .i64 sp) := HXt4.out.cell 2
            have t4k3 : tW4.cell? ⟨by_, 3, none⟩ = some (.int .i64 0) := HXt4.out.cell 3
            go_wp2_with fail
            obtain ⟨tW5, htW5⟩ : ∃ V, tW4.alloc (.cells #[.int .i64 31, .int .i64 0, .int .i64 0, .int .i64 0, .int .i64 0, .int .i64 0, .int .i32 (q - 16), .slice none 0 0, .int .i64 30, .int .i64 0, .int .i64 0, .int .i64 0, .int .i64 0, .int .i64 0, .int .i32 (b - 16), .slice none 0 0, .int .i64 31, .int .i64 0, .int .i64 0, .int .i64 0, .int .i64 0, .int .i64 0, .int .i32 (a - 16), .slice none 0 0, .int .i64 30, .int .i64 0, .int .i64 0, .int .i64 0, .int .i64 0, .int .i64 0, .int .i32 (q - 16), .slice none 0 0] 48) = V := ⟨_, rfl⟩
            have hb : Below tW4.heap.size tW4 tW5 := by rw [← htW5]; exact (Below.refl _ _).alloc (Nat.le_refl _) _
            have HNt := Lib.hid (show Str tW5 tW4.heap.size 48 ([mSst 0 q, mSld 0 b, mSst 0 a, mSld 0 q].flatMap cellsM) by rw [← htW5]; exact World.alloc_heap_new tW4 _)
            have HBt5 := Lib.hid (HBt4.out.trans (hb.mono HBt4.out.size))
            have HXt5 := Lib.hid (HXt4.out.below hb)
            have HOt5 := Lib.hid (show OwnMach B tW5 v xs from own_same_row HOt4.out (fun g cur hg => hb.block g (Array.getElem?_eq_some_iff.1 hg).1))
            have hzt5 := HBt5.out.size
            clear hb
            have t5k0 : tW5.cell? ⟨by_, 0, none⟩ = some v := HXt5.out.cell 0
            have t5k1 : tW5.cell? ⟨by_, 1, none⟩ = some (.int .i64 sc) := HXt5.out.cell 1
            have t5k2 : tW5.cell? ⟨by_, 2, none⟩ = some (.int .i64 sp) := HXt5.out.cell 2
            have t5k3 : tW5.cell? ⟨by_, 3, none⟩ = some (.int .i64 0) := HXt5.out.cell 3
            refine behindH (Or.inl ⟨t4k0, t4k1, t4k2, t4k3⟩) ?_
            try simp only [List.setIfInBounds_toArray, List.set_cons_zero, List.set_cons_succ]
            refine walkHd _ rfl rfl ?_
            go_wp2_with fail
            clear htW5
            refine behindH (Or.inl ⟨t5k0, t5k1, t5k2, t5k3⟩) ?_
            try simp only [List.setIfInBounds_toArray, List.set_cons_zero, List.set_cons_succ]
            refine walkHd _ rfl rfl ?_
            refine wpList_mchs rfl _ _ rfl rfl B v xs [mSst 0 q, mSld 0 b, mSst 0 a, mSld 0 q] rfl HOt5.out ⟨tW4.heap.size, 0, none⟩ 4 rfl (fun j u hj => by
              first
              | (rw [at_add0, HNt.out.cell j]; exact hj)
              | (rw [HNt.out.cell j]; exact hj)) (by simp only [List.length_cons, List.length_nil]; omega) (by omega) ?_
            intro v5 w5 ho5 hg5
            obtain ⟨A5, c5, rfl⟩ := own_form ho5
            have hx5 := HXt5.out.kept hg5 (HXt5.out.not_row (by decide) HOt5.out)
            have hr := layer_next HX0.out HO0.out hlen HBt5.out HXt5.out HOt5.out hg5 ho5 hBw
            rw [show (xs ++ [mSst 0 q, mSld 0 b, mSst 0 a, mSld 0 q]).length = xs.length + 4 by rw [List.length_append]; rfl] at hr
            have HR := Lib.hid hr
            clear hr
            have z0 : w5.cell? ⟨by_, 0, none⟩ = some v := hx5.cell 0
            have z1 : w5.cell? ⟨by_, 1, none⟩ = some (.int .i64 sc) := hx5.cell 1
            have z2 : w5.cell? ⟨by_, 2, none⟩ = some (.int .i64 sp) := hx5.cell 2
            have z3 : w5.cell? ⟨by_, 3, none⟩ = some (.int .i64 0) := hx5.cell 3
            have zf := hx5.frozen 0
            clear ho5 hg5 hx5
            go_wp2_with fail
            refine behindH (Or.inl ⟨z0, z1, z2, z3⟩) ?_
            refine walkH_still _ ?t15 rfl rfl rfl ?ty15 ?_
            case ty15 => intro w hS; go_simp; first | done | with_reducible rfl
            simp only [Act.put]
            refine walkH_still _ ?t16 rfl rfl rfl ?ty16 ?_
            case ty16 => intro w hS; go_simp; first | done | with_reducible rfl
            simp only [Act.put]
            try simp only [List.setIfInBounds_toArray, List.set_cons_zero, List.set_cons_succ]
            refine walkHd _ rfl rfl ?_
            go_wp2_with fail
            refine behindH (Or.inr rfl) (walkH_nil ?_)
            go_wp2
            refine ⟨rfl, .tuple #[], by simp only [results]; go_simp, ?_⟩
            rw [HE.out]
            exact ⟨rfl, HR.out.1.more (by simp only [List.length_cons, List.length_nil]; omega), HR.out.2.1, HR.out.2.2⟩
  · go_enter Try.func49, Try.ntmps49
    go_wp2_with fail
    refine ⟨rfl, .tuple #[], by simp only [results]; go_simp, ?_⟩
    exact ⟨rfl, ⟨v, xs, 43, HX0.out, HO0.out, by omega, Or.inr ⟨by rw [appO_none_l], rfl⟩⟩, Lay.refl _ _, Below.refl _ _⟩
end Go.Proofs.Ytdohaoomckhbgaa.Vm
namespace Go.Proofs.Ytdohaoomckhbgaa.Vm
open Go.ChangeShapes Go.WideShapes Go.ChangeAt Go.RowKit Go.Maps Go.WideElems Go.ChangeMaps Go.Sort Go.Shelf Go.Proofs.Ytdohaoomckhbgaa.Mem Go.Proofs.Ytdohaoomckhbgaa.Br Go.Proofs.Ytdohaoomckhbgaa.Va Go.Proofs.Ytdohaoomckhbgaa.Vr
set_option linter.unusedVariables false
set_option linter.unusedSimpArgs false
attribute [local go_sem] Oper.semAt_some
theorem appO_assoc (a b c : Option (List PM)) : appO (appO a b) c = appO a (appO b c) := by
  cases a <;> cases b <;> cases c <;> simp [appO]
theorem orb_at {f : Int → Int} {x : Int} {N k : Nat} (h : k < (orb f x N).length) : (orb f x N)[k] = it f x k := by simp [orb]
/-- A row of numbers of one's own lies on. -/
theorem row_lyr {by_ Bv : Nat} {w w' : World} {vs : List Value} {v : Value} {xs : List Int} (h : OwnInts Bv w v xs) (hx : Str w by_ 84 vs) (hy : Lay by_ w w') : OwnInts Bv w' v xs :=
  own_same_row h (fun g cur hg => (hy.block g _ hg (fun e => by subst e; have := hg.symm.trans hx; cases this) (fun cur e => by cases e)).trans hg.symm)
theorem LyrAt.box {w : World} {by_ B n : Nat} {sc sp : Int} {o : Option (List PM)} (h : LyrAt w by_ B sc sp o n) : ∃ v e, Str w by_ 84 [v, .int .i64 sc, .int .i64 sp, .int .i64 e] := by
  obtain ⟨v, xs, e, h1, _⟩ := h
  exact ⟨v, e, h1⟩
theorem LyrAt.row {w w' : World} {by_ B n Bv : Nat} {sc sp : Int} {o : Option (List PM)} {v : Value} {xs : List Int} (h : LyrAt w by_ B sc sp o n) (hr : OwnInts Bv w v xs) (hy : Lay by_ w w') : OwnInts Bv w' v xs := by
  obtain ⟨u, e, h1⟩ := h.box
  exact row_lyr hr h1 hy
theorem anySlot_take {c : List Int} {k : Nat} (h : k < c.length) : anySlot (c.take (k + 1)) = (anySlot (c.take k) || !decide (c[k] < 16)) := by
  rw [List.take_succ_eq_append_getElem h]; unfold anySlot; rw [List.any_append]; simp
def RoundRes (by_ B : Nat) (sc sp : Int) (o : Option (List PM)) (n : Nat) (w : World) (e : Ending) (w' : World) : Prop := e = .returned (.tuple #[]) ∧ LyrAt w' by_ B sc sp o n ∧ Lay by_ w w' ∧ Below (min B by_) w w'
set_option maxRecDepth 100000 in
set_option maxHeartbeats 4000000 in
theorem round_any (w : World) (by_ B Bc : Nat) (sc sp : Int) (xs : List PM) (n : Nat) (cv : Value) (f : Int → Int) (x : Int) (N : Nat) (h : LyrAt w by_ B sc sp (some xs) n) (hBw : B ≤ w.heap.size) (hn : n ≤ 700000) (hc : OwnInts Bc w cv (orb f x N)) (hC : Closed f x N) (hN : N ≤ 400) (hp : ∀ j, Bd6 (it f x j)) (hsc : sc < 16) (hsp : sp < 16383) :
    Calls Try.prog 53 #[.pointer (some ⟨by_, 0, none⟩), cv] w (RoundRes by_ B sc sp (appO (some xs) (turnN sc sp f x N)) (n + 4 + 4 * N) w) := by
  have HL0 := Lib.hid h
  have HC0 := Lib.hid hc
  have HCL := Lib.hid hC
  have HP := Lib.hid hp
  have hN1 := hC.1
  have hol : (orb f x N).length = N := orb_len f x N
  obtain ⟨v, ys, e, hx, ho, hlen, hoe⟩ := h
  obtain ⟨hys, rfl⟩ : some xs = some ys ∧ e = 0 := by
    rcases hoe with h | h
    · exact h
    · exact absurd h.1 (by simp)
  obtain rfl : xs = ys := by injection hys
  have k0 : w.cell? ⟨by_, 0, none⟩ = some v := hx.cell 0
  have k1 : w.cell? ⟨by_, 1, none⟩ = some (.int .i64 sc) := hx.cell 1
  have k2 : w.cell? ⟨by_, 2, none⟩ = some (.int .i64 sp) := hx.cell 2
  have k3 : w.cell? ⟨by_, 3, none⟩ = some (.int .i64 0) := hx.cell 3
  have HX0 := Lib.hid hx
  have HO0 := Lib.hid ho
  clear hoe hys
  have hcb := hc
  obtain ⟨cA, cc, rfl⟩ := own_form hcb
  obtain ⟨cg, rfl⟩ := OwnInts.block hc (by omega)
  rw [hol]
  clear hc hC hp hx ho hcb
  go_enter Try.func53, Try.ntmps53
  go_wp2_with fail
  go_loopw [4, 5] (fun r i wr => ∃ k : Nat, k ≤ N ∧ r = .bool (!anySlot ((orb f x N).take k)) ∧ i = .int .i64 k ∧ wr = w) (fun _ i _ => N - (Go.RowKit.intOf i).toNat)
  case atStart => exact ⟨0, Nat.zero_le _, rfl, rfl, rfl⟩
  case round =>
    obtain ⟨k, hk, rfl, rfl, hw⟩ := hrel
    obtain rfl : w = wr := hw.symm
    by_cases hlt : k < N
    · have hko : k < (orb f x N).length := by omega
      have hcell := (OwnInts.cell HC0.out hko).1
      have HT := Lib.hid (anySlot_take hko)
      have hk1 : k + 1 ≤ N := hlt
      clear k0 k1 k2 k3
      generalize (orb f x N)[k] = y at *
      generalize anySlot ((orb f x N).take k) = u at *
      cases u
      · by_cases hy : y < 16
        · have HR := Lib.hid (HT.out.trans (show _ = false by simp [hy]))
          go_wp2_with fail
          exact ⟨⟨k + 1, hk1, by rw [HR.out]; rfl, by go_num, trivial⟩, by simp [Go.RowKit.intOf] <;> omega⟩
        · have HR := Lib.hid (HT.out.trans (show _ = true by simp [hy]))
          go_wp2_with fail
          exact ⟨⟨k + 1, hk1, by rw [HR.out]; rfl, by go_num, trivial⟩, by simp [Go.RowKit.intOf] <;> omega⟩
      · have HR := Lib.hid (HT.out.trans (show _ = true by rfl))
        go_wp2_with fail
        exact ⟨⟨k + 1, hk1, by rw [HR.out]; rfl, by go_num, trivial⟩, by simp [Go.RowKit.intOf] <;> omega⟩
    · obtain rfl : N = k := by omega
      rw [List.take_of_length_le (by omega)]
      cases hu : anySlot (orb f x N) with
      | true =>
        by_cases hp0 : sp < 0
        · have HE := Lib.hid (show appO (some xs) (turnN sc sp f x N) = none by unfold turnN; rw [if_pos hu, if_pos hp0, appO_none_r])
          have kf := HX0.out.frozen 3
          have HR := Lib.hid (show LyrAt (w.setCell ⟨by_, 3, none⟩ (.int .i64 43)) by_ B sc sp none (n + 4 + 4 * N) from ⟨v, xs, 43, HX0.out.set 3 _, own_same_kv HO0.out (fun g hg => Below.heap_setCell _ _ _ _ (fun e => (by have e : g = by_ := e; subst e; exact HX0.out.not_row (by decide) HO0.out hg.symm))), by omega, Or.inr ⟨rfl, rfl⟩⟩)
          have hlt2 := HX0.out.lt
          clear hu
          go_wp2_with fail
          refine ⟨rfl, .tuple #[], by simp only [results]; go_simp, ?_⟩
          rw [HE.out]
          exact ⟨rfl, HR.out, Lay.of_box 3 _, (Below.refl _ _).setCell (p := ⟨by_, 3, none⟩) (show min B by_ ≤ by_ by omega) _⟩
        · obtain ⟨q, hq⟩ : ∃ q : Int, 16 + sp = q := ⟨_, rfl⟩
          have HE := Lib.hid (show turnN sc sp f x N = passN sc sp x q (circ f x N) by unfold turnN; rw [if_pos hu, if_neg hp0, hq])
          clear hu
          have hc0 := (OwnInts.cell HC0.out (show 0 < (orb f x N).length by omega)).1
          rw [orb_at] at hc0
          have hc0 : w.cell? ⟨cg, 0, none⟩ = some (.int .i64 x) := hc0
          go_wp2_with fail
          try rw [hq]
          refine (bringL_any w by_ B sc sp (some xs) n q x HL0.out hBw (by omega) ⟨by omega, by omega⟩ (HP.out 0) hsc hsp).mono ?_
          rintro e w1 ⟨rfl, hl1, hy1, hb1⟩
          have HL1 := Lib.hid hl1
          have HY1 := Lib.hid hy1
          have HB1 := Lib.hid hb1
          clear hl1 hy1 hb1 hc0 k0 k1 k2 k3
          obtain ⟨o1, ho1⟩ : ∃ o1, appO (some xs) (bringN sc sp q x) = o1 := ⟨_, rfl⟩
          rw [ho1] at HL1
          have HFIN := Lib.hid (show ∀ o, seqO (passG sc sp x q) (circ f x N) = o → appO o1 o = appO (some xs) (turnN sc sp f x N) from fun o e => by rw [← e, HE.out, ← ho1, appO_assoc]; rfl)
          clear ho1
          go_wp2_with fail
          go_loopw [8] (fun i wr => ∃ k : Nat, k + 1 ≤ N ∧ i = .int .i64 k ∧ LyrAt wr by_ B sc sp (appO o1 (seqO (passG sc sp x q) (circ f x k))) (n + 4 + 4 * k) ∧ Lay by_ w wr ∧ Below (min B by_) w wr) (fun i _ => N - (Go.RowKit.intOf i).toNat)
          case atStart => exact ⟨0, hN1, rfl, by show LyrAt w1 by_ B sc sp (appO o1 (some [])) _; rw [show appO o1 (some []) = o1 by cases o1 <;> simp [appO]]; exact HL1.out, HY1.out, HB1.out⟩
          case round =>
            obtain ⟨k, hk, rfl, hl, hy, hb⟩ := hrel
            obtain ⟨wo, rfl⟩ : ∃ wo : World, wo = wr := ⟨_, rfl⟩
            have HL := Lib.hid hl
            have HY := Lib.hid hy
            have HB := Lib.hid hb
            have HCW := Lib.hid (HL0.out.row HC0.out hy)
            have hzw := hy.size
            have HSN := Lib.hid (show seqO (passG sc sp x q) (circ f x (k + 1)) = appO (seqO (passG sc sp x q) (circ f x k)) (bringN sc sp (it f x k) (if it f x (k + 1) = x then q else it f x (k + 1))) by rw [circ_succ, seqO_snoc]; rfl)
            clear hl hy hb
            by_cases hlt : k + 1 < N
            · have d0 := (OwnInts.cell HCW.out (show k < (orb f x N).length by omega)).1
              have d1 := (OwnInts.cell HCW.out (show k + 1 < (orb f x N).length by omega)).1
              rw [orb_at] at d0 d1
              have HNE := Lib.hid (HCL.out.2.2 (k + 1) (by omega) hlt)
              have HPk := Lib.hid (HP.out k)
              have HPk1 := Lib.hid (HP.out (k + 1))
              have HSR := Lib.hid (HSN.out.trans (show _ = appO (seqO (passG sc sp x q) (circ f x k)) (bringN sc sp (it f x k) (it f x (k + 1))) by rw [if_neg HNE.out]))
              clear HNE HSN
              have HWR := Lib.hid (show IntKind.i64.wrap ((k : Int) + 1) = (k : Int) + 1 from IntWalk.i64_in _ (by omega))
              generalize it f x k = y at *
              generalize it f x (k + 1) = z at *
              go_wp2_with fail
              refine region_heldT_wp (fun w' => w'.cell? ⟨cg, k, none⟩ = some (.int .i64 y) ∧ w'.cell? ⟨cg, k + 1, none⟩ = some (.int .i64 z)) [0, 1, 2, 3, 4, 5, 6, 7, 8, 9] [0, 1, 2, 3, 4, 5, 6, 7, 8, 9, 10] 10 (by kernel_rfl) (by kernel_rfl) (by kernel_rfl) (by kernel_rfl) rfl (by intro c a d v w h; cases d <;> exact h) ⟨d0, d1⟩ ?_
              refine walkH_still _ ?p0 rfl rfl rfl ?py0 ?_
              case py0 => intro w hS; go_simp; first | done | with_reducible rfl
              simp only [Act.put]
              refine walkH_still _ ?p1 rfl rfl rfl ?py1 ?_
              case py1 => intro w hS; go_simp; first | done | with_reducible rfl
              simp only [Act.put]
              refine walkH_still _ ?p2 rfl rfl rfl ?py2 ?_
              case py2 => intro w hS; go_simp; first | done | with_reducible rfl
              simp only [Act.put]
              refine walkH_still _ (.pointer (some ⟨cg, k, none⟩)) rfl rfl rfl ?py3 ?_
              case py3 => intro w hS; go_simp; first | done | (rw [if_pos (by omega)]; first | done | rfl) | (intro h; omega)
              simp only [Act.put]
              refine walkH_still _ ?p4 rfl rfl rfl ?py4 ?_
              case py4 => intro w hS; go_simp; first | done | with_reducible rfl
              simp only [Act.put]
              refine walkH_still _ ?p5 rfl rfl rfl ?py5 ?_
              case py5 => intro w hS; go_simp; first | done | with_reducible rfl
              simp only [Act.put]
              refine walkH_still _ ?p6 rfl rfl rfl ?py6 ?_
              case py6 => intro w hS; go_simp; first | done | with_reducible rfl
              simp only [Act.put]
              refine walkH_still _ (.int .i64 ((k : Int) + 1)) rfl rfl rfl ?py7 ?_
              case py7 => intro w hS; go_simp; first | done | rw [HWR.out]
              simp only [Act.put]
              refine walkH_still _ (.pointer (some ⟨cg, k + 1, none⟩)) rfl rfl rfl ?py8 ?_
              case py8 => intro w hS; go_simp; first | done | (rw [if_pos (by omega)]; first | done | rfl) | (intro h; omega)
              simp only [Act.put]
              refine walkH_still _ ?p9 rfl rfl rfl ?py9 ?_
              case py9 => intro w hS; go_simp; first | done | with_reducible rfl
              simp only [Act.put]
              try simp only [List.setIfInBounds_toArray, List.set_cons_zero, List.set_cons_succ]
              refine walkHd _ rfl rfl ?_
              go_wp2_with fail
              refine (bringL_any wo.drew by_ B sc sp _ (n + 4 + 4 * k) y z HL.out (by show B ≤ wo.heap.size; omega) (by omega) HPk.out HPk1.out hsc hsp).mono ?_
              rintro e w3 ⟨rfl, hl3, hy3, hb3⟩
              have HR3 := Lib.hid hl3
              have HY3 := Lib.hid ((HY.out.trans (Lay.refl _ _).drew).trans hy3)
              have HB3 := Lib.hid ((HB.out.trans (Below.refl _ wo).drew).trans hb3)
              rw [appO_assoc, ← HSR.out] at HR3
              clear hl3 hy3 hb3 d0 d1
              go_wp2_with fail
              refine behindH (Or.inr rfl) (walkH_nil ?_)
              go_wp2
              exact ⟨⟨k + 1, hlt, by go_num, HR3.out.more (by omega), HY3.out, HB3.out⟩, by simp [Go.RowKit.intOf]; omega⟩
            · obtain rfl : N = k + 1 := by omega
              have d0 := (OwnInts.cell HCW.out (show k < (orb f x (k + 1)).length by omega)).1
              rw [orb_at] at d0
              have HPk := Lib.hid (HP.out k)
              have HSR := Lib.hid (HSN.out.trans (show _ = appO (seqO (passG sc sp x q) (circ f x k)) (bringN sc sp (it f x k) q) by rw [if_pos HCL.out.2.1]))
              clear HSN
              go_wp2_with fail
              refine (bringL_any wo by_ B sc sp _ (n + 4 + 4 * k) (it f x k) q HL.out (by omega) (by omega) HPk.out ⟨by omega, by omega⟩ hsc hsp).mono ?_
              rintro e w3 ⟨rfl, hl3, hy3, hb3⟩
              rw [appO_assoc, ← HSR.out, HFIN.out _ rfl] at hl3
              have HR3 := Lib.hid (hl3.more (show _ ≤ n + 4 + 4 * (k + 1) by omega))
              have HY3 := Lib.hid (HY.out.trans hy3)
              have HB3 := Lib.hid (HB.out.trans hb3)
              clear hl3 hy3 hb3 d0
              go_wp2
              refine ⟨rfl, .tuple #[], by simp only [results]; go_simp, ?_⟩
              exact ⟨rfl, HR3.out, HY3.out, HB3.out⟩
      | false =>
        by_cases hs0 : 0 ≤ sc
        · have HE := Lib.hid (show turnN sc sp f x N = passN sc sp x sc (circ f x N) by unfold turnN; rw [if_neg (by rw [hu]; simp), if_pos hs0])
          clear hu
          have hc0 := (OwnInts.cell HC0.out (show 0 < (orb f x N).length by omega)).1
          rw [orb_at] at hc0
          have hc0 : w.cell? ⟨cg, 0, none⟩ = some (.int .i64 x) := hc0
          go_wp2_with fail
          skip
          refine (bringL_any w by_ B sc sp (some xs) n sc x HL0.out hBw (by omega) ⟨by omega, by omega⟩ (HP.out 0) hsc hsp).mono ?_
          rintro e w1 ⟨rfl, hl1, hy1, hb1⟩
          have HL1 := Lib.hid hl1
          have HY1 := Lib.hid hy1
          have HB1 := Lib.hid hb1
          clear hl1 hy1 hb1 hc0 k0 k1 k2 k3
          obtain ⟨o1, ho1⟩ : ∃ o1, appO (some xs) (bringN sc sp sc x) = o1 := ⟨_, rfl⟩
          rw [ho1] at HL1
          have HFIN := Lib.hid (show ∀ o, seqO (passG sc sp x sc) (circ f x N) = o → appO o1 o = appO (some xs) (turnN sc sp f x N) from fun o e => by rw [← e, HE.out, ← ho1, appO_assoc]; rfl)
          clear ho1
          go_wp2_with fail
          go_loopw [8] (fun i wr => ∃ k : Nat, k + 1 ≤ N ∧ i = .int .i64 k ∧ LyrAt wr by_ B sc sp (appO o1 (seqO (passG sc sp x sc) (circ f x k))) (n + 4 + 4 * k) ∧ Lay by_ w wr ∧ Below (min B by_) w wr) (fun i _ => N - (Go.RowKit.intOf i).toNat)
          case atStart => exact ⟨0, hN1, rfl, by show LyrAt w1 by_ B sc sp (appO o1 (some [])) _; rw [show appO o1 (some []) = o1 by cases o1 <;> simp [appO]]; exact HL1.out, HY1.out, HB1.out⟩
          case round =>
            obtain ⟨k, hk, rfl, hl, hy, hb⟩ := hrel
            obtain ⟨wo, rfl⟩ : ∃ wo : World, wo = wr := ⟨_, rfl⟩
            have HL := Lib.hid hl
            have HY := Lib.hid hy
            have HB := Lib.hid hb
            have HCW := Lib.hid (HL0.out.row HC0.out hy)
            have hzw := hy.size
            have HSN := Lib.hid (show seqO (passG sc sp x sc) (circ f x (k + 1)) = appO (seqO (passG sc sp x sc) (circ f x k)) (bringN sc sp (it f x k) (if it f x (k + 1) = x then sc else it f x (k + 1))) by rw [circ_succ, seqO_snoc]; rfl)
            clear hl hy hb
            by_cases hlt : k + 1 < N
            · have d0 := (OwnInts.cell HCW.out (show k < (orb f x N).length by omega)).1
              have d1 := (OwnInts.cell HCW.out (show k + 1 < (orb f x N).length by omega)).1
              rw [orb_at] at d0 d1
              have HNE := Lib.hid (HCL.out.2.2 (k + 1) (by omega) hlt)
              have HPk := Lib.hid (HP.out k)
              have HPk1 := Lib.hid (HP.out (k + 1))
              have HSR := Lib.hid (HSN.out.trans (show _ = appO (seqO (passG sc sp x sc) (circ f x k)) (bringN sc sp (it f x k) (it f x (k + 1))) by rw [if_neg HNE.out]))
              clear HNE HSN
              have HWR := Lib.hid (show IntKind.i64.wrap ((k : Int) + 1) = (k : Int) + 1 from IntWalk.i64_in _ (by omega))
              generalize it f x k = y at *
              generalize it f x (k + 1) = z at *
              go_wp2_with fail
              refine region_heldT_wp (fun w' => w'.cell? ⟨cg, k, none⟩ = some (.int .i64 y) ∧ w'.cell? ⟨cg, k + 1, none⟩ = some (.int .i64 z)) [0, 1, 2, 3, 4, 5, 6, 7, 8, 9] [0, 1, 2, 3, 4, 5, 6, 7, 8, 9, 10] 10 (by kernel_rfl) (by kernel_rfl) (by kernel_rfl) (by kernel_rfl) rfl (by intro c a d v w h; cases d <;> exact h) ⟨d0, d1⟩ ?_
              refine walkH_still _ ?r0 rfl rfl rfl ?ry0 ?_
              case ry0 => intro w hS; go_simp; first | done | with_reducible rfl
              simp only [Act.put]
              refine walkH_still _ ?r1 rfl rfl rfl ?ry1 ?_
              case ry1 => intro w hS; go_simp; first | done | with_reducible rfl
              simp only [Act.put]
              refine walkH_still _ ?r2 rfl rfl rfl ?ry2 ?_
              case ry2 => intro w hS; go_simp; first | done | with_reducible rfl
              simp only [Act.put]
              refine walkH_still _ (.pointer (some ⟨cg, k, none⟩)) rfl rfl rfl ?ry3 ?_
              case ry3 => intro w hS; go_simp; first | done | (rw [if_pos (by omega)]; first | done | rfl) | (intro h; omega)
              simp only [Act.put]
              refine walkH_still _ ?r4 rfl rfl rfl ?ry4 ?_
              case ry4 => intro w hS; go_simp; first | done | with_reducible rfl
              simp only [Act.put]
              refine walkH_still _ ?r5 rfl rfl rfl ?ry5 ?_
              case ry5 => intro w hS; go_simp; first | done | with_reducible rfl
              simp only [Act.put]
              refine walkH_still _ ?r6 rfl rfl rfl ?ry6 ?_
              case ry6 => intro w hS; go_simp; first | done | with_reducible rfl
              simp only [Act.put]
              refine walkH_still _ (.int .i64 ((k : Int) + 1)) rfl rfl rfl ?ry7 ?_
              case ry7 => intro w hS; go_simp; first | done | rw [HWR.out]
              simp only [Act.put]
              refine walkH_still _ (.pointer (some ⟨cg, k + 1, none⟩)) rfl rfl rfl ?ry8 ?_
              case ry8 => intro w hS; go_simp; first | done | (rw [if_pos (by omega)]; first | done | rfl) | (intro h; omega)
              simp only [Act.put]
              refine walkH_still _ ?r9 rfl rfl rfl ?ry9 ?_
              case ry9 => intro w hS; go_simp; first | done | with_reducible rfl
              simp only [Act.put]
              try simp only [List.setIfInBounds_toArray, List.set_cons_zero, List.set_cons_succ]
              refine walkHd _ rfl rfl ?_
              go_wp2_with fail
              refine (bringL_any wo.drew by_ B sc sp _ (n + 4 + 4 * k) y z HL.out (by show B ≤ wo.heap.size; omega) (by omega) HPk.out HPk1.out hsc hsp).mono ?_
              rintro e w3 ⟨rfl, hl3, hy3, hb3⟩
              have HR3 := Lib.hid hl3
              have HY3 := Lib.hid ((HY.out.trans (Lay.refl _ _).drew).trans hy3)
              have HB3 := Lib.hid ((HB.out.trans (Below.refl _ wo).drew).trans hb3)
              rw [appO_assoc, ← HSR.out] at HR3
              clear hl3 hy3 hb3 d0 d1
              go_wp2_with fail
              refine behindH (Or.inr rfl) (walkH_nil ?_)
              go_wp2
              exact ⟨⟨k + 1, hlt, by go_num, HR3.out.more (by omega), HY3.out, HB3.out⟩, by simp [Go.RowKit.intOf]; omega⟩
            · obtain rfl : N = k + 1 := by omega
              have d0 := (OwnInts.cell HCW.out (show k < (orb f x (k + 1)).length by omega)).1
              rw [orb_at] at d0
              have HPk := Lib.hid (HP.out k)
              have HSR := Lib.hid (HSN.out.trans (show _ = appO (seqO (passG sc sp x sc) (circ f x k)) (bringN sc sp (it f x k) sc) by rw [if_pos HCL.out.2.1]))
              clear HSN
              go_wp2_with fail
              refine (bringL_any wo by_ B sc sp _ (n + 4 + 4 * k) (it f x k) sc HL.out (by omega) (by omega) HPk.out ⟨by omega, by omega⟩ hsc hsp).mono ?_
              rintro e w3 ⟨rfl, hl3, hy3, hb3⟩
              rw [appO_assoc, ← HSR.out, HFIN.out _ rfl] at hl3
              have HR3 := Lib.hid (hl3.more (show _ ≤ n + 4 + 4 * (k + 1) by omega))
              have HY3 := Lib.hid (HY.out.trans hy3)
              have HB3 := Lib.hid (HB.out.trans hb3)
              clear hl3 hy3 hb3 d0
              go_wp2
              refine ⟨rfl, .tuple #[], by simp only [results]; go_simp, ?_⟩
              exact ⟨rfl, HR3.out, HY3.out, HB3.out⟩
        · have HE := Lib.hid (show turnN sc sp f x N = some (swapsN x (circ f x N)) by unfold turnN; rw [if_neg (by rw [hu]; simp), if_neg hs0])
          clear hu
          go_wp2_with fail
          clear k0 k1 k2 k3
          go_loopw [6] (fun i wr => ∃ k : Nat, k + 1 ≤ N ∧ i = .int .i64 k ∧ LyrAt wr by_ B sc sp (some (xs ++ swapsN x (circ f x k))) (n + k) ∧ Lay by_ w wr ∧ Below (min B by_) w wr) (fun i _ => N - (Go.RowKit.intOf i).toNat)
          case atStart => exact ⟨0, hN1, rfl, by show LyrAt w by_ B sc sp (some (xs ++ [])) _; rw [List.append_nil]; exact HL0.out, Lay.refl _ _, Below.refl _ _⟩
          case round =>
            obtain ⟨k, hk, rfl, hl, hy, hb⟩ := hrel
            obtain ⟨wo, rfl⟩ : ∃ wo : World, wo = wr := ⟨_, rfl⟩
            have HY := Lib.hid hy
            have HB := Lib.hid hb
            have HCW := Lib.hid (HL0.out.row HC0.out hy)
            have hzw := hy.size
            have HSN := Lib.hid (show swapsN x (circ f x (k + 1)) = swapsN x (circ f x k) ++ (if (it f x (k + 1) == x) = true then [] else [mSwap (it f x k) (it f x (k + 1))]) by rw [circ_succ, swapsN_snoc])
            clear hy hb
            by_cases hlt : k + 1 < N
            · have d0 := (OwnInts.cell HCW.out (show k < (orb f x N).length by omega)).1
              have d1 := (OwnInts.cell HCW.out (show k + 1 < (orb f x N).length by omega)).1
              rw [orb_at] at d0 d1
              have HNE := Lib.hid (HCL.out.2.2 (k + 1) (by omega) hlt)
              have HSR := Lib.hid (HSN.out.trans (show _ = swapsN x (circ f x k) ++ [mSwap (it f x k) (it f x (k + 1))] by rw [if_neg (by simpa using HNE.out)]))
              have HWR := Lib.hid (show IntKind.i64.wrap ((k : Int) + 1) = (k : Int) + 1 from IntWalk.i64_in _ (by omega))
              have HCE := Lib.hid (And.intro (orb_at (f := f) (x := x) (N := N) (show k < (orb f x N).length by omega)) (orb_at (f := f) (x := x) (N := N) (show k + 1 < (orb f x N).length by omega)))
              clear HNE HSN
              obtain ⟨u, ys, e, hxu, hou, hlu, hoe⟩ := hl
              obtain ⟨hys, rfl⟩ : some (xs ++ swapsN x (circ f x k)) = some ys ∧ e = 0 := by
                rcases hoe with h | h
                · exact h
                · exact absurd h.1 (by simp)
              obtain rfl : ys = xs ++ swapsN x (circ f x k) := by injection hys with hys; exact hys.symm
              clear hoe hys
              generalize it f x k = y at *
              generalize it f x (k + 1) = z at *
              obtain ⟨zs, hzs⟩ : ∃ zs, xs ++ swapsN x (circ f x k) = zs := ⟨_, rfl⟩
              have HSZ := Lib.hid (show xs ++ swapsN x (circ f x (k + 1)) = zs ++ [mSwap y z] by rw [HSR.out, ← List.append_assoc, hzs])
              rw [hzs] at hou hlu
              clear hzs HSR
              have HXU := Lib.hid hxu
              have HOU := Lib.hid hou
              have e0 : wo.cell? ⟨by_, 0, none⟩ = some u := hxu.cell 0
              have e1 : wo.cell? ⟨by_, 1, none⟩ = some (.int .i64 sc) := hxu.cell 1
              have e2 : wo.cell? ⟨by_, 2, none⟩ = some (.int .i64 sp) := hxu.cell 2
              have e3 : wo.cell? ⟨by_, 3, none⟩ = some (.int .i64 0) := hxu.cell 3
              clear hxu hou
              go_wp2_with fail
              refine region_heldT_wp (fun w' => w'.cell? ⟨by_, 0, none⟩ = some u ∧ w'.cell? ⟨by_, 1, none⟩ = some (.int .i64 sc) ∧ w'.cell? ⟨by_, 2, none⟩ = some (.int .i64 sp) ∧ w'.cell? ⟨by_, 3, none⟩ = some (.int .i64 0) ∧ w'.cell? ⟨cg, k, none⟩ = some (.int .i64 y) ∧ w'.cell? ⟨cg, k + 1, none⟩ = some (.int .i64 z)) [0, 1, 2, 3, 4, 5, 6, 7, 8, 9, 10, 11, 12, 13, 14, 17, 18] [0, 1, 2, 3, 4, 5, 6, 7, 8, 9, 10, 11, 12, 13, 14, 15, 16, 17, 18, 19] 19 (by kernel_rfl) (by kernel_rfl) (by kernel_rfl) (by kernel_rfl) rfl (by intro c a d v w h; cases d <;> exact h) ⟨e0, e1, e2, e3, d0, d1⟩ ?_
              refine walkH_still _ ?s0 rfl rfl rfl ?sy0 ?_
              case sy0 => intro w hS; go_simp; first | done | with_reducible rfl
              simp only [Act.put]
              refine walkH_still _ ?s1 rfl rfl rfl ?sy1 ?_
              case sy1 => intro w hS; go_simp; first | done | with_reducible rfl
              simp only [Act.put]
              refine walkH_still _ ?s2 rfl rfl rfl ?sy2 ?_
              case sy2 => intro w hS; go_simp; first | done | with_reducible rfl
              simp only [Act.put]
              refine walkH_still _ ?s3 rfl rfl rfl ?sy3 ?_
              case sy3 => intro w hS; go_simp; first | done | with_reducible rfl
              simp only [Act.put]
              refine walkH_still _ ?s4 rfl rfl rfl ?sy4 ?_
              case sy4 => intro w hS; go_simp; first | done | with_reducible rfl
              simp only [Act.put]
              refine walkH_still _ ?s5 rfl rfl rfl ?sy5 ?_
              case sy5 => intro w hS; go_simp; first | done | with_reducible rfl
              simp only [Act.put]
              refine walkH_still _ ?s6 rfl rfl rfl ?sy6 ?_
              case sy6 => intro w hS; go_simp; first | done | with_reducible rfl
              simp only [Act.put]
              refine walkH_still _ (.pointer (some ⟨cg, k, none⟩)) rfl rfl rfl ?sy7 ?_
              case sy7 => intro w hS; go_simp; first | done | (rw [if_pos (by omega)]; first | done | rfl) | (intro h; omega)
              simp only [Act.put]
              refine walkH_still _ ?s8 rfl rfl rfl ?sy8 ?_
              case sy8 => intro w hS; go_simp; first | done | with_reducible rfl
              simp only [Act.put]
              refine walkH_still _ ?s9 rfl rfl rfl ?sy9 ?_
              case sy9 => intro w hS; go_simp; first | done | with_reducible rfl
              simp only [Act.put]
              refine walkH_still _ ?s10 rfl rfl rfl ?sy10 ?_
              case sy10 => intro w hS; go_simp; first | done | with_reducible rfl
              simp only [Act.put]
              refine walkH_still _ (.int .i64 ((k : Int) + 1)) rfl rfl rfl ?sy11 ?_
              case sy11 => intro w hS; go_simp; first | done | rw [HWR.out]
              simp only [Act.put]
              refine walkH_still _ (.pointer (some ⟨cg, k + 1, none⟩)) rfl rfl rfl ?sy12 ?_
              case sy12 => intro w hS; go_simp; first | done | (rw [if_pos (by omega)]; first | done | rfl) | (intro h; omega)
              simp only [Act.put]
              refine walkH_still _ ?s13 rfl rfl rfl ?sy13 ?_
              case sy13 => intro w hS; go_simp; first | done | with_reducible rfl
              simp only [Act.put]
              refine walkH_still _ ?s14 rfl rfl rfl ?sy14 ?_
              case sy14 => intro w hS; go_simp; first | done | with_reducible rfl
              simp only [Act.put]
              obtain ⟨W1, hW1⟩ : ∃ V, (wo.drew).alloc (.cells #[.int .i64 2, .int .i64 0, .int .i64 0, .int .i64 y, .int .i64 z, .int .i64 0, .int .i32 0, .slice none 0 0] 48) = V := ⟨_, rfl⟩
              have hb1 : Below wo.heap.size wo W1 := by rw [← hW1]; exact ((Below.refl _ wo).drew).alloc (Nat.le_refl _) _
              have HN1 := Lib.hid (show Str W1 wo.heap.size 48 ([mSwap y z].flatMap cellsM) by rw [← hW1]; exact World.alloc_heap_new wo.drew _)
              have HX1 := Lib.hid (HXU.out.below hb1)
              have HO1 := Lib.hid (show OwnMach B W1 u zs from own_same_row HOU.out (fun g cur hg => hb1.block g (Array.getElem?_eq_some_iff.1 hg).1))
              have HC1 := Lib.hid (show OwnInts Bc W1 _ (orb f x N) from own_same_row HCW.out (fun g cur hg => hb1.block g (Array.getElem?_eq_some_iff.1 hg).1))
              have HB1 := Lib.hid hb1
              have hz1 := hb1.size
              have f0 : W1.cell? ⟨by_, 0, none⟩ = some u := HX1.out.cell 0
              have f1 : W1.cell? ⟨by_, 1, none⟩ = some (.int .i64 sc) := HX1.out.cell 1
              have f2 : W1.cell? ⟨by_, 2, none⟩ = some (.int .i64 sp) := HX1.out.cell 2
              have f3 : W1.cell? ⟨by_, 3, none⟩ = some (.int .i64 0) := HX1.out.cell 3
              have f4 := (OwnInts.cell HC1.out (show k < (orb f x N).length by omega)).1
              have f5 := (OwnInts.cell HC1.out (show k + 1 < (orb f x N).length by omega)).1
              rw [HCE.out.1] at f4
              rw [HCE.out.2] at f5
              clear hb1
              try simp only [List.setIfInBounds_toArray, List.set_cons_zero, List.set_cons_succ]
              refine walkHd _ rfl rfl ?_
              go_wp2_with fail
              clear hW1
              refine behindH (Or.inl ⟨f0, f1, f2, f3, f4, f5⟩) ?_
              try simp only [List.setIfInBounds_toArray, List.set_cons_zero, List.set_cons_succ]
              refine walkHd _ rfl rfl ?_
              refine wpList_mchs rfl _ _ rfl rfl B u zs [mSwap y z] rfl HO1.out ⟨wo.heap.size, 0, none⟩ 1 rfl (fun j u hj => by
                first
                | (rw [at_add0, HN1.out.cell j]; exact hj)
                | (rw [HN1.out.cell j]; exact hj)) (by simp only [List.length_cons, List.length_nil]; omega) (by omega) ?_
              intro v5 w5 ho5 hg5
              obtain ⟨A5, c5, rfl⟩ := own_form ho5
              have hx5 := HX1.out.kept hg5 (HX1.out.not_row (by decide) HO1.out)
              have hr := layer_next HXU.out HOU.out hlu HB1.out HX1.out HO1.out hg5 ho5 (by omega)
              rw [show (zs ++ [mSwap y z]).length = zs.length + 1 by rw [List.length_append]; rfl] at hr
              rw [← HSZ.out] at hr
              have HR := Lib.hid hr.1
              have HY5 := Lib.hid (HY.out.trans hr.2.1)
              have HB5 := Lib.hid (HB.out.trans hr.2.2)
              have hc5 : OwnInts Bc w5 _ (orb f x N) := World.ownsRow.kept HC1.out hg5 (own_apart HC1.out HO1.out (by decide))
              have z0 : w5.cell? ⟨by_, 0, none⟩ = some u := hx5.cell 0
              have z1 : w5.cell? ⟨by_, 1, none⟩ = some (.int .i64 sc) := hx5.cell 1
              have z2 : w5.cell? ⟨by_, 2, none⟩ = some (.int .i64 sp) := hx5.cell 2
              have z3 : w5.cell? ⟨by_, 3, none⟩ = some (.int .i64 0) := hx5.cell 3
              have z4 := (OwnInts.cell hc5 (show k < (orb f x N).length by omega)).1
              have z5 := (OwnInts.cell hc5 (show k + 1 < (orb f x N).length by omega)).1
              rw [HCE.out.1] at z4
              rw [HCE.out.2] at z5
              have zf := hx5.frozen 0
              clear hr ho5 hg5 hx5 hc5
              go_wp2_with fail
              refine behindH (Or.inl ⟨z0, z1, z2, z3, z4, z5⟩) ?_
              refine walkH_still _ ?s17 rfl rfl rfl ?sy17 ?_
              case sy17 => intro w hS; go_simp; first | done | with_reducible rfl
              simp only [Act.put]
              refine walkH_still _ ?s18 rfl rfl rfl ?sy18 ?_
              case sy18 => intro w hS; go_simp; first | done | with_reducible rfl
              simp only [Act.put]
              try simp only [List.setIfInBounds_toArray, List.set_cons_zero, List.set_cons_succ]
              refine walkHd _ rfl rfl ?_
              go_wp2_with fail
              refine behindH (Or.inr rfl) (walkH_nil ?_)
              go_wp2
              exact ⟨⟨k + 1, hlt, by go_num, HR.out.more (by simp only [List.length_cons, List.length_nil]; omega), HY5.out, HB5.out⟩, by simp [Go.RowKit.intOf]; omega⟩
            · obtain rfl : N = k + 1 := by omega
              have HSE := Lib.hid (show appO (some xs) (turnN sc sp f x (k + 1)) = some (xs ++ swapsN x (circ f x k)) by
                rw [HE.out, HSN.out, if_pos (by simpa using HCL.out.2.1), List.append_nil]; rfl)
              have HL := Lib.hid (hl.more (show _ ≤ n + 4 + 4 * (k + 1) by omega))
              clear hl
              go_wp2
              refine ⟨rfl, .tuple #[], by simp only [results]; go_simp, ?_⟩
              rw [HSE.out]
              exact ⟨rfl, HL.out, HY.out, HB.out⟩
end Go.Proofs.Ytdohaoomckhbgaa.Vm
