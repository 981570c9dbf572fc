/- Stage 7's reference: registers, memory; the law's row. -/
import Derived.Test.YtonheiaohgbbcaaGreatNC
namespace Go.Proofs.YtonheiaohgbbcaaGreat.Mc
open Go.ChangeShapes Go.WideShapes Go.ChangeAt Go.RowKit Go.Maps Go.Proofs.YtonheiaohgbbcaaGreat.Mem Go.Proofs.YtonheiaohgbbcaaGreat.Kc Go.Proofs.YtonheiaohgbbcaaGreat.Br Go.Proofs.YtonheiaohgbbcaaGreat.Pl Go.Proofs.YtonheiaohgbbcaaGreat.Mw Go.Proofs.YtonheiaohgbbcaaGreat.Gr
set_option linter.unusedVariables false
set_option linter.unusedSimpArgs false
set_option maxRecDepth 100000 in
set_option maxHeartbeats 4000000 in
theorem rget_any (w : World) (v : Value) (l : List Int) (r : Int) (hv : WordsAt w v l) :
    Calls Tryz.prog 46 #[v, .int .i64 r] w fun e w' => e = .returned (.int .i32 (getP l r)) ∧ w' = w := by
  obtain ⟨A, c, rfl, h1, h2, h3⟩ := hv
  unfold maxLen at h2
  by_cases hr0 : r < 0
  · have HW := Lib.hid (show getP l r = 0 by unfold getP; rw [if_neg (by omega)])
    clear h3
    go_enter Tryz.func46, Tryz.ntmps46
    go_wp2
    go_ret
    rw [HW.out]
    exact ⟨rfl, rfl⟩
  by_cases hr1 : (l.length : Int) ≤ r
  · have HW := Lib.hid (show getP l r = 0 by unfold getP; rw [if_neg (by omega)])
    clear h3
    go_enter Tryz.func46, Tryz.ntmps46
    go_wp2
    go_ret
    rw [HW.out]
    exact ⟨rfl, rfl⟩
  obtain ⟨k, rfl⟩ : ∃ k : Nat, r = (k : Int) := ⟨r.toNat, by omega⟩
  have hk : k < l.length := by omega
  obtain ⟨ad, rfl, hc⟩ := h3 k hk
  have HW := Lib.hid (show getP l k = l[k] by unfold getP; rw [if_pos ⟨by omega, by omega⟩, Int.toNat_natCast, List.getD_eq_getElem?_getD, List.getElem?_eq_getElem hk]; rfl)
  clear h3
  go_enter Tryz.func46, Tryz.ntmps46
  go_wp2
  go_ret
  rw [HW.out]
  exact ⟨rfl, rfl⟩
set_option maxRecDepth 100000 in
set_option maxHeartbeats 4000000 in
theorem rset_any (w : World) (B : Nat) (v : Value) (l : List Int) (r x : Int) (hv : OwnWords B w v l) :
    Calls Tryz.prog 48 #[v, .int .i64 r, .int .i32 x] w (SetPost B v l r x w) := by
  by_cases hB : 0 ≤ r ∧ r < l.length
  · obtain ⟨k, rfl⟩ : ∃ k : Nat, r = (k : Int) := ⟨r.toNat, by omega⟩
    have hk : k < l.length := by omega
    have HW := Lib.hid (show setP l k x = l.set k x by unfold setP; rw [if_pos ⟨by omega, by omega⟩, Int.toNat_natCast])
    rcases hv.2 with ⟨rfl, h0⟩ | ⟨g, c, cur, rfl, h1, h2, h3, h4, h5⟩
    · omega
    unfold maxLen at h4
    have hc : w.cell? ⟨g, k, none⟩ = some (.int .i32 l[k]) := by rw [World.ownsRow.cellAt hv k (by omega), List.getElem?_map, List.getElem?_eq_getElem hk]; rfl
    have hf : w.frozen? ⟨g, k, none⟩ = false := World.ownsRow.frozenAt hv k
    have HS := Lib.hid (show But g w (w.setCell ⟨g, k, none⟩ (.int .i32 x)) ∧ OwnWords B (w.setCell ⟨g, k, none⟩ (.int .i32 x)) (.slice (some ⟨g, 0, none⟩) l.length c) (l.set k x) by
      obtain ⟨s1, s2⟩ := World.ownsRow.stored hv k (.int .i32 x)
      refine ⟨But.of_grown s2, ?_⟩
      unfold OwnWords
      rw [List.length_set, List.map_set]
      exact s1)
    generalize l[k] = z at *
    clear hB hv h2 h5
    go_enter Tryz.func48, Tryz.ntmps48
    go_wp2
    refine ⟨rfl, .tuple #[], ?_, rfl, by rw [HW.out]; exact HS.out.2, Or.inr ⟨g, rfl, HS.out.1⟩⟩
    simp only [results]
    go_simp
  · have HW := Lib.hid (show setP l r x = l by unfold setP; rw [if_neg hB])
    have HV := Lib.hid hv
    obtain ⟨A, c, rfl⟩ := own_form hv
    clear hv
    by_cases hr0 : r < 0
    · clear hB
      go_enter Tryz.func48, Tryz.ntmps48
      go_wp2
      refine ⟨rfl, .tuple #[], ?_, rfl, by rw [HW.out]; exact HV.out, Or.inl rfl⟩
      simp only [results]
      go_simp
    · have hr1 : (l.length : Int) ≤ r := by omega
      clear hB
      go_enter Tryz.func48, Tryz.ntmps48
      go_wp2
      refine ⟨rfl, .tuple #[], ?_, rfl, by rw [HW.out]; exact HV.out, Or.inl rfl⟩
      simp only [results]
      go_simp
set_option maxRecDepth 100000 in
set_option maxHeartbeats 4000000 in
theorem rload_any (w : World) (v : Value) (l : List Int) (at_ : Int) (hv : WordsAt w v l) (hl : l.length ≤ 1000000) (ha : InW at_) :
    Calls Tryz.prog 50 #[v, .int .i32 at_] w fun e w' => e = .returned (.tuple #[.int .i32 (loadV l at_), .bool (hasB l.length at_)]) ∧ w' = w := by
  obtain ⟨A, c, rfl, h1, h2, h3⟩ := hv
  have ha1 : -2147483648 ≤ at_ := ha.1
  have ha2 : at_ ≤ 2147483647 := ha.2
  unfold maxLen at h2
  by_cases hB : 0 ≤ at_ ∧ at_ < l.length
  · have hT := has_iff.2 hB
    obtain ⟨k, rfl⟩ : ∃ k : Nat, at_ = k := ⟨at_.toNat, by omega⟩
    have hk : k < l.length := by omega
    obtain ⟨ad, rfl, hc⟩ := h3 k hk
    have HW := Lib.hid (show loadV l k = l[k] by unfold loadV; rw [if_pos hT, Int.toNat_natCast, List.getD_eq_getElem?_getD, List.getElem?_eq_getElem hk]; rfl)
    have HT := Lib.hid hT
    clear h3 hT hB ha
    go_enter Tryz.func50, Tryz.ntmps50
    go_wp2
    go_ret2
    rw [HW.out, HT.out]
    exact ⟨rfl, rfl⟩
  · have hT : hasB l.length at_ = false := by
      cases h : hasB l.length at_ with
      | false => rfl
      | true => exact absurd (has_iff.1 h) hB
    have HT := Lib.hid hT
    have HW := Lib.hid (show loadV l at_ = 0 by unfold loadV; rw [hT]; rfl)
    clear h3 hT ha
    by_cases h0 : at_ < 0
    · clear hB
      go_enter Tryz.func50, Tryz.ntmps50
      go_wp2
      go_ret2
      rw [HW.out, HT.out]
      exact ⟨rfl, rfl⟩
    · have h01 : (l.length : Int) ≤ at_ := by omega
      clear hB
      go_enter Tryz.func50, Tryz.ntmps50
      go_wp2
      go_ret2
      rw [HW.out, HT.out]
      exact ⟨rfl, rfl⟩
set_option maxRecDepth 100000 in
set_option maxHeartbeats 4000000 in
theorem rstore_any (w : World) (B : Nat) (mm : Value) (mem : List Int) (at_ v : Int) (hm : OwnWords B w mm mem) (hl : mem.length ≤ 1000000) (ha : InW at_) :
    Calls Tryz.prog 51 #[mm, .int .i32 at_, .int .i32 v] w (StoreRes B mm mem at_ v w) := by
  have ha1 : -2147483648 ≤ at_ := ha.1
  have ha2 : at_ ≤ 2147483647 := ha.2
  by_cases hB : 0 ≤ at_ ∧ at_ < mem.length
  · have hT := has_iff.2 hB
    have HP := Lib.hid (show ∀ e w', (e = .returned (.bool true) ∧ ∃ g, mm.ownBlock = some g ∧ But g w w' ∧ OwnWords B w' mm (mem.set at_.toNat v)) → StoreRes B mm mem at_ v w e w' from fun e w' h => by unfold StoreRes; rw [if_pos hT]; exact h)
    obtain ⟨k, rfl⟩ : ∃ k : Nat, at_ = k := ⟨at_.toNat, by omega⟩
    have hk : k < mem.length := by omega
    rcases hm.2 with ⟨rfl, h0⟩ | ⟨g, c, cur, rfl, h1, h2, h3, h4, h5⟩
    · omega
    unfold maxLen at h4
    have hc : w.cell? ⟨g, k, none⟩ = some (.int .i32 mem[k]) := by rw [World.ownsRow.cellAt hm k (by omega), List.getElem?_map, List.getElem?_eq_getElem hk]; rfl
    have hf : w.frozen? ⟨g, k, none⟩ = false := World.ownsRow.frozenAt hm k
    have HS := Lib.hid (show But g w (w.setCell ⟨g, k, none⟩ (.int .i32 v)) ∧ OwnWords B (w.setCell ⟨g, k, none⟩ (.int .i32 v)) (.slice (some ⟨g, 0, none⟩) mem.length c) (mem.set ((k : Int)).toNat v) by
      obtain ⟨s1, s2⟩ := World.ownsRow.stored hm k (.int .i32 v)
      refine ⟨But.of_grown s2, ?_⟩
      unfold OwnWords
      rw [Int.toNat_natCast, List.length_set, List.map_set]
      exact s1)
    generalize mem[k] = z at *
    clear hB hm h2 h5 hT ha
    go_enter Tryz.func51, Tryz.ntmps51
    go_wp2
    go_ret
    exact HP.out _ _ ⟨rfl, g, rfl, HS.out.1, HS.out.2⟩
  · have hT : hasB mem.length at_ = false := by
      cases h : hasB mem.length at_ with
      | false => rfl
      | true => exact absurd (has_iff.1 h) hB
    have HP := Lib.hid (show ∀ e w', (e = .returned (.bool false) ∧ w' = w) → StoreRes B mm mem at_ v w e w' from fun e w' h => by unfold StoreRes; rw [if_neg (by rw [hT]; simp)]; exact h)
    obtain ⟨A, c, rfl⟩ := own_form hm
    clear hm hT ha
    by_cases h0 : at_ < 0
    · clear hB
      go_enter Tryz.func51, Tryz.ntmps51
      go_wp2
      go_ret
      exact HP.out _ _ ⟨rfl, rfl⟩
    · have h01 : (mem.length : Int) ≤ at_ := by omega
      clear hB
      go_enter Tryz.func51, Tryz.ntmps51
      go_wp2
      go_ret
      exact HP.out _ _ ⟨rfl, rfl⟩
set_option maxRecDepth 100000 in
set_option maxHeartbeats 4000000 in
theorem row_any2 (w : World) (va vb : Value) (la lb : List Int) (ha : Ints w va la) (hb : Ints w vb lb) :
    Calls Tryz.prog 21 #[va, vb] w fun e w' => e = .returned (.bool (decide (la = lb))) ∧ ∃ n, w' = w.drewN n := by
  obtain ⟨A, ca, rfl, a1, a2, a3⟩ := ha
  obtain ⟨B, cb, rfl, b1, b2, b3⟩ := hb
  unfold maxLen at a2 b2
  have HA := Lib.hid a3
  have HB := Lib.hid b3
  clear a3 b3
  by_cases hl : la.length = lb.length
  · have hlb : ((la.length : Int) != (lb.length : Int)) = false := by rw [hl]; simp
    have HL := Lib.hid hl
    clear hl
    go_enter Tryz.func21, Tryz.ntmps21
    go_wp2_with fail
    go_loopw [5] (fun i wr => ∃ k n : Nat, k ≤ la.length ∧ i = .int .i64 k ∧ la.take k = lb.take k ∧ wr = w.drewN n) (fun i _ => la.length - (intOf i).toNat)
    case atStart => exact ⟨0, 0, by omega, rfl, by simp, rfl⟩
    case round =>
      obtain ⟨k, n, hk, rfl, hpre, hw⟩ := hrel
      obtain ⟨wo, rfl⟩ : ∃ wo : World, wo = wr := ⟨_, rfl⟩
      have HPRE := Lib.hid hpre
      have HW := Lib.hid hw
      clear hpre
      by_cases hlt : k < la.length
      · have hrl : k < lb.length := by have := HL.out; omega
        obtain ⟨ad, rfl, hx⟩ := HA.out k hlt
        obtain ⟨bd, rfl, hy⟩ := HB.out k hrl
        have hx : wo.cell? (ad.add k) = some (.int .i64 la[k]) := by rw [hw]; exact hx
        have hy : wo.cell? (bd.add k) = some (.int .i64 lb[k]) := by rw [hw]; exact hy
        have HT := Lib.hid (show la.take (k + 1) = la.take k ++ [la[k]] from List.take_succ_eq_append_getElem hlt)
        have HR := Lib.hid (show lb.take (k + 1) = lb.take k ++ [lb[k]] from List.take_succ_eq_append_getElem hrl)
        have HNE := Lib.hid (show la[k] ≠ lb[k] → decide (la = lb) = false from fun hne => decide_eq_false (fun e => hne (by
          have h9 : la[k]? = lb[k]? := by rw [e]
          rw [List.getElem?_eq_getElem hlt, List.getElem?_eq_getElem hrl] at h9
          exact Option.some.inj h9)))
        generalize la[k] = x at *
        generalize lb[k] = y at *
        clear hw
        cases hxy : (x != y) with
        | true =>
          have HF := Lib.hid (HNE.out (bne_iff_ne.1 hxy))
          clear HT HR HNE
          go_wp2_with fail
          go_quiet (fail)
          go_wp2
          go_ret
          exact ⟨by rw [HF.out]; rfl, n + nq, by rw [HW.out]; simp [World.drewN, Nat.add_assoc]⟩
        | false =>
          have hxe : x = y := by simpa using hxy
          have HF := Lib.hid (show la.take (k + 1) = lb.take (k + 1) by rw [HT.out, HR.out, HPRE.out, hxe])
          clear HT HR HNE hxe
          go_wp2_with fail
          go_quiet (fail)
          go_wp2
          exact ⟨⟨k + 1, n + nq, by omega, by go_num, HF.out, by rw [HW.out]; simp [World.drewN, Nat.add_assoc]⟩, by simp [intOf]; omega⟩
      · obtain rfl : k = la.length := by omega
        have HF := Lib.hid (show decide (la = lb) = true from decide_eq_true (by have h9 := HPRE.out; rw [List.take_length, HL.out, List.take_length] at h9; exact h9))
        clear hw
        go_wp2
        go_ret
        exact ⟨by rw [HF.out]; rfl, n, HW.out⟩
  · have HF := Lib.hid (show decide (la = lb) = false from decide_eq_false (fun e => hl (by rw [e])))
    have hlb : ((la.length : Int) != (lb.length : Int)) = true := by rw [bne_iff_ne]; omega
    clear hl
    go_enter Tryz.func21, Tryz.ntmps21
    go_wp2
    go_ret
    exact ⟨by rw [HF.out]; rfl, 0, rfl⟩
theorem wanted_at {ops : Array Oper} {o : Oper} {a : Act} {j s : Nat} {b : Bool} (hg : o.guard = some (j, b)) (hj : (ops[j]?).bind (·.dst) = some s) (h : a.eval (.tmp s) = .bool b) : Region.wanted o (yielded ops a.tmps) = true := by
  unfold Region.wanted
  rw [hg]
  have e : yielded ops a.tmps j = some b := by
    unfold yielded
    rw [hj]
    simp only [Act.eval] at h
    cases ht : a.tmps[s]? with
    | none => rw [Array.getD_eq_getD_getElem?, ht] at h; cases h
    | some v =>
      rw [Array.getD_eq_getD_getElem?, ht] at h
      simp only [Option.getD_some] at h
      subst h
      simp [ht]
  simp [e]
theorem run_assign {a : Act} {o : Oper} {x : Operand} {v : Value} {w : World} (ho : o.op = .assign x) (hx : a.eval x = v) : (execOp a.eval o).run Tryz.prog w = .ok (.value v) w := by
  unfold execOp
  rw [ho]
  simp only [hx]
  go_simp
theorem run_not {a : Act} {o : Oper} {t : TypeId} {x : Operand} {b : Bool} {w : World} (ho : o.op = .unOp .not t x) (hx : a.eval x = .bool b) : (execOp a.eval o).run Tryz.prog w = .ok (.value (.bool (!b))) w := by
  unfold execOp
  rw [ho]
  simp only [hx]
  go_simp
theorem run_pickT {a : Act} {o : Oper} {c x y : Operand} {v : Value} {w : World} (ho : o.op = .pick c x y) (hc : a.eval c = .bool true) (hx : a.eval x = v) : (execOp a.eval o).run Tryz.prog w = .ok (.value v) w := by
  unfold execOp
  rw [ho]
  simp only [hc, hx]
  go_simp
theorem run_pickF {a : Act} {o : Oper} {c x y : Operand} {v : Value} {w : World} (ho : o.op = .pick c x y) (hc : a.eval c = .bool false) (hy : a.eval y = v) : (execOp a.eval o).run Tryz.prog w = .ok (.value v) w := by
  unfold execOp
  rw [ho]
  simp only [hc, hy]
  go_simp
theorem run_neqI {a : Act} {o : Oper} {x y : Operand} {n : Int} {w : World} (ho : o.op = .binOp .neq 21 x y 21) (hx : a.eval x = .int .i32 n) (hy : a.eval y = .int .i32 n) : (execOp a.eval o).run Tryz.prog w = .ok (.value (.bool false)) w := by
  unfold execOp
  rw [ho]
  simp only [hx, hy]
  have e : (n != n) = false := by simp
  go_simp
theorem run_eqlI {a : Act} {o : Oper} {x y : Operand} {n : Int} {w : World} (ho : o.op = .binOp .eql 3 x y 3) (hx : a.eval x = .int .i64 n) (hy : a.eval y = .int .i64 n) : (execOp a.eval o).run Tryz.prog w = .ok (.value (.bool true)) w := by
  unfold execOp
  rw [ho]
  simp only [hx, hy]
  have e : (n == n) = true := by simp
  go_simp
theorem run_neqB {a : Act} {o : Oper} {x y : Operand} {b : Bool} {w : World} (ho : o.op = .binOp .neq 4 x y 4) (hx : a.eval x = .bool b) (hy : a.eval y = .bool b) : (execOp a.eval o).run Tryz.prog w = .ok (.value (.bool false)) w := by
  unfold execOp
  rw [ho]
  simp only [hx, hy]
  cases b <;> go_simp
set_option maxRecDepth 100000 in
theorem run_idxB {a : Act} {o : Oper} {x y : Operand} {g : Nat} {q : Int} {w : World} (ho : o.op = .indexAddr 45 x y) (hx : a.eval x = .pointer (some ⟨g, 0, none⟩)) (hy : a.eval y = .int .i64 q) (hq : q = 0 ∨ q = 1) :
    (execOp a.eval o).run Tryz.prog w = .ok (.value (.pointer (some ⟨g, q.toNat * 8, none⟩))) w := by
  unfold execOp
  rw [ho]
  simp only [hx, hy]
  rcases hq with rfl | rfl
  · go_simp
  · go_simp
set_option maxRecDepth 100000 in
theorem run_idxL {a : Act} {o : Oper} {x y : Operand} {g : Nat} {w : World} (ho : o.op = .indexAddr 43 x y) (hx : a.eval x = .pointer (some ⟨g, 0, none⟩)) (hy : a.eval y = .int .i64 0) :
    (execOp a.eval o).run Tryz.prog w = .ok (.value (.pointer (some ⟨g, 0, none⟩))) w := by
  unfold execOp
  rw [ho]
  simp only [hx, hy]
  go_simp
set_option maxRecDepth 100000 in
theorem run_loadS {a : Act} {o : Oper} {x : Operand} {ad : Addr} {A : Option Addr} {n c : Nat} {w : World} (ho : o.op = .load 25 x) (hx : a.eval x = .pointer (some ad)) (hc : w.cell? ad = some (.slice A n c)) :
    (execOp a.eval o).run Tryz.prog w = .ok (.value (.slice A n c)) w := by
  unfold execOp
  rw [ho]
  simp only [hx]
  go_simp
set_option maxRecDepth 100000 in
theorem run_loadM {a : Act} {o : Oper} {x : Operand} {g f : Nat} {A : Option Addr} {n c : Nat} {z0 z1 z2 z3 z4 z5 z6 : Int} {w : World} (ho : o.op = .load 40 x) (hx : a.eval x = .pointer (some ⟨g, f, none⟩))
    (h0 : w.cell? ⟨g, f, none⟩ = some (.int .i64 z0)) (h1 : w.cell? ⟨g, f + 1, none⟩ = some (.int .i64 z1)) (h2 : w.cell? ⟨g, f + 2, none⟩ = some (.int .i64 z2)) (h3 : w.cell? ⟨g, f + 3, none⟩ = some (.int .i64 z3)) (h4 : w.cell? ⟨g, f + 4, none⟩ = some (.int .i64 z4)) (h5 : w.cell? ⟨g, f + 5, none⟩ = some (.int .i64 z5)) (h6 : w.cell? ⟨g, f + 6, none⟩ = some (.int .i32 z6)) (h7 : w.cell? ⟨g, f + 7, none⟩ = some (.slice A n c)) :
    (execOp a.eval o).run Tryz.prog w = .ok (.value (.agg #[.int .i64 z0, .int .i64 z1, .int .i64 z2, .int .i64 z3, .int .i64 z4, .int .i64 z5, .int .i32 z6, .slice A n c])) w := by
  unfold execOp
  rw [ho]
  simp only [hx]
  go_simp
set_option maxRecDepth 100000 in
theorem run_loadE {a : Act} {o : Oper} {x : Operand} {g : Nat} {A : Option Addr} {n c : Nat} {z0 z1 z2 z4 : Int} {w : World} (ho : o.op = .load 42 x) (hx : a.eval x = .pointer (some ⟨g, 0, none⟩))
    (h0 : w.cell? ⟨g, 0, none⟩ = some (.int .i64 z0)) (h1 : w.cell? ⟨g, 1, none⟩ = some (.int .i64 z1)) (h2 : w.cell? ⟨g, 2, none⟩ = some (.int .i64 z2)) (h3 : w.cell? ⟨g, 3, none⟩ = some (.slice A n c)) (h4 : w.cell? ⟨g, 4, none⟩ = some (.int .i32 z4)) :
    (execOp a.eval o).run Tryz.prog w = .ok (.value (.agg #[.int .i64 z0, .int .i64 z1, .int .i64 z2, .slice A n c, .int .i32 z4])) w := by
  unfold execOp
  rw [ho]
  simp only [hx]
  go_simp
theorem run_call1 {a : Act} {o : Oper} {f : Nat} {x : Operand} {ts : Array TypeId} {v : Value} {w : World} (hf : (callFunc f #[v]).run Tryz.prog w = .ok (.enter f #[v]) w) (ho : o.op = .call { callee := .value (.func f), args := #[x], argTypes := ts }) (hx : a.eval x = v) :
    (execOp a.eval o).run Tryz.prog w = .ok (.enter f #[v]) w := by
  unfold execOp
  rw [ho]
  have ha : a.eval (.func f) = .func (.func f) #[] #[] := rfl
  simp only [resolve, invoke, Sem.run_bind, Sem.run_pure, Result.andThen_ok, List.map_toArray, List.map_cons, List.map_nil, hx, ha, hf]
  go_simp
theorem run_call2 {a : Act} {o : Oper} {f : Nat} {x y : Operand} {ts : Array TypeId} {v u : Value} {w : World} (hf : (callFunc f #[v, u]).run Tryz.prog w = .ok (.enter f #[v, u]) w) (ho : o.op = .call { callee := .value (.func f), args := #[x, y], argTypes := ts }) (hx : a.eval x = v) (hy : a.eval y = u) :
    (execOp a.eval o).run Tryz.prog w = .ok (.enter f #[v, u]) w := by
  unfold execOp
  rw [ho]
  have ha : a.eval (.func f) = .func (.func f) #[] #[] := rfl
  simp only [resolve, invoke, Sem.run_bind, Sem.run_pure, Result.andThen_ok, List.map_toArray, List.map_cons, List.map_nil, hx, hy, ha, hf]
  go_simp
/-- A still operation over a named act: what comes behind it is a named act again. -/
theorem walkA_still {P : Program} {ops : Array Oper} {Q : Exit → Act → World → Prop} {S : World → Prop} {st ord : List Nat} {i n : Nat} {a : Act} {w : World} (o : Oper) (v : Value) (ho : (ops.toList.drop i).head? = some o) (hd : o.dst = some n) (hi : st.contains i = true)
    (hw : Region.wanted o (yielded ops a.tmps) = true) (hy : ∀ w, S w → (execOp a.eval o).run P w = .ok (.value v) w) (hs : n < a.tmps.size)
    (h : ∀ b : Act, b.tmps.size = a.tmps.size → b.eval (.tmp n) = v → (∀ m, m ≠ n → b.eval (.tmp m) = a.eval (.tmp m)) → b = a.put (some n) v → walkH P ops Q S st ord b w) : walkH P ops Q S st (i :: ord) a w := by
  refine walkH_still o v ho hi hw hy ?_
  rw [hd]
  exact h _ (put_size a n v) (put_eval_eq hs) (fun m hm => put_eval_ne hm) rfl
/-- The act behind a call, named. -/
theorem walkA_put {P : Program} {ops : Array Oper} {Q : Exit → Act → World → Prop} {S : World → Prop} {st ord : List Nat} {n : Nat} {a : Act} {v : Value} {w : World} (hs : n < a.tmps.size)
    (h : ∀ b : Act, b.tmps.size = a.tmps.size → b.eval (.tmp n) = v → (∀ m, m ≠ n → b.eval (.tmp m) = a.eval (.tmp m)) → b = a.put (some n) v → walkH P ops Q S st ord b w) : walkH P ops Q S st ord (a.put (some n) v) w :=
  h _ (put_size a n v) (put_eval_eq hs) (fun m hm => put_eval_ne hm) rfl
theorem does_call {P : Program} {ops : Array Oper} {Q : Exit → Act → World → Prop} {o : Oper} {a : Act} {w : World} {f : Nat} {vs : Array Value} (hw : Region.wanted o (yielded ops a.tmps) = true) (hx : (execOp a.eval o).run P w = .ok (.enter f vs) w)
    (hC : Calls P f vs w fun e w' => ∃ v, e = .returned v ∧ Q .normal (a.put o.dst v) w') : wpList P ops Q [o] a w := by
  unfold wpList
  rw [if_pos hw]
  left
  unfold Oper.wp
  rw [hx, Oper.upon_enter]
  refine Calls.mono hC ?_
  rintro e w' ⟨v, rfl, h⟩
  exact h
/-- Own rows of two times stand apart. -/
theorem own_apart {B B' : Nat} {w w' : World} {v v' : Value} {l l' : List Int} (h : OwnWords B w v l) (h' : OwnWords B' w' v' l') (hs : w.heap.size ≤ B') : v.ownBlock = none ∨ v.ownBlock ≠ v'.ownBlock := by
  cases hv : v.ownBlock with
  | none => exact Or.inl rfl
  | some g =>
    refine Or.inr fun e => ?_
    have h1 := (OwnWords.where_ h hv).2
    have h2 := (OwnWords.where_ h' e.symm).1
    omega
theorem apart_symm {a b : Option Nat} (h : a = none ∨ a ≠ b) : b = none ∨ b ≠ a := by
  rcases h with h | h
  · cases b with
    | none => exact Or.inl rfl
    | some g => exact Or.inr (by rw [h]; simp)
  · exact Or.inr (fun e => h e.symm)
end Go.Proofs.YtonheiaohgbbcaaGreat.Mc
