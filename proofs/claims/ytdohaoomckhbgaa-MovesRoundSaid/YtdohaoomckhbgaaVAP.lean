/- Moves: rows of moves appended to rows of one's own; rows turned round. -/
import Derived.Test.YtdohaoomckhbgaaVPT
namespace Go.Proofs.Ytdohaoomckhbgaa.Vm
open Go.ChangeShapes Go.WideShapes Go.ChangeAt Go.RowKit Go.Maps Go.WideElems Go.ChangeMaps Go.Sort Go.Shelf Go.Proofs.Ytdohaoomckhbgaa.Mem Go.Proofs.Ytdohaoomckhbgaa.Br Go.Proofs.Ytdohaoomckhbgaa.Va Go.Proofs.Ytdohaoomckhbgaa.Vr
set_option linter.unusedVariables false
set_option linter.unusedSimpArgs false
theorem flatV_len (l : List Mov) : (l.flatMap cellsV).length = l.length * 2 := by
  induction l with
  | nil => rfl
  | cons m l ih => rw [List.flatMap_cons, List.length_append, ih, List.length_cons]; show 2 + _ = _; omega
set_option maxRecDepth 100000 in
theorem run_mvs (w : World) (B : Nat) (v0 : Value) (pre l : List Mov) (h0 : OwnMv B w v0 pre) (ad : Addr) (c : Nat) (hc : ∀ j u, (l.flatMap cellsV)[j]? = some u → w.cell? (ad.add j) = some u) (hl : pre.length + l.length ≤ 1000) (hB : B ≤ w.heap.size) :
    ∃ v' w', (Builtin.append_ #[22, 22] 22 #[v0, .slice (some ad) l.length c]).run Try.prog w = .ok v' w' ∧ OwnMv B w' v' (pre ++ l) ∧ w.grownBy w' v0.ownBlock := by
  obtain ⟨i0, hi, hz0, hz1, hz2⟩ := info_parts info_mv
  obtain ⟨v', w', hr, r1, r2, _⟩ := run_append_own (P := Try.prog) w B 22 22 43 i0 (.agg #[.int .i64 0, .int .i64 0]) 2 16 Try.underlying22 hi hz0 hz1 hz2 rfl (by decide) v0 pre.length (pre.flatMap cellsV) h0 ad l.length c (l.flatMap cellsV) (flatV_len l) hc
      (by intro u hu; obtain ⟨x, _, hx⟩ := List.mem_flatMap.1 hu; simp only [cellsV, List.mem_cons, List.not_mem_nil, or_false] at hx; rcases hx with rfl | rfl <;> rfl) (by unfold maxLen; omega) (by omega) hB
  refine ⟨v', w', hr, ?_, r2⟩
  unfold OwnMv
  rw [List.length_append, List.flatMap_append]
  exact r1
theorem wpList_mvs {w : World} {ops : Array Oper} {rest : List Oper} {o : Oper} {a : Act} {Q : Exit → Act → World → Prop} (hgd : o.guard = none) (s x : Operand)
    (ho : o.op = .call { callee := .builtin .append, args := #[s, x], argTypes := #[22, 22] }) (ht : o.type = 22) (B : Nat) (v0 : Value) (pre l : List Mov) (hs : a.eval s = v0) (h0 : OwnMv B w v0 pre) (ad : Addr) (c : Nat) (hx : a.eval x = .slice (some ad) l.length c)
    (hc : ∀ j u, (l.flatMap cellsV)[j]? = some u → w.cell? (ad.add j) = some u) (hl : pre.length + l.length ≤ 1000) (hB : B ≤ w.heap.size)
    (hK : ∀ v' w', OwnMv B w' v' (pre ++ l) → w.grownBy w' v0.ownBlock → wpList Try.prog ops Q rest (a.put o.dst v') w') : wpList Try.prog ops Q (o :: rest) a w := by
  refine wpList_plain hgd fun K hK' => ?_
  obtain ⟨v', w', hr, h2, h3⟩ := run_mvs w B v0 pre l h0 ad c hc hl hB
  unfold Oper.wp execOp
  simp only [ho, resolve, invoke, builtin, Sem.run_bind, Sem.run_pure, Result.andThen_ok, List.map_toArray, List.map_cons, List.map_nil, hs, hx, ht, hr]
  exact hK' _ _ (hK v' w' h2 h3)
/-- The cells of a row of moves, from the k-th on. -/
theorem moves_cells {w : World} {A : Option Addr} {n c : Nat} {l : List Mov} (h : MovesAt w (.slice A n c) l) (h0 : 0 < l.length) : ∃ g o, A = some ⟨g, o, none⟩ ∧ n = l.length ∧ ∀ k i, ∀ j u, (((l.drop k).take i).flatMap cellsV)[j]? = some u → w.cell? ((⟨g, o + k * 2, none⟩ : Addr).add j) = some u := by
  obtain ⟨A', c', g, o, e, h1, h2, h3, h4⟩ := h
  injection e with e1 e2 e3
  subst e1 e2
  refine ⟨g, o, h3 h0, rfl, fun k i j u hj => ?_⟩
  have hlt : j < (((l.drop k).take i).flatMap cellsV).length := (List.getElem?_eq_some_iff.1 hj).1
  rw [flatV_len] at hlt
  have hm : j / 2 < ((l.drop k).take i).length := by omega
  have e := flat_getG cellsV 2 (fun _ => rfl) ((l.drop k).take i) (j / 2) (j % 2) hm (by omega)
  rw [show j / 2 * 2 + j % 2 = j by omega] at e
  rw [e, List.getElem_take, List.getElem_drop] at hj
  have hk : k + j / 2 < l.length := by rw [List.length_take, List.length_drop] at hm; omega
  obtain ⟨c0, c1⟩ := h4 (k + j / 2) hk
  have ea : ((⟨g, o + k * 2, none⟩ : Addr).add j) = ⟨g, o + k * 2 + j, none⟩ := by
    unfold Addr.add
    by_cases h : j = 0
    · subst h; rfl
    · rw [if_neg h]
  rw [ea]
  rcases Nat.mod_two_eq_zero_or_one j with hj2 | hj2
  · rw [hj2] at hj
    rw [show o + k * 2 + j = o + (k + j / 2) * 2 by omega, c0]
    exact hj
  · rw [hj2] at hj
    rw [show o + k * 2 + j = o + (k + j / 2) * 2 + 1 by omega, c1]
    exact hj
theorem rest_any (w : World) (x n : Int) (h0 : 0 < n) (h1 : n ≤ 1000) : Calls Try.prog 27 #[.int .i64 x, .int .i64 n] w fun e w' => e = .returned (.int .i64 (x % n)) ∧ w' = w := by
  have hr : (x.tmod n + n) % n = x % n := by
    rw [Int.add_emod_right, Int.tmod_def]
    have e : x - n * x.tdiv n = x + n * (-(x.tdiv n)) := by rw [Int.mul_neg]; rfl
    rw [e, Int.add_mul_emod_self_left]
  have hb : -n < x.tmod n ∧ x.tmod n < n := by
    have h2 := Int.natAbs_tmod x n
    have h3 : x.natAbs % n.natAbs < n.natAbs := Nat.mod_lt _ (by omega)
    omega
  obtain ⟨b1, b2⟩ := hb
  have hz : (n == 0) = false := beq_eq_false_iff_ne.2 (by omega)
  obtain ⟨r, hre⟩ : ∃ r, x % n = r := ⟨_, rfl⟩
  rw [hre] at hr ⊢
  have hr2 : (x.tmod n) % n = r := by rw [Int.add_emod_right] at hr; exact hr
  go_enter Try.func27, Try.ntmps27
  go_wp2
  go_ret
  refine ⟨?_, rfl⟩
  show Ending.returned (.int .i64 ((x.tmod n + n) % n)) = _
  rw [hr]
end Go.Proofs.Ytdohaoomckhbgaa.Vm
