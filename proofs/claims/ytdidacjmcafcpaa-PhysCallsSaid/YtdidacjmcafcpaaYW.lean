/- Stage 12: rows of words held against each other; the calls that a run tells, as they are read; one struct and two behind a row. -/
import Derived.Test.YtdidacjmcafcpaaYG
import Derived.Test.YtdidacjmcafcpaaYR
namespace Go.Proofs.Ytdidacjmcafcpaa.Ph
open Go.ChangeShapes Go.WideShapes Go.ChangeAt Go.RowKit Go.Maps Go.Proofs.Ytdidacjmcafcpaa.Mem Go.Proofs.Ytdidacjmcafcpaa.Kc Go.Proofs.Ytdidacjmcafcpaa.Br Go.Proofs.Ytdidacjmcafcpaa.Pl Go.Proofs.Ytdidacjmcafcpaa.Mw Go.Proofs.Ytdidacjmcafcpaa.Mc Go.Proofs.Ytdidacjmcafcpaa.Gr
set_option linter.unusedVariables false
set_option linter.unusedSimpArgs false
set_option maxRecDepth 100000 in
set_option maxHeartbeats 1000000 in
theorem words_any (w : World) (va vb : Value) (la lb : List Int) (ha : WordsAt w va la) (hb : WordsAt w vb lb) :
    Calls Try.prog 24 #[va, vb] w fun e w' => e = .returned (.bool (decide (la = lb))) ∧ ∃ n, w' = w.drewN n := by
  obtain ⟨A, ca, rfl, a1, a2, a3⟩ := ha
  obtain ⟨B, cb, rfl, b1, b2, b3⟩ := hb
  unfold maxLen at a2 b2
  have HA := Lib.hid a3
  have HB := Lib.hid b3
  clear a3 b3
  by_cases hl : la.length = lb.length
  · have hlb : ((la.length : Int) != (lb.length : Int)) = false := by rw [hl]; simp
    have HL := Lib.hid hl
    clear hl
    go_enter Try.func24, Try.ntmps24
    go_wp2_with fail
    go_loopw [5] (fun i wr => ∃ k n : Nat, k ≤ la.length ∧ i = .int .i64 k ∧ la.take k = lb.take k ∧ wr = w.drewN n) (fun i _ => la.length - (intOf i).toNat)
    case atStart => exact ⟨0, 0, by omega, rfl, by simp, rfl⟩
    case round =>
      obtain ⟨k, n, hk, rfl, hpre, hw⟩ := hrel
      obtain ⟨wo, rfl⟩ : ∃ wo : World, wo = wr := ⟨_, rfl⟩
      have HPRE := Lib.hid hpre
      have HW := Lib.hid hw
      clear hpre
      by_cases hlt : k < la.length
      · have hrl : k < lb.length := by have := HL.out; omega
        obtain ⟨ad, rfl, hx⟩ := HA.out k hlt
        obtain ⟨bd, rfl, hy⟩ := HB.out k hrl
        have hx : wo.cell? (ad.add k) = some (.int .i32 la[k]) := by rw [hw]; exact hx
        have hy : wo.cell? (bd.add k) = some (.int .i32 lb[k]) := by rw [hw]; exact hy
        have HT := Lib.hid (show la.take (k + 1) = la.take k ++ [la[k]] from List.take_succ_eq_append_getElem hlt)
        have HR := Lib.hid (show lb.take (k + 1) = lb.take k ++ [lb[k]] from List.take_succ_eq_append_getElem hrl)
        have HNE := Lib.hid (show la[k] ≠ lb[k] → decide (la = lb) = false from fun hne => decide_eq_false (fun e => hne (by
          have h9 : la[k]? = lb[k]? := by rw [e]
          rw [List.getElem?_eq_getElem hlt, List.getElem?_eq_getElem hrl] at h9
          exact Option.some.inj h9)))
        generalize la[k] = x at *
        generalize lb[k] = y at *
        clear hw
        cases hxy : (x != y) with
        | true =>
          have HF := Lib.hid (HNE.out (bne_iff_ne.1 hxy))
          clear HT HR HNE
          go_wp2_with fail
          go_quiet (fail)
          go_wp2
          go_ret
          exact ⟨by rw [HF.out]; rfl, n + nq, by rw [HW.out]; simp [World.drewN, Nat.add_assoc]⟩
        | false =>
          have hxe : x = y := by simpa using hxy
          have HF := Lib.hid (show la.take (k + 1) = lb.take (k + 1) by rw [HT.out, HR.out, HPRE.out, hxe])
          clear HT HR HNE hxe
          go_wp2_with fail
          go_quiet (fail)
          go_wp2
          exact ⟨⟨k + 1, n + nq, by omega, by go_num, HF.out, by rw [HW.out]; simp [World.drewN, Nat.add_assoc]⟩, by simp [intOf]; omega⟩
      · obtain rfl : k = la.length := by omega
        have HF := Lib.hid (show decide (la = lb) = true from decide_eq_true (by have h9 := HPRE.out; rw [List.take_length, HL.out, List.take_length] at h9; exact h9))
        clear hw
        go_wp2
        go_ret
        exact ⟨by rw [HF.out]; rfl, n, HW.out⟩
  · have HF := Lib.hid (show decide (la = lb) = false from decide_eq_false (fun e => hl (by rw [e])))
    have hlb : ((la.length : Int) != (lb.length : Int)) = true := by rw [bne_iff_ne]; omega
    clear hl
    go_enter Try.func24, Try.ntmps24
    go_wp2
    go_ret
    exact ⟨by rw [HF.out]; rfl, 0, rfl⟩
theorem words_same (w : World) (va vb : Value) (l : List Int) (ha : WordsAt w va l) (hb : WordsAt w vb l) :
    Calls Try.prog 24 #[va, vb] w fun e w' => e = .returned (.bool true) ∧ ∃ n, w' = w.drewN n := by
  have h := words_any w va vb l l ha hb
  rwa [decide_eq_true (rfl : l = l)] at h
/-- Events as they are read. -/
theorem EventsAt.reads {B : Nat} {w : World} {cA : Option Addr} {cn ck : Nat} {l : List (Int × List Int)} {X : Nat → Prop} (h : EventsAt B w (.slice cA cn ck) l X) :
    cn = l.length ∧ cn ≤ ck ∧ ck ≤ maxLen ∧ (0 < l.length → ∃ g, cA = some ⟨g, 0, none⟩ ∧ ∀ k (h : k < l.length), w.cell? ⟨g, k * 2, none⟩ = some (.int .i32 l[k].1) ∧ ∃ A n c, w.cell? ⟨g, k * 2 + 1, none⟩ = some (.slice A n c) ∧ WordsAt w (.slice A n c) l[k].2) := by
  obtain ⟨es, h1, _, h3⟩ := h
  rcases h1.2 with ⟨e, h0⟩ | ⟨g, c, cur, e, _, _, hn, hm, _⟩
  · injection e with e1 e2 e3
    subst e1 e2 e3
    exact ⟨h0.symm, Nat.le_refl _, by unfold maxLen; omega, fun hp => absurd h0 (by omega)⟩
  · injection e with e1 e2 e3
    subst e1 e2 e3
    refine ⟨rfl, hn, hm, fun _ => ⟨g, rfl, fun k hk => ?_⟩⟩
    obtain ⟨e1, v, e2, e3, _⟩ := h3 k hk
    obtain ⟨A, c', rfl⟩ := own_form e3
    refine ⟨by rw [World.ownsRow.cellAt h1 _ (by omega), Nat.mul_comm]; exact e1, A, _, c', by rw [World.ownsRow.cellAt h1 _ (by omega), Nat.mul_comm]; exact e2, words_of_own e3⟩
/-- Two elements more behind a row. -/
theorem wpList_push2 {α : Type} {P : Program} {w : World} {ops : Array Oper} {rest : List Oper} {o : Oper} {a : Act} {Q : Exit → Act → World → Prop} (hgd : o.guard = none) (s x : Operand)
    (t : TypeId) (ho : o.op = .call { callee := .builtin .append, args := #[s, x], argTypes := #[t, t] }) (hty : o.type = t) (B : Nat) (e : TypeId) (i : TypeInfo) (z : Value) (size bytes : Nat) (ht : P.underlying t = some (.slice e)) (hi : P.info? e = some i) (hz : i.zero = some z)
    (hsize : i.size = size) (hby : i.bytes = bytes) (hzs : z.cells.size = size) (hsz : 0 < size) (R R' : World → List Value → α → Prop) (v0 : Value) (l : List α) (hs : a.eval s = v0) (h0 : RowsOwn B w e size R v0 l) (ad : Addr) (c : Nat) (hx : a.eval x = .slice (some ad) 2 c) (y y' : α) (n1 n2 : List Value)
    (hl : n1.length = size) (hl2 : n2.length = size) (hc : ∀ j u, (n1 ++ n2)[j]? = some u → w.cell? (ad.add j) = some u) (h1 : ∀ u ∈ n1 ++ n2, u.oneCell' = true) (hn : l.length ≤ 1000000) (hb : bytes ≤ 1000) (hB : B ≤ w.heap.size)
    (hR : ∀ w', w.grownBy w' v0.ownBlock → ∀ c x, R w c x → R' w' c x) (hy : ∀ w', w.grownBy w' v0.ownBlock → R' w' n1 y ∧ R' w' n2 y')
    (hK : ∀ v' w', RowsOwn B w' e size R' v' (l ++ [y, y']) → w.grownBy w' v0.ownBlock → wpList P ops Q rest (a.put o.dst v') w') : wpList P ops Q (o :: rest) a w := by
  obtain ⟨cs, a1, a2, a3⟩ := h0
  refine wpList_plain hgd fun K hK' => ?_
  have hbt : (l.length + 2) * bytes ≤ 140737488355328 := Nat.le_trans (Nat.mul_le_mul (show l.length + 2 ≤ 1000002 by omega) hb) (by decide)
  obtain ⟨v', w', hr, h2, h3, _, h4⟩ := run_append_own_at (P := P) (w := w) B t o.type e i z size bytes ht hi hz hsize hby hzs hsz v0 l.length cs.flatten a2 ad 2 c (n1 ++ n2) (by rw [List.length_append]; omega) hc h1 (by unfold maxLen; omega) hbt hB
  unfold Oper.wp execOp
  simp only [ho, resolve, invoke, builtin, Sem.run_bind, Sem.run_pure, Result.andThen_ok, List.map_toArray, List.map_cons, List.map_nil, hs, hx, hr]
  refine hK' _ _ (hK v' w' ?_ h3)
  obtain ⟨b1, b2⟩ := hy w' h3
  refine ⟨cs ++ [n1, n2], by simp [a1], ?_, fun k hk => ?_⟩
  · rw [List.length_append, List.flatten_append]
    simpa using h2
  · rw [List.length_append] at hk
    rcases Nat.lt_or_ge k l.length with hlt | hge
    · obtain ⟨d, d1, d2, d3⟩ := a3 k hlt
      rw [List.getElem_append_left hlt, List.getElem?_append_left (by omega)]
      exact ⟨d, d1, d2, hR _ h3 _ _ d3⟩
    · rw [List.getElem_append_right hge, List.getElem?_append_right (by omega)]
      have hk2 : k = l.length ∨ k = l.length + 1 := by simp at hk; omega
      rcases hk2 with rfl | rfl
      · refine ⟨n1, by simp [a1], hl, ?_⟩
        simpa using b1
      · refine ⟨n2, by rw [a1]; simp, hl2, ?_⟩
        simpa using b2
end Go.Proofs.Ytdidacjmcafcpaa.Ph
