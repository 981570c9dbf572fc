/- Stage 12: ends and blocks, as a run does them. -/
import Derived.Test.YtdidacjmcafcpaaYD
/- Stage 12: where a block's end goes, as a run does it. -/
namespace Go.Proofs.Ytdidacjmcafcpaa.Ph
open Go.ChangeShapes Go.WideShapes Go.ChangeAt Go.RowKit Go.Proofs.Ytdidacjmcafcpaa.Mem Go.Proofs.Ytdidacjmcafcpaa.Kc Go.Proofs.Ytdidacjmcafcpaa.Br Go.Proofs.Ytdidacjmcafcpaa.Pl Go.Proofs.Ytdidacjmcafcpaa.Mw Go.Proofs.Ytdidacjmcafcpaa.Mc Go.Proofs.Ytdidacjmcafcpaa.Gr
set_option linter.unusedVariables false
set_option linter.unusedSimpArgs false
def howQ (f : PEnd) : Int := if f.op = 7 then 1 else if f.op = 8 then 2 else 0
def valQ (f : PEnd) (l : List Int) : Int := if f.op = 7 then getP l f.a else if f.op = 8 then f.imm else 0
def nextQ (f : PEnd) (l : List Int) : Int := if f.op = 7 then 0 else if f.op = 8 then 0 else f.to.getD (goesF f.op (getP l f.a) (getP l f.b) f.to.length).toNat 0
/-- An end that may be done. -/
structure EndOk (blocks : Nat) (f : PEnd) : Prop where
  op : 1 ≤ f.op ∧ f.op ≤ 8
  ret : f.op = 7 → f.a < 16
  goes : f.op ≠ 7 → f.op ≠ 8 → ∀ a b : Int, 0 ≤ goesF f.op a b f.to.length ∧ goesF f.op a b f.to.length < f.to.length
  few : f.to.length ≤ 1000000
  blk : ∀ t ∈ f.to, 1 ≤ t ∧ t < blocks
theorem goes_in {op a b : Int} {n : Nat} (h : mayE op n = true) (h7 : op ≠ 7) (h8 : op ≠ 8) : 0 ≤ goesF op a b n ∧ goesF op a b n < n := by
  unfold mayE at h
  unfold goesF
  by_cases h1 : op = 1
  · rw [if_pos h1] at h ⊢
    simp at h
    omega
  · rw [if_neg h1] at h ⊢
    by_cases h2 : op = 2
    · rw [if_pos (Or.inl h2)] at h
      rw [if_pos h2]
      simp at h
      split <;> omega
    · rw [if_neg h2]
      by_cases h3 : op = 3
      · rw [if_pos (Or.inr (Or.inl h3))] at h
        rw [if_pos h3]
        simp at h
        split <;> omega
      · rw [if_neg h3]
        by_cases h4 : op = 4
        · rw [if_pos (Or.inr (Or.inr (Or.inl h4)))] at h
          rw [if_pos h4]
          simp at h
          split <;> omega
        · rw [if_neg h4]
          by_cases h5 : op = 5
          · rw [if_pos (Or.inr (Or.inr (Or.inr h5)))] at h
            rw [if_pos h5]
            simp at h
            split <;> omega
          · rw [if_neg (by omega)] at h
            rw [if_neg h5]
            by_cases h6 : op = 6
            · rw [if_pos h6] at h ⊢
              simp at h
              omega
            · rw [if_neg h6, if_neg (by omega)] at h
              cases h
theorem endOk_of {f : PEnd} {r : Int} {blocks : Nat} (h : endQ f r blocks = 0) (hr : r ≤ 16) : EndOk blocks f := by
  have h1 : mayE f.op f.to.length = true := by
    cases ho : mayE f.op f.to.length with
    | true => rfl
    | false => unfold endQ at h; rw [if_pos ho] at h; cases h
  have h2 : (regsB r (needsL f) && !(f.op == 7 && decide (0 < f.a))) = true := by
    cases hb : (regsB r (needsL f) && !(f.op == 7 && decide (0 < f.a))) with
    | true => rfl
    | false => unfold endQ at h; rw [if_neg (by rw [h1]; decide), if_pos hb] at h; cases h
  have h3 : f.to.any (badTo blocks) = false := by
    cases hb : f.to.any (badTo blocks) with
    | false => rfl
    | true => unfold endQ at h; rw [if_neg (by rw [h1]; decide), if_neg (by rw [h2]; decide), if_pos hb] at h; cases h
  have hop : (1 ≤ f.op ∧ f.op ≤ 8) ∧ f.to.length ≤ 65 := by
    unfold mayE at h1
    by_cases a1 : f.op = 1
    · rw [if_pos a1] at h1; simp at h1; omega
    · rw [if_neg a1] at h1
      by_cases a2 : f.op = 2 ∨ f.op = 3 ∨ f.op = 4 ∨ f.op = 5
      · rw [if_pos a2] at h1; simp at h1; omega
      · rw [if_neg a2] at h1
        by_cases a3 : f.op = 6
        · rw [if_pos a3] at h1; simp at h1; omega
        · rw [if_neg a3] at h1
          by_cases a4 : f.op = 7 ∨ f.op = 8
          · rw [if_pos a4] at h1; simp at h1; refine ⟨by omega, ?_⟩; rw [h1]; simp
          · rw [if_neg a4] at h1; cases h1
  refine ⟨hop.1, fun e => ?_, fun e1 e2 a b => goes_in h1 e1 e2, by omega, fun t ht => ?_⟩
  · simp [e] at h2
    omega
  · rw [List.any_eq_false] at h3
    have h4 := h3 t ht
    unfold badTo at h4
    simp at h4
    omega
set_option maxRecDepth 100000 in
set_option maxHeartbeats 4000000 in
theorem leaveG_any (w : World) (B g : Nat) (f : QFix) (nl : List Int) (ca : Value) (q : QSt) (blocks : Nat) (h : QRun B g f nl 0 0 ca w q) (x : PEnd) (T : Option Addr) (k : Nat) (hT : Ints w (.slice T x.to.length k) x.to) (ho : EndOk blocks x) (hW : ∀ r, InW (getP q.regs r)) :
    Calls Try.prog 58 #[.pointer (some ⟨g, 0, none⟩), .agg #[.int .i64 x.op, .int .i64 x.a, .int .i64 x.b, .slice T x.to.length k, .int .i32 x.imm]] w fun e w' => e = .returned (.int .i64 (nextQ x q.regs)) ∧ QRun B g f nl (howQ x) (valQ x q.regs) ca w' q ∧ Chg (fun k => k = g) w w' := by
  by_cases h78 : x.op = 7 ∨ x.op = 8
  · have hf : x.op = 7 ∧ x.a < 16 ∨ x.op = 8 := h78.imp (fun e => ⟨e, ho.ret e⟩) id
    refine (leaveQ_any w B g (f.run q ca 0 0) x T x.to.length k h.run hf).mono ?_
    rintro e w' ⟨rfl, h1, h2⟩
    have hc : Chg (fun k => k = g) w w' := Chg.of_two h2 rfl (fun k e => by cases e)
    have hb : But g w w' := ⟨hc.os, hc.tape, hc.output, hc.size, fun k hk hn => hc.block k hk hn⟩
    have e1 : nextQ x q.regs = 0 := by
      unfold nextQ
      rcases h78 with e | e
      · rw [if_pos e]
      · rw [if_neg (by omega), if_pos e]
    have e2 : leaveS x (f.run q ca 0 0) = f.run q ca (howQ x) (valQ x q.regs) := by
      unfold leaveS howQ valQ
      rcases h78 with e | e
      · rw [if_pos e, if_pos e, if_pos e]; rfl
      · rw [if_neg (by omega), if_neg (by omega), if_pos e, if_neg (by omega), if_pos e]; rfl
    rw [e2] at h1
    exact ⟨by rw [e1], QRun.put (r := q.regs) (st := q.steps) h hb h1, hc⟩
  · have h7 : (x.op == 7) = false := by simp; omega
    have h8 : (x.op == 8) = false := by simp; omega
    have hg0 := ho.goes (fun e => h78 (Or.inl e)) (fun e => h78 (Or.inr e)) (getP q.regs x.a) (getP q.regs x.b)
    have HN := Lib.hid (show nextQ x q.regs = x.to.getD (goesF x.op (getP q.regs x.a) (getP q.regs x.b) x.to.length).toNat 0 by unfold nextQ; rw [if_neg (fun e => h78 (Or.inl e)), if_neg (fun e => h78 (Or.inr e))])
    have HH := Lib.hid (show howQ x = 0 by unfold howQ; rw [if_neg (fun e => h78 (Or.inl e)), if_neg (fun e => h78 (Or.inr e))])
    have HV := Lib.hid (show valQ x q.regs = 0 by unfold valQ; rw [if_neg (fun e => h78 (Or.inl e)), if_neg (fun e => h78 (Or.inr e))])
    have HGO := fun (w' : World) (hb : Below w.heap.size w w') => goes_any w' x T x.to.length k (.slice (some ⟨g, 4, none⟩) 16 16) q.regs (Rg.words (h.run.below hb)) ho.few hW
    obtain ⟨p, hp⟩ : ∃ p : Nat, goesF x.op (getP q.regs x.a) (getP q.regs x.b) x.to.length = p := ⟨(goesF x.op (getP q.regs x.a) (getP q.regs x.b) x.to.length).toNat, by omega⟩
    rw [hp] at hg0
    rw [hp] at HN
    rw [hp] at HGO
    have HGO := Lib.hid HGO
    have hpl : p < x.to.length := by omega
    have hlx : x.to.length ≤ 1000000 := ho.few
    have H := Lib.hid h
    have HT := Lib.hid hT
    have hcut := fun w => run_all16 w g
    obtain ⟨op, a, b, tos, imm⟩ := x
    clear h hT ho hg0 h78 hp
    go_enter Try.func58, Try.ntmps58
    go_upto_region 1 with (fail)
    obtain ⟨W, hW9⟩ : ∃ W, w.alloc (.cells #[.int .i64 op, .int .i64 a, .int .i64 b, .slice T tos.length k, .int .i32 imm] 26) = W := ⟨_, rfl⟩
    have hb : Below w.heap.size w W := by rw [← hW9]; exact (Below.refl _ _).alloc (Nat.le_refl _) _
    have hsW : Str W w.heap.size 26 [.int .i64 op, .int .i64 a, .int .i64 b, .slice T tos.length k, .int .i32 imm] := by rw [← hW9]; exact World.alloc_heap_new w _
    rw [hW9]
    clear hW9
    have m0 : W.cell? ⟨w.heap.size, 0, none⟩ = some (.int .i64 op) := hsW.cell 0
    have m1 : W.cell? ⟨w.heap.size, 1, none⟩ = some (.int .i64 a) := hsW.cell 1
    have m2 : W.cell? ⟨w.heap.size, 2, none⟩ = some (.int .i64 b) := hsW.cell 2
    have m3 : W.cell? ⟨w.heap.size, 3, none⟩ = some (.slice T tos.length k) := hsW.cell 3
    have m4 : W.cell? ⟨w.heap.size, 4, none⟩ = some (.int .i32 imm) := hsW.cell 4
    have HB := Lib.hid hb
    have HSW := Lib.hid hsW
    clear hb hsW
    obtain ⟨A', c', e, _, _, hall⟩ := HT.out.keep HB.out
    injection e with e1 _ e3
    subst e1 e3
    obtain ⟨ad, rfl, mt⟩ := hall p hpl
    clear hall
    have HN := Lib.hid (show nextQ ⟨op, a, b, tos, imm⟩ q.regs = tos[p] by rw [HN.out, Int.toNat_natCast, List.getD_eq_getElem?_getD, List.getElem?_eq_getElem hpl]; rfl)
    generalize tos[p] = tp at *
    go_upto_region 8 with (fail)
    refine region_heldC_wp (fun w' => w'.cell? ⟨w.heap.size, 0, none⟩ = some (.int .i64 op) ∧ w'.cell? ⟨w.heap.size, 1, none⟩ = some (.int .i64 a) ∧ w'.cell? ⟨w.heap.size, 2, none⟩ = some (.int .i64 b) ∧ w'.cell? ⟨w.heap.size, 3, none⟩ = some (.slice (some ad) tos.length k) ∧ w'.cell? ⟨w.heap.size, 4, none⟩ = some (.int .i32 imm) ∧ w'.cell? (ad.add p) = some (.int .i64 tp)) [0, 1, 2, 3, 4, 5, 6, 8, 9, 10] [0, 1, 2, 3, 4, 5, 6, 7, 8, 9, 10] (by kernel_rfl) (by kernel_rfl) (by kernel_rfl) rfl (by intro c a d v w h; cases d <;> exact h) ⟨m0, m1, m2, m3, m4, mt⟩ ?_
    refine walkC_still _ ?s0 rfl rfl rfl ?sy0 ?_
    case sy0 => intro w hS; obtain ⟨m0, m1, m2, m3, m4, mt⟩ := hS; go_simp; first | done | exact hcut w | with_reducible rfl
    simp only [Act.put]
    try simp only [List.setIfInBounds_toArray, List.set_cons_zero, List.set_cons_succ]
    refine walkC_still _ ?s1 rfl rfl rfl ?sy1 ?_
    case sy1 => intro w hS; obtain ⟨m0, m1, m2, m3, m4, mt⟩ := hS; go_simp; first | done | exact hcut w | with_reducible rfl
    simp only [Act.put]
    try simp only [List.setIfInBounds_toArray, List.set_cons_zero, List.set_cons_succ]
    refine walkC_still _ ?s2 rfl rfl rfl ?sy2 ?_
    case sy2 => intro w hS; obtain ⟨m0, m1, m2, m3, m4, mt⟩ := hS; go_simp; first | done | exact hcut w | with_reducible rfl
    simp only [Act.put]
    try simp only [List.setIfInBounds_toArray, List.set_cons_zero, List.set_cons_succ]
    refine walkC_still _ ?s3 rfl rfl rfl ?sy3 ?_
    case sy3 => intro w hS; obtain ⟨m0, m1, m2, m3, m4, mt⟩ := hS; go_simp; first | done | exact hcut w | with_reducible rfl
    simp only [Act.put]
    try simp only [List.setIfInBounds_toArray, List.set_cons_zero, List.set_cons_succ]
    refine walkC_still _ ?s4 rfl rfl rfl ?sy4 ?_
    case sy4 => intro w hS; obtain ⟨m0, m1, m2, m3, m4, mt⟩ := hS; go_simp; first | done | exact hcut w | with_reducible rfl
    simp only [Act.put]
    try simp only [List.setIfInBounds_toArray, List.set_cons_zero, List.set_cons_succ]
    refine walkC_still _ ?s5 rfl rfl rfl ?sy5 ?_
    case sy5 => intro w hS; obtain ⟨m0, m1, m2, m3, m4, mt⟩ := hS; go_simp; first | done | exact hcut w | with_reducible rfl
    simp only [Act.put]
    try simp only [List.setIfInBounds_toArray, List.set_cons_zero, List.set_cons_succ]
    refine walkC_still _ ?s6 rfl rfl rfl ?sy6 ?_
    case sy6 => intro w hS; obtain ⟨m0, m1, m2, m3, m4, mt⟩ := hS; go_simp; first | done | exact hcut w | with_reducible rfl
    simp only [Act.put]
    try simp only [List.setIfInBounds_toArray, List.set_cons_zero, List.set_cons_succ]
    refine walkC_does _ rfl rfl ?_
    go_wp2_with fail
    have hbd : Below W.heap.size W W.drew := (Below.refl W.heap.size W).drew
    have HBD := Lib.hid (HB.out.trans (hbd.mono HB.out.size))
    refine (HGO.out _ HBD.out).mono ?_
    rintro e' w4 ⟨rfl, h4⟩
    have h4 : Below W.heap.size W w4 := hbd.trans h4
    have HB4 := Lib.hid (HB.out.trans (h4.mono HB.out.size))
    have n0 := cell_keep h4 (Nat.le_refl _) m0
    have n1 := cell_keep h4 (Nat.le_refl _) m1
    have n2 := cell_keep h4 (Nat.le_refl _) m2
    have n3 := cell_keep h4 (Nat.le_refl _) m3
    have n4 := cell_keep h4 (Nat.le_refl _) m4
    have nt := cell_keep h4 (Nat.le_refl _) mt
    clear h4 m0 m1 m2 m3 m4 mt
    go_wp2_with fail
    refine behindC ⟨n0, n1, n2, n3, n4, nt⟩ ?_
    try simp only [List.setIfInBounds_toArray, List.set_cons_zero, List.set_cons_succ]
    refine walkC_still _ ?s8 rfl rfl rfl ?sy8 ?_
    case sy8 => intro w hS; obtain ⟨n0, n1, n2, n3, n4, nt⟩ := hS; go_simp; first | done | exact hcut w | with_reducible rfl
    simp only [Act.put]
    try simp only [List.setIfInBounds_toArray, List.set_cons_zero, List.set_cons_succ]
    refine walkC_still _ ?s9 rfl rfl rfl ?sy9 ?_
    case sy9 => intro w hS; obtain ⟨n0, n1, n2, n3, n4, nt⟩ := hS; go_simp; first | done | exact hcut w | with_reducible rfl
    simp only [Act.put]
    try simp only [List.setIfInBounds_toArray, List.set_cons_zero, List.set_cons_succ]
    refine walkC_still _ ?s10 rfl rfl rfl ?sy10 ?_
    case sy10 => intro w hS; obtain ⟨n0, n1, n2, n3, n4, nt⟩ := hS; go_simp; first | done | exact hcut w | with_reducible rfl
    simp only [Act.put]
    try simp only [List.setIfInBounds_toArray, List.set_cons_zero, List.set_cons_succ]
    refine walkC_nil ?_
    go_wp2_with fail
    go_ret
    have hq := QRun.below H.out HB4.out
    exact ⟨by rw [HN.out]; rfl, by rw [HH.out, HV.out]; exact hq, Chg.of_below HB4.out⟩
end Go.Proofs.Ytdidacjmcafcpaa.Ph
/- Stage 12: any block, as a run does it. -/
namespace Go.Proofs.Ytdidacjmcafcpaa.Ph
open Go.ChangeShapes Go.WideShapes Go.ChangeAt Go.RowKit Go.Proofs.Ytdidacjmcafcpaa.Mem Go.Proofs.Ytdidacjmcafcpaa.Kc Go.Proofs.Ytdidacjmcafcpaa.Br Go.Proofs.Ytdidacjmcafcpaa.Pl Go.Proofs.Ytdidacjmcafcpaa.Mw Go.Proofs.Ytdidacjmcafcpaa.Mc Go.Proofs.Ytdidacjmcafcpaa.Gr
set_option linter.unusedVariables false
set_option linter.unusedSimpArgs false
/-- What a run is when the instructions from one on, and the end, were done; how it ended (0: it has not), and what it is worth; the block that is next. -/
def blkQ (nl : List Int) (max : Int) (f : PEnd) : List PlIn → QSt → QSt × Int × Int × Int
  | [], q => if q.steps < max then (q.tick, howQ f, valQ f q.regs, nextQ f q.regs) else (q, 3, 0, 0)
  | y :: l, q => if q.steps < max then (if trapQ y.i q.tick = 0 then blkQ nl max f l (doQ nl y.i q.tick) else (doQ nl y.i q.tick, 2, trapQ y.i q.tick, 0)) else (q, 3, 0, 0)
theorem blkQ_cut {nl : List Int} {max : Int} {f : PEnd} {l : List PlIn} {q : QSt} {k : Nat} (hk : k < l.length) (h : ¬ q.steps < max) : blkQ nl max f (l.drop k) q = (q, 3, 0, 0) := by
  rw [List.drop_eq_getElem_cons hk]
  exact if_neg h
theorem blkQ_go {nl : List Int} {max : Int} {f : PEnd} {l : List PlIn} {q : QSt} {k : Nat} (hk : k < l.length) (h : q.steps < max) (h2 : trapQ l[k].i q.tick = 0) : blkQ nl max f (l.drop k) q = blkQ nl max f (l.drop (k + 1)) (doQ nl l[k].i q.tick) := by
  rw [List.drop_eq_getElem_cons hk]
  exact (if_pos h).trans (if_pos h2)
theorem blkQ_trap {nl : List Int} {max : Int} {f : PEnd} {l : List PlIn} {q : QSt} {k : Nat} (hk : k < l.length) (h : q.steps < max) (h2 : ¬ trapQ l[k].i q.tick = 0) : blkQ nl max f (l.drop k) q = (doQ nl l[k].i q.tick, 2, trapQ l[k].i q.tick, 0) := by
  rw [List.drop_eq_getElem_cons hk]
  exact (if_pos h).trans (if_neg h2)
theorem blkQ_inv {nl : List Int} {max : Int} {f : PEnd} {sl : Nat} (hn : ∀ x ∈ nl, InW x) (hm : max ≤ 1000000) : ∀ (l : List PlIn) (q : QSt), (∀ y ∈ l, InW y.i.imm) → InvQ sl q → InvQ sl (blkQ nl max f l q).1
  | [], q, _, h => by
    unfold blkQ
    by_cases hc : q.steps < max
    · rw [if_pos hc]; exact h.tick (by omega)
    · rw [if_neg hc]; exact h
  | y :: l, q, hi, h => by
    unfold blkQ
    have hy := hi y (List.mem_cons_self ..)
    by_cases hc : q.steps < max
    · rw [if_pos hc]
      by_cases ht : trapQ y.i q.tick = 0
      · rw [if_pos ht]; exact blkQ_inv hn hm l _ (fun z hz => hi z (List.mem_cons_of_mem _ hz)) (h.next hy hn (by omega))
      · rw [if_neg ht]; exact h.next hy hn (by omega)
    · rw [if_neg hc]; exact h
theorem rstepG_any (w : World) (B g : Nat) (f : QFix) (nl : List Int) (ca : Value) (q : QSt) (h : QRun B g f nl 0 0 ca w q) (hm : InI f.max) (h0 : 0 ≤ q.steps) (h1 : q.steps ≤ 1000000000) :
    Calls Try.prog 56 #[.pointer (some ⟨g, 0, none⟩)] w fun e w' => e = .returned (.bool (decide (q.steps < f.max))) ∧ (q.steps < f.max → QRun B g f nl 0 0 ca w' q.tick) ∧ (¬ q.steps < f.max → QRun B g f nl 3 0 ca w' q) ∧ But g w w' := by
  refine (rstepQ_any w B g (f.run q ca 0 0) h.run hm h0 h1).mono ?_
  rintro e w' ⟨rfl, h2, h3⟩
  refine ⟨rfl, fun hc => ?_, fun hc => ?_, h3⟩
  · rw [show (f.run q ca 0 0).step = f.run q.tick ca 0 0 from if_pos hc] at h2
    exact QRun.put (r := q.regs) (st := q.steps + 1) h h3 h2
  · rw [show (f.run q ca 0 0).step = f.run q ca 3 0 from if_neg hc] at h2
    exact QRun.put (r := q.regs) (st := q.steps) h h3 h2
theorem rendG_any (w : World) (B g : Nat) (f : QFix) (nl : List Int) (ca : Value) (q : QSt) (how val : Int) (h : QRun B g f nl 0 0 ca w q) :
    Calls Try.prog 57 #[.pointer (some ⟨g, 0, none⟩), .int .i64 how, .int .i32 val] w fun e w' => e = .returned (.tuple #[]) ∧ QRun B g f nl how val ca w' q ∧ But g w w' := by
  refine (rend_any w B g (f.run q ca 0 0) how val h.run).mono ?_
  rintro e w' ⟨rfl, h2, h3⟩
  exact ⟨rfl, QRun.put (r := q.regs) (st := q.steps) h h3 h2, h3⟩
theorem call_do (op : Int) (args : Array Value) (w : World) : (callFunc (doFn op) args).run Try.prog w = .ok (.enter (doFn op) args) w := by
  unfold doFn
  by_cases h1 : op = 28
  · rw [if_pos h1]; kernel_rfl
  · rw [if_neg h1]
    by_cases h2 : op = 30
    · rw [if_pos h2]; kernel_rfl
    · rw [if_neg h2]
      by_cases h3 : op = 31
      · rw [if_pos h3]; kernel_rfl
      · rw [if_neg h3]; kernel_rfl
def BlockG (W0 : World) (g : Nat) (f : QFix) (nl : List Int) (R : QSt × Int × Int × Int) (e : Ending) (w' : World) : Prop :=
  ∃ ca', e = .returned (.int .i64 R.2.2.2) ∧ QRun W0.heap.size g f nl R.2.1 R.2.2.1 ca' w' R.1 ∧ Below W0.heap.size W0 w'
theorem QRun.x_ge {B g : Nat} {f : QFix} {nl : List Int} {how val : Int} {ca : Value} {w : World} {q : QSt} (h : QRun B g f nl how val ca w q) (k : Nat) (hk : f.has g k ∨ ca.ownBlock = some k) : B ≤ k := hk.elim (h.has_ge k) (h.ca_ge k)
set_option maxRecDepth 100000 in
set_option maxHeartbeats 4000000 in
theorem blockG_any (W0 w : World) (hb0 : Below W0.heap.size W0 w) (g : Nat) (f : QFix) (nl : List Int) (ca : Value) (q : QSt) (sl blocks : Nat) (hq : QRun W0.heap.size g f nl 0 0 ca w q) (hinv : InvQ sl q) (x : PPB) (p0 p4 : Option Addr) (c0 c4 : Nat)
    (h1 : RowAt W0 9 PlacedAt (.slice p0 x.ins.length c0) x.ins) (h4 : Ints W0 (.slice p4 x.fin.to.length c4) x.fin.to) (hi : ∀ y ∈ x.ins, InsOk sl y.i) (he : EndOk blocks x.fin) (hx : InI f.max ∧ f.max ≤ 1000000) (hnl : nl.length ≤ 1000000 ∧ ∀ z ∈ nl, InW z) (hl : x.ins.length ≤ 100000) :
    Calls Try.prog 44 #[.pointer (some ⟨g, 0, none⟩), .agg #[.slice p0 x.ins.length c0, .int .i64 x.fin.op, .int .i64 x.fin.a, .int .i64 x.fin.b, .slice p4 x.fin.to.length c4, .int .i32 x.fin.imm]] w (BlockG W0 g f nl (blkQ nl f.max x.fin x.ins q)) := by
  have H1 := Lib.hid h1
  have H4 := Lib.hid h4
  have HI := Lib.hid hi
  have HE := Lib.hid he
  have HX := Lib.hid hx
  have HNL := Lib.hid hnl
  have HQ := Lib.hid hq
  have HINV := Lib.hid hinv
  have HB0 := Lib.hid hb0
  obtain ⟨R, hR⟩ : ∃ R, blkQ nl f.max x.fin x.ins q = R := ⟨_, rfl⟩
  have HR := Lib.hid hR
  rw [hR]
  clear hR h1 h4 hi he hx hnl hq hinv hb0
  have hmt := fun (op : Int) (f : Nat) (w : World) => meth_do op f w
  have hcf := fun (op : Int) (args : Array Value) (w : World) => call_do op args w
  go_enter Try.func44, Try.ntmps44
  go_upto_region 1 with (fail)
  obtain ⟨W, hW⟩ : ∃ W, w.alloc (.cells #[.slice p0 x.ins.length c0, .int .i64 x.fin.op, .int .i64 x.fin.a, .int .i64 x.fin.b, .slice p4 x.fin.to.length c4, .int .i32 x.fin.imm] 45) = W := ⟨_, rfl⟩
  have hbW : Below w.heap.size w W := by rw [← hW]; exact (Below.refl _ _).alloc (Nat.le_refl _) _
  have hsW : Str W w.heap.size 45 [.slice p0 x.ins.length c0, .int .i64 x.fin.op, .int .i64 x.fin.a, .int .i64 x.fin.b, .slice p4 x.fin.to.length c4, .int .i32 x.fin.imm] := by rw [← hW]; exact World.alloc_heap_new w _
  rw [hW]
  clear hW
  have m0 : W.cell? ⟨w.heap.size, 0, none⟩ = some (.slice p0 x.ins.length c0) := hsW.cell 0
  have HSW := Lib.hid hsW
  have HQ1 := Lib.hid (QRun.below HQ.out hbW)
  have HBW := Lib.hid (HB0.out.trans (hbW.mono HB0.out.size))
  have hgw : w.heap.size ≠ g := fun e => by have := HQ.out.run.2.2.2.lt; omega
  clear hbW hsW
  go_wp2_with fail
  go_loopw [6, 7, 8, 12] (fun _ _ _ j wr => ∃ k : Nat, k ≤ x.ins.length ∧ j = .int .i64 k ∧ ∃ q' ca', blkQ nl f.max x.fin (x.ins.drop k) q' = R ∧ InvQ sl q' ∧ QRun W0.heap.size g f nl 0 0 ca' wr q' ∧ Below W0.heap.size W0 wr ∧ Str wr w.heap.size 45 [.slice p0 x.ins.length c0, .int .i64 x.fin.op, .int .i64 x.fin.a, .int .i64 x.fin.b, .slice p4 x.fin.to.length c4, .int .i32 x.fin.imm]) (fun _ _ _ j _ => x.ins.length - (intOf j).toNat)
  case atStart => exact ⟨0, Nat.zero_le _, rfl, q, ca, HR.out, HINV.out, HQ1.out, HBW.out, HSW.out⟩
  case round =>
    obtain ⟨k, hk, rfl, q', ca', ht, hv, ha, hb, hbx⟩ := hrel
    have HT := Lib.hid ht
    have HV := Lib.hid hv
    have HA := Lib.hid ha
    have HB := Lib.hid hb
    have HBX := Lib.hid hbx
    have hst0 : 0 ≤ q'.steps := by have := hv.cs; omega
    have hst1 : q'.steps ≤ 1000000000 := by have := hv.st; omega
    clear ht hv ha hb hbx
    by_cases hlt : k < x.ins.length
    · obtain ⟨A', c', b, o, e, q1, q2, q3, q4⟩ := H1.out
      injection e with e1 _ e3
      subst e1 e3
      have e1 := q3 (by omega)
      subst e1
      obtain ⟨Ai, ki, r70, hia⟩ := placed_cells (q4 k hlt)
      have r7 := cell_keep HB.out (Nat.le_refl _) r70
      have hm := PlacedAt.keep HB.out _ _ _ (q4 k hlt)
      obtain ⟨r0, r1, r2, r3, r4, r5, r6, _, r8⟩ := hm
      have HIA := Lib.hid hia
      have HII := Lib.hid (HI.out x.ins[k] (List.getElem_mem _))
      have HCUT := Lib.hid (fun h => blkQ_cut (nl := nl) (max := f.max) (f := x.fin) (q := q') hlt h)
      have HGO := Lib.hid (fun h h2 => blkQ_go (nl := nl) (max := f.max) (f := x.fin) (q := q') hlt h h2)
      have HTRAP := Lib.hid (fun h h2 => blkQ_trap (nl := nl) (max := f.max) (f := x.fin) (q := q') hlt h h2)
      clear q3 q4 hia r70
      generalize x.ins[k] = y at *
      go_upto_region 4 with (fail)
      obtain ⟨W3, hW3⟩ : ∃ W3, wr.alloc (.cells #[.int .i64 y.i.op, .int .i64 y.i.d, .int .i64 y.i.e, .int .i64 y.i.a, .int .i64 y.i.b, .int .i64 y.i.c, .int .i32 y.i.imm, .slice Ai y.i.args.length ki, .int .i64 y.fr] 47) = W3 := ⟨_, rfl⟩
      have hbW3 : Below wr.heap.size wr W3 := by rw [← hW3]; exact (Below.refl _ _).alloc (Nat.le_refl _) _
      have hsW3 : Str W3 wr.heap.size 47 [.int .i64 y.i.op, .int .i64 y.i.d, .int .i64 y.i.e, .int .i64 y.i.a, .int .i64 y.i.b, .int .i64 y.i.c, .int .i32 y.i.imm, .slice Ai y.i.args.length ki, .int .i64 y.fr] := by rw [← hW3]; exact World.alloc_heap_new wr _
      rw [hW3]
      clear hW3
      have HA3 := Lib.hid (QRun.below HA.out hbW3)
      have HB3 := Lib.hid (HB.out.trans (hbW3.mono HB.out.size))
      have HX3 := Lib.hid (HBX.out.below hbW3)
      have HS3 := Lib.hid hsW3
      have hng : wr.heap.size ≠ g := fun e => by have := HA.out.run.2.2.2.lt; omega
      clear hbW3 hsW3 r0 r1 r2 r3 r4 r5 r6 r7 r8
      go_wp2_with fail
      refine (rstepG_any W3 W0.heap.size g f nl ca' q' HA3.out HX.out.1 hst0 hst1).mono ?_
      rintro e' w4 ⟨rfl, ha4, hn4, hb4⟩
      have HB4 := Lib.hid (HB3.out.trans (below_of_but hb4 HA3.out.run.1 HB3.out.size))
      have HX4 := Lib.hid (hb4.str HX3.out hgw)
      have HS4 := Lib.hid (hb4.str HS3.out hng)
      by_cases hc : q'.steps < f.max
      · have hd : decide (q'.steps < f.max) = true := decide_eq_true hc
        have HA4 := Lib.hid (ha4 hc)
        have HC := Lib.hid hc
        have HVT := Lib.hid (InvQ.tick HV.out (by have := HX.out.2; omega))
        have HVN := Lib.hid (InvQ.next (nl := nl) (i := y.i) HV.out HII.out.imm HNL.out.2 (by have := HX.out.2; omega))
        rw [hd]
        clear hd hc ha4 hn4 hb4
        have m0 : w4.cell? ⟨wr.heap.size, 0, none⟩ = some (.int .i64 y.i.op) := HS4.out.cell 0
        have m1 : w4.cell? ⟨wr.heap.size, 1, none⟩ = some (.int .i64 y.i.d) := HS4.out.cell 1
        have m2 : w4.cell? ⟨wr.heap.size, 2, none⟩ = some (.int .i64 y.i.e) := HS4.out.cell 2
        have m3 : w4.cell? ⟨wr.heap.size, 3, none⟩ = some (.int .i64 y.i.a) := HS4.out.cell 3
        have m4 : w4.cell? ⟨wr.heap.size, 4, none⟩ = some (.int .i64 y.i.b) := HS4.out.cell 4
        have m5 : w4.cell? ⟨wr.heap.size, 5, none⟩ = some (.int .i64 y.i.c) := HS4.out.cell 5
        have m6 : w4.cell? ⟨wr.heap.size, 6, none⟩ = some (.int .i32 y.i.imm) := HS4.out.cell 6
        have m7 : w4.cell? ⟨wr.heap.size, 7, none⟩ = some (.slice Ai y.i.args.length ki) := HS4.out.cell 7
        have m8 : w4.cell? ⟨wr.heap.size, 8, none⟩ = some (.int .i64 y.fr) := HS4.out.cell 8
        go_wp2_with fail
        refine region_heldC_wp (fun w' => w'.cell? ⟨wr.heap.size, 0, none⟩ = some (.int .i64 y.i.op) ∧ w'.cell? ⟨wr.heap.size, 1, none⟩ = some (.int .i64 y.i.d) ∧ w'.cell? ⟨wr.heap.size, 2, none⟩ = some (.int .i64 y.i.e) ∧ w'.cell? ⟨wr.heap.size, 3, none⟩ = some (.int .i64 y.i.a) ∧ w'.cell? ⟨wr.heap.size, 4, none⟩ = some (.int .i64 y.i.b) ∧ w'.cell? ⟨wr.heap.size, 5, none⟩ = some (.int .i64 y.i.c) ∧ w'.cell? ⟨wr.heap.size, 6, none⟩ = some (.int .i32 y.i.imm) ∧ w'.cell? ⟨wr.heap.size, 7, none⟩ = some (.slice Ai y.i.args.length ki) ∧ w'.cell? ⟨wr.heap.size, 8, none⟩ = some (.int .i64 y.fr)) [0, 1, 2, 4, 5, 6, 8, 9, 10, 11, 12] [0, 1, 2, 4, 5, 6, 3, 7, 8, 9, 10, 11, 12] (by kernel_rfl) (by kernel_rfl) (by kernel_rfl) rfl (by intro c a d v w h; cases d <;> exact h) ⟨m0, m1, m2, m3, m4, m5, m6, m7, m8⟩ ?_
        refine walkC_still _ ?u0 rfl rfl rfl ?uy0 ?_
        case uy0 => intro w hS; obtain ⟨m0, m1, m2, m3, m4, m5, m6, m7, m8⟩ := hS; go_simp; first | done | with_reducible rfl
        simp only [Act.put]
        try simp only [List.setIfInBounds_toArray, List.set_cons_zero, List.set_cons_succ]
        refine walkC_still _ ?u1 rfl rfl rfl ?uy1 ?_
        case uy1 => intro w hS; obtain ⟨m0, m1, m2, m3, m4, m5, m6, m7, m8⟩ := hS; go_simp; first | done | with_reducible rfl
        simp only [Act.put]
        try simp only [List.setIfInBounds_toArray, List.set_cons_zero, List.set_cons_succ]
        refine walkC_still _ ?u2 rfl rfl rfl ?uy2 ?_
        case uy2 => intro w hS; obtain ⟨m0, m1, m2, m3, m4, m5, m6, m7, m8⟩ := hS; go_simp; first | done | with_reducible rfl
        simp only [Act.put]
        try simp only [List.setIfInBounds_toArray, List.set_cons_zero, List.set_cons_succ]
        refine walkC_still _ ?u4 rfl rfl rfl ?uy4 ?_
        case uy4 => intro w hS; obtain ⟨m0, m1, m2, m3, m4, m5, m6, m7, m8⟩ := hS; go_simp; first | done | with_reducible rfl
        simp only [Act.put]
        try simp only [List.setIfInBounds_toArray, List.set_cons_zero, List.set_cons_succ]
        refine walkC_still _ ?u5 rfl rfl rfl ?uy5 ?_
        case uy5 => intro w hS; obtain ⟨m0, m1, m2, m3, m4, m5, m6, m7, m8⟩ := hS; go_simp; first | done | with_reducible rfl
        simp only [Act.put]
        try simp only [List.setIfInBounds_toArray, List.set_cons_zero, List.set_cons_succ]
        refine walkC_still _ ?u6 rfl rfl rfl ?uy6 ?_
        case uy6 => intro w hS; obtain ⟨m0, m1, m2, m3, m4, m5, m6, m7, m8⟩ := hS; go_simp; first | done | with_reducible rfl
        simp only [Act.put]
        try simp only [List.setIfInBounds_toArray, List.set_cons_zero, List.set_cons_succ]
        refine walkC_does _ rfl rfl ?_
        go_wp2_with fail
        refine (op_any _ _).mono ?_
        rintro e' w5 ⟨rfl, hw5⟩
        have hb5 : Below w4.heap.size w4 w5 := by rw [hw5]; exact (Below.refl _ _).drew
        clear hw5
        have HA5 := Lib.hid (QRun.below HA4.out hb5)
        have HB5 := Lib.hid (HB4.out.trans (hb5.mono HB4.out.size))
        have HX5 := Lib.hid (HX4.out.below hb5)
        have HS5 := Lib.hid (HS4.out.below hb5)
        clear hb5
        go_wp2_with fail
        refine behindC ⟨HS5.out.cell 0, HS5.out.cell 1, HS5.out.cell 2, HS5.out.cell 3, HS5.out.cell 4, HS5.out.cell 5, HS5.out.cell 6, HS5.out.cell 7, HS5.out.cell 8⟩ ?_
        try simp only [List.setIfInBounds_toArray, List.set_cons_zero, List.set_cons_succ]
        refine walkC_does _ rfl rfl ?_
        go_wp2_with fail
        refine (do_any w5 W0.heap.size g f nl 0 0 ca' q'.tick HA5.out y.i Ai ki (HIA.out.keep HB5.out) (by rw [HVT.out.sl]; exact HII.out) (inW_getP HVT.out.ra) (by have := HVT.out.ml; omega) (by have h9 := HVT.out.cs; have h8 := HVT.out.st; omega) HNL.out.1).mono ?_
        rintro e' w6 ⟨ca6, rfl, ha6, hc6, hm6⟩
        have HA6 := Lib.hid ha6
        have HS6 := Lib.hid (hc6.str HS5.out (QRun.not_has HA5.out HS5.out hng (by decide) (by decide)))
        have HX6 := Lib.hid (hc6.str HX5.out (QRun.not_has HA5.out HX5.out hgw (by decide) (by decide)))
        have HB6 := Lib.hid (HB5.out.trans (hc6.below (QRun.x_ge HA5.out) HB5.out.size))
        clear ha6 hc6 hm6
        go_wp2_with fail
        refine behindC ⟨HS6.out.cell 0, HS6.out.cell 1, HS6.out.cell 2, HS6.out.cell 3, HS6.out.cell 4, HS6.out.cell 5, HS6.out.cell 6, HS6.out.cell 7, HS6.out.cell 8⟩ ?_
        try simp only [List.setIfInBounds_toArray, List.set_cons_zero, List.set_cons_succ]
        refine walkC_still _ ?u8 rfl rfl rfl ?uy8 ?_
        case uy8 => intro w hS; go_simp; first | done | with_reducible rfl
        simp only [Act.put]
        try simp only [List.setIfInBounds_toArray, List.set_cons_zero, List.set_cons_succ]
        refine walkC_still _ ?u9 rfl rfl rfl ?uy9 ?_
        case uy9 => intro w hS; go_simp; first | done | with_reducible rfl
        simp only [Act.put]
        try simp only [List.setIfInBounds_toArray, List.set_cons_zero, List.set_cons_succ]
        refine walkC_still _ ?u10 rfl rfl rfl ?uy10 ?_
        case uy10 => intro w hS; go_simp; first | done | with_reducible rfl
        simp only [Act.put]
        try simp only [List.setIfInBounds_toArray, List.set_cons_zero, List.set_cons_succ]
        refine walkC_still _ ?u11 rfl rfl rfl ?uy11 ?_
        case uy11 => intro w hS; go_simp; first | done | with_reducible rfl
        simp only [Act.put]
        try simp only [List.setIfInBounds_toArray, List.set_cons_zero, List.set_cons_succ]
        refine walkC_still _ ?u12 rfl rfl rfl ?uy12 ?_
        case uy12 => intro w hS; go_simp; first | done | with_reducible rfl
        simp only [Act.put]
        try simp only [List.setIfInBounds_toArray, List.set_cons_zero, List.set_cons_succ]
        refine walkC_nil ?_
        by_cases hz : trapQ y.i q'.tick = 0
        · have HN := Lib.hid ((HGO.out HC.out hz).symm.trans HT.out)
          have hz1 : (trapQ y.i q'.tick == 0) = true := beq_iff_eq.2 hz
          rw [hz1]
          clear hz hz1 m0 m1 m2 m3 m4 m5 m6 m7 m8
          go_wp2_with fail
          exact ⟨⟨k + 1, by omega, by go_num, doQ nl y.i q'.tick, ca6, HN.out, HVN.out, HA6.out, HB6.out, HX6.out⟩, by simp [intOf]; omega⟩
        · have HN := Lib.hid ((HTRAP.out HC.out hz).symm.trans HT.out)
          have hz1 : (trapQ y.i q'.tick == 0) = false := beq_eq_false_iff_ne.2 hz
          rw [hz1]
          clear hz hz1 m0 m1 m2 m3 m4 m5 m6 m7 m8
          go_wp2_with fail
          refine (rendG_any w6 W0.heap.size g f nl ca6 _ 2 (trapQ y.i q'.tick) HA6.out).mono ?_
          rintro e' w7 ⟨rfl, ha7, hb7⟩
          have HA7 := Lib.hid ha7
          have HB7 := Lib.hid (HB6.out.trans (below_of_but hb7 HA6.out.run.1 HB6.out.size))
          clear ha7 hb7
          go_wp2_with fail
          go_ret
          rw [← HN.out]
          exact ⟨ca6, rfl, HA7.out, HB7.out⟩
      · have hd : decide (q'.steps < f.max) = false := decide_eq_false hc
        have HA4 := Lib.hid (hn4 hc)
        have HN := Lib.hid ((HCUT.out (by omega)).symm.trans HT.out)
        rw [hd]
        clear hd hc ha4 hn4 hb4
        go_wp2_with fail
        go_ret
        rw [← HN.out]
        exact ⟨ca', rfl, HA4.out, HB4.out⟩
    · obtain rfl : k = x.ins.length := by omega
      have HT := Lib.hid (show blkQ nl f.max x.fin [] q' = R by have h := HT.out; rw [List.drop_length] at h; exact h)
      go_wp2_with fail
      refine (rstepG_any wr W0.heap.size g f nl ca' q' HA.out HX.out.1 hst0 hst1).mono ?_
      rintro e' w4 ⟨rfl, ha4, hn4, hb4⟩
      have HB4 := Lib.hid (HB.out.trans (below_of_but hb4 HA.out.run.1 HB.out.size))
      have HX4 := Lib.hid (hb4.str HBX.out hgw)
      by_cases hc : q'.steps < f.max
      · have hd : decide (q'.steps < f.max) = true := decide_eq_true hc
        have HA4 := Lib.hid (ha4 hc)
        have HN := Lib.hid (show (q'.tick, howQ x.fin, valQ x.fin q'.regs, nextQ x.fin q'.regs) = R by rw [← HT.out]; exact (if_pos hc).symm)
        have HVR := Lib.hid (inW_getP HV.out.ra)
        rw [hd]
        clear hd hc ha4 hn4 hb4
        have m0 : w4.cell? ⟨w.heap.size, 0, none⟩ = some (.slice p0 x.ins.length c0) := HX4.out.cell 0
        have m1 : w4.cell? ⟨w.heap.size, 1, none⟩ = some (.int .i64 x.fin.op) := HX4.out.cell 1
        have m2 : w4.cell? ⟨w.heap.size, 2, none⟩ = some (.int .i64 x.fin.a) := HX4.out.cell 2
        have m3 : w4.cell? ⟨w.heap.size, 3, none⟩ = some (.int .i64 x.fin.b) := HX4.out.cell 3
        have m4 : w4.cell? ⟨w.heap.size, 4, none⟩ = some (.slice p4 x.fin.to.length c4) := HX4.out.cell 4
        have m5 : w4.cell? ⟨w.heap.size, 5, none⟩ = some (.int .i32 x.fin.imm) := HX4.out.cell 5
        go_wp2_with fail
        refine (leaveG_any w4 W0.heap.size g f nl ca' q'.tick blocks HA4.out x.fin p4 c4 (H4.out.keep HB4.out) HE.out HVR.out).mono ?_
        rintro e' w5 ⟨rfl, ha5, hc5⟩
        have HA5 := Lib.hid ha5
        have HB5 := Lib.hid (HB4.out.trans (hc5.below (fun k e => by rw [e]; exact HA4.out.run.1) HB4.out.size))
        clear ha5 hc5 m0 m1 m2 m3 m4 m5
        go_wp2_with fail
        go_ret
        rw [← HN.out]
        exact ⟨ca', rfl, HA5.out, HB5.out⟩
      · have hd : decide (q'.steps < f.max) = false := decide_eq_false hc
        have HA4 := Lib.hid (hn4 hc)
        have HN := Lib.hid (show (q', (3 : Int), (0 : Int), (0 : Int)) = R by rw [← HT.out]; exact (if_neg hc).symm)
        rw [hd]
        clear hd hc ha4 hn4 hb4
        go_wp2_with fail
        go_ret
        rw [← HN.out]
        exact ⟨ca', rfl, HA4.out, HB4.out⟩
end Go.Proofs.Ytdidacjmcafcpaa.Ph
