/- Stage 12: any instruction, plainly and as a run does it. -/
import Derived.Test.YtdidacjmcafcpaaYA
import Derived.Test.YtdidacjmcafcpaaQA
import Derived.Test.YtdidacjmcafcpaaQL
/- Stage 12: a call, as a run does it: it is answered, and registers are spoilt. -/
namespace Go.Proofs.Ytdidacjmcafcpaa.Ph
open Go.ChangeShapes Go.WideShapes Go.ChangeAt Go.RowKit Go.Proofs.Ytdidacjmcafcpaa.Mem Go.Proofs.Ytdidacjmcafcpaa.Kc Go.Proofs.Ytdidacjmcafcpaa.Br Go.Proofs.Ytdidacjmcafcpaa.Pl Go.Proofs.Ytdidacjmcafcpaa.Mw Go.Proofs.Ytdidacjmcafcpaa.Mc Go.Proofs.Ytdidacjmcafcpaa.Gr
set_option linter.unusedVariables false
set_option linter.unusedSimpArgs false
def spR (l : List Int) : Nat → List Int
  | 0 => l
  | 1 => l.set 1 24302
  | 2 => (l.set 1 24302).set 2 24303
  | _ => ((l.set 1 24302).set 2 24303).set 3 24304
def calledQ (nl : List Int) (i : PMach) (q : QSt) : QSt := { q with calls := q.calls ++ [(i.imm, i.args.map (getP q.regs))], regs := setP (spR q.regs 3) i.d (nl.getD q.calls.length 0) }
def CallDoQ (B g : Nat) (f : QFix) (nl : List Int) (how val : Int) (ca : Value) (q q' : QSt) (w : World) (e : Ending) (w' : World) : Prop :=
  ∃ ca', e = .returned (.tuple #[.int .i32 0, .bool true]) ∧ QRun B g f nl how val ca' w' q' ∧ Chg (fun k => f.has g k ∨ ca.ownBlock = some k) w w' ∧ (∀ k, ca'.ownBlock = some k → ca.ownBlock = some k ∨ w.heap.size ≤ k)
theorem chg_ints {B B' g : Nat} {f : QFix} {nl : List Int} {how val : Int} {ca : Value} {w w' : World} {q : QSt} (h : QRun B g f nl how val ca w q) {v : Value} {l : List Int} (hv : OwnInts B' w v l) (hb : But g w w') : OwnInts B' w' v l :=
  own_chg hv (Chg.of_but (X := fun k => k = g) hb rfl) (fun k e1 e2 => Str.not_row h.run.2.2.2 (by decide) hv (by rw [← e2]; exact e1.symm))
set_option maxRecDepth 100000 in
set_option maxHeartbeats 4000000 in
theorem calldo_any (w : World) (B g : Nat) (f : QFix) (nl : List Int) (how val : Int) (ca : Value) (q : QSt) (h : QRun B g f nl how val ca w q) (i : PMach) (A : Option Addr) (k : Nat) (hv : Ints w (.slice A i.args.length k) i.args) (hl : i.args.length ≤ 4) (hin : ∀ z ∈ i.args, 0 ≤ z ∧ z < 16) (hcl : q.calls.length ≤ 1000000) (hnl : nl.length ≤ 1000000) (hd : 0 ≤ i.d ∧ i.d < 16) :
    Calls Try.prog 109 #[.agg #[], .agg #[.int .i64 i.op, .int .i64 i.d, .int .i64 i.e, .int .i64 i.a, .int .i64 i.b, .int .i64 i.c, .int .i32 i.imm, .slice A i.args.length k], .pointer (some ⟨g, 0, none⟩)] w (CallDoQ B g f nl how val ca q (calledQ nl i q) w) := by
  have H := Lib.hid h
  have HV := Lib.hid hv
  have HIN := Lib.hid hin
  obtain ⟨d, hd0⟩ : ∃ d : Nat, i.d = d := ⟨i.d.toNat, by omega⟩
  have hd16 : d < 16 := by omega
  have hrl : q.regs.length = 16 := h.run.2.2.1
  have HD := Lib.hid hd0
  clear h hv hin hd
  go_enter Try.func109, Try.ntmps109
  go_upto_region 1 with (fail)
  rw [hd0]
  obtain ⟨W1, hW1⟩ : ∃ W1, (w.alloc (.cells #[] 86)).alloc (.cells #[.int .i64 i.op, .int .i64 (d : Int), .int .i64 i.e, .int .i64 i.a, .int .i64 i.b, .int .i64 i.c, .int .i32 i.imm, .slice A i.args.length k] 24) = W1 := ⟨_, rfl⟩
  have hbW1 : Below w.heap.size w W1 := by rw [← hW1]; exact ((Below.refl _ _).alloc (Nat.le_refl _) _).alloc (by simp) _
  have hsW0 : Str W1 w.heap.size 86 [] := by rw [← hW1]; exact Str.below (World.alloc_heap_new w _) ((Below.refl _ _).alloc (Nat.le_refl _) _)
  have hsW1 : Str W1 (w.heap.size + 1) 24 [.int .i64 i.op, .int .i64 (d : Int), .int .i64 i.e, .int .i64 i.a, .int .i64 i.b, .int .i64 i.c, .int .i32 i.imm, .slice A i.args.length k] := by
    have h9 := World.alloc_heap_new (w.alloc (.cells #[] 86)) (.cells #[.int .i64 i.op, .int .i64 (d : Int), .int .i64 i.e, .int .i64 i.a, .int .i64 i.b, .int .i64 i.c, .int .i32 i.imm, .slice A i.args.length k] 24)
    rw [hW1] at h9
    simp only [World.size_alloc] at h9
    exact h9
  rw [hW1]
  clear hW1 hd0
  have HS1 := Lib.hid hsW1
  have HS0 := Lib.hid hsW0
  have HB1 := Lib.hid hbW1
  have HR1 := Lib.hid (QRun.below H.out hbW1)
  have m0 : W1.cell? ⟨w.heap.size + 1, 0, none⟩ = some (.int .i64 i.op) := hsW1.cell 0
  have m1 : W1.cell? ⟨w.heap.size + 1, 1, none⟩ = some (.int .i64 (d : Int)) := hsW1.cell 1
  have m2 : W1.cell? ⟨w.heap.size + 1, 2, none⟩ = some (.int .i64 i.e) := hsW1.cell 2
  have m3 : W1.cell? ⟨w.heap.size + 1, 3, none⟩ = some (.int .i64 i.a) := hsW1.cell 3
  have m4 : W1.cell? ⟨w.heap.size + 1, 4, none⟩ = some (.int .i64 i.b) := hsW1.cell 4
  have m5 : W1.cell? ⟨w.heap.size + 1, 5, none⟩ = some (.int .i64 i.c) := hsW1.cell 5
  have m6 : W1.cell? ⟨w.heap.size + 1, 6, none⟩ = some (.int .i32 i.imm) := hsW1.cell 6
  have m7 : W1.cell? ⟨w.heap.size + 1, 7, none⟩ = some (.slice A i.args.length k) := hsW1.cell 7
  have hcm := rcall_any W1 B g f nl how val ca q HR1.out i A k (HV.out.keep hbW1) hl HIN.out hcl hnl
  rw [HD.out] at hcm
  have HCM := Lib.hid hcm
  clear hbW1 hsW1 hsW0 hcm
  go_wp2_with fail
  refine HCM.out.mono ?_
  rintro e w2 ⟨ca2, rfl, hr2, hc2, hm2⟩
  obtain ⟨ans, hans⟩ : ∃ z, nl.getD q.calls.length 0 = z := ⟨_, rfl⟩
  have HANS := Lib.hid hans
  rw [hans]
  have HR2 := Lib.hid hr2
  have HC2 := Lib.hid ((Chg.of_below (X := fun k => f.has g k ∨ ca.ownBlock = some k) HB1.out).trans hc2)
  have HM2 := Lib.hid (fun k e => (hm2 k e).imp id (fun h9 => Nat.le_trans HB1.out.size h9))
  have hng : w.heap.size + 1 ≠ g ∧ w.heap.size ≠ g := by have h9 := H.out.run.2.2.2.lt; omega
  have HS2 := Lib.hid (hc2.str HS1.out (QRun.not_has HR1.out HS1.out hng.1 (by decide) (by decide)))
  have HZ2 := Lib.hid (hc2.str HS0.out (QRun.not_has HR1.out HS0.out hng.2 (by decide) (by decide)))
  clear hr2 hc2 hm2 hans m0 m1 m2 m3 m4 m5 m6 m7
  go_wp2_with fail
  refine (call_spoils w2).mono ?_
  rintro e w3 ⟨v3, rfl, ho3, hb3⟩
  obtain ⟨sA, sc, rfl⟩ := own_form ho3
  have HO3 := Lib.hid ho3
  have HB3 := Lib.hid hb3
  have HR3 := Lib.hid (QRun.below HR2.out hb3)
  have HC3 := Lib.hid (HC2.out.trans (Chg.of_below hb3))
  have HS3 := Lib.hid (HS2.out.below hb3)
  clear ho3 hb3
  go_wp2_with fail
  go_loopw [10, 17] (fun _ j wr => ∃ p : Nat, p ≤ 3 ∧ j = .int .i64 p ∧ QRun B g f nl how val ca2 wr { q with calls := q.calls ++ [(i.imm, i.args.map (getP q.regs))], regs := spR q.regs p } ∧ OwnInts w2.heap.size wr (.slice sA 3 sc) [1, 2, 3] ∧ Chg (fun k => f.has g k ∨ ca.ownBlock = some k) w wr ∧ Str wr (w.heap.size + 1) 24 [.int .i64 i.op, .int .i64 (d : Int), .int .i64 i.e, .int .i64 i.a, .int .i64 i.b, .int .i64 i.c, .int .i32 i.imm, .slice A i.args.length k]) (fun _ j _ => 3 - (intOf j).toNat)
  case atStart => exact ⟨0, Nat.zero_le _, rfl, HR3.out, HO3.out, HC3.out, HS3.out⟩
  case round =>
    obtain ⟨p, hp, rfl, hr, ho, hc, hs⟩ := hrel
    have HR := Lib.hid hr
    have HO := Lib.hid ho
    have HC := Lib.hid hc
    have HS := Lib.hid hs
    have hap := hr.ap
    clear hr ho hc hs
    by_cases hlt : p < 3
    · obtain ⟨A', c', e, _, _, hall⟩ := OwnInts.ints HO.out
      injection e with e1 _ e3
      subst e1 e3
      obtain ⟨ad, rfl, hai⟩ := hall p hlt
      clear hall
      obtain ⟨r, hr⟩ : ∃ r : Nat, p + 1 = r := ⟨_, rfl⟩
      have hr3 : r ≤ 3 := by omega
      have hr1 : [1, 2, 3][p] = (r : Int) := by
        have h3 : p = 0 ∨ p = 1 ∨ p = 2 := by omega
        rcases h3 with rfl | rfl | rfl <;> subst hr <;> rfl
      rw [hr1] at hai
      have HSP := Lib.hid (show spR q.regs (p + 1) = (spR q.regs p).set r (24301 + (r : Int)) by
        have h3 : p = 0 ∨ p = 1 ∨ p = 2 := by omega
        rcases h3 with rfl | rfl | rfl <;> subst hr <;> rfl)
      have mf := HR.out.run.frozen (4 + r)
      have md := HR.out.run.reg_cell r (by omega)
      have HPUT := Lib.hid (PRun.At.reg HR.out.run r (24301 + (r : Int)) (by omega))
      have HHR := Lib.hid hr
      clear hr hr1
      go_wp2_with fail
      have hbt := but_set g (4 + r) (.int .i32 (24301 + (r : Int))) wr
      have hq := QRun.put (r := (spR q.regs p).set r (24301 + (r : Int))) (st := q.steps) HR.out hbt HPUT.out
      exact ⟨⟨p + 1, by omega, by go_num, by rw [HSP.out]; exact hq, chg_ints HR.out HO.out hbt, HC.out.trans (Chg.of_but hbt (Or.inl (Or.inl rfl))), hbt.str HS.out hng.1⟩, by simp [intOf]; omega⟩
    · obtain rfl : p = 3 := by omega
      have m1 : wr.cell? ⟨w.heap.size + 1, 1, none⟩ = some (.int .i64 (d : Int)) := HS.out.cell 1
      have mf := HR.out.run.frozen (4 + d)
      have md := HR.out.run.reg_cell d hd16
      go_upto_region 7 with (fail)
      go_region
      obtain ⟨W5, hW5⟩ : ∃ V, (wr.setCell ⟨g, 4 + d, none⟩ (.int .i32 ans)).drew = V := ⟨_, rfl⟩
      have hbt : But g wr W5 := by rw [← hW5]; exact (but_set _ _ _ _).drew
      have hrn := (PRun.At.reg HR.out.run d ans hd16).below (Below.refl _ _).drew
      rw [hW5] at hrn ⊢
      have HQ := Lib.hid (show QRun B g f nl how val ca2 W5 { q with calls := q.calls ++ [(i.imm, i.args.map (getP q.regs))], regs := (spR q.regs 3).set d ans } from QRun.put (r := (spR q.regs 3).set d ans) (st := q.steps) HR.out hbt hrn)
      have HC5 := Lib.hid (HC.out.trans (Chg.of_but hbt (Or.inl (Or.inl rfl))))
      have HFIN := Lib.hid (show calledQ nl i q = { q with calls := q.calls ++ [(i.imm, i.args.map (getP q.regs))], regs := (spR q.regs 3).set d ans } by
        unfold calledQ setP
        rw [HANS.out, HD.out, if_pos ⟨by omega, by simp [spR, hrl]; omega⟩, Int.toNat_natCast])
      clear hW5 hbt hrn m1 mf md
      go_wp2_with fail
      go_ret2
      exact ⟨ca2, rfl, by rw [HFIN.out]; exact HQ.out, HC5.out, HM2.out⟩
end Go.Proofs.Ytdidacjmcafcpaa.Ph
/- Stage 12: what an instruction and an end do to a run, plainly; a run stays within its bounds. -/
namespace Go.Proofs.Ytdidacjmcafcpaa.Ph
open Go.ChangeShapes Go.WideShapes Go.ChangeAt Go.RowKit Go.Proofs.Ytdidacjmcafcpaa.Mem Go.Proofs.Ytdidacjmcafcpaa.Kc Go.Proofs.Ytdidacjmcafcpaa.Br Go.Proofs.Ytdidacjmcafcpaa.Pl Go.Proofs.Ytdidacjmcafcpaa.Mw Go.Proofs.Ytdidacjmcafcpaa.Mc Go.Proofs.Ytdidacjmcafcpaa.Gr
set_option linter.unusedVariables false
set_option linter.unusedSimpArgs false
/-- What a run is when an instruction was done. -/
def doQ (nl : List Int) (i : PMach) (q : QSt) : QSt :=
  if i.op = 28 then calledQ nl i q else if i.op = 30 then { q with regs := setP q.regs i.d (getP q.slots i.imm) } else if i.op = 31 then { q with slots := setP q.slots i.imm (getP q.regs i.a) }
  else { q with regs := regsM i q.regs q.mem, mem := (fxM i q.regs q.mem).mem }
/-- Its trap; 0: none. -/
def trapQ (i : PMach) (q : QSt) : Int := if i.op = 28 then 0 else if i.op = 30 then 0 else if i.op = 31 then 0 else (fxM i q.regs q.mem).trap
def QSt.tick (q : QSt) : QSt := { q with steps := q.steps + 1 }
/-- An instruction that may be done. -/
structure InsOk (sl : Nat) (i : PMach) : Prop where
  nums : InI i.a ∧ InI i.b ∧ InI i.c ∧ InI i.d ∧ InI i.e
  imm : InW i.imm
  call : i.op = 28 → i.args.length ≤ 4 ∧ (∀ z ∈ i.args, 0 ≤ z ∧ z < 16) ∧ 0 ≤ i.d ∧ i.d < 16
  load : i.op = 30 → (0 ≤ i.d ∧ i.d < 16) ∧ 0 ≤ i.imm ∧ i.imm < sl
  store : i.op = 31 → (0 ≤ i.a ∧ i.a < 16) ∧ 0 ≤ i.imm ∧ i.imm < sl
theorem regsB_all {r : Int} {l : List Int} (h : regsB r l = true) : ∀ z ∈ l, 0 ≤ z ∧ z < r := by
  intro z hz
  unfold regsB at h
  rw [Bool.not_eq_true', List.any_eq_false] at h
  have h2 := h z hz
  unfold badR at h2
  simp at h2
  exact h2
theorem insOk_of {i : PMach} {r : Int} {sl : Nat} (h : insQ i r sl = 0) (hr : r ≤ 16) (hn : InI i.a ∧ InI i.b ∧ InI i.c ∧ InI i.d ∧ InI i.e) (hw : InW i.imm) : InsOk sl i := by
  have h1 : okI i = true := by
    cases ho : okI i with
    | true => rfl
    | false => unfold insQ at h; rw [if_pos ho] at h; cases h
  have h2 : (regsB r (makesL i) && regsB r (takesL i)) = true := by
    cases hb : (regsB r (makesL i) && regsB r (takesL i)) with
    | true => rfl
    | false => unfold insQ at h; rw [if_neg (by rw [h1]; decide), if_pos hb] at h; cases h
  have h3 : ((i.op == 30 || i.op == 31) && (decide (i.imm < 0) || decide ((sl : Int) ≤ i.imm))) = false := by
    cases hb : ((i.op == 30 || i.op == 31) && (decide (i.imm < 0) || decide ((sl : Int) ≤ i.imm))) with
    | false => rfl
    | true => unfold insQ at h; rw [if_neg (by rw [h1]; decide), if_neg (by rw [h2]; decide), if_pos hb] at h; cases h
  simp only [Bool.and_eq_true] at h2
  have hm := regsB_all h2.1
  have ht := regsB_all h2.2
  refine ⟨hn, hw, fun e => ?_, fun e => ?_, fun e => ?_⟩
  · have e1 : makesL i = [i.d] := by unfold makesL makesN; rw [e]; rfl
    have e2 : takesL i = i.args := by unfold takesL; rw [if_pos e]
    rw [e1] at hm
    rw [e2] at ht
    have hd := hm i.d (by simp)
    refine ⟨?_, fun z hz => by have := ht z hz; omega, by omega, by omega⟩
    unfold okI at h1
    simp [e] at h1
    omega
  · have e1 : makesL i = [i.d] := by unfold makesL makesN; rw [e]; rfl
    rw [e1] at hm
    have hd := hm i.d (by simp)
    simp [e] at h3
    omega
  · have e2 : takesL i = [i.a] := by unfold takesL takesN; rw [e]; rfl
    rw [e2] at ht
    have hd := ht i.a (by simp)
    simp [e] at h3
    omega
theorem inW_wrap (n : Int) : InW (wrap32 n) := wrap32_bd n
theorem inW_zero : InW 0 := ⟨by decide, by decide⟩
theorem inW_bit (c : Bool) : InW (bit c) := by cases c <;> exact ⟨by decide, by decide⟩
theorem inW_div {a d : Int} (h : InW a) (hd : 1 ≤ d) : InW (a / d) := by
  obtain ⟨h1, h2⟩ := h
  constructor
  · refine (Int.le_ediv_iff_mul_le (by omega)).2 ?_
    omega
  · have h3 : a / d < 2147483648 := Int.ediv_lt_of_lt_mul (by omega) (by omega)
    omega
theorem inW_bits (op : BinOp) (a b : Int) : InW (bits op .i32 a b) := by
  obtain ⟨n, e⟩ := bits_i32 op a b
  rw [e]; exact inW_wrap n
theorem inW_ite {p : Prop} [Decidable p] {x y : Int} (h : InW x) (k : InW y) : InW (if p then x else y) := by
  by_cases hp : p
  · rw [if_pos hp]; exact h
  · rw [if_neg hp]; exact k
theorem inW_do {op a b : Int} (ha : InW a) : InW (doV op a b) := by
  have h1 : InW (wSar a b) := by
    unfold wSar
    refine inW_div ha ?_
    have : (2 : Int) ^ (b % 32).toNat = ((2 ^ (b % 32).toNat : Nat) : Int) := by simp
    rw [this]
    have := Nat.one_le_two_pow (n := (b % 32).toNat)
    omega
  have h2 : InW (wDiv a b) := by
    unfold wDiv
    exact inW_ite inW_zero (inW_wrap _)
  unfold doV
  exact inW_ite (inW_wrap _) (inW_ite (inW_wrap _) (inW_ite (inW_wrap _) (inW_ite (inW_bits _ _ _) (inW_ite (inW_bits _ _ _) (inW_ite (inW_bits _ _ _) (inW_ite (inW_wrap _) (inW_ite (inW_wrap _) (inW_ite h1 (inW_ite (inW_bit _) (inW_ite (inW_bit _) (inW_ite (inW_bit _) (inW_ite h2 inW_zero))))))))))))
theorem inW_getD {l : List Int} (h : ∀ x ∈ l, InW x) (n : Nat) : InW (l.getD n 0) := by
  rw [List.getD_eq_getElem?_getD]
  rcases Nat.lt_or_ge n l.length with hn | hn
  · rw [List.getElem?_eq_getElem hn]; exact h _ (List.getElem_mem _)
  · rw [List.getElem?_eq_none hn]; exact inW_zero
theorem inW_getP {l : List Int} (h : ∀ x ∈ l, InW x) (r : Int) : InW (getP l r) := by
  unfold getP
  split
  · exact inW_getD h _
  · exact inW_zero
theorem inW_set {l : List Int} (h : ∀ x ∈ l, InW x) (k : Nat) {v : Int} (hv : InW v) : ∀ x ∈ l.set k v, InW x := by
  intro x hx
  rcases List.mem_or_eq_of_mem_set hx with h1 | h1
  · exact h x h1
  · rw [h1]; exact hv
theorem inW_setP {l : List Int} (h : ∀ x ∈ l, InW x) (r : Int) {v : Int} (hv : InW v) : ∀ x ∈ setP l r v, InW x := by
  unfold setP
  split
  · exact inW_set h _ hv
  · exact h
theorem inW_if2 {p : Prop} [Decidable p] {x : Int} (h : InW x) : InW (if p then x else 0) := inW_ite h inW_zero
def FxIn (m : List Int) (f : Fx) : Prop := InW f.x ∧ InW f.y ∧ (∀ x ∈ f.mem, InW x) ∧ f.mem.length = m.length
theorem fx_ite {p : Prop} [Decidable p] {m : List Int} {x y : Fx} (h : FxIn m x) (k : FxIn m y) : FxIn m (if p then x else y) := by
  by_cases hp : p
  · rw [if_pos hp]; exact h
  · rw [if_neg hp]; exact k
theorem inW_fx {op imm a b c : Int} {m : List Int} (hi : InW imm) (ha : InW a) (hb : InW b) (hc : InW c) (hm : ∀ x ∈ m, InW x) : FxIn m (doesF op imm a b c m) := by
  have hr : ∀ o p s, InW p → FxIn m (reckF o p s m) := fun o p s hp => fx_ite ⟨inW_do hp, inW_zero, hm, rfl⟩ ⟨inW_zero, inW_zero, hm, rfl⟩
  have hl : ∀ k, FxIn m (loadF k m) := fun k => fx_ite ⟨inW_ite (inW_getD hm _) inW_zero, inW_zero, hm, rfl⟩ ⟨inW_zero, inW_zero, hm, rfl⟩
  have hs : ∀ k v, InW v → FxIn m (storeF k v m) := fun k v hv => fx_ite ⟨inW_zero, inW_zero, inW_set hm _ hv, List.length_set⟩ ⟨inW_zero, inW_zero, hm, rfl⟩
  unfold doesF
  exact fx_ite ⟨ha, inW_zero, hm, rfl⟩ (fx_ite ⟨hb, ha, hm, rfl⟩ (fx_ite ⟨hi, inW_zero, hm, rfl⟩ (fx_ite ⟨hi, inW_zero, hm, rfl⟩ (fx_ite (hr _ _ _ ha) (fx_ite (hr _ _ _ ha) (fx_ite ⟨inW_wrap _, inW_zero, hm, rfl⟩ (fx_ite (hl _) (fx_ite (hl _) (fx_ite (hs _ _ hb) (fx_ite (hs _ _ hc) (fx_ite ⟨inW_wrap _, inW_wrap _, hm, rfl⟩ ⟨inW_zero, inW_zero, hm, rfl⟩)))))))))))
theorem inW_regsM {i : PMach} {l m : List Int} (hi : InW i.imm) (hl : ∀ x ∈ l, InW x) (hm : ∀ x ∈ m, InW x) : (∀ x ∈ regsM i l m, InW x) ∧ (regsM i l m).length = l.length := by
  have hf := inW_fx (op := i.op) (imm := i.imm) (a := if 1 ≤ takesN i.op then getP l i.a else 0) (b := if 2 ≤ takesN i.op then getP l i.b else 0) (c := if 3 ≤ takesN i.op then getP l i.c else 0) hi (inW_if2 (inW_getP hl _)) (inW_if2 (inW_getP hl _)) (inW_if2 (inW_getP hl _)) hm
  have hf : InW (fxM i l m).x ∧ InW (fxM i l m).y := ⟨hf.1, hf.2.1⟩
  unfold regsM regsF
  split
  · split
    · unfold setsF
      split
      · exact ⟨hl, rfl⟩
      · exact ⟨inW_setP hl _ hf.1, setP_len _ _ _⟩
      · exact ⟨inW_setP (inW_setP hl _ hf.1) _ hf.2, by rw [setP_len, setP_len]⟩
    · exact ⟨hl, rfl⟩
  · exact ⟨hl, rfl⟩
/-- A run within its bounds. -/
structure InvQ (sl : Nat) (q : QSt) : Prop where
  rl : q.regs.length = 16
  ra : ∀ x ∈ q.regs, InW x
  sl : q.slots.length = sl
  sa : ∀ x ∈ q.slots, InW x
  ml : q.mem.length ≤ 4096
  ma : ∀ x ∈ q.mem, InW x
  cs : (q.calls.length : Int) ≤ q.steps
  st : q.steps ≤ 1000000
theorem InvQ.next {sl : Nat} {nl : List Int} {i : PMach} {q : QSt} (h : InvQ sl q) (hi : InW i.imm) (hn : ∀ x ∈ nl, InW x) (hs : q.steps < 1000000) : InvQ sl (doQ nl i q.tick) := by
  have hc := h.cs
  unfold doQ
  split
  · unfold calledQ QSt.tick
    have h1 : ∀ x ∈ spR q.regs 3, InW x := inW_set (inW_set (inW_set h.ra 1 ⟨by decide, by decide⟩) 2 ⟨by decide, by decide⟩) 3 ⟨by decide, by decide⟩
    exact ⟨by show (setP (spR q.regs 3) i.d _).length = 16; rw [setP_len]; simp [spR, h.rl], inW_setP h1 _ (inW_getD hn _), h.sl, h.sa, h.ml, h.ma, by simp; omega, by show q.steps + 1 ≤ 1000000; omega⟩
  · split
    · exact ⟨by show (setP q.regs i.d _).length = 16; rw [setP_len]; exact h.rl, inW_setP h.ra _ (inW_getP h.sa _), h.sl, h.sa, h.ml, h.ma, by show (q.calls.length : Int) ≤ q.steps + 1; omega, by show q.steps + 1 ≤ 1000000; omega⟩
    · split
      · exact ⟨h.rl, h.ra, by show (setP q.slots i.imm _).length = sl; rw [setP_len]; exact h.sl, inW_setP h.sa _ (inW_getP h.ra _), h.ml, h.ma, by show (q.calls.length : Int) ≤ q.steps + 1; omega, by show q.steps + 1 ≤ 1000000; omega⟩
      · have h1 := inW_regsM (i := i) hi h.ra h.ma
        have h2 := inW_fx (op := i.op) (imm := i.imm) (a := if 1 ≤ takesN i.op then getP q.regs i.a else 0) (b := if 2 ≤ takesN i.op then getP q.regs i.b else 0) (c := if 3 ≤ takesN i.op then getP q.regs i.c else 0) hi (inW_if2 (inW_getP h.ra _)) (inW_if2 (inW_getP h.ra _)) (inW_if2 (inW_getP h.ra _)) h.ma
        exact ⟨h1.2.trans h.rl, h1.1, h.sl, h.sa, by show (fxM i q.regs q.mem).mem.length ≤ 4096; have h3 : (fxM i q.regs q.mem).mem.length = q.mem.length := h2.2.2.2; have := h.ml; omega, h2.2.2.1, by show (q.calls.length : Int) ≤ q.steps + 1; omega, by show q.steps + 1 ≤ 1000000; omega⟩
theorem InvQ.tick {sl : Nat} {q : QSt} (h : InvQ sl q) (hs : q.steps < 1000000) : InvQ sl q.tick := ⟨h.rl, h.ra, h.sl, h.sa, h.ml, h.ma, by show (q.calls.length : Int) ≤ q.steps + 1; have := h.cs; omega, by show q.steps + 1 ≤ 1000000; omega⟩
end Go.Proofs.Ytdidacjmcafcpaa.Ph
/- Stage 12: any instruction, as a run does it. -/
namespace Go.Proofs.Ytdidacjmcafcpaa.Ph
open Go.ChangeShapes Go.WideShapes Go.ChangeAt Go.RowKit Go.Proofs.Ytdidacjmcafcpaa.Mem Go.Proofs.Ytdidacjmcafcpaa.Kc Go.Proofs.Ytdidacjmcafcpaa.Br Go.Proofs.Ytdidacjmcafcpaa.Pl Go.Proofs.Ytdidacjmcafcpaa.Mw Go.Proofs.Ytdidacjmcafcpaa.Mc Go.Proofs.Ytdidacjmcafcpaa.Gr
set_option linter.unusedVariables false
set_option linter.unusedSimpArgs false
def doFn (op : Int) : Nat := if op = 28 then 109 else if op = 30 then 112 else if op = 31 then 115 else 103
theorem meth_call (f : Nat) (w : World) : (method (f + 1) 86 (.agg #[]) "jacquard/phys.do").run Try.prog w = .ok (109, .agg #[]) w := by kernel_rfl
theorem meth_load (f : Nat) (w : World) : (method (f + 1) 87 (.agg #[]) "jacquard/phys.do").run Try.prog w = .ok (112, .agg #[]) w := by kernel_rfl
theorem meth_store (f : Nat) (w : World) : (method (f + 1) 88 (.agg #[]) "jacquard/phys.do").run Try.prog w = .ok (115, .agg #[]) w := by kernel_rfl
theorem meth_plain (f : Nat) (w : World) : (method (f + 1) 84 (.agg #[]) "jacquard/phys.do").run Try.prog w = .ok (103, .agg #[]) w := by kernel_rfl
theorem meth_do (op : Int) (f : Nat) (w : World) : (method (f + 1) (kindT op) (.agg #[]) "jacquard/phys.do").run Try.prog w = .ok (doFn op, .agg #[]) w := by
  unfold kindT doFn
  by_cases h1 : op = 28
  · rw [if_pos h1, if_pos h1]; exact meth_call f w
  · rw [if_neg h1, if_neg h1]
    by_cases h2 : op = 30
    · rw [if_pos h2, if_pos h2]; exact meth_load f w
    · rw [if_neg h2, if_neg h2]
      by_cases h3 : op = 31
      · rw [if_pos h3, if_pos h3]; exact meth_store f w
      · rw [if_neg h3, if_neg h3]; exact meth_plain f w
def DoQ (B g : Nat) (f : QFix) (nl : List Int) (how val : Int) (ca : Value) (q : QSt) (i : PMach) (w : World) (e : Ending) (w' : World) : Prop :=
  ∃ ca', e = .returned (.tuple #[.int .i32 (trapQ i q), .bool (trapQ i q == 0)]) ∧ QRun B g f nl how val ca' w' (doQ nl i q) ∧ Chg (fun k => f.has g k ∨ ca.ownBlock = some k) w w' ∧ (∀ k, ca'.ownBlock = some k → ca.ownBlock = some k ∨ w.heap.size ≤ k)
theorem own_none_ne {a b : Option Nat} (h : a = none ∨ a ≠ b) {k : Nat} (h1 : a = some k) (h2 : b = some k) : False := by
  rcases h with h | h
  · rw [h1] at h; cases h
  · exact h (h1.trans h2.symm)
theorem QRun.did {B g : Nat} {f : QFix} {nl : List Int} {how val : Int} {ca : Value} {w w' : World} {q : QSt} (h : QRun B g f nl how val ca w q) (r m : List Int) (h1 : ({ f.run q ca how val with regs := r } : PRun).At B g w') (h2 : OwnWords B w' f.me m) (h3 : Two (some g) f.me.ownBlock w w') :
    QRun B g f nl how val ca w' { q with regs := r, mem := m } ∧ Chg (fun k => f.has g k ∨ ca.ownBlock = some k) w w' := by
  have hc : Chg (fun k => k = g ∨ f.me.ownBlock = some k) w w' := Chg.of_two h3 (Or.inl rfl) (fun k e => Or.inr e)
  refine ⟨⟨h1, h2, own_chg h.sv hc (fun k e1 e2 => ?_), h.ev.chg hc (fun k e => e.imp id Or.inl), h.ap, h.ans.chg hc (fun k e => h.has_ge k (e.imp id Or.inl)), Nat.le_trans h.base hc.size⟩, hc.mono (fun k _ e => Or.inl (e.imp id Or.inl))⟩
  rcases e2 with e2 | e2
  · exact h.sv_ne (by rw [e1, e2])
  · exact own_none_ne h.ap e2 e1
set_option maxRecDepth 100000 in
set_option maxHeartbeats 4000000 in
theorem do_any (w : World) (B g : Nat) (f : QFix) (nl : List Int) (how val : Int) (ca : Value) (q : QSt) (h : QRun B g f nl how val ca w q) (i : PMach) (A : Option Addr) (k : Nat) (hv : Ints w (.slice A i.args.length k) i.args) (ho : InsOk q.slots.length i)
    (hW : ∀ r, InW (getP q.regs r)) (hml : q.mem.length ≤ 1000000) (hcl : q.calls.length ≤ 1000000) (hnl : nl.length ≤ 1000000) :
    Calls Try.prog (doFn i.op) #[.agg #[], .agg #[.int .i64 i.op, .int .i64 i.d, .int .i64 i.e, .int .i64 i.a, .int .i64 i.b, .int .i64 i.c, .int .i32 i.imm, .slice A i.args.length k], .pointer (some ⟨g, 0, none⟩)] w (DoQ B g f nl how val ca q i w) := by
  by_cases h1 : i.op = 28
  · have e1 : doFn i.op = 109 := if_pos h1
    have e2 : trapQ i q = 0 := if_pos h1
    have e3 : doQ nl i q = calledQ nl i q := if_pos h1
    obtain ⟨o1, o2, o3⟩ := ho.call h1
    rw [e1]
    refine (calldo_any w B g f nl how val ca q h i A k hv o1 o2 hcl hnl o3).mono ?_
    rintro e w' ⟨ca', rfl, h2, h3, h4⟩
    exact ⟨ca', by rw [e2]; rfl, by rw [e3]; exact h2, h3, h4⟩
  · by_cases h2 : i.op = 30
    · have e1 : doFn i.op = 112 := (if_neg h1).trans (if_pos h2)
      have e2 : trapQ i q = 0 := (if_neg h1).trans (if_pos h2)
      have e3 : doQ nl i q = { q with regs := setP q.regs i.d (getP q.slots i.imm) } := (if_neg h1).trans (if_pos h2)
      obtain ⟨o1, o2⟩ := ho.load h2
      rw [e1]
      refine (sload_any w B g f nl how val ca q h i A i.args.length k o1 o2).mono ?_
      rintro e w' ⟨rfl, h2, h3⟩
      exact ⟨ca, by rw [e2]; rfl, by rw [e3]; exact h2, Chg.of_but h3 (Or.inl (Or.inl rfl)), fun k e => Or.inl e⟩
    · by_cases h3 : i.op = 31
      · have e1 : doFn i.op = 115 := (if_neg h1).trans ((if_neg h2).trans (if_pos h3))
        have e2 : trapQ i q = 0 := (if_neg h1).trans ((if_neg h2).trans (if_pos h3))
        have e3 : doQ nl i q = { q with slots := setP q.slots i.imm (getP q.regs i.a) } := (if_neg h1).trans ((if_neg h2).trans (if_pos h3))
        obtain ⟨o1, o2⟩ := ho.store h3
        rw [e1]
        refine (sstore_any w B g f nl how val ca q h i A i.args.length k o1 o2).mono ?_
        rintro e w' ⟨rfl, h2, sb, h3, h4⟩
        exact ⟨ca, by rw [e2]; rfl, by rw [e3]; exact h2, Chg.of_but h4 (Or.inl (Or.inr (Or.inr h3))), fun k e => Or.inl e⟩
      · have e1 : doFn i.op = 103 := (if_neg h1).trans ((if_neg h2).trans (if_neg h3))
        have e2 : trapQ i q = (fxM i q.regs q.mem).trap := (if_neg h1).trans ((if_neg h2).trans (if_neg h3))
        have e3 : doQ nl i q = { q with regs := regsM i q.regs q.mem, mem := (fxM i q.regs q.mem).mem } := (if_neg h1).trans ((if_neg h2).trans (if_neg h3))
        rw [e1]
        refine (plainQ_do w B g (f.run q ca how val) i A i.args.length k q.mem h.run h.me hml (Or.inr (fun e => h.me_ne e.symm)) ho.nums ho.imm hW).mono ?_
        rintro e w' ⟨rfl, a1, a2, a3⟩
        have hd := QRun.did h (regsM i q.regs q.mem) (fxM i q.regs q.mem).mem a1 a2 a3
        exact ⟨ca, by rw [e2]; rfl, by rw [e3]; exact hd.1, hd.2, fun k e => Or.inl e⟩
end Go.Proofs.Ytdidacjmcafcpaa.Ph
