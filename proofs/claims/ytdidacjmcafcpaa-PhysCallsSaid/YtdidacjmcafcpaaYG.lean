/- Stage 12: phys.Run of any right code. -/
import Derived.Test.YtdidacjmcafcpaaYF
import Derived.Test.YtdidacjmcafcpaaQP
import Derived.Test.YtdidacjmcafcpaaQL
import Derived.Test.YtdidacjmcafcpaaQS
/- Stage 12: a run of any right code, plainly. -/
namespace Go.Proofs.Ytdidacjmcafcpaa.Ph
open Go.ChangeShapes Go.WideShapes Go.ChangeAt Go.RowKit Go.Proofs.Ytdidacjmcafcpaa.Mem Go.Proofs.Ytdidacjmcafcpaa.Kc Go.Proofs.Ytdidacjmcafcpaa.Br Go.Proofs.Ytdidacjmcafcpaa.Pl Go.Proofs.Ytdidacjmcafcpaa.Mw Go.Proofs.Ytdidacjmcafcpaa.Mc Go.Proofs.Ytdidacjmcafcpaa.Gr
set_option linter.unusedVariables false
set_option linter.unusedSimpArgs false
/-- A run from a block on: what it is in the end, how it ended, what it is worth. -/
def goQ (nl : List Int) (max : Int) (bs : List PPB) : Nat → Nat → QSt → QSt × Int × Int
  | 0, _, q => (q, 0, 0)
  | n + 1, k, q =>
    match bs[k]? with
    | none => (q, 0, 0)
    | some x => if (blkQ nl max x.fin x.ins q).2.1 = 0 then goQ nl max bs n (blkQ nl max x.fin x.ins q).2.2.2.toNat (blkQ nl max x.fin x.ins q).1 else ((blkQ nl max x.fin x.ins q).1, (blkQ nl max x.fin x.ins q).2.1, (blkQ nl max x.fin x.ins q).2.2.1)
theorem goQ_on {nl : List Int} {max : Int} {bs : List PPB} {n k : Nat} {q : QSt} (hk : k < bs.length) (h : (blkQ nl max bs[k].fin bs[k].ins q).2.1 = 0) : goQ nl max bs (n + 1) k q = goQ nl max bs n (blkQ nl max bs[k].fin bs[k].ins q).2.2.2.toNat (blkQ nl max bs[k].fin bs[k].ins q).1 := by
  simp only [goQ, List.getElem?_eq_getElem hk, if_pos h]
theorem goQ_end {nl : List Int} {max : Int} {bs : List PPB} {n k : Nat} {q : QSt} (hk : k < bs.length) (h : ¬ (blkQ nl max bs[k].fin bs[k].ins q).2.1 = 0) : goQ nl max bs (n + 1) k q = ((blkQ nl max bs[k].fin bs[k].ins q).1, (blkQ nl max bs[k].fin bs[k].ins q).2.1, (blkQ nl max bs[k].fin bs[k].ins q).2.2.1) := by
  simp only [goQ, List.getElem?_eq_getElem hk, if_neg h]
theorem doQ_steps (nl : List Int) (i : PMach) (q : QSt) : (doQ nl i q).steps = q.steps := by
  unfold doQ
  by_cases h1 : i.op = 28
  · rw [if_pos h1]; rfl
  · rw [if_neg h1]
    by_cases h2 : i.op = 30
    · rw [if_pos h2]
    · rw [if_neg h2]
      by_cases h3 : i.op = 31
      · rw [if_pos h3]
      · rw [if_neg h3]
theorem nextQ_in {f : PEnd} {blocks : Nat} {l : List Int} (h : EndOk blocks f) (h1 : 1 ≤ blocks) : 0 ≤ nextQ f l ∧ nextQ f l < blocks := by
  unfold nextQ
  by_cases h7 : f.op = 7
  · rw [if_pos h7]; omega
  · rw [if_neg h7]
    by_cases h8 : f.op = 8
    · rw [if_pos h8]; omega
    · rw [if_neg h8]
      have hg := h.goes h7 h8 (getP l f.a) (getP l f.b)
      obtain ⟨p, hp⟩ : ∃ p : Nat, goesF f.op (getP l f.a) (getP l f.b) f.to.length = p := ⟨(goesF f.op (getP l f.a) (getP l f.b) f.to.length).toNat, by omega⟩
      rw [hp] at hg ⊢
      have hpl : p < f.to.length := by omega
      rw [Int.toNat_natCast, List.getD_eq_getElem?_getD, List.getElem?_eq_getElem hpl]
      have ht := h.blk f.to[p] (List.getElem_mem _)
      show 0 ≤ f.to[p] ∧ f.to[p] < (blocks : Int)
      omega
theorem blkQ_facts {nl : List Int} {max : Int} {f : PEnd} {blocks : Nat} (he : EndOk blocks f) (h1 : 1 ≤ blocks) : ∀ (l : List PlIn) (q : QSt), (0 ≤ (blkQ nl max f l q).2.2.2 ∧ (blkQ nl max f l q).2.2.2 < blocks) ∧ q.steps ≤ (blkQ nl max f l q).1.steps ∧ ((blkQ nl max f l q).2.1 = 0 → q.steps < (blkQ nl max f l q).1.steps ∧ (blkQ nl max f l q).1.steps ≤ max)
  | [], q => by
    unfold blkQ
    by_cases hc : q.steps < max
    · rw [if_pos hc]
      exact ⟨nextQ_in he h1, by show q.steps ≤ q.steps + 1; omega, fun _ => ⟨by show q.steps < q.steps + 1; omega, by show q.steps + 1 ≤ max; omega⟩⟩
    · rw [if_neg hc]
      exact ⟨by show (0 : Int) ≤ 0 ∧ (0 : Int) < blocks; omega, Int.le_refl _, fun e => by cases e⟩
  | y :: l, q => by
    unfold blkQ
    by_cases hc : q.steps < max
    · rw [if_pos hc]
      have hs : (doQ nl y.i q.tick).steps = q.steps + 1 := doQ_steps _ _ _
      by_cases ht : trapQ y.i q.tick = 0
      · rw [if_pos ht]
        obtain ⟨a1, a2, a3⟩ := blkQ_facts (nl := nl) (max := max) he h1 l (doQ nl y.i q.tick)
        rw [hs] at a2 a3
        exact ⟨a1, by omega, fun e => ⟨by have := (a3 e).1; omega, (a3 e).2⟩⟩
      · rw [if_neg ht]
        exact ⟨by show (0 : Int) ≤ 0 ∧ (0 : Int) < blocks; omega, by show q.steps ≤ (doQ nl y.i q.tick).steps; omega, fun e => by cases e⟩
    · rw [if_neg hc]
      exact ⟨by show (0 : Int) ≤ 0 ∧ (0 : Int) < blocks; omega, Int.le_refl _, fun e => by cases e⟩
theorem tailQ_all {r sl blocks : Int} {f : PEnd} : ∀ (l : List PlIn) (k : Nat), (tailQ r sl blocks f k l).1 = 0 → (∀ y ∈ l, insQ y.i r sl = 0) ∧ endQ f r blocks = 0
  | [], k, h => ⟨fun y hy => (by cases hy), h⟩
  | x :: l, k, h => by
    unfold tailQ at h
    by_cases hc : insQ x.i r sl = 0
    · rw [if_pos hc] at h
      obtain ⟨a1, a2⟩ := tailQ_all l (k + 1) h
      refine ⟨fun y hy => ?_, a2⟩
      rcases List.mem_cons.1 hy with e | e
      · rw [e]; exact hc
      · exact a1 y e
    · rw [if_neg hc] at h
      exact absurd h hc
theorem firstQ_all {r sl blocks : Int} : ∀ (l : List PPB) (k : Nat), (firstQ r sl blocks k l).1 = 0 → ∀ x ∈ l, (tailQ r sl blocks x.fin 0 x.ins).1 = 0
  | [], k, h => fun x hx => (by cases hx)
  | x :: l, k, h => by
    unfold firstQ at h
    by_cases hc : (tailQ r sl blocks x.fin 0 x.ins).1 = 0
    · rw [if_pos hc] at h
      intro y hy
      rcases List.mem_cons.1 hy with e | e
      · rw [e]; exact hc
      · exact firstQ_all l (k + 1) h y e
    · rw [if_neg hc] at h
      exact absurd h hc
/-- What right code is like. -/
theorem right_facts {params r : Int} {sl : Nat} {bs : List PPB} (h : (funcQ params r sl bs).1 = 0) (hwf : WfQ bs) : (0 ≤ params ∧ params ≤ 4) ∧ (4 ≤ r ∧ r ≤ 16) ∧ sl ≤ 16384 ∧ 1 ≤ bs.length ∧ ∀ x ∈ bs, (∀ y ∈ x.ins, InsOk sl y.i) ∧ EndOk bs.length x.fin := by
  have hl : limQ params r sl bs = 0 := by
    unfold funcQ at h
    by_cases hc : limQ params r sl bs = 0
    · exact hc
    · rw [if_neg hc] at h; exact h
  have hf : (firstQ r sl bs.length 0 bs).1 = 0 := by
    unfold funcQ at h
    rw [if_pos hl] at h; exact h
  unfold limQ at hl
  by_cases h1 : (params < 0 ∨ 4 < params) ∨ (r < 4 ∨ 16 < r) ∨ ((sl : Int) < 0 ∨ 16384 < (sl : Int))
  · rw [if_pos h1] at hl; cases hl
  · rw [if_neg h1] at hl
    by_cases h2 : bs.length = 0
    · rw [if_pos h2] at hl; cases hl
    · refine ⟨by omega, by omega, by omega, by omega, fun x hx => ?_⟩
      have ht := tailQ_all x.ins 0 (firstQ_all bs 0 hf x hx)
      refine ⟨fun y hy => ?_, endOk_of ht.2 (by omega)⟩
      have hw := hwf.ins x hx y hy
      exact insOk_of (ht.1 y hy) (by omega) ⟨hw.2.1, hw.2.2.1, hw.2.2.2.1, hw.2.2.2.2.1, hw.2.2.2.2.2.1⟩ hw.2.2.2.2.2.2
def start_ (params sl : Nat) (al ml : List Int) : QSt := ⟨parQ params al, List.replicate sl 0, ml.take 4096, [], 0⟩
/-- What a run comes to. -/
def runQ (params sl : Nat) (bs : List PPB) (al ml nl : List Int) (lim : Int) : QSt × Int × Int := goQ nl lim bs (lim.toNat + 1) 0 (start_ params sl al ml)
theorem start_inv {params sl : Nat} {al ml : List Int} (hp : params ≤ 4) (ha : ∀ x ∈ al, InW x) (hm : ∀ x ∈ ml, InW x) : InvQ sl (start_ params sl al ml) := by
  refine ⟨?_, ?_, by simp [start_], ?_, by simp [start_]; omega, fun x hx => hm x (List.mem_of_mem_take hx), by simp [start_], by simp [start_]⟩
  · show (parQ params al).length = 16
    unfold parQ
    rw [List.length_append, List.length_replicate, List.length_take]
    omega
  · intro x hx
    have hx : x ∈ parQ params al := hx
    unfold parQ at hx
    rcases List.mem_append.1 hx with h | h
    · exact ha x (List.mem_of_mem_take h)
    · rw [List.eq_of_mem_replicate h]; exact inW_zero
  · intro x hx
    rw [List.eq_of_mem_replicate hx]; exact inW_zero
end Go.Proofs.Ytdidacjmcafcpaa.Ph
/- Stage 12: phys.Run of any right code. -/
namespace Go.Proofs.Ytdidacjmcafcpaa.Ph
open Go.ChangeShapes Go.WideShapes Go.ChangeAt Go.RowKit Go.Proofs.Ytdidacjmcafcpaa.Mem Go.Proofs.Ytdidacjmcafcpaa.Kc Go.Proofs.Ytdidacjmcafcpaa.Pl Go.Proofs.Ytdidacjmcafcpaa.Mw Go.Proofs.Ytdidacjmcafcpaa.Mc Go.Proofs.Ytdidacjmcafcpaa.Br Go.Proofs.Ytdidacjmcafcpaa.Wd Go.Proofs.Ytdidacjmcafcpaa.Gr
set_option linter.unusedVariables false
set_option linter.unusedSimpArgs false
def stM (w : World) (g : Nat) (lim : Int) : Nat := match w.cell? ⟨g, 25, none⟩ with
  | some (.int _ v) => (lim - v).toNat
  | _ => 0
theorem stM_at {w : World} {g : Nat} {lim v : Int} (h : w.cell? ⟨g, 25, none⟩ = some (.int .i64 v)) : stM w g lim = (lim - v).toNat := by unfold stM; rw [h]
theorem EventsAt.box {B R : Nat} {w w' : World} {cs : Value} {l : List (Int × List Int)} {X : Nat → Prop} {t : TypeId} {vs : List Value} (h : EventsAt B w cs l X) (hs : Str w R t vs) (h1 : t ≠ 56) (h2 : t ≠ 21) (hb : But R w w') : EventsAt B w' cs l X := by
  have hc : Chg (fun k => k = R) w w' := Chg.of_but hb rfl
  obtain ⟨es, a1, a2, a3⟩ := h
  refine ⟨es, own_chg a1 hc (fun k e1 e2 => Str.not_row hs h1 a1 (by rw [← e2]; exact e1.symm)), a2, fun k hk => ?_⟩
  obtain ⟨e1, v, e2, e3, e4⟩ := a3 k hk
  exact ⟨e1, v, e2, own_chg e3 hc (fun k d1 d2 => Str.not_row hs h2 e3 (by rw [← d2]; exact d1.symm)), e4⟩
theorem EventsAt.base {B B' : Nat} {w : World} {cs : Value} {l : List (Int × List Int)} {X : Nat → Prop} (h : EventsAt B w cs l X) (hB : B' ≤ B) : EventsAt B' w cs l X := by
  obtain ⟨es, a1, a2, a3⟩ := h
  refine ⟨es, own_base a1 hB, a2, fun k hk => ?_⟩
  obtain ⟨e1, v, e2, e3, e4⟩ := a3 k hk
  exact ⟨e1, v, e2, OwnWords.mono e3 hB, e4⟩
theorem EventsAt.form {B : Nat} {w : World} {cs : Value} {l : List (Int × List Int)} {X : Nat → Prop} (h : EventsAt B w cs l X) : ∃ A c, cs = .slice A l.length c := by
  obtain ⟨es, a1, _⟩ := h
  exact own_form a1
/-- What a run tells. -/
def OutQ (r : QSt × Int × Int) (w : World) (e : Ending) (w' : World) : Prop :=
  ∃ mA mn mc cA ck, e = .returned (.agg #[.int .i64 r.2.1, .int .i32 r.2.2, .slice mA mn mc, .slice cA r.1.calls.length ck, .int .i64 r.1.steps]) ∧ OwnWords w.heap.size w' (.slice mA mn mc) r.1.mem ∧ EventsAt w.heap.size w' (.slice cA r.1.calls.length ck) r.1.calls (fun _ => False) ∧ Below w.heap.size w w'
theorem blkQ_val {nl : List Int} {max : Int} {f : PEnd} : ∀ (l : List PlIn) (q : QSt), (blkQ nl max f l q).2.1 = 0 → (blkQ nl max f l q).2.2.1 = 0
  | [], q => by
    unfold blkQ
    by_cases hc : q.steps < max
    · rw [if_pos hc]
      intro h
      have h : howQ f = 0 := h
      show valQ f q.regs = 0
      unfold howQ at h
      unfold valQ
      by_cases h7 : f.op = 7
      · rw [if_pos h7] at h; cases h
      · rw [if_neg h7] at h ⊢
        by_cases h8 : f.op = 8
        · rw [if_pos h8] at h; cases h
        · rw [if_neg h8]
    · rw [if_neg hc]; exact fun _ => rfl
  | y :: l, q => by
    unfold blkQ
    by_cases hc : q.steps < max
    · rw [if_pos hc]
      by_cases ht : trapQ y.i q.tick = 0
      · rw [if_pos ht]; exact blkQ_val l _
      · rw [if_neg ht]; exact fun e => by cases e
    · rw [if_neg hc]; exact fun _ => rfl
/-- The loop of a run: what holds where a block begins. -/
def LoopQ (B g : Nat) (f : QFix) (nl : List Int) (bs : List PPB) (sl : Nat) (R : QSt × Int × Int) (W0 : World) (k : Nat) (wr : World) : Prop :=
  k < bs.length ∧ ∃ q ca how val fuel, InvQ sl q ∧ QRun B g f nl how val ca wr q ∧ Below B W0 wr ∧ (how = 0 → goQ nl f.max bs fuel k q = R ∧ (f.max - q.steps).toNat < fuel ∧ val = 0) ∧ (how ≠ 0 → R = (q, how, val))
set_option maxRecDepth 100000 in
set_option maxHeartbeats 8000000 in
theorem run_any (w : World) (params sl : Nat) (r : Int) (A : Option Addr) (c : Nat) (bs : List PPB) (hA : PBlocksAt w (.slice A bs.length c) bs) (hwf : WfQ bs) (hok : (funcQ params r sl bs).1 = 0)
    (av mv nv : Value) (lim : Int) (al ml nl : List Int) (ha : WordsAt w av al) (hm : WordsAt w mv ml) (hn : WordsAt w nv nl) (hwa : ∀ x ∈ al, InW x) (hwm : ∀ x ∈ ml, InW x) (hwn : nl.length ≤ 1000000 ∧ ∀ x ∈ nl, InW x) (hx : InI lim ∧ lim ≤ 1000000) :
    Calls Try.prog 23 #[.agg #[.int .i64 params, .int .i64 r, .int .i64 sl, .slice A bs.length c], .agg #[av, mv, nv, .int .i64 lim]] w (OutQ (runQ params sl bs al ml nl lim) w) := by
  obtain ⟨⟨_, hp⟩, hr, hsl, hb1, hbl⟩ := right_facts hok hwf
  have hp : params ≤ 4 := by omega
  have hsl : sl ≤ 1000000 := by omega
  have HA := Lib.hid hA
  have HWF := Lib.hid hwf
  have hfew := hwf.few
  have hfq : ((funcQ params r sl bs).1 == 0) = true := beq_iff_eq.2 hok
  have HAV := Lib.hid ha
  have HMV := Lib.hid hm
  have HNV := Lib.hid hn
  have HWA := Lib.hid hwa
  have HWM := Lib.hid hwm
  have HWN := Lib.hid hwn
  have HX := Lib.hid hx
  have HBL := Lib.hid hbl
  clear hA hwf hok ha hm hn hwa hwm hwn hx hbl hr
  go_enter Try.func23, Try.ntmps23
  go_upto_region 1 with (fail)
  obtain ⟨Wa, hWa⟩ : ∃ Wa, w.alloc (.cells #[.int .i64 params, .int .i64 r, .int .i64 sl, .slice A bs.length c] 51) = Wa := ⟨_, rfl⟩
  have hba : Below w.heap.size w Wa := by rw [← hWa]; exact (Below.refl _ _).alloc (Nat.le_refl _) _
  have hsa : Str Wa w.heap.size 51 [.int .i64 params, .int .i64 r, .int .i64 sl, .slice A bs.length c] := by rw [← hWa]; exact World.alloc_heap_new w _
  have hza : Wa.heap.size = w.heap.size + 1 := by rw [← hWa, World.size_alloc]
  rw [hWa]
  clear hWa
  obtain ⟨Wb, hWb⟩ : ∃ Wb, Wa.alloc (.cells #[av, mv, nv, .int .i64 lim] 53) = Wb := ⟨_, rfl⟩
  have hbb : Below Wa.heap.size Wa Wb := by rw [← hWb]; exact (Below.refl _ _).alloc (Nat.le_refl _) _
  have hsb : Str Wb Wa.heap.size 53 [av, mv, nv, .int .i64 lim] := by rw [← hWb]; exact World.alloc_heap_new Wa _
  have hzb : Wb.heap.size = Wa.heap.size + 1 := by rw [← hWb, World.size_alloc]
  rw [hWb]
  clear hWb
  obtain ⟨W1, hW1⟩ : ∃ W1, Wb.alloc (.cells #[.int .i64 0, .int .i32 0, .slice none 0 0, .slice none 0 0, .int .i64 0] 39) = W1 := ⟨_, rfl⟩
  have hbc : Below Wb.heap.size Wb W1 := by rw [← hW1]; exact (Below.refl _ _).alloc (Nat.le_refl _) _
  have hsc : Str W1 Wb.heap.size 39 [.int .i64 0, .int .i32 0, .slice none 0 0, .slice none 0 0, .int .i64 0] := by rw [← hW1]; exact World.alloc_heap_new Wb _
  rw [hW1]
  clear hW1
  rw [hza] at hsb
  rw [hzb, hza] at hsc
  have HF := Lib.hid ((hsa.below hbb).below hbc)
  have HN := Lib.hid (hsb.below hbc)
  have HR := Lib.hid hsc
  have HB1 := Lib.hid (hba.trans ((hbb.trans (hbc.mono hbb.size)).mono hba.size))
  have m0 := HF.out.cell 0
  have m1 := HF.out.cell 1
  have m2 := HF.out.cell 2
  have m3 := HF.out.cell 3
  simp only [List.getElem?_cons_zero, List.getElem?_cons_succ] at m0 m1 m2 m3
  clear hsa hsb hsc hza hzb hba hbb hbc
  go_wp2_with fail
  refine (rightQ_any W1 params r sl A c bs (HA.out.keep HB1.out) HWF.out).mono ?_
  rintro e w2 ⟨rfl, hb2⟩
  rw [hfq]
  have HB2 := Lib.hid (HB1.out.trans (hb2.mono HB1.out.size))
  have HF2 := Lib.hid (HF.out.below hb2)
  have HN2 := Lib.hid (HN.out.below hb2)
  have HR2 := Lib.hid (HR.out.below hb2)
  clear hb2 m0 m1 m2 m3 HF HN HR
  have z0 := HR2.out.cell 0
  have y0 := HR2.out.frozen 0
  have z1 := HR2.out.cell 1
  have y1 := HR2.out.frozen 1
  have z2 := HR2.out.cell 2
  have y2 := HR2.out.frozen 2
  have z3 := HR2.out.cell 3
  have y3 := HR2.out.frozen 3
  have z4 := HR2.out.cell 4
  have y4 := HR2.out.frozen 4
  simp only [List.getElem?_cons_zero, List.getElem?_cons_succ] at z0 z1 z2 z3 z4
  have m0 := HF2.out.cell 0
  have n0 := HN2.out.cell 0
  have m1 := HF2.out.cell 1
  have n1 := HN2.out.cell 1
  have m2 := HF2.out.cell 2
  have n2 := HN2.out.cell 2
  have m3 := HF2.out.cell 3
  have n3 := HN2.out.cell 3
  simp only [List.getElem?_cons_zero, List.getElem?_cons_succ] at m0 m1 m2 m3 n0 n1 n2 n3
  go_wp2_with fail
  refine (beginQ_any w2 params sl r (.slice A bs.length c) hp hsl av mv nv lim al ml (HAV.out.below HB2.out) (HMV.out.below HB2.out)).mono ?_
  rintro e w3 ⟨g, sv, me, rfl, hat, hsv, hme, hb3, hap⟩
  obtain ⟨mA, mn, mc, rfl⟩ := OwnWords.slice hme
  have HQ3 := Lib.hid (show QRun w2.heap.size g ⟨av, mv, nv, lim, sv, .slice mA mn mc⟩ nl 0 0 (.slice none 0 0) w3 (start_ params sl al ml) from
    ⟨hat, hme, hsv, EventsAt.nil _ _ _, hap, AnsAt.below (AnsAt.of_words (HNV.out.below HB2.out) (Nat.le_refl _)) hb3, hb3.size⟩)
  have HB3 := Lib.hid hb3
  obtain ⟨R, hR⟩ : ∃ R, runQ params sl bs al ml nl lim = R := ⟨_, rfl⟩
  have HR9 := Lib.hid (show goQ nl lim bs (lim.toNat + 1) 0 (start_ params sl al ml) = R from hR)
  have HINV := Lib.hid (start_inv (sl := sl) hp HWA.out HWM.out)
  have HRR := Lib.hid hR
  clear hat hsv hme hb3 hR z0 z1 z2 z3 z4 y0 y1 y2 y3 y4 hfq m0 m1 m2 m3 n0 n1 n2 n3 hap
  go_wp2_with fail
  go_loopw [6] (fun i wr => ∃ k : Nat, i = .int .i64 k ∧ LoopQ w2.heap.size g ⟨av, mv, nv, lim, sv, .slice mA mn mc⟩ nl bs sl R w2 k wr) (fun _ wr => 2 * stM wr g lim + howM wr g)
  case atStart => exact ⟨0, rfl, hb1, start_ params sl al ml, .slice none 0 0, 0, 0, lim.toNat + 1, HINV.out, HQ3.out, HB3.out, fun _ => ⟨HR9.out, by show (lim - 0).toNat < _; omega, rfl⟩, fun e => absurd rfl e⟩
  case round =>
    obtain ⟨k, rfl, hk, q, ca, how, val, fuel, hv, hq, hb, hgo, hend⟩ := hrel
    have HV := Lib.hid hv
    have HQ := Lib.hid hq
    have HB := Lib.hid hb
    have HGO := Lib.hid hgo
    have HEND := Lib.hid hend
    obtain ⟨d3, d20, d21, d22, d23, d24, d25⟩ := hq.run.cells
    have c21 : wr.cell? ⟨g, 21, none⟩ = some (.int .i64 how) := d21
    have HC21 := Lib.hid c21
    have HC25 := Lib.hid (show wr.cell? ⟨g, 25, none⟩ = some (.int .i64 q.steps) from d25)
    clear hv hq hb hgo hend
    by_cases hz : how = 0
    · subst hz
      obtain ⟨hg1, hg2, rfl⟩ := HGO.out rfl
      have hg1 : goQ nl lim bs fuel k q = R := hg1
      have hg2 : (lim - q.steps).toNat < fuel := hg2
      obtain ⟨fu, rfl⟩ : ∃ fu, fuel = fu + 1 := ⟨fuel - 1, by omega⟩
      obtain ⟨A', c', b, o, e, q1, q2, q3, q4⟩ := HA.out.keep HB2.out
      injection e with e1 _ e3
      subst e1 e3
      have e1 := q3 (by omega)
      subst e1
      obtain ⟨p0, c0, p4, c4, r0, r1, r2, r3, r4, r5, g1, g5⟩ := pblock_rows (q4 k hk)
      have hbk := HBL.out bs[k] (List.getElem_mem _)
      have hsz := HWF.out.sizes bs[k] (List.getElem_mem _)
      have hon := fun h => goQ_on (nl := nl) (max := lim) (bs := bs) (n := fu) (q := q) hk h
      have hof := fun h => goQ_end (nl := nl) (max := lim) (bs := bs) (n := fu) (q := q) hk h
      have hfc := blkQ_facts (nl := nl) (max := lim) hbk.2 hb1 bs[k].ins q
      have hvl := blkQ_val (nl := nl) (max := lim) (f := bs[k].fin) bs[k].ins q
      have hiv := blkQ_inv (nl := nl) (max := lim) (f := bs[k].fin) HWN.out.2 HX.out.2 bs[k].ins q (fun y hy => (hbk.1 y hy).imm) HV.out
      have hbg := blockG_any w2 wr HB.out g ⟨av, mv, nv, lim, sv, .slice mA mn mc⟩ nl ca q sl bs.length HQ.out HV.out bs[k] p0 p4 c0 c4 g1 g5 hbk.1 hbk.2 HX.out HWN.out hsz.1
      have r0 := cell_keep HB.out (Nat.le_refl _) r0
      have r1 := cell_keep HB.out (Nat.le_refl _) r1
      have r2 := cell_keep HB.out (Nat.le_refl _) r2
      have r3 := cell_keep HB.out (Nat.le_refl _) r3
      have r4 := cell_keep HB.out (Nat.le_refl _) r4
      have r5 := cell_keep HB.out (Nat.le_refl _) r5
      have f3 := (HF2.out.below HB.out).cell 3
      simp only [List.getElem?_cons_zero, List.getElem?_cons_succ] at f3
      obtain ⟨⟨q9, how9, val9, at9⟩, hq9⟩ : ∃ p, blkQ nl lim bs[k].fin bs[k].ins q = p := ⟨_, rfl⟩
      rw [hq9] at hon hof hfc hiv hvl
      have hbg : Calls Try.prog 44 #[.pointer (some ⟨g, 0, none⟩), .agg #[.slice p0 bs[k].ins.length c0, .int .i64 bs[k].fin.op, .int .i64 bs[k].fin.a, .int .i64 bs[k].fin.b, .slice p4 bs[k].fin.to.length c4, .int .i32 bs[k].fin.imm]] wr (BlockG w2 g ⟨av, mv, nv, lim, sv, .slice mA mn mc⟩ nl (q9, how9, val9, at9)) := by rw [← hq9]; exact hbg
      have HON := Lib.hid hon
      have HOF := Lib.hid hof
      have HFC := Lib.hid hfc
      have HIV := Lib.hid hiv
      have HVL := Lib.hid hvl
      have HBG := Lib.hid hbg
      have HG1 := Lib.hid hg1
      have HG2 := Lib.hid hg2
      clear hon hof hfc hiv hvl hbg hg1 hg2 hbk hsz q3 q4 g1 g5 hq9 d3 d20 d21 d22 d23 d24 d25
      generalize bs[k] = x at *
      go_wp2_with fail
      refine HBG.out.mono ?_
      rintro e w4 ⟨ca4, rfl, hq4, hb4⟩
      have HQ4 := Lib.hid hq4
      have HB4 := Lib.hid hb4
      have HL4 := Lib.hid (show ∃ k' : Nat, Value.int .i64 at9 = .int .i64 k' ∧ LoopQ w2.heap.size g ⟨av, mv, nv, lim, sv, .slice mA mn mc⟩ nl bs sl R w2 k' w4 by
        have h1 : 0 ≤ at9 ∧ at9 < bs.length := HFC.out.1
        refine ⟨at9.toNat, by rw [Int.toNat_of_nonneg h1.1], by omega, q9, ca4, how9, val9, fu, HIV.out, hq4, hb4, fun e => ?_, fun e => ?_⟩
        · have h3 := HFC.out.2.2 e
          have h3 : q.steps < q9.steps ∧ q9.steps ≤ lim := h3
          refine ⟨(HON.out e).symm.trans HG1.out, ?_, HVL.out e⟩
          show (lim - q9.steps).toNat < fu
          have := HG2.out
          omega
        · exact HG1.out.symm.trans (HOF.out e))
      have HM4 := Lib.hid (show 2 * stM w4 g lim + howM w4 g < 2 * stM wr g lim + howM wr g by
        obtain ⟨t3, t20, t21, t22, t23, t24, t25⟩ := hq4.run.cells
        rw [stM_at (lim := lim) HC25.out, howM_one HC21.out, stM_at (lim := lim) (v := q9.steps) t25]
        by_cases e : how9 = 0
        · have h3 : q.steps < q9.steps ∧ q9.steps ≤ lim := HFC.out.2.2 e
          subst e
          rw [howM_one t21]
          omega
        · have h3 : q.steps ≤ q9.steps := HFC.out.2.1
          rw [howM_zero t21 e]
          omega)
      clear hq4 hb4 r0 r1 r2 r3 r4 r5 f3 c21
      go_wp2_with fail
      exact ⟨HL4.out, HM4.out⟩
    · obtain rfl := HEND.out hz
      obtain ⟨cA, ck, rfl⟩ := HQ.out.ev.form
      have c22 : wr.cell? ⟨g, 22, none⟩ = some (.int .i32 val) := d22
      have c23 : wr.cell? ⟨g, 23, none⟩ = some (.slice mA mn mc) := d23
      have c24 : wr.cell? ⟨g, 24, none⟩ = some (.slice cA q.calls.length ck) := d24
      have c25 : wr.cell? ⟨g, 25, none⟩ = some (.int .i64 q.steps) := d25
      have hz : (how == 0) = false := beq_eq_false_iff_ne.2 hz
      have HRR3 := Lib.hid (HR2.out.below HB.out)
      have z0 := HRR3.out.cell 0
      have y0 := HRR3.out.frozen 0
      have z1 := HRR3.out.cell 1
      have y1 := HRR3.out.frozen 1
      have z2 := HRR3.out.cell 2
      have y2 := HRR3.out.frozen 2
      have z3 := HRR3.out.cell 3
      have y3 := HRR3.out.frozen 3
      have z4 := HRR3.out.cell 4
      have y4 := HRR3.out.frozen 4
      simp only [List.getElem?_cons_zero, List.getElem?_cons_succ] at z0 z1 z2 z3 z4
      have HBR := Lib.hid (HB2.out.trans (HB.out.mono HB2.out.size))
      have HEE := Lib.hid (fun a b c d e => five_butQ (w.heap.size + 1 + 1) wr a b c d e)
      have HMQ := Lib.hid HQ.out.me
      have HEQ := Lib.hid HQ.out.ev
      clear d3 d20 d21 d22 d23 d24 d25
      go_wp2_with fail
      refine ⟨rfl, .agg #[.int .i64 how, .int .i32 val, .slice mA mn mc, .slice cA q.calls.length ck, .int .i64 q.steps], ?_, ?_⟩
      · simp only [results]
        go_simp
      · rw [HRR.out]
        have hbt := HEE.out (.int .i64 how) (.int .i32 val) (.slice mA mn mc) (.slice cA q.calls.length ck) (.int .i64 q.steps)
        refine ⟨mA, mn, mc, cA, ck, rfl, ?_, ?_, HBR.out.trans (below_of_but hbt (by omega) HBR.out.size)⟩
        · exact OwnWords.mono (OwnWords.but HMQ.out hbt (fun e => Str.not_row HRR3.out (by decide) HMQ.out e.symm)) HB2.out.size
        · exact ((HEQ.out.box HRR3.out (by decide) (by decide) hbt).weak (fun _ _ e => e.elim)).base HB2.out.size
end Go.Proofs.Ytdidacjmcafcpaa.Ph
