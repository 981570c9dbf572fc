/- check's inOrder, by what any function values do that never give up; what they may change are some blocks of the caller's own. -/
import Derived.Test.YtdfehpcbcgbidaaKD
namespace Go.Proofs.Ytdfehpcbcgbidaa.Kc
open Go.ChangeShapes Go.WideShapes Go.ChangeAt Go.RowKit Go.Maps Go.Proofs.Ytdfehpcbcgbidaa.Mem Go.Proofs.Ytdfehpcbcgbidaa.Br
set_option linter.unusedVariables false
/-- All but the blocks Z is as it was. -/
structure ButZ (Z : Nat → Prop) (w w' : World) : Prop where
  os : w'.os = w.os
  tape : w'.tape = w.tape
  output : w'.output = w.output
  size : w.heap.size ≤ w'.heap.size
  block : ∀ k, k < w.heap.size → ¬ Z k → w'.heap[k]? = w.heap[k]?
section
variable {Z : Nat → Prop} {w w' a b c : World}
theorem ButZ.refl (Z : Nat → Prop) (w : World) : ButZ Z w w := ⟨rfl, rfl, rfl, Nat.le_refl _, fun _ _ _ => rfl⟩
theorem ButZ.of_below (h : Below w.heap.size w w') : ButZ Z w w' := ⟨h.os, h.tape, h.output, h.size, fun k hk _ => h.block k hk⟩
theorem ButZ.trans (h : ButZ Z a b) (k : ButZ Z b c) : ButZ Z a c :=
  ⟨k.os.trans h.os, k.tape.trans h.tape, k.output.trans h.output, Nat.le_trans h.size k.size, fun i hi hn => (k.block i (Nat.lt_of_lt_of_le hi h.size) hn).trans (h.block i hi hn)⟩
theorem ButZ.of_grown {m : Nat} (h : a.grownBy b (some m)) (hm : Z m) : ButZ Z a b := ⟨h.os, h.tape, h.output, h.size, fun k hk hn => h.block k hk (fun e => hn (Option.some.inj e ▸ hm))⟩
theorem ButZ.drew (h : ButZ Z a b) : ButZ Z a b.drew := ⟨h.os, h.tape, h.output, h.size, h.block⟩
theorem ButZ.drewN (h : ButZ Z a b) (n : Nat) : ButZ Z a (b.drewN n) := ⟨h.os, h.tape, h.output, h.size, h.block⟩
theorem ButZ.set (h : ButZ Z a b) {p : Addr} (hp : Z p.block) (u : Value) : ButZ Z a (b.setCell p u) :=
  h.trans (ButZ.of_grown (setCell_grownBy b p u) hp)
theorem ButZ.below {B : Nat} (h : ButZ Z a b) (hB : ∀ g, Z g → B ≤ g ∧ g < c.heap.size) (hs : B ≤ a.heap.size) : Below B a b := ⟨h.os, h.tape, h.output, h.size, fun k hk => h.block k (Nat.lt_of_lt_of_le hk hs) (fun hz => by have := hB _ hz; omega)⟩
theorem ButZ.cell (h : ButZ Z a b) {p : Addr} {v : Value} (hc : a.cell? p = some v) (hn : ¬ Z p.block) : b.cell? p = some v := by
  rw [World.cell?_of_block (h.block _ (lt_of_cell hc) hn)]; exact hc
theorem ButZ.str (h : ButZ Z a b) {x : Nat} {t : TypeId} {vs : List Value} (hc : Str a x t vs) (hn : ¬ Z x) : Str b x t vs := (h.block x hc.lt hn).trans hc
theorem ButZ.mono {Y : Nat → Prop} (h : ButZ Z a b) (hy : ∀ g, Z g → Y g) : ButZ Y a b := ⟨h.os, h.tape, h.output, h.size, fun k hk hn => h.block k hk (fun hz => hn (hy k hz))⟩
end
/-- How a step ends that may give up; all but some blocks is as it was. -/
def EndsZ {σ : Type} (Z : Nat → Prop) (R : Except Fault σ) (I : σ → World → Prop) (w : World) (en : Ending) (w' : World) : Prop :=
  match R with
  | .error f => en = .panicked [{ v := denied f.1 f.2.1 f.2.2, recovered := false }] ∧ ButZ Z w w'
  | .ok s => en = .returned (.tuple #[]) ∧ ButZ Z w w' ∧ I s w'
/-- What the three function values do. -/
structure Cbz {σ : Type} (F1 F2 F3 : Nat) (C1 C2 C3 : Array Value) (Z : Nat → Prop) (L : Looks σ) (bs : List PBlock) (w0 W : World) (I : Nat → σ → World → Prop) : Prop where
  enter : ∀ F, F = F1 ∨ F = F2 ∨ F = F3 → ∀ (args : Array Value) (w : World), (callFunc F args).run Try.prog w = .ok (.enter F args) w
  keep : ∀ k s w w', I k s w → Below w.heap.size w w' → I k s w'
  phi : ∀ k s w a n (ha : a < bs.length) (hn : n < bs[a].phis.length) A c, Below w0.heap.size w0 w → W.heap.size ≤ w.heap.size → I k s w → k < uptoP bs bs.length → RowAt w0 2 InAt (.slice A bs[a].phis[n].ins.length c) bs[a].phis[n].ins →
    Calls Try.prog F1 (#[.agg #[.int .i64 (a : Int), .int .i64 (-1 - (n : Int))], .agg #[.int .i64 bs[a].phis[n].dst, .slice A bs[a].phis[n].ins.length c]] ++ C1) w (EndsZ Z (L.phi a (-1 - (n : Int)) bs[a].phis[n] s) (fun s' w' => I (k + 1) s' w') w)
  ins : ∀ k s w a n (ha : a < bs.length) (hn : n < bs[a].ins.length) A c, Below w0.heap.size w0 w → W.heap.size ≤ w.heap.size → I k s w → k < uptoP bs bs.length → Ints w0 (.slice A bs[a].ins[n].args.length c) bs[a].ins[n].args →
    Calls Try.prog F2 (#[.agg #[.int .i64 (a : Int), .int .i64 (n : Int)], .agg #[.int .i64 bs[a].ins[n].op, .int .i64 bs[a].ins[n].dst, .int .i64 bs[a].ins[n].two, .slice A bs[a].ins[n].args.length c, .int .i32 bs[a].ins[n].imm]] ++ C2) w
      (EndsZ Z (L.ins a n bs[a].ins[n] s) (fun s' w' => I (k + 1) s' w') w)
  term : ∀ k s w a (ha : a < bs.length) A c T cT, Below w0.heap.size w0 w → W.heap.size ≤ w.heap.size → I k s w → k < uptoP bs bs.length → Ints w0 (.slice A bs[a].term.args.length c) bs[a].term.args → Ints w0 (.slice T bs[a].term.to.length cT) bs[a].term.to →
    Calls Try.prog F3 (#[.agg #[.int .i64 (a : Int), .int .i64 (bs[a].ins.length : Int)], .agg #[.int .i64 bs[a].term.kind, .slice A bs[a].term.args.length c, .slice T bs[a].term.to.length cT, .int .i32 bs[a].term.imm]] ++ C3) w
      (EndsZ Z (L.term a bs[a].ins.length bs[a].term s) (fun s' w' => I (k + 1) s' w') w)
set_option maxRecDepth 100000 in
set_option maxHeartbeats 8000000 in
theorem inOrderZ {σ : Type} (F1 F2 F3 : Nat) (C1 C2 C3 : Array Value) (m : Nat → Prop) (L : Looks σ) (bs : List PBlock) (I : Nat → σ → World → Prop) (w0 w : World) (params : Int) (A : Option Addr) (c : Nat) (s0 : σ) (hC : Cbz F1 F2 F3 C1 C2 C3 m L bs w0 w I) (hbs : BlocksAt w0 (.slice A bs.length c) bs)
    (hb0 : Below w0.heap.size w0 w) (hm : ∀ g, m g → w0.heap.size ≤ g ∧ g < w.heap.size) (hI0 : I 0 s0 w) :
    Calls Try.prog 21 #[.agg #[.int .i64 params, .slice A bs.length c], .func (.func F1) #[] C1, .func (.func F2) #[] C2, .func (.func F3) #[] C3] w
      (EndsZ m (overE L bs s0) (fun s w' => I (uptoP bs bs.length) s w') w) := by
  have HC := Lib.hid hC
  have HBS := Lib.hid hbs
  have HB0 := Lib.hid hb0
  have HI0 := Lib.hid hI0
  have hbl : bs.length ≤ maxLen := by
    obtain ⟨A', c', b, o, e, h1, h2, _⟩ := hbs
    exact Nat.le_trans h1 h2
  unfold maxLen at hbl
  have HOV := Lib.hid (show seqE (blockE L) 0 bs s0 = overE L bs s0 from rfl)
  generalize overE L bs s0 = R at *
  clear hC hbs hb0 hI0
  go_enter Try.func21, Try.ntmps21
  go_upto_region 1 with (fail)
  obtain ⟨W, hW⟩ : ∃ W, w.alloc (.cells #[.int .i64 params, .slice A bs.length c] 24) = W := ⟨_, rfl⟩
  rw [hW]
  have hbW : Below w.heap.size w W := by rw [← hW]; exact (Below.refl _ _).alloc (Nat.le_refl _) _
  have hsW : Str W w.heap.size 24 [.int .i64 params, .slice A bs.length c] := by rw [← hW]; exact World.alloc_heap_new w _
  have k1 : W.cell? ⟨w.heap.size, 1, none⟩ = some (.slice A bs.length c) := hsW.cell 1
  have HBW := Lib.hid hbW
  clear hW hbW hsW
  go_wp2_with fail
  go_loopw [17] (fun i wr => ∃ (b : Nat) (s : σ), b ≤ bs.length ∧ i = .int .i64 b ∧ ButZ m w wr ∧ I (uptoP bs b) s wr ∧ seqE (blockE L) b (bs.drop b) s = R) (fun i _ => bs.length - (intOf i).toNat)
  case atStart => exact ⟨0, s0, by omega, rfl, ButZ.of_below HBW.out, by rw [uptoP_zero]; exact HC.out.keep _ _ _ _ HI0.out HBW.out, by rw [List.drop_zero]; exact HOV.out⟩
  case round =>
    obtain ⟨b, s, hk, rfl, hbt, hi, hsq⟩ := hrel
    obtain ⟨wo, rfl⟩ : ∃ wo : World, wo = wr := ⟨_, rfl⟩
    have HBT := Lib.hid hbt
    have HI := Lib.hid hi
    have HSQ := Lib.hid hsq
    clear hbt hi hsq
    by_cases hlt : b < bs.length
    · have HW0 := Lib.hid (HB0.out.trans (HBT.out.below hm HB0.out.size))
      obtain ⟨A', c', bB, oB, e, j1, j2, j3, j4⟩ := HBS.out
      injection e with e1 _ e3
      subst e1 e3
      have e1 := j3 (by omega)
      subst e1
      obtain ⟨p0, c0, p1, c1, p3, c3, p4, c4, r0, r1, r2, r3, r4, r5, q0, q1, q3, q4⟩ := block_rows (j4 b hlt)
      have hsz := size_in hlt
      have q0l : bs[b].phis.length ≤ maxLen := by obtain ⟨_, _, _, _, _, u1, u2, _⟩ := q0; exact Nat.le_trans u1 u2
      have q1l : bs[b].ins.length ≤ maxLen := by obtain ⟨_, _, _, _, _, u1, u2, _⟩ := q1; exact Nat.le_trans u1 u2
      unfold maxLen at q0l q1l j2
      have HUS := Lib.hid (uptoP_succ hlt)
      have HR := Lib.hid ((show bindE (fun s1 => bindE (fun s2 => bindE (seqE (blockE L) (b + 1) (bs.drop (b + 1))) (L.term b bs[b].ins.length bs[b].term s2)) (seqE (fun n i => L.ins b n i) 0 bs[b].ins s1)) (seqE (fun n p => L.phi b (-1 - (n : Int)) p) 0 bs[b].phis s) = R by
        rw [← HSQ.out, seqE_bind hlt, blockE_bind, bind_assoc]; congr 1; funext s1; rw [bind_assoc]))
      have HCP := Lib.hid (fun k s w n hn A c h1 h2 h3 h4 h5 => HC.out.phi k s w b n hlt hn A c h1 h2 h3 h4 h5)
      have HCI := Lib.hid (fun k s w n hn A c h1 h2 h3 h4 h5 => HC.out.ins k s w b n hlt hn A c h1 h2 h3 h4 h5)
      have HCT := Lib.hid (fun k s w A c T cT h1 h2 h3 h4 h5 h6 => HC.out.term k s w b hlt A c T cT h1 h2 h3 h4 h5 h6)
      have r0' := cell_keep HW0.out (Nat.le_refl _) r0
      have r1' := cell_keep HW0.out (Nat.le_refl _) r1
      have r2' := cell_keep HW0.out (Nat.le_refl _) r2
      have r3' := cell_keep HW0.out (Nat.le_refl _) r3
      have r4' := cell_keep HW0.out (Nat.le_refl _) r4
      have r5' := cell_keep HW0.out (Nat.le_refl _) r5
      have HQ0 := Lib.hid q0
      have HQ1 := Lib.hid q1
      have HQ3 := Lib.hid q3
      have HQ4 := Lib.hid q4
      have k1' := cell_keep HW0.out (Nat.le_refl _) r0
      clear r0 r1 r2 r3 r4 r5 q0 q1 q3 q4 j3 j4 k1'
      unfold sizeP at HUS
      generalize bs[b].phis = phis at *
      generalize bs[b].ins = inss at *
      generalize bs[b].term = tm at *
      have hwm : ¬ m wo.heap.size := fun hz => by have := HBT.out.size; have := hm _ hz; omega
      have hwo := HBT.out.size
      have hw00 := HB0.out.size
      go_wp2_with fail
      obtain ⟨W1, hW1⟩ : ∃ W1, wo.alloc (.cells #[.slice p0 phis.length c0, .slice p1 inss.length c1, .int .i64 tm.kind, .slice p3 tm.args.length c3, .slice p4 tm.to.length c4, .int .i32 tm.imm] 34) = W1 := ⟨_, rfl⟩
      rw [hW1]
      have hb1 : Below wo.heap.size wo W1 := by rw [← hW1]; exact (Below.refl _ _).alloc (Nat.le_refl _) _
      have hs1 : Str W1 wo.heap.size 34 [.slice p0 phis.length c0, .slice p1 inss.length c1, .int .i64 tm.kind, .slice p3 tm.args.length c3, .slice p4 tm.to.length c4, .int .i32 tm.imm] := by rw [← hW1]; exact World.alloc_heap_new wo _
      clear hW1 r0' r1' r2' r3' r4' r5'
      have HT1 := Lib.hid (HBT.out.trans (ButZ.of_below hb1))
      have HS1 := Lib.hid hs1
      have HI1 := Lib.hid (HC.out.keep _ _ _ _ HI.out hb1)
      have hW1z : wo.heap.size < W1.heap.size := hs1.lt
      clear hb1 hs1
      generalize hR1 : seqE (fun n p => L.phi b (-1 - (n : Int)) p) 0 phis s = R1 at *
      have HR1 := Lib.hid hR1
      clear hR1
      go_loopw [10, 11, 25] (fun _ _ i wr => ∃ (n : Nat) (s1 : σ), n ≤ phis.length ∧ i = .int .i64 n ∧ ButZ m W1 wr ∧ I (uptoP bs b + n) s1 wr ∧ seqE (fun n p => L.phi b (-1 - (n : Int)) p) n (phis.drop n) s1 = R1) (fun _ _ i _ => phis.length - (intOf i).toNat)
      case atStart => exact ⟨0, s, by omega, rfl, ButZ.refl _ _, HI1.out, by rw [List.drop_zero]; exact HR1.out⟩
      case round =>
        obtain ⟨n, s1, hn, rfl, hbt, hi, hsq⟩ := hrel
        obtain ⟨wi, rfl⟩ : ∃ wi : World, wi = wr := ⟨_, rfl⟩
        have HBTi := Lib.hid hbt
        have HTi := Lib.hid (HT1.out.trans hbt)
        have HIi := Lib.hid hi
        have HSQi := Lib.hid hsq
        have hsb := hbt.str HS1.out hwm
        clear hbt hi hsq
        by_cases hlt2 : n < phis.length
        · have HWi := Lib.hid (HB0.out.trans (HTi.out.below hm HB0.out.size))
          obtain ⟨A', c', bP, oP, e, u1, u2, u3, u4⟩ := HQ0.out
          injection e with e1 _ e3
          subst e1 e3
          have e1 := u3 (by omega)
          subst e1
          obtain ⟨y0, vI, y1, hrow⟩ := u4 n hlt2
          have hrow' := hrow
          obtain ⟨pI, cI, _, _, rfl, _⟩ := hrow
          have HROW := Lib.hid hrow'
          have y0 := cell_keep HWi.out (Nat.le_refl _) y0
          have y1 := cell_keep HWi.out (Nat.le_refl _) y1
          have HBI := Lib.hid (seqE_bind (h := fun n p => L.phi b (-1 - (n : Int)) p) hlt2 s1)
          have HCN := Lib.hid (fun k s w A c h1 h2 h3 h4 h5 => HCP.out k s w n hlt2 A c h1 h2 h3 h4 h5)
          clear hsb hrow' u3 u4
          generalize phis[n] = ph at *
          have HBV := Lib.hid (show Below wi.heap.size wi (wi.alloc (.cells #[.int .i64 ph.dst, .slice pI ph.ins.length cI] 54)) from (Below.refl _ _).alloc (Nat.le_refl _) _)
          have hE1 := HC.out.enter F1 (Or.inl rfl)
          go_wp2_with fail
          refine (HCN.out (uptoP bs b + n) s1 _ _ _ (HWi.out.trans (HBV.out.mono HWi.out.size)) (by have := HBW.out.size; have := HTi.out.size; have := HBV.out.size; omega) (HC.out.keep _ _ _ _ HIi.out HBV.out) (by omega) HROW.out).mono ?_
          rintro e w' he
          cases hE : L.phi b (-1 - (n : Int)) ph s1 with
          | error x =>
            rw [hE] at he
            obtain ⟨rfl, hbx⟩ := he
            have HE := Lib.hid (show R = .error x by
              rw [← HR.out, ← HSQi.out, HBI.out]
              show bindE _ (bindE _ (L.phi b (-1 - (n : Int)) ph s1)) = _
              rw [hE]; rfl)
            refine ⟨rfl, ?_⟩
            show EndsZ m R _ w (.panicked _) w'
            rw [HE.out]
            exact ⟨rfl, (HTi.out.trans (ButZ.of_below HBV.out)).trans hbx⟩
          | ok s2 =>
            rw [hE] at he
            obtain ⟨rfl, hbx, hix⟩ := he
            have HI2 := Lib.hid (show I (uptoP bs b + (n + 1)) s2 w' from hix)
            have HS2 := Lib.hid (show seqE (fun n p => L.phi b (-1 - (n : Int)) p) (n + 1) (phis.drop (n + 1)) s2 = R1 by
              rw [← HSQi.out, HBI.out]
              show _ = bindE _ (L.phi b (-1 - (n : Int)) ph s1)
              rw [hE]; rfl)
            have HB2 := Lib.hid (HBTi.out.trans ((ButZ.of_below HBV.out).trans hbx))
            clear hE hbx hix
            go_wp2
            go_roundw
            case rel => exact ⟨n + 1, s2, by omega, by go_num, HB2.out, HI2.out, HS2.out⟩
            case measure => simp [intOf]; omega
        · obtain rfl : n = phis.length := by omega
          have HR2 := Lib.hid (show bindE (fun s2 => bindE (seqE (blockE L) (b + 1) (bs.drop (b + 1))) (L.term b inss.length tm s2)) (seqE (fun n i => L.ins b n i) 0 inss s1) = R by
            rw [← HR.out, ← HSQi.out, List.drop_length]; rfl)
          have HSB := Lib.hid hsb
          have f1 : wi.cell? ⟨wo.heap.size, 1, none⟩ = some (.slice p1 inss.length c1) := hsb.cell 1
          clear hsb HR HR1
          go_wp2_with fail
          generalize hR2 : seqE (fun n i => L.ins b n i) 0 inss s1 = R2 at *
          have HR3 := Lib.hid hR2
          clear hR2 f1
          go_loopw [12, 13, 41] (fun _ _ i wr => ∃ (n : Nat) (s2 : σ), n ≤ inss.length ∧ i = .int .i64 n ∧ ButZ m wi wr ∧ I (uptoP bs b + phis.length + n) s2 wr ∧ seqE (fun n i => L.ins b n i) n (inss.drop n) s2 = R2) (fun _ _ i _ => inss.length - (intOf i).toNat)
          case atStart => exact ⟨0, s1, by omega, rfl, ButZ.refl _ _, HIi.out, by rw [List.drop_zero]; exact HR3.out⟩
          case round =>
            obtain ⟨n, s2, hn2, rfl, hbt, hi, hsq⟩ := hrel
            obtain ⟨wj, rfl⟩ : ∃ wj : World, wj = wr := ⟨_, rfl⟩
            have HBTj := Lib.hid hbt
            have HTj := Lib.hid (HTi.out.trans hbt)
            have HIj := Lib.hid hi
            have HSQj := Lib.hid hsq
            have hsb := hbt.str HSB.out hwm
            have HWj := Lib.hid (HB0.out.trans (HTj.out.below hm HB0.out.size))
            clear hbt hi hsq
            by_cases hlt2 : n < inss.length
            · obtain ⟨A', c', bP, oP, e, u1, u2, u3, u4⟩ := HQ1.out
              injection e with e1 _ e3
              subst e1 e3
              have e1 := u3 (by omega)
              subst e1
              obtain ⟨y0, y1, y2, ⟨vA, y3, hrow⟩, y4⟩ := u4 n hlt2
              have hrow' := hrow
              obtain ⟨pI, cI, rfl, _⟩ := hrow
              have HROW := Lib.hid hrow'
              have y0 := cell_keep HWj.out (Nat.le_refl _) y0
              have y1 := cell_keep HWj.out (Nat.le_refl _) y1
              have y2 := cell_keep HWj.out (Nat.le_refl _) y2
              have y3 := cell_keep HWj.out (Nat.le_refl _) y3
              have y4 := cell_keep HWj.out (Nat.le_refl _) y4
              have HBI := Lib.hid (seqE_bind (h := fun n i => L.ins b n i) hlt2 s2)
              have HCN := Lib.hid (fun k s w A c h1 h2 h3 h4 h5 => HCI.out k s w n hlt2 A c h1 h2 h3 h4 h5)
              clear hsb hrow' u3 u4
              generalize inss[n] = it at *
              have HBV := Lib.hid (show Below wj.heap.size wj (wj.alloc (.cells #[.int .i64 it.op, .int .i64 it.dst, .int .i64 it.two, .slice pI it.args.length cI, .int .i32 it.imm] 36)) from (Below.refl _ _).alloc (Nat.le_refl _) _)
              have hE1 := HC.out.enter F2 (Or.inr (Or.inl rfl))
              go_wp2_with fail
              refine (HCN.out (uptoP bs b + phis.length + n) s2 _ _ _ (HWj.out.trans (HBV.out.mono HWj.out.size)) (by have := HBW.out.size; have := HTj.out.size; have := HBV.out.size; omega) (HC.out.keep _ _ _ _ HIj.out HBV.out) (by omega) HROW.out).mono ?_
              rintro e w' he
              cases hE : L.ins b n it s2 with
              | error x =>
                rw [hE] at he
                obtain ⟨rfl, hbx⟩ := he
                have HE := Lib.hid (show R = .error x by
                  rw [← HR2.out, ← HSQj.out, HBI.out]
                  show bindE _ (bindE _ (L.ins b n it s2)) = _
                  rw [hE]; rfl)
                refine ⟨rfl, ?_⟩
                show EndsZ m R _ w (.panicked _) w'
                rw [HE.out]
                exact ⟨rfl, (HTj.out.trans (ButZ.of_below HBV.out)).trans hbx⟩
              | ok s3 =>
                rw [hE] at he
                obtain ⟨rfl, hbx, hix⟩ := he
                have HI2 := Lib.hid (show I (uptoP bs b + phis.length + (n + 1)) s3 w' from hix)
                have HS2 := Lib.hid (show seqE (fun n i => L.ins b n i) (n + 1) (inss.drop (n + 1)) s3 = R2 by
                  rw [← HSQj.out, HBI.out]
                  show _ = bindE _ (L.ins b n it s2)
                  rw [hE]; rfl)
                have HB2 := Lib.hid (HBTj.out.trans ((ButZ.of_below HBV.out).trans hbx))
                clear hE hbx hix
                go_wp2
                go_roundw
                case rel => exact ⟨n + 1, s3, by omega, by go_num, HB2.out, HI2.out, HS2.out⟩
                case measure => simp [intOf]; omega
            · obtain rfl : n = inss.length := by omega
              have HR4 := Lib.hid (show bindE (seqE (blockE L) (b + 1) (bs.drop (b + 1))) (L.term b inss.length tm s2) = R by
                rw [← HR2.out, ← HSQj.out, List.drop_length]; rfl)
              have f1 : wj.cell? ⟨wo.heap.size, 1, none⟩ = some (.slice p1 inss.length c1) := hsb.cell 1
              have f2 : wj.cell? ⟨wo.heap.size, 2, none⟩ = some (.int .i64 tm.kind) := hsb.cell 2
              have f3 : wj.cell? ⟨wo.heap.size, 3, none⟩ = some (.slice p3 tm.args.length c3) := hsb.cell 3
              have f4 : wj.cell? ⟨wo.heap.size, 4, none⟩ = some (.slice p4 tm.to.length c4) := hsb.cell 4
              have f5 : wj.cell? ⟨wo.heap.size, 5, none⟩ = some (.int .i32 tm.imm) := hsb.cell 5
              have hE1 := HC.out.enter F3 (Or.inr (Or.inr rfl))
              clear hsb HR2 HR3
              go_wp2_with fail
              refine (HCT.out (uptoP bs b + phis.length + inss.length) s2 _ _ _ _ _ HWj.out (by have := HBW.out.size; have := HTj.out.size; omega) HIj.out (by omega) HQ3.out HQ4.out).mono ?_
              rintro e w' he
              cases hE : L.term b inss.length tm s2 with
              | error x =>
                rw [hE] at he
                obtain ⟨rfl, hbx⟩ := he
                have HE := Lib.hid (show R = .error x by rw [← HR4.out, hE]; rfl)
                refine ⟨rfl, ?_⟩
                show EndsZ m R _ w (.panicked _) w'
                rw [HE.out]
                exact ⟨rfl, HTj.out.trans hbx⟩
              | ok s3 =>
                rw [hE] at he
                obtain ⟨rfl, hbx, hix⟩ := he
                have HI2 := Lib.hid (show I (uptoP bs (b + 1)) s3 w' by
                  rw [HUS.out, show uptoP bs b + (phis.length + inss.length + 1) = uptoP bs b + phis.length + inss.length + 1 by omega]; exact hix)
                have HS2 := Lib.hid (show seqE (blockE L) (b + 1) (bs.drop (b + 1)) s3 = R by rw [← HR4.out, hE]; rfl)
                have HB2 := Lib.hid (HTj.out.trans hbx)
                clear hE hbx hix f1 f2 f3 f4 f5
                go_wp2
                go_roundw
                case rel => exact ⟨b + 1, s3, by omega, by go_num, HB2.out, HI2.out, HS2.out⟩
                case measure => simp [intOf]; omega
    · obtain rfl : b = bs.length := by omega
      have HE := Lib.hid (show R = .ok s by rw [← HSQ.out, List.drop_length]; rfl)
      go_wp2
      go_end0
      rw [HE.out]
      exact ⟨rfl, HBT.out, HI.out⟩
end Go.Proofs.Ytdfehpcbcgbidaa.Kc
