/- Stage 3: inOrder, reach, the deferred closure, and check.Func whole. -/
import Derived.Test.YtdfehpcbcgbidaaKB
import Derived.Test.YtdfehpcbcgbidaaKA
import Derived.Test.YtdfehpcbcgbidaaKC
import Derived.Recover
import Derived.Deep.DeepCutAuto
import Derived.Defers
/- Stage 3: over all phis, instructions and terms of a function, in order: check's inOrder, by what the function values do. -/
namespace Go.Proofs.Ytdfehpcbcgbidaa.Kc
open Go.ChangeShapes Go.WideShapes Go.ChangeAt Go.RowKit Go.Maps Go.Proofs.Ytdfehpcbcgbidaa.Mem Go.Proofs.Ytdfehpcbcgbidaa.Br
set_option linter.unusedVariables false
/-- What the three function values (methods of what lies at cb) do. -/
structure Cbs {σ : Type} (F1 F2 F3 cb m : Nat) (L : Looks σ) (bs : List PBlock) (w0 : World) (I : Nat → σ → World → Prop) : Prop where
  enter : ∀ F, F = F1 ∨ F = F2 ∨ F = F3 → ∀ (args : Array Value) (w : World), (callFunc F args).run Try.prog w = .ok (.enter F args) w
  keep : ∀ k s w w', I k s w → Below w.heap.size w w' → I k s w'
  phi : ∀ k s w a n (ha : a < bs.length) (hn : n < bs[a].phis.length) A c, Below w0.heap.size w0 w → I k s w → k < uptoP bs bs.length → RowAt w 2 InAt (.slice A bs[a].phis[n].ins.length c) bs[a].phis[n].ins →
    Calls Try.prog F1 #[.pointer (some ⟨cb, 0, none⟩), .agg #[.int .i64 (a : Int), .int .i64 (-1 - (n : Int))], .agg #[.int .i64 bs[a].phis[n].dst, .slice A bs[a].phis[n].ins.length c]] w (Ends m (L.phi a (-1 - (n : Int)) bs[a].phis[n] s) (fun s' w' => I (k + 1) s' w') w)
  ins : ∀ k s w a n (ha : a < bs.length) (hn : n < bs[a].ins.length) A c, Below w0.heap.size w0 w → I k s w → k < uptoP bs bs.length → Ints w (.slice A bs[a].ins[n].args.length c) bs[a].ins[n].args →
    Calls Try.prog F2 #[.pointer (some ⟨cb, 0, none⟩), .agg #[.int .i64 (a : Int), .int .i64 (n : Int)], .agg #[.int .i64 bs[a].ins[n].op, .int .i64 bs[a].ins[n].dst, .int .i64 bs[a].ins[n].two, .slice A bs[a].ins[n].args.length c, .int .i32 bs[a].ins[n].imm]] w
      (Ends m (L.ins a n bs[a].ins[n] s) (fun s' w' => I (k + 1) s' w') w)
  term : ∀ k s w a (ha : a < bs.length) A c T cT, Below w0.heap.size w0 w → I k s w → k < uptoP bs bs.length → Ints w (.slice A bs[a].term.args.length c) bs[a].term.args → Ints w (.slice T bs[a].term.to.length cT) bs[a].term.to →
    Calls Try.prog F3 #[.pointer (some ⟨cb, 0, none⟩), .agg #[.int .i64 (a : Int), .int .i64 (bs[a].ins.length : Int)], .agg #[.int .i64 bs[a].term.kind, .slice A bs[a].term.args.length c, .slice T bs[a].term.to.length cT, .int .i32 bs[a].term.imm]] w
      (Ends m (L.term a bs[a].ins.length bs[a].term s) (fun s' w' => I (k + 1) s' w') w)
/-- What lies in a block, with its rows. -/
theorem block_rows {w : World} {b o : Nat} {x : PBlock} (h : BlockAt w b o x) : ∃ p0 c0 p1 c1 p3 c3 p4 c4, w.cell? ⟨b, o, none⟩ = some (.slice p0 x.phis.length c0) ∧ w.cell? ⟨b, o + 1, none⟩ = some (.slice p1 x.ins.length c1) ∧
    w.cell? ⟨b, o + 2, none⟩ = some (.int .i64 x.term.kind) ∧ w.cell? ⟨b, o + 3, none⟩ = some (.slice p3 x.term.args.length c3) ∧ w.cell? ⟨b, o + 4, none⟩ = some (.slice p4 x.term.to.length c4) ∧ w.cell? ⟨b, o + 5, none⟩ = some (.int .i32 x.term.imm) ∧
    RowAt w 2 PhiAt (.slice p0 x.phis.length c0) x.phis ∧ RowAt w 5 InsAt (.slice p1 x.ins.length c1) x.ins ∧ Ints w (.slice p3 x.term.args.length c3) x.term.args ∧ Ints w (.slice p4 x.term.to.length c4) x.term.to := by
  obtain ⟨⟨v0, h0, q0⟩, ⟨v1, h1, q1⟩, h2, ⟨v3, h3, q3⟩, ⟨v4, h4, q4⟩, h5⟩ := h
  have r0 := q0
  have r1 := q1
  have r3 := q3
  have r4 := q4
  obtain ⟨p0, c0, _, _, rfl, _⟩ := q0
  obtain ⟨p1, c1, _, _, rfl, _⟩ := q1
  obtain ⟨p3, c3, rfl, _⟩ := q3
  obtain ⟨p4, c4, rfl, _⟩ := q4
  exact ⟨p0, c0, p1, c1, p3, c3, p4, c4, h0, h1, h2, h3, h4, h5, r0, r1, r3, r4⟩
theorem upto_in {bs : List PBlock} {a : Nat} (ha : a < bs.length) : uptoP bs a + sizeP bs[a] ≤ uptoP bs bs.length := by
  rw [← uptoP_succ ha]; exact uptoP_le bs _ _ (by omega) (Nat.le_refl _)
def bindE {σ τ : Type} (f : σ → Except Fault τ) (r : Except Fault σ) : Except Fault τ :=
  match r with
  | .error e => .error e
  | .ok s => f s
theorem seqE_bind {σ α : Type} {h : Nat → α → σ → Except Fault σ} {l : List α} {k : Nat} (hk : k < l.length) (s : σ) : seqE h k (l.drop k) s = bindE (seqE h (k + 1) (l.drop (k + 1))) (h k l[k] s) := by
  rw [seqE_drop hk]; cases h k l[k] s <;> rfl
theorem blockE_bind {σ : Type} (L : Looks σ) (b : Nat) (x : PBlock) (s : σ) : blockE L b x s = bindE (fun s1 => bindE (fun s2 => L.term b x.ins.length x.term s2) (seqE (fun n i => L.ins b n i) 0 x.ins s1)) (seqE (fun n p => L.phi b (-1 - (n : Int)) p) 0 x.phis s) := by
  unfold blockE
  cases seqE (fun n p => L.phi b (-1 - (n : Int)) p) 0 x.phis s with
  | error e => rfl
  | ok s1 =>
    dsimp only [bindE]
    cases seqE (fun n i => L.ins b n i) 0 x.ins s1 <;> rfl
theorem bind_assoc {σ : Type} (f g : σ → Except Fault σ) (r : Except Fault σ) : bindE f (bindE g r) = bindE (fun s => bindE f (g s)) r := by cases r <;> rfl
theorem size_in {bs : List PBlock} {b : Nat} (hb : b < bs.length) : uptoP bs b + bs[b].phis.length + bs[b].ins.length + 1 ≤ uptoP bs bs.length := by
  have := upto_in hb; unfold sizeP at this; omega
set_option maxRecDepth 100000 in
set_option maxHeartbeats 8000000 in
theorem inOrder_any {σ : Type} (F1 F2 F3 cb m : Nat) (L : Looks σ) (bs : List PBlock) (I : Nat → σ → World → Prop) (w0 w : World) (params : Int) (A : Option Addr) (c : Nat) (s0 : σ) (hC : Cbs F1 F2 F3 cb m L bs w0 I) (hbs : BlocksAt w0 (.slice A bs.length c) bs)
    (hb0 : Below w0.heap.size w0 w) (hm : w0.heap.size ≤ m) (hmw : m < w.heap.size) (hI0 : I 0 s0 w) :
    Calls Try.prog 21 #[.agg #[.int .i64 params, .slice A bs.length c], .func (.func F1) #[.pointer (some ⟨cb, 0, none⟩)] #[], .func (.func F2) #[.pointer (some ⟨cb, 0, none⟩)] #[], .func (.func F3) #[.pointer (some ⟨cb, 0, none⟩)] #[]] w
      (Ends m (overE L bs s0) (fun s w' => I (uptoP bs bs.length) s w') w) := by
  have HC := Lib.hid hC
  have HBS := Lib.hid hbs
  have HB0 := Lib.hid hb0
  have HI0 := Lib.hid hI0
  have hbl : bs.length ≤ maxLen := by
    obtain ⟨A', c', b, o, e, h1, h2, _⟩ := hbs
    exact Nat.le_trans h1 h2
  unfold maxLen at hbl
  have HOV := Lib.hid (show seqE (blockE L) 0 bs s0 = overE L bs s0 from rfl)
  generalize overE L bs s0 = R at *
  clear hC hbs hb0 hI0
  go_enter Try.func21, Try.ntmps21
  go_upto_region 1 with (fail)
  obtain ⟨W, hW⟩ : ∃ W, w.alloc (.cells #[.int .i64 params, .slice A bs.length c] 24) = W := ⟨_, rfl⟩
  rw [hW]
  have hbW : Below w.heap.size w W := by rw [← hW]; exact (Below.refl _ _).alloc (Nat.le_refl _) _
  have hsW : Str W w.heap.size 24 [.int .i64 params, .slice A bs.length c] := by rw [← hW]; exact World.alloc_heap_new w _
  have k1 : W.cell? ⟨w.heap.size, 1, none⟩ = some (.slice A bs.length c) := hsW.cell 1
  have HBW := Lib.hid hbW
  clear hW hbW hsW
  go_wp2_with fail
  go_loopw [17] (fun i wr => ∃ (b : Nat) (s : σ), b ≤ bs.length ∧ i = .int .i64 b ∧ But m w wr ∧ I (uptoP bs b) s wr ∧ seqE (blockE L) b (bs.drop b) s = R) (fun i _ => bs.length - (intOf i).toNat)
  case atStart => exact ⟨0, s0, by omega, rfl, But.of_below HBW.out, by rw [uptoP_zero]; exact HC.out.keep _ _ _ _ HI0.out HBW.out, by rw [List.drop_zero]; exact HOV.out⟩
  case round =>
    obtain ⟨b, s, hk, rfl, hbt, hi, hsq⟩ := hrel
    obtain ⟨wo, rfl⟩ : ∃ wo : World, wo = wr := ⟨_, rfl⟩
    have HBT := Lib.hid hbt
    have HI := Lib.hid hi
    have HSQ := Lib.hid hsq
    clear hbt hi hsq
    by_cases hlt : b < bs.length
    · have HW0 := Lib.hid (HB0.out.trans (HBT.out.below hm HB0.out.size))
      obtain ⟨A', c', bB, oB, e, j1, j2, j3, j4⟩ := HBS.out
      injection e with e1 _ e3
      subst e1 e3
      have e1 := j3 (by omega)
      subst e1
      obtain ⟨p0, c0, p1, c1, p3, c3, p4, c4, r0, r1, r2, r3, r4, r5, q0, q1, q3, q4⟩ := block_rows (j4 b hlt)
      have hsz := size_in hlt
      have q0l : bs[b].phis.length ≤ maxLen := by obtain ⟨_, _, _, _, _, u1, u2, _⟩ := q0; exact Nat.le_trans u1 u2
      have q1l : bs[b].ins.length ≤ maxLen := by obtain ⟨_, _, _, _, _, u1, u2, _⟩ := q1; exact Nat.le_trans u1 u2
      unfold maxLen at q0l q1l j2
      have HUS := Lib.hid (uptoP_succ hlt)
      have HR := Lib.hid ((show bindE (fun s1 => bindE (fun s2 => bindE (seqE (blockE L) (b + 1) (bs.drop (b + 1))) (L.term b bs[b].ins.length bs[b].term s2)) (seqE (fun n i => L.ins b n i) 0 bs[b].ins s1)) (seqE (fun n p => L.phi b (-1 - (n : Int)) p) 0 bs[b].phis s) = R by
        rw [← HSQ.out, seqE_bind hlt, blockE_bind, bind_assoc]; congr 1; funext s1; rw [bind_assoc]))
      have HCP := Lib.hid (fun k s w n hn A c h1 h2 h3 h4 => HC.out.phi k s w b n hlt hn A c h1 h2 h3 h4)
      have HCI := Lib.hid (fun k s w n hn A c h1 h2 h3 h4 => HC.out.ins k s w b n hlt hn A c h1 h2 h3 h4)
      have HCT := Lib.hid (fun k s w A c T cT h1 h2 h3 h4 h5 => HC.out.term k s w b hlt A c T cT h1 h2 h3 h4 h5)
      have r0' := cell_keep HW0.out (Nat.le_refl _) r0
      have r1' := cell_keep HW0.out (Nat.le_refl _) r1
      have r2' := cell_keep HW0.out (Nat.le_refl _) r2
      have r3' := cell_keep HW0.out (Nat.le_refl _) r3
      have r4' := cell_keep HW0.out (Nat.le_refl _) r4
      have r5' := cell_keep HW0.out (Nat.le_refl _) r5
      have HQ0 := Lib.hid q0
      have HQ1 := Lib.hid q1
      have HQ3 := Lib.hid q3
      have HQ4 := Lib.hid q4
      have k1' := cell_keep HW0.out (Nat.le_refl _) r0
      clear r0 r1 r2 r3 r4 r5 q0 q1 q3 q4 j3 j4 k1'
      unfold sizeP at HUS
      generalize bs[b].phis = phis at *
      generalize bs[b].ins = inss at *
      generalize bs[b].term = tm at *
      have hwm : wo.heap.size ≠ m := by have := HBT.out.size; omega
      have hwo := HBT.out.size
      have hw00 := HB0.out.size
      go_wp2_with fail
      obtain ⟨W1, hW1⟩ : ∃ W1, wo.alloc (.cells #[.slice p0 phis.length c0, .slice p1 inss.length c1, .int .i64 tm.kind, .slice p3 tm.args.length c3, .slice p4 tm.to.length c4, .int .i32 tm.imm] 34) = W1 := ⟨_, rfl⟩
      rw [hW1]
      have hb1 : Below wo.heap.size wo W1 := by rw [← hW1]; exact (Below.refl _ _).alloc (Nat.le_refl _) _
      have hs1 : Str W1 wo.heap.size 34 [.slice p0 phis.length c0, .slice p1 inss.length c1, .int .i64 tm.kind, .slice p3 tm.args.length c3, .slice p4 tm.to.length c4, .int .i32 tm.imm] := by rw [← hW1]; exact World.alloc_heap_new wo _
      clear hW1 r0' r1' r2' r3' r4' r5'
      have HT1 := Lib.hid (HBT.out.trans (But.of_below hb1))
      have HS1 := Lib.hid hs1
      have HI1 := Lib.hid (HC.out.keep _ _ _ _ HI.out hb1)
      have hW1z : wo.heap.size < W1.heap.size := hs1.lt
      clear hb1 hs1
      generalize hR1 : seqE (fun n p => L.phi b (-1 - (n : Int)) p) 0 phis s = R1 at *
      have HR1 := Lib.hid hR1
      clear hR1
      go_loopw [10, 11, 25] (fun _ _ i wr => ∃ (n : Nat) (s1 : σ), n ≤ phis.length ∧ i = .int .i64 n ∧ But m W1 wr ∧ I (uptoP bs b + n) s1 wr ∧ seqE (fun n p => L.phi b (-1 - (n : Int)) p) n (phis.drop n) s1 = R1) (fun _ _ i _ => phis.length - (intOf i).toNat)
      case atStart => exact ⟨0, s, by omega, rfl, But.refl _ _, HI1.out, by rw [List.drop_zero]; exact HR1.out⟩
      case round =>
        obtain ⟨n, s1, hn, rfl, hbt, hi, hsq⟩ := hrel
        obtain ⟨wi, rfl⟩ : ∃ wi : World, wi = wr := ⟨_, rfl⟩
        have HBTi := Lib.hid hbt
        have HTi := Lib.hid (HT1.out.trans hbt)
        have HIi := Lib.hid hi
        have HSQi := Lib.hid hsq
        have hsb := hbt.str HS1.out hwm
        clear hbt hi hsq
        by_cases hlt2 : n < phis.length
        · have HWi := Lib.hid (HB0.out.trans (HTi.out.below hm HB0.out.size))
          obtain ⟨A', c', bP, oP, e, u1, u2, u3, u4⟩ := HQ0.out
          injection e with e1 _ e3
          subst e1 e3
          have e1 := u3 (by omega)
          subst e1
          obtain ⟨y0, vI, y1, hrow⟩ := u4 n hlt2
          have hrow' := RowAt.kept hrow (fun b o x h => InAt.keep HWi.out b o x h)
          obtain ⟨pI, cI, _, _, rfl, _⟩ := hrow
          have HROW := Lib.hid hrow'
          have y0 := cell_keep HWi.out (Nat.le_refl _) y0
          have y1 := cell_keep HWi.out (Nat.le_refl _) y1
          have HBI := Lib.hid (seqE_bind (h := fun n p => L.phi b (-1 - (n : Int)) p) hlt2 s1)
          have HCN := Lib.hid (fun k s w A c h1 h2 h3 h4 => HCP.out k s w n hlt2 A c h1 h2 h3 h4)
          clear hsb hrow' u3 u4
          generalize phis[n] = ph at *
          have HBV := Lib.hid (show Below wi.heap.size wi (wi.alloc (.cells #[.int .i64 ph.dst, .slice pI ph.ins.length cI] 54)) from (Below.refl _ _).alloc (Nat.le_refl _) _)
          have hE1 := HC.out.enter F1 (Or.inl rfl)
          go_wp2_with fail
          refine (HCN.out (uptoP bs b + n) s1 _ _ _ (HWi.out.trans (HBV.out.mono HWi.out.size)) (HC.out.keep _ _ _ _ HIi.out HBV.out) (by omega) (RowAt.kept HROW.out (fun b o x h => InAt.keep HBV.out b o x h))).mono ?_
          rintro e w' he
          cases hE : L.phi b (-1 - (n : Int)) ph s1 with
          | error x =>
            rw [hE] at he
            obtain ⟨rfl, hbx⟩ := he
            have HE := Lib.hid (show R = .error x by
              rw [← HR.out, ← HSQi.out, HBI.out]
              show bindE _ (bindE _ (L.phi b (-1 - (n : Int)) ph s1)) = _
              rw [hE]; rfl)
            refine ⟨rfl, ?_⟩
            show Ends m R _ w (.panicked _) w'
            rw [HE.out]
            exact ⟨rfl, (HTi.out.trans (But.of_below HBV.out)).trans hbx⟩
          | ok s2 =>
            rw [hE] at he
            obtain ⟨rfl, hbx, hix⟩ := he
            have HI2 := Lib.hid (show I (uptoP bs b + (n + 1)) s2 w' from hix)
            have HS2 := Lib.hid (show seqE (fun n p => L.phi b (-1 - (n : Int)) p) (n + 1) (phis.drop (n + 1)) s2 = R1 by
              rw [← HSQi.out, HBI.out]
              show _ = bindE _ (L.phi b (-1 - (n : Int)) ph s1)
              rw [hE]; rfl)
            have HB2 := Lib.hid (HBTi.out.trans ((But.of_below HBV.out).trans hbx))
            clear hE hbx hix
            go_wp2
            go_roundw
            case rel => exact ⟨n + 1, s2, by omega, by go_num, HB2.out, HI2.out, HS2.out⟩
            case measure => simp [intOf]; omega
        · obtain rfl : n = phis.length := by omega
          have HR2 := Lib.hid (show bindE (fun s2 => bindE (seqE (blockE L) (b + 1) (bs.drop (b + 1))) (L.term b inss.length tm s2)) (seqE (fun n i => L.ins b n i) 0 inss s1) = R by
            rw [← HR.out, ← HSQi.out, List.drop_length]; rfl)
          have HSB := Lib.hid hsb
          have f1 : wi.cell? ⟨wo.heap.size, 1, none⟩ = some (.slice p1 inss.length c1) := hsb.cell 1
          clear hsb HR HR1
          go_wp2_with fail
          generalize hR2 : seqE (fun n i => L.ins b n i) 0 inss s1 = R2 at *
          have HR3 := Lib.hid hR2
          clear hR2 f1
          go_loopw [12, 13, 41] (fun _ _ i wr => ∃ (n : Nat) (s2 : σ), n ≤ inss.length ∧ i = .int .i64 n ∧ But m wi wr ∧ I (uptoP bs b + phis.length + n) s2 wr ∧ seqE (fun n i => L.ins b n i) n (inss.drop n) s2 = R2) (fun _ _ i _ => inss.length - (intOf i).toNat)
          case atStart => exact ⟨0, s1, by omega, rfl, But.refl _ _, HIi.out, by rw [List.drop_zero]; exact HR3.out⟩
          case round =>
            obtain ⟨n, s2, hn2, rfl, hbt, hi, hsq⟩ := hrel
            obtain ⟨wj, rfl⟩ : ∃ wj : World, wj = wr := ⟨_, rfl⟩
            have HBTj := Lib.hid hbt
            have HTj := Lib.hid (HTi.out.trans hbt)
            have HIj := Lib.hid hi
            have HSQj := Lib.hid hsq
            have hsb := hbt.str HSB.out hwm
            have HWj := Lib.hid (HB0.out.trans (HTj.out.below hm HB0.out.size))
            clear hbt hi hsq
            by_cases hlt2 : n < inss.length
            · obtain ⟨A', c', bP, oP, e, u1, u2, u3, u4⟩ := HQ1.out
              injection e with e1 _ e3
              subst e1 e3
              have e1 := u3 (by omega)
              subst e1
              obtain ⟨y0, y1, y2, ⟨vA, y3, hrow⟩, y4⟩ := u4 n hlt2
              have hrow' := hrow.keep HWj.out
              obtain ⟨pI, cI, rfl, _⟩ := hrow
              have HROW := Lib.hid hrow'
              have y0 := cell_keep HWj.out (Nat.le_refl _) y0
              have y1 := cell_keep HWj.out (Nat.le_refl _) y1
              have y2 := cell_keep HWj.out (Nat.le_refl _) y2
              have y3 := cell_keep HWj.out (Nat.le_refl _) y3
              have y4 := cell_keep HWj.out (Nat.le_refl _) y4
              have HBI := Lib.hid (seqE_bind (h := fun n i => L.ins b n i) hlt2 s2)
              have HCN := Lib.hid (fun k s w A c h1 h2 h3 h4 => HCI.out k s w n hlt2 A c h1 h2 h3 h4)
              clear hsb hrow' u3 u4
              generalize inss[n] = it at *
              have HBV := Lib.hid (show Below wj.heap.size wj (wj.alloc (.cells #[.int .i64 it.op, .int .i64 it.dst, .int .i64 it.two, .slice pI it.args.length cI, .int .i32 it.imm] 36)) from (Below.refl _ _).alloc (Nat.le_refl _) _)
              have hE1 := HC.out.enter F2 (Or.inr (Or.inl rfl))
              go_wp2_with fail
              refine (HCN.out (uptoP bs b + phis.length + n) s2 _ _ _ (HWj.out.trans (HBV.out.mono HWj.out.size)) (HC.out.keep _ _ _ _ HIj.out HBV.out) (by omega) (HROW.out.keep HBV.out)).mono ?_
              rintro e w' he
              cases hE : L.ins b n it s2 with
              | error x =>
                rw [hE] at he
                obtain ⟨rfl, hbx⟩ := he
                have HE := Lib.hid (show R = .error x by
                  rw [← HR2.out, ← HSQj.out, HBI.out]
                  show bindE _ (bindE _ (L.ins b n it s2)) = _
                  rw [hE]; rfl)
                refine ⟨rfl, ?_⟩
                show Ends m R _ w (.panicked _) w'
                rw [HE.out]
                exact ⟨rfl, (HTj.out.trans (But.of_below HBV.out)).trans hbx⟩
              | ok s3 =>
                rw [hE] at he
                obtain ⟨rfl, hbx, hix⟩ := he
                have HI2 := Lib.hid (show I (uptoP bs b + phis.length + (n + 1)) s3 w' from hix)
                have HS2 := Lib.hid (show seqE (fun n i => L.ins b n i) (n + 1) (inss.drop (n + 1)) s3 = R2 by
                  rw [← HSQj.out, HBI.out]
                  show _ = bindE _ (L.ins b n it s2)
                  rw [hE]; rfl)
                have HB2 := Lib.hid (HBTj.out.trans ((But.of_below HBV.out).trans hbx))
                clear hE hbx hix
                go_wp2
                go_roundw
                case rel => exact ⟨n + 1, s3, by omega, by go_num, HB2.out, HI2.out, HS2.out⟩
                case measure => simp [intOf]; omega
            · obtain rfl : n = inss.length := by omega
              have HR4 := Lib.hid (show bindE (seqE (blockE L) (b + 1) (bs.drop (b + 1))) (L.term b inss.length tm s2) = R by
                rw [← HR2.out, ← HSQj.out, List.drop_length]; rfl)
              have f1 : wj.cell? ⟨wo.heap.size, 1, none⟩ = some (.slice p1 inss.length c1) := hsb.cell 1
              have f2 : wj.cell? ⟨wo.heap.size, 2, none⟩ = some (.int .i64 tm.kind) := hsb.cell 2
              have f3 : wj.cell? ⟨wo.heap.size, 3, none⟩ = some (.slice p3 tm.args.length c3) := hsb.cell 3
              have f4 : wj.cell? ⟨wo.heap.size, 4, none⟩ = some (.slice p4 tm.to.length c4) := hsb.cell 4
              have f5 : wj.cell? ⟨wo.heap.size, 5, none⟩ = some (.int .i32 tm.imm) := hsb.cell 5
              have hE1 := HC.out.enter F3 (Or.inr (Or.inr rfl))
              clear hsb HR2 HR3
              go_wp2_with fail
              refine (HCT.out (uptoP bs b + phis.length + inss.length) s2 _ _ _ _ _ HWj.out HIj.out (by omega) (HQ3.out.keep HWj.out) (HQ4.out.keep HWj.out)).mono ?_
              rintro e w' he
              cases hE : L.term b inss.length tm s2 with
              | error x =>
                rw [hE] at he
                obtain ⟨rfl, hbx⟩ := he
                have HE := Lib.hid (show R = .error x by rw [← HR4.out, hE]; rfl)
                refine ⟨rfl, ?_⟩
                show Ends m R _ w (.panicked _) w'
                rw [HE.out]
                exact ⟨rfl, HTj.out.trans hbx⟩
              | ok s3 =>
                rw [hE] at he
                obtain ⟨rfl, hbx, hix⟩ := he
                have HI2 := Lib.hid (show I (uptoP bs (b + 1)) s3 w' by
                  rw [HUS.out, show uptoP bs b + (phis.length + inss.length + 1) = uptoP bs b + phis.length + inss.length + 1 by omega]; exact hix)
                have HS2 := Lib.hid (show seqE (blockE L) (b + 1) (bs.drop (b + 1)) s3 = R by rw [← HR4.out, hE]; rfl)
                have HB2 := Lib.hid (HTj.out.trans hbx)
                clear hE hbx hix f1 f2 f3 f4 f5
                go_wp2
                go_roundw
                case rel => exact ⟨b + 1, s3, by omega, by go_num, HB2.out, HI2.out, HS2.out⟩
                case measure => simp [intOf]; omega
    · obtain rfl : b = bs.length := by omega
      have HE := Lib.hid (show R = .ok s by rw [← HSQ.out, List.drop_length]; rfl)
      go_wp2
      go_end0
      rw [HE.out]
      exact ⟨rfl, HBT.out, HI.out⟩
end Go.Proofs.Ytdfehpcbcgbidaa.Kc
/- Stage 3: control comes to all blocks: check's reach. -/
namespace Go.Proofs.Ytdfehpcbcgbidaa.Kc
open Go.ChangeShapes Go.WideShapes Go.ChangeAt Go.RowKit Go.Maps Go.Proofs.Ytdfehpcbcgbidaa.Mem Go.Proofs.Ytdfehpcbcgbidaa.Br Go.Proofs.Ytdfehpcbcgbidaa.Gr Go.Proofs.Ytdfehpcbcgbidaa.Gn Go.Proofs.Ytdfehpcbcgbidaa.Gc Go.Proofs.Ytdfehpcbcgbidaa.Gl Go.Proofs.Ytdfehpcbcgbidaa.Rp
set_option linter.unusedVariables false
theorem tidy_again (g : List (List Int)) : tidyN (lii (tidyN g)) = tidyN g := by
  have hl : (lii (tidyN g)).length = g.length := by unfold lii; rw [List.length_map, tidyN_len]
  have key : ∀ a b : Nat, a < g.length → b < g.length → ((lii (tidyN g)).getD a []).contains (b : Int) = (g.getD a []).contains (b : Int) := by
    intro a b ha hb
    have h := edge_lii_tidy g a b
    rw [edgeB_nat, edgeB_nat, hl, decide_eq_true (⟨ha, hb⟩ : a < g.length ∧ b < g.length), Bool.true_and, Bool.true_and] at h
    exact h
  show (List.range (lii (tidyN g)).length).map _ = (List.range g.length).map _
  rw [hl]
  refine List.map_congr_left fun a ha => ?_
  refine List.filter_congr fun b hb => ?_
  exact key a b (List.mem_range.1 ha) (List.mem_range.1 hb)
theorem rowsP_len (bs : List PBlock) : (rowsP bs).length = bs.length := by unfold rowsP; rw [List.length_map]
theorem blocks_of {w : World} {b0 c : Nat} {bs : List PBlock} (h : BlocksAt w (.slice (some ⟨b0, 0, none⟩) bs.length c) bs) : ∃ us, Blocks w b0 us (rowsP bs) := by
  obtain ⟨A', c', b, o, e, h1, h2, h3, h4⟩ := h
  injection e with e1 _ e3
  refine ⟨(List.range bs.length).map fun k => (w.cell? ⟨b0, k * 6 + 4, none⟩).getD undef, by rw [List.length_map, List.length_range, rowsP_len], fun k hk => ?_⟩
  rw [rowsP_len] at hk
  have hb := (h3 (by omega)).symm.trans e1.symm
  injection hb with hb
  injection hb with hb ho
  subst hb ho
  have hrow : (rowsP bs)[k]'(by rw [rowsP_len]; exact hk) = bs[k].term.to := by unfold rowsP; rw [List.getElem_map]
  obtain ⟨⟨v0, x0, p0, c0, _, _, rfl, _⟩, ⟨v1, x1, p1, c1, _, _, rfl, _⟩, x2, ⟨v3, x3, p3, c3, rfl, _⟩, ⟨v4, x4, hi⟩, x5⟩ := h4 k hk
  have hi' := hi
  obtain ⟨p4, c4, rfl, _⟩ := hi
  rw [Nat.zero_add] at x0 x1 x2 x3 x4 x5
  refine ⟨p0, _, c0, p1, _, c1, _, p3, _, c3, p4, c4, _, ?_, by rw [hrow]; exact hi', x0, x1, x2, x3, by rw [hrow]; exact x4, x5⟩
  rw [hrow, List.getElem?_map, List.getElem?_range hk]
  simp [x4]
def badR (idom : List Int) (b : Nat) : Bool := decide (0 < b) && decide (idom.getD b 0 < 0)
theorem reachF_some {idom : List Int} {k : Nat} (hk : k < idom.length) (hb : badR idom k = true) (hpre : ∀ j, j < k → badR idom j = false) : reachF idom = some (15, (k : Int), 0) := by
  have : (List.range idom.length).find? (badR idom) = some k := by
    rw [List.find?_range_eq_some]
    exact ⟨hb, List.mem_range.2 hk, fun j hj => by rw [hpre j hj]; rfl⟩
  unfold reachF
  rw [show (fun b : Nat => decide (0 < b) && decide (idom.getD b 0 < 0)) = badR idom from rfl, this]
  rfl
theorem reachF_none {idom : List Int} (hpre : ∀ j, j < idom.length → badR idom j = false) : reachF idom = none := by
  have : (List.range idom.length).find? (badR idom) = none := by
    rw [List.find?_range_eq_none]
    intro j hj
    rw [hpre j hj]; rfl
  unfold reachF
  rw [show (fun b : Nat => decide (0 < b) && decide (idom.getD b 0 < 0)) = badR idom from rfl, this]
  rfl
/-- What the checker knows when all blocks are reached. -/
def knowsOf (params : Int) (f : Spots) (bs : List PBlock) : Known where
  params := params
  f := f
  preds := lii (turnN (tidyN (rowsP bs)))
  sp := fun b => (spansZ (orderN (tidyN (rowsP bs))) (idomN (tidyN (rowsP bs)))).getD b (0, 0)
  n := bs.length
def ReachPost (cb mb cc : Nat) (params : Int) (bv : Value) (f : Spots) (bs : List PBlock) (w : World) (en : Ending) (w' : World) : Prop :=
  match reachF (idomN (tidyN (rowsP bs))) with
  | some e => Gives e w en w'
  | none => en = .returned (.tuple #[]) ∧ But cb w w' ∧ ∃ pv sb c, Chk2 w' cb mb cc bv pv sb c (knowsOf params f bs)
theorem own_set {w : World} {B : Nat} {e : TypeId} {s : Nat} {v : Value} {n : Nat} {xs : List Value} (h : w.ownsRow B e s v n xs) {cb : Nat} (hc : cb < B) (i : Nat) (u : Value) : (w.setCell ⟨cb, i, none⟩ u).ownsRow B e s v n xs := by
  refine World.ownsRow.kept h (setCell_grownBy w ⟨cb, i, none⟩ u) ?_
  cases hv : v.ownBlock with
  | none => exact Or.inl rfl
  | some g =>
    right
    have := (h.lt g hv).1
    intro e
    injection e with e
    change g = cb at e
    omega
theorem gridD_set {w : World} {B b : Nat} {R : List (List Int)} (h : GridD B b w R) {cb : Nat} (hc : cb < B) (i : Nat) (u : Value) : GridD B b (w.setCell ⟨cb, i, none⟩ u) R := by
  obtain ⟨vs, h1, h2, h3, h4⟩ := h
  refine ⟨vs, own_set h1 hc i u, h2, fun j hj => ?_, h4⟩
  obtain ⟨x, e, hx⟩ := h3 j hj
  exact ⟨x, e, own_set hx hc i u⟩
theorem spot_set {w : World} {b c : Nat} {f : Spots} (h : SpotAt w b c f) {cb : Nat} (hc : b ≠ cb) (i : Nat) (u : Value) : SpotAt (w.setCell ⟨cb, i, none⟩ u) b c f :=
  h.kept (setCell_grownBy w ⟨cb, i, none⟩ u) (fun e => hc (Option.some.inj e))
theorem grid_of_made {B b : Nat} {w : World} {R : List (List Int)} (h : GridD B b w R) : Grid w (.slice (some ⟨b, 0, none⟩) R.length R.length) R := (GridD.grid h).grid
theorem tidy_small {g : List (List Int)} (hg : g.length ≤ 1000) : Small (lii (tidyN g)) := by
  have hl : (lii (tidyN g)).length = g.length := by unfold lii; rw [List.length_map, tidyN_len]
  refine ⟨by omega, fun i hi => ?_⟩
  unfold lii at hi ⊢
  rw [List.getElem_map]
  rw [List.length_map] at hi
  unfold li tidyN
  rw [List.length_map, List.getElem_map]
  exact Nat.le_trans (List.length_filter_le _ _) (by rw [List.length_range]; omega)
set_option maxRecDepth 100000 in
set_option maxHeartbeats 8000000 in
theorem reach_any (w : World) (cb mb cc : Nat) (params : Int) (b0 c : Nat) (bs : List PBlock) (f : Spots) (hc : ChkAt w cb mb cc params (.slice (some ⟨b0, 0, none⟩) bs.length c) f) (hbs : BlocksAt w (.slice (some ⟨b0, 0, none⟩) bs.length c) bs)
    (hn0 : 0 < bs.length) (hn : bs.length ≤ 512) (hto : ∀ k (h : k < bs.length), bs[k].term.to.length ≤ 1000) (hmade : ∀ x s, f x = some s → ∃ b : Nat, s.1 = (b : Int) ∧ b < bs.length) (hcbb : ∀ g, g < w.heap.size → True) :
    Calls Try.prog 25 #[.pointer (some ⟨cb, 0, none⟩)] w (ReachPost cb mb cc params (.slice (some ⟨b0, 0, none⟩) bs.length c) f bs w) := by
  obtain ⟨us, hB⟩ := blocks_of hbs
  have hcap : bs.length ≤ c := by
    obtain ⟨A', c', b, o, e, h1, h2, _⟩ := hbs
    injection e with _ _ e3
    omega
  have hgl : (rowsP bs).length = bs.length := rowsP_len bs
  have hsm : Small (rowsP bs) := ⟨by omega, fun i hi => by
    have hi' : i < bs.length := by omega
    have : (rowsP bs)[i] = bs[i].term.to := by simp [rowsP]
    rw [this]; exact hto i hi'⟩
  have HOF := Lib.hid (fun w' (hb : Below w.heap.size w w') => by
    have h := of_code w' params (some ⟨b0, 0, none⟩) b0 c us (rowsP bs) (fun _ => rfl) (hB.keep hb) (by omega) hsm
    rw [hgl] at h
    exact h)
  have HMADE := Lib.hid hmade
  have HC := Lib.hid hc
  have hil : (idomN (tidyN (rowsP bs))).length = bs.length := by rw [idom_len, hgl]
  have htl : (tidyN (rowsP bs)).length = bs.length := by rw [tidyN_len, hgl]
  have hll : (lii (tidyN (rowsP bs))).length = bs.length := by unfold lii; rw [List.length_map, htl]
  have HTS := Lib.hid (show Small (lii (tidyN (rowsP bs))) from tidy_small (by omega))
  have HSP := Lib.hid (order_spanned (g := rowsP bs) (by omega))
  have hol : (orderN (tidyN (rowsP bs))).length ≤ 1000 := by have := order_le (rowsP bs); omega
  have HIL := Lib.hid hil
  have HTL := Lib.hid htl
  have HLL := Lib.hid hll
  have HRL := Lib.hid (show (lii (turnN (tidyN (rowsP bs)))).length = bs.length by unfold lii; rw [List.length_map, turnN_len, htl])
  have k0 := hc.c0
  have k1 := hc.c1
  clear hB hbs hgl hsm hto hmade hc hil htl hll hcbb
  go_enter Try.func25, Try.ntmps25
  go_wp2_with fail
  refine (HOF.out w (Below.refl _ _)).mono ?_
  rintro e w1 ⟨b1, rfl, hg1, hb1⟩
  rw [HTL.out]
  have hgr1 := grid_of_made hg1
  rw [HLL.out] at hgr1
  have HG1 := Lib.hid hgr1
  have HD1 := Lib.hid hg1
  have HB1 := Lib.hid hb1
  clear hg1 hgr1 hb1 HOF
  go_wp2_with fail
  refine (idom_code w1 _ _ HG1.out HTS.out).mono ?_
  rintro e w2 ⟨v2, rfl, ho2, hb2⟩
  rw [tidy_again] at ho2
  have hi2 := ho2.ints
  obtain ⟨A2, c2, rfl, i1, i2, i3⟩ := hi2
  rw [HIL.out] at i1 ⊢
  unfold maxLen at i2
  have HI2 := Lib.hid i3
  have HII2 := Lib.hid ho2
  have HD2 := Lib.hid (HD1.out.below hb2)
  have HB2 := Lib.hid (HB1.out.trans (hb2.mono HB1.out.size))
  have HG2 := Lib.hid (HG1.out.keep hb2)
  clear ho2 hb2 i3 HG1
  go_wp2_with fail
  go_loopw [4, 14] (fun _ i wr => ∃ k : Nat, k ≤ bs.length ∧ i = .int .i64 k ∧ (∀ j, j < k → badR (idomN (tidyN (rowsP bs))) j = false) ∧ Below w2.heap.size w2 wr) (fun _ i _ => bs.length - (intOf i).toNat)
  case atStart => exact ⟨0, by omega, rfl, fun j hj => by omega, Below.refl _ _⟩
  case round =>
    obtain ⟨k, hk, rfl, hpre, hb⟩ := hrel
    obtain ⟨wo, rfl⟩ : ∃ wo : World, wo = wr := ⟨_, rfl⟩
    have HB3 := Lib.hid (HB2.out.trans (hb.mono HB2.out.size))
    have HBB := Lib.hid hb
    have HPRE := Lib.hid hpre
    clear hpre
    by_cases hlt : k < bs.length
    · obtain ⟨ad, rfl, hx⟩ := HI2.out k (by rw [HIL.out]; exact hlt)
      have hx := cell_keep hb (Nat.le_refl _) hx
      have HGD := Lib.hid (show (idomN (tidyN (rowsP bs))).getD k 0 = (idomN (tidyN (rowsP bs)))[k]'(by rw [HIL.out]; exact hlt) by
        rw [List.getD_eq_getElem?_getD, List.getElem?_eq_getElem (by rw [HIL.out]; exact hlt)]; rfl)
      have HSOME := Lib.hid (fun h => @reachF_some (idomN (tidyN (rowsP bs))) k (by rw [HIL.out]; exact hlt) h HPRE.out)
      have HBAD := Lib.hid (show badR (idomN (tidyN (rowsP bs))) k = (decide (0 < k) && decide ((idomN (tidyN (rowsP bs))).getD k 0 < 0)) from rfl)
      generalize (idomN (tidyN (rowsP bs)))[k]'(by rw [HIL.out]; exact hlt) = x at *
      clear hb
      by_cases hk0 : k = 0
      · have HO := Lib.hid (show ∀ j, j < k + 1 → badR (idomN (tidyN (rowsP bs))) j = false from fun j hj => by
          have : j = 0 := by omega
          subst this; rfl)
        subst hk0
        go_wp2_with fail
        refine (deny_n _ 15 _ 0 (by first | rfl | simp)).mono ?_
        rintro e w' ⟨rfl, hb'⟩
        have HB4 := Lib.hid (HBB.out.trans (hb'.mono HBB.out.size))
        clear hb'
        go_wp2
        go_roundw
        case rel => exact ⟨0 + 1, by omega, by go_num, HO.out, HB4.out⟩
        case measure => simp [intOf]; omega
      · by_cases hx0 : x < 0
        · have HE := Lib.hid (HSOME.out (by rw [HBAD.out, HGD.out, decide_eq_true hx0, decide_eq_true (by omega : 0 < k)]; rfl))
          have hkp : (0 : Int) < (k : Int) := by omega
          go_wp2_with fail
          refine (deny_y _ 15 (k : Int) 0 (by first | rfl | simp [hx0] | (simp; omega))).mono ?_
          rintro e w' ⟨rfl, hb'⟩
          refine ⟨rfl, ?_⟩
          show ReachPost cb mb cc params _ f bs w (.panicked _) w'
          unfold ReachPost
          rw [HE.out]
          exact ⟨rfl, HB3.out.trans (hb'.mono HB3.out.size)⟩
        · have HO := Lib.hid (show ∀ j, j < k + 1 → badR (idomN (tidyN (rowsP bs))) j = false from fun j hj => by
            rcases Nat.lt_or_ge j k with h | h
            · exact HPRE.out j h
            · have : j = k := by omega
              subst this
              rw [HBAD.out, HGD.out, decide_eq_false hx0, Bool.and_false])
          have hkp : (0 : Int) < (k : Int) := by omega
          go_wp2_with fail
          refine (deny_n _ 15 (k : Int) 0 (by first | rfl | simp [hx0] | (simp; omega))).mono ?_
          rintro e w' ⟨rfl, hb'⟩
          have HB4 := Lib.hid (HBB.out.trans (hb'.mono HBB.out.size))
          clear hb'
          go_wp2
          go_roundw
          case rel => exact ⟨k + 1, by omega, by go_num, HO.out, HB4.out⟩
          case measure => simp [intOf]; omega
    · obtain rfl : k = bs.length := by omega
      have HRN := Lib.hid (reachF_none (idom := idomN (tidyN (rowsP bs))) (fun j hj => HPRE.out j (by rw [HIL.out] at hj; exact hj)))
      have HGo := Lib.hid (HG2.out.keep hb)
      have HDo := Lib.hid (HD2.out.below hb)
      have HIo := Lib.hid (own_below HII2.out hb)
      have hcb := lt_of_cell k0
      simp only at hcb
      have hw1 := HB1.out.size
      clear hb HPRE HG2 HD2 HII2 HBB
      go_wp2_with fail
      refine (preds_code wo _ _ HGo.out HTS.out).mono ?_
      rintro e w3 ⟨b3, rfl, hg3, hb3⟩
      rw [tidy_again] at hg3 ⊢
      rw [turnN_len, HTL.out]
      obtain ⟨pv, sv, hst⟩ := HC.out.str
      have hB3 := HB3.out.trans (hb3.mono HB3.out.size)
      have hst3 := hst.below hB3
      have s3 := hst3.cell 3
      have sf3 := hst3.frozen 3
      have HST3 := Lib.hid hst3
      have HG3 := Lib.hid (gridD_set hg3 (cb := cb) (by have := HB3.out.size; omega) 3 (.slice (some ⟨b3, 0, none⟩) bs.length bs.length))
      have HD3 := Lib.hid (gridD_set (HDo.out.below hb3) (cb := cb) hcb 3 (.slice (some ⟨b3, 0, none⟩) bs.length bs.length))
      have HI3 := Lib.hid (own_set (own_below HIo.out hb3) (cb := cb) (by omega) 3 (.slice (some ⟨b3, 0, none⟩) bs.length bs.length))
      have HS3 := Lib.hid (spot_set (HC.out.spots.below hB3) HC.out.ne.symm 3 (.slice (some ⟨b3, 0, none⟩) bs.length bs.length))
      have HBT3 := Lib.hid ((But.of_below (m := cb) hB3).trans (But.of_grown (setCell_grownBy w3 ⟨cb, 3, none⟩ (.slice (some ⟨b3, 0, none⟩) bs.length bs.length))))
      have HST4 := Lib.hid (hst3.set 3 (.slice (some ⟨b3, 0, none⟩) bs.length bs.length))
      clear hg3 hb3 hst hst3 hB3 HGo HDo HIo
      go_wp2_with fail
      generalize w3.setCell ⟨cb, 3, none⟩ (.slice (some ⟨b3, 0, none⟩) bs.length bs.length) = W4 at *
      have hgr4 := grid_of_made HD3.out
      rw [HLL.out] at hgr4
      refine (order_code W4 _ _ hgr4 HTS.out).mono ?_
      rintro e w5 ⟨v5, rfl, ho5, hb5⟩
      rw [tidy_again] at ho5
      have HI5 := Lib.hid (own_below HI3.out hb5)
      have HO5 := Lib.hid ho5.ints
      have HG5 := Lib.hid (HG3.out.below hb5)
      have HS5 := Lib.hid (HS3.out.below hb5)
      have HST5 := Lib.hid (HST4.out.below hb5)
      have HBT5 := Lib.hid (HBT3.out.trans (But.of_below hb5))
      clear hgr4 ho5 hb5 HD3 HI3 HG3 HS3 HST4 HBT3 s3 sf3
      have hii := OwnInts.ints HI5.out
      rw [HIL.out] at hii
      obtain ⟨A5, c5, rfl⟩ : ∃ A5 c5, v5 = .slice A5 (li (orderN (tidyN (rowsP bs)))).length c5 := by obtain ⟨A, c, e, _⟩ := HO5.out; exact ⟨A, c, e⟩
      clear hii
      go_wp2_with fail
      have hi5 : Ints w5 (.slice A2 bs.length c2) (idomN (tidyN (rowsP bs))) := by have h := OwnInts.ints HI5.out; rw [HIL.out] at h; exact h
      refine (cspans_any w5 _ _ (orderN (tidyN (rowsP bs))) (idomN (tidyN (rowsP bs))) HO5.out hi5 HSP.out (by rw [HIL.out]; omega) hol).mono ?_
      rintro e w6 ⟨v6, rfl, ho6, hb6⟩
      have hzl : (spansZ (orderN (tidyN (rowsP bs))) (idomN (tidyN (rowsP bs)))).length = bs.length := by
        unfold spansZ; rw [(spanZ_len _ _ _).2, HIL.out]
      obtain ⟨A6, c6, rfl⟩ := own_form ho6
      obtain ⟨g6, rfl⟩ := own_at ho6 (by rw [hzl]; omega)
      rw [hzl] at ho6 ⊢
      have HZL := Lib.hid hzl
      have HST6 := Lib.hid (HST5.out.below hb6)
      have s4 := HST6.out.cell 4
      have sf4 := HST6.out.frozen 4
      have HBT6 := Lib.hid (HBT5.out.trans (But.of_below hb6))
      have HO6 := Lib.hid ho6
      have HG6 := Lib.hid (HG5.out.below hb6)
      have HS6 := Lib.hid (HS5.out.below hb6)
      have hcb5 : cb < w5.heap.size := HST5.out.lt
      clear ho6 hb6 hzl hi5
      go_wp2
      go_end0
      have hst := HST6.out.set 4 (.slice (some ⟨g6, 0, none⟩) bs.length c6)
      have hor := own_set HO6.out hcb5 4 (.slice (some ⟨g6, 0, none⟩) bs.length c6)
      have hgr := grid_of_made (gridD_set HG6.out (cb := cb) (by have := HB3.out.size; omega) 4 (.slice (some ⟨g6, 0, none⟩) bs.length c6))
      have hsp := spot_set HS6.out HC.out.ne.symm 4 (.slice (some ⟨g6, 0, none⟩) bs.length c6)
      unfold ReachPost
      rw [HRN.out]
      refine ⟨rfl, HBT6.out.trans (But.of_grown (setCell_grownBy w6 ⟨cb, 4, none⟩ _)), .slice (some ⟨b3, 0, none⟩) bs.length bs.length, g6, c6, ⟨hst.cell 0, hst.cell 1, hst.cell 2, hsp, HC.out.ne, ⟨_, _, hst⟩⟩, hst.cell 3, ?_, hst.cell 4, fun b hb => ?_, by show bs.length ≤ 100000; omega, HMADE.out⟩
      · have h := hgr
        rw [HRL.out] at h
        exact h
      · have hb' : b < (spansZ (orderN (tidyN (rowsP bs))) (idomN (tidyN (rowsP bs)))).length := by rw [HZL.out]; exact hb
        have h := OwnRanges.cells (l := spansZ (orderN (tidyN (rowsP bs))) (idomN (tidyN (rowsP bs)))) (n := bs.length) (c := c6) (by unfold OwnRanges; exact hor) (b := b) hb'
        have he : (knowsOf params f bs).sp b = (spansZ (orderN (tidyN (rowsP bs))) (idomN (tidyN (rowsP bs))))[b] := by
          show List.getD _ _ _ = _
          rw [List.getD_eq_getElem?_getD, List.getElem?_eq_getElem hb']; rfl
        rw [he]
        exact h.1
end Go.Proofs.Ytdfehpcbcgbidaa.Kc
/- Stage 3: how check.Func ends: its deferred closure. -/
namespace Go.Proofs.Ytdfehpcbcgbidaa.Kc
open Go.ChangeShapes Go.WideShapes Go.ChangeAt Go.RowKit Go.Maps Go.Proofs.Ytdfehpcbcgbidaa.Mem Go.Proofs.Ytdfehpcbcgbidaa.Br
set_option linter.unusedVariables false
set_option maxRecDepth 100000 in
theorem catch_idle (p1 p2 p3 : Addr) (w : World) :
    CallsD Try.prog 19 #[.pointer (some p1), .pointer (some p2), .pointer (some p3)] .returning w fun e u' w' => e = .returned (.tuple #[]) ∧ u' = .returning ∧ w' = w := by
  have hq : ∀ w, (binOp .eql 20 .nilIface .nilIface).run Try.prog w = .ok (.bool true) w := fun _ => by kernel_rfl
  refine callsD_of_wpS Try.func19 rfl fun c₀ cs hu => ?_
  apply wpS_seq
  apply wpS_region
  generalize hQ : Exit.thenS _ _ = Q
  simp [wpOpsS, go_sem, recoverD, hu, Try.ntmps19]
  subst hQ
  dsimp only [Exit.thenS]
  simp only [Array.replicate_succ, Array.replicate_zero, List.push_toArray, List.append_toArray, List.nil_append, List.cons_append, List.setIfInBounds_toArray, List.set_cons_zero, List.set_cons_succ]
  refine wpS_of_wp ?_
  go_wp2
  cases c₀
  simp_all [bodyPostS, results, Try.results19]
set_option maxRecDepth 100000 in
set_option maxHeartbeats 2000000 in
theorem catch_wrong (x1 x2 x3 : Nat) (a1 a2 a3 e b p : Int) (older : List PanicEntry) (w : World) (h1 : Str w x1 37 [.int .i64 a1]) (h2 : Str w x2 3 [.int .i64 a2]) (h3 : Str w x3 3 [.int .i64 a3]) (h12 : x1 < x2) (h23 : x2 < x3) :
    CallsD Try.prog 19 #[.pointer (some ⟨x1, 0, none⟩), .pointer (some ⟨x2, 0, none⟩), .pointer (some ⟨x3, 0, none⟩)] (.panicking ({ v := denied e b p, recovered := false } :: older)) w fun en u' w' =>
      en = .returned (.tuple #[]) ∧ u' = .panicking ({ v := denied e b p, recovered := true } :: older) ∧ Str w' x1 37 [.int .i64 e] ∧ Str w' x2 3 [.int .i64 b] ∧ Str w' x3 3 [.int .i64 p] ∧ Below x1 w w' := by
  have hq : ∀ w, (binOp .eql 20 (denied e b p) .nilIface).run Try.prog w = .ok (.bool false) w := fun _ => by kernel_rfl
  have hl1 := h1.lt
  have hl2 := h2.lt
  have hl3 := h3.lt
  refine callsD_of_wpS Try.func19 rfl fun c₀ cs hu => ?_
  apply wpS_seq
  apply wpS_region
  generalize hQ : Exit.thenS _ _ = Q
  simp [wpOpsS, go_sem, recoverD, hu, Try.ntmps19]
  subst hQ
  dsimp only [Exit.thenS]
  simp only [Array.replicate_succ, Array.replicate_zero, List.push_toArray, List.append_toArray, List.nil_append, List.cons_append, List.setIfInBounds_toArray, List.set_cons_zero, List.set_cons_succ]
  refine wpS_of_wp ?_
  have hta : ∀ w, (Instr.typeAssert (.iface 58 (.agg #[.int .i64 e, .int .i64 b, .int .i64 p])) 20 58 true).run Try.prog w = .ok (.tuple #[.agg #[.int .i64 e, .int .i64 b, .int .i64 p], .bool true]) w := fun _ => by kernel_rfl
  unfold denied at hq ⊢
  have HU := Lib.hid hu
  have H1 := Lib.hid h1
  have H2 := Lib.hid h2
  have H3 := Lib.hid h3
  clear hu h1 h2 h3
  go_wp2
  obtain ⟨W, hW⟩ : ∃ W, w.alloc (.cells #[.int .i64 e, .int .i64 b, .int .i64 p] 58) = W := ⟨_, rfl⟩
  rw [hW]
  have hbW : Below w.heap.size w W := by rw [← hW]; exact (Below.refl _ _).alloc (Nat.le_refl _) _
  have gv : Str W w.heap.size 58 [.int .i64 e, .int .i64 b, .int .i64 p] := by rw [← hW]; exact World.alloc_heap_new w _
  clear hW
  have v0 : W.cell? ⟨w.heap.size, 0, none⟩ = some (.int .i64 e) := gv.cell 0
  have v1 : W.cell? ⟨w.heap.size, 1, none⟩ = some (.int .i64 b) := gv.cell 1
  have v2 : W.cell? ⟨w.heap.size, 2, none⟩ = some (.int .i64 p) := gv.cell 2
  have g1 := H1.out.below hbW
  have g2 := H2.out.below hbW
  have g3 := H3.out.below hbW
  have hbb : Below x1 w W := hbW.mono (by omega)
  clear hbW
  refine region_heldC_wp (fun w' => w'.cell? ⟨w.heap.size, 0, none⟩ = some (.int .i64 e) ∧ w'.cell? ⟨w.heap.size, 1, none⟩ = some (.int .i64 b) ∧ w'.cell? ⟨w.heap.size, 2, none⟩ = some (.int .i64 p)) [0, 1, 2, 3, 4, 5, 6, 7] [0, 1, 2, 3, 4, 5, 6, 7, 8, 9, 10] (by kernel_rfl) (by kernel_rfl) (by kernel_rfl) rfl (by intro c a d v w h; cases d <;> exact h) ⟨v0, v1, v2⟩ ?_
  refine walkC_still _ ?s0 rfl rfl rfl ?sy0 ?_
  case sy0 => intro w hS; go_simp; first | done | with_reducible rfl
  simp only [Act.put]
  refine walkC_still _ ?s1 rfl rfl rfl ?sy1 ?_
  case sy1 => intro w hS; go_simp; first | done | with_reducible rfl
  simp only [Act.put]
  refine walkC_still _ ?s2 rfl rfl rfl ?sy2 ?_
  case sy2 => intro w hS; go_simp; first | done | with_reducible rfl
  simp only [Act.put]
  refine walkC_still _ ?s3 rfl rfl rfl ?sy3 ?_
  case sy3 => intro w hS; go_simp; first | done | with_reducible rfl
  simp only [Act.put]
  refine walkC_still _ ?s4 rfl rfl rfl ?sy4 ?_
  case sy4 => intro w hS; go_simp; first | done | with_reducible rfl
  simp only [Act.put]
  refine walkC_still _ ?s5 rfl rfl rfl ?sy5 ?_
  case sy5 => intro w hS; go_simp; first | done | with_reducible rfl
  simp only [Act.put]
  refine walkC_still _ ?s6 rfl rfl rfl ?sy6 ?_
  case sy6 => intro w hS; go_simp; first | done | with_reducible rfl
  simp only [Act.put]
  refine walkC_still _ ?s7 rfl rfl rfl ?sy7 ?_
  case sy7 => intro w hS; go_simp; first | done | with_reducible rfl
  simp only [Act.put]
  try simp only [List.setIfInBounds_toArray, List.set_cons_zero, List.set_cons_succ]
  refine walkC_does _ rfl rfl ?_
  have sf1 := g1.frozen 0
  have sc1 := g1.cell 0
  go_wp2
  have n1 : Str (W.setCell ⟨x1, 0, none⟩ (.int .i64 e)).drew x1 37 [.int .i64 e] := (show Str (W.setCell ⟨x1, 0, none⟩ (.int .i64 e)) x1 37 [.int .i64 e] from g1.set 0 (.int .i64 e))
  have n2 : Str (W.setCell ⟨x1, 0, none⟩ (.int .i64 e)).drew x2 3 [.int .i64 a2] := (show Str (W.setCell ⟨x1, 0, none⟩ (.int .i64 e)) x2 3 [.int .i64 a2] from Str.kept g2 (setCell_grownBy W ⟨x1, 0, none⟩ (.int .i64 e)) (fun h => by have h := Option.some.inj h; simp only at h; omega))
  have n3 : Str (W.setCell ⟨x1, 0, none⟩ (.int .i64 e)).drew x3 3 [.int .i64 a3] := (show Str (W.setCell ⟨x1, 0, none⟩ (.int .i64 e)) x3 3 [.int .i64 a3] from Str.kept g3 (setCell_grownBy W ⟨x1, 0, none⟩ (.int .i64 e)) (fun h => by have h := Option.some.inj h; simp only at h; omega))
  have nv : Str (W.setCell ⟨x1, 0, none⟩ (.int .i64 e)).drew w.heap.size 58 [.int .i64 e, .int .i64 b, .int .i64 p] := show Str (W.setCell ⟨x1, 0, none⟩ (.int .i64 e)) w.heap.size 58 [.int .i64 e, .int .i64 b, .int .i64 p] from Str.kept gv (setCell_grownBy W ⟨x1, 0, none⟩ (.int .i64 e)) (fun h => by have h := Option.some.inj h; simp only at h; omega)
  have nb : Below x1 w (W.setCell ⟨x1, 0, none⟩ (.int .i64 e)).drew := (hbb.setCell (p := ⟨x1, 0, none⟩) (by simp only; omega) _).drew
  clear v0 v1 v2 g1 g2 g3 gv sf1 sc1 hbb
  generalize (W.setCell ⟨x1, 0, none⟩ (.int .i64 e)).drew = W4 at *
  have v0 : W4.cell? ⟨w.heap.size, 0, none⟩ = some (.int .i64 e) := nv.cell 0
  have v1 : W4.cell? ⟨w.heap.size, 1, none⟩ = some (.int .i64 b) := nv.cell 1
  have v2 : W4.cell? ⟨w.heap.size, 2, none⟩ = some (.int .i64 p) := nv.cell 2
  have g1 := n1
  have g2 := n2
  have g3 := n3
  have gv := nv
  have hbb := nb
  clear n1 n2 n3 nv nb
  refine behindC ⟨v0, v1, v2⟩ ?_
  try simp only [List.setIfInBounds_toArray, List.set_cons_zero, List.set_cons_succ]
  refine walkC_does _ rfl rfl ?_
  have sf2 := g2.frozen 0
  have sc2 := g2.cell 0
  go_wp2
  have n1 : Str (W4.setCell ⟨x2, 0, none⟩ (.int .i64 b)) x1 37 [.int .i64 e] := (show Str (W4.setCell ⟨x2, 0, none⟩ (.int .i64 b)) x1 37 [.int .i64 e] from Str.kept g1 (setCell_grownBy W4 ⟨x2, 0, none⟩ (.int .i64 b)) (fun h => by have h := Option.some.inj h; simp only at h; omega))
  have n2 : Str (W4.setCell ⟨x2, 0, none⟩ (.int .i64 b)) x2 3 [.int .i64 b] := (show Str (W4.setCell ⟨x2, 0, none⟩ (.int .i64 b)) x2 3 [.int .i64 b] from g2.set 0 (.int .i64 b))
  have n3 : Str (W4.setCell ⟨x2, 0, none⟩ (.int .i64 b)) x3 3 [.int .i64 a3] := (show Str (W4.setCell ⟨x2, 0, none⟩ (.int .i64 b)) x3 3 [.int .i64 a3] from Str.kept g3 (setCell_grownBy W4 ⟨x2, 0, none⟩ (.int .i64 b)) (fun h => by have h := Option.some.inj h; simp only at h; omega))
  have nv : Str (W4.setCell ⟨x2, 0, none⟩ (.int .i64 b)) w.heap.size 58 [.int .i64 e, .int .i64 b, .int .i64 p] := show Str (W4.setCell ⟨x2, 0, none⟩ (.int .i64 b)) w.heap.size 58 [.int .i64 e, .int .i64 b, .int .i64 p] from Str.kept gv (setCell_grownBy W4 ⟨x2, 0, none⟩ (.int .i64 b)) (fun h => by have h := Option.some.inj h; simp only at h; omega)
  have nb : Below x1 w (W4.setCell ⟨x2, 0, none⟩ (.int .i64 b)) := (hbb.setCell (p := ⟨x2, 0, none⟩) (by simp only; omega) _)
  clear v0 v1 v2 g1 g2 g3 gv sf2 sc2 hbb
  generalize (W4.setCell ⟨x2, 0, none⟩ (.int .i64 b)) = W5 at *
  have v0 : W5.cell? ⟨w.heap.size, 0, none⟩ = some (.int .i64 e) := nv.cell 0
  have v1 : W5.cell? ⟨w.heap.size, 1, none⟩ = some (.int .i64 b) := nv.cell 1
  have v2 : W5.cell? ⟨w.heap.size, 2, none⟩ = some (.int .i64 p) := nv.cell 2
  have g1 := n1
  have g2 := n2
  have g3 := n3
  have gv := nv
  have hbb := nb
  clear n1 n2 n3 nv nb
  refine behindC ⟨v0, v1, v2⟩ ?_
  try simp only [List.setIfInBounds_toArray, List.set_cons_zero, List.set_cons_succ]
  refine walkC_does _ rfl rfl ?_
  have sf3 := g3.frozen 0
  have sc3 := g3.cell 0
  go_wp2
  have n1 : Str (W5.setCell ⟨x3, 0, none⟩ (.int .i64 p)) x1 37 [.int .i64 e] := (show Str (W5.setCell ⟨x3, 0, none⟩ (.int .i64 p)) x1 37 [.int .i64 e] from Str.kept g1 (setCell_grownBy W5 ⟨x3, 0, none⟩ (.int .i64 p)) (fun h => by have h := Option.some.inj h; simp only at h; omega))
  have n2 : Str (W5.setCell ⟨x3, 0, none⟩ (.int .i64 p)) x2 3 [.int .i64 b] := (show Str (W5.setCell ⟨x3, 0, none⟩ (.int .i64 p)) x2 3 [.int .i64 b] from Str.kept g2 (setCell_grownBy W5 ⟨x3, 0, none⟩ (.int .i64 p)) (fun h => by have h := Option.some.inj h; simp only at h; omega))
  have n3 : Str (W5.setCell ⟨x3, 0, none⟩ (.int .i64 p)) x3 3 [.int .i64 p] := (show Str (W5.setCell ⟨x3, 0, none⟩ (.int .i64 p)) x3 3 [.int .i64 p] from g3.set 0 (.int .i64 p))
  have nv : Str (W5.setCell ⟨x3, 0, none⟩ (.int .i64 p)) w.heap.size 58 [.int .i64 e, .int .i64 b, .int .i64 p] := show Str (W5.setCell ⟨x3, 0, none⟩ (.int .i64 p)) w.heap.size 58 [.int .i64 e, .int .i64 b, .int .i64 p] from Str.kept gv (setCell_grownBy W5 ⟨x3, 0, none⟩ (.int .i64 p)) (fun h => by have h := Option.some.inj h; simp only at h; omega)
  have nb : Below x1 w (W5.setCell ⟨x3, 0, none⟩ (.int .i64 p)) := (hbb.setCell (p := ⟨x3, 0, none⟩) (by simp only; omega) _)
  clear v0 v1 v2 g1 g2 g3 gv sf3 sc3 hbb
  generalize (W5.setCell ⟨x3, 0, none⟩ (.int .i64 p)) = W6 at *
  have v0 : W6.cell? ⟨w.heap.size, 0, none⟩ = some (.int .i64 e) := nv.cell 0
  have v1 : W6.cell? ⟨w.heap.size, 1, none⟩ = some (.int .i64 b) := nv.cell 1
  have v2 : W6.cell? ⟨w.heap.size, 2, none⟩ = some (.int .i64 p) := nv.cell 2
  have g1 := n1
  have g2 := n2
  have g3 := n3
  have gv := nv
  have hbb := nb
  clear n1 n2 n3 nv nb
  refine behindC ⟨v0, v1, v2⟩ (walkC_nil ?_)
  have G1 := Lib.hid g1
  have G2 := Lib.hid g2
  have G3 := Lib.hid g3
  have GB := Lib.hid hbb
  clear v0 v1 v2 gv g1 g2 g3 hbb
  go_wp2
  cases c₀
  clear hq hta
  simp [bodyPostS, results, Try.results19]
  exact ⟨G1.out, G2.out, G3.out, GB.out⟩
end Go.Proofs.Ytdfehpcbcgbidaa.Kc
/- Stage 3: what check's two rounds ask, as function values do it. -/
namespace Go.Proofs.Ytdfehpcbcgbidaa.Kc
open Go.ChangeShapes Go.WideShapes Go.ChangeAt Go.RowKit Go.Maps Go.Proofs.Ytdfehpcbcgbidaa.Mem Go.Proofs.Ytdfehpcbcgbidaa.Br Go.Proofs.Ytdfehpcbcgbidaa.Gr Go.Proofs.Ytdfehpcbcgbidaa.Gn Go.Proofs.Ytdfehpcbcgbidaa.Gc Go.Proofs.Ytdfehpcbcgbidaa.Gl
set_option linter.unusedVariables false
/-- All numbers are such as an int can be. -/
structure WfP (bs : List PBlock) : Prop where
  phi : ∀ x ∈ bs, ∀ p ∈ x.phis, InI p.dst ∧ ∀ i ∈ p.ins, InI i.2
  ins : ∀ x ∈ bs, ∀ i ∈ x.ins, InI i.dst ∧ InI i.two ∧ ∀ v ∈ i.args, InI v
  term : ∀ x ∈ bs, ∀ v ∈ x.term.args, InI v
  size : ∀ k, k ≤ bs.length → uptoP bs k ≤ 1000000000000000000
section
variable {σ α : Type}
theorem seqE_inv {h : Nat → α → σ → Except Fault σ} {P : σ → Prop} : ∀ (l : List α) (k : Nat) (s s' : σ), (∀ j x s s', x ∈ l → k ≤ j → j < k + l.length → P s → h j x s = .ok s' → P s') → P s → seqE h k l s = .ok s' → P s'
  | [], k, s, s', _, hp, e => by
    have : s = s' := by injection e
    subst this; exact hp
  | x :: l, k, s, s', hh, hp, e => by
    unfold seqE at e
    cases hx : h k x s with
    | error f => rw [hx] at e; cases e
    | ok s1 =>
      rw [hx] at e
      exact seqE_inv l (k + 1) s1 s' (fun j y s s' hy h1 h2 => hh j y s s' (List.mem_cons_of_mem _ hy) (by omega) (by simp; omega)) (hh k x s s1 (List.mem_cons_self ..) (Nat.le_refl _) (by simp) hp hx) e
theorem seqE_each {h : Nat → α → σ → Except Fault σ} {R : α → Prop} (hh : ∀ j x s s', h j x s = .ok s' → R x) : ∀ (l : List α) (k : Nat) (s s' : σ), seqE h k l s = .ok s' → ∀ x ∈ l, R x
  | [], k, s, s', _, x, hx => by simp at hx
  | y :: l, k, s, s', e, x, hx => by
    unfold seqE at e
    cases hy : h k y s with
    | error f => rw [hy] at e; cases e
    | ok s1 =>
      rw [hy] at e
      rcases List.mem_cons.1 hx with rfl | hx
      · exact hh _ _ _ _ hy
      · exact seqE_each hh l (k + 1) s1 s' e x hx
theorem bindE_ok {f : σ → Except Fault σ} {r : Except Fault σ} {s : σ} (h : bindE f r = .ok s) : ∃ s1, r = .ok s1 ∧ f s1 = .ok s := by
  cases r with
  | error e => cases h
  | ok s1 => exact ⟨s1, rfl, h⟩
end
/-- All that is known of where values are made lies in blocks below n. -/
def InB (n : Nat) (f : Spots) : Prop := ∀ x s, f x = some s → ∃ b : Nat, s.1 = (b : Int) ∧ b < n
theorem putE_in {n b : Nat} {p : Int} (hb : b < n) : ∀ {vs : List Int} {f g : Spots}, InB n f → putE (b : Int) p vs f = .ok g → InB n g
  | [], f, g, h, e => by
    have : f = g := by injection e
    subst this; exact h
  | v :: vs, f, g, h, e => by
    unfold putE at e
    split at e
    · cases e
    · refine putE_in hb (fun x s hx => ?_) e
      unfold noted at hx
      split at hx
      · have : ((b : Int), p) = s := by injection hx
        subst this; exact ⟨b, rfl, hb⟩
      · exact h x s hx
theorem noteE_in {n b : Nat} {params p : Int} (hb : b < n) {vs : List Int} {f g : Spots} (h : InB n f) (e : noteE params (b : Int) p vs f = .ok g) : InB n g := by
  unfold noteE at e
  split at e
  · cases e
  · exact putE_in hb h e
theorem block1_in {params : Int} {n b : Nat} {m : Nat} (hb : b < m) {x : PBlock} {f g : Spots} (h : InB m f) (e : blockE (look1 params n) b x f = .ok g) : InB m g := by
  rw [blockE_bind] at e
  obtain ⟨s1, e1, e⟩ := bindE_ok e
  obtain ⟨s2, e2, e⟩ := bindE_ok e
  have h1 := seqE_inv (P := InB m) _ _ _ _ (fun j y s s' _ _ _ hp he => noteE_in hb hp he) h e1
  have h2 := seqE_inv (P := InB m) _ _ _ _ (fun j y s s' _ _ _ hp he => by
    have he : insE params (b : Int) (j : Int) y.op y.dst y.two y.args.length s = .ok s' := he
    unfold insE at he
    split at he
    · exact noteE_in hb hp he
    · cases he) h1 e2
  have e : termE n (b : Int) (x.ins.length : Int) x.term.kind x.term.args.length x.term.to s2 = .ok g := e
  unfold termE at e
  split at e
  · split at e
    · cases e
    · have : s2 = g := by injection e
      subst this; exact h2
  · cases e
theorem made_in {params : Int} {n : Nat} {bs : List PBlock} {f g : Spots} (h : InB bs.length f) (e : overE (look1 params n) bs f = .ok g) : InB bs.length g :=
  seqE_inv (P := InB bs.length) _ _ _ _ (fun j y s s' _ h1 h2 hp he => block1_in (by omega) hp he) h e
theorem few_to {params : Int} {n : Nat} {bs : List PBlock} {f g : Spots} (e : overE (look1 params n) bs f = .ok g) : ∀ x ∈ bs, x.term.to.length ≤ 1000 := by
  refine seqE_each (R := fun x : PBlock => x.term.to.length ≤ 1000) (fun j x s s' he => ?_) _ _ _ _ e
  rw [blockE_bind] at he
  obtain ⟨s1, _, he⟩ := bindE_ok he
  obtain ⟨s2, _, he⟩ := bindE_ok he
  have he : termE n (j : Int) (x.ins.length : Int) x.term.kind x.term.args.length x.term.to s2 = .ok s' := he
  unfold termE at he
  split at he
  · rename_i hb
    unfold endB at hb
    split at hb
    · simp at hb; omega
    · split at hb
      · simp at hb; omega
      · split at hb
        · simp at hb; omega
        · split at hb
          · simp at hb
            have := hb.2
            rw [this]; simp
          · split at hb
            · simp at hb
              have := hb.2
              rw [this]; simp
            · cases hb
  · cases he
theorem prodL_len (o d t : Int) : (prodL o d t).length ≤ 2 := by
  unfold prodL
  split
  · decide
  · split <;> simp
theorem enters1 : ∀ F, F = 22 ∨ F = 23 ∨ F = 24 → ∀ (args : Array Value) (w : World), (callFunc F args).run Try.prog w = .ok (.enter F args) w := by
  rintro F (rfl | rfl | rfl) args w <;> kernel_rfl
theorem enters2 : ∀ F, F = 26 ∨ F = 27 ∨ F = 28 → ∀ (args : Array Value) (w : World), (callFunc F args).run Try.prog w = .ok (.enter F args) w := by
  rintro F (rfl | rfl | rfl) args w <;> kernel_rfl
def Inv1 (cb mb : Nat) (params : Int) (bv : Value) (k : Nat) (s : Spots) (w : World) : Prop := ∃ cc, cc ≤ 2 * k ∧ ChkAt w cb mb cc params bv s
theorem first_cbs (cb mb : Nat) (params : Int) (A : Option Addr) (c : Nat) (bs : List PBlock) (w0 : World) (hwf : WfP bs) (hu : uptoP bs bs.length ≤ 4096) :
    Cbs 22 23 24 cb mb (look1 params bs.length) bs w0 (Inv1 cb mb params (.slice A bs.length c)) where
  enter := enters1
  keep := fun k s w w' ⟨cc, h1, h2⟩ hb => ⟨cc, h1, h2.below hb⟩
  phi := fun k s w a n ha hn A' c' hb ⟨cc, h1, h2⟩ hk hr =>
    (phi_any w cb mb cc params a (-1 - (n : Int)) _ A' _ c' _ s h2 (by omega) (hwf.phi _ (List.getElem_mem ha) _ (List.getElem_mem hn)).1).mono fun en w' he => he.imp (But.refl _ _) (fun s' _ hs => ⟨cc + 1, by omega, hs⟩)
  ins := fun k s w a n ha hn A' c' hb ⟨cc, h1, h2⟩ hk hr =>
    (ins_any w cb mb cc params a n _ _ _ _ A' _ c' _ s h2 (by omega) (hwf.ins _ (List.getElem_mem ha) _ (List.getElem_mem hn)).1 (hwf.ins _ (List.getElem_mem ha) _ (List.getElem_mem hn)).2.1).mono fun en w' he => he.imp (But.refl _ _) (fun s' _ hs =>
      ⟨_, by have := prodL_len bs[a].ins[n].op bs[a].ins[n].dst bs[a].ins[n].two; omega, hs⟩)
  term := fun k s w a ha A' c' T cT hb ⟨cc, h1, h2⟩ hk hr ht =>
    (term_any w cb mb cc params a _ _ _ A' _ c' T cT _ A _ c s h2 ht).mono fun en w' he => he.imp (But.refl _ _) (fun s' _ hs => ⟨cc, by omega, hs⟩)
theorem preds_in {bs : List PBlock} {a : Nat} : ∀ x ∈ (lii (turnN (tidyN (rowsP bs)))).getD a [], 0 ≤ x ∧ x < bs.length := by
  intro x hx
  rw [lii_getD] at hx
  obtain ⟨b, hb, rfl⟩ := mem_li.1 hx
  have := (edge_lt (pred_edge.1 hb)).1
  rw [rowsP_len] at this
  omega
theorem second_cbs (cb mb cc : Nat) (params : Int) (f : Spots) (bv pv : Value) (sb c : Nat) (bs : List PBlock) (w0 : World) (hwf : WfP bs) (hbs : BlocksAt w0 bv bs) :
    Cbs 26 27 28 cb mb (look2 bs (knowsOf params f bs).preds (knowsOf params f bs).K) bs w0 (fun _ _ w => Chk2 w cb mb cc bv pv sb c (knowsOf params f bs)) where
  enter := enters2
  keep := fun k s w w' h hb => h.below hb
  phi := fun k s w a n ha hn A' c' hb h hk hr =>
    phiTakes_any w cb mb cc bv pv sb c (knowsOf params f bs) bs a (-1 - (n : Int)) _ A' c' _ h (hbs.keep hb) hr (hwf.phi _ (List.getElem_mem ha) _ (List.getElem_mem hn)).2 ha rfl (by show (lii (turnN (tidyN (rowsP bs)))).length = _; unfold lii; rw [List.length_map, turnN_len, tidyN_len, rowsP_len]) preds_in
  ins := fun k s w a n ha hn A' c' hb h hk hr => insTakes_any w cb mb cc bv pv sb c (knowsOf params f bs) a n _ _ _ _ _ A' _ c' h hr (hwf.ins _ (List.getElem_mem ha) _ (List.getElem_mem hn)).2.2 ha
  term := fun k s w a ha A' c' T cT hb h hk hr ht => termTakes_any w cb mb cc bv pv sb c (knowsOf params f bs) a _ _ _ _ A' _ c' T _ cT h hr (hwf.term _ (List.getElem_mem ha)) ha
end Go.Proofs.Ytdfehpcbcgbidaa.Kc
/- Stage 3: what is wrong first with a function: check.Func. -/
namespace Go.Proofs.Ytdfehpcbcgbidaa.Kc
open Go.ChangeShapes Go.WideShapes Go.ChangeAt Go.RowKit Go.Maps Go.Proofs.Ytdfehpcbcgbidaa.Mem Go.Proofs.Ytdfehpcbcgbidaa.Br Go.Proofs.Ytdfehpcbcgbidaa.Gr Go.Proofs.Ytdfehpcbcgbidaa.Gn Go.Proofs.Ytdfehpcbcgbidaa.Gc Go.Proofs.Ytdfehpcbcgbidaa.Gl
set_option linter.unusedVariables false
/-- What is wrong first with a function. -/
def checkE (params : Int) (bs : List PBlock) : Except Fault Unit :=
  funcE params bs (idomN (tidyN (rowsP bs))) (lii (turnN (tidyN (rowsP bs)))) (fun b => (spansZ (orderN (tidyN (rowsP bs))) (idomN (tidyN (rowsP bs)))).getD b (0, 0))
def checkN (params : Int) (bs : List PBlock) : Fault := toldE (checkE params bs)
def Answers3 (f : Fault) (w : World) (en : Ending) (w' : World) : Prop := en = .returned (.tuple #[.int .i64 f.1, .int .i64 f.2.1, .int .i64 f.2.2]) ∧ Below w.heap.size w w'
def NoPanic (Q : Exit → Act → World → Prop) (e : Exit) (a : Act) (w : World) : Prop :=
  match e with
  | .panic _ => False
  | e => Q e a w
theorem wp_nopanic {P : Program} {c : Code} {Q : Exit → Act → World → Prop} {a : Act} {w : World} (h : c.wp P (NoPanic Q) a w) : c.wp P Q a w := Code.wp_mono (fun e a w h => by cases e <;> first | exact h | exact h.elim) h
theorem nopanic_normal {Q : Exit → Act → World → Prop} {a : Act} {w : World} (h : Q .normal a w) : NoPanic Q .normal a w := h
theorem make_map (n : Int) (w : World) : (Instr.makeMap 59 (some (.int .i64 n))).run Try.prog w = .ok (.map (some w.heap.size)) (w.alloc (.map #[] 0)) := by kernel_rfl
set_option maxRecDepth 100000 in
set_option maxHeartbeats 8000000 in
theorem func_any (w : World) (params : Int) (A : Option Addr) (b0 c : Nat) (bs : List PBlock) (hA : 0 < bs.length → A = some ⟨b0, 0, none⟩) (hbs : BlocksAt w (.slice A bs.length c) bs) (hwf : WfP bs) :
    Calls Try.prog 9 #[.agg #[.int .i64 params, .slice A bs.length c]] w (Answers3 (checkN params bs) w) := by
  have hmf : ∀ (fn : Fn) (first cap : Array Value) (w : World), (Instr.makeFunc fn first cap).run Try.prog w = .ok (.func fn first cap) w := fun _ _ _ _ => rfl
  have hmk := make_map
  have HBS := Lib.hid hbs
  have HWF := Lib.hid hwf
  have HAA := Lib.hid hA
  clear hbs hwf hA
  go_enter_defers Try.func9, Try.ntmps9
  go_upto_region 1 with (fail)
  obtain ⟨W0, hW0⟩ : ∃ W0, ((((w.alloc (.cells #[.int .i64 params, .slice A bs.length c] 24)).alloc (.cells #[.int .i64 0] 37)).alloc (.cells #[.int .i64 0] 3)).alloc (.cells #[.int .i64 0] 3)) = W0 := ⟨_, rfl⟩
  rw [hW0]
  have hb0 : Below w.heap.size w W0 := by
    rw [← hW0]
    exact ((((Below.refl _ _).alloc (Nat.le_refl _) _).alloc (by simp) _).alloc (by simp; omega) _).alloc (by simp; omega) _
  have hf0 : Str W0 w.heap.size 24 [.int .i64 params, .slice A bs.length c] := by
    rw [← hW0]
    exact ((Str.below (show Str _ w.heap.size 24 _ from World.alloc_heap_new w _) ((Below.refl _ _).alloc (Nat.le_refl _) _)).below ((Below.refl _ _).alloc (Nat.le_refl _) _)).below ((Below.refl _ _).alloc (Nat.le_refl _) _)
  have hz1 : (w.alloc (.cells #[.int .i64 params, .slice A bs.length c] 24)).heap.size = w.heap.size + 1 := by simp
  have hz2 : ((w.alloc (.cells #[.int .i64 params, .slice A bs.length c] 24)).alloc (.cells #[.int .i64 0] 37)).heap.size = w.heap.size + 1 + 1 := by simp
  have hz3 : (((w.alloc (.cells #[.int .i64 params, .slice A bs.length c] 24)).alloc (.cells #[.int .i64 0] 37)).alloc (.cells #[.int .i64 0] 3)).heap.size = w.heap.size + 1 + 1 + 1 := by simp
  have hg1 : Str W0 (w.heap.size + 1) 37 [.int .i64 0] := by
    rw [← hW0, ← hz1]
    exact (Str.below (show Str _ _ 37 [.int .i64 0] from World.alloc_heap_new _ _) ((Below.refl _ _).alloc (Nat.le_refl _) _)).below ((Below.refl _ _).alloc (Nat.le_refl _) _)
  have hg2 : Str W0 (w.heap.size + 1 + 1) 3 [.int .i64 0] := by
    rw [← hW0, ← hz2]
    exact Str.below (show Str _ _ 3 [.int .i64 0] from World.alloc_heap_new _ _) ((Below.refl _ _).alloc (Nat.le_refl _) _)
  have hg3 : Str W0 (w.heap.size + 1 + 1 + 1) 3 [.int .i64 0] := by
    rw [← hW0, ← hz3]
    exact World.alloc_heap_new _ _
  clear hW0 hz1 hz2 hz3
  have h01 : w.heap.size < w.heap.size + 1 := by omega
  have h12 : w.heap.size + 1 < w.heap.size + 1 + 1 := by omega
  have h23 : w.heap.size + 1 + 1 < w.heap.size + 1 + 1 + 1 := by omega
  generalize w.heap.size + 1 + 1 + 1 = x3 at *
  generalize w.heap.size + 1 + 1 = x2 at *
  generalize w.heap.size + 1 = x1 at *
  have h3W := hg3.lt
  have HB0 := Lib.hid hb0
  have HF0 := Lib.hid hf0
  have HG1 := Lib.hid hg1
  have HG2 := Lib.hid hg2
  have HG3 := Lib.hid hg3
  have k0 : W0.cell? ⟨w.heap.size, 0, none⟩ = some (.int .i64 params) := hf0.cell 0
  have k1 : W0.cell? ⟨w.heap.size, 1, none⟩ = some (.slice A bs.length c) := hf0.cell 1
  have HBS0 := Lib.hid (HBS.out.keep hb0)
  clear hb0 hf0 hg1 hg2 hg3
  go_wp2_with fail
  by_cases hp : params < 0 ∨ 4 < params
  · have HE := Lib.hid (show checkN params bs = (1, 0, 0) by
      unfold checkN checkE funcE limitsF; rw [if_pos hp]; rfl)
    refine (limits_args _ params A bs.length c hp).mono ?_
    rintro e w1 ⟨rfl, hb1⟩
    have HZ1 := HG1.out.below hb1
    have HZ2 := HG2.out.below hb1
    have HZ3 := HG3.out.below hb1
    refine leaves_cons (f := 19) (args := #[.pointer (some ⟨x1, 0, none⟩), .pointer (some ⟨x2, 0, none⟩), .pointer (some ⟨x3, 0, none⟩)]) (by simp) (by simp [go_sem]) ?_
    refine (catch_wrong x1 x2 x3 0 0 0 _ _ _ [] _ HZ1 HZ2 HZ3 h12 h23).mono ?_
    rintro en u' w'' ⟨rfl, rfl, g1, g2, g3, hbc⟩
    have y1 := g1.cell 0
    have y2 := g2.cell 0
    have y3 := g3.cell 0
    simp at y1 y2 y3
    simp [Leaves, settle, results, Try.results9, go_sem, y1, y2, y3]
    rw [HE.out]
    exact ⟨rfl, (HB0.out.trans (hb1.mono HB0.out.size)).trans (hbc.mono (by omega))⟩
  · have hp1 : ¬ params < 0 := fun h => hp (Or.inl h)
    have hp2 : ¬ 4 < params := fun h => hp (Or.inr h)
    by_cases hn : bs.length = 0
    · have HE := Lib.hid (show checkN params bs = (14, 0, 0) by
        unfold checkN checkE funcE limitsF; rw [if_neg hp, if_pos hn]; rfl)
      obtain rfl : bs = [] := List.length_eq_zero_iff.1 hn
      refine (limits_none _ params A c hp1 hp2).mono ?_
      rintro e w1 ⟨rfl, hb1⟩
      have HZ1 := HG1.out.below hb1
      have HZ2 := HG2.out.below hb1
      have HZ3 := HG3.out.below hb1
      refine leaves_cons (f := 19) (args := #[.pointer (some ⟨x1, 0, none⟩), .pointer (some ⟨x2, 0, none⟩), .pointer (some ⟨x3, 0, none⟩)]) (by simp) (by simp [go_sem]) ?_
      refine (catch_wrong x1 x2 x3 0 0 0 _ _ _ [] _ HZ1 HZ2 HZ3 h12 h23).mono ?_
      rintro en u' w'' ⟨rfl, rfl, g1, g2, g3, hbc⟩
      have y1 := g1.cell 0
      have y2 := g2.cell 0
      have y3 := g3.cell 0
      simp at y1 y2 y3
      simp [Leaves, settle, results, Try.results9, go_sem, y1, y2, y3]
      rw [HE.out]
      exact ⟨rfl, (HB0.out.trans (hb1.mono HB0.out.size)).trans (hbc.mono (by omega))⟩
    · by_cases hn5 : 512 < bs.length
      · have HE := Lib.hid (show checkN params bs = (2, 0, 0) by
          unfold checkN checkE funcE limitsF; rw [if_neg hp, if_neg hn, if_pos hn5]; rfl)
        refine (limits_blocks _ params A c bs HBS0.out hp1 hp2 hn5).mono ?_
        rintro e w1 ⟨rfl, hb1⟩
        have HZ1 := HG1.out.below hb1
        have HZ2 := HG2.out.below hb1
        have HZ3 := HG3.out.below hb1
        refine leaves_cons (f := 19) (args := #[.pointer (some ⟨x1, 0, none⟩), .pointer (some ⟨x2, 0, none⟩), .pointer (some ⟨x3, 0, none⟩)]) (by simp) (by simp [go_sem]) ?_
        refine (catch_wrong x1 x2 x3 0 0 0 _ _ _ [] _ HZ1 HZ2 HZ3 h12 h23).mono ?_
        rintro en u' w'' ⟨rfl, rfl, g1, g2, g3, hbc⟩
        have y1 := g1.cell 0
        have y2 := g2.cell 0
        have y3 := g3.cell 0
        simp at y1 y2 y3
        simp [Leaves, settle, results, Try.results9, go_sem, y1, y2, y3]
        rw [HE.out]
        exact ⟨rfl, (HB0.out.trans (hb1.mono HB0.out.size)).trans (hbc.mono (by omega))⟩
      · have hsz : ∀ k (h : k < bs.length), bs[k].phis.length ≤ maxLen ∧ bs[k].ins.length ≤ maxLen := by
          obtain ⟨A', c', b, o, e, u1, u2, u3, u4⟩ := HBS0.out
          intro k hk
          obtain ⟨_, _, _, _, _, _, _, _, _, _, _, _, _, _, q0, q1, _⟩ := block_rows (u4 k hk)
          obtain ⟨_, _, _, _, _, z1, z2, _⟩ := q0
          obtain ⟨_, _, _, _, _, z3, z4, _⟩ := q1
          exact ⟨Nat.le_trans z1 z2, Nat.le_trans z3 z4⟩
        refine (limits_all _ params A c bs HBS0.out hp1 hp2 (by omega) (by omega) hsz HWF.out.size).mono ?_
        rintro e w1 hlim
        unfold LimPost at hlim
        by_cases hm : 4096 < uptoP bs bs.length
        · have HE := Lib.hid (show checkN params bs = (2, 0, 0) by
            unfold checkN checkE funcE limitsF; rw [if_neg hp, if_neg hn, if_neg hn5, if_pos hm]; rfl)
          rw [if_pos hm] at hlim
          obtain ⟨rfl, hb1⟩ := hlim
          have HZ1 := HG1.out.below hb1
          have HZ2 := HG2.out.below hb1
          have HZ3 := HG3.out.below hb1
          refine leaves_cons (f := 19) (args := #[.pointer (some ⟨x1, 0, none⟩), .pointer (some ⟨x2, 0, none⟩), .pointer (some ⟨x3, 0, none⟩)]) (by simp) (by simp [go_sem]) ?_
          refine (catch_wrong x1 x2 x3 0 0 0 _ _ _ [] _ HZ1 HZ2 HZ3 h12 h23).mono ?_
          rintro en u' w'' ⟨rfl, rfl, g1, g2, g3, hbc⟩
          have y1 := g1.cell 0
          have y2 := g2.cell 0
          have y3 := g3.cell 0
          simp at y1 y2 y3
          simp [Leaves, settle, results, Try.results9, go_sem, y1, y2, y3]
          rw [HE.out]
          exact ⟨rfl, (HB0.out.trans (hb1.mono HB0.out.size)).trans (hbc.mono (by omega))⟩
        · have HL := Lib.hid (show limitsF params bs = none by unfold limitsF; rw [if_neg hp, if_neg hn, if_neg hn5, if_neg hm])
          rw [if_neg hm] at hlim
          obtain ⟨rfl, hb1⟩ := hlim
          have hAe := HAA.out (by omega)
          subst hAe
          have HG1 := Lib.hid (HG1.out.below hb1)
          have HG2 := Lib.hid (HG2.out.below hb1)
          have HG3 := Lib.hid (HG3.out.below hb1)
          have hf1 := HF0.out.below hb1
          have HF1 := Lib.hid hf1
          have HBS1 := Lib.hid (HBS0.out.keep hb1)
          have HB1 := Lib.hid (HB0.out.trans (hb1.mono HB0.out.size))
          have h3W1 := HG3.out.lt
          have k0 : w1.cell? ⟨w.heap.size, 0, none⟩ = some (.int .i64 params) := hf1.cell 0
          have k1 : w1.cell? ⟨w.heap.size, 1, none⟩ = some (.slice (some ⟨b0, 0, none⟩) bs.length c) := hf1.cell 1
          clear hb1 hf1 hsz
          go_upto_region 3 with (fail)
          go_cut [6] from 10 to 13 (fun s6 wx => ∃ cb mb, s6 = .pointer (some ⟨cb, 0, none⟩) ∧ Str wx cb 63 [.int .i64 params, .slice (some ⟨b0, 0, none⟩) bs.length c, .map (some mb), .slice none 0 0, .slice none 0 0] ∧ SpotAt wx mb 0 (fun _ => none) ∧ cb ≠ mb ∧ w1.heap.size ≤ mb ∧ w1.heap.size ≤ cb ∧ Below w1.heap.size w1 wx)
          case first =>
            refine wp_nopanic ?_
            refine region_tree_wp (fun w' => w'.cell? ⟨w.heap.size, 0, none⟩ = some (.int .i64 params) ∧ w'.cell? ⟨w.heap.size, 1, none⟩ = some (.slice (some ⟨b0, 0, none⟩) bs.length c)) (by kernel_rfl) ?_
            change wpAnyT _ _ _ _ _ _ _ _ w1.drew
            obtain ⟨Wd, hWd⟩ : ∃ Wd, w1.drew = Wd := ⟨_, rfl⟩
            rw [hWd]
            have hbd : Below w1.heap.size w1 Wd := by rw [← hWd]; exact (Below.refl _ _).drew
            have hzd : w1.heap.size ≤ Wd.heap.size := by rw [← hWd]; exact Nat.le_refl _
            clear hWd
            have c0 := cell_keep hbd (Nat.le_refl _) k0
            have c1 := cell_keep hbd (Nat.le_refl _) k1
            refine anyT_take (i := 0) _ ?vg0 rfl (by kernel_rfl) (by kernel_rfl) (by kernel_rfl) (by intro c a d v w h; cases d <;> exact h) rfl ?yg0 ⟨c0, c1⟩ ?_
            case yg0 => intro w hS; go_simp; first | done | with_reducible rfl
            simp only [Act.put]
            refine anyT_take (i := 1) _ ?vg1 rfl (by kernel_rfl) (by kernel_rfl) (by kernel_rfl) (by intro c a d v w h; cases d <;> exact h) rfl ?yg1 ⟨c0, c1⟩ ?_
            case yg1 => intro w hS; go_simp; first | done | with_reducible rfl
            simp only [Act.put]
            simp only [List.setIfInBounds_toArray, List.set_cons_zero, List.set_cons_succ]
            refine anyT_two (i := 2) (j := 4) _ _ rfl rfl (by kernel_rfl) ?_ ?_
            · go_wp2
              obtain ⟨W2, hW2⟩ : ∃ W2, Wd.alloc (.map #[] 0) = W2 := ⟨_, rfl⟩
              rw [hW2]
              have hb2 : Below w1.heap.size w1 W2 := by rw [← hW2]; exact hbd.alloc hzd _
              have hsp2 : SpotAt W2 Wd.heap.size 0 (fun _ => none) := by rw [← hW2]; exact SpotAt.made Wd
              have hz2 : Wd.heap.size < W2.heap.size := by rw [← hW2]; simp
              clear hW2
              refine behind_normal ⟨cell_keep hb2 (Nat.le_refl _) k0, cell_keep hb2 (Nat.le_refl _) k1⟩ ?_
              refine anyT_take (i := 3) _ ?vg3 rfl (by kernel_rfl) (by kernel_rfl) (by kernel_rfl) (by intro c a d v w h; cases d <;> exact h) rfl ?yg3 ⟨cell_keep hb2 (Nat.le_refl _) k0, cell_keep hb2 (Nat.le_refl _) k1⟩ ?_
              case yg3 => intro w hS; go_simp; first | done | with_reducible rfl
              simp only [Act.put]
              simp only [List.setIfInBounds_toArray, List.set_cons_zero, List.set_cons_succ]
              refine anyT_one (i := 4) _ rfl (by kernel_rfl) ?_
              go_wp2
              obtain ⟨W3, hW3⟩ : ∃ W3, W2.alloc (.cells #[.int .i64 0, .slice none 0 0, .map none, .slice none 0 0, .slice none 0 0] 63) = W3 := ⟨_, rfl⟩
              rw [hW3]
              have hb3 : Below w1.heap.size w1 W3 := by rw [← hW3]; exact hb2.alloc (by omega) _
              have hs3 : Str W3 W2.heap.size 63 [.int .i64 0, .slice none 0 0, .map none, .slice none 0 0, .slice none 0 0] := by rw [← hW3]; exact World.alloc_heap_new W2 _
              have hsp3 : SpotAt W3 Wd.heap.size 0 (fun _ => none) := by rw [← hW3]; exact hsp2.below ((Below.refl _ _).alloc (Nat.le_refl _) _)
              clear hW3 hsp2
              refine behind_normal ⟨cell_keep hb3 (Nat.le_refl _) k0, cell_keep hb3 (Nat.le_refl _) k1⟩ ?_
              refine anyT_one (i := 5) _ rfl (by kernel_rfl) ?_
              have s0 := hs3.cell 0
              have sf0 := hs3.frozen 0
              have s1 := hs3.cell 1
              have sf1 := hs3.frozen 1
              have s2 := hs3.cell 2
              have sf2 := hs3.frozen 2
              have s3 := hs3.cell 3
              have sf3 := hs3.frozen 3
              have s4 := hs3.cell 4
              have sf4 := hs3.frozen 4
              go_wp2
              have hs4 := (((((hs3.set 0 (.int .i64 params)).set 1 (.slice (some ⟨b0, 0, none⟩) bs.length c)).set 2 (.map (some Wd.heap.size))).set 3 (.slice none 0 0)).set 4 (.slice none 0 0))
              have hb4 := (((((hb3.setCell (p := ⟨W2.heap.size, 0, none⟩) (by simp only; omega) (.int .i64 params)).setCell (p := ⟨W2.heap.size, 1, none⟩) (by simp only; omega) (.slice (some ⟨b0, 0, none⟩) bs.length c)).setCell (p := ⟨W2.heap.size, 2, none⟩) (by simp only; omega) (.map (some Wd.heap.size))).setCell (p := ⟨W2.heap.size, 3, none⟩) (by simp only; omega) (.slice none 0 0)).setCell (p := ⟨W2.heap.size, 4, none⟩) (by simp only; omega) (.slice none 0 0))
              have hsp4 := (spot_set (spot_set (spot_set (spot_set (spot_set hsp3 (cb := W2.heap.size) (by omega) 0 (.int .i64 params)) (cb := W2.heap.size) (by omega) 1 (.slice (some ⟨b0, 0, none⟩) bs.length c)) (cb := W2.heap.size) (by omega) 2 (.map (some Wd.heap.size))) (cb := W2.heap.size) (by omega) 3 (.slice none 0 0)) (cb := W2.heap.size) (by omega) 4 (.slice none 0 0))
              generalize (((((W3.setCell ⟨W2.heap.size, 0, none⟩ (.int .i64 params)).setCell ⟨W2.heap.size, 1, none⟩ (.slice (some ⟨b0, 0, none⟩) bs.length c)).setCell ⟨W2.heap.size, 2, none⟩ (.map (some Wd.heap.size))).setCell ⟨W2.heap.size, 3, none⟩ (.slice none 0 0)).setCell ⟨W2.heap.size, 4, none⟩ (.slice none 0 0)) = W5 at *
              refine behind_last (by kernel_rfl) (anyT_done (by kernel_rfl) (nopanic_normal ?_) _)
              clear s0 s1 s2 s3 s4 sf0 sf1 sf2 sf3 sf4
              go_wp2_with fail
              go_meet
              exact ⟨W2.heap.size, Wd.heap.size, rfl, hs4, hsp4, by omega, by omega, by omega, hb4⟩
            · go_wp2
              obtain ⟨W2, hW2⟩ : ∃ W2, Wd.alloc (.cells #[.int .i64 0, .slice none 0 0, .map none, .slice none 0 0, .slice none 0 0] 63) = W2 := ⟨_, rfl⟩
              rw [hW2]
              have hb2 : Below w1.heap.size w1 W2 := by rw [← hW2]; exact hbd.alloc hzd _
              have hs2 : Str W2 Wd.heap.size 63 [.int .i64 0, .slice none 0 0, .map none, .slice none 0 0, .slice none 0 0] := by rw [← hW2]; exact World.alloc_heap_new Wd _
              have hz2 : Wd.heap.size < W2.heap.size := by rw [← hW2]; simp
              clear hW2
              refine behind_normal ⟨cell_keep hb2 (Nat.le_refl _) k0, cell_keep hb2 (Nat.le_refl _) k1⟩ ?_
              refine anyT_one (i := 2) _ rfl (by kernel_rfl) ?_
              go_wp2
              obtain ⟨W3, hW3⟩ : ∃ W3, W2.alloc (.map #[] 0) = W3 := ⟨_, rfl⟩
              rw [hW3]
              have hb3 : Below w1.heap.size w1 W3 := by rw [← hW3]; exact hb2.alloc (by omega) _
              have hs3 : Str W3 Wd.heap.size 63 [.int .i64 0, .slice none 0 0, .map none, .slice none 0 0, .slice none 0 0] := by rw [← hW3]; exact hs2.below ((Below.refl _ _).alloc (Nat.le_refl _) _)
              have hsp3 : SpotAt W3 W2.heap.size 0 (fun _ => none) := by rw [← hW3]; exact SpotAt.made W2
              clear hW3 hs2
              refine behind_normal ⟨cell_keep hb3 (Nat.le_refl _) k0, cell_keep hb3 (Nat.le_refl _) k1⟩ ?_
              refine anyT_take (i := 3) _ ?vh3 rfl (by kernel_rfl) (by kernel_rfl) (by kernel_rfl) (by intro c a d v w h; cases d <;> exact h) rfl ?yh3 ⟨cell_keep hb3 (Nat.le_refl _) k0, cell_keep hb3 (Nat.le_refl _) k1⟩ ?_
              case yh3 => intro w hS; go_simp; first | done | with_reducible rfl
              simp only [Act.put]
              simp only [List.setIfInBounds_toArray, List.set_cons_zero, List.set_cons_succ]
              refine anyT_one (i := 5) _ rfl (by kernel_rfl) ?_
              have s0 := hs3.cell 0
              have sf0 := hs3.frozen 0
              have s1 := hs3.cell 1
              have sf1 := hs3.frozen 1
              have s2 := hs3.cell 2
              have sf2 := hs3.frozen 2
              have s3 := hs3.cell 3
              have sf3 := hs3.frozen 3
              have s4 := hs3.cell 4
              have sf4 := hs3.frozen 4
              go_wp2
              have hs4 := (((((hs3.set 0 (.int .i64 params)).set 1 (.slice (some ⟨b0, 0, none⟩) bs.length c)).set 2 (.map (some W2.heap.size))).set 3 (.slice none 0 0)).set 4 (.slice none 0 0))
              have hb4 := (((((hb3.setCell (p := ⟨Wd.heap.size, 0, none⟩) (by simp only; omega) (.int .i64 params)).setCell (p := ⟨Wd.heap.size, 1, none⟩) (by simp only; omega) (.slice (some ⟨b0, 0, none⟩) bs.length c)).setCell (p := ⟨Wd.heap.size, 2, none⟩) (by simp only; omega) (.map (some W2.heap.size))).setCell (p := ⟨Wd.heap.size, 3, none⟩) (by simp only; omega) (.slice none 0 0)).setCell (p := ⟨Wd.heap.size, 4, none⟩) (by simp only; omega) (.slice none 0 0))
              have hsp4 := (spot_set (spot_set (spot_set (spot_set (spot_set hsp3 (cb := Wd.heap.size) (by omega) 0 (.int .i64 params)) (cb := Wd.heap.size) (by omega) 1 (.slice (some ⟨b0, 0, none⟩) bs.length c)) (cb := Wd.heap.size) (by omega) 2 (.map (some W2.heap.size))) (cb := Wd.heap.size) (by omega) 3 (.slice none 0 0)) (cb := Wd.heap.size) (by omega) 4 (.slice none 0 0))
              generalize (((((W3.setCell ⟨Wd.heap.size, 0, none⟩ (.int .i64 params)).setCell ⟨Wd.heap.size, 1, none⟩ (.slice (some ⟨b0, 0, none⟩) bs.length c)).setCell ⟨Wd.heap.size, 2, none⟩ (.map (some W2.heap.size))).setCell ⟨Wd.heap.size, 3, none⟩ (.slice none 0 0)).setCell ⟨Wd.heap.size, 4, none⟩ (.slice none 0 0)) = W5 at *
              refine behind_last (by kernel_rfl) (anyT_done (by kernel_rfl) (nopanic_normal ?_) _)
              clear s0 s1 s2 s3 s4 sf0 sf1 sf2 sf3 sf4
              go_wp2_with fail
              go_meet
              exact ⟨Wd.heap.size, W2.heap.size, rfl, hs4, hsp4, by omega, by omega, by omega, hb4⟩
          case rest =>
            obtain ⟨cb, mb, rfl, hst, hsp, hne, hmz, hcz, hbx⟩ := hcut
            obtain ⟨w2, rfl⟩ : ∃ w2 : World, w2 = wc := ⟨_, rfl⟩
            have HG1 := Lib.hid (HG1.out.below hbx)
            have HG2 := Lib.hid (HG2.out.below hbx)
            have HG3 := Lib.hid (HG3.out.below hbx)
            have HF2 := Lib.hid (HF1.out.below hbx)
            have k0 := cell_keep hbx (Nat.le_refl _) k0
            have k1 := cell_keep hbx (Nat.le_refl _) k1
            have HBS2 := Lib.hid (HBS1.out.keep hbx)
            have HB2 := Lib.hid (HB1.out.trans (hbx.mono HB1.out.size))
            have HBX := Lib.hid hbx
            have HC := Lib.hid (show ChkAt w2 cb mb 0 params (.slice (some ⟨b0, 0, none⟩) bs.length c) (fun _ => none) from ⟨hst.cell 0, hst.cell 1, hst.cell 2, hsp, hne, ⟨_, _, hst⟩⟩)
            have hml := hsp.lt
            have hcl := hst.lt
            clear hst hsp hbx HBS HBS0 HF0 HF1 HB0
            go_wp2_with fail
            refine (inOrder_any _ _ _ cb mb (look1 params bs.length) bs (Inv1 cb mb params (.slice (some ⟨b0, 0, none⟩) bs.length c)) w1 w2 params (some ⟨b0, 0, none⟩) c (fun _ => none) (first_cbs cb mb params (some ⟨b0, 0, none⟩) c bs w1 HWF.out (by omega)) HBS1.out HBX.out hmz hml ⟨0, by omega, HC.out⟩).mono ?_
            rintro e w3 he
            cases hR : overE (look1 params bs.length) bs (fun _ => none) with
            | error x =>
              rw [hR] at he
              obtain ⟨rfl, hbt⟩ := he
              have HE := Lib.hid (show checkN params bs = x by
                unfold checkN checkE funcE; rw [HL.out]; simp only [hR]; rfl)
              have hsw := HB1.out.size
              have HZ1 := hbt.str HG1.out (by omega)
              have HZ2 := hbt.str HG2.out (by omega)
              have HZ3 := hbt.str HG3.out (by omega)
              refine leaves_cons (f := 19) (args := #[.pointer (some ⟨x1, 0, none⟩), .pointer (some ⟨x2, 0, none⟩), .pointer (some ⟨x3, 0, none⟩)]) (by simp) (by simp [go_sem]) ?_
              refine (catch_wrong x1 x2 x3 0 0 0 _ _ _ [] _ HZ1 HZ2 HZ3 h12 h23).mono ?_
              rintro en u' w'' ⟨rfl, rfl, g1, g2, g3, hbc⟩
              have y1 := g1.cell 0
              have y2 := g2.cell 0
              have y3 := g3.cell 0
              simp at y1 y2 y3
              simp [Leaves, settle, results, Try.results9, go_sem, y1, y2, y3]
              rw [HE.out]
              exact ⟨rfl, (HB2.out.trans (hbt.below (by omega) HB2.out.size)).trans (hbc.mono (by omega))⟩
            | ok f =>
              rw [hR] at he
              obtain ⟨rfl, hbt, cc, hcc, hch⟩ := he
              have hsw := HB1.out.size
              have hsw2 := HBX.out.size
              have HG1 := Lib.hid (hbt.str HG1.out (by omega))
              have HG2 := Lib.hid (hbt.str HG2.out (by omega))
              have HG3 := Lib.hid (hbt.str HG3.out (by omega))
              have hf3 := hbt.str HF2.out (by omega)
              have HF3 := Lib.hid hf3
              have HB3 := Lib.hid (HB2.out.trans (hbt.below (by omega) HB2.out.size))
              have HX3 := Lib.hid (HBX.out.trans (hbt.below hmz hsw2))
              have HCH := Lib.hid hch
              have HR := Lib.hid hR
              have hml3 := hch.spots.lt
              have hsw3 := hbt.size
              have HNE := Lib.hid (hch.ne)
              clear hbt hch hR hf3 k0 k1
              go_wp2_with fail
              refine (reach_any w3 cb mb cc params b0 c bs f HCH.out (HBS1.out.keep HX3.out) (by omega) (by omega) (fun k hk => few_to HR.out _ (List.getElem_mem hk)) (made_in (fun x s h => by cases h) HR.out) (fun _ _ => trivial)).mono ?_
              rintro e w4 hre
              unfold ReachPost at hre
              cases hr : reachF (idomN (tidyN (rowsP bs))) with
              | some x =>
                rw [hr] at hre
                obtain ⟨rfl, hb4⟩ := hre
                have HE := Lib.hid (show checkN params bs = x by
                  unfold checkN checkE funcE; rw [HL.out]; simp only [HR.out, hr]; rfl)
                have HZ1 := HG1.out.below hb4
                have HZ2 := HG2.out.below hb4
                have HZ3 := HG3.out.below hb4
                refine leaves_cons (f := 19) (args := #[.pointer (some ⟨x1, 0, none⟩), .pointer (some ⟨x2, 0, none⟩), .pointer (some ⟨x3, 0, none⟩)]) (by simp) (by simp [go_sem]) ?_
                refine (catch_wrong x1 x2 x3 0 0 0 _ _ _ [] _ HZ1 HZ2 HZ3 h12 h23).mono ?_
                rintro en u' w'' ⟨rfl, rfl, g1, g2, g3, hbc⟩
                have y1 := g1.cell 0
                have y2 := g2.cell 0
                have y3 := g3.cell 0
                simp at y1 y2 y3
                simp [Leaves, settle, results, Try.results9, go_sem, y1, y2, y3]
                rw [HE.out]
                exact ⟨rfl, (HB3.out.trans (hb4.mono HB3.out.size)).trans (hbc.mono (by omega))⟩
              | none =>
                rw [hr] at hre
                obtain ⟨rfl, hbt, pv, sb, c', hq⟩ := hre
                have HRR := Lib.hid hr
                have HG1 := Lib.hid (hbt.str HG1.out (by omega))
                have HG2 := Lib.hid (hbt.str HG2.out (by omega))
                have HG3 := Lib.hid (hbt.str HG3.out (by omega))
                have hf4 := hbt.str HF3.out (by omega)
                have HB4 := Lib.hid (HB3.out.trans (hbt.below (by omega) HB3.out.size))
                have HX4 := Lib.hid (HX3.out.trans (hbt.below hcz (by omega)))
                have HQ := Lib.hid hq
                have hsw4 := hbt.size
                have k0 : w4.cell? ⟨w.heap.size, 0, none⟩ = some (.int .i64 params) := hf4.cell 0
                have k1 : w4.cell? ⟨w.heap.size, 1, none⟩ = some (.slice (some ⟨b0, 0, none⟩) bs.length c) := hf4.cell 1
                clear hbt hq hr hf4
                go_wp2_with fail
                refine (inOrder_any _ _ _ cb mb (look2 bs (knowsOf params f bs).preds (knowsOf params f bs).K) bs (fun _ _ w => Chk2 w cb mb cc (.slice (some ⟨b0, 0, none⟩) bs.length c) pv sb c' (knowsOf params f bs)) w1 w4 params _ c () (second_cbs cb mb cc params f _ pv sb c' bs w1 HWF.out HBS1.out) HBS1.out HX4.out hmz (by omega) HQ.out).mono ?_
                rintro e w5 he
                cases hR2 : overE (look2 bs (knowsOf params f bs).preds (knowsOf params f bs).K) bs () with
                | error x =>
                  rw [hR2] at he
                  obtain ⟨rfl, hbt⟩ := he
                  have HE := Lib.hid (show checkN params bs = x by
                    unfold checkN checkE funcE; rw [HL.out]; simp only [HR.out, HRR.out]
                    show toldE (overE (look2 bs (knowsOf params f bs).preds (knowsOf params f bs).K) bs ()) = x
                    rw [hR2]; rfl)
                  have HZ1 := hbt.str HG1.out (by omega)
                  have HZ2 := hbt.str HG2.out (by omega)
                  have HZ3 := hbt.str HG3.out (by omega)
                  refine leaves_cons (f := 19) (args := #[.pointer (some ⟨x1, 0, none⟩), .pointer (some ⟨x2, 0, none⟩), .pointer (some ⟨x3, 0, none⟩)]) (by simp) (by simp [go_sem]) ?_
                  refine (catch_wrong x1 x2 x3 0 0 0 _ _ _ [] _ HZ1 HZ2 HZ3 h12 h23).mono ?_
                  rintro en u' w'' ⟨rfl, rfl, g1, g2, g3, hbc⟩
                  have y1 := g1.cell 0
                  have y2 := g2.cell 0
                  have y3 := g3.cell 0
                  simp at y1 y2 y3
                  simp [Leaves, settle, results, Try.results9, go_sem, y1, y2, y3]
                  rw [HE.out]
                  exact ⟨rfl, (HB4.out.trans (hbt.below (by omega) HB4.out.size)).trans (hbc.mono (by omega))⟩
                | ok u =>
                  rw [hR2] at he
                  obtain ⟨rfl, hbt, _⟩ := he
                  have HE := Lib.hid (show checkN params bs = (0, 0, 0) by
                    unfold checkN checkE funcE; rw [HL.out]; simp only [HR.out, HRR.out]
                    show toldE (overE (look2 bs (knowsOf params f bs).preds (knowsOf params f bs).K) bs ()) = _
                    rw [hR2]; rfl)
                  have HZ1 := hbt.str HG1.out (by omega)
                  have HZ2 := hbt.str HG2.out (by omega)
                  have HZ3 := hbt.str HG3.out (by omega)
                  have HB5 := Lib.hid (HB4.out.trans (hbt.below (by omega) HB4.out.size))
                  have s1 := HZ1.cell 0
                  have f1 := HZ1.frozen 0
                  have s2 := HZ2.cell 0
                  have f2 := HZ2.frozen 0
                  have s3 := HZ3.cell 0
                  have f3 := HZ3.frozen 0
                  simp at s1 s2 s3
                  have Y1 := Lib.hid HZ1
                  have Y2 := Lib.hid HZ2
                  have Y3 := Lib.hid HZ3
                  clear hbt hR2 HZ1 HZ2 HZ3 k0 k1
                  have n12 : x1 ≠ x2 := by omega
                  have n13 : x1 ≠ x3 := by omega
                  have n23 : x2 ≠ x3 := by omega
                  go_wp2
                  have z1 := Str.kept (Str.kept (Y1.out.set 0 (.int .i64 0)) (setCell_grownBy _ ⟨x2, 0, none⟩ (.int .i64 0)) (fun h => n12 (Option.some.inj h))) (setCell_grownBy _ ⟨x3, 0, none⟩ (.int .i64 0)) (fun h => n13 (Option.some.inj h))
                  have z2 := Str.kept (Str.set (Str.kept Y2.out (setCell_grownBy _ ⟨x1, 0, none⟩ (.int .i64 0)) (fun h => n12 (Option.some.inj h).symm)) 0 (.int .i64 0)) (setCell_grownBy _ ⟨x3, 0, none⟩ (.int .i64 0)) (fun h => n23 (Option.some.inj h))
                  have z3 := Str.set (Str.kept (Str.kept Y3.out (setCell_grownBy _ ⟨x1, 0, none⟩ (.int .i64 0)) (fun h => n13 (Option.some.inj h).symm)) (setCell_grownBy _ ⟨x2, 0, none⟩ (.int .i64 0)) (fun h => n23 (Option.some.inj h).symm)) 0 (.int .i64 0)
                  have hb6 := ((HB5.out.setCell (p := ⟨x1, 0, none⟩) (by simp only; omega) (.int .i64 0)).setCell (p := ⟨x2, 0, none⟩) (by simp only; omega) (.int .i64 0)).setCell (p := ⟨x3, 0, none⟩) (by simp only; omega) (.int .i64 0)
                  generalize ((w5.setCell ⟨x1, 0, none⟩ (.int .i64 0)).setCell ⟨x2, 0, none⟩ (.int .i64 0)).setCell ⟨x3, 0, none⟩ (.int .i64 0) = W6 at *
                  have y1 := z1.cell 0
                  have y2 := z2.cell 0
                  have y3 := z3.cell 0
                  simp at y1 y2 y3
                  refine leaves_cons (f := 19) (args := #[.pointer (some ⟨x1, 0, none⟩), .pointer (some ⟨x2, 0, none⟩), .pointer (some ⟨x3, 0, none⟩)]) (by simp) (by simp [go_sem]) ?_
                  refine (catch_idle _ _ _ _).mono ?_
                  rintro en u' w'' ⟨rfl, rfl, rfl⟩
                  simp [Leaves, settle, results, Try.results9, go_sem, y1, y2, y3]
                  rw [HE.out]
                  exact ⟨rfl, hb6⟩
end Go.Proofs.Ytdfehpcbcgbidaa.Kc
