/- Stage 12: a block of instructions of layer 7, as a run does it. -/
import Derived.Test.YtdidacjmcafcpaaQQ
import Derived.Test.YtdidacjmcafcpaaQK
namespace Go.Proofs.Ytdidacjmcafcpaa.Ph
open Go.ChangeShapes Go.WideShapes Go.ChangeAt Go.RowKit Go.Proofs.Ytdidacjmcafcpaa.Mem Go.Proofs.Ytdidacjmcafcpaa.Kc Go.Proofs.Ytdidacjmcafcpaa.Pl Go.Proofs.Ytdidacjmcafcpaa.Mw Go.Proofs.Ytdidacjmcafcpaa.Mc Go.Proofs.Ytdidacjmcafcpaa.Br Go.Proofs.Ytdidacjmcafcpaa.Wd Go.Proofs.Ytdidacjmcafcpaa.Gr
set_option linter.unusedVariables false
set_option linter.unusedSimpArgs false
/-- What a run and its memory are when the instructions from one on, and the end, were done. -/
def restQ (f : PEnd) : List PlIn → PRun → List Int → PRun × List Int
  | [], s, m => if s.steps < s.max then (leaveS f { s with steps := s.steps + 1 }, m) else ({ s with how := 3, val := 0 }, m)
  | y :: l, s, m => if s.steps < s.max then (if (fxM y.i s.regs m).trap = 0 then restQ f l { s with steps := s.steps + 1, regs := regsM y.i s.regs m } (fxM y.i s.regs m).mem
      else ({ s with steps := s.steps + 1, regs := regsM y.i s.regs m, how := 2, val := (fxM y.i s.regs m).trap }, (fxM y.i s.regs m).mem)) else ({ s with how := 3, val := 0 }, m)
/-- What they are when so many were done. -/
def stQ (l : List PlIn) (s : PRun) (m : List Int) : Nat → PRun × List Int
  | 0 => (s, m)
  | k + 1 => match l[k]? with
    | none => stQ l s m k
    | some y => ({ (stQ l s m k).1 with steps := (stQ l s m k).1.steps + 1, regs := regsM y.i (stQ l s m k).1.regs (stQ l s m k).2 }, (fxM y.i (stQ l s m k).1.regs (stQ l s m k).2).mem)
theorem stQ_succ {l : List PlIn} {s : PRun} {m : List Int} {k : Nat} (hk : k < l.length) : stQ l s m (k + 1) = ({ (stQ l s m k).1 with steps := (stQ l s m k).1.steps + 1, regs := regsM l[k].i (stQ l s m k).1.regs (stQ l s m k).2 }, (fxM l[k].i (stQ l s m k).1.regs (stQ l s m k).2).mem) := by
  show (match l[k]? with
    | none => stQ l s m k
    | some y => ({ (stQ l s m k).1 with steps := (stQ l s m k).1.steps + 1, regs := regsM y.i (stQ l s m k).1.regs (stQ l s m k).2 }, (fxM y.i (stQ l s m k).1.regs (stQ l s m k).2).mem)) = _
  rw [List.getElem?_eq_getElem hk]
theorem stQ_max {l : List PlIn} {s : PRun} {m : List Int} : ∀ k, (stQ l s m k).1.max = s.max
  | 0 => rfl
  | k + 1 => by
    by_cases hk : k < l.length
    · rw [stQ_succ hk]; exact stQ_max k
    · show (match l[k]? with
        | none => stQ l s m k
        | some y => _).1.max = _
      rw [List.getElem?_eq_none (by omega)]
      exact stQ_max k
theorem stQ_steps {l : List PlIn} {s : PRun} {m : List Int} : ∀ k, k ≤ l.length → (stQ l s m k).1.steps = s.steps + k
  | 0, _ => by show s.steps = _; omega
  | k + 1, hk => by
    rw [stQ_succ (by omega)]
    show (stQ l s m k).1.steps + 1 = _
    rw [stQ_steps k (by omega)]
    omega
theorem restQ_cut {f : PEnd} {l : List PlIn} {s : PRun} {m : List Int} {k : Nat} (hk : k < l.length) (h : ¬ s.steps < s.max) : restQ f (l.drop k) s m = ({ s with how := 3, val := 0 }, m) := by
  rw [List.drop_eq_getElem_cons hk]
  exact if_neg h
theorem restQ_go {f : PEnd} {l : List PlIn} {s : PRun} {m : List Int} {k : Nat} (hk : k < l.length) (h : s.steps < s.max) (h2 : (fxM l[k].i s.regs m).trap = 0) : restQ f (l.drop k) s m = restQ f (l.drop (k + 1)) { s with steps := s.steps + 1, regs := regsM l[k].i s.regs m } (fxM l[k].i s.regs m).mem := by
  rw [List.drop_eq_getElem_cons hk]
  exact (if_pos h).trans (if_pos h2)
theorem restQ_trap {f : PEnd} {l : List PlIn} {s : PRun} {m : List Int} {k : Nat} (hk : k < l.length) (h : s.steps < s.max) (h2 : ¬ (fxM l[k].i s.regs m).trap = 0) : restQ f (l.drop k) s m = ({ s with steps := s.steps + 1, regs := regsM l[k].i s.regs m, how := 2, val := (fxM l[k].i s.regs m).trap }, (fxM l[k].i s.regs m).mem) := by
  rw [List.drop_eq_getElem_cons hk]
  exact (if_pos h).trans (if_neg h2)
set_option maxRecDepth 100000 in
set_option maxHeartbeats 4000000 in
theorem blockQ_any (W0 w : World) (hb0 : Below W0.heap.size W0 w) (g : Nat) (s : PRun) (m : List Int) (x : PPB) (p0 p4 : Option Addr) (c0 c4 : Nat) (h1 : RowAt W0 9 PlacedAt (.slice p0 x.ins.length c0) x.ins) (hs : s.At W0.heap.size g w) (hm : OwnWords W0.heap.size w s.me m)
    (hi : ∀ y ∈ x.ins, (y.i.op ≠ 28 ∧ y.i.op ≠ 30 ∧ y.i.op ≠ 31) ∧ (InI y.i.a ∧ InI y.i.b ∧ InI y.i.c ∧ InI y.i.d ∧ InI y.i.e) ∧ InW y.i.imm) (hW : ∀ k, k < x.ins.length → (∀ r, InW (getP (stQ x.ins s m k).1.regs r)) ∧ (stQ x.ins s m k).2.length ≤ 1000000)
    (hx : InI s.max) (hst : 0 ≤ s.steps) (hs9 : s.steps + x.ins.length ≤ 1000000000) (hl : x.ins.length ≤ 100000) (hf : x.fin.op = 7 ∧ x.fin.a < 16 ∨ x.fin.op = 8) :
    Calls Try.prog 44 #[.pointer (some ⟨g, 0, none⟩), .agg #[.slice p0 x.ins.length c0, .int .i64 x.fin.op, .int .i64 x.fin.a, .int .i64 x.fin.b, .slice p4 x.fin.to.length c4, .int .i32 x.fin.imm]] w fun e w' => e = .returned (.int .i64 0) ∧ (restQ x.fin x.ins s m).1.At W0.heap.size g w' ∧ OwnWords W0.heap.size w' (restQ x.fin x.ins s m).1.me (restQ x.fin x.ins s m).2 ∧ Below W0.heap.size W0 w' := by
  have H1 := Lib.hid h1
  have HI := Lib.hid hi
  have HWW := Lib.hid hW
  have HF := Lib.hid hf
  have HX := Lib.hid hx
  have HST := Lib.hid (And.intro hst hs9)
  have HS := Lib.hid hs
  have HM := Lib.hid hm
  have HB0 := Lib.hid hb0
  have hmt : ∀ (f : Nat) (w : World), (method (f + 1) 84 (.agg #[]) "jacquard/phys.do").run Try.prog w = .ok (103, .agg #[]) w := fun f w => by kernel_rfl
  obtain ⟨rr, hrr⟩ : ∃ rr, restQ x.fin x.ins s m = rr := ⟨_, rfl⟩
  have HRR := Lib.hid hrr
  rw [hrr]
  obtain ⟨rs, rm⟩ := rr
  clear hrr h1 hi hW hx hst hs9 hs hm hb0 hf
  go_enter Try.func44, Try.ntmps44
  go_upto_region 1 with (fail)
  obtain ⟨W, hW⟩ : ∃ W, w.alloc (.cells #[.slice p0 x.ins.length c0, .int .i64 x.fin.op, .int .i64 x.fin.a, .int .i64 x.fin.b, .slice p4 x.fin.to.length c4, .int .i32 x.fin.imm] 45) = W := ⟨_, rfl⟩
  have hbW : Below w.heap.size w W := by rw [← hW]; exact (Below.refl _ _).alloc (Nat.le_refl _) _
  have hsW : Str W w.heap.size 45 [.slice p0 x.ins.length c0, .int .i64 x.fin.op, .int .i64 x.fin.a, .int .i64 x.fin.b, .slice p4 x.fin.to.length c4, .int .i32 x.fin.imm] := by rw [← hW]; exact World.alloc_heap_new w _
  rw [hW]
  clear hW
  have m0 : W.cell? ⟨w.heap.size, 0, none⟩ = some (.slice p0 x.ins.length c0) := hsW.cell 0
  have HSW := Lib.hid hsW
  have HS1 := Lib.hid (PRun.At.below HS.out hbW)
  have HM1 := Lib.hid (OwnWords.below HM.out hbW)
  have HBW := Lib.hid (HB0.out.trans (hbW.mono HB0.out.size))
  have HGW := Lib.hid (show w.heap.size ≠ g from fun e => by have := HS.out.2.2.2.lt; omega)
  clear hbW hsW
  go_wp2_with fail
  go_loopw [6, 7, 8, 12] (fun _ _ _ j wr => ∃ k : Nat, k ≤ x.ins.length ∧ j = .int .i64 k ∧ restQ x.fin (x.ins.drop k) (stQ x.ins s m k).1 (stQ x.ins s m k).2 = (rs, rm) ∧ (stQ x.ins s m k).1.At W0.heap.size g wr ∧ OwnWords W0.heap.size wr (stQ x.ins s m k).1.me (stQ x.ins s m k).2 ∧ Below W0.heap.size W0 wr ∧ Str wr w.heap.size 45 [.slice p0 x.ins.length c0, .int .i64 x.fin.op, .int .i64 x.fin.a, .int .i64 x.fin.b, .slice p4 x.fin.to.length c4, .int .i32 x.fin.imm]) (fun _ _ _ j _ => x.ins.length - (intOf j).toNat)
  case atStart => exact ⟨0, Nat.zero_le _, rfl, HRR.out, HS1.out, HM1.out, HBW.out, HSW.out⟩
  case round =>
    obtain ⟨k, hk, rfl, ht, ha, ho, hb, hbx⟩ := hrel
    have HT := Lib.hid ht
    have HA := Lib.hid ha
    have HO := Lib.hid ho
    have HB := Lib.hid hb
    have HBX := Lib.hid hbx
    have hmx : (stQ x.ins s m k).1.max = s.max := stQ_max k
    have hsx : (stQ x.ins s m k).1.steps = s.steps + k := stQ_steps k hk
    have HMX := Lib.hid (show InI (stQ x.ins s m k).1.max by rw [hmx]; exact HX.out)
    have HSX := Lib.hid (show 0 ≤ (stQ x.ins s m k).1.steps ∧ (stQ x.ins s m k).1.steps ≤ 1000000000 by rw [hsx]; have := HST.out; omega)
    clear ht ha ho hb hbx hmx hsx
    by_cases hlt : k < x.ins.length
    · obtain ⟨A', c', b, o, e, q1, q2, q3, q4⟩ := H1.out.kept (PlacedAt.keep HB.out)
      injection e with e1 _ e3
      subst e1 e3
      have e1 := q3 (by omega)
      subst e1
      have hm := q4 k hlt
      obtain ⟨Ai, ki, r7, hia⟩ := placed_cells hm
      obtain ⟨r0, r1, r2, r3, r4, r5, r6, _, r8⟩ := hm
      have HII := Lib.hid (HI.out x.ins[k] (List.getElem_mem _))
      have HWK := Lib.hid (HWW.out k hlt)
      have HCUT := Lib.hid (fun h => restQ_cut (f := x.fin) (s := (stQ x.ins s m k).1) (m := (stQ x.ins s m k).2) hlt h)
      have HGO := Lib.hid (fun h h2 => restQ_go (f := x.fin) (s := (stQ x.ins s m k).1) (m := (stQ x.ins s m k).2) hlt h h2)
      have HTRAP := Lib.hid (fun h h2 => restQ_trap (f := x.fin) (s := (stQ x.ins s m k).1) (m := (stQ x.ins s m k).2) hlt h h2)
      have HSUC := Lib.hid (stQ_succ (s := s) (m := m) hlt)
      clear q3 q4 hia
      generalize x.ins[k] = y at *
      obtain ⟨⟨s', m'⟩, hp⟩ : ∃ p, stQ x.ins s m k = p := ⟨_, rfl⟩
      rw [hp] at HT HA HO HMX HSX HWK HCUT HGO HTRAP HSUC
      clear hp
      go_upto_region 4 with (fail)
      obtain ⟨W3, hW3⟩ : ∃ W3, wr.alloc (.cells #[.int .i64 y.i.op, .int .i64 y.i.d, .int .i64 y.i.e, .int .i64 y.i.a, .int .i64 y.i.b, .int .i64 y.i.c, .int .i32 y.i.imm, .slice Ai y.i.args.length ki, .int .i64 y.fr] 47) = W3 := ⟨_, rfl⟩
      have hbW3 : Below wr.heap.size wr W3 := by rw [← hW3]; exact (Below.refl _ _).alloc (Nat.le_refl _) _
      have hsW3 : Str W3 wr.heap.size 47 [.int .i64 y.i.op, .int .i64 y.i.d, .int .i64 y.i.e, .int .i64 y.i.a, .int .i64 y.i.b, .int .i64 y.i.c, .int .i32 y.i.imm, .slice Ai y.i.args.length ki, .int .i64 y.fr] := by rw [← hW3]; exact World.alloc_heap_new wr _
      rw [hW3]
      clear hW3
      have HA3 := Lib.hid (PRun.At.below HA.out hbW3)
      have HO3 := Lib.hid (OwnWords.below HO.out hbW3)
      have HB3 := Lib.hid (HB.out.trans (hbW3.mono HB.out.size))
      have HX3 := Lib.hid (HBX.out.below hbW3)
      have HS3 := Lib.hid hsW3
      have HNG := Lib.hid (show wr.heap.size ≠ g from fun e => by have := HA.out.2.2.2.lt; omega)
      have HNO := Lib.hid (show s'.me.ownBlock ≠ some wr.heap.size ∧ s'.me.ownBlock ≠ some w.heap.size from ⟨fun e => by have := (OwnWords.where_ HO.out e).2; omega, fun e => Str.not_row HBX.out (by decide) HO.out e.symm⟩)
      clear hbW3 hsW3 r0 r1 r2 r3 r4 r5 r6 r7 r8
      go_wp2_with fail
      refine (rstepQ_any W3 W0.heap.size g s' HA3.out HMX.out HSX.out.1 HSX.out.2).mono ?_
      rintro e' w4 ⟨rfl, ha4, hb4⟩
      have hne4 : s'.me.ownBlock ≠ some g := run_apart HA3.out HO3.out
      have HO4 := Lib.hid (OwnWords.but HO3.out hb4 hne4)
      have HB4 := Lib.hid (HB3.out.trans (below_of_but hb4 HA3.out.1 HB3.out.size))
      have HX4 := Lib.hid (hb4.str HX3.out HGW.out)
      have HS4 := Lib.hid (hb4.str HS3.out HNG.out)
      by_cases hc : s'.steps < s'.max
      · have hd : decide (s'.steps < s'.max) = true := decide_eq_true hc
        rw [show s'.step = { s' with steps := s'.steps + 1 } from if_pos hc] at ha4
        have HA4 := Lib.hid ha4
        have HC := Lib.hid hc
        rw [hd]
        clear hd hc ha4 hb4 hne4
        have HK := Lib.hid (show kindT y.i.op = 84 by unfold kindT; rw [if_neg HII.out.1.1, if_neg HII.out.1.2.1, if_neg HII.out.1.2.2])
        have m0 : w4.cell? ⟨wr.heap.size, 0, none⟩ = some (.int .i64 y.i.op) := HS4.out.cell 0
        have m1 : w4.cell? ⟨wr.heap.size, 1, none⟩ = some (.int .i64 y.i.d) := HS4.out.cell 1
        have m2 : w4.cell? ⟨wr.heap.size, 2, none⟩ = some (.int .i64 y.i.e) := HS4.out.cell 2
        have m3 : w4.cell? ⟨wr.heap.size, 3, none⟩ = some (.int .i64 y.i.a) := HS4.out.cell 3
        have m4 : w4.cell? ⟨wr.heap.size, 4, none⟩ = some (.int .i64 y.i.b) := HS4.out.cell 4
        have m5 : w4.cell? ⟨wr.heap.size, 5, none⟩ = some (.int .i64 y.i.c) := HS4.out.cell 5
        have m6 : w4.cell? ⟨wr.heap.size, 6, none⟩ = some (.int .i32 y.i.imm) := HS4.out.cell 6
        have m7 : w4.cell? ⟨wr.heap.size, 7, none⟩ = some (.slice Ai y.i.args.length ki) := HS4.out.cell 7
        have m8 : w4.cell? ⟨wr.heap.size, 8, none⟩ = some (.int .i64 y.fr) := HS4.out.cell 8
        go_wp2_with fail
        refine region_heldC_wp (fun w' => w'.cell? ⟨wr.heap.size, 0, none⟩ = some (.int .i64 y.i.op) ∧ w'.cell? ⟨wr.heap.size, 1, none⟩ = some (.int .i64 y.i.d) ∧ w'.cell? ⟨wr.heap.size, 2, none⟩ = some (.int .i64 y.i.e) ∧ w'.cell? ⟨wr.heap.size, 3, none⟩ = some (.int .i64 y.i.a) ∧ w'.cell? ⟨wr.heap.size, 4, none⟩ = some (.int .i64 y.i.b) ∧ w'.cell? ⟨wr.heap.size, 5, none⟩ = some (.int .i64 y.i.c) ∧ w'.cell? ⟨wr.heap.size, 6, none⟩ = some (.int .i32 y.i.imm) ∧ w'.cell? ⟨wr.heap.size, 7, none⟩ = some (.slice Ai y.i.args.length ki) ∧ w'.cell? ⟨wr.heap.size, 8, none⟩ = some (.int .i64 y.fr)) [0, 1, 2, 4, 5, 6, 8, 9, 10, 11, 12] [0, 1, 2, 4, 5, 6, 3, 7, 8, 9, 10, 11, 12] (by kernel_rfl) (by kernel_rfl) (by kernel_rfl) rfl (by intro c a d v w h; cases d <;> exact h) ⟨m0, m1, m2, m3, m4, m5, m6, m7, m8⟩ ?_
        refine walkC_still _ ?u0 rfl rfl rfl ?uy0 ?_
        case uy0 => intro w hS; obtain ⟨m0, m1, m2, m3, m4, m5, m6, m7, m8⟩ := hS; go_simp; first | done | with_reducible rfl
        simp only [Act.put]
        try simp only [List.setIfInBounds_toArray, List.set_cons_zero, List.set_cons_succ]
        refine walkC_still _ ?u1 rfl rfl rfl ?uy1 ?_
        case uy1 => intro w hS; obtain ⟨m0, m1, m2, m3, m4, m5, m6, m7, m8⟩ := hS; go_simp; first | done | with_reducible rfl
        simp only [Act.put]
        try simp only [List.setIfInBounds_toArray, List.set_cons_zero, List.set_cons_succ]
        refine walkC_still _ ?u2 rfl rfl rfl ?uy2 ?_
        case uy2 => intro w hS; obtain ⟨m0, m1, m2, m3, m4, m5, m6, m7, m8⟩ := hS; go_simp; first | done | with_reducible rfl
        simp only [Act.put]
        try simp only [List.setIfInBounds_toArray, List.set_cons_zero, List.set_cons_succ]
        refine walkC_still _ ?u4 rfl rfl rfl ?uy4 ?_
        case uy4 => intro w hS; obtain ⟨m0, m1, m2, m3, m4, m5, m6, m7, m8⟩ := hS; go_simp; first | done | with_reducible rfl
        simp only [Act.put]
        try simp only [List.setIfInBounds_toArray, List.set_cons_zero, List.set_cons_succ]
        refine walkC_still _ ?u5 rfl rfl rfl ?uy5 ?_
        case uy5 => intro w hS; obtain ⟨m0, m1, m2, m3, m4, m5, m6, m7, m8⟩ := hS; go_simp; first | done | with_reducible rfl
        simp only [Act.put]
        try simp only [List.setIfInBounds_toArray, List.set_cons_zero, List.set_cons_succ]
        refine walkC_still _ ?u6 rfl rfl rfl ?uy6 ?_
        case uy6 => intro w hS; obtain ⟨m0, m1, m2, m3, m4, m5, m6, m7, m8⟩ := hS; go_simp; first | done | with_reducible rfl
        simp only [Act.put]
        try simp only [List.setIfInBounds_toArray, List.set_cons_zero, List.set_cons_succ]
        refine walkC_does _ rfl rfl ?_
        go_wp2_with fail
        refine (op_any _ _).mono ?_
        rintro e' w5 ⟨rfl, hw5⟩
        rw [HK.out]
        have hb5 : Below w4.heap.size w4 w5 := by rw [hw5]; exact (Below.refl _ _).drew
        clear hw5
        have HA5 := Lib.hid (PRun.At.below HA4.out hb5)
        have HO5 := Lib.hid (OwnWords.below HO4.out hb5)
        have HB5 := Lib.hid (HB4.out.trans (hb5.mono HB4.out.size))
        have HX5 := Lib.hid (HX4.out.below hb5)
        have HS5 := Lib.hid (HS4.out.below hb5)
        clear hb5
        go_wp2_with fail
        refine behindC ⟨HS5.out.cell 0, HS5.out.cell 1, HS5.out.cell 2, HS5.out.cell 3, HS5.out.cell 4, HS5.out.cell 5, HS5.out.cell 6, HS5.out.cell 7, HS5.out.cell 8⟩ ?_
        try simp only [List.setIfInBounds_toArray, List.set_cons_zero, List.set_cons_succ]
        refine walkC_does _ rfl rfl ?_
        go_wp2_with fail
        refine (plainQ_do w5 W0.heap.size g { s' with steps := s'.steps + 1 } y.i Ai y.i.args.length ki m' HA5.out HO5.out HWK.out.2 (Or.inr (fun e => run_apart HA5.out HO5.out e.symm)) HII.out.2.1 HII.out.2.2 HWK.out.1).mono ?_
        rintro e' w6 ⟨rfl, ha6, ho6, ht6⟩
        have HA6 := Lib.hid ha6
        have HO6 := Lib.hid ho6
        have HS6 := Lib.hid (str_two HS5.out ht6 HNG.out HNO.out.1)
        have HX6 := Lib.hid (str_two HX5.out ht6 HGW.out HNO.out.2)
        have HB6 := Lib.hid (HB5.out.trans (two_below ht6 HA5.out.1 (fun x hx => (OwnWords.where_ HO5.out hx).1) HB5.out.size))
        clear ha6 ho6 ht6
        go_wp2_with fail
        refine behindC ⟨HS6.out.cell 0, HS6.out.cell 1, HS6.out.cell 2, HS6.out.cell 3, HS6.out.cell 4, HS6.out.cell 5, HS6.out.cell 6, HS6.out.cell 7, HS6.out.cell 8⟩ ?_
        try simp only [List.setIfInBounds_toArray, List.set_cons_zero, List.set_cons_succ]
        refine walkC_still _ ?u8 rfl rfl rfl ?uy8 ?_
        case uy8 => intro w hS; go_simp; first | done | with_reducible rfl
        simp only [Act.put]
        try simp only [List.setIfInBounds_toArray, List.set_cons_zero, List.set_cons_succ]
        refine walkC_still _ ?u9 rfl rfl rfl ?uy9 ?_
        case uy9 => intro w hS; go_simp; first | done | with_reducible rfl
        simp only [Act.put]
        try simp only [List.setIfInBounds_toArray, List.set_cons_zero, List.set_cons_succ]
        refine walkC_still _ ?u10 rfl rfl rfl ?uy10 ?_
        case uy10 => intro w hS; go_simp; first | done | with_reducible rfl
        simp only [Act.put]
        try simp only [List.setIfInBounds_toArray, List.set_cons_zero, List.set_cons_succ]
        refine walkC_still _ ?u11 rfl rfl rfl ?uy11 ?_
        case uy11 => intro w hS; go_simp; first | done | with_reducible rfl
        simp only [Act.put]
        try simp only [List.setIfInBounds_toArray, List.set_cons_zero, List.set_cons_succ]
        refine walkC_still _ ?u12 rfl rfl rfl ?uy12 ?_
        case uy12 => intro w hS; go_simp; first | done | with_reducible rfl
        simp only [Act.put]
        try simp only [List.setIfInBounds_toArray, List.set_cons_zero, List.set_cons_succ]
        refine walkC_nil ?_
        by_cases hz : (fxM y.i s'.regs m').trap = 0
        · have HN := Lib.hid ((HGO.out HC.out hz).symm.trans HT.out)
          have hz1 : ((fxM y.i s'.regs m').trap == 0) = true := beq_iff_eq.2 hz
          rw [hz1]
          clear hz hz1 m0 m1 m2 m3 m4 m5 m6 m7 m8
          go_wp2_with fail
          exact ⟨⟨k + 1, by omega, by go_num, by rw [HSUC.out]; exact HN.out, by rw [HSUC.out]; exact HA6.out, by rw [HSUC.out]; exact HO6.out, HB6.out, HX6.out⟩, by simp [intOf]; omega⟩
        · have HN := Lib.hid ((HTRAP.out HC.out hz).symm.trans HT.out)
          have hz1 : ((fxM y.i s'.regs m').trap == 0) = false := beq_eq_false_iff_ne.2 hz
          rw [hz1]
          clear hz hz1 m0 m1 m2 m3 m4 m5 m6 m7 m8
          go_wp2_with fail
          refine (rend_any w6 W0.heap.size g { s' with steps := s'.steps + 1, regs := regsM y.i s'.regs m' } 2 (fxM y.i s'.regs m').trap HA6.out).mono ?_
          rintro e' w7 ⟨rfl, ha7, hb7⟩
          have HA7 := Lib.hid ha7
          have HO7 := Lib.hid (OwnWords.but HO6.out hb7 (run_apart HA6.out HO6.out))
          have HB7 := Lib.hid (HB6.out.trans (below_of_but hb7 HA6.out.1 HB6.out.size))
          clear ha7 hb7
          go_wp2_with fail
          go_ret
          have h9 := HN.out
          injection h9 with h9 h8
          rw [← h9, ← h8]
          exact ⟨rfl, HA7.out, HO7.out, HB7.out⟩
      · have hd : decide (s'.steps < s'.max) = false := decide_eq_false hc
        rw [show s'.step = { s' with how := 3, val := 0 } from if_neg hc] at ha4
        have HA4 := Lib.hid ha4
        have HN := Lib.hid ((HCUT.out (by omega)).symm.trans HT.out)
        rw [hd]
        clear hd hc ha4 hb4 hne4
        go_wp2_with fail
        go_ret
        have h9 := HN.out
        injection h9 with h9 h8
        rw [← h9, ← h8]
        exact ⟨rfl, HA4.out, HO4.out, HB4.out⟩
    · obtain rfl : k = x.ins.length := by omega
      have HT := Lib.hid (show restQ x.fin [] (stQ x.ins s m x.ins.length).1 (stQ x.ins s m x.ins.length).2 = (rs, rm) by have h := HT.out; rw [List.drop_length] at h; exact h)
      obtain ⟨⟨s', m'⟩, hp⟩ : ∃ p, stQ x.ins s m x.ins.length = p := ⟨_, rfl⟩
      rw [hp] at HT HA HO HMX HSX
      clear hp
      go_wp2_with fail
      refine (rstepQ_any wr W0.heap.size g s' HA.out HMX.out HSX.out.1 HSX.out.2).mono ?_
      rintro e' w4 ⟨rfl, ha4, hb4⟩
      have HO4 := Lib.hid (OwnWords.but HO.out hb4 (run_apart HA.out HO.out))
      have HB4 := Lib.hid (HB.out.trans (below_of_but hb4 HA.out.1 HB.out.size))
      have HX4 := Lib.hid (hb4.str HBX.out HGW.out)
      by_cases hc : s'.steps < s'.max
      · have hd : decide (s'.steps < s'.max) = true := decide_eq_true hc
        rw [show s'.step = { s' with steps := s'.steps + 1 } from if_pos hc] at ha4
        have HA4 := Lib.hid ha4
        have HN := Lib.hid (show (leaveS x.fin { s' with steps := s'.steps + 1 }, m') = (rs, rm) by rw [← HT.out]; exact (if_pos hc).symm)
        rw [hd]
        clear hd hc ha4 hb4
        have m0 : w4.cell? ⟨w.heap.size, 0, none⟩ = some (.slice p0 x.ins.length c0) := HX4.out.cell 0
        have m1 : w4.cell? ⟨w.heap.size, 1, none⟩ = some (.int .i64 x.fin.op) := HX4.out.cell 1
        have m2 : w4.cell? ⟨w.heap.size, 2, none⟩ = some (.int .i64 x.fin.a) := HX4.out.cell 2
        have m3 : w4.cell? ⟨w.heap.size, 3, none⟩ = some (.int .i64 x.fin.b) := HX4.out.cell 3
        have m4 : w4.cell? ⟨w.heap.size, 4, none⟩ = some (.slice p4 x.fin.to.length c4) := HX4.out.cell 4
        have m5 : w4.cell? ⟨w.heap.size, 5, none⟩ = some (.int .i32 x.fin.imm) := HX4.out.cell 5
        go_wp2_with fail
        refine (leaveQ_any w4 W0.heap.size g { s' with steps := s'.steps + 1 } x.fin p4 x.fin.to.length c4 HA4.out HF.out).mono ?_
        rintro e' w5 ⟨rfl, ha5, ht5⟩
        have HA5 := Lib.hid ha5
        have HO5 := Lib.hid (own_two HO4.out ht5 (run_apart HA4.out HO4.out))
        have HB5 := Lib.hid (HB4.out.trans (two_below ht5 HA4.out.1 (fun x hx => by cases hx) HB4.out.size))
        have HME := Lib.hid (show (leaveS x.fin { s' with steps := s'.steps + 1 }).me = s'.me by unfold leaveS; split <;> rfl)
        clear ha5 ht5 m0 m1 m2 m3 m4 m5
        go_wp2_with fail
        go_ret
        have h9 := HN.out
        injection h9 with h9 h8
        rw [← h9, ← h8]
        exact ⟨rfl, HA5.out, by rw [HME.out]; exact HO5.out, HB5.out⟩
      · have hd : decide (s'.steps < s'.max) = false := decide_eq_false hc
        rw [show s'.step = { s' with how := 3, val := 0 } from if_neg hc] at ha4
        have HA4 := Lib.hid ha4
        have HN := Lib.hid (show (({ s' with how := 3, val := 0 } : PRun), m') = (rs, rm) by rw [← HT.out]; exact (if_neg hc).symm)
        rw [hd]
        clear hd hc ha4 hb4
        go_wp2_with fail
        go_ret
        have h9 := HN.out
        injection h9 with h9 h8
        rw [← h9, ← h8]
        exact ⟨rfl, HA4.out, HO4.out, HB4.out⟩
end Go.Proofs.Ytdidacjmcafcpaa.Ph
