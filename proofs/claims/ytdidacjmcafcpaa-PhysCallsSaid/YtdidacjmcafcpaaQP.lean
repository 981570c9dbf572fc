/- Stage 12: how a run begins. -/
import Derived.Test.YtdidacjmcafcpaaQO
import Derived.Test.YtdidacjmcafcpaaHeldR
import Derived.Laws.IdiomCopy
import Derived.Laws.MakeOwn
namespace Go.Proofs.Ytdidacjmcafcpaa.Ph
open Go.ChangeShapes Go.WideShapes Go.ChangeAt Go.RowKit Go.Proofs.Ytdidacjmcafcpaa.Mem Go.Proofs.Ytdidacjmcafcpaa.Kc Go.Proofs.Ytdidacjmcafcpaa.Pl Go.Proofs.Ytdidacjmcafcpaa.Mw Go.Proofs.Ytdidacjmcafcpaa.Mc Go.Proofs.Ytdidacjmcafcpaa.Br Go.Proofs.Ytdidacjmcafcpaa.Wd
set_option linter.unusedVariables false
set_option linter.unusedSimpArgs false
def parQ (params : Nat) (al : List Int) : List Int := al.take params ++ List.replicate (16 - (al.take params).length) 0
theorem wpList_copyQ {P : Program} {w : World} {ops : Array Oper} {rest : List Oper} {o : Oper} {a : Act} {Q : Exit → Act → World → Prop} (hgd : o.guard = none) (s x : Operand) (t : TypeId)
    (ho : o.op = .call { callee := .builtin .copy, args := #[s, x], argTypes := #[t, t] }) (sv xv : Value) (hs : a.eval s = sv) (hx : a.eval x = xv) (r : Value) (w' : World)
    (hr : (Builtin.copy_ #[t, t] o.type #[sv, xv]).run P w = .ok r w') (hK : wpList P ops Q rest (a.put o.dst r) w') : wpList P ops Q (o :: rest) a w := by
  refine wpList_plain hgd fun K hK' => ?_
  unfold Oper.wp execOp
  simp only [ho, resolve, invoke, builtin, Sem.run_bind, Sem.run_pure, Result.andThen_ok, List.map_toArray, List.map_cons, List.map_nil, hs, hx, hr]
  exact hK' _ _ hK
def lset (vs : List Value) (o : Nat) : List Value → List Value
  | [] => vs
  | v :: r => lset (vs.set o v) (o + 1) r
theorem str_cells {x : Nat} {t : TypeId} : ∀ (cs : List Value) (o : Nat) (vs : List Value) (w : World), Str w x t vs → Str (w.setCells x o cs) x t (lset vs o cs)
  | [], o, vs, w, h => h
  | v :: r, o, vs, w, h => str_cells r (o + 1) (vs.set o v) (w.setCell ⟨x, o, none⟩ v) (h.set o v)
theorem but_cells {x : Nat} : ∀ (cs : List Value) (o : Nat) (w : World), But x w (w.setCells x o cs)
  | [], o, w => But.refl _ _
  | v :: r, o, w => (but_set x o v w).trans (but_cells r (o + 1) _)
theorem lset_par (p0 p1 p2 p3 : Value) (qs : List Value) (l : List Int) (hl : l.length ≤ 4) : lset ([p0, p1, p2, p3] ++ ((List.replicate 16 (0 : Int)).map (Value.int .i32) ++ qs)) 4 (l.map (Value.int .i32)) = [p0, p1, p2, p3] ++ ((l ++ List.replicate (16 - l.length) 0).map (Value.int .i32) ++ qs) := by
  match l, hl with
  | [], _ => rfl
  | [a], _ => rfl
  | [a, b], _ => rfl
  | [a, b, c], _ => rfl
  | [a, b, c, d], _ => rfl
set_option maxRecDepth 100000 in
theorem copy_args (w : World) (B g : Nat) (s : PRun) (params : Nat) (hp : params ≤ 4) (al : List Int) (A : Option Addr) (ca : Nat) (hs : s.At B g w) (hr : s.regs = List.replicate 16 0) (ha : WordsAt w (.slice A al.length ca) al) :
    ∃ r w', (Builtin.copy_ #[36, 36] 3 #[.slice (some ⟨g, 4, none⟩) params 16, .slice A al.length ca]).run Try.prog w = .ok r w' ∧ ({ s with regs := parQ params al } : PRun).At B g w' ∧ But g w w' := by
  obtain ⟨A', c', e, _, _, hc⟩ := ha
  injection e with e1 _ e3
  subst e1 e3
  have hlen : (al.take params).length ≤ 4 := by rw [List.length_take]; omega
  by_cases h0 : min al.length params = 0
  · refine ⟨_, w, run_copy_none (P := Try.prog) w _ _ _ 21 _ _ _ _ _ _ (by kernel_rfl) (by kernel_rfl) h0, ?_, But.refl _ _⟩
    have e : parQ params al = s.regs := by
      have : al.take params = [] := List.length_eq_zero_iff.1 (by rw [List.length_take]; omega)
      unfold parQ
      rw [this, hr]; rfl
    rw [e]
    exact hs
  · obtain ⟨ad, rfl, _⟩ := hc 0 (by omega)
    have hg := run_copy_cells (P := Try.prog) w 36 36 3 21 g 4 params 16 ad al.length ca ((al.take params).map (Value.int .i32)) (by kernel_rfl) (by kernel_rfl) (by rw [List.length_map, List.length_take]; exact Nat.min_comm _ _)
      (fun j v hj => by
        rw [List.getElem?_map] at hj
        cases h9 : (al.take params)[j]? with
        | none => rw [h9] at hj; cases hj
        | some u =>
          rw [h9] at hj
          injection hj with hj
          subst hj
          obtain ⟨h7, h8⟩ := List.getElem?_eq_some_iff.1 h9
          rw [List.length_take] at h7
          rw [List.getElem_take] at h8
          obtain ⟨ad', e', hx⟩ := hc j (by omega)
          injection e' with e'
          subst e'
          rw [hx, h8])
      (fun j hj => by rw [List.length_map] at hj; rw [hs.2.2.2.cell (4 + j), rg_at hs.2.1 (by rw [hs.2.2.1]; omega)]; rfl) (fun j _ => hs.frozen _)
      (fun v hv => by obtain ⟨x, _, rfl⟩ := List.mem_map.1 hv; rfl)
    refine ⟨_, _, hg, ?_, but_cells _ _ _⟩
    obtain ⟨h1, h2, h3, h4⟩ := hs
    refine ⟨h1, h2, by show (parQ params al).length = 16; unfold parQ; rw [List.length_append, List.length_replicate]; omega, ?_⟩
    have h5 := str_cells ((al.take params).map (Value.int .i32)) 4 _ w h4
    rw [hr] at h5
    have h6 := lset_par s.av s.mv s.nv (.int .i64 s.max) s.qs (al.take params) hlen
    rw [show lset (s.ps ++ ((List.replicate 16 (0 : Int)).map (Value.int .i32) ++ s.qs)) 4 ((al.take params).map (Value.int .i32)) = _ from h6] at h5
    exact h5
set_option maxRecDepth 100000 in
theorem run_cutQ (w : World) (g n : Nat) (hn : n ≤ 4) : (Instr.sliceAt 76 (.pointer (some ⟨g, 4, none⟩)) none (some (.int .i64 n)) none).run Try.prog w = .ok (.slice (some ⟨g, 4, none⟩) n 16) w := by
  have h : n = 0 ∨ n = 1 ∨ n = 2 ∨ n = 3 ∨ n = 4 := by omega
  have ha : Try.prog.arrayLen 76 = 16 := by kernel_rfl
  have hr := run_sliceAt_array_h (P := Try.prog) w 76 ⟨g, 4, none⟩ Try.underlying76 .i64 (n : Int) (by omega) (by rw [ha]; omega)
  rw [hr, ha]
  rcases h with rfl | rfl | rfl | rfl | rfl <;> rfl
theorem made_zeros (n : Nat) : (madeCells #[Value.int .i32 0] n).toList = (List.replicate n (0 : Int)).map (Value.int .i32) := by
  apply List.ext_getElem?
  intro j
  unfold madeCells
  by_cases h : j < n
  · simp [List.getElem?_replicate, Nat.mod_one, h]
  · simp [List.getElem?_replicate, Nat.mod_one, h]
set_option maxRecDepth 100000 in
theorem run_zeros (w : World) (n : Nat) (hn : n ≤ 1000000) : (Instr.makeSlice 36 (.int .i64 (n : Int)) (.int .i64 (n : Int))).run Try.prog w = .ok (.slice (some ⟨w.heap.size, 0, none⟩) n n) (w.alloc (.cells (madeCells #[Value.int .i32 0] n) 21)) := by
  have hw := info_word
  cases hi : Try.prog.info? 21 with
  | none => rw [hi] at hw; cases hw
  | some i0 =>
    rw [hi] at hw
    injection hw with hw
    injection hw with hz0 hw
    injection hw with hz1 hz2
    have h := run_makeSlice (P := Try.prog) w 36 21 i0 (.int .i32 0) Try.underlying36 hi hz0 .i64 .i64 (n : Int) (n : Int) (by omega) (Int.le_refl _) (by rw [hz1]; omega) (by rw [hz2]; omega) (by omega)
    rw [h, hz1]
    simp only [Int.toNat_natCast, Nat.mul_one]
    rfl
theorem own_zeros (w : World) (n : Nat) (hn : n ≤ 1000000) : OwnWords w.heap.size (w.alloc (.cells (madeCells #[Value.int .i32 0] n) 21)) (.slice (some ⟨w.heap.size, 0, none⟩) n n) (List.replicate n 0) := by
  refine ⟨by rw [List.length_map, Nat.mul_one], Or.inr ⟨w.heap.size, n, madeCells #[Value.int .i32 0] n, by rw [List.length_replicate], Nat.le_refl _, World.alloc_heap_new w _, by rw [List.length_replicate]; exact Nat.le_refl _, by unfold maxLen; omega, by rw [size_madeCells, Nat.mul_one], ?_⟩⟩
  rw [made_zeros, List.length_replicate, Nat.mul_one]
  exact List.take_of_length_le (by simp)
theorem run_start (w : World) (B : Nat) (hB : B ≤ w.heap.size) (av mv nv : Value) (lim : Int) (sv me : Value) : ({ av := av, mv := mv, nv := nv, max := lim, regs := List.replicate 16 0, sv := sv, how := 0, val := 0, me := me, ca := .slice none 0 0, steps := 0 } : PRun).At B w.heap.size (w.alloc (.cells #[av, mv, nv, .int .i64 lim, .int .i32 0, .int .i32 0, .int .i32 0, .int .i32 0, .int .i32 0, .int .i32 0, .int .i32 0, .int .i32 0, .int .i32 0, .int .i32 0, .int .i32 0, .int .i32 0, .int .i32 0, .int .i32 0, .int .i32 0, .int .i32 0, sv, .int .i64 0, .int .i32 0, me, .slice none 0 0, .int .i64 0] 78)) :=
  ⟨hB, rfl, rfl, World.alloc_heap_new w _⟩
def BeginQ (av mv nv : Value) (lim : Int) (params sl : Nat) (al ml : List Int) (w : World) (en : Ending) (w' : World) : Prop :=
  ∃ g sv me, en = .returned (.pointer (some ⟨g, 0, none⟩)) ∧ ({ av := av, mv := mv, nv := nv, max := lim, regs := parQ params al, sv := sv, how := 0, val := 0, me := me, ca := .slice none 0 0, steps := 0 } : PRun).At w.heap.size g w' ∧ OwnWords w.heap.size w' sv (List.replicate sl 0) ∧ OwnWords w.heap.size w' me (ml.take 4096) ∧ Below w.heap.size w w' ∧ (me.ownBlock = none ∨ me.ownBlock ≠ sv.ownBlock)
set_option maxRecDepth 100000 in
set_option maxHeartbeats 4000000 in
theorem beginQ_any (w : World) (params sl : Nat) (r : Int) (BV : Value) (hp : params ≤ 4) (hsl : sl ≤ 1000000) (av mv nv : Value) (lim : Int) (al ml : List Int) (ha : WordsAt w av al) (hm : WordsAt w mv ml) :
    Calls Try.prog 43 #[.agg #[.int .i64 params, .int .i64 r, .int .i64 sl, BV], .agg #[av, mv, nv, .int .i64 lim]] w (BeginQ av mv nv lim params sl al ml w) := by
  have HM := Lib.hid hm
  have HA := Lib.hid ha
  obtain ⟨A, ca, rfl, _, _, _⟩ := ha
  clear hm
  go_enter Try.func43, Try.ntmps43
  go_upto_region 1 with (fail)
  obtain ⟨W1, hW1⟩ : ∃ W1, (w.alloc (.cells #[.int .i64 params, .int .i64 r, .int .i64 sl, BV] 51)).alloc (.cells #[.slice A al.length ca, mv, nv, .int .i64 lim] 53) = W1 := ⟨_, rfl⟩
  have hbW1 : Below w.heap.size w W1 := by rw [← hW1]; exact ((Below.refl _ _).alloc (Nat.le_refl _) _).alloc (by simp) _
  have hsW1 : Str W1 w.heap.size 51 [.int .i64 params, .int .i64 r, .int .i64 sl, BV] := by rw [← hW1]; exact Str.below (World.alloc_heap_new w _) ((Below.refl _ _).alloc (Nat.le_refl _) _)
  have htW1 : Str W1 (w.heap.size + 1) 53 [.slice A al.length ca, mv, nv, .int .i64 lim] := by
    have h9 := World.alloc_heap_new (w.alloc (.cells #[.int .i64 params, .int .i64 r, .int .i64 sl, BV] 51)) (.cells #[.slice A al.length ca, mv, nv, .int .i64 lim] 53)
    rw [hW1] at h9
    simp only [World.size_alloc] at h9
    exact h9
  rw [hW1]
  clear hW1
  have n0 : W1.cell? ⟨w.heap.size, 0, none⟩ = some (.int .i64 params) := hsW1.cell 0
  have n1 : W1.cell? ⟨w.heap.size, 1, none⟩ = some (.int .i64 r) := hsW1.cell 1
  have n2 : W1.cell? ⟨w.heap.size, 2, none⟩ = some (.int .i64 sl) := hsW1.cell 2
  have n3 : W1.cell? ⟨w.heap.size, 3, none⟩ = some (BV) := hsW1.cell 3
  have m0 : W1.cell? ⟨w.heap.size + 1, 0, none⟩ = some (.slice A al.length ca) := htW1.cell 0
  have m1 : W1.cell? ⟨w.heap.size + 1, 1, none⟩ = some (mv) := htW1.cell 1
  have m2 : W1.cell? ⟨w.heap.size + 1, 2, none⟩ = some (nv) := htW1.cell 2
  have m3 : W1.cell? ⟨w.heap.size + 1, 3, none⟩ = some (.int .i64 lim) := htW1.cell 3
  have HB1 := Lib.hid hbW1
  have HS1 := Lib.hid hsW1
  have HT1 := Lib.hid htW1
  clear hsW1 htW1 hbW1
  have hmk := fun w => run_zeros w sl hsl
  refine region_heldR_wp (fun w' => w'.cell? ⟨w.heap.size, 0, none⟩ = some (.int .i64 params) ∧ w'.cell? ⟨w.heap.size, 2, none⟩ = some (.int .i64 sl) ∧ w'.cell? ⟨w.heap.size + 1, 0, none⟩ = some (.slice A al.length ca) ∧ w'.cell? ⟨w.heap.size + 1, 1, none⟩ = some (mv) ∧ w'.cell? ⟨w.heap.size + 1, 2, none⟩ = some (nv) ∧ w'.cell? ⟨w.heap.size + 1, 3, none⟩ = some (.int .i64 lim)) [0, 1, 2, 4, 6, 7, 9] (.step 0 (.step 1 (.step 2 (.step 4 (.fork 3 5 (.step 5 (.step 6 (.step 7 (.step 8 (.step 9 .done))))) (.step 6 (.step 3 (.step 7 (.step 8 (.step 9 .done)))))))))) (by kernel_rfl) (by kernel_rfl) (by kernel_rfl) rfl (by intro c a d v w h; cases d <;> exact h) ⟨n0, n2, m0, m1, m2, m3⟩ ?_
  refine walkR_still _ ?u0 rfl rfl rfl ?uy0 ?_
  case uy0 => intro w hS; obtain ⟨n0, n2, m0, m1, m2, m3⟩ := hS; go_simp; first | done | with_reducible rfl
  simp only [Act.put]
  refine walkR_still _ ?u1 rfl rfl rfl ?uy1 ?_
  case uy1 => intro w hS; obtain ⟨n0, n2, m0, m1, m2, m3⟩ := hS; go_simp; first | done | with_reducible rfl
  simp only [Act.put]
  refine walkR_still _ ?u2 rfl rfl rfl ?uy2 ?_
  case uy2 => intro w hS; obtain ⟨n0, n2, m0, m1, m2, m3⟩ := hS; go_simp; first | done | with_reducible rfl
  simp only [Act.put]
  refine walkR_still _ ?u4 rfl rfl rfl ?uy4 ?_
  case uy4 => intro w hS; obtain ⟨n0, n2, m0, m1, m2, m3⟩ := hS; go_simp; first | done | with_reducible rfl
  simp only [Act.put]
  try simp only [List.setIfInBounds_toArray, List.set_cons_zero, List.set_cons_succ]
  have HMEM := Lib.hid (fun (w' : World) (hb : Below w.heap.size w w') => memory_any w' (.slice A al.length ca) mv nv lim ml (HM.out.below hb))
  have HD := Lib.hid (show Below w.heap.size w { W1 with drawn := W1.drawn + 1 } from HB1.out.trans ((Below.refl W1.heap.size W1).drew.mono HB1.out.size))
  refine walkR_fork _ _ rfl rfl ?fa ?fb
  case fa =>
    go_wp2
    obtain ⟨W2, hW2⟩ : ∃ V, (W1.alloc (.cells (madeCells #[Value.int .i32 0] sl) 21)).drew = V := ⟨_, rfl⟩
    rw [hW2]
    have hb2 : Below W1.heap.size W1 W2 := by rw [← hW2]; exact ((Below.refl _ _).alloc (Nat.le_refl _) _).drew
    have hsv2 : OwnWords W1.heap.size W2 (.slice (some ⟨W1.heap.size, 0, none⟩) sl sl) (List.replicate sl 0) := by rw [← hW2]; exact OwnWords.below (own_zeros W1 sl hsl) (Below.refl _ _).drew
    clear hW2
    have q20 := cell_keep hb2 (Nat.le_refl _) n0
    have q21 := cell_keep hb2 (Nat.le_refl _) n2
    have q22 := cell_keep hb2 (Nat.le_refl _) m0
    have q23 := cell_keep hb2 (Nat.le_refl _) m1
    have q24 := cell_keep hb2 (Nat.le_refl _) m2
    have q25 := cell_keep hb2 (Nat.le_refl _) m3
    refine behindR ⟨q20, q21, q22, q23, q24, q25⟩ ?_
    try simp only [List.setIfInBounds_toArray, List.set_cons_zero, List.set_cons_succ]
    refine walkR_does _ rfl rfl ?_
    have HB2 := Lib.hid (HB1.out.trans (hb2.mono HB1.out.size))
    go_wp2_with fail
    refine (HMEM.out W2 HB2.out).mono ?_
    rintro e' W5 ⟨vme, rfl, ho5, hb5⟩
    obtain ⟨vA, vn, vc, rfl⟩ := OwnWords.slice ho5
    have HB5 := Lib.hid (HB2.out.trans (hb5.mono HB2.out.size))
    have hsv5 : OwnWords w.heap.size W5 (.slice (some ⟨W1.heap.size, 0, none⟩) sl sl) (List.replicate sl 0) := OwnWords.mono (OwnWords.below hsv2 hb5) HB1.out.size
    have hme5 : OwnWords w.heap.size W5 (.slice vA vn vc) (ml.take 4096) := OwnWords.mono ho5 HB2.out.size
    have HAP := Lib.hid (show (Value.slice vA vn vc).ownBlock = none ∨ (Value.slice vA vn vc).ownBlock ≠ (Value.slice (some ⟨W1.heap.size, 0, none⟩) sl sl).ownBlock from Or.inr (fun e => by have h1 := (OwnWords.where_ ho5 (g := W1.heap.size) e).1; have h2 := (OwnWords.where_ hsv2 (g := W1.heap.size) rfl).2; omega))
    have hsv5k := hsv5
    have hme5k := hme5
    have hlt5 : w.heap.size + 1 < W5.heap.size := Nat.lt_of_lt_of_le HT1.out.lt (Nat.le_trans hb2.size hb5.size)
    have q50 := cell_keep hb5 (Nat.le_refl _) q20
    have q51 := cell_keep hb5 (Nat.le_refl _) q21
    have q52 := cell_keep hb5 (Nat.le_refl _) q22
    have q53 := cell_keep hb5 (Nat.le_refl _) q23
    have q54 := cell_keep hb5 (Nat.le_refl _) q24
    have q55 := cell_keep hb5 (Nat.le_refl _) q25
    clear ho5 hsv2 q20 q21 q22 q23 q24 q25
    go_wp2_with fail
    refine behindR ⟨q50, q51, q52, q53, q54, q55⟩ ?_
    try simp only [List.setIfInBounds_toArray, List.set_cons_zero, List.set_cons_succ]
    refine walkR_still _ ?fa6 rfl rfl rfl ?fay6 ?_
    case fay6 => intro w hS; go_simp; first | done | with_reducible rfl
    simp only [Act.put]
    try simp only [List.setIfInBounds_toArray, List.set_cons_zero, List.set_cons_succ]
    refine walkR_still _ ?fa7 rfl rfl rfl ?fay7 ?_
    case fay7 => intro w hS; go_simp; first | done | with_reducible rfl
    simp only [Act.put]
    try simp only [List.setIfInBounds_toArray, List.set_cons_zero, List.set_cons_succ]
    refine walkR_does _ rfl rfl ?_
    go_wp2
    obtain ⟨W6, hW6⟩ : ∃ V, W5.alloc (.cells #[.slice A al.length ca, mv, nv, .int .i64 lim, .int .i32 0, .int .i32 0, .int .i32 0, .int .i32 0, .int .i32 0, .int .i32 0, .int .i32 0, .int .i32 0, .int .i32 0, .int .i32 0, .int .i32 0, .int .i32 0, .int .i32 0, .int .i32 0, .int .i32 0, .int .i32 0, .slice (some ⟨W1.heap.size, 0, none⟩) sl sl, .int .i64 0, .int .i32 0, .slice vA vn vc, .slice none 0 0, .int .i64 0] 78) = V := ⟨_, rfl⟩
    rw [hW6]
    have hb6 : Below W5.heap.size W5 W6 := by rw [← hW6]; exact (Below.refl _ _).alloc (Nat.le_refl _) _
    have hat := run_start W5 w.heap.size HB5.out.size (.slice A al.length ca) mv nv lim (.slice (some ⟨W1.heap.size, 0, none⟩) sl sl) (.slice vA vn vc)
    rw [hW6] at hat
    have HAT := Lib.hid hat
    have hz6 : W5.heap.size < W6.heap.size := hat.2.2.2.lt
    clear hW6 hat
    have q60 := cell_keep hb6 (Nat.le_refl _) q50
    have q61 := cell_keep hb6 (Nat.le_refl _) q51
    have q62 := cell_keep hb6 (Nat.le_refl _) q52
    have q63 := cell_keep hb6 (Nat.le_refl _) q53
    have q64 := cell_keep hb6 (Nat.le_refl _) q54
    have q65 := cell_keep hb6 (Nat.le_refl _) q55
    refine behindR ⟨q60, q61, q62, q63, q64, q65⟩ ?_
    refine walkR_still _ ?fa9 rfl rfl rfl ?fay9 ?_
    case fay9 => intro w hS; go_simp; first | done | with_reducible rfl
    simp only [Act.put]
    try simp only [List.setIfInBounds_toArray, List.set_cons_zero, List.set_cons_succ]
    refine walkR_done ?_
    have HB6 := Lib.hid (HB5.out.trans (hb6.mono HB5.out.size))
    have HSV := Lib.hid (OwnWords.below hsv5 hb6)
    have HMV := Lib.hid (OwnWords.below hme5 hb6)
    clear hsv5 hme5 hb6
    go_wp2_with fail
    obtain ⟨cr, W7, hcp, hat7, hbt7⟩ := copy_args W6.drew w.heap.size W5.heap.size _ params hp al A ca (HAT.out.below (Below.refl _ _).drew) rfl (HA.out.below (HB6.out.trans ((Below.refl W6.heap.size W6).drew.mono HB6.out.size)))
    have hcut := fun w => run_cutQ w W5.heap.size params hp
    refine region_heldC_wp (fun w' => w'.cell? ⟨w.heap.size, 0, none⟩ = some (.int .i64 params) ∧ w'.cell? ⟨w.heap.size + 1, 0, none⟩ = some (.slice A al.length ca)) [0, 1, 2, 3, 4, 5, 6, 7] [0, 1, 2, 3, 4, 5, 6, 7, 8] (by kernel_rfl) (by kernel_rfl) (by kernel_rfl) rfl (by intro c a d v w h; cases d <;> exact h) ⟨q60, q62⟩ ?_
    refine walkC_still _ ?fac0 rfl rfl rfl ?facy0 ?_
    case facy0 => intro w hS; obtain ⟨q60, q62⟩ := hS; go_simp; first | done | exact hcut w | with_reducible rfl
    simp only [Act.put]
    try simp only [List.setIfInBounds_toArray, List.set_cons_zero, List.set_cons_succ]
    refine walkC_still _ ?fac1 rfl rfl rfl ?facy1 ?_
    case facy1 => intro w hS; obtain ⟨q60, q62⟩ := hS; go_simp; first | done | exact hcut w | with_reducible rfl
    simp only [Act.put]
    try simp only [List.setIfInBounds_toArray, List.set_cons_zero, List.set_cons_succ]
    refine walkC_still _ ?fac2 rfl rfl rfl ?facy2 ?_
    case facy2 => intro w hS; obtain ⟨q60, q62⟩ := hS; go_simp; first | done | exact hcut w | with_reducible rfl
    simp only [Act.put]
    try simp only [List.setIfInBounds_toArray, List.set_cons_zero, List.set_cons_succ]
    refine walkC_still _ ?fac3 rfl rfl rfl ?facy3 ?_
    case facy3 => intro w hS; obtain ⟨q60, q62⟩ := hS; go_simp; first | done | exact hcut w | with_reducible rfl
    simp only [Act.put]
    try simp only [List.setIfInBounds_toArray, List.set_cons_zero, List.set_cons_succ]
    refine walkC_still _ ?fac4 rfl rfl rfl ?facy4 ?_
    case facy4 => intro w hS; obtain ⟨q60, q62⟩ := hS; go_simp; first | done | exact hcut w | with_reducible rfl
    simp only [Act.put]
    try simp only [List.setIfInBounds_toArray, List.set_cons_zero, List.set_cons_succ]
    refine walkC_still _ ?fac5 rfl rfl rfl ?facy5 ?_
    case facy5 => intro w hS; obtain ⟨q60, q62⟩ := hS; go_simp; first | done | exact hcut w | with_reducible rfl
    simp only [Act.put]
    try simp only [List.setIfInBounds_toArray, List.set_cons_zero, List.set_cons_succ]
    refine walkC_still _ ?fac6 rfl rfl rfl ?facy6 ?_
    case facy6 => intro w hS; obtain ⟨q60, q62⟩ := hS; go_simp; first | done | exact hcut w | with_reducible rfl
    simp only [Act.put]
    try simp only [List.setIfInBounds_toArray, List.set_cons_zero, List.set_cons_succ]
    refine walkC_still _ ?fac7 rfl rfl rfl ?facy7 ?_
    case facy7 => intro w hS; obtain ⟨q60, q62⟩ := hS; go_simp; first | done | exact hcut w | with_reducible rfl
    simp only [Act.put]
    try simp only [List.setIfInBounds_toArray, List.set_cons_zero, List.set_cons_succ]
    refine walkC_does _ rfl rfl ?_
    refine wpList_copyQ rfl _ _ _ rfl _ _ rfl rfl _ _ hcp ?_
    refine wpList_nil (behindC ⟨hbt7.cell q60 (by show w.heap.size ≠ W5.heap.size; have := HB5.out.size; have := hlt5; omega), hbt7.cell q62 (by show w.heap.size + 1 ≠ W5.heap.size; have := hlt5; omega)⟩ ?_)
    refine walkC_nil ?_
    have HAT7 := Lib.hid hat7
    have HD6 := Lib.hid (HB6.out.trans ((Below.refl W6.heap.size W6).drew.mono HB6.out.size))
    have HSV7 := Lib.hid (OwnWords.but (HSV.out.below (Below.refl _ _).drew) hbt7 (fun e => by have := (OwnWords.where_ hsv5k e).2; omega))
    have HMV7 := Lib.hid (OwnWords.but (HMV.out.below (Below.refl _ _).drew) hbt7 (fun e => by have := (OwnWords.where_ hme5k e).2; omega))
    have HB7 := Lib.hid (HD6.out.trans (below_of_but hbt7 HB5.out.size HD6.out.size))
    clear hcp hat7 hbt7 q60 q61 q62 q63 q64 q65
    go_wp2
    go_ret
    exact ⟨_, _, _, rfl, HAT7.out, HSV7.out, HMV7.out, HB7.out, HAP.out⟩
  case fb =>
    go_wp2_with fail
    refine (HMEM.out _ HD.out).mono ?_
    rintro e' w3 ⟨vme, rfl, ho3, hb3⟩
    obtain ⟨vA, vn, vc, rfl⟩ := OwnWords.slice ho3
    have HB3 := Lib.hid (HD.out.trans (hb3.mono HD.out.size))
    have hme3 : OwnWords w.heap.size w3 (.slice vA vn vc) (ml.take 4096) := OwnWords.mono ho3 HD.out.size
    have hb3 : Below W1.heap.size W1 w3 := (Below.refl W1.heap.size W1).drew.trans hb3
    have q20 := cell_keep hb3 (Nat.le_refl _) n0
    have q21 := cell_keep hb3 (Nat.le_refl _) n2
    have q22 := cell_keep hb3 (Nat.le_refl _) m0
    have q23 := cell_keep hb3 (Nat.le_refl _) m1
    have q24 := cell_keep hb3 (Nat.le_refl _) m2
    have q25 := cell_keep hb3 (Nat.le_refl _) m3
    go_wp2_with fail
    refine behindR ⟨q20, q21, q22, q23, q24, q25⟩ ?_
    try simp only [List.setIfInBounds_toArray, List.set_cons_zero, List.set_cons_succ]
    refine walkR_still _ ?fb6 rfl rfl rfl ?fby6 ?_
    case fby6 => intro w hS; go_simp; first | done | with_reducible rfl
    simp only [Act.put]
    try simp only [List.setIfInBounds_toArray, List.set_cons_zero, List.set_cons_succ]
    refine walkR_does _ rfl rfl ?_
    go_wp2
    obtain ⟨W5, hW5⟩ : ∃ V, w3.alloc (.cells (madeCells #[Value.int .i32 0] sl) 21) = V := ⟨_, rfl⟩
    rw [hW5]
    have hb5 : Below w3.heap.size w3 W5 := by rw [← hW5]; exact (Below.refl _ _).alloc (Nat.le_refl _) _
    have hsv5 : OwnWords w.heap.size W5 (.slice (some ⟨w3.heap.size, 0, none⟩) sl sl) (List.replicate sl 0) := by rw [← hW5]; exact OwnWords.mono (own_zeros w3 sl hsl) HB3.out.size
    clear hW5
    have HB5 := Lib.hid (HB3.out.trans (hb5.mono HB3.out.size))
    have hme5 : OwnWords w.heap.size W5 (.slice vA vn vc) (ml.take 4096) := OwnWords.below hme3 hb5
    have HAP := Lib.hid (show (Value.slice vA vn vc).ownBlock = none ∨ (Value.slice vA vn vc).ownBlock ≠ (Value.slice (some ⟨w3.heap.size, 0, none⟩) sl sl).ownBlock from Or.inr (fun e => by have h1 := (OwnWords.where_ hme3 (g := w3.heap.size) e).2; omega))
    have hsv5k := hsv5
    have hme5k := hme5
    have hlt5 : w.heap.size + 1 < W5.heap.size := Nat.lt_of_lt_of_le HT1.out.lt (Nat.le_trans hb3.size hb5.size)
    have q50 := cell_keep hb5 (Nat.le_refl _) q20
    have q51 := cell_keep hb5 (Nat.le_refl _) q21
    have q52 := cell_keep hb5 (Nat.le_refl _) q22
    have q53 := cell_keep hb5 (Nat.le_refl _) q23
    have q54 := cell_keep hb5 (Nat.le_refl _) q24
    have q55 := cell_keep hb5 (Nat.le_refl _) q25
    clear ho3 hme3 q20 q21 q22 q23 q24 q25
    refine behindR ⟨q50, q51, q52, q53, q54, q55⟩ ?_
    try simp only [List.setIfInBounds_toArray, List.set_cons_zero, List.set_cons_succ]
    refine walkR_still _ ?fb7 rfl rfl rfl ?fby7 ?_
    case fby7 => intro w hS; go_simp; first | done | with_reducible rfl
    simp only [Act.put]
    try simp only [List.setIfInBounds_toArray, List.set_cons_zero, List.set_cons_succ]
    refine walkR_does _ rfl rfl ?_
    go_wp2
    obtain ⟨W6, hW6⟩ : ∃ V, W5.alloc (.cells #[.slice A al.length ca, mv, nv, .int .i64 lim, .int .i32 0, .int .i32 0, .int .i32 0, .int .i32 0, .int .i32 0, .int .i32 0, .int .i32 0, .int .i32 0, .int .i32 0, .int .i32 0, .int .i32 0, .int .i32 0, .int .i32 0, .int .i32 0, .int .i32 0, .int .i32 0, .slice (some ⟨w3.heap.size, 0, none⟩) sl sl, .int .i64 0, .int .i32 0, .slice vA vn vc, .slice none 0 0, .int .i64 0] 78) = V := ⟨_, rfl⟩
    rw [hW6]
    have hb6 : Below W5.heap.size W5 W6 := by rw [← hW6]; exact (Below.refl _ _).alloc (Nat.le_refl _) _
    have hat := run_start W5 w.heap.size HB5.out.size (.slice A al.length ca) mv nv lim (.slice (some ⟨w3.heap.size, 0, none⟩) sl sl) (.slice vA vn vc)
    rw [hW6] at hat
    have HAT := Lib.hid hat
    have hz6 : W5.heap.size < W6.heap.size := hat.2.2.2.lt
    clear hW6 hat
    have q60 := cell_keep hb6 (Nat.le_refl _) q50
    have q61 := cell_keep hb6 (Nat.le_refl _) q51
    have q62 := cell_keep hb6 (Nat.le_refl _) q52
    have q63 := cell_keep hb6 (Nat.le_refl _) q53
    have q64 := cell_keep hb6 (Nat.le_refl _) q54
    have q65 := cell_keep hb6 (Nat.le_refl _) q55
    refine behindR ⟨q60, q61, q62, q63, q64, q65⟩ ?_
    refine walkR_still _ ?fb9 rfl rfl rfl ?fby9 ?_
    case fby9 => intro w hS; go_simp; first | done | with_reducible rfl
    simp only [Act.put]
    try simp only [List.setIfInBounds_toArray, List.set_cons_zero, List.set_cons_succ]
    refine walkR_done ?_
    have HB6 := Lib.hid (HB5.out.trans (hb6.mono HB5.out.size))
    have HSV := Lib.hid (OwnWords.below hsv5 hb6)
    have HMV := Lib.hid (OwnWords.below hme5 hb6)
    clear hsv5 hme5 hb6
    go_wp2_with fail
    obtain ⟨cr, W7, hcp, hat7, hbt7⟩ := copy_args W6.drew w.heap.size W5.heap.size _ params hp al A ca (HAT.out.below (Below.refl _ _).drew) rfl (HA.out.below (HB6.out.trans ((Below.refl W6.heap.size W6).drew.mono HB6.out.size)))
    have hcut := fun w => run_cutQ w W5.heap.size params hp
    refine region_heldC_wp (fun w' => w'.cell? ⟨w.heap.size, 0, none⟩ = some (.int .i64 params) ∧ w'.cell? ⟨w.heap.size + 1, 0, none⟩ = some (.slice A al.length ca)) [0, 1, 2, 3, 4, 5, 6, 7] [0, 1, 2, 3, 4, 5, 6, 7, 8] (by kernel_rfl) (by kernel_rfl) (by kernel_rfl) rfl (by intro c a d v w h; cases d <;> exact h) ⟨q60, q62⟩ ?_
    refine walkC_still _ ?fbc0 rfl rfl rfl ?fbcy0 ?_
    case fbcy0 => intro w hS; obtain ⟨q60, q62⟩ := hS; go_simp; first | done | exact hcut w | with_reducible rfl
    simp only [Act.put]
    try simp only [List.setIfInBounds_toArray, List.set_cons_zero, List.set_cons_succ]
    refine walkC_still _ ?fbc1 rfl rfl rfl ?fbcy1 ?_
    case fbcy1 => intro w hS; obtain ⟨q60, q62⟩ := hS; go_simp; first | done | exact hcut w | with_reducible rfl
    simp only [Act.put]
    try simp only [List.setIfInBounds_toArray, List.set_cons_zero, List.set_cons_succ]
    refine walkC_still _ ?fbc2 rfl rfl rfl ?fbcy2 ?_
    case fbcy2 => intro w hS; obtain ⟨q60, q62⟩ := hS; go_simp; first | done | exact hcut w | with_reducible rfl
    simp only [Act.put]
    try simp only [List.setIfInBounds_toArray, List.set_cons_zero, List.set_cons_succ]
    refine walkC_still _ ?fbc3 rfl rfl rfl ?fbcy3 ?_
    case fbcy3 => intro w hS; obtain ⟨q60, q62⟩ := hS; go_simp; first | done | exact hcut w | with_reducible rfl
    simp only [Act.put]
    try simp only [List.setIfInBounds_toArray, List.set_cons_zero, List.set_cons_succ]
    refine walkC_still _ ?fbc4 rfl rfl rfl ?fbcy4 ?_
    case fbcy4 => intro w hS; obtain ⟨q60, q62⟩ := hS; go_simp; first | done | exact hcut w | with_reducible rfl
    simp only [Act.put]
    try simp only [List.setIfInBounds_toArray, List.set_cons_zero, List.set_cons_succ]
    refine walkC_still _ ?fbc5 rfl rfl rfl ?fbcy5 ?_
    case fbcy5 => intro w hS; obtain ⟨q60, q62⟩ := hS; go_simp; first | done | exact hcut w | with_reducible rfl
    simp only [Act.put]
    try simp only [List.setIfInBounds_toArray, List.set_cons_zero, List.set_cons_succ]
    refine walkC_still _ ?fbc6 rfl rfl rfl ?fbcy6 ?_
    case fbcy6 => intro w hS; obtain ⟨q60, q62⟩ := hS; go_simp; first | done | exact hcut w | with_reducible rfl
    simp only [Act.put]
    try simp only [List.setIfInBounds_toArray, List.set_cons_zero, List.set_cons_succ]
    refine walkC_still _ ?fbc7 rfl rfl rfl ?fbcy7 ?_
    case fbcy7 => intro w hS; obtain ⟨q60, q62⟩ := hS; go_simp; first | done | exact hcut w | with_reducible rfl
    simp only [Act.put]
    try simp only [List.setIfInBounds_toArray, List.set_cons_zero, List.set_cons_succ]
    refine walkC_does _ rfl rfl ?_
    refine wpList_copyQ rfl _ _ _ rfl _ _ rfl rfl _ _ hcp ?_
    refine wpList_nil (behindC ⟨hbt7.cell q60 (by show w.heap.size ≠ W5.heap.size; have := HB5.out.size; have := hlt5; omega), hbt7.cell q62 (by show w.heap.size + 1 ≠ W5.heap.size; have := hlt5; omega)⟩ ?_)
    refine walkC_nil ?_
    have HAT7 := Lib.hid hat7
    have HD6 := Lib.hid (HB6.out.trans ((Below.refl W6.heap.size W6).drew.mono HB6.out.size))
    have HSV7 := Lib.hid (OwnWords.but (HSV.out.below (Below.refl _ _).drew) hbt7 (fun e => by have := (OwnWords.where_ hsv5k e).2; omega))
    have HMV7 := Lib.hid (OwnWords.but (HMV.out.below (Below.refl _ _).drew) hbt7 (fun e => by have := (OwnWords.where_ hme5k e).2; omega))
    have HB7 := Lib.hid (HD6.out.trans (below_of_but hbt7 HB5.out.size HD6.out.size))
    clear hcp hat7 hbt7 q60 q61 q62 q63 q64 q65
    go_wp2
    go_ret
    exact ⟨_, _, _, rfl, HAT7.out, HSV7.out, HMV7.out, HB7.out, HAP.out⟩
end Go.Proofs.Ytdidacjmcafcpaa.Ph
