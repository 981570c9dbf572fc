/- Stage 7: law MachTouches as a call. -/
import Derived.Test.YtonheiaohgbbcaaGreatNB
namespace Go.Proofs.YtonheiaohgbbcaaGreat.Mc
open Go.ChangeShapes Go.WideShapes Go.ChangeAt Go.RowKit Go.Maps Go.Proofs.YtonheiaohgbbcaaGreat.Mem Go.Proofs.YtonheiaohgbbcaaGreat.Kc Go.Proofs.YtonheiaohgbbcaaGreat.Br Go.Proofs.YtonheiaohgbbcaaGreat.Pl Go.Proofs.YtonheiaohgbbcaaGreat.Mw Go.Proofs.YtonheiaohgbbcaaGreat.Gr
set_option linter.unusedVariables false
set_option linter.unusedSimpArgs false
theorem and15 (n : Int) : bits .and .i64 n 15 = n % 16 := by
  have key : (((BitVec.ofInt 64 n) &&& (BitVec.ofInt 64 15)).toNat : Int) = n % 16 := by
    rw [BitVec.toNat_and]
    have e : (BitVec.ofInt 64 15).toNat = 2 ^ 4 - 1 := by decide +kernel
    rw [e, Nat.and_two_pow_sub_one_eq_mod, BitVec.toNat_ofInt]
    omega
  show IntKind.i64.wrap (((BitVec.ofInt 64 n) &&& (BitVec.ofInt 64 15)).toNat : Int) = _
  rw [key]
  exact IntWalk.i64_in _ (by omega)
/-- The law's own instruction: seven operands at most, registers of sixteen. -/
def nearM (i : PMach) : PMach := ⟨i.op, i.d % 16, i.e % 16, i.a % 16, i.b % 16, i.c % 16, i.imm, i.args.take 7⟩
theorem OwnWords.two {B : Nat} {w w' : World} {v : Value} {l : List Int} {r m : Option Nat} (h : OwnWords B w v l) (k : Two r m w w') (h1 : v.ownBlock = none ∨ v.ownBlock ≠ r) (h2 : v.ownBlock = none ∨ v.ownBlock ≠ m) : OwnWords B w' v l := by
  obtain ⟨hl, ⟨e, e2⟩ | ⟨g, cap, cur, e, hg, hh, r5⟩⟩ := h
  · exact ⟨hl, Or.inl ⟨e, e2⟩⟩
  · refine ⟨hl, Or.inr ⟨g, cap, cur, e, hg, ?_, r5⟩⟩
    subst e
    have hlt : g < w.heap.size := (Array.getElem?_eq_some_iff.1 hh).1
    rw [k.block g hlt (fun e => by rcases h1 with h1 | h1; cases h1; exact h1 e) (fun e => by rcases h2 with h2 | h2; cases h2; exact h2 e)]
    exact hh
theorem words_at {w : World} {b o n : Nat} {t : TypeId} {l l2 : List Int} (h : Str w b t (l.map (Value.int .i32))) (ho : o + n ≤ l.length) (hn : n ≤ 1000) (e : (l.drop o).take n = l2) : WordsAt w (.slice (some ⟨b, o, none⟩) n n) l2 := by
  have hl : l2.length = n := by rw [← e, List.length_take, List.length_drop]; omega
  refine ⟨some ⟨b, o, none⟩, n, by rw [hl], by omega, by unfold maxLen; omega, fun k hk => ⟨_, rfl, ?_⟩⟩
  have e2 : (⟨b, o, none⟩ : Addr).add k = ⟨b, o + k, none⟩ := by unfold Addr.add; by_cases h0 : k = 0; subst h0; rfl; rw [if_neg h0]
  rw [e2, h.cell (o + k), List.getElem?_map, List.getElem?_eq_getElem (by omega)]
  subst e
  simp
theorem own_two {w w' : World} {B : Nat} {e : TypeId} {s : Nat} {v : Value} {n : Nat} {xs : List Value} {r m : Option Nat} (h : w.ownsRow B e s v n xs) (k : Two r m w w') (h1 : ∀ g, v.ownBlock = some g → some g ≠ r ∧ some g ≠ m) : w'.ownsRow B e s v n xs := by
  obtain ⟨hl, ⟨e, e2⟩ | ⟨g, cap, cur, e, hg, hh, r5⟩⟩ := h
  · exact ⟨hl, Or.inl ⟨e, e2⟩⟩
  · refine ⟨hl, Or.inr ⟨g, cap, cur, e, hg, ?_, r5⟩⟩
    subst e
    have hlt : g < w.heap.size := (Array.getElem?_eq_some_iff.1 hh).1
    rw [k.block g hlt (h1 g rfl).1 (h1 g rfl).2]
    exact hh
theorem below_two {B : Nat} {w w' : World} {r m : Option Nat} (k : Two r m w w') (hB : B ≤ w.heap.size) (h1 : ∀ g, g < B → some g ≠ r ∧ some g ≠ m) : Below B w w' :=
  ⟨k.os, k.tape, k.output, k.size, fun g hg => k.block g (by omega) (h1 g hg).1 (h1 g hg).2⟩
theorem inW_getP {l : List Int} (h : ∀ x ∈ l, InW x) (r : Int) : InW (getP l r) := by
  unfold getP
  split
  · rename_i hr
    rw [List.getD_eq_getElem?_getD, List.getElem?_eq_getElem (by omega)]
    exact h _ (List.getElem_mem _)
  · unfold InW; omega
theorem inW_setP {c : List Int} {t v : Int} (h : ∀ r, InW (getP c r)) (hv : InW v) (r : Int) : InW (getP (setP c t v) r) := by
  by_cases e : r = t
  · subst e
    by_cases hr : 0 ≤ r ∧ r < c.length
    · rw [getP_set hr]; exact hv
    · rw [getP_out (by rw [setP_len]; exact hr)]; unfold InW; omega
  · rw [getP_setne e]; exact h r
theorem inW_merge {a : List Int} (ha : ∀ r, InW (getP a r)) : ∀ (l c : List Int), (∀ r, InW (getP c r)) → ∀ r, InW (getP (mergeL a c l) r)
  | [], c, h, r => h r
  | t :: l, c, h, r => inW_merge ha l (setP c t (getP a t)) (inW_setP h (ha t)) r
theorem own_but {w w' : World} {B : Nat} {e : TypeId} {s : Nat} {v : Value} {n : Nat} {xs : List Value} {m : Nat} (h : w.ownsRow B e s v n xs) (hb : But m w w') (hn : ∀ g, v.ownBlock = some g → g ≠ m) : w'.ownsRow B e s v n xs := by
  refine World.ownsRow.kept h (row := some m) ⟨hb.os, hb.tape, hb.output, hb.size, fun k hk hne => hb.block k hk (fun e => hne (by rw [e]))⟩ ?_
  cases hv : v.ownBlock with
  | none => exact Or.inl rfl
  | some g => exact Or.inr (fun e => hn g hv (Option.some.inj e))
set_option maxRecDepth 100000 in
theorem run_all16 (w : World) (g o : Nat) : (Instr.sliceAt 54 (.pointer (some ⟨g, o, none⟩)) none none none).run Tryz.prog w = .ok (.slice (some ⟨g, o, none⟩) 16 16) w := by
  have ha : Tryz.prog.arrayLen 54 = 16 := by kernel_rfl
  have hr := run_sliceAt_array_all (P := Tryz.prog) w 54 ⟨g, o, none⟩ Tryz.underlying54
  rw [hr, ha]
  rfl
/-- A slot of an act, after another was put. -/
theorem put_eval_ne {a : Act} {n m : Nat} {v : Value} (h : m ≠ n) : (a.put (some n) v).eval (.tmp m) = a.eval (.tmp m) := by
  simp only [Act.put, Act.eval]
  simp [Array.getElem?_setIfInBounds_ne, h, Ne.symm h]
theorem put_eval_eq {a : Act} {n : Nat} {v : Value} (h : n < a.tmps.size) : (a.put (some n) v).eval (.tmp n) = v := by
  simp only [Act.put, Act.eval]
  simp [h]
theorem put_size (a : Act) (n : Nat) (v : Value) : (a.put (some n) v).tmps.size = a.tmps.size := by simp [Act.put]
/-- A region over an act that is named, not spelled. -/
theorem region_abs {Q : Exit → Act → World → Prop} {id : Nat} {l : Array Oper} {b : Bool} {w : World} (a : Act) (h : ∀ a0, a0 = a → (Code.region id l b).wp Tryz.prog Q a0 w) : (Code.region id l b).wp Tryz.prog Q a w := h a rfl
theorem still_move (a : Act) (o : Oper) (x : Operand) (v : Value) (w : World) (ho : o.op = .move x) (hv : a.eval x = v) : (execOp a.eval o).run Tryz.prog w = .ok (.value v) w := by
  unfold execOp
  rw [ho]
  simp only [hv]
  go_simp
set_option maxRecDepth 100000 in
theorem still_idx_int (a : Act) (o : Oper) (x y : Operand) (ad : Addr) (n c q : Nat) (w : World) (ho : o.op = .indexAddr 38 x y) (hx : a.eval x = .slice (some ad) n c) (hy : a.eval y = .int .i64 q) (hq : q < n) :
    (execOp a.eval o).run Tryz.prog w = .ok (.value (.pointer (some (ad.add q)))) w := by
  unfold execOp
  rw [ho]
  simp only [hx, hy]
  go_simp
set_option maxRecDepth 100000 in
theorem still_idx_word (a : Act) (o : Oper) (x y : Operand) (ad : Addr) (n c q : Nat) (w : World) (ho : o.op = .indexAddr 25 x y) (hx : a.eval x = .slice (some ad) n c) (hy : a.eval y = .int .i64 q) (hq : q < n) :
    (execOp a.eval o).run Tryz.prog w = .ok (.value (.pointer (some (ad.add q)))) w := by
  unfold execOp
  rw [ho]
  simp only [hx, hy]
  go_simp
set_option maxRecDepth 100000 in
theorem still_load_int (a : Act) (o : Oper) (x : Operand) (ad : Addr) (v : Int) (w : World) (ho : o.op = .load 3 x) (hx : a.eval x = .pointer (some ad)) (hc : w.cell? ad = some (.int .i64 v)) :
    (execOp a.eval o).run Tryz.prog w = .ok (.value (.int .i64 v)) w := by
  unfold execOp
  rw [ho]
  simp only [hx]
  go_simp
set_option maxRecDepth 100000 in
theorem still_load_word (a : Act) (o : Oper) (x : Operand) (ad : Addr) (v : Int) (w : World) (ho : o.op = .load 21 x) (hx : a.eval x = .pointer (some ad)) (hc : w.cell? ad = some (.int .i32 v)) :
    (execOp a.eval o).run Tryz.prog w = .ok (.value (.int .i32 v)) w := by
  unfold execOp
  rw [ho]
  simp only [hx]
  go_simp
set_option maxRecDepth 100000 in
set_option maxHeartbeats 4000000 in
theorem touches_any (w : World) (i : PMach) (A : Option Addr) (k : Nat) (ra rb : List Int) (mv : Value) (l : List Int) (hv : Ints w (.slice A i.args.length k) i.args) (hi : InW i.imm)
    (h16 : ra.length = 16) (h16b : rb.length = 16) (hra : ∀ x ∈ ra, InW x) (hrb : ∀ x ∈ rb, InW x) (hm : WordsAt w mv l) :
    Calls Tryz.prog 5 #[.agg #[.int .i64 i.op, .int .i64 i.d, .int .i64 i.e, .int .i64 i.a, .int .i64 i.b, .int .i64 i.c, .int .i32 i.imm, .slice A i.args.length k], .agg ((ra ++ rb).map (Value.int .i32)).toArray, mv] w (Says true w) := by
  have HV := Lib.hid hv
  have HW := Lib.hid hm
  have HRA := Lib.hid hra
  have HRB := Lib.hid hrb
  have HII := Lib.hid hi
  clear hv hm hra hrb hi
  obtain ⟨RS, hRS⟩ : ∃ RS : List Value, (ra ++ rb).map (Value.int .i32) = RS := ⟨_, rfl⟩
  rw [hRS]
  have HRS := Lib.hid hRS
  clear hRS
  go_enter Tryz.func5, Tryz.ntmps5
  go_upto_region 1 with (fail)
  obtain ⟨W1, hW1⟩ : ∃ W1, (w.alloc (.cells #[.int .i64 i.op, .int .i64 i.d, .int .i64 i.e, .int .i64 i.a, .int .i64 i.b, .int .i64 i.c, .int .i32 i.imm, .slice A i.args.length k] 40)).alloc (.cells RS.toArray 55) = W1 := ⟨_, rfl⟩
  have hb1 : Below w.heap.size w W1 := by rw [← hW1]; exact ((Below.refl _ _).alloc (Nat.le_refl _) _).alloc (by simp) _
  have hs1 : Str W1 w.heap.size 40 [.int .i64 i.op, .int .i64 i.d, .int .i64 i.e, .int .i64 i.a, .int .i64 i.b, .int .i64 i.c, .int .i32 i.imm, .slice A i.args.length k] := by rw [← hW1]; exact Str.below (World.alloc_heap_new w _) ((Below.refl _ _).alloc (Nat.le_refl _) _)
  have hr1 : Str W1 (w.heap.size + 1) 55 RS := by
    have h := World.alloc_heap_new (w.alloc (.cells #[.int .i64 i.op, .int .i64 i.d, .int .i64 i.e, .int .i64 i.a, .int .i64 i.b, .int .i64 i.c, .int .i32 i.imm, .slice A i.args.length k] 40)) (.cells RS.toArray 55)
    rw [hW1] at h
    simp only [World.size_alloc] at h
    exact h
  rw [hW1]
  have HB1 := Lib.hid hb1
  have HS1 := Lib.hid hs1
  have HR1 := Lib.hid hr1
  clear hW1 hb1 hs1 hr1
  go_wp2_with fail
  refine (shown_any W1).mono ?_
  rintro e ws ⟨rfl, hs⟩
  have HBS := Lib.hid (HB1.out.trans (hs.mono HB1.out.size))
  have hs2 := HS1.out.below hs
  have HR2 := Lib.hid (HR1.out.below hs)
  have q0 := hs2.cell 0
  have q1 := hs2.cell 1
  have q2 := hs2.cell 2
  have q3 := hs2.cell 3
  have q4 := hs2.cell 4
  have q5 := hs2.cell 5
  have q6 := hs2.cell 6
  have q7 := hs2.cell 7
  clear hs hs2
  go_upto_region 2 with (fail)
  go_wp2_with fail
  refine (few_any ws i A i.args.length k (HV.out.keep HBS.out)).mono ?_
  rintro e w2 ⟨fA, fk, rfl, hof, hb2⟩
  obtain ⟨l7, hl7⟩ : ∃ l7, i.args.take 7 = l7 := ⟨_, rfl⟩
  have h77 : l7.length ≤ 7 := by rw [← hl7, List.length_take]; omega
  rw [hl7] at hof ⊢
  have H7 := Lib.hid hl7
  have HIX := Lib.hid (show (⟨i.op, i.d % 16, i.e % 16, i.a % 16, i.b % 16, i.c % 16, i.imm, l7⟩ : PMach) = nearM i by rw [← hl7]; rfl)
  clear hl7
  have HF := Lib.hid hof
  have HB2 := Lib.hid (HBS.out.trans (hb2.mono HBS.out.size))
  have HR3 := Lib.hid (HR2.out.below hb2)
  clear hof hb2 q0 q1 q2 q3 q4 q5 q6 q7
  go_upto_region 3 with (fail)
  obtain ⟨W3, hW3⟩ : ∃ W3, w2.alloc (.cells #[.int .i64 i.op, .int .i64 i.d, .int .i64 i.e, .int .i64 i.a, .int .i64 i.b, .int .i64 i.c, .int .i32 i.imm, .slice fA l7.length fk] 40) = W3 := ⟨_, rfl⟩
  have hb3 : Below w2.heap.size w2 W3 := by rw [← hW3]; exact (Below.refl _ _).alloc (Nat.le_refl _) _
  have hs3 : Str W3 w2.heap.size 40 [.int .i64 i.op, .int .i64 i.d, .int .i64 i.e, .int .i64 i.a, .int .i64 i.b, .int .i64 i.c, .int .i32 i.imm, .slice fA l7.length fk] := by rw [← hW3]; exact World.alloc_heap_new w2 _
  rw [hW3]
  have HB3 := Lib.hid (HB2.out.trans (hb3.mono HB2.out.size))
  have HF3 := Lib.hid (OwnInts.ints HF.out |>.keep hb3)
  have HR4 := Lib.hid (HR3.out.below hb3)
  have HS3 := Lib.hid hs3
  have q0 := hs3.cell 0
  have q1 := hs3.cell 1
  have q2 := hs3.cell 2
  have q3 := hs3.cell 3
  have q4 := hs3.cell 4
  have q5 := hs3.cell 5
  have q6 := hs3.cell 6
  have q7 := hs3.cell 7
  have g1 := hs3.frozen 1
  have g2 := hs3.frozen 2
  have g3 := hs3.frozen 3
  have g4 := hs3.frozen 4
  have g5 := hs3.frozen 5
  have an1 := and15 i.d
  have an2 := and15 i.e
  have an3 := and15 i.a
  have an4 := and15 i.b
  have an5 := and15 i.c
  have hb3' := hb3
  clear hW3 hb3 hs3
  go_upto_region 8 with (fail)
  obtain ⟨W4, hW4⟩ : ∃ W4, (((((W3.setCell ⟨w2.heap.size, 1, none⟩ (.int .i64 (i.d % 16))).setCell ⟨w2.heap.size, 2, none⟩ (.int .i64 (i.e % 16))).setCell ⟨w2.heap.size, 3, none⟩ (.int .i64 (i.a % 16))).setCell ⟨w2.heap.size, 4, none⟩ (.int .i64 (i.b % 16))).setCell ⟨w2.heap.size, 5, none⟩ (.int .i64 (i.c % 16))) = W4 := ⟨_, rfl⟩
  rw [hW4]
  have hB4 : But w2.heap.size W3 W4 := by rw [← hW4]; exact (((((but_set w2.heap.size 1 _ W3).trans (but_set w2.heap.size 2 _ _)).trans (but_set w2.heap.size 3 _ _)).trans (but_set w2.heap.size 4 _ _)).trans (but_set w2.heap.size 5 _ _))
  have hs4 : Str W4 w2.heap.size 40 [.int .i64 i.op, .int .i64 (i.d % 16), .int .i64 (i.e % 16), .int .i64 (i.a % 16), .int .i64 (i.b % 16), .int .i64 (i.c % 16), .int .i32 i.imm, .slice fA l7.length fk] := by rw [← hW4]; have h := (((((HS3.out.set 1 (.int .i64 (i.d % 16))).set 2 (.int .i64 (i.e % 16))).set 3 (.int .i64 (i.a % 16))).set 4 (.int .i64 (i.b % 16))).set 5 (.int .i64 (i.c % 16))); simpa using h
  have HB4 := Lib.hid (HB3.out.trans (below_of_but hB4 HB2.out.size HB3.out.size))
  have HLW := Lib.hid (show w2.heap.size < W4.heap.size from hs4.lt)
  have HF4 := Lib.hid (show OwnInts 0 W4 (.slice fA l7.length fk) l7 from by
    exact own_but (own_base (own_below HF.out hb3') (Nat.zero_le _)) hB4 (fun g hg => by have := (World.ownsRow.lt HF.out g hg).2; omega))
  have HR5 := Lib.hid (hB4.str HR4.out (by have := HR3.out.lt; omega))
  clear q0 q1 q2 q3 q4 q5 q6 q7 g1 g2 g3 g4 g5 an1 an2 an3 an4 an5 hB4 hW4
  have q0 := hs4.cell 0
  have q1 := hs4.cell 1
  have q2 := hs4.cell 2
  have q3 := hs4.cell 3
  have q4 := hs4.cell 4
  have q5 := hs4.cell 5
  have q6 := hs4.cell 6
  have q7 := hs4.cell 7
  have HS4 := Lib.hid hs4
  clear hs4
  go_wp2_with fail
  refine (takes_any W4 (⟨i.op, i.d % 16, i.e % 16, i.a % 16, i.b % 16, i.c % 16, i.imm, l7⟩ : PMach) fA l7.length fk (OwnInts.ints HF4.out) (by show l7.length ≤ _; omega)).mono ?_
  rintro e w5 ⟨tv, rfl, hto, hb5⟩
  obtain ⟨tA, tk, rfl⟩ := hto.form
  have HTO := Lib.hid hto
  have HB5 := Lib.hid (HB4.out.trans (hb5.mono HB4.out.size))
  have HR6 := Lib.hid (HR5.out.below hb5)
  have HS5 := Lib.hid (HS4.out.below hb5)
  clear hto hb5 q0 q1 q2 q3 q4 q5 q6 q7 hb3'
  have q0 := HS5.out.cell 0
  have q1 := HS5.out.cell 1
  have q2 := HS5.out.cell 2
  have q3 := HS5.out.cell 3
  have q4 := HS5.out.cell 4
  have q5 := HS5.out.cell 5
  have q6 := HS5.out.cell 6
  have q7 := HS5.out.cell 7
  go_wp2_with fail
  refine (makes_any w5 (⟨i.op, i.d % 16, i.e % 16, i.a % 16, i.b % 16, i.c % 16, i.imm, l7⟩ : PMach) fA l7.length fk).mono ?_
  rintro e w6 ⟨kv, rfl, hmo, hb6⟩
  obtain ⟨kA, kk, rfl⟩ := hmo.form
  have HMO := Lib.hid hmo
  have HTO6 := Lib.hid (own_below HTO.out hb6)
  have HB6 := Lib.hid (HB5.out.trans (hb6.mono HB5.out.size))
  have HR7 := Lib.hid (HR6.out.below hb6)
  have HS6 := Lib.hid (HS5.out.below hb6)
  have HZ56 := Lib.hid hb6.size
  clear hmo hb6 q0 q1 q2 q3 q4 q5 q6 q7
  obtain ⟨x, hx⟩ : ∃ x : PMach, (⟨i.op, i.d % 16, i.e % 16, i.a % 16, i.b % 16, i.c % 16, i.imm, l7⟩ : PMach) = x := ⟨_, rfl⟩
  rw [hx]
  rw [hx] at HTO HTO6 HMO
  obtain ⟨tl, htl⟩ : ∃ tl, takesL x = tl := ⟨_, rfl⟩
  obtain ⟨ml, hml⟩ : ∃ ml, makesL x = ml := ⟨_, rfl⟩
  rw [htl, hml]
  rw [htl] at HTO HTO6
  rw [hml] at HMO
  have HXX := Lib.hid hx
  have HTL := Lib.hid htl
  have HML := Lib.hid hml
  clear hx htl hml
  have ea : ((ra ++ rb).drop 0).take 16 = ra := by rw [List.drop_zero, ← h16, List.take_left]
  have eb : ((ra ++ rb).drop 16).take 16 = rb := by rw [← h16, List.drop_left, List.take_of_length_le (by omega)]
  have HR8 := Lib.hid (show Str w6 (w.heap.size + 1) 55 ((ra ++ rb).map (Value.int .i32)) from by rw [HRS.out]; exact HR7.out)
  have sl0 := fun w' : World => run_all16 w' (w.heap.size + 1) 0
  have sl1 := fun w' : World => run_all16 w' (w.heap.size + 1) 16
  have HEA := Lib.hid ea
  have HEB := Lib.hid eb
  clear ea eb
  go_wp2_with (at_builtin; refine wpList_own0 rfl _ _ rfl rfl w6.heap.size _ ra rfl (empty_own w6 _ 1) ?c1 ?c2 ?c3 ?_)
  case c1 => exact words_at (HR8.out.below ((Below.refl _ _).alloc (Nat.le_refl _) _)) (by rw [List.length_append]; omega) (by omega) HEA.out
  case c2 => omega
  case c3 => simp
  intro av w7 hoa hga
  have hb7 := below_of_own ((Below.refl w6.heap.size w6).alloc (Nat.le_refl _) _) hga (fun g hg => by have e2 : w6.heap.size = g := Option.some.inj hg; omega)
  obtain ⟨aA, ak, rfl⟩ := own_form hoa
  obtain ⟨ga, ea⟩ := own_at hoa (by omega)
  subst ea
  rw [h16] at hoa ⊢
  have HA7 := Lib.hid hoa
  have HT7 := Lib.hid (own_below HTO6.out hb7)
  have HM7 := Lib.hid (own_below HMO.out hb7)
  have HB7 := Lib.hid (HB6.out.trans (hb7.mono HB6.out.size))
  have HR9 := Lib.hid (HR8.out.below hb7)
  have HS7 := Lib.hid (HS6.out.below hb7)
  have HZ67 := Lib.hid hb7.size
  clear hoa hga hb7
  go_wp2_with (at_builtin; refine wpList_own0 rfl _ _ rfl rfl w7.heap.size _ rb rfl (empty_own w7 _ 1) ?c1 ?c2 ?c3 ?_)
  case c1 => exact words_at (HR9.out.below ((Below.refl _ _).alloc (Nat.le_refl _) _)) (by rw [List.length_append]; omega) (by omega) HEB.out
  case c2 => omega
  case c3 => simp
  intro cv w8 hoc hgc
  have hb8 := below_of_own ((Below.refl w7.heap.size w7).alloc (Nat.le_refl _) _) hgc (fun g hg => by have e2 : w7.heap.size = g := Option.some.inj hg; omega)
  obtain ⟨cA, ck, rfl⟩ := own_form hoc
  obtain ⟨gc, ec⟩ := own_at hoc (by omega)
  subst ec
  rw [h16b] at hoc ⊢
  have HC8 := Lib.hid hoc
  have HA8 := Lib.hid (HA7.out.below hb8)
  have HT8 := Lib.hid (own_below HT7.out hb8)
  have HM8 := Lib.hid (own_below HM7.out hb8)
  have HB8 := Lib.hid (HB7.out.trans (hb8.mono HB7.out.size))
  have HS8 := Lib.hid (HS7.out.below hb8)
  have HGA := Lib.hid (OwnWords.where_ HA7.out (g := ga) rfl)
  have HGC := Lib.hid (OwnWords.where_ hoc (g := gc) rfl)
  have HZ78 := Lib.hid hb8.size
  clear hoc hgc hb8
  go_wp2
  go_loopw [13] (fun j wr => ∃ q : Nat, q ≤ tl.length ∧ j = .int .i64 q ∧ OwnWords w7.heap.size wr (.slice (some ⟨gc, 0, none⟩) 16 ck) (mergeL ra rb (tl.take q)) ∧ But gc w8 wr) (fun j _ => tl.length - (intOf j).toNat)
  case atStart => exact ⟨0, by omega, rfl, HC8.out, But.refl _ _⟩
  case round =>
    obtain ⟨q, hq, rfl, hown, hbut⟩ := hrel
    obtain ⟨wo, rfl⟩ : ∃ wo : World, wo = wr := ⟨_, rfl⟩
    have HO := Lib.hid hown
    have HBT := Lib.hid hbut
    have hti : Ints wo (.slice tA tl.length tk) tl := OwnInts.ints (own_but HT8.out hbut (fun g hg => by have := (World.ownsRow.lt HTO.out g hg).2; have := HGC.out; have := HZ56.out; have := HZ67.out; omega))
    have hai := words_of_own (own_but HA8.out hbut (fun g hg => by have e2 : ga = g := Option.some.inj hg; have := HGA.out; have := HGC.out; omega) : OwnWords _ wo _ ra)
    have HAI := Lib.hid hai
    obtain ⟨tA', tc', et, ht1, ht2, ht3⟩ := hti
    injection et with et1 _ et3
    subst et1 et3
    unfold maxLen at ht2
    have HTI := Lib.hid ht3
    clear hown hbut hai ht3
    by_cases hlt : q < tl.length
    · obtain ⟨ad, had, htc⟩ := HTI.out q hlt
      subst had
      have HSU := Lib.hid (mergeL_succ ra rb tl hlt)
      generalize tl[q] = t at *
      by_cases hp0 : 0 ≤ t
      · by_cases hp1 : t < 16
        · obtain ⟨n, hn⟩ : ∃ n : Nat, t = n := ⟨t.toNat, by omega⟩
          subst hn
          have hn16 : n < 16 := by omega
          obtain ⟨_, _, e9, _, _, hw3⟩ := HAI.out
          injection e9 with e9 _ _
          subst e9
          obtain ⟨_, e9, hac⟩ := hw3 n (by omega)
          injection e9 with e9
          subst e9
          have hac0 := hac
          rw [at_add0] at hac
          have hml : (mergeL ra rb (tl.take q)).length = 16 := by rw [mergeL_len, h16b]
          have hcc : wo.cell? ⟨gc, n, none⟩ = some (.int .i32 ((mergeL ra rb (tl.take q))[n]'(by omega))) := by
            have h9 := World.ownsRow.cells HO.out (g := gc) rfl n _ (by rw [List.getElem?_map, List.getElem?_eq_getElem (by omega)]; rfl)
            rw [at_add0] at h9
            exact h9
          have hcf : wo.frozen? ⟨gc, n, none⟩ = false := by
            have h9 := HO.out
            unfold OwnWords at h9
            rw [hml] at h9
            exact World.ownsRow.frozenAt h9 n
          generalize (mergeL ra rb (tl.take q))[n]'(by omega) = cx at *
          have HGP := Lib.hid (show getP ra n = ra[n]'(by omega) from by unfold getP; rw [if_pos (by omega), List.getD_eq_getElem?_getD, Int.toNat_natCast, List.getElem?_eq_getElem (by omega)]; rfl)
          generalize ra[n]'(by omega) = ax at *
          have HNW := Lib.hid (show OwnWords w7.heap.size (wo.setCell ⟨gc, n, none⟩ (.int .i32 ax)) (.slice (some ⟨gc, 0, none⟩) 16 ck) (mergeL ra rb (tl.take (q + 1))) ∧ But gc wo (wo.setCell ⟨gc, n, none⟩ (.int .i32 ax)) by
            have h9 := HO.out
            unfold OwnWords at h9
            rw [hml] at h9
            obtain ⟨s1, s2⟩ := World.ownsRow.stored h9 n (.int .i32 ax)
            refine ⟨?_, But.of_grown s2⟩
            rw [HSU.out, HGP.out]
            unfold OwnWords setP
            rw [if_pos (by omega), List.length_set, List.map_set, hml, Int.toNat_natCast]
            exact s1)
          clear hw3
          go_upto_region 16 with (fail)
          refine region_abs _ (fun a0 ha0 => ?_)
          have h12 : a0.eval (.tmp 12) = .slice (some ⟨gc, 0, none⟩) 16 ck := by rw [ha0]; rfl
          have h9 : a0.eval (.tmp 9) = .slice (some ad) tl.length tk := by rw [ha0]; rfl
          have h13 : a0.eval (.tmp 13) = .int .i64 (q : Int) := by rw [ha0]; rfl
          have h11 : a0.eval (.tmp 11) = .slice (some ⟨ga, 0, none⟩) 16 ak := by rw [ha0]; rfl
          have hsz : 100 < a0.tmps.size := by rw [ha0]; exact of_decide_eq_true rfl
          refine region_held_wp (fun w' => w'.cell? (ad.add q) = some (.int .i64 n) ∧ w'.cell? ((⟨ga, 0, none⟩ : Addr).add n) = some (.int .i32 ax)) [0, 1, 2, 3, 4, 5, 6, 7, 8, 9, 10, 11, 12] [0, 1, 2, 3, 4, 5, 6, 7, 8, 9, 10, 11, 12, 13] (by kernel_rfl) (by kernel_rfl) (by kernel_rfl) rfl (by intro c a d v w h; cases d <;> exact h) ⟨htc, hac0⟩ ?_
          refine walkH_still _ (.slice (some ⟨gc, 0, none⟩) 16 ck) rfl rfl rfl (fun w hS => still_move _ _ _ _ w rfl h12) ?_
          refine walkH_still _ (.slice (some ad) tl.length tk) rfl rfl rfl (fun w hS => still_move _ _ _ _ w rfl ((put_eval_ne (by decide)).trans h9)) ?_
          refine walkH_still _ (.int .i64 (q : Int)) rfl rfl rfl (fun w hS => still_move _ _ _ _ w rfl ((put_eval_ne (by decide)).trans ((put_eval_ne (by decide)).trans h13))) ?_
          refine walkH_still _ (.pointer (some (ad.add q))) rfl rfl rfl (fun w hS => still_idx_int _ _ _ _ ad tl.length tk q w rfl ((put_eval_ne (by decide)).trans (put_eval_eq (by first | omega | (simp only [put_size]; omega)))) (put_eval_eq (by first | omega | (simp only [put_size]; omega))) hlt) ?_
          refine walkH_still _ (.int .i64 (n : Int)) rfl rfl rfl (fun w hS => still_load_int _ _ _ (ad.add q) n w rfl (put_eval_eq (by first | omega | (simp only [put_size]; omega))) hS.1) ?_
          refine walkH_still _ (.slice (some ⟨ga, 0, none⟩) 16 ak) rfl rfl rfl (fun w hS => still_move _ _ _ _ w rfl ((put_eval_ne (by decide)).trans ((put_eval_ne (by decide)).trans ((put_eval_ne (by decide)).trans ((put_eval_ne (by decide)).trans ((put_eval_ne (by decide)).trans h11)))))) ?_
          refine walkH_still _ (.slice (some ad) tl.length tk) rfl rfl rfl (fun w hS => still_move _ _ _ _ w rfl ((put_eval_ne (by decide)).trans ((put_eval_ne (by decide)).trans ((put_eval_ne (by decide)).trans ((put_eval_ne (by decide)).trans ((put_eval_ne (by decide)).trans ((put_eval_ne (by decide)).trans h9))))))) ?_
          refine walkH_still _ (.int .i64 (q : Int)) rfl rfl rfl (fun w hS => still_move _ _ _ _ w rfl ((put_eval_ne (by decide)).trans ((put_eval_ne (by decide)).trans ((put_eval_ne (by decide)).trans ((put_eval_ne (by decide)).trans ((put_eval_ne (by decide)).trans ((put_eval_ne (by decide)).trans ((put_eval_ne (by decide)).trans h13)))))))) ?_
          refine walkH_still _ (.pointer (some (ad.add q))) rfl rfl rfl (fun w hS => still_idx_int _ _ _ _ ad tl.length tk q w rfl ((put_eval_ne (by decide)).trans (put_eval_eq (by first | omega | (simp only [put_size]; omega)))) (put_eval_eq (by first | omega | (simp only [put_size]; omega))) hlt) ?_
          refine walkH_still _ (.int .i64 (n : Int)) rfl rfl rfl (fun w hS => still_load_int _ _ _ (ad.add q) n w rfl (put_eval_eq (by first | omega | (simp only [put_size]; omega))) hS.1) ?_
          refine walkH_still _ (.pointer (some ((⟨ga, 0, none⟩ : Addr).add n))) rfl rfl rfl (fun w hS => still_idx_word _ _ _ _ ⟨ga, 0, none⟩ 16 ak n w rfl ((put_eval_ne (by decide)).trans ((put_eval_ne (by decide)).trans ((put_eval_ne (by decide)).trans ((put_eval_ne (by decide)).trans (put_eval_eq (by first | omega | (simp only [put_size]; omega))))))) (put_eval_eq (by first | omega | (simp only [put_size]; omega))) hn16) ?_
          refine walkH_still _ (.int .i32 ax) rfl rfl rfl (fun w hS => still_load_word _ _ _ ((⟨ga, 0, none⟩ : Addr).add n) ax w rfl (put_eval_eq (by first | omega | (simp only [put_size]; omega))) hS.2) ?_
          refine walkH_still _ (.pointer (some ((⟨gc, 0, none⟩ : Addr).add n))) rfl rfl rfl (fun w hS => still_idx_word _ _ _ _ ⟨gc, 0, none⟩ 16 ck n w rfl ((put_eval_ne (by decide)).trans ((put_eval_ne (by decide)).trans ((put_eval_ne (by decide)).trans ((put_eval_ne (by decide)).trans ((put_eval_ne (by decide)).trans ((put_eval_ne (by decide)).trans ((put_eval_ne (by decide)).trans ((put_eval_ne (by decide)).trans ((put_eval_ne (by decide)).trans ((put_eval_ne (by decide)).trans ((put_eval_ne (by decide)).trans (put_eval_eq (by first | omega | (simp only [put_size]; omega)))))))))))))) ((put_eval_ne (by decide)).trans ((put_eval_ne (by decide)).trans ((put_eval_ne (by decide)).trans ((put_eval_ne (by decide)).trans ((put_eval_ne (by decide)).trans ((put_eval_ne (by decide)).trans ((put_eval_ne (by decide)).trans (put_eval_eq (by first | omega | (simp only [put_size]; omega)))))))))) hn16) ?_
          subst ha0
          simp only [Act.put, List.setIfInBounds_toArray, List.set_cons_zero, List.set_cons_succ]
          refine walkH_does _ rfl rfl ?_
          go_wp2_with fail
          refine ⟨Or.inr rfl, walkH_nil ?_⟩
          go_wp2
          go_roundw
          case rel => exact ⟨q + 1, by omega, by go_num, HNW.out.1, (HBT.out.trans HNW.out.2).drew⟩
          case measure => simp [intOf]; omega
        · have HNO := Lib.hid (show mergeL ra rb (tl.take (q + 1)) = mergeL ra rb (tl.take q) by rw [HSU.out]; unfold setP; rw [if_neg (show ¬ (0 ≤ t ∧ t < ((mergeL ra rb (tl.take q)).length : Int)) by rw [mergeL_len]; omega)])
          go_wp2
          go_roundw
          case rel => exact ⟨q + 1, by omega, by go_num, by rw [HNO.out]; exact HO.out, HBT.out⟩
          case measure => simp [intOf]; omega
      · have HNO := Lib.hid (show mergeL ra rb (tl.take (q + 1)) = mergeL ra rb (tl.take q) by rw [HSU.out]; unfold setP; rw [if_neg (show ¬ (0 ≤ t ∧ t < ((mergeL ra rb (tl.take q)).length : Int)) by rw [mergeL_len]; omega)])
        go_wp2
        go_roundw
        case rel => exact ⟨q + 1, by omega, by go_num, by rw [HNO.out]; exact HO.out, HBT.out⟩
        case measure => simp [intOf]; omega
    · obtain rfl : q = tl.length := by omega
      have HB9 := Lib.hid (HB8.out.trans (below_of_but HBT.out (by have := HGC.out; have := HB7.out.size; omega) HB8.out.size))
      have HC9 := Lib.hid (show OwnWords w7.heap.size wo (.slice (some ⟨gc, 0, none⟩) 16 ck) (mergeL ra rb tl) from by have h9 := HO.out; rw [List.take_length] at h9; exact h9)
      have HA9 := Lib.hid (show OwnWords w6.heap.size wo (.slice (some ⟨ga, 0, none⟩) 16 ak) ra from own_but HA8.out HBT.out (fun g hg => by have e2 : ga = g := Option.some.inj hg; have := HGA.out; have := HGC.out; omega))
      have HM9 := Lib.hid (show OwnInts w5.heap.size wo (.slice kA ml.length kk) ml from own_but HM8.out HBT.out (fun g hg => by have := (World.ownsRow.lt HMO.out g hg).2; have := HGC.out; have := HZ67.out; omega))
      have HS9 := Lib.hid (HBT.out.str HS8.out (by have := HGC.out; have := HS6.out.lt; have := HZ67.out; omega))
      clear HTI HAI HBT HO
      go_wp2_with fail
      refine (some_any wo mv l (HW.out.below HB9.out)).mono ?_
      rintro e w10 ⟨bv, rfl, hob, hb10⟩
      have HD10 := Lib.hid hob
      have HC10 := Lib.hid (HC9.out.below hb10)
      have HA10 := Lib.hid (HA9.out.below hb10)
      have HM10 := Lib.hid (own_below HM9.out hb10)
      have HS10 := Lib.hid (HS9.out.below hb10)
      have HB10 := Lib.hid (HB9.out.trans (hb10.mono HB9.out.size))
      have HZ10 := Lib.hid hb10.size
      have HL9 := Lib.hid (OwnWords.where_ HC9.out (g := gc) rfl)
      clear hob hb10
      go_wp2_with fail
      refine (some_any w10 mv l (HW.out.below HB10.out)).mono ?_
      rintro e w11 ⟨dv, rfl, hod, hb11⟩
      have HE11 := Lib.hid hod
      have HD11 := Lib.hid (HD10.out.below hb11)
      have HC11 := Lib.hid (HC10.out.below hb11)
      have HA11 := Lib.hid (HA10.out.below hb11)
      have HM11 := Lib.hid (own_below HM10.out hb11)
      have HS11 := Lib.hid (HS10.out.below hb11)
      have HB11 := Lib.hid (HB10.out.trans (hb11.mono HB10.out.size))
      have HZ11 := Lib.hid hb11.size
      clear hod hb11
      go_wp2_with (at_builtin; refine wpList_own0 rfl _ _ rfl rfl w11.heap.size _ ra rfl (empty_own w11 _ 1) ?c1 ?c2 ?c3 ?_)
      case c1 => exact words_of_own (HA11.out.below ((Below.refl _ _).alloc (Nat.le_refl _) _))
      case c2 => omega
      case c3 => simp
      intro sv w12 hos hgs
      have hb12 := below_of_own ((Below.refl w11.heap.size w11).alloc (Nat.le_refl _) _) hgs (fun g hg => by have e2 : w11.heap.size = g := Option.some.inj hg; omega)
      obtain ⟨sA, sk, rfl⟩ := own_form hos
      obtain ⟨gs, es⟩ := own_at hos (by omega)
      subst es
      rw [h16] at hos ⊢
      have HSS := Lib.hid hos
      have HE12 := Lib.hid (HE11.out.below hb12)
      have HD12 := Lib.hid (HD11.out.below hb12)
      have HC12 := Lib.hid (HC11.out.below hb12)
      have HA12 := Lib.hid (HA11.out.below hb12)
      have HM12 := Lib.hid (own_below HM11.out hb12)
      have HS12 := Lib.hid (HS11.out.below hb12)
      have HB12 := Lib.hid (HB11.out.trans (hb12.mono HB11.out.size))
      have HZ12 := Lib.hid hb12.size
      clear hos hgs hb12
      have q0 := HS12.out.cell 0
      have q1 := HS12.out.cell 1
      have q2 := HS12.out.cell 2
      have q3 := HS12.out.cell 3
      have q4 := HS12.out.cell 4
      have q5 := HS12.out.cell 5
      have q6 := HS12.out.cell 6
      have q7 := HS12.out.cell 7
      have HGA9 := Lib.hid (OwnWords.where_ HA9.out (g := ga) rfl)
      have HI5 := Lib.hid (show InI (i.a % 16) ∧ InI (i.b % 16) ∧ InI (i.c % 16) ∧ InI (i.d % 16) ∧ InI (i.e % 16) from by unfold InI; omega)
      have HZ9 := Lib.hid HB9.out.size
      have HZC := Lib.hid (show w6.heap.size ≤ wo.heap.size from by have := HGA9.out; have := HGA.out; omega)
      go_wp2_with fail
      refine (mdo_any w12 (⟨i.op, i.d % 16, i.e % 16, i.a % 16, i.b % 16, i.c % 16, i.imm, l7⟩ : PMach) fA l7.length fk (.slice (some ⟨ga, 0, none⟩) 16 ak) bv w6.heap.size ra (l.take 20) HA12.out (HD12.out.mono HZC.out) (by rw [List.length_take]; omega)
        (Or.inr (fun e => by have h9 := OwnWords.where_ HD10.out (g := ga) e.symm; have := HGA9.out; omega)) HI5.out HII.out (inW_getP HRA.out)).mono ?_
      rintro e w13 hdo
      rw [HXX.out] at hdo
      obtain ⟨rfl, hra, hba, htw⟩ := hdo
      have HBV := Lib.hid (fun (g : Nat) (hg : bv.ownBlock = some g) => OwnWords.where_ HD10.out hg)
      have HDV := Lib.hid (fun (g : Nat) (hg : dv.ownBlock = some g) => OwnWords.where_ HE11.out hg)
      have HGS := Lib.hid (OwnWords.where_ HSS.out (g := gs) rfl)
      have HZT := Lib.hid (show wo.heap.size ≤ w10.heap.size ∧ w10.heap.size ≤ w11.heap.size ∧ w11.heap.size ≤ w12.heap.size from by
        have h1 := HZ11.out; have h2 := HZ12.out
        refine ⟨?_, h1, h2⟩
        exact HZ10.out)
      have HX13 := Lib.hid (fun (g : Nat) (hl : g < wo.heap.size ∨ w10.heap.size ≤ g) (hn : g ≠ ga) => (show some g ≠ some ga ∧ some g ≠ bv.ownBlock from
        ⟨fun e => hn (Option.some.inj e), fun e => by have h9 := HBV.out g e.symm; rcases hl with hl | hl <;> omega⟩))
      have HC13 := Lib.hid (show OwnWords w7.heap.size w13 (.slice (some ⟨gc, 0, none⟩) 16 ck) (mergeL ra rb tl) from own_two HC12.out htw (fun g hg => by have e2 : gc = g := Option.some.inj hg; subst e2; exact HX13.out _ (Or.inl HL9.out.2) (by have := HGA.out; have := HGC.out; omega)))
      have HE13 := Lib.hid (show OwnWords w10.heap.size w13 dv (l.take 20) from own_two HE12.out htw (fun g hg => HX13.out _ (Or.inr (HDV.out g hg).1) (by have := HGA9.out; have := (HDV.out g hg).1; have := HZT.out; omega)))
      have HS13 := Lib.hid (show OwnWords w11.heap.size w13 (.slice (some ⟨gs, 0, none⟩) 16 sk) ra from own_two HSS.out htw (fun g hg => by have e2 : gs = g := Option.some.inj hg; subst e2; exact HX13.out _ (Or.inr (by have := HGS.out; have := HZT.out; omega)) (by have := HGA9.out; have := HGS.out; have := HZT.out; omega)))
      have HM13 := Lib.hid (show OwnInts w5.heap.size w13 (.slice kA ml.length kk) ml from own_two HM12.out htw (fun g hg => by have h9 := World.ownsRow.lt HMO.out g hg; exact HX13.out _ (Or.inl (by have := HZC.out; omega)) (by have := HGA.out; omega)))
      have HI13 := Lib.hid (show Str w13 w2.heap.size 40 _ from (htw.block _ HS12.out.lt (HX13.out _ (Or.inl (by have := HS6.out.lt; have := HZC.out; omega)) (by have := HGA.out; have := HS6.out.lt; omega)).1 (HX13.out _ (Or.inl (by have := HS6.out.lt; have := HZC.out; omega)) (by have := HGA.out; have := HS6.out.lt; omega)).2).trans HS12.out)
      have HA13 := Lib.hid hra
      have HD13 := Lib.hid hba
      have HB13 := Lib.hid (HB12.out.trans (below_two htw HB12.out.size (fun g hg => HX13.out _ (Or.inl (by have := HZ9.out; omega)) (by have := HGA.out; have := HB6.out.size; omega))))
      clear hra hba htw q0 q1 q2 q3 q4 q5 q6 q7
      have q0 := HI13.out.cell 0
      have q1 := HI13.out.cell 1
      have q2 := HI13.out.cell 2
      have q3 := HI13.out.cell 3
      have q4 := HI13.out.cell 4
      have q5 := HI13.out.cell 5
      have q6 := HI13.out.cell 6
      have q7 := HI13.out.cell 7
      obtain ⟨f1, hf1⟩ : ∃ f1, fxM x ra (l.take 20) = f1 := ⟨_, rfl⟩
      have HF1 := Lib.hid hf1
      have HD14 := Lib.hid (show OwnWords w6.heap.size w13 bv f1.mem from by rw [← hf1]; exact HD13.out)
      rw [hf1]
      have HFS := Lib.hid (show fxM x (mergeL ra rb tl) (l.take 20) = f1 from by rw [← HTL.out, fxM_same (by omega), hf1])
      clear hf1 HD13
      have HZ7 := Lib.hid (show w7.heap.size ≤ w10.heap.size from by have := HGC.out; have := HL9.out; have := HZT.out; omega)
      go_wp2_with fail
      refine (mdo_any w13 (⟨i.op, i.d % 16, i.e % 16, i.a % 16, i.b % 16, i.c % 16, i.imm, l7⟩ : PMach) fA l7.length fk (.slice (some ⟨gc, 0, none⟩) 16 ck) dv w7.heap.size (mergeL ra rb tl) (l.take 20) HC13.out (HE13.out.mono HZ7.out) (by rw [List.length_take]; omega)
        (Or.inr (fun e => by have h9 := HDV.out gc e.symm; have := HL9.out; have := HZT.out; omega)) HI5.out HII.out (inW_merge (inW_getP HRA.out) tl rb (inW_getP HRB.out))).mono ?_
      rintro e w14 hdo
      rw [HXX.out, HFS.out] at hdo
      obtain ⟨rfl, hrc, hda, htw⟩ := hdo
      have HY14 := Lib.hid (fun (g : Nat) (hl : g < w10.heap.size ∨ w11.heap.size ≤ g) (hn : g ≠ gc) => (show some g ≠ some gc ∧ some g ≠ dv.ownBlock from
        ⟨fun e => hn (Option.some.inj e), fun e => by have h9 := HDV.out g e.symm; rcases hl with hl | hl <;> omega⟩))
      have HA15 := Lib.hid (show OwnWords w6.heap.size w14 (.slice (some ⟨ga, 0, none⟩) 16 ak) (regsM x ra (l.take 20)) from own_two HA13.out htw (fun g hg => by have e2 : ga = g := Option.some.inj hg; subst e2; exact HY14.out _ (Or.inl (by have := HGA9.out; have := HZT.out; omega)) (by have := HGA.out; have := HGC.out; omega)))
      have HD15 := Lib.hid (show OwnWords w6.heap.size w14 bv f1.mem from own_two HD14.out htw (fun g hg => HY14.out _ (Or.inl (HBV.out g hg).2) (by have := (HBV.out g hg).1; have := HL9.out; omega)))
      have HS15 := Lib.hid (show OwnWords w11.heap.size w14 (.slice (some ⟨gs, 0, none⟩) 16 sk) ra from own_two HS13.out htw (fun g hg => by have e2 : gs = g := Option.some.inj hg; subst e2; exact HY14.out _ (Or.inr HGS.out.1) (by have := HGS.out; have := HL9.out; have := HZT.out; omega)))
      have HM15 := Lib.hid (show OwnInts w5.heap.size w14 (.slice kA ml.length kk) ml from own_two HM13.out htw (fun g hg => by have h9 := World.ownsRow.lt HMO.out g hg; exact HY14.out _ (Or.inl (by have := HZC.out; have := HZT.out; omega)) (by have := HGC.out; have := HZ67.out; omega)))
      have HI15 := Lib.hid ((htw.block _ HI13.out.lt (HY14.out _ (Or.inl (by have := HS6.out.lt; have := HZC.out; have := HZT.out; omega)) (by have := HGC.out; have := HS6.out.lt; have := HZ67.out; omega)).1 (HY14.out _ (Or.inl (by have := HS6.out.lt; have := HZC.out; have := HZT.out; omega)) (by have := HGC.out; have := HS6.out.lt; have := HZ67.out; omega)).2).trans HI13.out)
      have HC15 := Lib.hid hrc
      have HE15 := Lib.hid hda
      have HB15 := Lib.hid (HB13.out.trans (below_two htw HB13.out.size (fun g hg => HY14.out _ (Or.inl (by have := HZ9.out; have := HZT.out; omega)) (by have := HGC.out; have := HB7.out.size; omega))))
      clear hrc hda htw q0 q1 q2 q3 q4 q5 q6 q7
      obtain ⟨tr, htr⟩ : ∃ tr, f1.trap = tr := ⟨_, rfl⟩
      obtain ⟨mm, hmm⟩ : ∃ mm, f1.mem = mm := ⟨_, rfl⟩
      have HMM := Lib.hid hmm
      have HTR := Lib.hid htr
      obtain ⟨ok, hok⟩ : ∃ ok : Bool, (tr == 0) = ok := ⟨_, rfl⟩
      have HOK := Lib.hid hok
      rw [htr, hok]
      clear htr hmm hok
      go_wp2_with fail
      have hwd := words_any w14 bv dv mm mm (by rw [← HMM.out]; exact words_of_own HD15.out) (by rw [← HMM.out]; exact words_of_own HE15.out)
      refine hwd.mono ?_
      rintro e w15 ⟨rfl, dn, hdn⟩
      rw [show decide (mm = mm) = true from decide_eq_true rfl]
      clear hwd
      go_wp2_with fail
      go_loopw [21, 22, 23] (fun j _ _ wr => ∃ k n : Nat, k ≤ 16 ∧ j = .int .i64 k ∧ wr = w14.drewN n) (fun j _ _ _ => 16 - (intOf j).toNat)
      case atStart => exact ⟨0, dn, by omega, rfl, rfl⟩
      case round =>
        obtain ⟨k2, n2, hk2, rfl, hw2⟩ := hrel
        obtain ⟨wp, rfl⟩ : ∃ wp : World, wp = wr := ⟨_, rfl⟩
        have HW2 := Lib.hid hw2
        have hmi : Ints wp (.slice kA ml.length kk) ml := by rw [hw2]; exact (OwnInts.ints HM15.out).keep (below_drewK (Below.refl _ _) n2)
        obtain ⟨kA', kc', et, mt1, mt2, mt3⟩ := hmi
        injection et with et1 _ et3
        subst et1 et3
        unfold maxLen at mt2
        have HMI := Lib.hid mt3
        clear mt3 hw2
        by_cases hlt : k2 < 16
        · go_wp2_with fail
          go_loopw [22, 23] (fun m j wr => ∃ q : Nat, q ≤ ml.length ∧ j = .int .i64 q ∧ m = .bool (decide ((k2 : Int) ∈ ml.take q)) ∧ wr = wp) (fun _ j _ => ml.length - (intOf j).toNat)
          case atStart => exact ⟨0, by omega, rfl, by simp, rfl⟩
          case round =>
            obtain ⟨q, hq, rfl, rfl, hwq⟩ := hrel
            obtain rfl : wp = wr := hwq.symm
            clear hwq
            by_cases hlq : q < ml.length
            · obtain ⟨ad, had, hmc⟩ := HMI.out q hlq
              subst had
              have HTK := Lib.hid (show ml.take (q + 1) = ml.take q ++ [ml[q]] from List.take_succ_eq_append_getElem hlq)
              generalize ml[q] = t at *
              cases hmd : decide ((k2 : Int) ∈ ml.take q) with
              | true =>
                have HND := Lib.hid (show decide ((k2 : Int) ∈ ml.take (q + 1)) = true from decide_eq_true (by rw [HTK.out]; exact List.mem_append.2 (Or.inl (of_decide_eq_true hmd))))
                go_wp2_with fail
                go_roundw
                case rel => exact ⟨q + 1, by omega, by go_num, by rw [HND.out], trivial⟩
                case measure => simp [intOf]; omega
              | false =>
                have HND := Lib.hid (show decide ((k2 : Int) ∈ ml.take (q + 1)) = (t == (k2 : Int)) from by
                  have h9 := of_decide_eq_false hmd
                  rw [HTK.out]
                  by_cases e : t = (k2 : Int)
                  · rw [beq_iff_eq.2 e]; exact decide_eq_true (by rw [e]; simp)
                  · rw [beq_eq_false_iff_ne.2 e]; exact decide_eq_false (by rw [List.mem_append]; intro h; rcases h with h | h; exact h9 h; exact e (List.mem_singleton.1 h).symm))
                go_wp2_with fail
                go_roundw
                case rel => exact ⟨q + 1, by omega, by go_num, by rw [HND.out], trivial⟩
                case measure => simp [intOf]; omega
            · obtain rfl : q = ml.length := by omega
              have hml2 : ml.take ml.length = ml := List.take_length
              rw [hml2]
              have HLA := Lib.hid (show (regsM x ra (l.take 20)).length = 16 from by rw [regsM_len]; omega)
              have HLC := Lib.hid (show (regsM x (mergeL ra rb tl) (l.take 20)).length = 16 from by rw [regsM_len, mergeL_len]; omega)
              have cellOf : ∀ (B g c : Nat) (L : List Int), OwnWords B w14 (.slice (some ⟨g, 0, none⟩) 16 c) L → L.length = 16 → wp.cell? ⟨g, k2, none⟩ = some (.int .i32 (getP L k2)) := fun B g c L h hl => by
                have h9 := World.ownsRow.cells h (g := g) rfl k2 _ (by rw [List.getElem?_map, List.getElem?_eq_getElem (by omega)]; rfl)
                rw [at_add0] at h9
                rw [HW2.out]
                have e9 : getP L k2 = L[k2]'(by omega) := by unfold getP; rw [if_pos (by omega), List.getD_eq_getElem?_getD, Int.toNat_natCast, List.getElem?_eq_getElem (by omega)]; rfl
                rw [e9]
                exact h9
              have ca := cellOf _ _ _ _ HA15.out HLA.out
              have cs := cellOf _ _ _ _ HS15.out h16
              have cc := cellOf _ _ _ _ HC15.out HLC.out
              have co : wp.cell? ⟨w2.heap.size, 0, none⟩ = some (.int .i64 i.op) := by rw [HW2.out]; exact Str.cell (show Str w14 w2.heap.size 40 _ from HI15.out) 0
              have HXO := Lib.hid (show x.op = i.op from by rw [← HXX.out])
              have F1 : decide ((k2 : Int) ∈ ml) = false ∨ ok = false → getP (regsM x ra (l.take 20)) k2 = getP ra k2 := fun h => regs_keep (by
                rcases h with h | h
                · exact Or.inl (by rw [HML.out]; exact of_decide_eq_false h)
                · refine Or.inr ?_
                  rw [HF1.out, HTR.out]
                  have h9 := HOK.out
                  rw [h] at h9
                  exact beq_eq_false_iff_ne.1 h9)
              have F2 : decide ((k2 : Int) ∈ ml) = true → ok = true → i.op ≠ 28 → i.op ≠ 30 → getP (regsM x ra (l.take 20)) k2 = getP (regsM x (mergeL ra rb tl) (l.take 20)) k2 := fun h1 h2 h3 h4 =>
                regs_made (by rw [mergeL_len]; omega) (by rw [HFS.out, HF1.out]) (by rw [HML.out]; exact of_decide_eq_true h1) (by
                  rw [HF1.out, HTR.out]
                  have h9 := HOK.out
                  rw [h2] at h9
                  exact beq_iff_eq.1 h9) (by rw [HXO.out]; exact h3) (by rw [HXO.out]; exact h4)
              clear cellOf hml2
              generalize getP (regsM x ra (l.take 20)) k2 = va at *
              generalize getP ra k2 = vs at *
              generalize getP (regsM x (mergeL ra rb tl) (l.take 20)) k2 = vc at *
              generalize decide ((k2 : Int) ∈ ml) = made at *
              cases made with
              | false =>
                have e9 := F1 (Or.inl rfl)
                subst e9
                clear F1 F2
                go_wp2_with fail
                go_quiet (fail)
                go_wp2_with fail
                go_roundw
                case rel => exact ⟨k2 + 1, n2 + nq, by omega, by go_num, by rw [HW2.out]; simp [World.drewN, Nat.add_assoc]⟩
                case measure => simp [intOf]; omega
              | true =>
                cases ok with
                | false =>
                  have e9 := F1 (Or.inr rfl)
                  subst e9
                  clear F1 F2
                  go_wp2_with fail
                  go_quiet (fail)
                  go_wp2_with fail
                  go_roundw
                  case rel => exact ⟨k2 + 1, n2 + nq, by omega, by go_num, by rw [HW2.out]; simp [World.drewN, Nat.add_assoc]⟩
                  case measure => simp [intOf]; omega
                | true =>
                  by_cases h28 : i.op = 28
                  · have b28 : (i.op != 28) = false := by rw [h28]; rfl
                    clear F1 F2 h28
                    go_wp2_with fail
                    go_quiet (fail)
                    go_wp2_with fail
                    go_roundw
                    case rel => exact ⟨k2 + 1, n2 + nq, by omega, by go_num, by rw [HW2.out]; simp [World.drewN, Nat.add_assoc]⟩
                    case measure => simp [intOf]; omega
                  · have b28 : (i.op != 28) = true := bne_iff_ne.2 h28
                    by_cases h30 : i.op = 30
                    · have b30 : (i.op != 30) = false := by rw [h30]; rfl
                      clear F1 F2 h28 h30
                      go_wp2_with fail
                      go_quiet (fail)
                      go_wp2_with fail
                      go_roundw
                      case rel => exact ⟨k2 + 1, n2 + nq, by omega, by go_num, by rw [HW2.out]; simp [World.drewN, Nat.add_assoc]⟩
                      case measure => simp [intOf]; omega
                    · have b30 : (i.op != 30) = true := bne_iff_ne.2 h30
                      have e9 := F2 rfl rfl h28 h30
                      subst e9
                      clear F1 F2 h28 h30
                      go_wp2_with fail
                      go_quiet (fail)
                      go_wp2_with fail
                      go_roundw
                      case rel => exact ⟨k2 + 1, n2 + nq, by omega, by go_num, by rw [HW2.out]; simp [World.drewN, Nat.add_assoc]⟩
                      case measure => simp [intOf]; omega
        · have hbp : Below w.heap.size w wp := by rw [HW2.out]; exact below_drewK HB15.out n2
          have HBP := Lib.hid hbp
          clear hbp
          cases ok with
          | true =>
            go_wp2_with fail
            go_ret
            exact ⟨rfl, HBP.out⟩
          | false =>
            have htz : tr ≠ 0 := beq_eq_false_iff_ne.1 HOK.out
            have hft := fx_traps x ra (l.take 20)
            rw [HF1.out, HTR.out, HMM.out, show x.op = i.op from by rw [← HXX.out]] at hft
            have hft2 := hft.resolve_left htz
            obtain ⟨hmm2, hwhy⟩ := hft2
            have HMX := Lib.hid hmm2
            have HWHY := Lib.hid hwhy
            clear hft hmm2 hwhy
            have HBW0 := Lib.hid (show WordsAt wp bv mm from by rw [HW2.out, ← HMM.out]; exact (words_of_own HD15.out).below (below_drewK (Below.refl _ _) n2))
            have HIC := Lib.hid (show Str wp w2.heap.size 40 _ from by rw [HW2.out]; exact HI15.out)
            go_wp2_with fail
            refine (some_any wp mv l (HW.out.below HBP.out)).mono ?_
            rintro e w16 ⟨ev, rfl, hoe, hb16⟩
            have HB16 := Lib.hid (HBP.out.trans (hb16.mono HBP.out.size))
            have hwd := words_any w16 bv ev mm (l.take 20) (HBW0.out.below hb16) (words_of_own hoe)
            have HIC2 := Lib.hid (HIC.out.below hb16)
            clear hoe hb16
            go_wp2_with fail
            refine hwd.mono ?_
            rintro e w17 ⟨rfl, dn3, rfl⟩
            rw [show decide (mm = l.take 20) = true from decide_eq_true HMX.out]
            have co : (w16.drewN dn3).cell? ⟨w2.heap.size, 0, none⟩ = some (.int .i64 i.op) := HIC2.out.cell 0
            clear hwd
            rcases HWHY.out with ⟨h1, h2⟩ | ⟨h1, h2, h3⟩
            · subst h1
              have b17 : (i.op == 17) = true := beq_iff_eq.2 h2
              go_wp2_with fail
              go_ret
              exact ⟨rfl, below_drewK HB16.out dn3⟩
            · subst h1
              go_wp2_with fail
              go_ret
              exact ⟨rfl, below_drewK HB16.out dn3⟩
end Go.Proofs.YtonheiaohgbbcaaGreat.Mc
