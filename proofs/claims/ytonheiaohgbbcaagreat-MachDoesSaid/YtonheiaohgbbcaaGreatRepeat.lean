/- What the library's Repeat answers of one element. -/
import Derived.Test.YtonheiaohgbbcaaGreatSlices
import Derived.Test.YtonheiaohgbbcaaGreatStruct
import Derived.Test.YtonheiaohgbbcaaGreatBridge
import Derived.Deep.Cut
namespace Go.Proofs.YtonheiaohgbbcaaGreat.Rp
open Go.ChangeShapes Go.WideShapes Go.ChangeAt Go.RowKit Go.Proofs.YtonheiaohgbbcaaGreat.Mem Go.Proofs.YtonheiaohgbbcaaGreat.Br
set_option linter.unusedVariables false

/-- builtin copy, of elements of k cells. -/
theorem run_copyK {P : Program} (w : World) (dT sT ty elem : TypeId) (k m g o dLen dCap : Nat) (a : Addr) (sLen sCap : Nat) (cur : Array Value) (t : TypeId) (cs : List Value)
    (hu : P.underlying dT = some (.slice elem)) (hs : (P.info? elem).map (·.size) = some k)
    (hg : w.heap[g]? = some (.cells cur t (0, 0))) (hm : m = Nat.min sLen dLen) (hn : cs.length = m * k)
    (hsrc : ∀ j v, cs[j]? = some v → w.cell? (a.add j) = some v) (hfit : o + cs.length ≤ cur.size) (h1 : ∀ v ∈ cs, v.oneCell' = true) :
    (Builtin.copy_ #[dT, sT] ty #[.slice (some ⟨g, o, none⟩) dLen dCap, .slice (some a) sLen sCap]).run P w =
      .ok (goInt m) (w.setRow g (cur.toList.take o ++ cs ++ cur.toList.drop (o + cs.length)).toArray) := by
  have hl := run_loadCells_list (P := P) w a cs hsrc
  have hst := run_storeCells_at P g o t cs 0 cur w hg (by simpa using hfit) h1
  cases hq : P.info? elem with
  | none => simp [hq] at hs
  | some i =>
    have hi : i.size = k := by simpa [hq] using hs
    rw [hn] at hl
    simp [Builtin.copy_, run_underlying hu, Builtin.lenOf, Builtin.firstCells, sizeOf, typeInfo, hq, hi, ← hm, hl, hst]
/-- n times the cells vs. -/
def rep (n : Nat) (vs : List Value) : List Value := (List.replicate n vs).flatten
theorem rep_len (n : Nat) (vs : List Value) : (rep n vs).length = n * vs.length := by
  unfold rep; induction n with
  | zero => simp
  | succ n ih => rw [List.replicate_succ, List.flatten_cons, List.length_append, ih, Nat.succ_mul]; omega
theorem rep_add (a b : Nat) (vs : List Value) : rep (a + b) vs = rep a vs ++ rep b vs := by
  unfold rep; rw [← List.replicate_append_replicate, List.flatten_append]
theorem rep_mem {n : Nat} {vs : List Value} {v : Value} (h : v ∈ rep n vs) : v ∈ vs := by
  unfold rep at h
  obtain ⟨l, hl, hv⟩ := List.mem_flatten.1 h
  rw [(List.mem_replicate.1 hl).2] at hv; exact hv
theorem rep_one (n : Nat) (v : Value) : rep n [v] = List.replicate n v := by
  unfold rep; induction n with
  | zero => rfl
  | succ n ih => rw [List.replicate_succ, List.flatten_cons, ih, List.replicate_succ]; rfl
theorem rep_at {n i : Nat} {v : Value} (h : i < n) : (rep n [v])[i]? = some v := by rw [rep_one, List.getElem?_replicate, if_pos h]
/-- cs laid over cur, from off on. -/
def spl (cur : List Value) (off : Nat) (cs : List Value) : List Value := cur.take off ++ cs ++ cur.drop (off + cs.length)
theorem rep_cells (m : Nat) (x : Int) : ∀ v ∈ rep m [Value.int .i64 x], v.oneCell' = true := by
  intro v hv
  have := rep_mem hv
  rw [List.mem_singleton] at this
  subst this; rfl
theorem splice_rep {n j m k : Nat} {vs zs : List Value} (hv : vs.length = k) (hz : zs.length = k) (hm : j + m ≤ n) :
    spl (rep j vs ++ rep (n - j) zs) (j * k) (rep m vs) = rep (j + m) vs ++ rep (n - (j + m)) zs := by
  unfold spl
  have h1 : (rep j vs).length = j * k := by rw [rep_len, hv]
  have h2 : (rep m vs).length = (rep m zs).length := by rw [rep_len, rep_len, hv, hz]
  have h3 : rep (n - j) zs = rep m zs ++ rep (n - (j + m)) zs := by rw [← rep_add]; congr 1; omega
  rw [← h1, List.take_left, List.drop_append, List.drop_of_length_le (Nat.le_add_right _ _), Nat.add_sub_cancel_left, h2, h3, List.drop_left, List.nil_append, rep_add]
theorem wpList_copyK {P : Program} {w : World} {ops : Array Oper} {rest : List Oper} {o : Oper} {a : Act} {Q : Exit → Act → World → Prop} (hgd : o.guard = none) (d s : Operand) (dT sT : TypeId)
    (ho : o.op = .call { callee := .builtin .copy, args := #[d, s], argTypes := #[dT, sT] }) (elem : TypeId) (k m : Nat) (hu : P.underlying dT = some (.slice elem)) (hsz : (P.info? elem).map (·.size) = some k)
    (g off dLen dCap : Nat) (ad : Addr) (sLen sCap : Nat) (hd : a.eval d = .slice (some ⟨g, off, none⟩) dLen dCap) (hs : a.eval s = .slice (some ad) sLen sCap)
    (cur : List Value) (t : TypeId) (hg : w.heap[g]? = some (.cells cur.toArray t (0, 0))) (cs : List Value) (hm : m = Nat.min sLen dLen) (hn : cs.length = m * k)
    (hsrc : ∀ j v, cs[j]? = some v → w.cell? (ad.add j) = some v) (hfit : off + cs.length ≤ cur.length) (h1 : ∀ v ∈ cs, v.oneCell' = true)
    (h : ∀ w', Str w' g t (spl cur off cs) → w.grownBy w' (some g) → wpList P ops Q rest (a.put o.dst (.int .i64 m)) w') : wpList P ops Q (o :: rest) a w := by
  refine wpList_plain hgd fun K hK => ?_
  have hrun := run_copyK (P := P) w dT sT o.type elem k m g off dLen dCap ad sLen sCap cur.toArray t cs hu hsz hg hm hn hsrc (by simpa using hfit) h1
  unfold Oper.wp
  simp [execOp, ho, resolve, invoke, builtin, hd, hs, hrun, Result.andThen]
  exact hK _ _ (h _ (by unfold Str spl; simpa using setRow_heap w g cur.toArray _ t _ hg) ⟨rfl, rfl, rfl, by simp [World.setRow], fun k _ hk => setRow_other w g k _ (fun e => hk (by rw [e]))⟩)

theorem mul_one_any (n : Nat) (h : n ≤ 1000000) (w : World) : Calls Tryz.prog 149 #[.int .u64 1, .int .u64 n] w fun e w' => e = .returned (.tuple #[.int .u64 0, .int .u64 n]) ∧ w = w' := by
  refine (Tryz.bits_Mul 1 n (by omega) (by omega) w).mono ?_
  rintro e w' ⟨rfl, rfl⟩
  rw [Nat.one_mul, Nat.div_eq_of_lt (by omega), Nat.mod_eq_of_lt (by omega)]
  exact ⟨rfl, rfl⟩
theorem info_int' : (Tryz.prog.info? 3).map (·.size) = some 1 := by kernel_rfl
theorem info_int2 : (Tryz.prog.info? 3).map (fun i => (i.zero, i.size, i.bytes)) = some (some (.int .i64 0), 1, 8) := by kernel_rfl

/-- One number, n times. -/
def MadeRep (w : World) (n : Nat) (x : Int) (e : Ending) (w' : World) : Prop :=
  e = .returned (.slice (some ⟨w.heap.size, 0, none⟩) n n) ∧ OwnInts w.heap.size w' (.slice (some ⟨w.heap.size, 0, none⟩) n n) (List.replicate n x) ∧ Below w.heap.size w w'
set_option maxRecDepth 100000 in
set_option maxHeartbeats 4000000 in
theorem repeat_any (w : World) (xb n : Nat) (x : Int) (hx : w.cell? ⟨xb, 0, none⟩ = some (.int .i64 x)) (hn : n ≤ 1000000) :
    Calls Tryz.prog 133 #[.slice (some ⟨xb, 0, none⟩) 1 1, .int .i64 n] w (MadeRep w n x) := by
  obtain ⟨i0, hi, hz0, hz1, hz2⟩ := info_parts info_int2
  have HI := Lib.hid hi
  have HZ0 := Lib.hid hz0
  have HZ1 := Lib.hid hz1
  have HZ2 := Lib.hid hz2
  clear hi hz0 hz1 hz2
  have HX := Lib.hid hx
  have hxb := lt_of_cell hx
  have d0 : decide ((n : Int) < 0) = false := decide_eq_false (by omega)
  have d1 : decide ((9223372036854775807 : Int) < (n : Int)) = false := decide_eq_false (by omega)
  clear hx
  go_enter Tryz.func133, Tryz.ntmps133
  go_wp2_with (first | (go_at_call 149; refine (mul_one_any n hn _).mono ?_; rintro e w' ⟨rfl, rfl⟩) | (at_make; refine wpList_make_full _ rfl _ _ 38 rfl w.heap.size 3 i0 (.int .i64 0) 1 Tryz.underlying38 HI.out HZ0.out HZ1.out .i64 .i64 _ _ n rfl rfl rfl rfl (by rw [HZ2.out]; omega) (by unfold maxLen; omega) (Nat.le_refl _) ?_))
  intro w1 hown hgr
  rw [toList_madeCells_one] at hown
  have HB1 := Lib.hid (show Below w.heap.size w w1 from (Below.refl _ _).grown hgr (Nat.le_refl _) (fun j hj => by cases hj))
  have hS1 : Str w1 w.heap.size 3 (rep 0 [.int .i64 x] ++ rep (n - 0) [.int .i64 0]) := by
    rcases hown.2 with ⟨e, _⟩ | ⟨g, cap, cur, e, _, hg, _, _, h3, h4⟩
    · cases e
    · injection e with e1 _ e3
      injection e1 with e1
      injection e1 with e1
      subst e1; subst e3
      unfold Str
      rw [show rep 0 [Value.int .i64 x] = [] from rfl, List.nil_append, rep_one, Nat.sub_zero, ← h4, hg]
      congr 2
      rw [Nat.mul_one] at h3 h4 ⊢
      rw [List.take_of_length_le (by rw [Array.length_toList]; omega)]
  have hlt1 := hS1.lt
  have hx1 := cell_keep HB1.out (Nat.le_refl _) HX.out
  clear hown hgr
  obtain ⟨m0, hm0⟩ : ∃ m0, m0 = Nat.min 1 n := ⟨_, rfl⟩
  have hm0' : m0 ≤ 1 ∧ m0 ≤ n := by rw [hm0]; exact ⟨Nat.min_le_left _ _, Nat.min_le_right _ _⟩
  have hm0'' : 0 < n → m0 = 1 := by rw [hm0]; intro h; exact Nat.min_eq_left h
  have hsrc1 : ∀ j v, (rep m0 [Value.int .i64 x])[j]? = some v → w1.cell? ((⟨xb, 0, none⟩ : Addr).add j) = some v := by
    intro j v hj
    have h1 : j < (rep m0 [Value.int .i64 x]).length := (List.getElem?_eq_some_iff.1 hj).1
    have h2 : v ∈ [Value.int .i64 x] := rep_mem (List.mem_of_getElem? hj)
    rw [List.mem_singleton] at h2
    rw [rep_len, List.length_singleton] at h1
    obtain rfl : j = 0 := by omega
    subst h2
    rw [Addr.add_lit]
    exact hx1
  have hfit1 : 0 + (rep m0 [Value.int .i64 x]).length ≤ (rep 0 [Value.int .i64 x] ++ rep (n - 0) [Value.int .i64 0]).length := by
    rw [List.length_append, rep_len, rep_len, rep_len, List.length_singleton]; simp; omega
  have HS1 := Lib.hid hS1
  have HF1 := Lib.hid hfit1
  have HM0 := Lib.hid hm0
  have HC1 := Lib.hid hsrc1
  have HONE := Lib.hid (rep_cells m0 x)
  clear hS1 hfit1 hm0 hsrc1 hx1
  go_upto_region 8 with (refine wpList_copyK rfl (.tmp 31) (.tmp 32) 38 38 rfl 3 1 m0 Tryz.underlying38 info_int' w.heap.size 0 n n ⟨xb, 0, none⟩ 1 1 rfl rfl (rep 0 [.int .i64 x] ++ rep (n - 0) [.int .i64 0]) 3 HS1.out (rep m0 [.int .i64 x]) HM0.out (by rw [rep_len]; rfl) HC1.out HF1.out HONE.out ?_)
  intro w2 hS2 hgr2
  have hS2' : Str w2 w.heap.size 3 (rep m0 [.int .i64 x] ++ rep (n - m0) [.int .i64 0]) := by
    have h := splice_rep (n := n) (j := 0) (m := m0) (k := 1) (vs := [Value.int .i64 x]) (zs := [Value.int .i64 0]) rfl rfl (by omega)
    rw [Nat.zero_add, Nat.zero_mul, Nat.sub_zero] at h
    rw [h] at hS2; exact hS2
  have HS2 := Lib.hid hS2'
  have HB2 := Lib.hid (HB1.out.grown hgr2 HB1.out.size (fun k hk => by injection hk with hk; omega))
  clear hS2 hS2' hgr2 HS1 HF1 HC1
  go_wp2
  go_loopw [8] (fun i wr => ∃ j : Nat, j ≤ n ∧ (0 < n → 0 < j) ∧ i = .int .i64 j ∧ Str wr w.heap.size 3 (rep j [.int .i64 x] ++ rep (n - j) [.int .i64 0]) ∧ Below w.heap.size w wr) (fun i _ => n - (intOf i).toNat)
  case atStart => exact ⟨m0, hm0'.2, by omega, rfl, HS2.out, HB2.out⟩
  case round =>
    obtain ⟨j, hj, hj0, rfl, hS, hB⟩ := hrel
    obtain ⟨wo, rfl⟩ : ∃ wo : World, wo = wr := ⟨_, rfl⟩
    by_cases hlt : j < n
    · have hj1 : 0 < j := hj0 (by omega)
      have hne : ¬ n = j := by omega
      have HS := Lib.hid hS
      have HB := Lib.hid hB
      clear hS hB hj0
      go_wp2
      refine region_held_wp (fun _ => True) [0, 1, 2, 3, 4, 5, 6, 8, 9] [0, 1, 2, 3, 4, 5, 6, 7, 8, 9] (by kernel_rfl) (by kernel_rfl) (by kernel_rfl) rfl ?hpan trivial ?_
      case hpan => intro c a d v w h; cases d <;> exact h
      refine walkH_still _ ?v0 rfl rfl rfl ?y0 ?_
      case y0 => intro w hS; go_simp; first | done | with_reducible rfl
      simp only [Act.put]
      refine walkH_still _ ?v1 rfl rfl rfl ?y1 ?_
      case y1 => intro w hS; go_simp; first | done | with_reducible rfl
      simp only [Act.put]
      refine walkH_still _ ?v2 rfl rfl rfl ?y2 ?_
      case y2 => intro w hS; go_simp; first | done | with_reducible rfl
      simp only [Act.put]
      refine walkH_still _ ?v3 rfl rfl rfl ?y3 ?_
      case y3 => intro w hS; go_simp; first | done | with_reducible rfl
      simp only [Act.put]
      refine walkH_still _ ?v4 rfl rfl rfl ?y4 ?_
      case y4 => intro w hS; go_simp; first | done | with_reducible rfl
      simp only [Act.put]
      refine walkH_still _ ?v5 rfl rfl rfl ?y5 ?_
      case y5 => intro w hS; go_simp; first | done | with_reducible rfl
      simp only [Act.put]
      refine walkH_still _ ?v6 rfl rfl rfl ?y6 ?_
      case y6 => intro w hS; go_simp; first | done | with_reducible rfl
      simp only [Act.put]
      obtain ⟨m, hm⟩ : ∃ m, m = Nat.min j (n - j) := ⟨_, rfl⟩
      have hm1 : m ≤ j ∧ m ≤ n - j := by rw [hm]; exact ⟨Nat.min_le_left _ _, Nat.min_le_right _ _⟩
      have hm2 : 0 < m := by rw [hm]; exact Nat.lt_min.2 ⟨hj1, by omega⟩
      have HM := Lib.hid hm
      have HSP := Lib.hid (show spl (rep j [Value.int .i64 x] ++ rep (n - j) [Value.int .i64 0]) j (rep m [Value.int .i64 x]) = rep (j + m) [Value.int .i64 x] ++ rep (n - (j + m)) [Value.int .i64 0] from by
        have h := splice_rep (n := n) (j := j) (m := m) (k := 1) (vs := [Value.int .i64 x]) (zs := [Value.int .i64 0]) rfl rfl (by omega)
        rw [Nat.mul_one] at h; exact h)
      have HC := Lib.hid (show ∀ i v, (rep m [Value.int .i64 x])[i]? = some v → wo.cell? ((⟨w.heap.size, 0, none⟩ : Addr).add i) = some v from by
        intro i v hi
        have h1 : i < (rep m [Value.int .i64 x]).length := (List.getElem?_eq_some_iff.1 hi).1
        rw [rep_len, List.length_singleton] at h1
        rw [Addr.add_lit, HS.out.cell, Nat.zero_add, List.getElem?_append_left (by rw [rep_len, List.length_singleton]; omega)]
        rw [rep_at (show i < m by omega)] at hi
        exact (rep_at (show i < j by omega)).trans hi)
      have HF := Lib.hid (show j + (rep m [Value.int .i64 x]).length ≤ (rep j [Value.int .i64 x] ++ rep (n - j) [Value.int .i64 0]).length from by
        rw [List.length_append, rep_len, rep_len, rep_len, List.length_singleton, List.length_singleton]; omega)
      have HONE2 := Lib.hid (rep_cells m x)
      clear hm
      simp only [List.setIfInBounds_toArray, List.set_cons_zero, List.set_cons_succ]
      refine walkH_does _ rfl rfl ?_
      go_loud (refine wpList_copyK rfl (.tmp 41) (.tmp 44) 38 38 rfl 3 1 m Tryz.underlying38 info_int' w.heap.size j (n - j) (n - j) ⟨w.heap.size, 0, none⟩ j n rfl rfl (rep j [.int .i64 x] ++ rep (n - j) [.int .i64 0]) 3 HS.out (rep m [.int .i64 x]) HM.out (by rw [rep_len]; rfl) HC.out HF.out HONE2.out ?_)
      intro w5 hS5 hgr5
      have HS5 := Lib.hid (show Str w5 w.heap.size 3 (rep (j + m) [.int .i64 x] ++ rep (n - (j + m)) [.int .i64 0]) by rw [HSP.out] at hS5; exact hS5)
      have HB5 := Lib.hid ((HB.out.drew).grown hgr5 HB.out.size (fun k hk => by injection hk with hk; omega))
      have hw : IntKind.i64.wrap ((j : Int) + (m : Int)) = (j : Int) + (m : Int) := IntWalk.i64_in _ (by omega)
      clear hS5 hgr5
      go_wp2
      refine walkH_still _ ?v8 rfl rfl rfl ?y8 ?_
      case y8 => intro w hS; go_simp; first | done | with_reducible rfl
      simp only [Act.put]
      refine walkH_still _ ?v9 rfl rfl rfl ?y9 ?_
      case y9 => intro w hS; go_simp; first | done | with_reducible rfl
      simp only [Act.put]
      simp only [List.setIfInBounds_toArray, List.set_cons_zero, List.set_cons_succ]
      clear hw
      refine walkH_nil ?_
      go_wp2
      go_roundw
      case rel => exact ⟨j + m, by omega, by omega, by go_num, HS5.out, HB5.out⟩
      case measure => simp [intOf]; omega
    · obtain rfl : j = n := by omega
      have HS := Lib.hid hS
      have HB := Lib.hid hB
      clear hS hB
      go_wp2
      go_ret
      refine ⟨rfl, ?_, HB.out⟩
      unfold OwnInts
      rw [List.length_replicate, List.map_replicate]
      have h := HS.out
      rw [Nat.sub_self, show rep 0 [Value.int .i64 0] = [] from rfl, List.append_nil, rep_one] at h
      exact ⟨by simp, Or.inr ⟨w.heap.size, j, _, rfl, Nat.le_refl _, h, Nat.le_refl _, by unfold maxLen; omega, by simp, by simp⟩⟩
end Go.Proofs.YtonheiaohgbbcaaGreat.Rp
