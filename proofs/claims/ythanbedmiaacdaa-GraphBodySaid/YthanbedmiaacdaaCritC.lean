/- What package graph's Critical answers. -/
import Derived.Test.YthanbedmiaacdaaHeadC
namespace Go.Proofs.Ythanbedmiaacdaa.Gc
open Go.ChangeShapes Go.WideShapes Go.ChangeAt Go.RowKit Go.Shelf Go.Proofs.Ythanbedmiaacdaa.Mem Go.Proofs.Ythanbedmiaacdaa.Gr Go.Proofs.Ythanbedmiaacdaa.Gn Go.Proofs.Ythanbedmiaacdaa.Br Go.Proofs.Ythanbedmiaacdaa.Rp
set_option linter.unusedVariables false
attribute [local go_sem] Oper.semAt_some

/-- One element of two cells is appended to a row of the call's own. -/
theorem run_append2 {P : Program} (w : World) (base : Nat) (t ty e : TypeId) (i : TypeInfo) (z : Value) (bytes : Nat) (ht : P.underlying t = some (.slice e)) (hi : P.info? e = some i) (hz : i.zero = some z)
    (hsize : i.size = 2) (hby : i.bytes = bytes) (hzs : z.cells.size = 2) (v : Value) (n : Nat) (xs : List Value) (hown : w.ownsRow base e 2 v n xs) (b : Nat) (u x : Value) (hc : w.cell? ⟨b, 0, none⟩ = some u) (hd : w.cell? ⟨b, 1, none⟩ = some x) (h1 : u.oneCell' = true) (h2 : x.oneCell' = true)
    (hn : n ≤ 1000000) (hb : bytes ≤ 1000) (hbase : base ≤ w.heap.size) :
    ∃ v' w', (Builtin.append_ #[t, t] ty #[v, .slice (some ⟨b, 0, none⟩) 1 1]).run P w = .ok v' w' ∧ w'.ownsRow base e 2 v' (n + 1) (xs ++ [u, x]) ∧ w.grownBy w' v.ownBlock := by
  have hnews : ∀ j y, [u, x][j]? = some y → w.cell? ((⟨b, 0, none⟩ : Addr).add j) = some y := by
    intro j y hj
    match j, hj with
    | 0, hj => simp at hj; subst hj; simpa [Addr.add] using hc
    | 1, hj => simp at hj; subst hj; simpa [Addr.add] using hd
  have h1' : ∀ y ∈ [u, x], y.oneCell' = true := by intro y hy; simp at hy; rcases hy with rfl | rfl <;> assumption
  have hbb : (n + 1) * bytes ≤ 1000001 * 1000 := Nat.mul_le_mul (by omega) hb
  have hml : n + 1 ≤ maxLen := by unfold maxLen; omega
  obtain ⟨v', w', hr, h2, h3, _⟩ := run_append_own (P := P) w base t ty e i z 2 bytes ht hi hz hsize hby hzs (by decide) v n xs hown ⟨b, 0, none⟩ 1 1 [u, x] rfl hnews h1' hml (by omega) hbase
  exact ⟨v', w', hr, h2, h3⟩
theorem wpList_append2 {P : Program} {w : World} {ops : Array Oper} {rest : List Oper} {o : Oper} {a : Act} {Q : Exit → Act → World → Prop} (hgd : o.guard = none) (s y : Operand) (t : TypeId)
    (ho : o.op = .call { callee := .builtin .append, args := #[s, y], argTypes := #[t, t] }) (base : Nat) (e : TypeId) (i : TypeInfo) (z : Value) (bytes : Nat) (ht : P.underlying t = some (.slice e)) (hi : P.info? e = some i) (hz : i.zero = some z)
    (hsize : i.size = 2) (hby : i.bytes = bytes) (hzs : z.cells.size = 2) (v : Value) (n : Nat) (xs : List Value) (hs : a.eval s = v) (hown : w.ownsRow base e 2 v n xs) (b : Nat) (u x : Value) (hx : a.eval y = .slice (some ⟨b, 0, none⟩) 1 1)
    (hc : w.cell? ⟨b, 0, none⟩ = some u) (hd : w.cell? ⟨b, 1, none⟩ = some x) (h1 : u.oneCell' = true) (h2 : x.oneCell' = true) (hn : n ≤ 1000000) (hb : bytes ≤ 1000) (hbase : base ≤ w.heap.size)
    (h : ∀ v' w', w'.ownsRow base e 2 v' (n + 1) (xs ++ [u, x]) → w.grownBy w' v.ownBlock → wpList P ops Q rest (a.put o.dst v') w') : wpList P ops Q (o :: rest) a w := by
  refine wpList_plain hgd fun K hK => ?_
  obtain ⟨v', w', hr, h2, h3⟩ := run_append2 (P := P) w base t o.type e i z bytes ht hi hz hsize hby hzs v n xs hown b u x hc hd h1 h2 hn hb hbase
  unfold Oper.wp execOp
  simp only [ho, resolve, invoke, builtin, Sem.run_bind, Sem.run_pure, Result.andThen_ok, List.map_toArray, List.map_cons, List.map_nil, hs, hx, hr]
  exact hK _ _ (h v' w' h2 h3)
theorem wpListIn_append2 {F : Fence} {n : Nat} {P : Program} {w : World} {ops : Array Oper} {rest : List Oper} {o : Oper} {a : Act} {Q : Exit → Act → World → Prop} (hgd : o.guard = none) (s y : Operand) (t : TypeId)
    (ho : o.op = .call { callee := .builtin .append, args := #[s, y], argTypes := #[t, t] }) (base : Nat) (e : TypeId) (i : TypeInfo) (z : Value) (bytes : Nat) (ht : P.underlying t = some (.slice e)) (hi : P.info? e = some i) (hz : i.zero = some z)
    (hsize : i.size = 2) (hby : i.bytes = bytes) (hzs : z.cells.size = 2) (v : Value) (k : Nat) (xs : List Value) (hs : a.eval s = v) (hown : w.ownsRow base e 2 v k xs) (b : Nat) (u x : Value) (hx : a.eval y = .slice (some ⟨b, 0, none⟩) 1 1)
    (hc : w.cell? ⟨b, 0, none⟩ = some u) (hd : w.cell? ⟨b, 1, none⟩ = some x) (h1 : u.oneCell' = true) (h2 : x.oneCell' = true) (hn : k ≤ 1000000) (hb : bytes ≤ 1000) (hbase : base ≤ w.heap.size)
    (h : ∀ v' w', w'.ownsRow base e 2 v' (k + 1) (xs ++ [u, x]) → w.grownBy w' v.ownBlock → wpListIn F n P ops Q rest (a.put o.dst v') w') : wpListIn F n P ops Q (o :: rest) a w := by
  refine wpListIn_plain hgd fun K hK => ?_
  obtain ⟨v', w', hr, h2, h3⟩ := run_append2 (P := P) w base t o.type e i z bytes ht hi hz hsize hby hzs v k xs hown b u x hc hd h1 h2 hn hb hbase
  unfold Oper.wpIn
  refine ⟨?_, ?_⟩
  · simp [Oper.about, ho, resolve, Target.leads, Sem.run_pure]
  · rw [Oper.semAt_plain F _ _ (by rw [ho]; intro c hc'; cases hc')]
    simp [execOp, ho, resolve, invoke, builtin, hs, hx, hr, Result.andThen]
    exact hK _ _ (h v' w' h2 h3)
/-- A row of pairs that the call owns. -/
def OwnPairs (B : Nat) (w : World) (v : Value) (l : List (Int × Int)) : Prop := w.ownsRow B 52 2 v l.length (l.map rg).flatten
def pr (e : Nat × Nat) : Int × Int := ((e.1 : Int), (e.2 : Int))
def MadePairs (l : List (Int × Int)) (w : World) (e : Ending) (w' : World) : Prop := ∃ v, e = .returned v ∧ OwnPairs w.heap.size w' v l ∧ Below w.heap.size w w'
theorem info_pair : (Try.prog.info? 52).map (fun i => (i.zero, i.size, i.bytes)) = some (some (.agg #[.int .i64 0, .int .i64 0]), 2, 16) := by kernel_rfl
/-- Where a row of a graph lies. -/
theorem grid_at {w : World} {b n c : Nat} {T : G} (h : Grid w (.slice (some ⟨b, 0, none⟩) n c) (lii T)) {k : Nat} (hk : k < T.length) : ∃ A m, w.cell? ⟨b, k, none⟩ = some (.slice A (T.getD k []).length m) ∧ (T.getD k []).length ≤ m := by
  obtain ⟨A, c', e, _, _, h3⟩ := h
  injection e with e1 e2 e3
  subst e1
  obtain ⟨ad, u, e, hc, hu⟩ := h3 k (by rw [lii_len]; exact hk)
  injection e with e
  subst e
  obtain ⟨A, m, e, hm, _⟩ := hu
  rw [lii_at hk, li_len] at e hm
  have hg : T.getD k [] = T[k] := by rw [List.getD_eq_getElem?_getD, List.getElem?_eq_getElem hk]; rfl
  refine ⟨A, m, ?_, by rw [hg]; exact hm⟩
  rw [hg, ← e]
  cases k <;> simpa [Addr.add] using hc
def critB (T : G) (e : Nat × Nat) : Bool := decide (1 < (T.getD e.1 []).length) && decide (1 < ((turnN T).getD e.2 []).length)
def critAt (T : G) (es : List (Nat × Nat)) : List (Int × Int) := (es.filter (critB T)).map pr
theorem critAt_hit {T : G} {es : List (Nat × Nat)} {e : Nat × Nat} (h : critB T e = true) : critAt T (es ++ [e]) = critAt T es ++ [pr e] := by
  unfold critAt; rw [List.filter_append, List.filter_cons, if_pos h, List.map_append]; rfl
theorem critAt_miss {T : G} {es : List (Nat × Nat)} {e : Nat × Nat} (h : critB T e = false) : critAt T (es ++ [e]) = critAt T es := by
  unfold critAt; rw [List.filter_append, List.filter_cons, if_neg (by rw [h]; simp), List.map_append]; simp
theorem critAt_len (T : G) (es : List (Nat × Nat)) : (critAt T es).length ≤ es.length := by unfold critAt; rw [List.length_map]; exact List.length_filter_le _ _
set_option maxRecDepth 100000 in
set_option maxHeartbeats 2000000 in
theorem critical_code (w : World) (v : Value) (g : List (List Int)) (hg : Grid w v g) (hs : Small g) :
    Calls Try.prog 31 #[v] w (MadePairs ((criticalN (tidyN g)).map pr) w) := by
  have hgl := hs.1
  have hT := tidyN_ok g
  have hTl := tidyN_len g
  have hTs := tidyN_small (g := g) hgl
  have HG := Lib.hid hg
  have HS := Lib.hid hs
  have HTL := Lib.hid hTl
  have HT := Lib.hid hT
  have HTS := Lib.hid hTs
  have HTN := Lib.hid (tidyN_neat g)
  obtain ⟨i0, hi, hz0, hz1, hz2⟩ := info_parts info_pair
  have HI := Lib.hid hi
  have HZ0 := Lib.hid hz0
  have HZ1 := Lib.hid hz1
  have HZ2 := Lib.hid hz2
  clear hg hs hi hz0 hz1 hz2 hTl hT hTs
  refine (callsIn_wide (n := 9)).1 ?_
  refine callsIn_of_wp_marks Try.func31 rfl trivial ?_ rfl
  simp only [Try.ntmps31, List.size_toArray, List.length_cons, List.length_nil, Nat.reduceAdd, Nat.reduceSub, Array.replicate_succ, Array.replicate_zero, List.push_toArray, List.append_toArray, List.nil_append, List.cons_append]
  gi_wp2_with fail
  refine ⟨trivial, callsIn_wide.2 ((tidy_any _ _ g HG.out HS.out).mono ?_)⟩
  rintro e w1 ⟨b1, rfl, hO1, hB1⟩
  have hg1 := hO1.grid.grid
  rw [lii_len] at hg1
  have hz1 := hB1.size
  have HB1 := Lib.hid hB1
  have HG1 := Lib.hid hg1
  clear hO1 hg1 hB1
  obtain ⟨W1, hW1⟩ : ∃ W1, w1.alloc (.cells #[.slice (some ⟨b1, 0, none⟩) (tidyN g).length (tidyN g).length] 59) = W1 := ⟨_, rfl⟩
  have hA1 : Below w1.heap.size w1 W1 := by rw [← hW1]; exact (Below.refl _ _).alloc (Nat.le_refl _) _
  have hx1 : Boxed W1 w1.heap.size 59 (.slice (some ⟨b1, 0, none⟩) (tidyN g).length (tidyN g).length) := by rw [← hW1]; exact Boxed.new _ _ _
  have hy1 : w1.heap.size < W1.heap.size := by rw [← hW1]; simp
  gi_upto_region 2 with (fail)
  clear hW1
  have k1 := hx1.cell
  gi_wp2_with fail
  refine ⟨trivial, callsIn_wide.2 ((turned_any _ _ (tidyN g) (HG1.out.keep hA1) HT.out HTS.out).mono ?_)⟩
  rintro e w2 ⟨b2, rfl, hO2, hB2⟩
  have hg2 := hO2.grid.grid
  rw [lii_len] at hg2
  have htl := turnN_len (tidyN g)
  rw [htl] at hg2 ⊢
  have hz2 := hB2.size
  have HB2 := Lib.hid hB2
  have HG2 := Lib.hid hg2
  clear hO2 hg2 htl
  obtain ⟨W2, hW2⟩ : ∃ W2, (w2.alloc (.cells #[.slice (some ⟨b2, 0, none⟩) (tidyN g).length (tidyN g).length] 59)).alloc (.cells #[.slice none 0 0] 53) = W2 := ⟨_, rfl⟩
  have hA2 : Below w2.heap.size w2 W2 := by rw [← hW2]; exact ((Below.refl _ _).alloc (Nat.le_refl _) _).alloc (by simp) _
  have hx2 : Boxed W2 w2.heap.size 59 (.slice (some ⟨b2, 0, none⟩) (tidyN g).length (tidyN g).length) := by rw [← hW2]; exact (Boxed.new _ _ _).alloc _
  have hx3 : Boxed W2 (w2.heap.size + 1) 53 (.slice none 0 0) := by
    rw [← hW2]; have := Boxed.new (w2.alloc (.cells #[.slice (some ⟨b2, 0, none⟩) (tidyN g).length (tidyN g).length] 59)) 53 (.slice none 0 0); rw [World.size_alloc] at this; exact this
  have hy2 : W2.heap.size = w2.heap.size + 2 := by rw [← hW2]; simp
  have hx1' := (boxed_below hx1 hB2)
  have hx1'' := boxed_below hx1' hA2
  clear k1
  gi_upto_region 4 with (fail)
  clear hW2
  have k1 := hx1''.cell
  gi_wp2_with fail
  refine ⟨trivial, ?_⟩
  refine (callsIn_wide.2 (edges_any _ (some ⟨b1, 0, none⟩) (tidyN g).length (tidyN g).length)).mono ?_
  rintro e w5 ⟨rfl, rfl⟩
  gi_wp2_with fail
  obtain ⟨W0, hW0⟩ : ∃ W0, W2.alloc (.cells #[.slice (some ⟨b1, 0, none⟩) (tidyN g).length (tidyN g).length] 59) = W0 := ⟨_, rfl⟩
  rw [hW0]
  have hB0 : Below W2.heap.size W2 W0 := by rw [← hW0]; exact (Below.refl _ _).alloc (Nat.le_refl _) _
  have hxe : Boxed W0 (w2.heap.size + 2) 59 (.slice (some ⟨b1, 0, none⟩) (tidyN g).length (tidyN g).length) := by rw [← hW0, ← hy2]; exact Boxed.new _ _ _
  have hz0 : W0.heap.size = w2.heap.size + 3 := by rw [← hW0]; simp [hy2]
  clear hW0
  have hB20 : Below w2.heap.size w2 W0 := hA2.trans (hB0.mono (by omega))
  have hx2' := boxed_below hx2 hB0
  have hx3' := boxed_below hx3 hB0
  have hBw : Below w.heap.size w w2 := (HB1.out.trans (hA1.mono hz1)).trans (HB2.out.mono (by omega))
  have hG1 : Grid w2 _ (lii (tidyN g)) := (HG1.out.keep hA1).keep HB2.out
  have HGG1 := Lib.hid hG1
  have HX1 := Lib.hid hx1'
  have HB20 := Lib.hid hB20
  have HBw := Lib.hid hBw
  have hwz : w.heap.size ≤ w2.heap.size := hBw.size
  have hel := edges_few HTS.out
  have hcn : critAt (tidyN g) [] = [] := rfl
  have hown0 : OwnPairs w2.heap.size W0 (.slice none 0 0) (critAt (tidyN g) []) := by rw [hcn]; exact World.ownsRow_nil _ _ _ _
  clear hx2 hx3 hx1 hx1' hx1'' k1 hG1 hB20 hBw hA1 hA2
  refine wpIn_rangeFunc_ownF rfl (by omega) (gf := 62) (lb := #[.pointer (some ⟨w2.heap.size + 2, 0, none⟩)]) rfl trivial (enters_of Try.func62 (by kernel_rfl) rfl)
    (edges_stops Fence.wide 8 trivial rfl (by omega) w2 W0 (.slice (some ⟨b1, 0, none⟩) (tidyN g).length (tidyN g).length) (tidyN g) (w2.heap.size + 2) HGG1.out HT.out HTS.out HB20.out hxe.cell) Kept.trans (kept_b (by omega) (by omega)) (Below.refl _ _) (fun _ => rfl)
    (fun pre W => ((∃ v, OwnPairs w2.heap.size W v (critAt (tidyN g) (pre.map (·.1))) ∧ Boxed W (w2.heap.size + 1) 53 v) ∧ Boxed W w2.heap.size 59 (.slice (some ⟨b2, 0, none⟩) (tidyN g).length (tidyN g).length) ∧ Boxed W (w2.heap.size + 2) 59 (.slice (some ⟨b1, 0, none⟩) (tidyN g).length (tidyN g).length)) ∧ Below w2.heap.size w2 W)
    (fun _ _ _ => False)
    (OwnFrom.and (Own.from (fun s W W' row hs hg hr => by
      obtain ⟨⟨v, h1, h2⟩, h3, h4⟩ := hs
      exact ⟨⟨v, World.ownsRow.kept h1 hg (own_notcells h1 hr), boxed_cells h2 hg hr⟩, boxed_cells h3 hg hr, boxed_cells h4 hg hr⟩) _) (ownFrom_below (Nat.le_refl _) (by omega)))
    (fun _ _ _ _ _ hs _ _ => hs)
    ⟨⟨⟨_, hown0, hx3'⟩, hx2', hxe⟩, HB20.out⟩
    (fun x => { tmps := #[v, undef, .slice none 0 0, .pointer (some ⟨w1.heap.size, 0, none⟩), .pointer (some ⟨w2.heap.size, 0, none⟩), .pointer (some ⟨w2.heap.size + 1, 0, none⟩), .int .i64 (x.1.1 : Int), .int .i64 (x.1.2 : Int), v,
      .slice (some ⟨b1, 0, none⟩) (tidyN g).length (tidyN g).length, .slice (some ⟨b1, 0, none⟩) (tidyN g).length (tidyN g).length, .slice (some ⟨b2, 0, none⟩) (tidyN g).length (tidyN g).length, .slice (some ⟨b1, 0, none⟩) (tidyN g).length (tidyN g).length,
      .func (.func 62) #[] #[.pointer (some ⟨w2.heap.size + 2, 0, none⟩)], .int .i64 (x.1.1 : Int), .int .i64 (x.1.2 : Int), undef, undef, undef, undef, undef, undef, undef, undef, undef, undef, undef, undef, undef, undef, undef, undef, undef, undef, undef, undef, undef], defers := [] }) ?assign ?body ?done ?stop
  case assign =>
    intro l x W K hK
    gi_wp2
    exact hK
  case body =>
    rintro l pre x W ⟨⟨⟨vc, hpc, hbc⟩, hb2, hbe⟩, hB⟩ hlen
    obtain ⟨⟨fr, ob⟩, hfr, hto⟩ := x
    have hcl := critAt_len (tidyN g) (pre.map (·.1))
    rw [List.length_map] at hcl
    have k1 := (boxed_below HX1.out hB).cell
    have k2 := hb2.cell
    have k3 := hbc.cell
    obtain ⟨Ar, mr, ra, rl⟩ := grid_at (HGG1.out.keep hB) hfr
    have hto' : ob < (turnN (tidyN g)).length := by rw [turnN_len]; exact hto
    obtain ⟨As, ms, sa, sl⟩ := grid_at (HG2.out.keep hB) hto'
    have hfl : fr < (tidyN g).length := hfr
    have htl : ob < (tidyN g).length := hto
    have HKo := Lib.hid hbc
    have hbl := hB.size
    have hel' := hbe.lt
    have HPC := Lib.hid hpc
    have HB2' := Lib.hid hb2
    have HBE := Lib.hid hbe
    have HBB := Lib.hid hB
    have HHIT := fun h => @critAt_hit (tidyN g) (pre.map (·.1)) (fr, ob) h
    have HMISS := fun h => @critAt_miss (tidyN g) (pre.map (·.1)) (fr, ob) h
    have HHIT := Lib.hid HHIT
    have HMISS := Lib.hid HMISS
    have HMP := Lib.hid (show (pre ++ [(⟨(fr, ob), hfr, hto⟩ : Ed (tidyN g).length)]).map (·.1) = pre.map (·.1) ++ [(fr, ob)] from List.map_append)
    have HCB := Lib.hid (show critB (tidyN g) (fr, ob) = (decide (1 < ((tidyN g).getD fr []).length) && decide (1 < ((turnN (tidyN g)).getD ob []).length)) from rfl)
    generalize ((tidyN g).getD fr []).length = n1 at *
    generalize ((turnN (tidyN g)).getD ob []).length = n2 at *
    clear hpc hbc hb2 hbe hB
    by_cases h1 : 1 < n1
    · by_cases h2 : 1 < n2
      · have HC := Lib.hid (HHIT.out (by rw [HCB.out]; simp; omega))
        have hne1 := Boxed.not_row HKo.out (by decide) HPC.out
        have hne2 := Boxed.not_row HB2'.out (by decide) HPC.out
        have hne3 := Boxed.not_row HBE.out (by decide) HPC.out
        have HN1 := Lib.hid hne1
        have HN2 := Lib.hid hne2
        have HN3 := Lib.hid hne3
        clear hne1 hne2 hne3
        gi_wp2_with (gi_at_builtin; refine wpListIn_append2 rfl _ _ 53 rfl w2.heap.size 52 i0 (.agg #[.int .i64 0, .int .i64 0]) 16 Try.underlying53 HI.out HZ0.out HZ1.out HZ2.out rfl _ _ _ rfl (World.ownsRow.alloc HPC.out _) W.heap.size (.int .i64 (fr : Int)) (.int .i64 (ob : Int)) rfl (by simp) (by simp) rfl rfl (by omega) (by omega) (by simp; omega) ?_)
        intro v' w3 hown' hgrow
        have hA : Below W.heap.size W (W.alloc (.cells #[.int .i64 (fr : Int), .int .i64 (ob : Int)] 52)) := (Below.refl _ _).alloc (Nat.le_refl _) _
        have hb5 : Boxed w3 (w2.heap.size + 1) 53 vc := Boxed.kept (W := W.alloc (.cells #[.int .i64 (fr : Int), .int .i64 (ob : Int)] 52)) (HKo.out.alloc _) hgrow HN1.out
        have hb6 : Boxed w3 w2.heap.size 59 _ := Boxed.kept (W := W.alloc (.cells #[.int .i64 (fr : Int), .int .i64 (ob : Int)] 52)) (HB2'.out.alloc _) hgrow HN2.out
        have hb7 : Boxed w3 (w2.heap.size + 2) 59 _ := Boxed.kept (W := W.alloc (.cells #[.int .i64 (fr : Int), .int .i64 (ob : Int)] 52)) (HBE.out.alloc _) hgrow HN3.out
        have k5 := hb5.cell
        have f5 := hb5.frozen
        obtain ⟨A', c', rfl⟩ := own_form hown'
        have hlow := World.ownsRow.lt HPC.out
        have hbx := hb5.set (.slice A' ((critAt (tidyN g) (pre.map (·.1))).length + 1) c')
        have HX5 := Lib.hid hbx
        have HX6 := Lib.hid hb6
        have HX7 := Lib.hid hb7
        have hp3 : w3.ownsRow w2.heap.size 52 2 (.slice A' ((critAt (tidyN g) (pre.map (·.1))).length + 1) c') (critAt (tidyN g) ((pre ++ [(⟨(fr, ob), hfr, hto⟩ : Ed (tidyN g).length)]).map (·.1))).length (((critAt (tidyN g) ((pre ++ [(⟨(fr, ob), hfr, hto⟩ : Ed (tidyN g).length)]).map (·.1)))).map rg).flatten := by
          rw [HMP.out, HC.out, List.length_append, List.map_append, List.flatten_append]
          exact hown'
        have HP3 := Lib.hid (show OwnPairs w2.heap.size (w3.setCell ⟨w2.heap.size + 1, 0, none⟩ (.slice A' ((critAt (tidyN g) (pre.map (·.1))).length + 1) c')) (.slice A' ((critAt (tidyN g) (pre.map (·.1))).length + 1) c') (critAt (tidyN g) ((pre ++ [(⟨(fr, ob), hfr, hto⟩ : Ed (tidyN g).length)]).map (·.1))) from
          World.ownsRow.kept hp3 (setCell_grownBy w3 _ _) (Or.inr fun e => Boxed.not_row hb5 (by decide) hp3 e.symm))
        have HKO := Lib.hid ((KeepsOthers.alloc W (.cells #[.int .i64 (fr : Int), .int .i64 (ob : Int)] 52)).trans ((KeepsOthers.of_grownBy hgrow (own_isCells (World.ownsRow.alloc HPC.out _))).trans (KeepsOthers.setCell w3 ⟨w2.heap.size + 1, 0, none⟩ (.slice A' ((critAt (tidyN g) (pre.map (·.1))).length + 1) c'))))
        have HB3 := Lib.hid ((((HBB.out.alloc hbl (.cells #[.int .i64 (fr : Int), .int .i64 (ob : Int)] 52))).grown hgrow (by simp; omega) (fun i hi => (hlow i hi).1)).setCell (p := ⟨w2.heap.size + 1, 0, none⟩) (Nat.le_succ _) (.slice A' ((critAt (tidyN g) (pre.map (·.1))).length + 1) c'))
        have HKp := Lib.hid (show Kept w2.heap.size (w2.heap.size + 2) W (w3.setCell ⟨w2.heap.size + 1, 0, none⟩ (.slice A' ((critAt (tidyN g) (pre.map (·.1))).length + 1) c')) from fun k hk => by
          have hkl : k < W.heap.size := by rcases hk with hk | hk <;> omega
          rw [Below.heap_setCell _ _ _ _ (by show k ≠ w2.heap.size + 1; rcases hk with hk | hk <;> omega), hgrow.block k (by simp; omega) (fun e => by
            rcases hk with hk | hk
            · have := hlow k e.symm; omega
            · exact HN3.out (by rw [← hk]; exact e))]
          exact Below.heap_alloc _ _ _ hkl)
        clear hown' hgrow hb5 hb6 hb7 hlow hbx hp3
        gi_wp2
        exact ⟨HKO.out, HKp.out, ⟨⟨_, HP3.out, HX5.out⟩, (Below.heap_setCell _ _ _ _ (by show w2.heap.size ≠ w2.heap.size + 1; omega)).trans HX6.out, (Below.heap_setCell _ _ _ _ (by show w2.heap.size + 2 ≠ w2.heap.size + 1; omega)).trans HX7.out⟩, HB3.out⟩
      · have HC := Lib.hid (HMISS.out (by rw [HCB.out]; simp; omega))
        gi_wp2
        all_goals first
          | (exfalso; omega)
          | exact ⟨KeepsOthers.refl _, Kept.refl _ _ _, ⟨⟨vc, by rw [HMP.out, HC.out]; exact HPC.out, HKo.out⟩, HB2'.out, HBE.out⟩, HBB.out⟩
    · have HC := Lib.hid (HMISS.out (by rw [HCB.out]; simp; omega))
      gi_wp2
      exact ⟨KeepsOthers.refl _, Kept.refl _ _ _, ⟨⟨vc, by rw [HMP.out, HC.out]; exact HPC.out, HKo.out⟩, HB2'.out, HBE.out⟩, HBB.out⟩
  case done =>
    rintro D xs W hD hxs ⟨⟨⟨vc, hpc, hbc⟩, hb2, hbe⟩, hB⟩ hK
    rw [hxs] at hpc
    have k3 := hbc.cell
    obtain ⟨Av, cv, rfl⟩ := own_form hpc
    have HPC := Lib.hid (show OwnPairs w2.heap.size W _ ((criticalN (tidyN g)).map pr) from hpc)
    have HK := Lib.hid hK
    have HBB := Lib.hid hB
    clear hpc hbc hb2 hbe hB hK hxs
    gi_wp2
    refine ⟨by simp, .inl ⟨_, _, rfl, run_takeDeferred HK.out, ?_⟩⟩
    refine ⟨_, results_tmp rfl _ _ _, _, rfl, ?_, (HBw.out.trans (HBB.out.mono hwz)).trans (belowK_b (w := w) (Nat.le_refl _) W D _ _ (by omega) HK.out rfl rfl)⟩
    exact World.ownsRow.kept (own_base HPC.out hwz) (grownBy_putObj' W D (.deferred none)) (own_cells HPC.out (fun r e => by cases e; exact ⟨_, HK.out, rfl⟩))
  case stop =>
    rintro D c pre W _ _ h _
    exact h.elim
end Go.Proofs.Ythanbedmiaacdaa.Gc
