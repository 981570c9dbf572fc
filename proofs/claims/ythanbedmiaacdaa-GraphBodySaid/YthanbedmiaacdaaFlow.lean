/- What package graph's flowOf answers. -/
import Derived.Test.YthanbedmiaacdaaThose
import Derived.Test.YthanbedmiaacdaaIdomC
namespace Go.Proofs.Ythanbedmiaacdaa.Gc
open Go.ChangeShapes Go.WideShapes Go.ChangeAt Go.RowKit Go.Shelf Go.Proofs.Ythanbedmiaacdaa.Mem Go.Proofs.Ythanbedmiaacdaa.Gr Go.Proofs.Ythanbedmiaacdaa.Gn Go.Proofs.Ythanbedmiaacdaa.Br Go.Proofs.Ythanbedmiaacdaa.Rp
set_option linter.unusedVariables false

theorem domTo_len (s : St) (half : List Nat) : ∀ j, (domTo s half j).2.length = s.number.length
  | 0 => by unfold domTo; simp
  | j + 1 => by rw [domTo_succ]; show ((domTo s half j).2.set _ _).length = _; rw [List.length_set]; exact domTo_len s half j
theorem idomN_len (T : G) : (idomN T).length = (walkN T).number.length := domTo_len _ _ _
theorem ints_form {w : World} {v : Value} {l : List Int} (h : Ints w v l) : ∃ A n c, v = .slice A n c := by
  obtain ⟨A, c, e, _⟩ := h; exact ⟨A, _, c, e⟩
/-- A row of spans in memory, to be read. -/
def Ranges (w : World) (v : Value) (l : List (Int × Int)) : Prop :=
  ∃ A c, v = .slice A l.length c ∧ l.length ≤ c ∧ c ≤ maxLen ∧ ∀ j (h : j < l.length), ∃ g, A = some ⟨g, 0, none⟩ ∧ w.cell? ⟨g, j * 2, none⟩ = some (.int .i64 l[j].1) ∧ w.cell? ⟨g, j * 2 + 1, none⟩ = some (.int .i64 l[j].2)
theorem ranges_of {B : Nat} {w : World} {v : Value} {l : List (Int × Int)} (h : OwnRanges B w v l) : Ranges w v l := by
  rcases h.2 with ⟨rfl, h0⟩ | ⟨g, cap, cur, rfl, hg, hh, h1, h2, h3, h4⟩
  · exact ⟨none, 0, by rw [h0], by omega, Nat.zero_le _, fun j hj => by omega⟩
  · refine ⟨_, _, rfl, by omega, by omega, fun j hj => ⟨g, rfl, ?_⟩⟩
    have hc := OwnRanges.cells h hj
    exact hc.1
theorem Ranges.keep {w w' : World} {v : Value} {l : List (Int × Int)} (h : Ranges w v l) (hb : Below w.heap.size w w') : Ranges w' v l := by
  obtain ⟨A, c, e, h1, h2, h3⟩ := h
  refine ⟨A, c, e, h1, h2, fun j hj => ?_⟩
  obtain ⟨g, hA, a1, a2⟩ := h3 j hj
  exact ⟨g, hA, cell_keep hb (Nat.le_refl _) a1, cell_keep hb (Nat.le_refl _) a2⟩
/-- What is no number, in whatever cell. -/
def NoInts (w : World) (x : Nat) : Prop := ∀ (p : Addr) (n : Int), p.block = x → w.cell? p ≠ some (.int .i64 n)
theorem noInts_str {w : World} {x : Nat} {t : TypeId} {vs : List Value} (h : Str w x t vs) (hv : ∀ u ∈ vs, ∃ A n c, u = .slice A n c) : NoInts w x := by
  intro p n hp hc
  have : vs[p.off]? = some (.int .i64 n) := by
    obtain ⟨b, o, q⟩ := p
    simp only at hp
    subst hp
    cases q with
    | none => rw [← hc]; simp [World.cell?, show w.heap[b]? = _ from h]
    | some s => simp [World.cell?, show w.heap[b]? = _ from h] at hc
  obtain ⟨A, m, c, e⟩ := hv _ (List.mem_of_getElem? this)
  cases e
theorem ints_two {w w' : World} {v : Value} {l : List Int} {x y : Nat} (h : Ints w v l) (hx : NoInts w x) (hy : NoInts w y) (hk : ∀ k, k < w.heap.size → k ≠ x → k ≠ y → w'.heap[k]? = w.heap[k]?) : Ints w' v l := by
  obtain ⟨A, c, hv, h1, h2, h3⟩ := h
  refine ⟨A, c, hv, h1, h2, fun k hk' => ?_⟩
  obtain ⟨ad, e, hc⟩ := h3 k hk'
  refine ⟨ad, e, ?_⟩
  rw [World.cell?_of_block (w := w) (hk _ (lt_of_cell hc) (fun e' => hx _ _ e' hc) (fun e' => hy _ _ e' hc))]
  exact hc
theorem grid_two {w w' : World} {b n c : Nat} {g : List (List Int)} {x y : Nat} (h : Grid w (.slice (some ⟨b, 0, none⟩) n c) g) (hx : NoInts w x) (hy : NoInts w y) (hbx : b ≠ x) (hby : b ≠ y) (hk : ∀ k, k < w.heap.size → k ≠ x → k ≠ y → w'.heap[k]? = w.heap[k]?) :
    Grid w' (.slice (some ⟨b, 0, none⟩) n c) g := by
  obtain ⟨A, c', hv, h1, h2, h3⟩ := h
  injection hv with e1 e2 e3
  subst e1
  subst e3
  refine ⟨_, _, by rw [e2], h1, h2, fun k hk' => ?_⟩
  obtain ⟨ad, u, e, hc, hu⟩ := h3 k hk'
  injection e with e
  subst e
  refine ⟨_, u, rfl, ?_, ints_two hu hx hy hk⟩
  rw [World.cell?_of_block (w := w) (hk _ (lt_of_cell hc) (by rw [block_add]; exact hbx) (by rw [block_add]; exact hby))]
  exact hc
theorem Ranges.two {w w' : World} {v : Value} {l : List (Int × Int)} {x y : Nat} (h : Ranges w v l) (hx : NoInts w x) (hy : NoInts w y) (hk : ∀ k, k < w.heap.size → k ≠ x → k ≠ y → w'.heap[k]? = w.heap[k]?) : Ranges w' v l := by
  obtain ⟨A, c, e, h1, h2, h3⟩ := h
  refine ⟨A, c, e, h1, h2, fun j hj => ?_⟩
  obtain ⟨g, hA, a1, a2⟩ := h3 j hj
  refine ⟨g, hA, ?_, ?_⟩
  · rw [World.cell?_of_block (w := w) (hk _ (lt_of_cell a1) (fun e' => hx _ _ e' a1) (fun e' => hy _ _ e' a1))]; exact a1
  · rw [World.cell?_of_block (w := w) (hk _ (lt_of_cell a2) (fun e' => hx _ _ e' a2) (fun e' => hy _ _ e' a2))]; exact a2
/-- A flow in memory, to be read. -/
structure ReadFlow (w : World) (x : Value) (T : G) : Prop where
  is : ∃ vc vl vn vp b1 b3 vs, x = .agg #[vc, vl, vn, vp, .slice (some ⟨b1, 0, none⟩) T.length T.length, .slice (some ⟨b3, 0, none⟩) T.length T.length, vs] ∧ ReadWalk w vc vl vn vp (walkN T) ∧
    Grid w (.slice (some ⟨b1, 0, none⟩) T.length T.length) (lii T) ∧ Grid w (.slice (some ⟨b3, 0, none⟩) T.length T.length) (lii (turnN T)) ∧ Ranges w vs (spansOf T)
theorem ReadFlow.keep {w w' : World} {x : Value} {T : G} (h : ReadFlow w x T) (hb : Below w.heap.size w w') : ReadFlow w' x T := by
  obtain ⟨vc, vl, vn, vp, b1, b3, vs, e, h1, h2, h3, h4⟩ := h.is
  exact ⟨vc, vl, vn, vp, b1, b3, vs, e, h1.keep hb, h2.keep hb, h3.keep hb, h4.keep hb⟩
/-- What flowOf asks of a graph: that its spans stay small. -/
abbrev Spans (T : G) : Prop := Spanned (walkN T).came (idomN T)
set_option maxRecDepth 100000 in
set_option maxHeartbeats 4000000 in
theorem flow_any (w : World) (v : Value) (g : List (List Int)) (hg : Grid w v g) (hs : Small g) (hsp : Spanned (walkN (tidyN g)).came (idomN (tidyN g))) :
    Calls Try.prog 49 #[v] w fun e w' => ∃ x, e = .returned x ∧ ReadFlow w' x (tidyN g) ∧ Below w.heap.size w w' := by
  have HG := Lib.hid hg
  have HS := Lib.hid hs
  have HSP := Lib.hid hsp
  clear hg hs hsp
  go_enter Try.func49, Try.ntmps49
  go_wp2_with fail
  obtain ⟨W1, hW1⟩ : ∃ W1, w.alloc (.cells #[.slice none 0 0, .slice none 0 0, .slice none 0 0, .slice none 0 0, .slice none 0 0, .slice none 0 0, .slice none 0 0] 70) = W1 := ⟨_, rfl⟩
  rw [hW1]
  have hB0 : Below w.heap.size w W1 := by rw [← hW1]; exact (Below.refl _ _).alloc (Nat.le_refl _) _
  have hs1 : Str W1 w.heap.size 70 [.slice none 0 0, .slice none 0 0, .slice none 0 0, .slice none 0 0, .slice none 0 0, .slice none 0 0, .slice none 0 0] := by rw [← hW1]; exact World.alloc_heap_new w _
  have hz1 : w.heap.size < W1.heap.size := by rw [← hW1]; simp
  clear hW1
  have HS1 := Lib.hid hs1
  clear hs1
  refine (tidy_any _ _ g (HG.out.keep hB0) HS.out).mono ?_
  rintro e w1 ⟨b1, rfl, hO1, hB1⟩
  have HO1 := Lib.hid hO1
  have HB1 := Lib.hid hB1
  have hg1 := hO1.grid.grid
  rw [lii_len] at hg1
  have HG1 := Lib.hid hg1
  clear hO1 hB1 hg1
  go_wp2_with fail
  refine (walk_any _ _ (tidyN g) HG1.out (tidyN_ok g) (tidyN_small HS.out.1)).mono ?_
  rintro e w2 ⟨u, rfl, hw, hB2⟩
  obtain ⟨vc, vl, vn, vp, rfl, hr⟩ := OwnWalk.read hw
  obtain ⟨Ac, nc, cc, rfl⟩ := ints_form hr.came
  obtain ⟨Al, nl, cl, rfl⟩ := ints_form hr.left
  obtain ⟨An, nn, cn, rfl⟩ := ints_form hr.number
  obtain ⟨Ap, np, cp, rfl⟩ := ints_form hr.parent
  have HW := Lib.hid hr
  have HB2 := Lib.hid hB2
  clear hw hB2 hr
  go_wp2_with fail
  refine (turned_any _ _ (tidyN g) (HG1.out.keep HB2.out) (tidyN_ok g) (tidyN_small HS.out.1)).mono ?_
  rintro e w3 ⟨b3, rfl, hO3, hB3⟩
  rw [turnN_len]
  have hg3 := hO3.grid.grid
  rw [lii_len, turnN_len] at hg3
  have HG3 := Lib.hid hg3
  have HB3 := Lib.hid hB3
  have HO3 := Lib.hid hO3
  clear hO3 hB3 hg3
  go_upto_region 3 with (fail)
  obtain ⟨W4, hW4⟩ : ∃ W4, w3.alloc (.cells #[.slice Ac nc cc, .slice Al nl cl, .slice An nn cn, .slice Ap np cp, .slice (some ⟨b1, 0, none⟩) (tidyN g).length (tidyN g).length, .slice (some ⟨b3, 0, none⟩) (tidyN g).length (tidyN g).length, .slice none 0 0] 70) = W4 := ⟨_, rfl⟩
  rw [hW4]
  have hB4 : Below w3.heap.size w3 W4 := by rw [← hW4]; exact (Below.refl _ _).alloc (Nat.le_refl _) _
  have hs4 : Str W4 w3.heap.size 70 [.slice Ac nc cc, .slice Al nl cl, .slice An nn cn, .slice Ap np cp, .slice (some ⟨b1, 0, none⟩) (tidyN g).length (tidyN g).length, .slice (some ⟨b3, 0, none⟩) (tidyN g).length (tidyN g).length, .slice none 0 0] := by rw [← hW4]; exact World.alloc_heap_new w3 _
  have hz4 : w3.heap.size < W4.heap.size := by rw [← hW4]; simp
  clear hW4
  have p0 : W4.cell? ⟨w3.heap.size, 0, none⟩ = some (.slice Ac nc cc) := hs4.cell 0
  have p1 : W4.cell? ⟨w3.heap.size, 1, none⟩ = some (.slice Al nl cl) := hs4.cell 1
  have p2 : W4.cell? ⟨w3.heap.size, 2, none⟩ = some (.slice An nn cn) := hs4.cell 2
  have p3 : W4.cell? ⟨w3.heap.size, 3, none⟩ = some (.slice Ap np cp) := hs4.cell 3
  have p5 : W4.cell? ⟨w3.heap.size, 5, none⟩ = some (.slice (some ⟨b3, 0, none⟩) (tidyN g).length (tidyN g).length) := hs4.cell 5
  have HS4 := Lib.hid hs4
  have HB4 := Lib.hid hB4
  clear hs4 hB4
  refine region_held_wp (fun w' => w'.cell? ⟨w3.heap.size, 0, none⟩ = some (.slice Ac nc cc) ∧ w'.cell? ⟨w3.heap.size, 1, none⟩ = some (.slice Al nl cl) ∧ w'.cell? ⟨w3.heap.size, 2, none⟩ = some (.slice An nn cn) ∧ w'.cell? ⟨w3.heap.size, 3, none⟩ = some (.slice Ap np cp) ∧ w'.cell? ⟨w3.heap.size, 5, none⟩ = some (.slice (some ⟨b3, 0, none⟩) (tidyN g).length (tidyN g).length)) [0, 1, 2, 3, 4, 5, 6, 9] [0, 1, 2, 3, 4, 5, 6, 7, 8, 9, 10] (by kernel_rfl) (by kernel_rfl) (by kernel_rfl) rfl (by intro c a d v w h; cases d <;> exact h) ⟨p0, p1, p2, p3, p5⟩ ?_
  refine walkH_still _ ?f0 rfl rfl rfl ?fy0 ?_
  case fy0 => intro w hS; go_simp; first | done | with_reducible rfl
  simp only [Act.put]
  refine walkH_still _ ?f1 rfl rfl rfl ?fy1 ?_
  case fy1 => intro w hS; go_simp; first | done | with_reducible rfl
  simp only [Act.put]
  refine walkH_still _ ?f2 rfl rfl rfl ?fy2 ?_
  case fy2 => intro w hS; go_simp; first | done | with_reducible rfl
  simp only [Act.put]
  refine walkH_still _ ?f3 rfl rfl rfl ?fy3 ?_
  case fy3 => intro w hS; go_simp; first | done | with_reducible rfl
  simp only [Act.put]
  refine walkH_still _ ?f4 rfl rfl rfl ?fy4 ?_
  case fy4 => intro w hS; go_simp; first | done | with_reducible rfl
  simp only [Act.put]
  refine walkH_still _ ?f5 rfl rfl rfl ?fy5 ?_
  case fy5 => intro w hS; go_simp; first | done | with_reducible rfl
  simp only [Act.put]
  refine walkH_still _ ?f6 rfl rfl rfl ?fy6 ?_
  case fy6 => intro w hS; go_simp; first | done | with_reducible rfl
  simp only [Act.put]
  simp only [List.setIfInBounds_toArray, List.set_cons_zero, List.set_cons_succ]
  refine walkH_does _ rfl rfl ?_
  go_wp2_with fail
  refine (walk_dominators W4.drew w2 _ b3 (tidyN g) (tidyN_neat g) (by rw [tidyN_len]; exact HS.out.1) ⟨_, _, _, _, rfl, (HW.out.keep HB3.out).keep HB4.out.drew⟩ (HG3.out.keep HB4.out.drew)).mono ?_
  rintro e w5 ⟨v5, rfl, ho5, hB5'⟩
  have hB5 : Below W4.heap.size W4 w5 := (Below.refl _ W4).drew.trans hB5'
  have hs5 : Str w5 w3.heap.size 70 _ := HS4.out.below hB5
  have q0 : w5.cell? ⟨w3.heap.size, 0, none⟩ = some (.slice Ac nc cc) := hs5.cell 0
  have q1 : w5.cell? ⟨w3.heap.size, 1, none⟩ = some (.slice Al nl cl) := hs5.cell 1
  have q2 : w5.cell? ⟨w3.heap.size, 2, none⟩ = some (.slice An nn cn) := hs5.cell 2
  have q3 : w5.cell? ⟨w3.heap.size, 3, none⟩ = some (.slice Ap np cp) := hs5.cell 3
  have q5 : w5.cell? ⟨w3.heap.size, 5, none⟩ = some (.slice (some ⟨b3, 0, none⟩) (tidyN g).length (tidyN g).length) := hs5.cell 5
  have hi5 := ho5.ints
  obtain ⟨A5, n5, c5, rfl⟩ := ints_form hi5
  have HB5 := Lib.hid hB5
  have HS5 := Lib.hid hs5
  have HI5 := Lib.hid hi5
  clear hB5 hB5' ho5 hs5 hi5
  go_wp2
  refine walkH_does _ rfl rfl ?_
  go_wp2_with fail
  have hcl : (walkN (tidyN g)).came.length ≤ 1000 := by have := (walk_inv (tidyN_ok g)).came; have := tidyN_len g; have := HS.out.1; omega
  refine (spans_any w5 _ _ _ _ (((HW.out.came.keep HB3.out).keep HB4.out).keep HB5.out) HI5.out HSP.out (by rw [idomN_len, (walk_inv (tidyN_ok g)).number, tidyN_len]; exact HS.out.1) hcl).mono ?_
  rintro e w6 ⟨v6, rfl, ho6, hB6⟩
  obtain ⟨A6, c6, rfl⟩ := own_form ho6
  generalize hnx : (spansN (walkN (tidyN g)).came (idomN (tidyN g))).length = nx at *
  have HNX := Lib.hid hnx
  clear hnx
  have hs6 := HS5.out.below hB6
  have HO6 := Lib.hid ho6
  have HB6 := Lib.hid hB6
  have HS6 := Lib.hid hs6
  have q0 : w6.cell? ⟨w3.heap.size, 0, none⟩ = some (.slice Ac nc cc) := hs6.cell 0
  have q1 : w6.cell? ⟨w3.heap.size, 1, none⟩ = some (.slice Al nl cl) := hs6.cell 1
  have q2 : w6.cell? ⟨w3.heap.size, 2, none⟩ = some (.slice An nn cn) := hs6.cell 2
  have q3 : w6.cell? ⟨w3.heap.size, 3, none⟩ = some (.slice Ap np cp) := hs6.cell 3
  have q5 : w6.cell? ⟨w3.heap.size, 5, none⟩ = some (.slice (some ⟨b3, 0, none⟩) (tidyN g).length (tidyN g).length) := hs6.cell 5
  have q6 : w6.cell? ⟨w3.heap.size, 6, none⟩ = some (.slice none 0 0) := hs6.cell 6
  have q4 : w6.cell? ⟨w3.heap.size, 4, none⟩ = some (.slice (some ⟨b1, 0, none⟩) (tidyN g).length (tidyN g).length) := hs6.cell 4
  have qf := hs6.frozen 6
  have hz1' := HB1.out.size
  have hz2' := HB2.out.size
  have hz3' := HB3.out.size
  have hz5' := HB5.out.size
  have hB16 : Below W1.heap.size W1 w6 := (((HB1.out.trans (HB2.out.mono hz1')).trans (HB3.out.mono (by omega))).trans (HB4.out.mono (by omega))).trans ((HB5.out.mono (by omega)).trans (hB6.mono (by omega)))
  have hr6 := HS1.out.below hB16
  have r0 : w6.cell? ⟨w.heap.size, 0, none⟩ = some (.slice none 0 0) := hr6.cell 0
  have r1 : w6.cell? ⟨w.heap.size, 1, none⟩ = some (.slice none 0 0) := hr6.cell 1
  have r2 : w6.cell? ⟨w.heap.size, 2, none⟩ = some (.slice none 0 0) := hr6.cell 2
  have r3 : w6.cell? ⟨w.heap.size, 3, none⟩ = some (.slice none 0 0) := hr6.cell 3
  have r4 : w6.cell? ⟨w.heap.size, 4, none⟩ = some (.slice none 0 0) := hr6.cell 4
  have r5 : w6.cell? ⟨w.heap.size, 5, none⟩ = some (.slice none 0 0) := hr6.cell 5
  have r6 : w6.cell? ⟨w.heap.size, 6, none⟩ = some (.slice none 0 0) := hr6.cell 6
  have f0 := hr6.frozen 0
  have f1 := hr6.frozen 1
  have f2 := hr6.frozen 2
  have f3 := hr6.frozen 3
  have f4 := hr6.frozen 4
  have f5 := hr6.frozen 5
  have f6 := hr6.frozen 6
  have hne : w.heap.size ≠ w3.heap.size := by omega
  have hne2 : w3.heap.size ≠ w.heap.size := by omega
  have HR6 := Lib.hid hr6
  have HB16 := Lib.hid hB16
  clear hr6 hB16
  clear ho6 hB6 hs6
  go_wp2
  refine walkH_still _ ?f9 rfl rfl rfl ?fy9 ?_
  case fy9 => intro w hS; go_simp; first | done | with_reducible rfl
  simp only [Act.put]
  simp only [List.setIfInBounds_toArray, List.set_cons_zero, List.set_cons_succ]
  refine walkH_does _ rfl rfl ?_
  go_wp2
  refine walkH_nil ?_
  go_wp2
  have hlt1 := HO1.out.lt
  have e0 := HR6.out.set 0 (.slice Ac nc cc)
  clear q0 q1 q2 q3 q4 q5 q6 qf r0 r1 r2 r3 r4 r5 r6 f0 f1 f2 f3 f4 f5 f6
  have HR7 := ((((((Str.kept HR6.out (setCell_grownBy w6 ⟨w3.heap.size, 6, none⟩ (.slice A6 nx c6)) (fun e => by injection e with e; exact hne e)).set 0 (.slice Ac nc cc)).set 1 (.slice Al nl cl)).set 2 (.slice An nn cn)).set 3 (.slice Ap np cp)).set 4 (.slice (some ⟨b1, 0, none⟩) (tidyN g).length (tidyN g).length)).set 5 (.slice (some ⟨b3, 0, none⟩) (tidyN g).length (tidyN g).length)
  have HR8 := HR7.set 6 (.slice A6 nx c6)
  clear HR7 e0
  have hk : ∀ k, k < w6.heap.size → k ≠ w3.heap.size → k ≠ w.heap.size → ((((((((w6.setCell ⟨w3.heap.size, 6, none⟩ (.slice A6 nx c6)).setCell ⟨w.heap.size, 0, none⟩ (.slice Ac nc cc)).setCell ⟨w.heap.size, 1, none⟩ (.slice Al nl cl)).setCell ⟨w.heap.size, 2, none⟩ (.slice An nn cn)).setCell ⟨w.heap.size, 3, none⟩ (.slice Ap np cp)).setCell ⟨w.heap.size, 4, none⟩ (.slice (some ⟨b1, 0, none⟩) (tidyN g).length (tidyN g).length)).setCell ⟨w.heap.size, 5, none⟩ (.slice (some ⟨b3, 0, none⟩) (tidyN g).length (tidyN g).length)).setCell ⟨w.heap.size, 6, none⟩ (.slice A6 nx c6)).heap[k]? = w6.heap[k]? := by
    intro k _ h3 h0
    rw [Below.heap_setCell _ _ _ _ h0, Below.heap_setCell _ _ _ _ h0, Below.heap_setCell _ _ _ _ h0, Below.heap_setCell _ _ _ _ h0, Below.heap_setCell _ _ _ _ h0, Below.heap_setCell _ _ _ _ h0, Below.heap_setCell _ _ _ _ h0, Below.heap_setCell _ _ _ _ h3]
  have hb : Below w.heap.size w ((((((((w6.setCell ⟨w3.heap.size, 6, none⟩ (.slice A6 nx c6)).setCell ⟨w.heap.size, 0, none⟩ (.slice Ac nc cc)).setCell ⟨w.heap.size, 1, none⟩ (.slice Al nl cl)).setCell ⟨w.heap.size, 2, none⟩ (.slice An nn cn)).setCell ⟨w.heap.size, 3, none⟩ (.slice Ap np cp)).setCell ⟨w.heap.size, 4, none⟩ (.slice (some ⟨b1, 0, none⟩) (tidyN g).length (tidyN g).length)).setCell ⟨w.heap.size, 5, none⟩ (.slice (some ⟨b3, 0, none⟩) (tidyN g).length (tidyN g).length)).setCell ⟨w.heap.size, 6, none⟩ (.slice A6 nx c6)) :=
    ((((((((hB0.trans (HB16.out.mono (Nat.le_of_lt hz1))).setCell (p := ⟨w3.heap.size, 6, none⟩) (by show w.heap.size ≤ w3.heap.size; omega) _).setCell (p := ⟨w.heap.size, 0, none⟩) (Nat.le_refl _) _).setCell (p := ⟨w.heap.size, 1, none⟩) (Nat.le_refl _) _).setCell (p := ⟨w.heap.size, 2, none⟩) (Nat.le_refl _) _).setCell (p := ⟨w.heap.size, 3, none⟩) (Nat.le_refl _) _).setCell (p := ⟨w.heap.size, 4, none⟩) (Nat.le_refl _) _).setCell (p := ⟨w.heap.size, 5, none⟩) (Nat.le_refl _) _).setCell (p := ⟨w.heap.size, 6, none⟩) (Nat.le_refl _) _
  generalize (((((((w6.setCell ⟨w3.heap.size, 6, none⟩ (.slice A6 nx c6)).setCell ⟨w.heap.size, 0, none⟩ (.slice Ac nc cc)).setCell ⟨w.heap.size, 1, none⟩ (.slice Al nl cl)).setCell ⟨w.heap.size, 2, none⟩ (.slice An nn cn)).setCell ⟨w.heap.size, 3, none⟩ (.slice Ap np cp)).setCell ⟨w.heap.size, 4, none⟩ (.slice (some ⟨b1, 0, none⟩) (tidyN g).length (tidyN g).length)).setCell ⟨w.heap.size, 5, none⟩ (.slice (some ⟨b3, 0, none⟩) (tidyN g).length (tidyN g).length)).setCell ⟨w.heap.size, 6, none⟩ (.slice A6 nx c6) = w7 at *
  have hx3 : NoInts w6 w3.heap.size := noInts_str HS6.out (by intro u hu; simp only [List.mem_cons, List.not_mem_nil, or_false] at hu; rcases hu with rfl | rfl | rfl | rfl | rfl | rfl | rfl <;> exact ⟨_, _, _, rfl⟩)
  have hx0 : NoInts w6 w.heap.size := noInts_str HR6.out (by intro u hu; simp only [List.mem_cons, List.not_mem_nil, or_false] at hu; rcases hu with rfl | rfl | rfl | rfl | rfl | rfl | rfl <;> exact ⟨_, _, _, rfl⟩)
  have i0 := HR8.cell 0
  have i1 := HR8.cell 1
  have i2 := HR8.cell 2
  have i3 := HR8.cell 3
  have i4 := HR8.cell 4
  have i5 := HR8.cell 5
  have i6 := HR8.cell 6
  have hr6 := (((HW.out.keep HB3.out).keep HB4.out).keep HB5.out).keep HB6.out
  have hg6 := ((((HG1.out.keep HB2.out).keep HB3.out).keep HB4.out).keep HB5.out).keep HB6.out
  have hp6 := ((HG3.out.keep HB4.out).keep HB5.out).keep HB6.out
  have hs6 : Ranges w6 (.slice A6 nx c6) (spansOf (tidyN g)) := ranges_of HO6.out
  have hl3 := HO3.out.lt
  refine bodyPost_ret (v := .agg #[.slice Ac nc cc, .slice Al nl cl, .slice An nn cn, .slice Ap np cp, .slice (some ⟨b1, 0, none⟩) (tidyN g).length (tidyN g).length, .slice (some ⟨b3, 0, none⟩) (tidyN g).length (tidyN g).length, .slice A6 nx c6]) (by simp [results, Try.f49, go_sem, i0, i1, i2, i3, i4, i5, i6]) rfl ⟨_, rfl, ⟨_, _, _, _, _, _, _, rfl, ?_, ?_, ?_, ?_⟩, hb⟩
  · exact ⟨ints_two hr6.came hx3 hx0 hk, ints_two hr6.left hx3 hx0 hk, ints_two hr6.number hx3 hx0 hk, ints_two hr6.parent hx3 hx0 hk⟩
  · exact grid_two hg6 hx3 hx0 (by omega) (by omega) hk
  · exact grid_two hp6 hx3 hx0 (by omega) (by omega) hk
  · exact hs6.two hx3 hx0 hk
end Go.Proofs.Ythanbedmiaacdaa.Gc
