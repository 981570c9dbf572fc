/- What the closure visit of package graph's walk does: it goes over all that is reached, depth first. -/
import Derived.Test.YtonheiaohgbbcaaGreatVisitP
import Derived.Test.YtonheiaohgbbcaaGreatStruct
import Derived.Deep.Cut
namespace Go.Proofs.YtonheiaohgbbcaaGreat.Gc
open Go.ChangeShapes Go.WideShapes Go.ChangeAt Go.RowKit Go.Proofs.YtonheiaohgbbcaaGreat.Mem Go.Proofs.YtonheiaohgbbcaaGreat.Gr Go.Proofs.YtonheiaohgbbcaaGreat.Gn
set_option linter.unusedVariables false
theorem list_set_same {α : Type} {l : List α} {i : Nat} {x : α} (h : l[i]? = some x) : l.set i x = l := by
  obtain ⟨hi, e⟩ := List.getElem?_eq_some_iff.1 h
  rw [← e]; exact set_same hi

/-- Where the walk's variables lie: the walk itself at wb, its rows in blocks of their own; the graph's box at gb, the closure's at vb. -/
structure Core (w0 : World) (gv : Value) (wb gb vb : Nat) (w : World) (vs : List Value) (R : List (List Int)) : Prop where
  below : Below w0.heap.size w0 w
  low : w0.heap.size ≤ wb
  str : Str w wb 167 vs
  rows : RowsD w0.heap.size w vs R
  gbox : Boxed w gb 147 gv
  vbox : Boxed w vb 179 (.func (.func 134) #[] #[.pointer (some ⟨wb, 0, none⟩), .pointer (some ⟨gb, 0, none⟩), .pointer (some ⟨vb, 0, none⟩)])
section
variable {w0 w : World} {gv : Value} {wb gb vb : Nat} {vs : List Value} {R : List (List Int)}
theorem Core.alloc (h : Core w0 gv wb gb vb w vs R) (o : Obj) : Core w0 gv wb gb vb (w.alloc o) vs R :=
  ⟨h.below.alloc h.below.size o, h.low, h.str.below ((Below.refl _ _).alloc (Nat.le_refl _) o), h.rows.below ((Below.refl _ _).alloc (Nat.le_refl _) o), h.gbox.alloc o, h.vbox.alloc o⟩
/-- A store into one of the rows. -/
theorem Core.put (h : Core w0 gv wb gb vb w vs R) {i : Nat} {g n c : Nat} (hu : vs[i]? = some (.slice (some ⟨g, 0, none⟩) n c)) {l : List Int} (hl : R[i]? = some l) (j : Nat) (x : Int) :
    Core w0 gv wb gb vb (w.setCell ⟨g, j, none⟩ (.int .i64 x)) vs (R.set i (l.set j x)) := by
  have ho := h.rows.at hu hl
  obtain ⟨h1, h2⟩ := ho.stored j x
  have hr := h.rows.change hu h2 h1 (Or.inl rfl)
  rw [list_set_same hu] at hr
  exact ⟨h.below.setCell (p := ⟨g, j, none⟩) (ho.lt g rfl).1 _, h.low, h.str.kept h2 (h.str.not_row (by decide) ho), hr, h.gbox.kept h2 (h.gbox.not_row (by decide) ho), h.vbox.kept h2 (h.vbox.not_row (by decide) ho)⟩
/-- A row that was appended to, and is stored. -/
theorem Core.push (h : Core w0 gv wb gb vb w vs R) {w1 : World} {i : Nat} {u u' : Value} (hu : vs[i]? = some u) {l l' : List Int} (hl : R[i]? = some l) (hg : w.grownBy w1 u.ownBlock) (ho : OwnInts w0.heap.size w1 u' l') (hm : Moved w u u') :
    (Str w1 wb 167 vs ∧ w1.heap.size < 1 + w1.heap.size) ∧ Core w0 gv wb gb vb (w1.setCell ⟨wb, i, none⟩ u') (vs.set i u') (R.set i l') := by
  have ho0 := h.rows.at hu hl
  have hs := h.str.kept hg (h.str.not_row (by decide) ho0)
  have hr := h.rows.change hu hg ho (hm.or (Nat.le_refl _))
  have hb := h.below.grown hg h.below.size (fun k hk => (ho0.lt k hk).1)
  have hgb := h.gbox.kept hg (h.gbox.not_row (by decide) ho0)
  have hvb := h.vbox.kept hg (h.vbox.not_row (by decide) ho0)
  have hne : ∀ {x : Nat} {t : TypeId} {v : Value}, Boxed w1 x t v → t ≠ 167 → x ≠ wb := by
    intro x t v hx ht e
    subst e
    have := hs.symm.trans hx
    injection this with this
    injection this with _ this
    exact ht this.symm
  exact ⟨⟨hs, by omega⟩, hb.setCell (p := ⟨wb, i, none⟩) h.low _, h.low, hs.set i u', hr.setStr hs (by decide) i u',
    (Below.heap_setCell _ _ _ _ (hne hgb (by decide))).trans hgb, (Below.heap_setCell _ _ _ _ (hne hvb (by decide))).trans hvb⟩
end
/-- The walk s lies there. -/
def Walks (w0 : World) (gv : Value) (wb gb vb : Nat) (w : World) (s : St) : Prop := ∃ vs, vs.length = 4 ∧ Core w0 gv wb gb vb w vs [li s.came, li s.left, s.number, s.parent]
theorem four {α : Type} {l : List α} (h : l.length = 4) : ∃ a b c d, l = [a, b, c, d] := by
  match l, h with
  | [a, b, c, d], _ => exact ⟨a, b, c, d, rfl⟩
set_option maxRecDepth 100000 in
set_option maxHeartbeats 4000000 in
theorem visit_any (w0 : World) (A : Option Addr) (n0 ca : Nat) (T : G) (wb gb vb : Nat) (hg : Grid w0 (.slice A n0 ca) (lii T)) (hT : Ok T) (hs : Small (lii T)) : ∀ (f b : Nat) (p : Int) (s : St) (w : World),
    Walks w0 (.slice A n0 ca) wb gb vb w s → Inv T.length s → b < T.length → s.number.getD b 0 = -1 → unv s ≤ f → -1 ≤ p → p ≤ 1000 →
    Calls Tryz.prog 134 #[.int .i64 b, .int .i64 p, .pointer (some ⟨wb, 0, none⟩), .pointer (some ⟨gb, 0, none⟩), .pointer (some ⟨vb, 0, none⟩)] w fun e w' =>
      e = .returned (.tuple #[]) ∧ Walks w0 (.slice A n0 ca) wb gb vb w' (visit T f b p s) := by
  obtain ⟨rfl, ha1, ha2, hs1, hrow⟩ := grid_rows hg hs
  unfold maxLen at ha2
  have HA := Lib.hid hrow
  have HO := Lib.hid hT
  clear hrow hs hg hT
  obtain ⟨i0, hi, hz0, hz1, hz2⟩ := info_parts info_int
  have HI := Lib.hid hi
  have HZ0 := Lib.hid hz0
  have HZ1 := Lib.hid hz1
  have HZ2 := Lib.hid hz2
  clear hi hz0 hz1 hz2
  intro f
  induction f with
  | zero =>
    intro b p s w hW hI hb h0 hf _ _
    have := unv_enter (p := p) (by rw [hI.number]; exact hb) h0
    omega
  | succ f ih =>
    intro b p s w hW hI hb h0 hf hp1 hp2
    have IH := Lib.hid ih
    obtain ⟨vs, hl4, hC⟩ := hW
    obtain ⟨vc, vl, vn, vp, rfl⟩ := four hl4
    have hc := hC.rows.at (i := 0) rfl rfl
    have hl := hC.rows.at (i := 1) rfl rfl
    have hn := hC.rows.at (i := 2) rfl rfl
    have hp := hC.rows.at (i := 3) rfl rfl
    obtain ⟨Ac, cc, hvc⟩ := hc.form
    obtain ⟨Al, cl, hvl⟩ := hl.form
    obtain ⟨An, cn, hvn⟩ := hn.form
    obtain ⟨Ap, cp, hvp⟩ := hp.form
    rw [li_len] at hvc hvl
    rw [hI.number] at hvn
    rw [hI.parent] at hvp
    subst hvc hvl hvn hvp
    obtain ⟨nb, rfl⟩ := hn.block (by rw [hI.number]; omega)
    obtain ⟨z, hnc, hnf⟩ : ∃ z : Int, w.cell? ⟨nb, b, none⟩ = some (.int .i64 z) ∧ w.frozen? ⟨nb, b, none⟩ = false := ⟨_, hn.cell (j := b) (by rw [hI.number]; exact hb)⟩
    have k0 : w.cell? ⟨wb, 0, none⟩ = some (.slice Ac s.came.length cc) := hC.str.cell 0
    have k2 : w.cell? ⟨wb, 2, none⟩ = some (.slice (some ⟨nb, 0, none⟩) T.length cn) := hC.str.cell 2
    have hne : wb ≠ nb := fun e => hC.str.not_row (by decide) hn (by rw [e]; rfl)
    have hcl := hI.came
    have hll := hI.left
    have hC1 := (hC.put (i := 2) rfl rfl b s.came.length).alloc (.cells #[.int .i64 (b : Int)] 3)
    have hc1 := hC1.rows.at (i := 0) rfl rfl
    unfold OwnInts at hc1
    rw [li_len] at hc1
    have HC1 := Lib.hid hC1
    have HC := Lib.hid hC
    have HI' := Lib.hid hI
    have H0 := Lib.hid h0
    have hlo := hC.below.size
    clear hC hC1 hc hl hn hp hI ih h0
    go_enter Tryz.func134, Tryz.ntmps134
    go_wp2_with (at_builtin; go_loud (refine wpList_append1 rfl _ _ 38 rfl w0.heap.size 3 i0 (.int .i64 0) 8 Tryz.underlying38 HI.out HZ0.out HZ1.out HZ2.out rfl _ _ _ rfl hc1 ⟨_, 0, none⟩ (.int .i64 (b : Int)) rfl (cell_made (by first | rfl | simp)) (by rfl) (by omega) (by omega) (by rw [World.size_alloc, size_set]; omega) ?_))
    intro v' w3 hown' hgrow hmv
    obtain ⟨A1, c1, rfl⟩ := own_form hown'
    obtain ⟨⟨hS3, _⟩, hC2⟩ := HC1.out.push (i := 0) rfl rfl hgrow (l' := li (s.came ++ [b])) (by unfold OwnInts; rw [li_len, List.length_append, li_snoc, List.map_append]; exact hown') hmv
    have q0 : w3.cell? ⟨wb, 0, none⟩ = some (.slice Ac s.came.length cc) := hS3.cell 0
    have q3 : w3.cell? ⟨wb, 3, none⟩ = some (.slice Ap s.came.length cp) := hS3.cell 3
    have qf := hS3.frozen 0
    have hC3 := hC2.alloc (.cells #[.int .i64 p] 3)
    have hp3 := hC3.rows.at (i := 3) rfl rfl
    unfold OwnInts at hp3
    rw [HI'.out.parent] at hp3
    have hlo3 := hC2.below.size
    have HC3 := Lib.hid hC3
    clear hown' hgrow hmv hC2 hC3 hS3 k0 k2 hc1 hnc hnf HC1
    go_wp2_with (at_builtin; refine wpList_append1 rfl _ _ 38 rfl w0.heap.size 3 i0 (.int .i64 0) 8 Tryz.underlying38 HI.out HZ0.out HZ1.out HZ2.out rfl _ _ _ rfl hp3 ⟨_, 0, none⟩ (.int .i64 p) rfl (cell_made (by first | rfl | simp)) (by rfl) (by omega) (by omega) (by rw [World.size_alloc, size_set]; rw [size_set] at hlo3; omega) ?_)
    intro v' w5 hown' hgrow hmv
    obtain ⟨A5, c5, rfl⟩ := own_form hown'
    obtain ⟨⟨hS5, _⟩, hC5⟩ := HC3.out.push (i := 3) rfl rfl hgrow (l' := s.parent ++ [p]) (by unfold OwnInts; rw [List.length_append, HI'.out.parent, List.map_append]; exact hown') hmv
    have r3 : w5.cell? ⟨wb, 3, none⟩ = some (.slice Ap s.came.length cp) := hS5.cell 3
    have rf := hS5.frozen 3
    have hC5' : Core w0 (.slice A T.length ca) wb gb vb (w5.setCell ⟨wb, 3, none⟩ (.slice A5 (s.came.length + 1) c5)) [.slice A1 (s.came.length + 1) c1, .slice Al s.left.length cl, .slice (some ⟨nb, 0, none⟩) T.length cn, .slice A5 (s.came.length + 1) c5] [li (s.enter b p).came, li (s.enter b p).left, (s.enter b p).number, (s.enter b p).parent] := hC5
    have HW5 := Lib.hid (show Walks w0 (.slice A T.length ca) wb gb vb (w5.setCell ⟨wb, 3, none⟩ (.slice A5 (s.came.length + 1) c5)) (s.enter b p) from ⟨_, rfl, hC5'⟩)
    have HG5 := Lib.hid hC5'.gbox.cell
    have HB5 := Lib.hid hC5'.below
    clear hown' hgrow hmv hC5 hC5' hS5 q0 q3 qf hp3 HC3
    go_upto_region 4 with (fail)
    generalize w5.setCell ⟨wb, 3, none⟩ (.slice A5 (s.came.length + 1) c5) = w6 at *
    obtain ⟨ad, u, rfl, hcu, hu, hul⟩ := HA.out b hb
    have hcu6 := cell_keep HB5.out (Nat.le_refl _) hcu
    have hg6 := HG5.out
    have HTR := Lib.hid (show T.getD b [] = T[b] by rw [List.getD_eq_getElem?_getD, List.getElem?_eq_getElem hb]; rfl)
    have HOK := Lib.hid (HO.out b hb)
    generalize T[b] = row at *
    obtain ⟨C, cr, rfl, hr1, hr2, hr3⟩ := hu
    rw [li_len] at hcu6 hr1
    unfold maxLen at hr2
    have HR := Lib.hid hr3
    clear hr3 hcu r3 rf
    go_wp2
    clear hg6 hcu6
    go_loopw [35] (fun i wr => ∃ j : Nat, j ≤ row.length ∧ i = .int .i64 j ∧ Walks w0 (.slice (some ad) T.length ca) wb gb vb wr (visits T f s.came.length (row.take j) (s.enter b p))) (fun i _ => row.length - (intOf i).toNat)
    case atStart => exact ⟨0, by omega, rfl, HW5.out⟩
    case round =>
      obtain ⟨j, hj, rfl, hW⟩ := hrel
      obtain ⟨wo, rfl⟩ : ∃ wo : World, wo = wr := ⟨_, rfl⟩
      have hue := unv_enter (s := s) (b := b) (p := p) (by rw [HI'.out.number]; exact hb) H0.out
      obtain ⟨hI2, hG2⟩ := visits_inv T HO.out f s.came.length (row.take j) (s.enter b p) (fun x hx => HOK.out x (List.mem_of_mem_take hx)) (HI'.out.enter hb H0.out) (by omega)
      have hu2 := hG2.unv
      by_cases hlt : j < row.length
      · have HN := Lib.hid (show visits T f s.came.length (row.take (j + 1)) (s.enter b p) = visits T f s.came.length [row[j]] (visits T f s.came.length (row.take j) (s.enter b p)) by
          rw [List.take_succ_eq_append_getElem hlt]; unfold visits; rw [List.foldl_append])
        have hxl : row[j] < T.length := HOK.out _ (List.getElem_mem hlt)
        have hj1 : j < (li row).length := by rw [li_len]; exact hlt
        obtain ⟨cd, rfl, hx⟩ := HR.out j hj1
        rw [li_at hlt hj1] at hx
        generalize row[j] = x at *
        generalize visits T f s.came.length (row.take j) (s.enter b p) = s2 at *
        have HW2 := Lib.hid hW
        obtain ⟨vs, hl4, hC⟩ := hW
        obtain ⟨vc, vl, vn, vp, rfl⟩ := four hl4
        have hn := hC.rows.at (i := 2) rfl rfl
        obtain ⟨An, cn2, hvn⟩ := hn.form
        rw [hI2.number] at hvn
        subst hvn
        obtain ⟨nb2, rfl⟩ := hn.block (by rw [hI2.number]; omega)
        have hxn : x < s2.number.length := by rw [hI2.number]; exact hxl
        obtain ⟨hnc, _⟩ := hn.cell hxn
        have k2 : wo.cell? ⟨wb, 2, none⟩ = some (.slice (some ⟨nb2, 0, none⟩) T.length cn2) := hC.str.cell 2
        have kv := hC.vbox.cell
        have hx' := cell_keep hC.below (Nat.le_refl _) hx
        have HY := Lib.hid (show s2.number.getD x 0 = s2.number[x] by rw [List.getD_eq_getElem?_getD, List.getElem?_eq_getElem hxn]; rfl)
        have hcl2 := hI2.came
        have HI2 := Lib.hid hI2
        clear hC hn hx hI2 hG2
        generalize s2.number[x] = y at *
        by_cases hy : y = -1
        · have hyb : (y == -1) = true := beq_iff_eq.2 hy
          have HN2 := Lib.hid (show visits T f s.came.length [x] s2 = visit T f x s.came.length s2 by
            rw [visits_cons, if_pos (by rw [HY.out]; exact hy)]; rfl)
          have HY2 := Lib.hid (show s2.number.getD x 0 = -1 by rw [HY.out]; exact hy)
          clear hy
          go_wp2_with (go_at_call 134; refine (IH.out x s.came.length s2 wo HW2.out HI2.out hxl HY2.out (by omega) (by omega) (by omega)).mono ?_; rintro e w7 ⟨rfl, hW7⟩)
          have HW7 := Lib.hid hW7
          clear hW7
          go_wp2
          go_roundw
          case rel => exact ⟨j + 1, by omega, by go_num, by rw [HN.out, HN2.out]; exact HW7.out⟩
          case measure => simp [intOf]; omega
        · have hyb : (y == -1) = false := beq_eq_false_iff_ne.2 hy
          have HN2 := Lib.hid (show visits T f s.came.length [x] s2 = s2 by
            rw [visits_cons, if_neg (by rw [HY.out]; exact hy)]; rfl)
          clear hy
          go_wp2
          go_roundw
          case rel => exact ⟨j + 1, by omega, by go_num, by rw [HN.out, HN2.out]; exact HW2.out⟩
          case measure => simp [intOf]; omega
      · obtain rfl : j = row.length := by omega
        rw [List.take_length] at *
        have HV := Lib.hid (show visit T (f + 1) b p s = (visits T f s.came.length row (s.enter b p)).leave b by rw [visit_succ, HTR.out])
        generalize visits T f s.came.length row (s.enter b p) = s2 at *
        obtain ⟨vs, hl4, hC⟩ := hW
        obtain ⟨vc, vl, vn, vp, rfl⟩ := four hl4
        have hl := hC.rows.at (i := 1) rfl rfl
        obtain ⟨Al2, cl2, hvl⟩ := hl.form
        rw [li_len] at hvl
        subst hvl
        have k1 : wo.cell? ⟨wb, 1, none⟩ = some (.slice Al2 s2.left.length cl2) := hC.str.cell 1
        have hC1 := hC.alloc (.cells #[.int .i64 (b : Int)] 3)
        have hl1 := hC1.rows.at (i := 1) rfl rfl
        unfold OwnInts at hl1
        rw [li_len] at hl1
        have hcl2 := hI2.came
        have hll2 := hI2.left
        have hlo2 := hC.below.size
        have HC1 := Lib.hid hC1
        clear hC hC1 hl hI2 hG2
        go_wp2_with (at_builtin; refine wpList_append1 rfl _ _ 38 rfl w0.heap.size 3 i0 (.int .i64 0) 8 Tryz.underlying38 HI.out HZ0.out HZ1.out HZ2.out rfl _ _ _ rfl hl1 ⟨_, 0, none⟩ (.int .i64 (b : Int)) rfl (cell_made rfl) (by rfl) (by omega) (by omega) (by rw [World.size_alloc]; omega) ?_)
        intro v' w7 hown' hgrow hmv
        obtain ⟨A7, c7, rfl⟩ := own_form hown'
        obtain ⟨⟨hS7, _⟩, hC7⟩ := HC1.out.push (i := 1) rfl rfl hgrow (l' := li (s2.left ++ [b])) (by unfold OwnInts; rw [li_len, List.length_append, li_snoc, List.map_append]; exact hown') hmv
        have q1 : w7.cell? ⟨wb, 1, none⟩ = some (.slice Al2 s2.left.length cl2) := hS7.cell 1
        have qf := hS7.frozen 1
        have HC7 := Lib.hid hC7
        clear hown' hgrow hmv hC7 hS7 k1
        go_wp2
        go_end0
        exact ⟨rfl, by rw [HV.out]; exact ⟨_, rfl, HC7.out⟩⟩
end Go.Proofs.YtonheiaohgbbcaaGreat.Gc
