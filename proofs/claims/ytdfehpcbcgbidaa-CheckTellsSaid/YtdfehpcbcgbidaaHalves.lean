/- What package graph's halves answers: the semidominators, by numbers. -/
import Derived.Test.YtdfehpcbcgbidaaLeast
import Derived.Test.YtdfehpcbcgbidaaOrder
import Derived.Deep.DeepCutAuto
namespace Go.Proofs.Ytdfehpcbcgbidaa.Gc
open Go.ChangeShapes Go.WideShapes Go.ChangeAt Go.RowKit Go.Shelf Go.Proofs.Ytdfehpcbcgbidaa.Mem Go.Proofs.Ytdfehpcbcgbidaa.Gr Go.Proofs.Ytdfehpcbcgbidaa.Gn Go.Proofs.Ytdfehpcbcgbidaa.Br
set_option linter.unusedVariables false

theorem ints_at {w : World} {A : Option Addr} {n c : Nat} {l : List Int} (h : Ints w (.slice A n c) l) : ∀ k (h : k < l.length), ∃ ad, A = some ad ∧ w.cell? (ad.add k) = some (.int .i64 l[k]) := by
  obtain ⟨A', c', e, _, _, h3⟩ := h
  injection e with e1 e2 e3
  subst e1
  exact h3
/-- A walk in memory, to be read. -/
structure ReadWalk (w : World) (vc vl vn vp : Value) (s : St) : Prop where
  came : Ints w vc (li s.came)
  left : Ints w vl (li s.left)
  number : Ints w vn s.number
  parent : Ints w vp s.parent
theorem ReadWalk.keep {w w' : World} {vc vl vn vp : Value} {s : St} (h : ReadWalk w vc vl vn vp s) (hb : Below w.heap.size w w') : ReadWalk w' vc vl vn vp s :=
  ⟨h.came.keep hb, h.left.keep hb, h.number.keep hb, h.parent.keep hb⟩
theorem OwnWalk.read {B : Nat} {w : World} {v : Value} {s : St} (h : OwnWalk B w v s) : ∃ vc vl vn vp, v = .agg #[vc, vl, vn, vp] ∧ ReadWalk w vc vl vn vp s := by
  obtain ⟨vc, vl, vn, vp, rfl, hr⟩ := h
  exact ⟨vc, vl, vn, vp, rfl, (hr.at (i := 0) rfl rfl).ints, (hr.at (i := 1) rfl rfl).ints, (hr.at (i := 2) rfl rfl).ints, (hr.at (i := 3) rfl rfl).ints⟩
/-- What a walk through n blocks has of numbers. -/
structure Walked (n : Nat) (s : St) : Prop where
  inv : Inv n s
  came : ∀ b ∈ s.came, b < n
  number : ∀ b, b < n → s.number.getD b (-1) = -1 ∨ (0 ≤ s.number.getD b (-1) ∧ s.number.getD b (-1) < s.came.length)
  low : ∀ i, i < s.came.length → -1 ≤ s.parent.getD i (-1)
  ups : Ups s.parent
/-- Three rows apart from one another, by where they lie. -/
theorem rows3 {B : Nat} {w : World} {u v x : Value} {l k r : List Int} {b1 b2 b3 e1 e2 e3 : Nat} (hu : OwnInts b1 w u l) (hv : OwnInts b2 w v k) (hx : OwnInts b3 w x r) (h1 : ∀ g, u.ownBlock = some g → b1 ≤ g ∧ g < e1) (h2 : ∀ g, v.ownBlock = some g → b2 ≤ g ∧ g < e2)
    (h3 : ∀ g, x.ownBlock = some g → b3 ≤ g ∧ g < e3) (hB : B ≤ b1 ∧ B ≤ b2 ∧ B ≤ b3) (h12 : e1 ≤ b2 ∨ e2 ≤ b1) (h13 : e1 ≤ b3 ∨ e3 ≤ b1) (h23 : e2 ≤ b3 ∨ e3 ≤ b2) : RowsD B w [u, v, x] [l, k, r] := by
  have ap : ∀ {y z : Value} {a b c d : Nat}, (∀ g, y.ownBlock = some g → a ≤ g ∧ g < c) → (∀ g, z.ownBlock = some g → b ≤ g ∧ g < d) → (c ≤ b ∨ d ≤ a) → y.ownBlock = none ∨ y.ownBlock ≠ z.ownBlock := by
    intro y z a b c d hy hz hh
    cases hyb : y.ownBlock with
    | none => exact Or.inl rfl
    | some g =>
      right
      intro e
      have := hy g hyb
      have := hz g e.symm
      omega
  refine ⟨rfl, fun i hi => ?_, fun i j p q hij hp hq => ?_⟩
  · match i, hi with
    | 0, _ => exact ⟨u, rfl, own_base hu hB.1⟩
    | 1, _ => exact ⟨v, rfl, own_base hv hB.2.1⟩
    | 2, _ => exact ⟨x, rfl, own_base hx hB.2.2⟩
  · match i, j, hp, hq with
    | 0, 0, _, _ => exact absurd rfl hij
    | 1, 1, _, _ => exact absurd rfl hij
    | 2, 2, _, _ => exact absurd rfl hij
    | 0, 1, hp, hq => injection hp with hp; injection hq with hq; subst hp hq; exact ap h1 h2 h12
    | 1, 0, hp, hq => injection hp with hp; injection hq with hq; subst hp hq; exact ap h2 h1 (by omega)
    | 0, 2, hp, hq => injection hp with hp; injection hq with hq; subst hp hq; exact ap h1 h3 h13
    | 2, 0, hp, hq => injection hp with hp; injection hq with hq; subst hp hq; exact ap h3 h1 (by omega)
    | 1, 2, hp, hq => injection hp with hp; injection hq with hq; subst hp hq; exact ap h2 h3 h23
    | 2, 1, hp, hq => injection hp with hp; injection hq with hq; subst hp hq; exact ap h3 h2 (by omega)
    | i + 3, _, hp, _ => simp at hp
    | _, j + 3, _, hq => simp at hq
theorem anyT_ready {P : Program} {ops : Array Oper} {md : Region.Mode} {Q : Exit → Act → World → Prop} {S : World → Prop} {fuel : Nat} {listed : Array Bool} {a : Act} {w : World} {rs : List Nat} (hr : Region.ready md ops listed = rs) (hne : rs ≠ [])
    (h : ∀ i ∈ rs, ∃ o, (ops.toList.drop i).head? = some o ∧ wpList P ops (Behind P md ops Q S fuel listed i) [o] a w) : wpAnyT P md ops Q S (fuel + 1) listed a w :=
  ⟨fun e => absurd (hr.symm.trans e) hne, fun j hj => by
    rw [hr] at hj
    obtain ⟨o, ho, h'⟩ := h j hj
    exact wpOp_behind ho h'⟩
theorem zeros_own {B g : Nat} {w : World} {n : Nat} (h : w.ownsRow B 3 1 (.slice (some ⟨g, 0, none⟩) n n) n (List.replicate n (.int .i64 0))) : OwnInts B w (.slice (some ⟨g, 0, none⟩) n n) (li (List.replicate n 0)) := by
  unfold OwnInts
  rw [li_len, List.length_replicate]
  unfold li
  rw [List.map_replicate, List.map_replicate]
  exact h
/-- The climber's box at x, its three rows apart. -/
def Climbs (W1 : World) (B k : Nat) (wx : World) (x : Nat) (vu vh vb : Value) (c : Cl) : Prop :=
  Str wx x 136 [vu, vh, vb] ∧ RowsD B wx [vu, vh, vb] [c.up, li c.half, li c.best] ∧ Below W1.heap.size W1 wx ∧ W1.heap.size ≤ x
theorem Climbs.put {W1 wx : World} {B k x : Nat} {vu vh vb : Value} {c : Cl} (h : Climbs W1 B k wx x vu vh vb c) {i g n cc : Nat} {l : List Int} (hu : [vu, vh, vb][i]? = some (.slice (some ⟨g, 0, none⟩) n cc)) (hl : [c.up, li c.half, li c.best][i]? = some l)
    (hg : W1.heap.size ≤ g) (j : Nat) (y : Int) (c' : Cl) (hc : [c'.up, li c'.half, li c'.best] = [c.up, li c.half, li c.best].set i (l.set j y)) : Climbs W1 B k (wx.setCell ⟨g, j, none⟩ (.int .i64 y)) x vu vh vb c' := by
  obtain ⟨h1, h2, h3, h4⟩ := h
  exact ⟨h1.kept (setCell_grownBy _ _ _) (h1.not_row (by decide) (h2.at hu hl)), by rw [hc]; exact rowsD_put h2 hu hl j y, h3.setCell (p := ⟨g, j, none⟩) hg _, h4⟩
theorem Climbs.drew {W1 wx : World} {B k x : Nat} {vu vh vb : Value} {c : Cl} (h : Climbs W1 B k wx x vu vh vb c) : Climbs W1 B k wx.drew x vu vh vb c := ⟨h.1, h.2.1, h.2.2.1.drew, h.2.2.2⟩
set_option maxRecDepth 100000 in
set_option maxHeartbeats 8000000 in
theorem halves_any (w : World) (vc vl vn vp vq : Value) (s : St) (P : G) (hw : ReadWalk w vc vl vn vp s) (hs : Walked P.length s) (hP : Grid w vq (lii P)) (hPO : Ok P) (hPS : Small (lii P)) :
    Calls Try.prog 90 #[.agg #[vc, vl, vn, vp], vq] w (MadeRow (li (halvesN s P)) w) := by
  obtain ⟨Ac, cc, e1, hc1, hc2, hc3⟩ := hw.came
  obtain ⟨Al, cl, e2, hl1, hl2, hl3⟩ := hw.left
  obtain ⟨An, cn, e3, hn1, hn2, hn3⟩ := hw.number
  obtain ⟨Ap, cp, e4, hp1, hp2, hp3⟩ := hw.parent
  have hiv := hs.inv
  rw [li_len] at e1 e2
  rw [hiv.number] at e3
  rw [hiv.parent] at e4
  subst e1 e2 e3 e4
  have hk : s.came.length ≤ 1000 := by have := hiv.came; have := hPS.1; rw [lii_len] at this; omega
  have HW := Lib.hid hw
  have HS := Lib.hid hs
  have HP := Lib.hid hP
  have HPO := Lib.hid hPO
  have HPS := Lib.hid hPS
  have HPL := Lib.hid hiv.parent
  obtain ⟨i0, hi0, hz0, hz1, hz2⟩ := info_parts info_int
  have HI := Lib.hid hi0
  have HZ0 := Lib.hid hz0
  have HZ1 := Lib.hid hz1
  have HZ2 := Lib.hid hz2
  clear hi0 hz0 hz1 hz2 hw hs hP hPO hPS hc1 hc2 hc3 hl1 hl2 hl3 hn1 hn2 hn3 hp1 hp2 hp3 hiv
  go_enter Try.func90, Try.ntmps90
  go_wp2
  obtain ⟨W1, hW1⟩ : ∃ W1, w.alloc (.cells #[.slice Ac s.came.length cc, .slice Al s.left.length cl, .slice An P.length cn, .slice Ap s.came.length cp] 116) = W1 := ⟨_, rfl⟩
  rw [hW1]
  have hB1 : Below w.heap.size w W1 := by rw [← hW1]; exact (Below.refl _ _).alloc (Nat.le_refl _) _
  have hs1 : Str W1 w.heap.size 116 [.slice Ac s.came.length cc, .slice Al s.left.length cl, .slice An P.length cn, .slice Ap s.came.length cp] := by rw [← hW1]; exact World.alloc_heap_new w _
  have hz1 : W1.heap.size = w.heap.size + 1 := by rw [← hW1]; simp
  have c0 : W1.cell? ⟨w.heap.size, 0, none⟩ = some (.slice Ac s.came.length cc) := hs1.cell 0
  have c3 : W1.cell? ⟨w.heap.size, 3, none⟩ = some (.slice Ap s.came.length cp) := hs1.cell 3
  have hpar : ∀ W', Below W1.heap.size W1 W' → Ints W' (.slice Ap s.came.length cp) s.parent := fun W' hb => (HW.out.parent.keep hB1).keep hb
  clear hW1
  go_cut [5] (fun s5 wx => ∃ (x : Nat) (vu vh vb : Value), s5 = .pointer (some ⟨x, 0, none⟩) ∧ Climbs W1 W1.heap.size s.came.length wx x vu vh vb { up := s.parent, half := List.replicate s.came.length 0, best := List.replicate s.came.length 0 })
  case first =>
-- GEN-A
    refine region_tree_wp (fun w' => w'.cell? ⟨w.heap.size, 0, none⟩ = some (.slice Ac s.came.length cc) ∧ w'.cell? ⟨w.heap.size, 3, none⟩ = some (.slice Ap s.came.length cp)) (by kernel_rfl) ?_
    change wpAnyT _ _ _ _ _ _ _ _ W1.drew
    obtain ⟨W2, hW2⟩ : ∃ W2, W1.drew = W2 := ⟨_, rfl⟩
    rw [hW2]
    have bl0 : Below W1.heap.size W1 W2 := by rw [← hW2]; exact (Below.refl _ _).drew
    have hz0 := bl0.size
    clear hW2
    refine anyT_take (i := 0) _ ?vg1 rfl (by kernel_rfl) (by kernel_rfl) (by kernel_rfl) (by intro c a d v w h; cases d <;> exact h) rfl ?yg1 ⟨cell_keep bl0 (Nat.le_refl _) c0, cell_keep bl0 (Nat.le_refl _) c3⟩ ?_
    case yg1 => intro w hS; go_simp; first | done | with_reducible rfl
    simp only [Act.put]
    refine anyT_take (i := 1) _ ?vg2 rfl (by kernel_rfl) (by kernel_rfl) (by kernel_rfl) (by intro c a d v w h; cases d <;> exact h) rfl ?yg2 ⟨cell_keep bl0 (Nat.le_refl _) c0, cell_keep bl0 (Nat.le_refl _) c3⟩ ?_
    case yg2 => intro w hS; go_simp; first | done | with_reducible rfl
    simp only [Act.put]
    refine anyT_take (i := 3) _ ?vg3 rfl (by kernel_rfl) (by kernel_rfl) (by kernel_rfl) (by intro c a d v w h; cases d <;> exact h) rfl ?yg3 ⟨cell_keep bl0 (Nat.le_refl _) c0, cell_keep bl0 (Nat.le_refl _) c3⟩ ?_
    case yg3 => intro w hS; go_simp; first | done | with_reducible rfl
    simp only [Act.put]
    refine anyT_take (i := 4) _ ?vg4 rfl (by kernel_rfl) (by kernel_rfl) (by kernel_rfl) (by intro c a d v w h; cases d <;> exact h) rfl ?yg4 ⟨cell_keep bl0 (Nat.le_refl _) c0, cell_keep bl0 (Nat.le_refl _) c3⟩ ?_
    case yg4 => intro w hS; go_simp; first | done | with_reducible rfl
    simp only [Act.put]
    refine anyT_take (i := 5) _ ?vg5 rfl (by kernel_rfl) (by kernel_rfl) (by kernel_rfl) (by intro c a d v w h; cases d <;> exact h) rfl ?yg5 ⟨cell_keep bl0 (Nat.le_refl _) c0, cell_keep bl0 (Nat.le_refl _) c3⟩ ?_
    case yg5 => intro w hS; go_simp; first | done | with_reducible rfl
    simp only [Act.put]
    refine anyT_take (i := 7) _ ?vg6 rfl (by kernel_rfl) (by kernel_rfl) (by kernel_rfl) (by intro c a d v w h; cases d <;> exact h) rfl ?yg6 ⟨cell_keep bl0 (Nat.le_refl _) c0, cell_keep bl0 (Nat.le_refl _) c3⟩ ?_
    case yg6 => intro w hS; go_simp; first | done | with_reducible rfl
    simp only [Act.put]
    refine anyT_take (i := 8) _ ?vg7 rfl (by kernel_rfl) (by kernel_rfl) (by kernel_rfl) (by intro c a d v w h; cases d <;> exact h) rfl ?yg7 ⟨cell_keep bl0 (Nat.le_refl _) c0, cell_keep bl0 (Nat.le_refl _) c3⟩ ?_
    case yg7 => intro w hS; go_simp; first | done | with_reducible rfl
    simp only [Act.put]
    refine anyT_take (i := 9) _ ?vg8 rfl (by kernel_rfl) (by kernel_rfl) (by kernel_rfl) (by intro c a d v w h; cases d <;> exact h) rfl ?yg8 ⟨cell_keep bl0 (Nat.le_refl _) c0, cell_keep bl0 (Nat.le_refl _) c3⟩ ?_
    case yg8 => intro w hS; go_simp; first | done | with_reducible rfl
    simp only [Act.put]
    simp only [List.setIfInBounds_toArray, List.set_cons_zero, List.set_cons_succ]
    refine anyT_ready (rs := [2, 6, 10, 12]) (by kernel_rfl) (by simp) ?_
    intro i hi
    simp only [List.mem_cons, List.not_mem_nil, or_false] at hi
    rcases hi with rfl | rfl | rfl | rfl
    · refine ⟨_, rfl, ?_⟩
      go_wp2_with fail
      refine (clone_own W2 _ s.parent (hpar W2 bl0) (by rw [HPL.out]; omega)).mono ?_
      rintro e W9x ⟨v9, rfl, ho9, hb9⟩
      obtain ⟨A9, c9, hv9⟩ := ho9.form
      rw [HPL.out] at hv9
      subst hv9
      have lt9 := fun g e => (⟨(ho9.lt g e).1, (ho9.lt g e).2⟩ : W2.heap.size ≤ g ∧ g < W9x.heap.size)
      have hz9 := hb9.size
      go_wp2
      have bl9 := bl0.trans (hb9.mono (by have := bl0.size; omega))
      refine behind_normal ⟨cell_keep bl9 (Nat.le_refl _) c0, cell_keep bl9 (Nat.le_refl _) c3⟩ ?_
      refine anyT_ready (rs := [6, 10, 12]) (by kernel_rfl) (by simp) ?_
      intro i hi
      simp only [List.mem_cons, List.not_mem_nil, or_false] at hi
      rcases hi with rfl | rfl | rfl
      · refine ⟨_, rfl, ?_⟩
        go_wp2_with (at_make; refine wpList_make_full _ rfl _ _ 28 rfl W9x.heap.size 3 i0 (.int .i64 0) 1 Try.underlying28 HI.out HZ0.out HZ1.out .i64 .i64 _ _ s.came.length rfl rfl rfl rfl (by rw [HZ2.out]; omega) (by unfold maxLen; omega) (Nat.le_refl _) ?_)
        intro W10x hown10 hgr10
        rw [toList_madeCells_one] at hown10
        have ho10 := zeros_own hown10
        have hb10 : Below W9x.heap.size W9x W10x := (Below.refl _ _).grown hgr10 (Nat.le_refl _) (fun j hj => by cases hj)
        have lt10 := fun g e => (⟨(ho10.lt g e).1, (ho10.lt g e).2⟩ : W9x.heap.size ≤ g ∧ g < W10x.heap.size)
        have hz10 := hb10.size
        clear hown10 hgr10
        go_wp2
        have bl10 := bl9.trans (hb10.mono (by have := bl9.size; omega))
        have o10r2 := own_below ho9 hb10
        refine behind_normal ⟨cell_keep bl10 (Nat.le_refl _) c0, cell_keep bl10 (Nat.le_refl _) c3⟩ ?_
        refine anyT_ready (rs := [10, 12]) (by kernel_rfl) (by simp) ?_
        intro i hi
        simp only [List.mem_cons, List.not_mem_nil, or_false] at hi
        rcases hi with rfl | rfl
        · refine ⟨_, rfl, ?_⟩
          go_wp2_with (at_make; refine wpList_make_full _ rfl _ _ 28 rfl W10x.heap.size 3 i0 (.int .i64 0) 1 Try.underlying28 HI.out HZ0.out HZ1.out .i64 .i64 _ _ s.came.length rfl rfl rfl rfl (by rw [HZ2.out]; omega) (by unfold maxLen; omega) (Nat.le_refl _) ?_)
          intro W11x hown11 hgr11
          rw [toList_madeCells_one] at hown11
          have ho11 := zeros_own hown11
          have hb11 : Below W10x.heap.size W10x W11x := (Below.refl _ _).grown hgr11 (Nat.le_refl _) (fun j hj => by cases hj)
          have lt11 := fun g e => (⟨(ho11.lt g e).1, (ho11.lt g e).2⟩ : W10x.heap.size ≤ g ∧ g < W11x.heap.size)
          have hz11 := hb11.size
          clear hown11 hgr11
          go_wp2
          have bl11 := bl10.trans (hb11.mono (by have := bl10.size; omega))
          have o11r2 := own_below o10r2 hb11
          have o11r6 := own_below ho10 hb11
          refine behind_normal ⟨cell_keep bl11 (Nat.le_refl _) c0, cell_keep bl11 (Nat.le_refl _) c3⟩ ?_
          refine anyT_take (i := 11) _ ?vg12 rfl (by kernel_rfl) (by kernel_rfl) (by kernel_rfl) (by intro c a d v w h; cases d <;> exact h) rfl ?yg12 ⟨cell_keep bl11 (Nat.le_refl _) c0, cell_keep bl11 (Nat.le_refl _) c3⟩ ?_
          case yg12 => intro w hS; go_simp; first | done | with_reducible rfl
          simp only [Act.put]
          refine anyT_ready (rs := [12]) (by kernel_rfl) (by simp) ?_
          intro i hi
          simp only [List.mem_cons, List.not_mem_nil, or_false] at hi
          subst hi
          · refine ⟨_, rfl, ?_⟩
            go_wp2
            obtain ⟨W13x, hW13⟩ : ∃ W', W11x.alloc (.cells #[.slice none 0 0, .slice none 0 0, .slice none 0 0] 136) = W' := ⟨_, rfl⟩
            rw [hW13]
            have hb13 : Below W11x.heap.size W11x W13x := by rw [← hW13]; exact (Below.refl _ _).alloc (Nat.le_refl _) _
            have hs13 : Str W13x W11x.heap.size 136 [.slice none 0 0, .slice none 0 0, .slice none 0 0] := by rw [← hW13]; exact World.alloc_heap_new W11x _
            have hz13 : W11x.heap.size + 1 ≤ W13x.heap.size := by rw [← hW13]; simp
            clear hW13
            have bl13 := bl11.trans (hb13.mono (by have := bl11.size; omega))
            have o13r2 := own_below o11r2 hb13
            have o13r6 := own_below o11r6 hb13
            have o13r10 := own_below ho11 hb13
            refine behind_normal ⟨cell_keep bl13 (Nat.le_refl _) c0, cell_keep bl13 (Nat.le_refl _) c3⟩ ?_
            refine anyT_one (i := 13) _ rfl (by kernel_rfl) ?_
            have kx0 : W13x.cell? ⟨W11x.heap.size, 0, none⟩ = some (.slice none 0 0) := hs13.cell 0
            have kx1 : W13x.cell? ⟨W11x.heap.size, 1, none⟩ = some (.slice none 0 0) := hs13.cell 1
            have kx2 : W13x.cell? ⟨W11x.heap.size, 2, none⟩ = some (.slice none 0 0) := hs13.cell 2
            have kf0 := hs13.frozen 0
            have kf1 := hs13.frozen 1
            have kf2 := hs13.frozen 2
            go_wp2
            refine behind_last (by kernel_rfl) (anyT_done (by kernel_rfl) ?_ _)
            go_wp2_with fail
            go_meet
            case rel =>
              have hr := rows3 (B := W1.heap.size) o13r2 o13r6 o13r10 lt9 lt10 lt11 ⟨by omega, by omega, by omega⟩ (by omega) (by omega) (by omega)
              exact ⟨W11x.heap.size, _, _, _, rfl, (((hs13.set 0 _).set 1 _).set 2 _), ((hr.setStr hs13 (by decide) 0 _).setStr (hs13.set 0 _) (by decide) 1 _).setStr ((hs13.set 0 _).set 1 _) (by decide) 2 _, ((bl13.setCell (by show W1.heap.size ≤ W11x.heap.size; omega) _).setCell (by show W1.heap.size ≤ W11x.heap.size; omega) _).setCell (by show W1.heap.size ≤ W11x.heap.size; omega) _, by omega⟩
        · refine ⟨_, rfl, ?_⟩
          go_wp2
          obtain ⟨W14x, hW14⟩ : ∃ W', W10x.alloc (.cells #[.slice none 0 0, .slice none 0 0, .slice none 0 0] 136) = W' := ⟨_, rfl⟩
          rw [hW14]
          have hb14 : Below W10x.heap.size W10x W14x := by rw [← hW14]; exact (Below.refl _ _).alloc (Nat.le_refl _) _
          have hs14 : Str W14x W10x.heap.size 136 [.slice none 0 0, .slice none 0 0, .slice none 0 0] := by rw [← hW14]; exact World.alloc_heap_new W10x _
          have hz14 : W10x.heap.size + 1 ≤ W14x.heap.size := by rw [← hW14]; simp
          clear hW14
          have bl14 := bl10.trans (hb14.mono (by have := bl10.size; omega))
          have o14r2 := own_below o10r2 hb14
          have o14r6 := own_below ho10 hb14
          refine behind_normal ⟨cell_keep bl14 (Nat.le_refl _) c0, cell_keep bl14 (Nat.le_refl _) c3⟩ ?_
          refine anyT_ready (rs := [10]) (by kernel_rfl) (by simp) ?_
          intro i hi
          simp only [List.mem_cons, List.not_mem_nil, or_false] at hi
          subst hi
          · refine ⟨_, rfl, ?_⟩
            go_wp2_with (at_make; refine wpList_make_full _ rfl _ _ 28 rfl W14x.heap.size 3 i0 (.int .i64 0) 1 Try.underlying28 HI.out HZ0.out HZ1.out .i64 .i64 _ _ s.came.length rfl rfl rfl rfl (by rw [HZ2.out]; omega) (by unfold maxLen; omega) (Nat.le_refl _) ?_)
            intro W15x hown15 hgr15
            rw [toList_madeCells_one] at hown15
            have ho15 := zeros_own hown15
            have hb15 : Below W14x.heap.size W14x W15x := (Below.refl _ _).grown hgr15 (Nat.le_refl _) (fun j hj => by cases hj)
            have lt15 := fun g e => (⟨(ho15.lt g e).1, (ho15.lt g e).2⟩ : W14x.heap.size ≤ g ∧ g < W15x.heap.size)
            have hz15 := hb15.size
            clear hown15 hgr15
            go_wp2
            have bl15 := bl14.trans (hb15.mono (by have := bl14.size; omega))
            have o15r2 := own_below o14r2 hb15
            have o15r6 := own_below o14r6 hb15
            have sb15 := hs14.below hb15
            refine behind_normal ⟨cell_keep bl15 (Nat.le_refl _) c0, cell_keep bl15 (Nat.le_refl _) c3⟩ ?_
            refine anyT_take (i := 11) _ ?vg16 rfl (by kernel_rfl) (by kernel_rfl) (by kernel_rfl) (by intro c a d v w h; cases d <;> exact h) rfl ?yg16 ⟨cell_keep bl15 (Nat.le_refl _) c0, cell_keep bl15 (Nat.le_refl _) c3⟩ ?_
            case yg16 => intro w hS; go_simp; first | done | with_reducible rfl
            simp only [Act.put]
            refine anyT_one (i := 13) _ rfl (by kernel_rfl) ?_
            have kx0 : W15x.cell? ⟨W10x.heap.size, 0, none⟩ = some (.slice none 0 0) := sb15.cell 0
            have kx1 : W15x.cell? ⟨W10x.heap.size, 1, none⟩ = some (.slice none 0 0) := sb15.cell 1
            have kx2 : W15x.cell? ⟨W10x.heap.size, 2, none⟩ = some (.slice none 0 0) := sb15.cell 2
            have kf0 := sb15.frozen 0
            have kf1 := sb15.frozen 1
            have kf2 := sb15.frozen 2
            go_wp2
            refine behind_last (by kernel_rfl) (anyT_done (by kernel_rfl) ?_ _)
            go_wp2_with fail
            go_meet
            case rel =>
              have hr := rows3 (B := W1.heap.size) o15r2 o15r6 ho15 lt9 lt10 lt15 ⟨by omega, by omega, by omega⟩ (by omega) (by omega) (by omega)
              exact ⟨W10x.heap.size, _, _, _, rfl, (((sb15.set 0 _).set 1 _).set 2 _), ((hr.setStr sb15 (by decide) 0 _).setStr (sb15.set 0 _) (by decide) 1 _).setStr ((sb15.set 0 _).set 1 _) (by decide) 2 _, ((bl15.setCell (by show W1.heap.size ≤ W10x.heap.size; omega) _).setCell (by show W1.heap.size ≤ W10x.heap.size; omega) _).setCell (by show W1.heap.size ≤ W10x.heap.size; omega) _, by omega⟩
      · refine ⟨_, rfl, ?_⟩
        go_wp2_with (at_make; refine wpList_make_full _ rfl _ _ 28 rfl W9x.heap.size 3 i0 (.int .i64 0) 1 Try.underlying28 HI.out HZ0.out HZ1.out .i64 .i64 _ _ s.came.length rfl rfl rfl rfl (by rw [HZ2.out]; omega) (by unfold maxLen; omega) (Nat.le_refl _) ?_)
        intro W17x hown17 hgr17
        rw [toList_madeCells_one] at hown17
        have ho17 := zeros_own hown17
        have hb17 : Below W9x.heap.size W9x W17x := (Below.refl _ _).grown hgr17 (Nat.le_refl _) (fun j hj => by cases hj)
        have lt17 := fun g e => (⟨(ho17.lt g e).1, (ho17.lt g e).2⟩ : W9x.heap.size ≤ g ∧ g < W17x.heap.size)
        have hz17 := hb17.size
        clear hown17 hgr17
        go_wp2
        have bl17 := bl9.trans (hb17.mono (by have := bl9.size; omega))
        have o17r2 := own_below ho9 hb17
        refine behind_normal ⟨cell_keep bl17 (Nat.le_refl _) c0, cell_keep bl17 (Nat.le_refl _) c3⟩ ?_
        refine anyT_ready (rs := [6, 12]) (by kernel_rfl) (by simp) ?_
        intro i hi
        simp only [List.mem_cons, List.not_mem_nil, or_false] at hi
        rcases hi with rfl | rfl
        · refine ⟨_, rfl, ?_⟩
          go_wp2_with (at_make; refine wpList_make_full _ rfl _ _ 28 rfl W17x.heap.size 3 i0 (.int .i64 0) 1 Try.underlying28 HI.out HZ0.out HZ1.out .i64 .i64 _ _ s.came.length rfl rfl rfl rfl (by rw [HZ2.out]; omega) (by unfold maxLen; omega) (Nat.le_refl _) ?_)
          intro W18x hown18 hgr18
          rw [toList_madeCells_one] at hown18
          have ho18 := zeros_own hown18
          have hb18 : Below W17x.heap.size W17x W18x := (Below.refl _ _).grown hgr18 (Nat.le_refl _) (fun j hj => by cases hj)
          have lt18 := fun g e => (⟨(ho18.lt g e).1, (ho18.lt g e).2⟩ : W17x.heap.size ≤ g ∧ g < W18x.heap.size)
          have hz18 := hb18.size
          clear hown18 hgr18
          go_wp2
          have bl18 := bl17.trans (hb18.mono (by have := bl17.size; omega))
          have o18r2 := own_below o17r2 hb18
          have o18r10 := own_below ho17 hb18
          refine behind_normal ⟨cell_keep bl18 (Nat.le_refl _) c0, cell_keep bl18 (Nat.le_refl _) c3⟩ ?_
          refine anyT_take (i := 11) _ ?vg19 rfl (by kernel_rfl) (by kernel_rfl) (by kernel_rfl) (by intro c a d v w h; cases d <;> exact h) rfl ?yg19 ⟨cell_keep bl18 (Nat.le_refl _) c0, cell_keep bl18 (Nat.le_refl _) c3⟩ ?_
          case yg19 => intro w hS; go_simp; first | done | with_reducible rfl
          simp only [Act.put]
          refine anyT_ready (rs := [12]) (by kernel_rfl) (by simp) ?_
          intro i hi
          simp only [List.mem_cons, List.not_mem_nil, or_false] at hi
          subst hi
          · refine ⟨_, rfl, ?_⟩
            go_wp2
            obtain ⟨W20x, hW20⟩ : ∃ W', W18x.alloc (.cells #[.slice none 0 0, .slice none 0 0, .slice none 0 0] 136) = W' := ⟨_, rfl⟩
            rw [hW20]
            have hb20 : Below W18x.heap.size W18x W20x := by rw [← hW20]; exact (Below.refl _ _).alloc (Nat.le_refl _) _
            have hs20 : Str W20x W18x.heap.size 136 [.slice none 0 0, .slice none 0 0, .slice none 0 0] := by rw [← hW20]; exact World.alloc_heap_new W18x _
            have hz20 : W18x.heap.size + 1 ≤ W20x.heap.size := by rw [← hW20]; simp
            clear hW20
            have bl20 := bl18.trans (hb20.mono (by have := bl18.size; omega))
            have o20r2 := own_below o18r2 hb20
            have o20r10 := own_below o18r10 hb20
            have o20r6 := own_below ho18 hb20
            refine behind_normal ⟨cell_keep bl20 (Nat.le_refl _) c0, cell_keep bl20 (Nat.le_refl _) c3⟩ ?_
            refine anyT_one (i := 13) _ rfl (by kernel_rfl) ?_
            have kx0 : W20x.cell? ⟨W18x.heap.size, 0, none⟩ = some (.slice none 0 0) := hs20.cell 0
            have kx1 : W20x.cell? ⟨W18x.heap.size, 1, none⟩ = some (.slice none 0 0) := hs20.cell 1
            have kx2 : W20x.cell? ⟨W18x.heap.size, 2, none⟩ = some (.slice none 0 0) := hs20.cell 2
            have kf0 := hs20.frozen 0
            have kf1 := hs20.frozen 1
            have kf2 := hs20.frozen 2
            go_wp2
            refine behind_last (by kernel_rfl) (anyT_done (by kernel_rfl) ?_ _)
            go_wp2_with fail
            go_meet
            case rel =>
              have hr := rows3 (B := W1.heap.size) o20r2 o20r6 o20r10 lt9 lt18 lt17 ⟨by omega, by omega, by omega⟩ (by omega) (by omega) (by omega)
              exact ⟨W18x.heap.size, _, _, _, rfl, (((hs20.set 0 _).set 1 _).set 2 _), ((hr.setStr hs20 (by decide) 0 _).setStr (hs20.set 0 _) (by decide) 1 _).setStr ((hs20.set 0 _).set 1 _) (by decide) 2 _, ((bl20.setCell (by show W1.heap.size ≤ W18x.heap.size; omega) _).setCell (by show W1.heap.size ≤ W18x.heap.size; omega) _).setCell (by show W1.heap.size ≤ W18x.heap.size; omega) _, by omega⟩
        · refine ⟨_, rfl, ?_⟩
          go_wp2
          obtain ⟨W21x, hW21⟩ : ∃ W', W17x.alloc (.cells #[.slice none 0 0, .slice none 0 0, .slice none 0 0] 136) = W' := ⟨_, rfl⟩
          rw [hW21]
          have hb21 : Below W17x.heap.size W17x W21x := by rw [← hW21]; exact (Below.refl _ _).alloc (Nat.le_refl _) _
          have hs21 : Str W21x W17x.heap.size 136 [.slice none 0 0, .slice none 0 0, .slice none 0 0] := by rw [← hW21]; exact World.alloc_heap_new W17x _
          have hz21 : W17x.heap.size + 1 ≤ W21x.heap.size := by rw [← hW21]; simp
          clear hW21
          have bl21 := bl17.trans (hb21.mono (by have := bl17.size; omega))
          have o21r2 := own_below o17r2 hb21
          have o21r10 := own_below ho17 hb21
          refine behind_normal ⟨cell_keep bl21 (Nat.le_refl _) c0, cell_keep bl21 (Nat.le_refl _) c3⟩ ?_
          refine anyT_ready (rs := [6]) (by kernel_rfl) (by simp) ?_
          intro i hi
          simp only [List.mem_cons, List.not_mem_nil, or_false] at hi
          subst hi
          · refine ⟨_, rfl, ?_⟩
            go_wp2_with (at_make; refine wpList_make_full _ rfl _ _ 28 rfl W21x.heap.size 3 i0 (.int .i64 0) 1 Try.underlying28 HI.out HZ0.out HZ1.out .i64 .i64 _ _ s.came.length rfl rfl rfl rfl (by rw [HZ2.out]; omega) (by unfold maxLen; omega) (Nat.le_refl _) ?_)
            intro W22x hown22 hgr22
            rw [toList_madeCells_one] at hown22
            have ho22 := zeros_own hown22
            have hb22 : Below W21x.heap.size W21x W22x := (Below.refl _ _).grown hgr22 (Nat.le_refl _) (fun j hj => by cases hj)
            have lt22 := fun g e => (⟨(ho22.lt g e).1, (ho22.lt g e).2⟩ : W21x.heap.size ≤ g ∧ g < W22x.heap.size)
            have hz22 := hb22.size
            clear hown22 hgr22
            go_wp2
            have bl22 := bl21.trans (hb22.mono (by have := bl21.size; omega))
            have o22r2 := own_below o21r2 hb22
            have o22r10 := own_below o21r10 hb22
            have sb22 := hs21.below hb22
            refine behind_normal ⟨cell_keep bl22 (Nat.le_refl _) c0, cell_keep bl22 (Nat.le_refl _) c3⟩ ?_
            refine anyT_take (i := 11) _ ?vg23 rfl (by kernel_rfl) (by kernel_rfl) (by kernel_rfl) (by intro c a d v w h; cases d <;> exact h) rfl ?yg23 ⟨cell_keep bl22 (Nat.le_refl _) c0, cell_keep bl22 (Nat.le_refl _) c3⟩ ?_
            case yg23 => intro w hS; go_simp; first | done | with_reducible rfl
            simp only [Act.put]
            refine anyT_one (i := 13) _ rfl (by kernel_rfl) ?_
            have kx0 : W22x.cell? ⟨W17x.heap.size, 0, none⟩ = some (.slice none 0 0) := sb22.cell 0
            have kx1 : W22x.cell? ⟨W17x.heap.size, 1, none⟩ = some (.slice none 0 0) := sb22.cell 1
            have kx2 : W22x.cell? ⟨W17x.heap.size, 2, none⟩ = some (.slice none 0 0) := sb22.cell 2
            have kf0 := sb22.frozen 0
            have kf1 := sb22.frozen 1
            have kf2 := sb22.frozen 2
            go_wp2
            refine behind_last (by kernel_rfl) (anyT_done (by kernel_rfl) ?_ _)
            go_wp2_with fail
            go_meet
            case rel =>
              have hr := rows3 (B := W1.heap.size) o22r2 ho22 o22r10 lt9 lt22 lt17 ⟨by omega, by omega, by omega⟩ (by omega) (by omega) (by omega)
              exact ⟨W17x.heap.size, _, _, _, rfl, (((sb22.set 0 _).set 1 _).set 2 _), ((hr.setStr sb22 (by decide) 0 _).setStr (sb22.set 0 _) (by decide) 1 _).setStr ((sb22.set 0 _).set 1 _) (by decide) 2 _, ((bl22.setCell (by show W1.heap.size ≤ W17x.heap.size; omega) _).setCell (by show W1.heap.size ≤ W17x.heap.size; omega) _).setCell (by show W1.heap.size ≤ W17x.heap.size; omega) _, by omega⟩
      · refine ⟨_, rfl, ?_⟩
        go_wp2
        obtain ⟨W24x, hW24⟩ : ∃ W', W9x.alloc (.cells #[.slice none 0 0, .slice none 0 0, .slice none 0 0] 136) = W' := ⟨_, rfl⟩
        rw [hW24]
        have hb24 : Below W9x.heap.size W9x W24x := by rw [← hW24]; exact (Below.refl _ _).alloc (Nat.le_refl _) _
        have hs24 : Str W24x W9x.heap.size 136 [.slice none 0 0, .slice none 0 0, .slice none 0 0] := by rw [← hW24]; exact World.alloc_heap_new W9x _
        have hz24 : W9x.heap.size + 1 ≤ W24x.heap.size := by rw [← hW24]; simp
        clear hW24
        have bl24 := bl9.trans (hb24.mono (by have := bl9.size; omega))
        have o24r2 := own_below ho9 hb24
        refine behind_normal ⟨cell_keep bl24 (Nat.le_refl _) c0, cell_keep bl24 (Nat.le_refl _) c3⟩ ?_
        refine anyT_ready (rs := [6, 10]) (by kernel_rfl) (by simp) ?_
        intro i hi
        simp only [List.mem_cons, List.not_mem_nil, or_false] at hi
        rcases hi with rfl | rfl
        · refine ⟨_, rfl, ?_⟩
          go_wp2_with (at_make; refine wpList_make_full _ rfl _ _ 28 rfl W24x.heap.size 3 i0 (.int .i64 0) 1 Try.underlying28 HI.out HZ0.out HZ1.out .i64 .i64 _ _ s.came.length rfl rfl rfl rfl (by rw [HZ2.out]; omega) (by unfold maxLen; omega) (Nat.le_refl _) ?_)
          intro W25x hown25 hgr25
          rw [toList_madeCells_one] at hown25
          have ho25 := zeros_own hown25
          have hb25 : Below W24x.heap.size W24x W25x := (Below.refl _ _).grown hgr25 (Nat.le_refl _) (fun j hj => by cases hj)
          have lt25 := fun g e => (⟨(ho25.lt g e).1, (ho25.lt g e).2⟩ : W24x.heap.size ≤ g ∧ g < W25x.heap.size)
          have hz25 := hb25.size
          clear hown25 hgr25
          go_wp2
          have bl25 := bl24.trans (hb25.mono (by have := bl24.size; omega))
          have o25r2 := own_below o24r2 hb25
          have sb25 := hs24.below hb25
          refine behind_normal ⟨cell_keep bl25 (Nat.le_refl _) c0, cell_keep bl25 (Nat.le_refl _) c3⟩ ?_
          refine anyT_ready (rs := [10]) (by kernel_rfl) (by simp) ?_
          intro i hi
          simp only [List.mem_cons, List.not_mem_nil, or_false] at hi
          subst hi
          · refine ⟨_, rfl, ?_⟩
            go_wp2_with (at_make; refine wpList_make_full _ rfl _ _ 28 rfl W25x.heap.size 3 i0 (.int .i64 0) 1 Try.underlying28 HI.out HZ0.out HZ1.out .i64 .i64 _ _ s.came.length rfl rfl rfl rfl (by rw [HZ2.out]; omega) (by unfold maxLen; omega) (Nat.le_refl _) ?_)
            intro W26x hown26 hgr26
            rw [toList_madeCells_one] at hown26
            have ho26 := zeros_own hown26
            have hb26 : Below W25x.heap.size W25x W26x := (Below.refl _ _).grown hgr26 (Nat.le_refl _) (fun j hj => by cases hj)
            have lt26 := fun g e => (⟨(ho26.lt g e).1, (ho26.lt g e).2⟩ : W25x.heap.size ≤ g ∧ g < W26x.heap.size)
            have hz26 := hb26.size
            clear hown26 hgr26
            go_wp2
            have bl26 := bl25.trans (hb26.mono (by have := bl25.size; omega))
            have o26r2 := own_below o25r2 hb26
            have o26r6 := own_below ho25 hb26
            have sb26 := sb25.below hb26
            refine behind_normal ⟨cell_keep bl26 (Nat.le_refl _) c0, cell_keep bl26 (Nat.le_refl _) c3⟩ ?_
            refine anyT_take (i := 11) _ ?vg27 rfl (by kernel_rfl) (by kernel_rfl) (by kernel_rfl) (by intro c a d v w h; cases d <;> exact h) rfl ?yg27 ⟨cell_keep bl26 (Nat.le_refl _) c0, cell_keep bl26 (Nat.le_refl _) c3⟩ ?_
            case yg27 => intro w hS; go_simp; first | done | with_reducible rfl
            simp only [Act.put]
            refine anyT_one (i := 13) _ rfl (by kernel_rfl) ?_
            have kx0 : W26x.cell? ⟨W9x.heap.size, 0, none⟩ = some (.slice none 0 0) := sb26.cell 0
            have kx1 : W26x.cell? ⟨W9x.heap.size, 1, none⟩ = some (.slice none 0 0) := sb26.cell 1
            have kx2 : W26x.cell? ⟨W9x.heap.size, 2, none⟩ = some (.slice none 0 0) := sb26.cell 2
            have kf0 := sb26.frozen 0
            have kf1 := sb26.frozen 1
            have kf2 := sb26.frozen 2
            go_wp2
            refine behind_last (by kernel_rfl) (anyT_done (by kernel_rfl) ?_ _)
            go_wp2_with fail
            go_meet
            case rel =>
              have hr := rows3 (B := W1.heap.size) o26r2 o26r6 ho26 lt9 lt25 lt26 ⟨by omega, by omega, by omega⟩ (by omega) (by omega) (by omega)
              exact ⟨W9x.heap.size, _, _, _, rfl, (((sb26.set 0 _).set 1 _).set 2 _), ((hr.setStr sb26 (by decide) 0 _).setStr (sb26.set 0 _) (by decide) 1 _).setStr ((sb26.set 0 _).set 1 _) (by decide) 2 _, ((bl26.setCell (by show W1.heap.size ≤ W9x.heap.size; omega) _).setCell (by show W1.heap.size ≤ W9x.heap.size; omega) _).setCell (by show W1.heap.size ≤ W9x.heap.size; omega) _, by omega⟩
        · refine ⟨_, rfl, ?_⟩
          go_wp2_with (at_make; refine wpList_make_full _ rfl _ _ 28 rfl W24x.heap.size 3 i0 (.int .i64 0) 1 Try.underlying28 HI.out HZ0.out HZ1.out .i64 .i64 _ _ s.came.length rfl rfl rfl rfl (by rw [HZ2.out]; omega) (by unfold maxLen; omega) (Nat.le_refl _) ?_)
          intro W28x hown28 hgr28
          rw [toList_madeCells_one] at hown28
          have ho28 := zeros_own hown28
          have hb28 : Below W24x.heap.size W24x W28x := (Below.refl _ _).grown hgr28 (Nat.le_refl _) (fun j hj => by cases hj)
          have lt28 := fun g e => (⟨(ho28.lt g e).1, (ho28.lt g e).2⟩ : W24x.heap.size ≤ g ∧ g < W28x.heap.size)
          have hz28 := hb28.size
          clear hown28 hgr28
          go_wp2
          have bl28 := bl24.trans (hb28.mono (by have := bl24.size; omega))
          have o28r2 := own_below o24r2 hb28
          have sb28 := hs24.below hb28
          refine behind_normal ⟨cell_keep bl28 (Nat.le_refl _) c0, cell_keep bl28 (Nat.le_refl _) c3⟩ ?_
          refine anyT_ready (rs := [6]) (by kernel_rfl) (by simp) ?_
          intro i hi
          simp only [List.mem_cons, List.not_mem_nil, or_false] at hi
          subst hi
          · refine ⟨_, rfl, ?_⟩
            go_wp2_with (at_make; refine wpList_make_full _ rfl _ _ 28 rfl W28x.heap.size 3 i0 (.int .i64 0) 1 Try.underlying28 HI.out HZ0.out HZ1.out .i64 .i64 _ _ s.came.length rfl rfl rfl rfl (by rw [HZ2.out]; omega) (by unfold maxLen; omega) (Nat.le_refl _) ?_)
            intro W29x hown29 hgr29
            rw [toList_madeCells_one] at hown29
            have ho29 := zeros_own hown29
            have hb29 : Below W28x.heap.size W28x W29x := (Below.refl _ _).grown hgr29 (Nat.le_refl _) (fun j hj => by cases hj)
            have lt29 := fun g e => (⟨(ho29.lt g e).1, (ho29.lt g e).2⟩ : W28x.heap.size ≤ g ∧ g < W29x.heap.size)
            have hz29 := hb29.size
            clear hown29 hgr29
            go_wp2
            have bl29 := bl28.trans (hb29.mono (by have := bl28.size; omega))
            have o29r2 := own_below o28r2 hb29
            have o29r10 := own_below ho28 hb29
            have sb29 := sb28.below hb29
            refine behind_normal ⟨cell_keep bl29 (Nat.le_refl _) c0, cell_keep bl29 (Nat.le_refl _) c3⟩ ?_
            refine anyT_take (i := 11) _ ?vg30 rfl (by kernel_rfl) (by kernel_rfl) (by kernel_rfl) (by intro c a d v w h; cases d <;> exact h) rfl ?yg30 ⟨cell_keep bl29 (Nat.le_refl _) c0, cell_keep bl29 (Nat.le_refl _) c3⟩ ?_
            case yg30 => intro w hS; go_simp; first | done | with_reducible rfl
            simp only [Act.put]
            refine anyT_one (i := 13) _ rfl (by kernel_rfl) ?_
            have kx0 : W29x.cell? ⟨W9x.heap.size, 0, none⟩ = some (.slice none 0 0) := sb29.cell 0
            have kx1 : W29x.cell? ⟨W9x.heap.size, 1, none⟩ = some (.slice none 0 0) := sb29.cell 1
            have kx2 : W29x.cell? ⟨W9x.heap.size, 2, none⟩ = some (.slice none 0 0) := sb29.cell 2
            have kf0 := sb29.frozen 0
            have kf1 := sb29.frozen 1
            have kf2 := sb29.frozen 2
            go_wp2
            refine behind_last (by kernel_rfl) (anyT_done (by kernel_rfl) ?_ _)
            go_wp2_with fail
            go_meet
            case rel =>
              have hr := rows3 (B := W1.heap.size) o29r2 ho29 o29r10 lt9 lt29 lt28 ⟨by omega, by omega, by omega⟩ (by omega) (by omega) (by omega)
              exact ⟨W9x.heap.size, _, _, _, rfl, (((sb29.set 0 _).set 1 _).set 2 _), ((hr.setStr sb29 (by decide) 0 _).setStr (sb29.set 0 _) (by decide) 1 _).setStr ((sb29.set 0 _).set 1 _) (by decide) 2 _, ((bl29.setCell (by show W1.heap.size ≤ W9x.heap.size; omega) _).setCell (by show W1.heap.size ≤ W9x.heap.size; omega) _).setCell (by show W1.heap.size ≤ W9x.heap.size; omega) _, by omega⟩
    · refine ⟨_, rfl, ?_⟩
      go_wp2_with (at_make; refine wpList_make_full _ rfl _ _ 28 rfl W2.heap.size 3 i0 (.int .i64 0) 1 Try.underlying28 HI.out HZ0.out HZ1.out .i64 .i64 _ _ s.came.length rfl rfl rfl rfl (by rw [HZ2.out]; omega) (by unfold maxLen; omega) (Nat.le_refl _) ?_)
      intro W31x hown31 hgr31
      rw [toList_madeCells_one] at hown31
      have ho31 := zeros_own hown31
      have hb31 : Below W2.heap.size W2 W31x := (Below.refl _ _).grown hgr31 (Nat.le_refl _) (fun j hj => by cases hj)
      have lt31 := fun g e => (⟨(ho31.lt g e).1, (ho31.lt g e).2⟩ : W2.heap.size ≤ g ∧ g < W31x.heap.size)
      have hz31 := hb31.size
      clear hown31 hgr31
      go_wp2
      have bl31 := bl0.trans (hb31.mono (by have := bl0.size; omega))
      refine behind_normal ⟨cell_keep bl31 (Nat.le_refl _) c0, cell_keep bl31 (Nat.le_refl _) c3⟩ ?_
      refine anyT_ready (rs := [2, 10, 12]) (by kernel_rfl) (by simp) ?_
      intro i hi
      simp only [List.mem_cons, List.not_mem_nil, or_false] at hi
      rcases hi with rfl | rfl | rfl
      · refine ⟨_, rfl, ?_⟩
        go_wp2_with fail
        refine (clone_own W31x _ s.parent (hpar W31x bl31) (by rw [HPL.out]; omega)).mono ?_
        rintro e W32x ⟨v32, rfl, ho32, hb32⟩
        obtain ⟨A32, c32, hv32⟩ := ho32.form
        rw [HPL.out] at hv32
        subst hv32
        have lt32 := fun g e => (⟨(ho32.lt g e).1, (ho32.lt g e).2⟩ : W31x.heap.size ≤ g ∧ g < W32x.heap.size)
        have hz32 := hb32.size
        go_wp2
        have bl32 := bl31.trans (hb32.mono (by have := bl31.size; omega))
        have o32r6 := own_below ho31 hb32
        refine behind_normal ⟨cell_keep bl32 (Nat.le_refl _) c0, cell_keep bl32 (Nat.le_refl _) c3⟩ ?_
        refine anyT_ready (rs := [10, 12]) (by kernel_rfl) (by simp) ?_
        intro i hi
        simp only [List.mem_cons, List.not_mem_nil, or_false] at hi
        rcases hi with rfl | rfl
        · refine ⟨_, rfl, ?_⟩
          go_wp2_with (at_make; refine wpList_make_full _ rfl _ _ 28 rfl W32x.heap.size 3 i0 (.int .i64 0) 1 Try.underlying28 HI.out HZ0.out HZ1.out .i64 .i64 _ _ s.came.length rfl rfl rfl rfl (by rw [HZ2.out]; omega) (by unfold maxLen; omega) (Nat.le_refl _) ?_)
          intro W33x hown33 hgr33
          rw [toList_madeCells_one] at hown33
          have ho33 := zeros_own hown33
          have hb33 : Below W32x.heap.size W32x W33x := (Below.refl _ _).grown hgr33 (Nat.le_refl _) (fun j hj => by cases hj)
          have lt33 := fun g e => (⟨(ho33.lt g e).1, (ho33.lt g e).2⟩ : W32x.heap.size ≤ g ∧ g < W33x.heap.size)
          have hz33 := hb33.size
          clear hown33 hgr33
          go_wp2
          have bl33 := bl32.trans (hb33.mono (by have := bl32.size; omega))
          have o33r6 := own_below o32r6 hb33
          have o33r2 := own_below ho32 hb33
          refine behind_normal ⟨cell_keep bl33 (Nat.le_refl _) c0, cell_keep bl33 (Nat.le_refl _) c3⟩ ?_
          refine anyT_take (i := 11) _ ?vg34 rfl (by kernel_rfl) (by kernel_rfl) (by kernel_rfl) (by intro c a d v w h; cases d <;> exact h) rfl ?yg34 ⟨cell_keep bl33 (Nat.le_refl _) c0, cell_keep bl33 (Nat.le_refl _) c3⟩ ?_
          case yg34 => intro w hS; go_simp; first | done | with_reducible rfl
          simp only [Act.put]
          refine anyT_ready (rs := [12]) (by kernel_rfl) (by simp) ?_
          intro i hi
          simp only [List.mem_cons, List.not_mem_nil, or_false] at hi
          subst hi
          · refine ⟨_, rfl, ?_⟩
            go_wp2
            obtain ⟨W35x, hW35⟩ : ∃ W', W33x.alloc (.cells #[.slice none 0 0, .slice none 0 0, .slice none 0 0] 136) = W' := ⟨_, rfl⟩
            rw [hW35]
            have hb35 : Below W33x.heap.size W33x W35x := by rw [← hW35]; exact (Below.refl _ _).alloc (Nat.le_refl _) _
            have hs35 : Str W35x W33x.heap.size 136 [.slice none 0 0, .slice none 0 0, .slice none 0 0] := by rw [← hW35]; exact World.alloc_heap_new W33x _
            have hz35 : W33x.heap.size + 1 ≤ W35x.heap.size := by rw [← hW35]; simp
            clear hW35
            have bl35 := bl33.trans (hb35.mono (by have := bl33.size; omega))
            have o35r6 := own_below o33r6 hb35
            have o35r2 := own_below o33r2 hb35
            have o35r10 := own_below ho33 hb35
            refine behind_normal ⟨cell_keep bl35 (Nat.le_refl _) c0, cell_keep bl35 (Nat.le_refl _) c3⟩ ?_
            refine anyT_one (i := 13) _ rfl (by kernel_rfl) ?_
            have kx0 : W35x.cell? ⟨W33x.heap.size, 0, none⟩ = some (.slice none 0 0) := hs35.cell 0
            have kx1 : W35x.cell? ⟨W33x.heap.size, 1, none⟩ = some (.slice none 0 0) := hs35.cell 1
            have kx2 : W35x.cell? ⟨W33x.heap.size, 2, none⟩ = some (.slice none 0 0) := hs35.cell 2
            have kf0 := hs35.frozen 0
            have kf1 := hs35.frozen 1
            have kf2 := hs35.frozen 2
            go_wp2
            refine behind_last (by kernel_rfl) (anyT_done (by kernel_rfl) ?_ _)
            go_wp2_with fail
            go_meet
            case rel =>
              have hr := rows3 (B := W1.heap.size) o35r2 o35r6 o35r10 lt32 lt31 lt33 ⟨by omega, by omega, by omega⟩ (by omega) (by omega) (by omega)
              exact ⟨W33x.heap.size, _, _, _, rfl, (((hs35.set 0 _).set 1 _).set 2 _), ((hr.setStr hs35 (by decide) 0 _).setStr (hs35.set 0 _) (by decide) 1 _).setStr ((hs35.set 0 _).set 1 _) (by decide) 2 _, ((bl35.setCell (by show W1.heap.size ≤ W33x.heap.size; omega) _).setCell (by show W1.heap.size ≤ W33x.heap.size; omega) _).setCell (by show W1.heap.size ≤ W33x.heap.size; omega) _, by omega⟩
        · refine ⟨_, rfl, ?_⟩
          go_wp2
          obtain ⟨W36x, hW36⟩ : ∃ W', W32x.alloc (.cells #[.slice none 0 0, .slice none 0 0, .slice none 0 0] 136) = W' := ⟨_, rfl⟩
          rw [hW36]
          have hb36 : Below W32x.heap.size W32x W36x := by rw [← hW36]; exact (Below.refl _ _).alloc (Nat.le_refl _) _
          have hs36 : Str W36x W32x.heap.size 136 [.slice none 0 0, .slice none 0 0, .slice none 0 0] := by rw [← hW36]; exact World.alloc_heap_new W32x _
          have hz36 : W32x.heap.size + 1 ≤ W36x.heap.size := by rw [← hW36]; simp
          clear hW36
          have bl36 := bl32.trans (hb36.mono (by have := bl32.size; omega))
          have o36r6 := own_below o32r6 hb36
          have o36r2 := own_below ho32 hb36
          refine behind_normal ⟨cell_keep bl36 (Nat.le_refl _) c0, cell_keep bl36 (Nat.le_refl _) c3⟩ ?_
          refine anyT_ready (rs := [10]) (by kernel_rfl) (by simp) ?_
          intro i hi
          simp only [List.mem_cons, List.not_mem_nil, or_false] at hi
          subst hi
          · refine ⟨_, rfl, ?_⟩
            go_wp2_with (at_make; refine wpList_make_full _ rfl _ _ 28 rfl W36x.heap.size 3 i0 (.int .i64 0) 1 Try.underlying28 HI.out HZ0.out HZ1.out .i64 .i64 _ _ s.came.length rfl rfl rfl rfl (by rw [HZ2.out]; omega) (by unfold maxLen; omega) (Nat.le_refl _) ?_)
            intro W37x hown37 hgr37
            rw [toList_madeCells_one] at hown37
            have ho37 := zeros_own hown37
            have hb37 : Below W36x.heap.size W36x W37x := (Below.refl _ _).grown hgr37 (Nat.le_refl _) (fun j hj => by cases hj)
            have lt37 := fun g e => (⟨(ho37.lt g e).1, (ho37.lt g e).2⟩ : W36x.heap.size ≤ g ∧ g < W37x.heap.size)
            have hz37 := hb37.size
            clear hown37 hgr37
            go_wp2
            have bl37 := bl36.trans (hb37.mono (by have := bl36.size; omega))
            have o37r6 := own_below o36r6 hb37
            have o37r2 := own_below o36r2 hb37
            have sb37 := hs36.below hb37
            refine behind_normal ⟨cell_keep bl37 (Nat.le_refl _) c0, cell_keep bl37 (Nat.le_refl _) c3⟩ ?_
            refine anyT_take (i := 11) _ ?vg38 rfl (by kernel_rfl) (by kernel_rfl) (by kernel_rfl) (by intro c a d v w h; cases d <;> exact h) rfl ?yg38 ⟨cell_keep bl37 (Nat.le_refl _) c0, cell_keep bl37 (Nat.le_refl _) c3⟩ ?_
            case yg38 => intro w hS; go_simp; first | done | with_reducible rfl
            simp only [Act.put]
            refine anyT_one (i := 13) _ rfl (by kernel_rfl) ?_
            have kx0 : W37x.cell? ⟨W32x.heap.size, 0, none⟩ = some (.slice none 0 0) := sb37.cell 0
            have kx1 : W37x.cell? ⟨W32x.heap.size, 1, none⟩ = some (.slice none 0 0) := sb37.cell 1
            have kx2 : W37x.cell? ⟨W32x.heap.size, 2, none⟩ = some (.slice none 0 0) := sb37.cell 2
            have kf0 := sb37.frozen 0
            have kf1 := sb37.frozen 1
            have kf2 := sb37.frozen 2
            go_wp2
            refine behind_last (by kernel_rfl) (anyT_done (by kernel_rfl) ?_ _)
            go_wp2_with fail
            go_meet
            case rel =>
              have hr := rows3 (B := W1.heap.size) o37r2 o37r6 ho37 lt32 lt31 lt37 ⟨by omega, by omega, by omega⟩ (by omega) (by omega) (by omega)
              exact ⟨W32x.heap.size, _, _, _, rfl, (((sb37.set 0 _).set 1 _).set 2 _), ((hr.setStr sb37 (by decide) 0 _).setStr (sb37.set 0 _) (by decide) 1 _).setStr ((sb37.set 0 _).set 1 _) (by decide) 2 _, ((bl37.setCell (by show W1.heap.size ≤ W32x.heap.size; omega) _).setCell (by show W1.heap.size ≤ W32x.heap.size; omega) _).setCell (by show W1.heap.size ≤ W32x.heap.size; omega) _, by omega⟩
      · refine ⟨_, rfl, ?_⟩
        go_wp2_with (at_make; refine wpList_make_full _ rfl _ _ 28 rfl W31x.heap.size 3 i0 (.int .i64 0) 1 Try.underlying28 HI.out HZ0.out HZ1.out .i64 .i64 _ _ s.came.length rfl rfl rfl rfl (by rw [HZ2.out]; omega) (by unfold maxLen; omega) (Nat.le_refl _) ?_)
        intro W39x hown39 hgr39
        rw [toList_madeCells_one] at hown39
        have ho39 := zeros_own hown39
        have hb39 : Below W31x.heap.size W31x W39x := (Below.refl _ _).grown hgr39 (Nat.le_refl _) (fun j hj => by cases hj)
        have lt39 := fun g e => (⟨(ho39.lt g e).1, (ho39.lt g e).2⟩ : W31x.heap.size ≤ g ∧ g < W39x.heap.size)
        have hz39 := hb39.size
        clear hown39 hgr39
        go_wp2
        have bl39 := bl31.trans (hb39.mono (by have := bl31.size; omega))
        have o39r6 := own_below ho31 hb39
        refine behind_normal ⟨cell_keep bl39 (Nat.le_refl _) c0, cell_keep bl39 (Nat.le_refl _) c3⟩ ?_
        refine anyT_ready (rs := [2, 12]) (by kernel_rfl) (by simp) ?_
        intro i hi
        simp only [List.mem_cons, List.not_mem_nil, or_false] at hi
        rcases hi with rfl | rfl
        · refine ⟨_, rfl, ?_⟩
          go_wp2_with fail
          refine (clone_own W39x _ s.parent (hpar W39x bl39) (by rw [HPL.out]; omega)).mono ?_
          rintro e W40x ⟨v40, rfl, ho40, hb40⟩
          obtain ⟨A40, c40, hv40⟩ := ho40.form
          rw [HPL.out] at hv40
          subst hv40
          have lt40 := fun g e => (⟨(ho40.lt g e).1, (ho40.lt g e).2⟩ : W39x.heap.size ≤ g ∧ g < W40x.heap.size)
          have hz40 := hb40.size
          go_wp2
          have bl40 := bl39.trans (hb40.mono (by have := bl39.size; omega))
          have o40r6 := own_below o39r6 hb40
          have o40r10 := own_below ho39 hb40
          refine behind_normal ⟨cell_keep bl40 (Nat.le_refl _) c0, cell_keep bl40 (Nat.le_refl _) c3⟩ ?_
          refine anyT_take (i := 11) _ ?vg41 rfl (by kernel_rfl) (by kernel_rfl) (by kernel_rfl) (by intro c a d v w h; cases d <;> exact h) rfl ?yg41 ⟨cell_keep bl40 (Nat.le_refl _) c0, cell_keep bl40 (Nat.le_refl _) c3⟩ ?_
          case yg41 => intro w hS; go_simp; first | done | with_reducible rfl
          simp only [Act.put]
          refine anyT_ready (rs := [12]) (by kernel_rfl) (by simp) ?_
          intro i hi
          simp only [List.mem_cons, List.not_mem_nil, or_false] at hi
          subst hi
          · refine ⟨_, rfl, ?_⟩
            go_wp2
            obtain ⟨W42x, hW42⟩ : ∃ W', W40x.alloc (.cells #[.slice none 0 0, .slice none 0 0, .slice none 0 0] 136) = W' := ⟨_, rfl⟩
            rw [hW42]
            have hb42 : Below W40x.heap.size W40x W42x := by rw [← hW42]; exact (Below.refl _ _).alloc (Nat.le_refl _) _
            have hs42 : Str W42x W40x.heap.size 136 [.slice none 0 0, .slice none 0 0, .slice none 0 0] := by rw [← hW42]; exact World.alloc_heap_new W40x _
            have hz42 : W40x.heap.size + 1 ≤ W42x.heap.size := by rw [← hW42]; simp
            clear hW42
            have bl42 := bl40.trans (hb42.mono (by have := bl40.size; omega))
            have o42r6 := own_below o40r6 hb42
            have o42r10 := own_below o40r10 hb42
            have o42r2 := own_below ho40 hb42
            refine behind_normal ⟨cell_keep bl42 (Nat.le_refl _) c0, cell_keep bl42 (Nat.le_refl _) c3⟩ ?_
            refine anyT_one (i := 13) _ rfl (by kernel_rfl) ?_
            have kx0 : W42x.cell? ⟨W40x.heap.size, 0, none⟩ = some (.slice none 0 0) := hs42.cell 0
            have kx1 : W42x.cell? ⟨W40x.heap.size, 1, none⟩ = some (.slice none 0 0) := hs42.cell 1
            have kx2 : W42x.cell? ⟨W40x.heap.size, 2, none⟩ = some (.slice none 0 0) := hs42.cell 2
            have kf0 := hs42.frozen 0
            have kf1 := hs42.frozen 1
            have kf2 := hs42.frozen 2
            go_wp2
            refine behind_last (by kernel_rfl) (anyT_done (by kernel_rfl) ?_ _)
            go_wp2_with fail
            go_meet
            case rel =>
              have hr := rows3 (B := W1.heap.size) o42r2 o42r6 o42r10 lt40 lt31 lt39 ⟨by omega, by omega, by omega⟩ (by omega) (by omega) (by omega)
              exact ⟨W40x.heap.size, _, _, _, rfl, (((hs42.set 0 _).set 1 _).set 2 _), ((hr.setStr hs42 (by decide) 0 _).setStr (hs42.set 0 _) (by decide) 1 _).setStr ((hs42.set 0 _).set 1 _) (by decide) 2 _, ((bl42.setCell (by show W1.heap.size ≤ W40x.heap.size; omega) _).setCell (by show W1.heap.size ≤ W40x.heap.size; omega) _).setCell (by show W1.heap.size ≤ W40x.heap.size; omega) _, by omega⟩
        · refine ⟨_, rfl, ?_⟩
          go_wp2
          obtain ⟨W43x, hW43⟩ : ∃ W', W39x.alloc (.cells #[.slice none 0 0, .slice none 0 0, .slice none 0 0] 136) = W' := ⟨_, rfl⟩
          rw [hW43]
          have hb43 : Below W39x.heap.size W39x W43x := by rw [← hW43]; exact (Below.refl _ _).alloc (Nat.le_refl _) _
          have hs43 : Str W43x W39x.heap.size 136 [.slice none 0 0, .slice none 0 0, .slice none 0 0] := by rw [← hW43]; exact World.alloc_heap_new W39x _
          have hz43 : W39x.heap.size + 1 ≤ W43x.heap.size := by rw [← hW43]; simp
          clear hW43
          have bl43 := bl39.trans (hb43.mono (by have := bl39.size; omega))
          have o43r6 := own_below o39r6 hb43
          have o43r10 := own_below ho39 hb43
          refine behind_normal ⟨cell_keep bl43 (Nat.le_refl _) c0, cell_keep bl43 (Nat.le_refl _) c3⟩ ?_
          refine anyT_ready (rs := [2]) (by kernel_rfl) (by simp) ?_
          intro i hi
          simp only [List.mem_cons, List.not_mem_nil, or_false] at hi
          subst hi
          · refine ⟨_, rfl, ?_⟩
            go_wp2_with fail
            refine (clone_own W43x _ s.parent (hpar W43x bl43) (by rw [HPL.out]; omega)).mono ?_
            rintro e W44x ⟨v44, rfl, ho44, hb44⟩
            obtain ⟨A44, c44, hv44⟩ := ho44.form
            rw [HPL.out] at hv44
            subst hv44
            have lt44 := fun g e => (⟨(ho44.lt g e).1, (ho44.lt g e).2⟩ : W43x.heap.size ≤ g ∧ g < W44x.heap.size)
            have hz44 := hb44.size
            go_wp2
            have bl44 := bl43.trans (hb44.mono (by have := bl43.size; omega))
            have o44r6 := own_below o43r6 hb44
            have o44r10 := own_below o43r10 hb44
            have sb44 := hs43.below hb44
            refine behind_normal ⟨cell_keep bl44 (Nat.le_refl _) c0, cell_keep bl44 (Nat.le_refl _) c3⟩ ?_
            refine anyT_take (i := 11) _ ?vg45 rfl (by kernel_rfl) (by kernel_rfl) (by kernel_rfl) (by intro c a d v w h; cases d <;> exact h) rfl ?yg45 ⟨cell_keep bl44 (Nat.le_refl _) c0, cell_keep bl44 (Nat.le_refl _) c3⟩ ?_
            case yg45 => intro w hS; go_simp; first | done | with_reducible rfl
            simp only [Act.put]
            refine anyT_one (i := 13) _ rfl (by kernel_rfl) ?_
            have kx0 : W44x.cell? ⟨W39x.heap.size, 0, none⟩ = some (.slice none 0 0) := sb44.cell 0
            have kx1 : W44x.cell? ⟨W39x.heap.size, 1, none⟩ = some (.slice none 0 0) := sb44.cell 1
            have kx2 : W44x.cell? ⟨W39x.heap.size, 2, none⟩ = some (.slice none 0 0) := sb44.cell 2
            have kf0 := sb44.frozen 0
            have kf1 := sb44.frozen 1
            have kf2 := sb44.frozen 2
            go_wp2
            refine behind_last (by kernel_rfl) (anyT_done (by kernel_rfl) ?_ _)
            go_wp2_with fail
            go_meet
            case rel =>
              have hr := rows3 (B := W1.heap.size) ho44 o44r6 o44r10 lt44 lt31 lt39 ⟨by omega, by omega, by omega⟩ (by omega) (by omega) (by omega)
              exact ⟨W39x.heap.size, _, _, _, rfl, (((sb44.set 0 _).set 1 _).set 2 _), ((hr.setStr sb44 (by decide) 0 _).setStr (sb44.set 0 _) (by decide) 1 _).setStr ((sb44.set 0 _).set 1 _) (by decide) 2 _, ((bl44.setCell (by show W1.heap.size ≤ W39x.heap.size; omega) _).setCell (by show W1.heap.size ≤ W39x.heap.size; omega) _).setCell (by show W1.heap.size ≤ W39x.heap.size; omega) _, by omega⟩
      · refine ⟨_, rfl, ?_⟩
        go_wp2
        obtain ⟨W46x, hW46⟩ : ∃ W', W31x.alloc (.cells #[.slice none 0 0, .slice none 0 0, .slice none 0 0] 136) = W' := ⟨_, rfl⟩
        rw [hW46]
        have hb46 : Below W31x.heap.size W31x W46x := by rw [← hW46]; exact (Below.refl _ _).alloc (Nat.le_refl _) _
        have hs46 : Str W46x W31x.heap.size 136 [.slice none 0 0, .slice none 0 0, .slice none 0 0] := by rw [← hW46]; exact World.alloc_heap_new W31x _
        have hz46 : W31x.heap.size + 1 ≤ W46x.heap.size := by rw [← hW46]; simp
        clear hW46
        have bl46 := bl31.trans (hb46.mono (by have := bl31.size; omega))
        have o46r6 := own_below ho31 hb46
        refine behind_normal ⟨cell_keep bl46 (Nat.le_refl _) c0, cell_keep bl46 (Nat.le_refl _) c3⟩ ?_
        refine anyT_ready (rs := [2, 10]) (by kernel_rfl) (by simp) ?_
        intro i hi
        simp only [List.mem_cons, List.not_mem_nil, or_false] at hi
        rcases hi with rfl | rfl
        · refine ⟨_, rfl, ?_⟩
          go_wp2_with fail
          refine (clone_own W46x _ s.parent (hpar W46x bl46) (by rw [HPL.out]; omega)).mono ?_
          rintro e W47x ⟨v47, rfl, ho47, hb47⟩
          obtain ⟨A47, c47, hv47⟩ := ho47.form
          rw [HPL.out] at hv47
          subst hv47
          have lt47 := fun g e => (⟨(ho47.lt g e).1, (ho47.lt g e).2⟩ : W46x.heap.size ≤ g ∧ g < W47x.heap.size)
          have hz47 := hb47.size
          go_wp2
          have bl47 := bl46.trans (hb47.mono (by have := bl46.size; omega))
          have o47r6 := own_below o46r6 hb47
          have sb47 := hs46.below hb47
          refine behind_normal ⟨cell_keep bl47 (Nat.le_refl _) c0, cell_keep bl47 (Nat.le_refl _) c3⟩ ?_
          refine anyT_ready (rs := [10]) (by kernel_rfl) (by simp) ?_
          intro i hi
          simp only [List.mem_cons, List.not_mem_nil, or_false] at hi
          subst hi
          · refine ⟨_, rfl, ?_⟩
            go_wp2_with (at_make; refine wpList_make_full _ rfl _ _ 28 rfl W47x.heap.size 3 i0 (.int .i64 0) 1 Try.underlying28 HI.out HZ0.out HZ1.out .i64 .i64 _ _ s.came.length rfl rfl rfl rfl (by rw [HZ2.out]; omega) (by unfold maxLen; omega) (Nat.le_refl _) ?_)
            intro W48x hown48 hgr48
            rw [toList_madeCells_one] at hown48
            have ho48 := zeros_own hown48
            have hb48 : Below W47x.heap.size W47x W48x := (Below.refl _ _).grown hgr48 (Nat.le_refl _) (fun j hj => by cases hj)
            have lt48 := fun g e => (⟨(ho48.lt g e).1, (ho48.lt g e).2⟩ : W47x.heap.size ≤ g ∧ g < W48x.heap.size)
            have hz48 := hb48.size
            clear hown48 hgr48
            go_wp2
            have bl48 := bl47.trans (hb48.mono (by have := bl47.size; omega))
            have o48r6 := own_below o47r6 hb48
            have o48r2 := own_below ho47 hb48
            have sb48 := sb47.below hb48
            refine behind_normal ⟨cell_keep bl48 (Nat.le_refl _) c0, cell_keep bl48 (Nat.le_refl _) c3⟩ ?_
            refine anyT_take (i := 11) _ ?vg49 rfl (by kernel_rfl) (by kernel_rfl) (by kernel_rfl) (by intro c a d v w h; cases d <;> exact h) rfl ?yg49 ⟨cell_keep bl48 (Nat.le_refl _) c0, cell_keep bl48 (Nat.le_refl _) c3⟩ ?_
            case yg49 => intro w hS; go_simp; first | done | with_reducible rfl
            simp only [Act.put]
            refine anyT_one (i := 13) _ rfl (by kernel_rfl) ?_
            have kx0 : W48x.cell? ⟨W31x.heap.size, 0, none⟩ = some (.slice none 0 0) := sb48.cell 0
            have kx1 : W48x.cell? ⟨W31x.heap.size, 1, none⟩ = some (.slice none 0 0) := sb48.cell 1
            have kx2 : W48x.cell? ⟨W31x.heap.size, 2, none⟩ = some (.slice none 0 0) := sb48.cell 2
            have kf0 := sb48.frozen 0
            have kf1 := sb48.frozen 1
            have kf2 := sb48.frozen 2
            go_wp2
            refine behind_last (by kernel_rfl) (anyT_done (by kernel_rfl) ?_ _)
            go_wp2_with fail
            go_meet
            case rel =>
              have hr := rows3 (B := W1.heap.size) o48r2 o48r6 ho48 lt47 lt31 lt48 ⟨by omega, by omega, by omega⟩ (by omega) (by omega) (by omega)
              exact ⟨W31x.heap.size, _, _, _, rfl, (((sb48.set 0 _).set 1 _).set 2 _), ((hr.setStr sb48 (by decide) 0 _).setStr (sb48.set 0 _) (by decide) 1 _).setStr ((sb48.set 0 _).set 1 _) (by decide) 2 _, ((bl48.setCell (by show W1.heap.size ≤ W31x.heap.size; omega) _).setCell (by show W1.heap.size ≤ W31x.heap.size; omega) _).setCell (by show W1.heap.size ≤ W31x.heap.size; omega) _, by omega⟩
        · refine ⟨_, rfl, ?_⟩
          go_wp2_with (at_make; refine wpList_make_full _ rfl _ _ 28 rfl W46x.heap.size 3 i0 (.int .i64 0) 1 Try.underlying28 HI.out HZ0.out HZ1.out .i64 .i64 _ _ s.came.length rfl rfl rfl rfl (by rw [HZ2.out]; omega) (by unfold maxLen; omega) (Nat.le_refl _) ?_)
          intro W50x hown50 hgr50
          rw [toList_madeCells_one] at hown50
          have ho50 := zeros_own hown50
          have hb50 : Below W46x.heap.size W46x W50x := (Below.refl _ _).grown hgr50 (Nat.le_refl _) (fun j hj => by cases hj)
          have lt50 := fun g e => (⟨(ho50.lt g e).1, (ho50.lt g e).2⟩ : W46x.heap.size ≤ g ∧ g < W50x.heap.size)
          have hz50 := hb50.size
          clear hown50 hgr50
          go_wp2
          have bl50 := bl46.trans (hb50.mono (by have := bl46.size; omega))
          have o50r6 := own_below o46r6 hb50
          have sb50 := hs46.below hb50
          refine behind_normal ⟨cell_keep bl50 (Nat.le_refl _) c0, cell_keep bl50 (Nat.le_refl _) c3⟩ ?_
          refine anyT_ready (rs := [2]) (by kernel_rfl) (by simp) ?_
          intro i hi
          simp only [List.mem_cons, List.not_mem_nil, or_false] at hi
          subst hi
          · refine ⟨_, rfl, ?_⟩
            go_wp2_with fail
            refine (clone_own W50x _ s.parent (hpar W50x bl50) (by rw [HPL.out]; omega)).mono ?_
            rintro e W51x ⟨v51, rfl, ho51, hb51⟩
            obtain ⟨A51, c51, hv51⟩ := ho51.form
            rw [HPL.out] at hv51
            subst hv51
            have lt51 := fun g e => (⟨(ho51.lt g e).1, (ho51.lt g e).2⟩ : W50x.heap.size ≤ g ∧ g < W51x.heap.size)
            have hz51 := hb51.size
            go_wp2
            have bl51 := bl50.trans (hb51.mono (by have := bl50.size; omega))
            have o51r6 := own_below o50r6 hb51
            have o51r10 := own_below ho50 hb51
            have sb51 := sb50.below hb51
            refine behind_normal ⟨cell_keep bl51 (Nat.le_refl _) c0, cell_keep bl51 (Nat.le_refl _) c3⟩ ?_
            refine anyT_take (i := 11) _ ?vg52 rfl (by kernel_rfl) (by kernel_rfl) (by kernel_rfl) (by intro c a d v w h; cases d <;> exact h) rfl ?yg52 ⟨cell_keep bl51 (Nat.le_refl _) c0, cell_keep bl51 (Nat.le_refl _) c3⟩ ?_
            case yg52 => intro w hS; go_simp; first | done | with_reducible rfl
            simp only [Act.put]
            refine anyT_one (i := 13) _ rfl (by kernel_rfl) ?_
            have kx0 : W51x.cell? ⟨W31x.heap.size, 0, none⟩ = some (.slice none 0 0) := sb51.cell 0
            have kx1 : W51x.cell? ⟨W31x.heap.size, 1, none⟩ = some (.slice none 0 0) := sb51.cell 1
            have kx2 : W51x.cell? ⟨W31x.heap.size, 2, none⟩ = some (.slice none 0 0) := sb51.cell 2
            have kf0 := sb51.frozen 0
            have kf1 := sb51.frozen 1
            have kf2 := sb51.frozen 2
            go_wp2
            refine behind_last (by kernel_rfl) (anyT_done (by kernel_rfl) ?_ _)
            go_wp2_with fail
            go_meet
            case rel =>
              have hr := rows3 (B := W1.heap.size) ho51 o51r6 o51r10 lt51 lt31 lt50 ⟨by omega, by omega, by omega⟩ (by omega) (by omega) (by omega)
              exact ⟨W31x.heap.size, _, _, _, rfl, (((sb51.set 0 _).set 1 _).set 2 _), ((hr.setStr sb51 (by decide) 0 _).setStr (sb51.set 0 _) (by decide) 1 _).setStr ((sb51.set 0 _).set 1 _) (by decide) 2 _, ((bl51.setCell (by show W1.heap.size ≤ W31x.heap.size; omega) _).setCell (by show W1.heap.size ≤ W31x.heap.size; omega) _).setCell (by show W1.heap.size ≤ W31x.heap.size; omega) _, by omega⟩
    · refine ⟨_, rfl, ?_⟩
      go_wp2_with (at_make; refine wpList_make_full _ rfl _ _ 28 rfl W2.heap.size 3 i0 (.int .i64 0) 1 Try.underlying28 HI.out HZ0.out HZ1.out .i64 .i64 _ _ s.came.length rfl rfl rfl rfl (by rw [HZ2.out]; omega) (by unfold maxLen; omega) (Nat.le_refl _) ?_)
      intro W53x hown53 hgr53
      rw [toList_madeCells_one] at hown53
      have ho53 := zeros_own hown53
      have hb53 : Below W2.heap.size W2 W53x := (Below.refl _ _).grown hgr53 (Nat.le_refl _) (fun j hj => by cases hj)
      have lt53 := fun g e => (⟨(ho53.lt g e).1, (ho53.lt g e).2⟩ : W2.heap.size ≤ g ∧ g < W53x.heap.size)
      have hz53 := hb53.size
      clear hown53 hgr53
      go_wp2
      have bl53 := bl0.trans (hb53.mono (by have := bl0.size; omega))
      refine behind_normal ⟨cell_keep bl53 (Nat.le_refl _) c0, cell_keep bl53 (Nat.le_refl _) c3⟩ ?_
      refine anyT_ready (rs := [2, 6, 12]) (by kernel_rfl) (by simp) ?_
      intro i hi
      simp only [List.mem_cons, List.not_mem_nil, or_false] at hi
      rcases hi with rfl | rfl | rfl
      · refine ⟨_, rfl, ?_⟩
        go_wp2_with fail
        refine (clone_own W53x _ s.parent (hpar W53x bl53) (by rw [HPL.out]; omega)).mono ?_
        rintro e W54x ⟨v54, rfl, ho54, hb54⟩
        obtain ⟨A54, c54, hv54⟩ := ho54.form
        rw [HPL.out] at hv54
        subst hv54
        have lt54 := fun g e => (⟨(ho54.lt g e).1, (ho54.lt g e).2⟩ : W53x.heap.size ≤ g ∧ g < W54x.heap.size)
        have hz54 := hb54.size
        go_wp2
        have bl54 := bl53.trans (hb54.mono (by have := bl53.size; omega))
        have o54r10 := own_below ho53 hb54
        refine behind_normal ⟨cell_keep bl54 (Nat.le_refl _) c0, cell_keep bl54 (Nat.le_refl _) c3⟩ ?_
        refine anyT_ready (rs := [6, 12]) (by kernel_rfl) (by simp) ?_
        intro i hi
        simp only [List.mem_cons, List.not_mem_nil, or_false] at hi
        rcases hi with rfl | rfl
        · refine ⟨_, rfl, ?_⟩
          go_wp2_with (at_make; refine wpList_make_full _ rfl _ _ 28 rfl W54x.heap.size 3 i0 (.int .i64 0) 1 Try.underlying28 HI.out HZ0.out HZ1.out .i64 .i64 _ _ s.came.length rfl rfl rfl rfl (by rw [HZ2.out]; omega) (by unfold maxLen; omega) (Nat.le_refl _) ?_)
          intro W55x hown55 hgr55
          rw [toList_madeCells_one] at hown55
          have ho55 := zeros_own hown55
          have hb55 : Below W54x.heap.size W54x W55x := (Below.refl _ _).grown hgr55 (Nat.le_refl _) (fun j hj => by cases hj)
          have lt55 := fun g e => (⟨(ho55.lt g e).1, (ho55.lt g e).2⟩ : W54x.heap.size ≤ g ∧ g < W55x.heap.size)
          have hz55 := hb55.size
          clear hown55 hgr55
          go_wp2
          have bl55 := bl54.trans (hb55.mono (by have := bl54.size; omega))
          have o55r10 := own_below o54r10 hb55
          have o55r2 := own_below ho54 hb55
          refine behind_normal ⟨cell_keep bl55 (Nat.le_refl _) c0, cell_keep bl55 (Nat.le_refl _) c3⟩ ?_
          refine anyT_take (i := 11) _ ?vg56 rfl (by kernel_rfl) (by kernel_rfl) (by kernel_rfl) (by intro c a d v w h; cases d <;> exact h) rfl ?yg56 ⟨cell_keep bl55 (Nat.le_refl _) c0, cell_keep bl55 (Nat.le_refl _) c3⟩ ?_
          case yg56 => intro w hS; go_simp; first | done | with_reducible rfl
          simp only [Act.put]
          refine anyT_ready (rs := [12]) (by kernel_rfl) (by simp) ?_
          intro i hi
          simp only [List.mem_cons, List.not_mem_nil, or_false] at hi
          subst hi
          · refine ⟨_, rfl, ?_⟩
            go_wp2
            obtain ⟨W57x, hW57⟩ : ∃ W', W55x.alloc (.cells #[.slice none 0 0, .slice none 0 0, .slice none 0 0] 136) = W' := ⟨_, rfl⟩
            rw [hW57]
            have hb57 : Below W55x.heap.size W55x W57x := by rw [← hW57]; exact (Below.refl _ _).alloc (Nat.le_refl _) _
            have hs57 : Str W57x W55x.heap.size 136 [.slice none 0 0, .slice none 0 0, .slice none 0 0] := by rw [← hW57]; exact World.alloc_heap_new W55x _
            have hz57 : W55x.heap.size + 1 ≤ W57x.heap.size := by rw [← hW57]; simp
            clear hW57
            have bl57 := bl55.trans (hb57.mono (by have := bl55.size; omega))
            have o57r10 := own_below o55r10 hb57
            have o57r2 := own_below o55r2 hb57
            have o57r6 := own_below ho55 hb57
            refine behind_normal ⟨cell_keep bl57 (Nat.le_refl _) c0, cell_keep bl57 (Nat.le_refl _) c3⟩ ?_
            refine anyT_one (i := 13) _ rfl (by kernel_rfl) ?_
            have kx0 : W57x.cell? ⟨W55x.heap.size, 0, none⟩ = some (.slice none 0 0) := hs57.cell 0
            have kx1 : W57x.cell? ⟨W55x.heap.size, 1, none⟩ = some (.slice none 0 0) := hs57.cell 1
            have kx2 : W57x.cell? ⟨W55x.heap.size, 2, none⟩ = some (.slice none 0 0) := hs57.cell 2
            have kf0 := hs57.frozen 0
            have kf1 := hs57.frozen 1
            have kf2 := hs57.frozen 2
            go_wp2
            refine behind_last (by kernel_rfl) (anyT_done (by kernel_rfl) ?_ _)
            go_wp2_with fail
            go_meet
            case rel =>
              have hr := rows3 (B := W1.heap.size) o57r2 o57r6 o57r10 lt54 lt55 lt53 ⟨by omega, by omega, by omega⟩ (by omega) (by omega) (by omega)
              exact ⟨W55x.heap.size, _, _, _, rfl, (((hs57.set 0 _).set 1 _).set 2 _), ((hr.setStr hs57 (by decide) 0 _).setStr (hs57.set 0 _) (by decide) 1 _).setStr ((hs57.set 0 _).set 1 _) (by decide) 2 _, ((bl57.setCell (by show W1.heap.size ≤ W55x.heap.size; omega) _).setCell (by show W1.heap.size ≤ W55x.heap.size; omega) _).setCell (by show W1.heap.size ≤ W55x.heap.size; omega) _, by omega⟩
        · refine ⟨_, rfl, ?_⟩
          go_wp2
          obtain ⟨W58x, hW58⟩ : ∃ W', W54x.alloc (.cells #[.slice none 0 0, .slice none 0 0, .slice none 0 0] 136) = W' := ⟨_, rfl⟩
          rw [hW58]
          have hb58 : Below W54x.heap.size W54x W58x := by rw [← hW58]; exact (Below.refl _ _).alloc (Nat.le_refl _) _
          have hs58 : Str W58x W54x.heap.size 136 [.slice none 0 0, .slice none 0 0, .slice none 0 0] := by rw [← hW58]; exact World.alloc_heap_new W54x _
          have hz58 : W54x.heap.size + 1 ≤ W58x.heap.size := by rw [← hW58]; simp
          clear hW58
          have bl58 := bl54.trans (hb58.mono (by have := bl54.size; omega))
          have o58r10 := own_below o54r10 hb58
          have o58r2 := own_below ho54 hb58
          refine behind_normal ⟨cell_keep bl58 (Nat.le_refl _) c0, cell_keep bl58 (Nat.le_refl _) c3⟩ ?_
          refine anyT_ready (rs := [6]) (by kernel_rfl) (by simp) ?_
          intro i hi
          simp only [List.mem_cons, List.not_mem_nil, or_false] at hi
          subst hi
          · refine ⟨_, rfl, ?_⟩
            go_wp2_with (at_make; refine wpList_make_full _ rfl _ _ 28 rfl W58x.heap.size 3 i0 (.int .i64 0) 1 Try.underlying28 HI.out HZ0.out HZ1.out .i64 .i64 _ _ s.came.length rfl rfl rfl rfl (by rw [HZ2.out]; omega) (by unfold maxLen; omega) (Nat.le_refl _) ?_)
            intro W59x hown59 hgr59
            rw [toList_madeCells_one] at hown59
            have ho59 := zeros_own hown59
            have hb59 : Below W58x.heap.size W58x W59x := (Below.refl _ _).grown hgr59 (Nat.le_refl _) (fun j hj => by cases hj)
            have lt59 := fun g e => (⟨(ho59.lt g e).1, (ho59.lt g e).2⟩ : W58x.heap.size ≤ g ∧ g < W59x.heap.size)
            have hz59 := hb59.size
            clear hown59 hgr59
            go_wp2
            have bl59 := bl58.trans (hb59.mono (by have := bl58.size; omega))
            have o59r10 := own_below o58r10 hb59
            have o59r2 := own_below o58r2 hb59
            have sb59 := hs58.below hb59
            refine behind_normal ⟨cell_keep bl59 (Nat.le_refl _) c0, cell_keep bl59 (Nat.le_refl _) c3⟩ ?_
            refine anyT_take (i := 11) _ ?vg60 rfl (by kernel_rfl) (by kernel_rfl) (by kernel_rfl) (by intro c a d v w h; cases d <;> exact h) rfl ?yg60 ⟨cell_keep bl59 (Nat.le_refl _) c0, cell_keep bl59 (Nat.le_refl _) c3⟩ ?_
            case yg60 => intro w hS; go_simp; first | done | with_reducible rfl
            simp only [Act.put]
            refine anyT_one (i := 13) _ rfl (by kernel_rfl) ?_
            have kx0 : W59x.cell? ⟨W54x.heap.size, 0, none⟩ = some (.slice none 0 0) := sb59.cell 0
            have kx1 : W59x.cell? ⟨W54x.heap.size, 1, none⟩ = some (.slice none 0 0) := sb59.cell 1
            have kx2 : W59x.cell? ⟨W54x.heap.size, 2, none⟩ = some (.slice none 0 0) := sb59.cell 2
            have kf0 := sb59.frozen 0
            have kf1 := sb59.frozen 1
            have kf2 := sb59.frozen 2
            go_wp2
            refine behind_last (by kernel_rfl) (anyT_done (by kernel_rfl) ?_ _)
            go_wp2_with fail
            go_meet
            case rel =>
              have hr := rows3 (B := W1.heap.size) o59r2 ho59 o59r10 lt54 lt59 lt53 ⟨by omega, by omega, by omega⟩ (by omega) (by omega) (by omega)
              exact ⟨W54x.heap.size, _, _, _, rfl, (((sb59.set 0 _).set 1 _).set 2 _), ((hr.setStr sb59 (by decide) 0 _).setStr (sb59.set 0 _) (by decide) 1 _).setStr ((sb59.set 0 _).set 1 _) (by decide) 2 _, ((bl59.setCell (by show W1.heap.size ≤ W54x.heap.size; omega) _).setCell (by show W1.heap.size ≤ W54x.heap.size; omega) _).setCell (by show W1.heap.size ≤ W54x.heap.size; omega) _, by omega⟩
      · refine ⟨_, rfl, ?_⟩
        go_wp2_with (at_make; refine wpList_make_full _ rfl _ _ 28 rfl W53x.heap.size 3 i0 (.int .i64 0) 1 Try.underlying28 HI.out HZ0.out HZ1.out .i64 .i64 _ _ s.came.length rfl rfl rfl rfl (by rw [HZ2.out]; omega) (by unfold maxLen; omega) (Nat.le_refl _) ?_)
        intro W61x hown61 hgr61
        rw [toList_madeCells_one] at hown61
        have ho61 := zeros_own hown61
        have hb61 : Below W53x.heap.size W53x W61x := (Below.refl _ _).grown hgr61 (Nat.le_refl _) (fun j hj => by cases hj)
        have lt61 := fun g e => (⟨(ho61.lt g e).1, (ho61.lt g e).2⟩ : W53x.heap.size ≤ g ∧ g < W61x.heap.size)
        have hz61 := hb61.size
        clear hown61 hgr61
        go_wp2
        have bl61 := bl53.trans (hb61.mono (by have := bl53.size; omega))
        have o61r10 := own_below ho53 hb61
        refine behind_normal ⟨cell_keep bl61 (Nat.le_refl _) c0, cell_keep bl61 (Nat.le_refl _) c3⟩ ?_
        refine anyT_ready (rs := [2, 12]) (by kernel_rfl) (by simp) ?_
        intro i hi
        simp only [List.mem_cons, List.not_mem_nil, or_false] at hi
        rcases hi with rfl | rfl
        · refine ⟨_, rfl, ?_⟩
          go_wp2_with fail
          refine (clone_own W61x _ s.parent (hpar W61x bl61) (by rw [HPL.out]; omega)).mono ?_
          rintro e W62x ⟨v62, rfl, ho62, hb62⟩
          obtain ⟨A62, c62, hv62⟩ := ho62.form
          rw [HPL.out] at hv62
          subst hv62
          have lt62 := fun g e => (⟨(ho62.lt g e).1, (ho62.lt g e).2⟩ : W61x.heap.size ≤ g ∧ g < W62x.heap.size)
          have hz62 := hb62.size
          go_wp2
          have bl62 := bl61.trans (hb62.mono (by have := bl61.size; omega))
          have o62r10 := own_below o61r10 hb62
          have o62r6 := own_below ho61 hb62
          refine behind_normal ⟨cell_keep bl62 (Nat.le_refl _) c0, cell_keep bl62 (Nat.le_refl _) c3⟩ ?_
          refine anyT_take (i := 11) _ ?vg63 rfl (by kernel_rfl) (by kernel_rfl) (by kernel_rfl) (by intro c a d v w h; cases d <;> exact h) rfl ?yg63 ⟨cell_keep bl62 (Nat.le_refl _) c0, cell_keep bl62 (Nat.le_refl _) c3⟩ ?_
          case yg63 => intro w hS; go_simp; first | done | with_reducible rfl
          simp only [Act.put]
          refine anyT_ready (rs := [12]) (by kernel_rfl) (by simp) ?_
          intro i hi
          simp only [List.mem_cons, List.not_mem_nil, or_false] at hi
          subst hi
          · refine ⟨_, rfl, ?_⟩
            go_wp2
            obtain ⟨W64x, hW64⟩ : ∃ W', W62x.alloc (.cells #[.slice none 0 0, .slice none 0 0, .slice none 0 0] 136) = W' := ⟨_, rfl⟩
            rw [hW64]
            have hb64 : Below W62x.heap.size W62x W64x := by rw [← hW64]; exact (Below.refl _ _).alloc (Nat.le_refl _) _
            have hs64 : Str W64x W62x.heap.size 136 [.slice none 0 0, .slice none 0 0, .slice none 0 0] := by rw [← hW64]; exact World.alloc_heap_new W62x _
            have hz64 : W62x.heap.size + 1 ≤ W64x.heap.size := by rw [← hW64]; simp
            clear hW64
            have bl64 := bl62.trans (hb64.mono (by have := bl62.size; omega))
            have o64r10 := own_below o62r10 hb64
            have o64r6 := own_below o62r6 hb64
            have o64r2 := own_below ho62 hb64
            refine behind_normal ⟨cell_keep bl64 (Nat.le_refl _) c0, cell_keep bl64 (Nat.le_refl _) c3⟩ ?_
            refine anyT_one (i := 13) _ rfl (by kernel_rfl) ?_
            have kx0 : W64x.cell? ⟨W62x.heap.size, 0, none⟩ = some (.slice none 0 0) := hs64.cell 0
            have kx1 : W64x.cell? ⟨W62x.heap.size, 1, none⟩ = some (.slice none 0 0) := hs64.cell 1
            have kx2 : W64x.cell? ⟨W62x.heap.size, 2, none⟩ = some (.slice none 0 0) := hs64.cell 2
            have kf0 := hs64.frozen 0
            have kf1 := hs64.frozen 1
            have kf2 := hs64.frozen 2
            go_wp2
            refine behind_last (by kernel_rfl) (anyT_done (by kernel_rfl) ?_ _)
            go_wp2_with fail
            go_meet
            case rel =>
              have hr := rows3 (B := W1.heap.size) o64r2 o64r6 o64r10 lt62 lt61 lt53 ⟨by omega, by omega, by omega⟩ (by omega) (by omega) (by omega)
              exact ⟨W62x.heap.size, _, _, _, rfl, (((hs64.set 0 _).set 1 _).set 2 _), ((hr.setStr hs64 (by decide) 0 _).setStr (hs64.set 0 _) (by decide) 1 _).setStr ((hs64.set 0 _).set 1 _) (by decide) 2 _, ((bl64.setCell (by show W1.heap.size ≤ W62x.heap.size; omega) _).setCell (by show W1.heap.size ≤ W62x.heap.size; omega) _).setCell (by show W1.heap.size ≤ W62x.heap.size; omega) _, by omega⟩
        · refine ⟨_, rfl, ?_⟩
          go_wp2
          obtain ⟨W65x, hW65⟩ : ∃ W', W61x.alloc (.cells #[.slice none 0 0, .slice none 0 0, .slice none 0 0] 136) = W' := ⟨_, rfl⟩
          rw [hW65]
          have hb65 : Below W61x.heap.size W61x W65x := by rw [← hW65]; exact (Below.refl _ _).alloc (Nat.le_refl _) _
          have hs65 : Str W65x W61x.heap.size 136 [.slice none 0 0, .slice none 0 0, .slice none 0 0] := by rw [← hW65]; exact World.alloc_heap_new W61x _
          have hz65 : W61x.heap.size + 1 ≤ W65x.heap.size := by rw [← hW65]; simp
          clear hW65
          have bl65 := bl61.trans (hb65.mono (by have := bl61.size; omega))
          have o65r10 := own_below o61r10 hb65
          have o65r6 := own_below ho61 hb65
          refine behind_normal ⟨cell_keep bl65 (Nat.le_refl _) c0, cell_keep bl65 (Nat.le_refl _) c3⟩ ?_
          refine anyT_ready (rs := [2]) (by kernel_rfl) (by simp) ?_
          intro i hi
          simp only [List.mem_cons, List.not_mem_nil, or_false] at hi
          subst hi
          · refine ⟨_, rfl, ?_⟩
            go_wp2_with fail
            refine (clone_own W65x _ s.parent (hpar W65x bl65) (by rw [HPL.out]; omega)).mono ?_
            rintro e W66x ⟨v66, rfl, ho66, hb66⟩
            obtain ⟨A66, c66, hv66⟩ := ho66.form
            rw [HPL.out] at hv66
            subst hv66
            have lt66 := fun g e => (⟨(ho66.lt g e).1, (ho66.lt g e).2⟩ : W65x.heap.size ≤ g ∧ g < W66x.heap.size)
            have hz66 := hb66.size
            go_wp2
            have bl66 := bl65.trans (hb66.mono (by have := bl65.size; omega))
            have o66r10 := own_below o65r10 hb66
            have o66r6 := own_below o65r6 hb66
            have sb66 := hs65.below hb66
            refine behind_normal ⟨cell_keep bl66 (Nat.le_refl _) c0, cell_keep bl66 (Nat.le_refl _) c3⟩ ?_
            refine anyT_take (i := 11) _ ?vg67 rfl (by kernel_rfl) (by kernel_rfl) (by kernel_rfl) (by intro c a d v w h; cases d <;> exact h) rfl ?yg67 ⟨cell_keep bl66 (Nat.le_refl _) c0, cell_keep bl66 (Nat.le_refl _) c3⟩ ?_
            case yg67 => intro w hS; go_simp; first | done | with_reducible rfl
            simp only [Act.put]
            refine anyT_one (i := 13) _ rfl (by kernel_rfl) ?_
            have kx0 : W66x.cell? ⟨W61x.heap.size, 0, none⟩ = some (.slice none 0 0) := sb66.cell 0
            have kx1 : W66x.cell? ⟨W61x.heap.size, 1, none⟩ = some (.slice none 0 0) := sb66.cell 1
            have kx2 : W66x.cell? ⟨W61x.heap.size, 2, none⟩ = some (.slice none 0 0) := sb66.cell 2
            have kf0 := sb66.frozen 0
            have kf1 := sb66.frozen 1
            have kf2 := sb66.frozen 2
            go_wp2
            refine behind_last (by kernel_rfl) (anyT_done (by kernel_rfl) ?_ _)
            go_wp2_with fail
            go_meet
            case rel =>
              have hr := rows3 (B := W1.heap.size) ho66 o66r6 o66r10 lt66 lt61 lt53 ⟨by omega, by omega, by omega⟩ (by omega) (by omega) (by omega)
              exact ⟨W61x.heap.size, _, _, _, rfl, (((sb66.set 0 _).set 1 _).set 2 _), ((hr.setStr sb66 (by decide) 0 _).setStr (sb66.set 0 _) (by decide) 1 _).setStr ((sb66.set 0 _).set 1 _) (by decide) 2 _, ((bl66.setCell (by show W1.heap.size ≤ W61x.heap.size; omega) _).setCell (by show W1.heap.size ≤ W61x.heap.size; omega) _).setCell (by show W1.heap.size ≤ W61x.heap.size; omega) _, by omega⟩
      · refine ⟨_, rfl, ?_⟩
        go_wp2
        obtain ⟨W68x, hW68⟩ : ∃ W', W53x.alloc (.cells #[.slice none 0 0, .slice none 0 0, .slice none 0 0] 136) = W' := ⟨_, rfl⟩
        rw [hW68]
        have hb68 : Below W53x.heap.size W53x W68x := by rw [← hW68]; exact (Below.refl _ _).alloc (Nat.le_refl _) _
        have hs68 : Str W68x W53x.heap.size 136 [.slice none 0 0, .slice none 0 0, .slice none 0 0] := by rw [← hW68]; exact World.alloc_heap_new W53x _
        have hz68 : W53x.heap.size + 1 ≤ W68x.heap.size := by rw [← hW68]; simp
        clear hW68
        have bl68 := bl53.trans (hb68.mono (by have := bl53.size; omega))
        have o68r10 := own_below ho53 hb68
        refine behind_normal ⟨cell_keep bl68 (Nat.le_refl _) c0, cell_keep bl68 (Nat.le_refl _) c3⟩ ?_
        refine anyT_ready (rs := [2, 6]) (by kernel_rfl) (by simp) ?_
        intro i hi
        simp only [List.mem_cons, List.not_mem_nil, or_false] at hi
        rcases hi with rfl | rfl
        · refine ⟨_, rfl, ?_⟩
          go_wp2_with fail
          refine (clone_own W68x _ s.parent (hpar W68x bl68) (by rw [HPL.out]; omega)).mono ?_
          rintro e W69x ⟨v69, rfl, ho69, hb69⟩
          obtain ⟨A69, c69, hv69⟩ := ho69.form
          rw [HPL.out] at hv69
          subst hv69
          have lt69 := fun g e => (⟨(ho69.lt g e).1, (ho69.lt g e).2⟩ : W68x.heap.size ≤ g ∧ g < W69x.heap.size)
          have hz69 := hb69.size
          go_wp2
          have bl69 := bl68.trans (hb69.mono (by have := bl68.size; omega))
          have o69r10 := own_below o68r10 hb69
          have sb69 := hs68.below hb69
          refine behind_normal ⟨cell_keep bl69 (Nat.le_refl _) c0, cell_keep bl69 (Nat.le_refl _) c3⟩ ?_
          refine anyT_ready (rs := [6]) (by kernel_rfl) (by simp) ?_
          intro i hi
          simp only [List.mem_cons, List.not_mem_nil, or_false] at hi
          subst hi
          · refine ⟨_, rfl, ?_⟩
            go_wp2_with (at_make; refine wpList_make_full _ rfl _ _ 28 rfl W69x.heap.size 3 i0 (.int .i64 0) 1 Try.underlying28 HI.out HZ0.out HZ1.out .i64 .i64 _ _ s.came.length rfl rfl rfl rfl (by rw [HZ2.out]; omega) (by unfold maxLen; omega) (Nat.le_refl _) ?_)
            intro W70x hown70 hgr70
            rw [toList_madeCells_one] at hown70
            have ho70 := zeros_own hown70
            have hb70 : Below W69x.heap.size W69x W70x := (Below.refl _ _).grown hgr70 (Nat.le_refl _) (fun j hj => by cases hj)
            have lt70 := fun g e => (⟨(ho70.lt g e).1, (ho70.lt g e).2⟩ : W69x.heap.size ≤ g ∧ g < W70x.heap.size)
            have hz70 := hb70.size
            clear hown70 hgr70
            go_wp2
            have bl70 := bl69.trans (hb70.mono (by have := bl69.size; omega))
            have o70r10 := own_below o69r10 hb70
            have o70r2 := own_below ho69 hb70
            have sb70 := sb69.below hb70
            refine behind_normal ⟨cell_keep bl70 (Nat.le_refl _) c0, cell_keep bl70 (Nat.le_refl _) c3⟩ ?_
            refine anyT_take (i := 11) _ ?vg71 rfl (by kernel_rfl) (by kernel_rfl) (by kernel_rfl) (by intro c a d v w h; cases d <;> exact h) rfl ?yg71 ⟨cell_keep bl70 (Nat.le_refl _) c0, cell_keep bl70 (Nat.le_refl _) c3⟩ ?_
            case yg71 => intro w hS; go_simp; first | done | with_reducible rfl
            simp only [Act.put]
            refine anyT_one (i := 13) _ rfl (by kernel_rfl) ?_
            have kx0 : W70x.cell? ⟨W53x.heap.size, 0, none⟩ = some (.slice none 0 0) := sb70.cell 0
            have kx1 : W70x.cell? ⟨W53x.heap.size, 1, none⟩ = some (.slice none 0 0) := sb70.cell 1
            have kx2 : W70x.cell? ⟨W53x.heap.size, 2, none⟩ = some (.slice none 0 0) := sb70.cell 2
            have kf0 := sb70.frozen 0
            have kf1 := sb70.frozen 1
            have kf2 := sb70.frozen 2
            go_wp2
            refine behind_last (by kernel_rfl) (anyT_done (by kernel_rfl) ?_ _)
            go_wp2_with fail
            go_meet
            case rel =>
              have hr := rows3 (B := W1.heap.size) o70r2 ho70 o70r10 lt69 lt70 lt53 ⟨by omega, by omega, by omega⟩ (by omega) (by omega) (by omega)
              exact ⟨W53x.heap.size, _, _, _, rfl, (((sb70.set 0 _).set 1 _).set 2 _), ((hr.setStr sb70 (by decide) 0 _).setStr (sb70.set 0 _) (by decide) 1 _).setStr ((sb70.set 0 _).set 1 _) (by decide) 2 _, ((bl70.setCell (by show W1.heap.size ≤ W53x.heap.size; omega) _).setCell (by show W1.heap.size ≤ W53x.heap.size; omega) _).setCell (by show W1.heap.size ≤ W53x.heap.size; omega) _, by omega⟩
        · refine ⟨_, rfl, ?_⟩
          go_wp2_with (at_make; refine wpList_make_full _ rfl _ _ 28 rfl W68x.heap.size 3 i0 (.int .i64 0) 1 Try.underlying28 HI.out HZ0.out HZ1.out .i64 .i64 _ _ s.came.length rfl rfl rfl rfl (by rw [HZ2.out]; omega) (by unfold maxLen; omega) (Nat.le_refl _) ?_)
          intro W72x hown72 hgr72
          rw [toList_madeCells_one] at hown72
          have ho72 := zeros_own hown72
          have hb72 : Below W68x.heap.size W68x W72x := (Below.refl _ _).grown hgr72 (Nat.le_refl _) (fun j hj => by cases hj)
          have lt72 := fun g e => (⟨(ho72.lt g e).1, (ho72.lt g e).2⟩ : W68x.heap.size ≤ g ∧ g < W72x.heap.size)
          have hz72 := hb72.size
          clear hown72 hgr72
          go_wp2
          have bl72 := bl68.trans (hb72.mono (by have := bl68.size; omega))
          have o72r10 := own_below o68r10 hb72
          have sb72 := hs68.below hb72
          refine behind_normal ⟨cell_keep bl72 (Nat.le_refl _) c0, cell_keep bl72 (Nat.le_refl _) c3⟩ ?_
          refine anyT_ready (rs := [2]) (by kernel_rfl) (by simp) ?_
          intro i hi
          simp only [List.mem_cons, List.not_mem_nil, or_false] at hi
          subst hi
          · refine ⟨_, rfl, ?_⟩
            go_wp2_with fail
            refine (clone_own W72x _ s.parent (hpar W72x bl72) (by rw [HPL.out]; omega)).mono ?_
            rintro e W73x ⟨v73, rfl, ho73, hb73⟩
            obtain ⟨A73, c73, hv73⟩ := ho73.form
            rw [HPL.out] at hv73
            subst hv73
            have lt73 := fun g e => (⟨(ho73.lt g e).1, (ho73.lt g e).2⟩ : W72x.heap.size ≤ g ∧ g < W73x.heap.size)
            have hz73 := hb73.size
            go_wp2
            have bl73 := bl72.trans (hb73.mono (by have := bl72.size; omega))
            have o73r10 := own_below o72r10 hb73
            have o73r6 := own_below ho72 hb73
            have sb73 := sb72.below hb73
            refine behind_normal ⟨cell_keep bl73 (Nat.le_refl _) c0, cell_keep bl73 (Nat.le_refl _) c3⟩ ?_
            refine anyT_take (i := 11) _ ?vg74 rfl (by kernel_rfl) (by kernel_rfl) (by kernel_rfl) (by intro c a d v w h; cases d <;> exact h) rfl ?yg74 ⟨cell_keep bl73 (Nat.le_refl _) c0, cell_keep bl73 (Nat.le_refl _) c3⟩ ?_
            case yg74 => intro w hS; go_simp; first | done | with_reducible rfl
            simp only [Act.put]
            refine anyT_one (i := 13) _ rfl (by kernel_rfl) ?_
            have kx0 : W73x.cell? ⟨W53x.heap.size, 0, none⟩ = some (.slice none 0 0) := sb73.cell 0
            have kx1 : W73x.cell? ⟨W53x.heap.size, 1, none⟩ = some (.slice none 0 0) := sb73.cell 1
            have kx2 : W73x.cell? ⟨W53x.heap.size, 2, none⟩ = some (.slice none 0 0) := sb73.cell 2
            have kf0 := sb73.frozen 0
            have kf1 := sb73.frozen 1
            have kf2 := sb73.frozen 2
            go_wp2
            refine behind_last (by kernel_rfl) (anyT_done (by kernel_rfl) ?_ _)
            go_wp2_with fail
            go_meet
            case rel =>
              have hr := rows3 (B := W1.heap.size) ho73 o73r6 o73r10 lt73 lt72 lt53 ⟨by omega, by omega, by omega⟩ (by omega) (by omega) (by omega)
              exact ⟨W53x.heap.size, _, _, _, rfl, (((sb73.set 0 _).set 1 _).set 2 _), ((hr.setStr sb73 (by decide) 0 _).setStr (sb73.set 0 _) (by decide) 1 _).setStr ((sb73.set 0 _).set 1 _) (by decide) 2 _, ((bl73.setCell (by show W1.heap.size ≤ W53x.heap.size; omega) _).setCell (by show W1.heap.size ≤ W53x.heap.size; omega) _).setCell (by show W1.heap.size ≤ W53x.heap.size; omega) _, by omega⟩
    · refine ⟨_, rfl, ?_⟩
      go_wp2
      obtain ⟨W75x, hW75⟩ : ∃ W', W2.alloc (.cells #[.slice none 0 0, .slice none 0 0, .slice none 0 0] 136) = W' := ⟨_, rfl⟩
      rw [hW75]
      have hb75 : Below W2.heap.size W2 W75x := by rw [← hW75]; exact (Below.refl _ _).alloc (Nat.le_refl _) _
      have hs75 : Str W75x W2.heap.size 136 [.slice none 0 0, .slice none 0 0, .slice none 0 0] := by rw [← hW75]; exact World.alloc_heap_new W2 _
      have hz75 : W2.heap.size + 1 ≤ W75x.heap.size := by rw [← hW75]; simp
      clear hW75
      have bl75 := bl0.trans (hb75.mono (by have := bl0.size; omega))
      refine behind_normal ⟨cell_keep bl75 (Nat.le_refl _) c0, cell_keep bl75 (Nat.le_refl _) c3⟩ ?_
      refine anyT_ready (rs := [2, 6, 10]) (by kernel_rfl) (by simp) ?_
      intro i hi
      simp only [List.mem_cons, List.not_mem_nil, or_false] at hi
      rcases hi with rfl | rfl | rfl
      · refine ⟨_, rfl, ?_⟩
        go_wp2_with fail
        refine (clone_own W75x _ s.parent (hpar W75x bl75) (by rw [HPL.out]; omega)).mono ?_
        rintro e W76x ⟨v76, rfl, ho76, hb76⟩
        obtain ⟨A76, c76, hv76⟩ := ho76.form
        rw [HPL.out] at hv76
        subst hv76
        have lt76 := fun g e => (⟨(ho76.lt g e).1, (ho76.lt g e).2⟩ : W75x.heap.size ≤ g ∧ g < W76x.heap.size)
        have hz76 := hb76.size
        go_wp2
        have bl76 := bl75.trans (hb76.mono (by have := bl75.size; omega))
        have sb76 := hs75.below hb76
        refine behind_normal ⟨cell_keep bl76 (Nat.le_refl _) c0, cell_keep bl76 (Nat.le_refl _) c3⟩ ?_
        refine anyT_ready (rs := [6, 10]) (by kernel_rfl) (by simp) ?_
        intro i hi
        simp only [List.mem_cons, List.not_mem_nil, or_false] at hi
        rcases hi with rfl | rfl
        · refine ⟨_, rfl, ?_⟩
          go_wp2_with (at_make; refine wpList_make_full _ rfl _ _ 28 rfl W76x.heap.size 3 i0 (.int .i64 0) 1 Try.underlying28 HI.out HZ0.out HZ1.out .i64 .i64 _ _ s.came.length rfl rfl rfl rfl (by rw [HZ2.out]; omega) (by unfold maxLen; omega) (Nat.le_refl _) ?_)
          intro W77x hown77 hgr77
          rw [toList_madeCells_one] at hown77
          have ho77 := zeros_own hown77
          have hb77 : Below W76x.heap.size W76x W77x := (Below.refl _ _).grown hgr77 (Nat.le_refl _) (fun j hj => by cases hj)
          have lt77 := fun g e => (⟨(ho77.lt g e).1, (ho77.lt g e).2⟩ : W76x.heap.size ≤ g ∧ g < W77x.heap.size)
          have hz77 := hb77.size
          clear hown77 hgr77
          go_wp2
          have bl77 := bl76.trans (hb77.mono (by have := bl76.size; omega))
          have o77r2 := own_below ho76 hb77
          have sb77 := sb76.below hb77
          refine behind_normal ⟨cell_keep bl77 (Nat.le_refl _) c0, cell_keep bl77 (Nat.le_refl _) c3⟩ ?_
          refine anyT_ready (rs := [10]) (by kernel_rfl) (by simp) ?_
          intro i hi
          simp only [List.mem_cons, List.not_mem_nil, or_false] at hi
          subst hi
          · refine ⟨_, rfl, ?_⟩
            go_wp2_with (at_make; refine wpList_make_full _ rfl _ _ 28 rfl W77x.heap.size 3 i0 (.int .i64 0) 1 Try.underlying28 HI.out HZ0.out HZ1.out .i64 .i64 _ _ s.came.length rfl rfl rfl rfl (by rw [HZ2.out]; omega) (by unfold maxLen; omega) (Nat.le_refl _) ?_)
            intro W78x hown78 hgr78
            rw [toList_madeCells_one] at hown78
            have ho78 := zeros_own hown78
            have hb78 : Below W77x.heap.size W77x W78x := (Below.refl _ _).grown hgr78 (Nat.le_refl _) (fun j hj => by cases hj)
            have lt78 := fun g e => (⟨(ho78.lt g e).1, (ho78.lt g e).2⟩ : W77x.heap.size ≤ g ∧ g < W78x.heap.size)
            have hz78 := hb78.size
            clear hown78 hgr78
            go_wp2
            have bl78 := bl77.trans (hb78.mono (by have := bl77.size; omega))
            have o78r2 := own_below o77r2 hb78
            have o78r6 := own_below ho77 hb78
            have sb78 := sb77.below hb78
            refine behind_normal ⟨cell_keep bl78 (Nat.le_refl _) c0, cell_keep bl78 (Nat.le_refl _) c3⟩ ?_
            refine anyT_take (i := 11) _ ?vg79 rfl (by kernel_rfl) (by kernel_rfl) (by kernel_rfl) (by intro c a d v w h; cases d <;> exact h) rfl ?yg79 ⟨cell_keep bl78 (Nat.le_refl _) c0, cell_keep bl78 (Nat.le_refl _) c3⟩ ?_
            case yg79 => intro w hS; go_simp; first | done | with_reducible rfl
            simp only [Act.put]
            refine anyT_one (i := 13) _ rfl (by kernel_rfl) ?_
            have kx0 : W78x.cell? ⟨W2.heap.size, 0, none⟩ = some (.slice none 0 0) := sb78.cell 0
            have kx1 : W78x.cell? ⟨W2.heap.size, 1, none⟩ = some (.slice none 0 0) := sb78.cell 1
            have kx2 : W78x.cell? ⟨W2.heap.size, 2, none⟩ = some (.slice none 0 0) := sb78.cell 2
            have kf0 := sb78.frozen 0
            have kf1 := sb78.frozen 1
            have kf2 := sb78.frozen 2
            go_wp2
            refine behind_last (by kernel_rfl) (anyT_done (by kernel_rfl) ?_ _)
            go_wp2_with fail
            go_meet
            case rel =>
              have hr := rows3 (B := W1.heap.size) o78r2 o78r6 ho78 lt76 lt77 lt78 ⟨by omega, by omega, by omega⟩ (by omega) (by omega) (by omega)
              exact ⟨W2.heap.size, _, _, _, rfl, (((sb78.set 0 _).set 1 _).set 2 _), ((hr.setStr sb78 (by decide) 0 _).setStr (sb78.set 0 _) (by decide) 1 _).setStr ((sb78.set 0 _).set 1 _) (by decide) 2 _, ((bl78.setCell (by show W1.heap.size ≤ W2.heap.size; omega) _).setCell (by show W1.heap.size ≤ W2.heap.size; omega) _).setCell (by show W1.heap.size ≤ W2.heap.size; omega) _, by omega⟩
        · refine ⟨_, rfl, ?_⟩
          go_wp2_with (at_make; refine wpList_make_full _ rfl _ _ 28 rfl W76x.heap.size 3 i0 (.int .i64 0) 1 Try.underlying28 HI.out HZ0.out HZ1.out .i64 .i64 _ _ s.came.length rfl rfl rfl rfl (by rw [HZ2.out]; omega) (by unfold maxLen; omega) (Nat.le_refl _) ?_)
          intro W80x hown80 hgr80
          rw [toList_madeCells_one] at hown80
          have ho80 := zeros_own hown80
          have hb80 : Below W76x.heap.size W76x W80x := (Below.refl _ _).grown hgr80 (Nat.le_refl _) (fun j hj => by cases hj)
          have lt80 := fun g e => (⟨(ho80.lt g e).1, (ho80.lt g e).2⟩ : W76x.heap.size ≤ g ∧ g < W80x.heap.size)
          have hz80 := hb80.size
          clear hown80 hgr80
          go_wp2
          have bl80 := bl76.trans (hb80.mono (by have := bl76.size; omega))
          have o80r2 := own_below ho76 hb80
          have sb80 := sb76.below hb80
          refine behind_normal ⟨cell_keep bl80 (Nat.le_refl _) c0, cell_keep bl80 (Nat.le_refl _) c3⟩ ?_
          refine anyT_ready (rs := [6]) (by kernel_rfl) (by simp) ?_
          intro i hi
          simp only [List.mem_cons, List.not_mem_nil, or_false] at hi
          subst hi
          · refine ⟨_, rfl, ?_⟩
            go_wp2_with (at_make; refine wpList_make_full _ rfl _ _ 28 rfl W80x.heap.size 3 i0 (.int .i64 0) 1 Try.underlying28 HI.out HZ0.out HZ1.out .i64 .i64 _ _ s.came.length rfl rfl rfl rfl (by rw [HZ2.out]; omega) (by unfold maxLen; omega) (Nat.le_refl _) ?_)
            intro W81x hown81 hgr81
            rw [toList_madeCells_one] at hown81
            have ho81 := zeros_own hown81
            have hb81 : Below W80x.heap.size W80x W81x := (Below.refl _ _).grown hgr81 (Nat.le_refl _) (fun j hj => by cases hj)
            have lt81 := fun g e => (⟨(ho81.lt g e).1, (ho81.lt g e).2⟩ : W80x.heap.size ≤ g ∧ g < W81x.heap.size)
            have hz81 := hb81.size
            clear hown81 hgr81
            go_wp2
            have bl81 := bl80.trans (hb81.mono (by have := bl80.size; omega))
            have o81r2 := own_below o80r2 hb81
            have o81r10 := own_below ho80 hb81
            have sb81 := sb80.below hb81
            refine behind_normal ⟨cell_keep bl81 (Nat.le_refl _) c0, cell_keep bl81 (Nat.le_refl _) c3⟩ ?_
            refine anyT_take (i := 11) _ ?vg82 rfl (by kernel_rfl) (by kernel_rfl) (by kernel_rfl) (by intro c a d v w h; cases d <;> exact h) rfl ?yg82 ⟨cell_keep bl81 (Nat.le_refl _) c0, cell_keep bl81 (Nat.le_refl _) c3⟩ ?_
            case yg82 => intro w hS; go_simp; first | done | with_reducible rfl
            simp only [Act.put]
            refine anyT_one (i := 13) _ rfl (by kernel_rfl) ?_
            have kx0 : W81x.cell? ⟨W2.heap.size, 0, none⟩ = some (.slice none 0 0) := sb81.cell 0
            have kx1 : W81x.cell? ⟨W2.heap.size, 1, none⟩ = some (.slice none 0 0) := sb81.cell 1
            have kx2 : W81x.cell? ⟨W2.heap.size, 2, none⟩ = some (.slice none 0 0) := sb81.cell 2
            have kf0 := sb81.frozen 0
            have kf1 := sb81.frozen 1
            have kf2 := sb81.frozen 2
            go_wp2
            refine behind_last (by kernel_rfl) (anyT_done (by kernel_rfl) ?_ _)
            go_wp2_with fail
            go_meet
            case rel =>
              have hr := rows3 (B := W1.heap.size) o81r2 ho81 o81r10 lt76 lt81 lt80 ⟨by omega, by omega, by omega⟩ (by omega) (by omega) (by omega)
              exact ⟨W2.heap.size, _, _, _, rfl, (((sb81.set 0 _).set 1 _).set 2 _), ((hr.setStr sb81 (by decide) 0 _).setStr (sb81.set 0 _) (by decide) 1 _).setStr ((sb81.set 0 _).set 1 _) (by decide) 2 _, ((bl81.setCell (by show W1.heap.size ≤ W2.heap.size; omega) _).setCell (by show W1.heap.size ≤ W2.heap.size; omega) _).setCell (by show W1.heap.size ≤ W2.heap.size; omega) _, by omega⟩
      · refine ⟨_, rfl, ?_⟩
        go_wp2_with (at_make; refine wpList_make_full _ rfl _ _ 28 rfl W75x.heap.size 3 i0 (.int .i64 0) 1 Try.underlying28 HI.out HZ0.out HZ1.out .i64 .i64 _ _ s.came.length rfl rfl rfl rfl (by rw [HZ2.out]; omega) (by unfold maxLen; omega) (Nat.le_refl _) ?_)
        intro W83x hown83 hgr83
        rw [toList_madeCells_one] at hown83
        have ho83 := zeros_own hown83
        have hb83 : Below W75x.heap.size W75x W83x := (Below.refl _ _).grown hgr83 (Nat.le_refl _) (fun j hj => by cases hj)
        have lt83 := fun g e => (⟨(ho83.lt g e).1, (ho83.lt g e).2⟩ : W75x.heap.size ≤ g ∧ g < W83x.heap.size)
        have hz83 := hb83.size
        clear hown83 hgr83
        go_wp2
        have bl83 := bl75.trans (hb83.mono (by have := bl75.size; omega))
        have sb83 := hs75.below hb83
        refine behind_normal ⟨cell_keep bl83 (Nat.le_refl _) c0, cell_keep bl83 (Nat.le_refl _) c3⟩ ?_
        refine anyT_ready (rs := [2, 10]) (by kernel_rfl) (by simp) ?_
        intro i hi
        simp only [List.mem_cons, List.not_mem_nil, or_false] at hi
        rcases hi with rfl | rfl
        · refine ⟨_, rfl, ?_⟩
          go_wp2_with fail
          refine (clone_own W83x _ s.parent (hpar W83x bl83) (by rw [HPL.out]; omega)).mono ?_
          rintro e W84x ⟨v84, rfl, ho84, hb84⟩
          obtain ⟨A84, c84, hv84⟩ := ho84.form
          rw [HPL.out] at hv84
          subst hv84
          have lt84 := fun g e => (⟨(ho84.lt g e).1, (ho84.lt g e).2⟩ : W83x.heap.size ≤ g ∧ g < W84x.heap.size)
          have hz84 := hb84.size
          go_wp2
          have bl84 := bl83.trans (hb84.mono (by have := bl83.size; omega))
          have o84r6 := own_below ho83 hb84
          have sb84 := sb83.below hb84
          refine behind_normal ⟨cell_keep bl84 (Nat.le_refl _) c0, cell_keep bl84 (Nat.le_refl _) c3⟩ ?_
          refine anyT_ready (rs := [10]) (by kernel_rfl) (by simp) ?_
          intro i hi
          simp only [List.mem_cons, List.not_mem_nil, or_false] at hi
          subst hi
          · refine ⟨_, rfl, ?_⟩
            go_wp2_with (at_make; refine wpList_make_full _ rfl _ _ 28 rfl W84x.heap.size 3 i0 (.int .i64 0) 1 Try.underlying28 HI.out HZ0.out HZ1.out .i64 .i64 _ _ s.came.length rfl rfl rfl rfl (by rw [HZ2.out]; omega) (by unfold maxLen; omega) (Nat.le_refl _) ?_)
            intro W85x hown85 hgr85
            rw [toList_madeCells_one] at hown85
            have ho85 := zeros_own hown85
            have hb85 : Below W84x.heap.size W84x W85x := (Below.refl _ _).grown hgr85 (Nat.le_refl _) (fun j hj => by cases hj)
            have lt85 := fun g e => (⟨(ho85.lt g e).1, (ho85.lt g e).2⟩ : W84x.heap.size ≤ g ∧ g < W85x.heap.size)
            have hz85 := hb85.size
            clear hown85 hgr85
            go_wp2
            have bl85 := bl84.trans (hb85.mono (by have := bl84.size; omega))
            have o85r6 := own_below o84r6 hb85
            have o85r2 := own_below ho84 hb85
            have sb85 := sb84.below hb85
            refine behind_normal ⟨cell_keep bl85 (Nat.le_refl _) c0, cell_keep bl85 (Nat.le_refl _) c3⟩ ?_
            refine anyT_take (i := 11) _ ?vg86 rfl (by kernel_rfl) (by kernel_rfl) (by kernel_rfl) (by intro c a d v w h; cases d <;> exact h) rfl ?yg86 ⟨cell_keep bl85 (Nat.le_refl _) c0, cell_keep bl85 (Nat.le_refl _) c3⟩ ?_
            case yg86 => intro w hS; go_simp; first | done | with_reducible rfl
            simp only [Act.put]
            refine anyT_one (i := 13) _ rfl (by kernel_rfl) ?_
            have kx0 : W85x.cell? ⟨W2.heap.size, 0, none⟩ = some (.slice none 0 0) := sb85.cell 0
            have kx1 : W85x.cell? ⟨W2.heap.size, 1, none⟩ = some (.slice none 0 0) := sb85.cell 1
            have kx2 : W85x.cell? ⟨W2.heap.size, 2, none⟩ = some (.slice none 0 0) := sb85.cell 2
            have kf0 := sb85.frozen 0
            have kf1 := sb85.frozen 1
            have kf2 := sb85.frozen 2
            go_wp2
            refine behind_last (by kernel_rfl) (anyT_done (by kernel_rfl) ?_ _)
            go_wp2_with fail
            go_meet
            case rel =>
              have hr := rows3 (B := W1.heap.size) o85r2 o85r6 ho85 lt84 lt83 lt85 ⟨by omega, by omega, by omega⟩ (by omega) (by omega) (by omega)
              exact ⟨W2.heap.size, _, _, _, rfl, (((sb85.set 0 _).set 1 _).set 2 _), ((hr.setStr sb85 (by decide) 0 _).setStr (sb85.set 0 _) (by decide) 1 _).setStr ((sb85.set 0 _).set 1 _) (by decide) 2 _, ((bl85.setCell (by show W1.heap.size ≤ W2.heap.size; omega) _).setCell (by show W1.heap.size ≤ W2.heap.size; omega) _).setCell (by show W1.heap.size ≤ W2.heap.size; omega) _, by omega⟩
        · refine ⟨_, rfl, ?_⟩
          go_wp2_with (at_make; refine wpList_make_full _ rfl _ _ 28 rfl W83x.heap.size 3 i0 (.int .i64 0) 1 Try.underlying28 HI.out HZ0.out HZ1.out .i64 .i64 _ _ s.came.length rfl rfl rfl rfl (by rw [HZ2.out]; omega) (by unfold maxLen; omega) (Nat.le_refl _) ?_)
          intro W87x hown87 hgr87
          rw [toList_madeCells_one] at hown87
          have ho87 := zeros_own hown87
          have hb87 : Below W83x.heap.size W83x W87x := (Below.refl _ _).grown hgr87 (Nat.le_refl _) (fun j hj => by cases hj)
          have lt87 := fun g e => (⟨(ho87.lt g e).1, (ho87.lt g e).2⟩ : W83x.heap.size ≤ g ∧ g < W87x.heap.size)
          have hz87 := hb87.size
          clear hown87 hgr87
          go_wp2
          have bl87 := bl83.trans (hb87.mono (by have := bl83.size; omega))
          have o87r6 := own_below ho83 hb87
          have sb87 := sb83.below hb87
          refine behind_normal ⟨cell_keep bl87 (Nat.le_refl _) c0, cell_keep bl87 (Nat.le_refl _) c3⟩ ?_
          refine anyT_ready (rs := [2]) (by kernel_rfl) (by simp) ?_
          intro i hi
          simp only [List.mem_cons, List.not_mem_nil, or_false] at hi
          subst hi
          · refine ⟨_, rfl, ?_⟩
            go_wp2_with fail
            refine (clone_own W87x _ s.parent (hpar W87x bl87) (by rw [HPL.out]; omega)).mono ?_
            rintro e W88x ⟨v88, rfl, ho88, hb88⟩
            obtain ⟨A88, c88, hv88⟩ := ho88.form
            rw [HPL.out] at hv88
            subst hv88
            have lt88 := fun g e => (⟨(ho88.lt g e).1, (ho88.lt g e).2⟩ : W87x.heap.size ≤ g ∧ g < W88x.heap.size)
            have hz88 := hb88.size
            go_wp2
            have bl88 := bl87.trans (hb88.mono (by have := bl87.size; omega))
            have o88r6 := own_below o87r6 hb88
            have o88r10 := own_below ho87 hb88
            have sb88 := sb87.below hb88
            refine behind_normal ⟨cell_keep bl88 (Nat.le_refl _) c0, cell_keep bl88 (Nat.le_refl _) c3⟩ ?_
            refine anyT_take (i := 11) _ ?vg89 rfl (by kernel_rfl) (by kernel_rfl) (by kernel_rfl) (by intro c a d v w h; cases d <;> exact h) rfl ?yg89 ⟨cell_keep bl88 (Nat.le_refl _) c0, cell_keep bl88 (Nat.le_refl _) c3⟩ ?_
            case yg89 => intro w hS; go_simp; first | done | with_reducible rfl
            simp only [Act.put]
            refine anyT_one (i := 13) _ rfl (by kernel_rfl) ?_
            have kx0 : W88x.cell? ⟨W2.heap.size, 0, none⟩ = some (.slice none 0 0) := sb88.cell 0
            have kx1 : W88x.cell? ⟨W2.heap.size, 1, none⟩ = some (.slice none 0 0) := sb88.cell 1
            have kx2 : W88x.cell? ⟨W2.heap.size, 2, none⟩ = some (.slice none 0 0) := sb88.cell 2
            have kf0 := sb88.frozen 0
            have kf1 := sb88.frozen 1
            have kf2 := sb88.frozen 2
            go_wp2
            refine behind_last (by kernel_rfl) (anyT_done (by kernel_rfl) ?_ _)
            go_wp2_with fail
            go_meet
            case rel =>
              have hr := rows3 (B := W1.heap.size) ho88 o88r6 o88r10 lt88 lt83 lt87 ⟨by omega, by omega, by omega⟩ (by omega) (by omega) (by omega)
              exact ⟨W2.heap.size, _, _, _, rfl, (((sb88.set 0 _).set 1 _).set 2 _), ((hr.setStr sb88 (by decide) 0 _).setStr (sb88.set 0 _) (by decide) 1 _).setStr ((sb88.set 0 _).set 1 _) (by decide) 2 _, ((bl88.setCell (by show W1.heap.size ≤ W2.heap.size; omega) _).setCell (by show W1.heap.size ≤ W2.heap.size; omega) _).setCell (by show W1.heap.size ≤ W2.heap.size; omega) _, by omega⟩
      · refine ⟨_, rfl, ?_⟩
        go_wp2_with (at_make; refine wpList_make_full _ rfl _ _ 28 rfl W75x.heap.size 3 i0 (.int .i64 0) 1 Try.underlying28 HI.out HZ0.out HZ1.out .i64 .i64 _ _ s.came.length rfl rfl rfl rfl (by rw [HZ2.out]; omega) (by unfold maxLen; omega) (Nat.le_refl _) ?_)
        intro W90x hown90 hgr90
        rw [toList_madeCells_one] at hown90
        have ho90 := zeros_own hown90
        have hb90 : Below W75x.heap.size W75x W90x := (Below.refl _ _).grown hgr90 (Nat.le_refl _) (fun j hj => by cases hj)
        have lt90 := fun g e => (⟨(ho90.lt g e).1, (ho90.lt g e).2⟩ : W75x.heap.size ≤ g ∧ g < W90x.heap.size)
        have hz90 := hb90.size
        clear hown90 hgr90
        go_wp2
        have bl90 := bl75.trans (hb90.mono (by have := bl75.size; omega))
        have sb90 := hs75.below hb90
        refine behind_normal ⟨cell_keep bl90 (Nat.le_refl _) c0, cell_keep bl90 (Nat.le_refl _) c3⟩ ?_
        refine anyT_ready (rs := [2, 6]) (by kernel_rfl) (by simp) ?_
        intro i hi
        simp only [List.mem_cons, List.not_mem_nil, or_false] at hi
        rcases hi with rfl | rfl
        · refine ⟨_, rfl, ?_⟩
          go_wp2_with fail
          refine (clone_own W90x _ s.parent (hpar W90x bl90) (by rw [HPL.out]; omega)).mono ?_
          rintro e W91x ⟨v91, rfl, ho91, hb91⟩
          obtain ⟨A91, c91, hv91⟩ := ho91.form
          rw [HPL.out] at hv91
          subst hv91
          have lt91 := fun g e => (⟨(ho91.lt g e).1, (ho91.lt g e).2⟩ : W90x.heap.size ≤ g ∧ g < W91x.heap.size)
          have hz91 := hb91.size
          go_wp2
          have bl91 := bl90.trans (hb91.mono (by have := bl90.size; omega))
          have o91r10 := own_below ho90 hb91
          have sb91 := sb90.below hb91
          refine behind_normal ⟨cell_keep bl91 (Nat.le_refl _) c0, cell_keep bl91 (Nat.le_refl _) c3⟩ ?_
          refine anyT_ready (rs := [6]) (by kernel_rfl) (by simp) ?_
          intro i hi
          simp only [List.mem_cons, List.not_mem_nil, or_false] at hi
          subst hi
          · refine ⟨_, rfl, ?_⟩
            go_wp2_with (at_make; refine wpList_make_full _ rfl _ _ 28 rfl W91x.heap.size 3 i0 (.int .i64 0) 1 Try.underlying28 HI.out HZ0.out HZ1.out .i64 .i64 _ _ s.came.length rfl rfl rfl rfl (by rw [HZ2.out]; omega) (by unfold maxLen; omega) (Nat.le_refl _) ?_)
            intro W92x hown92 hgr92
            rw [toList_madeCells_one] at hown92
            have ho92 := zeros_own hown92
            have hb92 : Below W91x.heap.size W91x W92x := (Below.refl _ _).grown hgr92 (Nat.le_refl _) (fun j hj => by cases hj)
            have lt92 := fun g e => (⟨(ho92.lt g e).1, (ho92.lt g e).2⟩ : W91x.heap.size ≤ g ∧ g < W92x.heap.size)
            have hz92 := hb92.size
            clear hown92 hgr92
            go_wp2
            have bl92 := bl91.trans (hb92.mono (by have := bl91.size; omega))
            have o92r10 := own_below o91r10 hb92
            have o92r2 := own_below ho91 hb92
            have sb92 := sb91.below hb92
            refine behind_normal ⟨cell_keep bl92 (Nat.le_refl _) c0, cell_keep bl92 (Nat.le_refl _) c3⟩ ?_
            refine anyT_take (i := 11) _ ?vg93 rfl (by kernel_rfl) (by kernel_rfl) (by kernel_rfl) (by intro c a d v w h; cases d <;> exact h) rfl ?yg93 ⟨cell_keep bl92 (Nat.le_refl _) c0, cell_keep bl92 (Nat.le_refl _) c3⟩ ?_
            case yg93 => intro w hS; go_simp; first | done | with_reducible rfl
            simp only [Act.put]
            refine anyT_one (i := 13) _ rfl (by kernel_rfl) ?_
            have kx0 : W92x.cell? ⟨W2.heap.size, 0, none⟩ = some (.slice none 0 0) := sb92.cell 0
            have kx1 : W92x.cell? ⟨W2.heap.size, 1, none⟩ = some (.slice none 0 0) := sb92.cell 1
            have kx2 : W92x.cell? ⟨W2.heap.size, 2, none⟩ = some (.slice none 0 0) := sb92.cell 2
            have kf0 := sb92.frozen 0
            have kf1 := sb92.frozen 1
            have kf2 := sb92.frozen 2
            go_wp2
            refine behind_last (by kernel_rfl) (anyT_done (by kernel_rfl) ?_ _)
            go_wp2_with fail
            go_meet
            case rel =>
              have hr := rows3 (B := W1.heap.size) o92r2 ho92 o92r10 lt91 lt92 lt90 ⟨by omega, by omega, by omega⟩ (by omega) (by omega) (by omega)
              exact ⟨W2.heap.size, _, _, _, rfl, (((sb92.set 0 _).set 1 _).set 2 _), ((hr.setStr sb92 (by decide) 0 _).setStr (sb92.set 0 _) (by decide) 1 _).setStr ((sb92.set 0 _).set 1 _) (by decide) 2 _, ((bl92.setCell (by show W1.heap.size ≤ W2.heap.size; omega) _).setCell (by show W1.heap.size ≤ W2.heap.size; omega) _).setCell (by show W1.heap.size ≤ W2.heap.size; omega) _, by omega⟩
        · refine ⟨_, rfl, ?_⟩
          go_wp2_with (at_make; refine wpList_make_full _ rfl _ _ 28 rfl W90x.heap.size 3 i0 (.int .i64 0) 1 Try.underlying28 HI.out HZ0.out HZ1.out .i64 .i64 _ _ s.came.length rfl rfl rfl rfl (by rw [HZ2.out]; omega) (by unfold maxLen; omega) (Nat.le_refl _) ?_)
          intro W94x hown94 hgr94
          rw [toList_madeCells_one] at hown94
          have ho94 := zeros_own hown94
          have hb94 : Below W90x.heap.size W90x W94x := (Below.refl _ _).grown hgr94 (Nat.le_refl _) (fun j hj => by cases hj)
          have lt94 := fun g e => (⟨(ho94.lt g e).1, (ho94.lt g e).2⟩ : W90x.heap.size ≤ g ∧ g < W94x.heap.size)
          have hz94 := hb94.size
          clear hown94 hgr94
          go_wp2
          have bl94 := bl90.trans (hb94.mono (by have := bl90.size; omega))
          have o94r10 := own_below ho90 hb94
          have sb94 := sb90.below hb94
          refine behind_normal ⟨cell_keep bl94 (Nat.le_refl _) c0, cell_keep bl94 (Nat.le_refl _) c3⟩ ?_
          refine anyT_ready (rs := [2]) (by kernel_rfl) (by simp) ?_
          intro i hi
          simp only [List.mem_cons, List.not_mem_nil, or_false] at hi
          subst hi
          · refine ⟨_, rfl, ?_⟩
            go_wp2_with fail
            refine (clone_own W94x _ s.parent (hpar W94x bl94) (by rw [HPL.out]; omega)).mono ?_
            rintro e W95x ⟨v95, rfl, ho95, hb95⟩
            obtain ⟨A95, c95, hv95⟩ := ho95.form
            rw [HPL.out] at hv95
            subst hv95
            have lt95 := fun g e => (⟨(ho95.lt g e).1, (ho95.lt g e).2⟩ : W94x.heap.size ≤ g ∧ g < W95x.heap.size)
            have hz95 := hb95.size
            go_wp2
            have bl95 := bl94.trans (hb95.mono (by have := bl94.size; omega))
            have o95r10 := own_below o94r10 hb95
            have o95r6 := own_below ho94 hb95
            have sb95 := sb94.below hb95
            refine behind_normal ⟨cell_keep bl95 (Nat.le_refl _) c0, cell_keep bl95 (Nat.le_refl _) c3⟩ ?_
            refine anyT_take (i := 11) _ ?vg96 rfl (by kernel_rfl) (by kernel_rfl) (by kernel_rfl) (by intro c a d v w h; cases d <;> exact h) rfl ?yg96 ⟨cell_keep bl95 (Nat.le_refl _) c0, cell_keep bl95 (Nat.le_refl _) c3⟩ ?_
            case yg96 => intro w hS; go_simp; first | done | with_reducible rfl
            simp only [Act.put]
            refine anyT_one (i := 13) _ rfl (by kernel_rfl) ?_
            have kx0 : W95x.cell? ⟨W2.heap.size, 0, none⟩ = some (.slice none 0 0) := sb95.cell 0
            have kx1 : W95x.cell? ⟨W2.heap.size, 1, none⟩ = some (.slice none 0 0) := sb95.cell 1
            have kx2 : W95x.cell? ⟨W2.heap.size, 2, none⟩ = some (.slice none 0 0) := sb95.cell 2
            have kf0 := sb95.frozen 0
            have kf1 := sb95.frozen 1
            have kf2 := sb95.frozen 2
            go_wp2
            refine behind_last (by kernel_rfl) (anyT_done (by kernel_rfl) ?_ _)
            go_wp2_with fail
            go_meet
            case rel =>
              have hr := rows3 (B := W1.heap.size) ho95 o95r6 o95r10 lt95 lt94 lt90 ⟨by omega, by omega, by omega⟩ (by omega) (by omega) (by omega)
              exact ⟨W2.heap.size, _, _, _, rfl, (((sb95.set 0 _).set 1 _).set 2 _), ((hr.setStr sb95 (by decide) 0 _).setStr (sb95.set 0 _) (by decide) 1 _).setStr ((sb95.set 0 _).set 1 _) (by decide) 2 _, ((bl95.setCell (by show W1.heap.size ≤ W2.heap.size; omega) _).setCell (by show W1.heap.size ≤ W2.heap.size; omega) _).setCell (by show W1.heap.size ≤ W2.heap.size; omega) _, by omega⟩
    -- GEN-B
  case rest =>
    obtain ⟨x, vu, vh, vb, rfl, hcl⟩ := hcut
    have hKP : s.came.length ≤ P.length := by have := HS.out.inv.came; omega
    have hpk := HPS.out.1
    rw [lii_len] at hpk
    by_cases hk0 : s.came.length = 0
    · obtain ⟨Ah, ch, e2⟩ := (hcl.2.1.at (i := 1) rfl rfl).form
      rw [li_len, List.length_replicate] at e2
      subst e2
      have k0 : wc.cell? ⟨w.heap.size, 0, none⟩ = some (.slice Ac s.came.length cc) := (hs1.below hcl.2.2.1).cell 0
      have p1 : wc.cell? ⟨x, 1, none⟩ = some (.slice Ah s.came.length ch) := hcl.1.cell 1
      have HC := Lib.hid hcl
      have HHN := Lib.hid (show halvesN s P = List.replicate s.came.length 0 by
        unfold halvesN halvesC
        rw [hk0]
        show (halfInit s).half = _
        unfold halfInit
        rw [hk0]; rfl)
      clear hcl c0 c3 hpar hs1
      rw [hk0] at *
      go_wp2
      go_loopw [26] (fun i wr => i = .int .i64 0 ∧ wr = wc) (fun i _ => 0)
      case atStart => exact ⟨rfl, rfl⟩
      case round =>
        obtain ⟨rfl, rfl⟩ := hrel
        go_wp2
        go_loopw [7] (fun i w' => i = .int .i64 (-1) ∧ w' = wr) (fun i _ => 0)
        case atStart => exact ⟨rfl, rfl⟩
        case round =>
          obtain ⟨rfl, rfl⟩ := hrel
          go_wp2
          go_ret
          refine ⟨_, rfl, ?_, hB1.trans (HC.out.2.2.1.mono hB1.size)⟩
          have hr := HC.out.2.1.at (i := 1) rfl rfl
          rw [HHN.out]
          have hr2 := own_base hr hB1.size
          exact hr2
    · obtain ⟨Au, cu, e1⟩ := (hcl.2.1.at (i := 0) rfl rfl).form
      obtain ⟨Ah, ch, e2⟩ := (hcl.2.1.at (i := 1) rfl rfl).form
      obtain ⟨Ab, cb, e3⟩ := (hcl.2.1.at (i := 2) rfl rfl).form
      rw [show (s.parent).length = s.came.length from HPL.out] at e1
      rw [li_len, List.length_replicate] at e2 e3
      subst e1 e2 e3
      obtain ⟨ub, rfl⟩ := (hcl.2.1.at (i := 0) rfl rfl).block (by show 0 < s.parent.length; rw [HPL.out]; omega)
      obtain ⟨hb, rfl⟩ := (hcl.2.1.at (i := 1) rfl rfl).block (by show 0 < (li _).length; rw [li_len, List.length_replicate]; omega)
      obtain ⟨bb, rfl⟩ := (hcl.2.1.at (i := 2) rfl rfl).block (by show 0 < (li _).length; rw [li_len, List.length_replicate]; omega)
      have hs3 : Str wc w.heap.size 116 [.slice Ac s.came.length cc, .slice Al s.left.length cl, .slice An P.length cn, .slice Ap s.came.length cp] := hs1.below hcl.2.2.1
      have k0 : wc.cell? ⟨w.heap.size, 0, none⟩ = some (.slice Ac s.came.length cc) := hs3.cell 0
      have HC := Lib.hid hcl
      have HS1 := Lib.hid hs1
      have hb1 := (hcl.2.1.at (i := 1) rfl rfl).lt hb rfl
      clear hcl c0 c3 hpar hs3 hs1
      go_wp2
      clear k0
      go_loopw [26] (fun i wr => ∃ j : Nat, j ≤ s.came.length ∧ i = .int .i64 j ∧ Climbs W1 W1.heap.size s.came.length wr x (.slice (some ⟨ub, 0, none⟩) s.came.length cu) (.slice (some ⟨hb, 0, none⟩) s.came.length ch) (.slice (some ⟨bb, 0, none⟩) s.came.length cb)
        { up := s.parent, half := initTo s.came.length j, best := initTo s.came.length j }) (fun i _ => s.came.length - (intOf i).toNat)
      case atStart => exact ⟨0, by omega, rfl, by rw [initTo_zero]; exact HC.out⟩
      case round =>
        obtain ⟨j, hj, rfl, hcl⟩ := hrel
        obtain ⟨wo, rfl⟩ : ∃ wo : World, wo = wr := ⟨_, rfl⟩
        have HC2 := Lib.hid hcl
        by_cases hlt : j < s.came.length
        · have hru := hcl.2.1.at (i := 1) rfl rfl
          have hrb := hcl.2.1.at (i := 2) rfl rfl
          have hjl : j < (initTo s.came.length j).length := by rw [initTo_len hj]; exact hlt
          obtain ⟨q1, f1⟩ := row_nat hru hjl
          obtain ⟨q2, f2⟩ := row_nat hrb hjl
          generalize (initTo s.came.length j).getD j 0 = z at *
          have p1 : wo.cell? ⟨x, 1, none⟩ = some (.slice (some ⟨hb, 0, none⟩) s.came.length ch) := hcl.1.cell 1
          have p2 : wo.cell? ⟨x, 2, none⟩ = some (.slice (some ⟨bb, 0, none⟩) s.came.length cb) := hcl.1.cell 2
          have hbb := hrb.lt bb rfl
          have hne : hb ≠ bb := fun e => by
            have := hcl.2.1.2.2 1 2 _ _ (by omega) rfl rfl
            rcases this with h | h
            · cases h
            · exact h (by rw [e]; rfl)
          have hnx1 : x ≠ hb := fun e => hcl.1.not_row (by decide) hru (by rw [e]; rfl)
          have hnx2 : x ≠ bb := fun e => hcl.1.not_row (by decide) hrb (by rw [e]; rfl)
          have HC3 := Lib.hid (((HC2.out.drew).put (i := 1) rfl rfl hb1.1 j (j : Int) { up := s.parent, half := initTo s.came.length (j + 1), best := initTo s.came.length j } (by rw [← initTo_succ hlt, ← li_set]; rfl)).put (i := 2) rfl rfl hbb.1 j (j : Int) { up := s.parent, half := initTo s.came.length (j + 1), best := initTo s.came.length (j + 1) } (by
            show [s.parent, li (initTo s.came.length (j + 1)), li (initTo s.came.length (j + 1))] = [s.parent, li (initTo s.came.length (j + 1)), (li (initTo s.came.length j)).set j (j : Int)]
            rw [← li_set, initTo_succ hlt]))
          clear hcl hru hrb
          go_wp2
          refine region_held_wp (fun w' => w'.cell? ⟨x, 1, none⟩ = some (.slice (some ⟨hb, 0, none⟩) s.came.length ch) ∧ w'.cell? ⟨x, 2, none⟩ = some (.slice (some ⟨bb, 0, none⟩) s.came.length cb)) [0, 1, 2, 3, 4, 5, 6, 7, 8, 10] [0, 1, 2, 3, 4, 5, 6, 7, 8, 9, 10, 11] (by kernel_rfl) (by kernel_rfl) (by kernel_rfl) rfl (by intro c a d v w h; cases d <;> exact h) ⟨p1, p2⟩ ?_
          refine walkH_still _ ?v0 rfl rfl rfl ?y0 ?_
          case y0 => intro w hS; go_simp; first | done | with_reducible rfl
          simp only [Act.put]
          refine walkH_still _ ?v1 rfl rfl rfl ?y1 ?_
          case y1 => intro w hS; go_simp; first | done | with_reducible rfl
          simp only [Act.put]
          refine walkH_still _ ?v2 rfl rfl rfl ?y2 ?_
          case y2 => intro w hS; go_simp; first | done | with_reducible rfl
          simp only [Act.put]
          refine walkH_still _ ?v3 rfl rfl rfl ?y3 ?_
          case y3 => intro w hS; go_simp; first | done | with_reducible rfl
          simp only [Act.put]
          refine walkH_still _ ?v4 rfl rfl rfl ?y4 ?_
          case y4 => intro w hS; go_simp; first | done | with_reducible rfl
          simp only [Act.put]
          refine walkH_still _ ?v5 rfl rfl rfl ?y5 ?_
          case y5 => intro w hS; go_simp; first | done | with_reducible rfl
          simp only [Act.put]
          refine walkH_still _ ?v6 rfl rfl rfl ?y6 ?_
          case y6 => intro w hS; go_simp; first | done | with_reducible rfl
          simp only [Act.put]
          refine walkH_still _ ?v7 rfl rfl rfl ?y7 ?_
          case y7 => intro w hS; go_simp; first | done | with_reducible rfl
          simp only [Act.put]
          refine walkH_still _ ?v8 rfl rfl rfl ?y8 ?_
          case y8 => intro w hS; go_simp; first | done | with_reducible rfl
          simp only [Act.put]
          simp only [List.setIfInBounds_toArray, List.set_cons_zero, List.set_cons_succ]
          refine walkH_does _ rfl rfl ?_
          go_wp2
          refine walkH_still _ ?v10 rfl rfl rfl ?y10 ?_
          case y10 => intro w hS; go_simp; first | done | with_reducible rfl
          simp only [Act.put]
          simp only [List.setIfInBounds_toArray, List.set_cons_zero, List.set_cons_succ]
          refine walkH_does _ rfl rfl ?_
          go_wp2
          refine walkH_nil ?_
          go_wp2
          go_roundw
          case rel => exact ⟨j + 1, by omega, by go_num, HC3.out⟩
          case measure => simp [intOf]; omega
        · obtain rfl : j = s.came.length := by omega
          rw [initTo_all] at HC2
          have hin0 : InR s.came.length (halfInit s) := ⟨HPL.out, by simp [halfInit], by simp [halfInit], fun i hi => ⟨HS.out.low i hi, by have := HS.out.ups i (by rw [HPL.out]; exact hi); show s.parent.getD i (-1) < _; omega⟩,
            fun i hi => by show (List.range s.came.length).getD i 0 < _; rw [List.getD_eq_getElem?_getD, List.getElem?_range hi]; exact hi⟩
          have HIN0 := Lib.hid hin0
          have k0 : wo.cell? ⟨w.heap.size, 0, none⟩ = some (.slice Ac s.came.length cc) := (HS1.out.below hcl.2.2.1).cell 0
          have hk1 : 0 ≤ (s.came.length : Int) - 1 := by omega
          clear hcl hin0
          go_wp2
          clear k0
          go_loopw [7] (fun i wr => ∃ (m : Nat) (c : Cl), m < s.came.length ∧ i = .int .i64 m ∧ halfDown s P m c = halvesC s P ∧ InR s.came.length c ∧ Ups c.up ∧
            Climbs W1 W1.heap.size s.came.length wr x (.slice (some ⟨ub, 0, none⟩) s.came.length cu) (.slice (some ⟨hb, 0, none⟩) s.came.length ch) (.slice (some ⟨bb, 0, none⟩) s.came.length cb) c) (fun i _ => (intOf i).toNat)
          case atStart => exact ⟨s.came.length - 1, halfInit s, by omega, by rw [Int.ofNat_sub (by omega)]; rfl, rfl, HIN0.out, HS.out.ups, HC2.out⟩
          case round =>
            obtain ⟨m, c, hm, rfl, hd, hin, hups, hcl⟩ := hrel
            obtain ⟨wo2, rfl⟩ : ∃ wo : World, wo = wr := ⟨_, rfl⟩
            have HD := Lib.hid hd
            have HIN := Lib.hid hin
            have HUP := Lib.hid hups
            have HCL := Lib.hid hcl
            clear hd hin hups
            by_cases hm0 : m = 0
            · subst hm0
              have p1 : wo2.cell? ⟨x, 1, none⟩ = some (.slice (some ⟨hb, 0, none⟩) s.came.length ch) := hcl.1.cell 1
              clear hcl
              go_wp2
              go_ret
              have hr := HCL.out.2.1.at (i := 1) rfl rfl
              refine ⟨_, rfl, ?_, hB1.trans (HCL.out.2.2.1.mono hB1.size)⟩
              unfold halvesN
              rw [← HD.out]
              exact own_base hr hB1.size
            · have hm1 : 0 < m := by omega
              have hmg : (0 : Int) < (m : Int) := by omega
              have hal : s.came.getD m 0 < P.length := by
                rw [List.getD_eq_getElem?_getD, List.getElem?_eq_getElem hm]; exact HS.out.came _ (List.getElem_mem hm)
              have HHD := Lib.hid (show halfDown s P m c = halfDown s P (m - 1) (halfRow s.number m (P.getD (s.came.getD m 0) []) c) by
                obtain ⟨q, rfl⟩ : ∃ q, m = q + 1 := ⟨m - 1, by omega⟩
                rfl)
              have hcr := ints_at HW.out.came
              obtain ⟨ad1, rfl, hca⟩ := hcr m (by rw [li_len]; exact hm)
              rw [li_at hm] at hca
              have hca' : wo2.cell? (ad1.add m) = some (.int .i64 (s.came.getD m 0 : Nat)) := by
                rw [List.getD_eq_getElem?_getD, List.getElem?_eq_getElem hm]; exact cell_keep hcl.2.2.1 (Nat.le_refl _) (cell_keep hB1 (Nat.le_refl _) hca)
              clear hca hcr
              generalize s.came.getD m 0 = a at *
              obtain ⟨Aq, nq, cq, rfl⟩ : ∃ A n c, vq = .slice A n c := by obtain ⟨A, c, e, _⟩ := HP.out; exact ⟨A, _, c, e⟩
              obtain ⟨rfl, hq1, hq2, hq3, hqr⟩ := grid_rows HP.out HPS.out
              obtain ⟨ad2, u, rfl, hcu, hu, hul⟩ := hqr a hal
              have hcu' := cell_keep hcl.2.2.1 (Nat.le_refl _) (cell_keep hB1 (Nat.le_refl _) hcu)
              have HPA := Lib.hid (show P.getD a [] = P[a] by rw [List.getD_eq_getElem?_getD, List.getElem?_eq_getElem hal]; rfl)
              have HPB := Lib.hid (HPO.out a hal)
              unfold maxLen at hq2
              generalize P[a] = row at *
              obtain ⟨C, cr, rfl, hr1, hr2, hr3⟩ := hu
              rw [li_len] at hcu' hr1
              unfold maxLen at hr2
              have HR := Lib.hid hr3
              have k0 : wo2.cell? ⟨w.heap.size, 0, none⟩ = some (.slice (some ad1) s.came.length cc) := (HS1.out.below hcl.2.2.1).cell 0
              clear hcl hcu hr3 hqr
              go_wp2
              clear k0 hca' hcu'
              go_loopw [57] (fun i wr => ∃ j : Nat, j ≤ row.length ∧ i = .int .i64 j ∧ Climbs W1 W1.heap.size s.came.length wr x (.slice (some ⟨ub, 0, none⟩) s.came.length cu) (.slice (some ⟨hb, 0, none⟩) s.came.length ch) (.slice (some ⟨bb, 0, none⟩) s.came.length cb)
                (halfRow s.number m (row.take j) c)) (fun i _ => row.length - (intOf i).toNat)
              case atStart => exact ⟨0, by omega, rfl, HCL.out⟩
              case round =>
                obtain ⟨j, hj, rfl, hcl⟩ := hrel
                obtain ⟨wo3, rfl⟩ : ∃ wo : World, wo = wr := ⟨_, rfl⟩
                have hnum : ∀ b ∈ row, s.number.getD b (-1) = -1 ∨ (0 ≤ s.number.getD b (-1) ∧ s.number.getD b (-1) < s.came.length) := fun b hb => HS.out.number b (HPB.out b hb)
                obtain ⟨hin2, hup2⟩ := halfRow_ok (k := s.came.length) (n := m) (row.take j) c HIN.out HUP.out (fun b hb => hnum b (List.mem_of_mem_take hb))
                by_cases hlt : j < row.length
                · have HN := Lib.hid (show halfRow s.number m (row.take (j + 1)) c = halfOne s.number m (halfRow s.number m (row.take j) c) row[j] by
                    rw [List.take_succ_eq_append_getElem hlt]; unfold halfRow; rw [List.foldl_append]; rfl)
                  generalize halfRow s.number m (row.take j) c = c1 at *
                  have hj1 : j < (li row).length := by rw [li_len]; exact hlt
                  obtain ⟨cd, rfl, hx⟩ := HR.out j hj1
                  rw [li_at hlt hj1] at hx
                  have hbP : row[j] < P.length := HPB.out _ (List.getElem_mem hlt)
                  have hnb := hnum _ (List.getElem_mem hlt)
                  generalize row[j] = b at *
                  have hx' := cell_keep hcl.2.2.1 (Nat.le_refl _) (cell_keep hB1 (Nat.le_refl _) hx)
                  have hnr := ints_at HW.out.number
                  have hbn : b < s.number.length := by rw [HS.out.inv.number]; exact hbP
                  obtain ⟨ad3, rfl, hcn⟩ := hnr b hbn
                  have hcn' : wo3.cell? (ad3.add b) = some (.int .i64 (s.number.getD b (-1))) := by
                    rw [List.getD_eq_getElem?_getD, List.getElem?_eq_getElem hbn]; exact cell_keep hcl.2.2.1 (Nat.le_refl _) (cell_keep hB1 (Nat.le_refl _) hcn)
                  have HHO := Lib.hid (show halfOne s.number m c1 b = if s.number.getD b (-1) = -1 then c1 else { leastC c1 (s.number.getD b (-1)).toNat m with half := c1.half.set m (min (c1.half.getD m 0) (c1.half.getD (leastV c1 (s.number.getD b (-1)).toNat m) 0)) } from rfl)
                  have k2 : wo3.cell? ⟨w.heap.size, 2, none⟩ = some (.slice (some ad3) P.length cn) := (HS1.out.below hcl.2.2.1).cell 2
                  have HCL3 := Lib.hid hcl
                  clear hx hcn hnr hnum
                  generalize s.number.getD b (-1) = num at *
                  by_cases hn1 : num = -1
                  · have hb1 : (num == -1) = true := beq_iff_eq.2 hn1
                    have hb2 : (num != -1) = false := by rw [hn1]; rfl
                    have HHO2 := Lib.hid (show halfOne s.number m c1 b = c1 by rw [HHO.out, if_pos hn1])
                    clear hn1 hcl
                    go_wp2
                    go_roundw
                    case rel => exact ⟨j + 1, by omega, by go_num, by rw [HN.out, HHO2.out]; exact HCL3.out⟩
                    case measure => simp [intOf]; omega
                  · have hb1 : (num == -1) = false := beq_eq_false_iff_ne.2 hn1
                    have hb2 : (num != -1) = true := by rw [bne_iff_ne]; exact hn1
                    obtain ⟨m', rfl⟩ := Int.eq_ofNat_of_zero_le (show 0 ≤ num by omega)
                    have hm' : m' < s.came.length := by omega
                    rw [if_neg hn1, Int.toNat_natCast] at HHO
                    have hvk : leastV c1 m' m < s.came.length := by
                      obtain ⟨h1, h2⟩ := leastC_inR hin2 hup2 m' m hm'
                      exact h1.bestr _ h2
                    have hhl := hin2.half
                    obtain ⟨q1, qf⟩ := row_nat (hcl.2.1.at (i := 1) rfl rfl) (j := m) (by rw [hhl]; exact hm)
                    obtain ⟨q2, _⟩ := row_nat (hcl.2.1.at (i := 1) rfl rfl) (j := leastV c1 m' m) (by rw [hhl]; exact hvk)
                    have HV := Lib.hid (fun (hr9 : RowsD W1.heap.size wo3 [] []) => hr9)
                    generalize hqe : c1.half.getD m 0 = q at *
                    generalize hve : leastV c1 m' m = v at *
                    generalize hre : c1.half.getD v 0 = r at *
                    have HQE := Lib.hid hqe
                    have HVE := Lib.hid hve
                    have HRE := Lib.hid hre
                    have p0 : wo3.cell? ⟨x, 0, none⟩ = some (.slice (some ⟨ub, 0, none⟩) s.came.length cu) := hcl.1.cell 0
                    have p1 : wo3.cell? ⟨x, 1, none⟩ = some (.slice (some ⟨hb, 0, none⟩) s.came.length ch) := hcl.1.cell 1
                    have p2 : wo3.cell? ⟨x, 2, none⟩ = some (.slice (some ⟨bb, 0, none⟩) s.came.length cb) := hcl.1.cell 2
                    clear hcl hn1 hqe hve hre HV
                    go_wp2
                    refine region_held_wp (fun w' => w'.cell? ⟨x, 0, none⟩ = some (.slice (some ⟨ub, 0, none⟩) s.came.length cu) ∧ w'.cell? ⟨x, 1, none⟩ = some (.slice (some ⟨hb, 0, none⟩) s.came.length ch) ∧ w'.cell? ⟨x, 2, none⟩ = some (.slice (some ⟨bb, 0, none⟩) s.came.length cb) ∧ w'.cell? ⟨hb, m, none⟩ = some (.int .i64 q) ∧ w'.cell? ⟨hb, v, none⟩ = some (.int .i64 r)) [0, 1, 2, 3, 4, 5, 6, 7, 8, 9, 10, 11, 12, 14, 15, 16, 17] [0, 1, 2, 3, 4, 5, 6, 7, 8, 9, 10, 11, 12, 13, 14, 15, 16, 17, 18] (by kernel_rfl) (by kernel_rfl) (by kernel_rfl) rfl (by intro c a d v w h; cases d <;> exact h) ⟨p0, p1, p2, q1, q2⟩ ?_
                    refine walkH_still _ ?v100 rfl rfl rfl ?y100 ?_
                    case y100 => intro w hS; go_simp; first | done | with_reducible rfl
                    simp only [Act.put]
                    refine walkH_still _ ?v101 rfl rfl rfl ?y101 ?_
                    case y101 => intro w hS; go_simp; first | done | with_reducible rfl
                    simp only [Act.put]
                    refine walkH_still _ ?v102 rfl rfl rfl ?y102 ?_
                    case y102 => intro w hS; go_simp; first | done | with_reducible rfl
                    simp only [Act.put]
                    refine walkH_still _ ?v103 rfl rfl rfl ?y103 ?_
                    case y103 => intro w hS; go_simp; first | done | with_reducible rfl
                    simp only [Act.put]
                    refine walkH_still _ ?v104 rfl rfl rfl ?y104 ?_
                    case y104 => intro w hS; go_simp; first | done | with_reducible rfl
                    simp only [Act.put]
                    refine walkH_still _ ?v105 rfl rfl rfl ?y105 ?_
                    case y105 => intro w hS; go_simp; first | done | with_reducible rfl
                    simp only [Act.put]
                    refine walkH_still _ ?v106 rfl rfl rfl ?y106 ?_
                    case y106 => intro w hS; go_simp; first | done | with_reducible rfl
                    simp only [Act.put]
                    refine walkH_still _ ?v107 rfl rfl rfl ?y107 ?_
                    case y107 => intro w hS; go_simp; first | done | with_reducible rfl
                    simp only [Act.put]
                    refine walkH_still _ ?v108 rfl rfl rfl ?y108 ?_
                    case y108 => intro w hS; go_simp; first | done | with_reducible rfl
                    simp only [Act.put]
                    refine walkH_still _ ?v109 rfl rfl rfl ?y109 ?_
                    case y109 => intro w hS; go_simp; first | done | with_reducible rfl
                    simp only [Act.put]
                    refine walkH_still _ ?v110 rfl rfl rfl ?y110 ?_
                    case y110 => intro w hS; go_simp; first | done | with_reducible rfl
                    simp only [Act.put]
                    refine walkH_still _ ?v111 rfl rfl rfl ?y111 ?_
                    case y111 => intro w hS; go_simp; first | done | with_reducible rfl
                    simp only [Act.put]
                    refine walkH_still _ ?v112 rfl rfl rfl ?y112 ?_
                    case y112 => intro w hS; go_simp; first | done | with_reducible rfl
                    simp only [Act.put]
                    simp only [List.setIfInBounds_toArray, List.set_cons_zero, List.set_cons_succ]
                    refine walkH_does _ rfl rfl ?_
                    go_wp2_with fail
                    have hz3 := HCL3.out.2.2.1.size
                    have hst := HCL3.out.1
                    have hxl := hst.lt
                    have hubl := ((HCL3.out.2.1.at (i := 0) rfl rfl).lt ub rfl)
                    have hhbl := ((HCL3.out.2.1.at (i := 1) rfl rfl).lt hb rfl)
                    have hbbl := ((HCL3.out.2.1.at (i := 2) rfl rfl).lt bb rfl)
                    have hxu : x ≠ ub := fun e => hst.not_row (by decide) (HCL3.out.2.1.at (i := 0) rfl rfl) (by rw [e]; rfl)
                    have hxb : x ≠ bb := fun e => hst.not_row (by decide) (HCL3.out.2.1.at (i := 2) rfl rfl) (by rw [e]; rfl)
                    have hxh : x ≠ hb := fun e => hst.not_row (by decide) (HCL3.out.2.1.at (i := 1) rfl rfl) (by rw [e]; rfl)
                    refine (least_any wo3.drew W1.heap.size s.came.length _ _ _ c1 m' m (by show W1.heap.size ≤ wo3.heap.size; exact hz3) HCL3.out.drew.2.1 hin2 hup2 hm' hk (by omega)).mono ?_
                    rintro e w9 ⟨rfl, hr9, hf9⟩
                    have hS9 : ∀ k, (Value.slice (some ⟨ub, 0, none⟩) s.came.length cu).ownBlock = some k ∨ (Value.slice (some ⟨bb, 0, none⟩) s.came.length cb).ownBlock = some k → k = ub ∨ k = bb := by
                      rintro k (h | h)
                      · injection h with h; exact Or.inl h.symm
                      · injection h with h; exact Or.inr h.symm
                    have hst9 := hf9.str (show Str wo3.drew x _ _ from hst) (fun h => by rcases hS9 x h with h | h; exact hxu h; exact hxb h)
                    have hbl9 : Below W1.heap.size W1 w9 := HCL3.out.2.2.1.drew.trans (hf9.below hz3 (fun k hk h => by rcases hS9 k h with h | h <;> omega))
                    have hc9 : Climbs W1 W1.heap.size s.came.length w9 x (.slice (some ⟨ub, 0, none⟩) s.came.length cu) (.slice (some ⟨hb, 0, none⟩) s.came.length ch) (.slice (some ⟨bb, 0, none⟩) s.came.length cb) (leastC c1 m' m) := ⟨hst9, hr9, hbl9, HCL3.out.2.2.2⟩
                    rw [HVE.out]
                    have hh9 := hr9.at (i := 1) rfl rfl
                    rw [leastC_half] at hh9
                    obtain ⟨u1, uf⟩ := row_nat hh9 (j := m) (by rw [hhl]; exact hm)
                    obtain ⟨u2, _⟩ := row_nat hh9 (j := v) (by rw [hhl]; exact hvk)
                    rw [HQE.out] at u1
                    rw [HRE.out] at u2
                    have t0 : w9.cell? ⟨x, 0, none⟩ = some (.slice (some ⟨ub, 0, none⟩) s.came.length cu) := hst9.cell 0
                    have t1 : w9.cell? ⟨x, 1, none⟩ = some (.slice (some ⟨hb, 0, none⟩) s.came.length ch) := hst9.cell 1
                    have t2 : w9.cell? ⟨x, 2, none⟩ = some (.slice (some ⟨bb, 0, none⟩) s.came.length cb) := hst9.cell 2
                    have HC9 := Lib.hid (hc9.put (i := 1) rfl rfl (show W1.heap.size ≤ hb by omega) m (min q r : Nat) (halfOne s.number m c1 b) (by
                      rw [HHO.out, ← li_set, leastC_half]; rfl))
                    clear hst9 hbl9 hc9 hh9 hr9 hf9 hst hS9
                    go_wp2_with fail
                    refine walkH_still _ ?v114 rfl rfl rfl ?y114 ?_
                    case y114 => intro w hS; go_simp; first | done | with_reducible rfl
                    simp only [Act.put]
                    refine walkH_still _ ?v115 rfl rfl rfl ?y115 ?_
                    case y115 => intro w hS; go_simp; first | done | with_reducible rfl
                    simp only [Act.put]
                    refine walkH_still _ ?v116 rfl rfl rfl ?y116 ?_
                    case y116 => intro w hS; go_simp; first | done | with_reducible rfl
                    simp only [Act.put]
                    refine walkH_still _ ?v117 rfl rfl rfl ?y117 ?_
                    case y117 => intro w hS; go_simp; first | done | with_reducible rfl
                    simp only [Act.put]
                    simp only [List.setIfInBounds_toArray, List.set_cons_zero, List.set_cons_succ]
                    refine walkH_does _ rfl rfl ?_
                    go_wp2
                    refine walkH_nil ?_
                    go_wp2
                    have hmin : min (q : Int) (r : Int) = ((min q r : Nat) : Int) := by omega
                    rw [hmin]
                    go_roundw
                    case rel => exact ⟨j + 1, by omega, by go_num, by rw [HN.out]; exact HC9.out⟩
                    case measure => simp [intOf]; omega
                · obtain rfl : j = row.length := by omega
                  rw [List.take_length] at hcl hin2 hup2
                  have HC4 := Lib.hid hcl
                  have HD2 := Lib.hid (show halfDown s P (m - 1) (halfRow s.number m row c) = halvesC s P by rw [← HD.out, HHD.out, HPA.out])
                  clear hcl
                  go_wp2
                  go_roundw
                  case rel => exact ⟨m - 1, _, by omega, by rw [Int.ofNat_sub (by omega)]; rfl, HD2.out, hin2, hup2, HC4.out⟩
                  case measure => simp [intOf]; omega
end Go.Proofs.Ytdfehpcbcgbidaa.Gc
