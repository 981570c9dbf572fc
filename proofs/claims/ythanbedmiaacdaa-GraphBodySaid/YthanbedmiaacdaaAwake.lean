/- What the law's awake answers: the chapter's examples hold. -/
import Derived.Test.YthanbedmiaacdaaPairs
import Derived.Test.YthanbedmiaacdaaBodyC
import Derived.Test.YthanbedmiaacdaaIdomC
namespace Go.Proofs.Ythanbedmiaacdaa.Gc
open Go.ChangeShapes Go.WideShapes Go.ChangeAt Go.RowKit Go.Shelf Go.Proofs.Ythanbedmiaacdaa.Mem Go.Proofs.Ythanbedmiaacdaa.Gr Go.Proofs.Ythanbedmiaacdaa.Gn Go.Proofs.Ythanbedmiaacdaa.Br Go.Proofs.Ythanbedmiaacdaa.Rp
set_option linter.unusedVariables false

/-- What spans asks, reckoned. -/
def spannedB (came : List Nat) (idom : List Int) : Bool :=
  (came.all fun b => decide (b < idom.length)) && (came.all fun b => b == 0 || (decide (0 ≤ idom.getD b 0) && decide ((idom.getD b 0).toNat < idom.length))) &&
  ((List.range (came.length + 1)).all fun j => (countL idom (came.reverse.take j)).all fun x => decide (x ≤ 1000)) &&
  ((List.range (came.length + 1)).all fun j => (spanTo came idom j).1.all fun x => decide (x ≤ 1000))
theorem getD_all {l : List Nat} (h : l.all (fun x => decide (x ≤ 1000)) = true) (b : Nat) : l.getD b 0 ≤ 1000 := by
  rw [List.getD_eq_getElem?_getD]
  rcases hb : l[b]? with _ | x
  · exact Nat.zero_le _
  · exact of_decide_eq_true (List.all_eq_true.1 h x (List.mem_of_getElem? hb))
theorem spanned_of {came : List Nat} {idom : List Int} (h : spannedB came idom = true) : Spanned came idom := by
  unfold spannedB at h
  rw [Bool.and_eq_true, Bool.and_eq_true, Bool.and_eq_true] at h
  obtain ⟨⟨⟨h1, h2⟩, h3⟩, h4⟩ := h
  refine ⟨fun b hb => of_decide_eq_true (List.all_eq_true.1 h1 b hb), fun b hb h0 => ?_, fun l hl b => ?_, fun j b => ?_⟩
  · have := List.all_eq_true.1 h2 b hb
    rw [Bool.or_eq_true, Bool.and_eq_true, beq_iff_eq, decide_eq_true_eq, decide_eq_true_eq] at this
    rcases this with h | ⟨h, k⟩
    · exact absurd h h0
    · exact ⟨(idom.getD b 0).toNat, by omega, k⟩
  · have e : l = came.reverse.take l.length := List.prefix_iff_eq_take.1 hl
    have hle : l.length ≤ came.length := by have := hl.length_le; rw [List.length_reverse] at this; exact this
    rw [e]
    exact getD_all (List.all_eq_true.1 h3 _ (List.mem_range.2 (by omega))) b
  · rcases Nat.lt_or_ge came.length j with hj | hj
    · have e : spanTo came idom j = spanTo came idom came.length := by
        unfold spanTo
        rw [List.take_of_length_le (Nat.le_of_lt hj), List.take_length]
      rw [e]
      exact getD_all (List.all_eq_true.1 h4 _ (List.mem_range.2 (by omega))) b
    · exact getD_all (List.all_eq_true.1 h4 _ (List.mem_range.2 (by omega))) b
def exA : List (List Int) := [[1, 2], [3], [3], [1]]
def exB : List (List Int) := [[1], [2, 3], [1], []]
def exC : List (List Int) := [[1, 2], [2], []]
theorem exA_spans : Spans (tidyN exA) := spanned_of (by decide +kernel)
theorem exB_spans : Spans (tidyN exB) := spanned_of (by decide +kernel)
theorem exA_order : li (orderN (tidyN exA)) = [0, 2, 1, 3] := by decide +kernel
theorem exA_idom : idomN (tidyN exA) = [-1, 0, 0, 0] := by decide +kernel
theorem exB_body : li (bodyN (tidyN exB) 1) = [1, 2] := by decide +kernel
theorem exC_crit : (criticalN (tidyN exC)).map pr = [(0, 2)] := by decide +kernel
theorem exA_red : reducibleN (tidyN exA) = false := by decide +kernel
theorem exB_red : reducibleN (tidyN exB) = true := by decide +kernel
theorem exA_head : headersN (tidyN exA) = [] := by decide +kernel
theorem Str.new_ {w : World} {n : Nat} {t : TypeId} (vs : List Value) (h : n = w.heap.size) : Str (w.alloc (.cells vs.toArray t)) n t vs := by subst h; exact World.alloc_heap_new w _
theorem Str.alloc_ {w : World} {x : Nat} {t : TypeId} {vs : List Value} (h : Str w x t vs) (o : Obj) : Str (w.alloc o) x t vs := h.below ((Below.refl _ _).alloc (Nat.le_refl _) o)
theorem add_at (x k : Nat) : (⟨x, 0, none⟩ : Addr).add k = ⟨x, k, none⟩ := by cases k <;> simp [Addr.add]
theorem str_ints {W : World} {x : Nat} {t : TypeId} {l : List Int} (h : Str W x t (l.map (Value.int .i64))) (hl : l.length ≤ 1000) : Ints W (.slice (some ⟨x, 0, none⟩) l.length l.length) l := by
  refine ⟨_, _, rfl, Nat.le_refl _, by unfold maxLen; omega, fun k hk => ⟨_, rfl, ?_⟩⟩
  rw [add_at, Str.cell h, List.getElem?_map, List.getElem?_eq_getElem hk]; rfl
theorem str_grid {W : World} {x : Nat} {t : TypeId} {vs : List Value} {g : List (List Int)} (h : Str W x t vs) (hl : g.length ≤ 1000) (hv : ∀ k (hk : k < g.length), ∃ u, vs[k]? = some u ∧ Ints W u g[k]) : Grid W (.slice (some ⟨x, 0, none⟩) g.length g.length) g := by
  refine ⟨_, _, rfl, Nat.le_refl _, by unfold maxLen; omega, fun k hk => ?_⟩
  obtain ⟨u, hu, hi⟩ := hv k hk
  exact ⟨_, u, rfl, by rw [add_at, Str.cell h]; exact hu, hi⟩
theorem below_drewN {B : Nat} {w w' : World} (h : Below B w w') (n : Nat) : Below B w (w'.drewN n) := ⟨h.os, h.tape, h.output, h.size, h.block⟩
theorem small_of {g : List (List Int)} (h : (decide (g.length ≤ 1000) && g.all fun r => decide (r.length ≤ 1000)) = true) : Small g := by
  rw [Bool.and_eq_true, decide_eq_true_eq] at h
  exact ⟨h.1, fun i hi => of_decide_eq_true (List.all_eq_true.1 h.2 _ (List.getElem_mem hi))⟩
set_option maxRecDepth 100000 in
set_option maxHeartbeats 1000000 in
theorem awake_any (w : World) : Calls Try.prog 12 #[] w (AnswersB true w) := by
  go_enter Try.func12, Try.ntmps12
  go_upto_region 3 with (fail)
  obtain ⟨W1, hW1⟩ : ∃ W1, ((((((((((w.alloc (.cells #[.int .i64 1, .int .i64 2] 3)).alloc (.cells #[.int .i64 3] 3)).alloc (.cells #[.int .i64 3] 3)).alloc (.cells #[.int .i64 1] 3)).alloc
    (.cells #[.slice (some ⟨w.heap.size, 0, none⟩) 2 2, .slice (some ⟨w.heap.size + 1, 0, none⟩) 1 1, .slice (some ⟨w.heap.size + 1 + 1, 0, none⟩) 1 1, .slice (some ⟨w.heap.size + 1 + 1 + 1, 0, none⟩) 1 1] 23)).alloc
    (.cells #[.int .i64 1] 3)).alloc (.cells #[.int .i64 2, .int .i64 3] 3)).alloc (.cells #[.int .i64 1] 3)).alloc (.cells #[] 3)).alloc
    (.cells #[.slice (some ⟨w.heap.size + 1 + 1 + 1 + 1 + 1, 0, none⟩) 1 1, .slice (some ⟨w.heap.size + 1 + 1 + 1 + 1 + 1 + 1, 0, none⟩) 2 2, .slice (some ⟨w.heap.size + 1 + 1 + 1 + 1 + 1 + 1 + 1, 0, none⟩) 1 1, .slice (some ⟨w.heap.size + 1 + 1 + 1 + 1 + 1 + 1 + 1 + 1, 0, none⟩) 0 0] 23)) = W1 := ⟨_, rfl⟩
  rw [hW1]
  have hB1 : Below w.heap.size w W1 := by
    rw [← hW1]
    iterate 10 refine Below.alloc ?_ (by first | exact Nat.le_refl _ | (simp only [World.size_alloc]; omega)) _
    exact Below.refl _ _
  have s0 : Str W1 w.heap.size 3 ([1, 2].map (Value.int .i64)) := by rw [← hW1]; (iterate 9 refine Str.alloc_ ?_ _); exact Str.new_ _ rfl
  have s1 : Str W1 (w.heap.size + 1) 3 ([3].map (Value.int .i64)) := by rw [← hW1]; (iterate 8 refine Str.alloc_ ?_ _); exact Str.new_ _ (by simp only [World.size_alloc])
  have s2 : Str W1 (w.heap.size + 1 + 1) 3 ([3].map (Value.int .i64)) := by rw [← hW1]; (iterate 7 refine Str.alloc_ ?_ _); exact Str.new_ _ (by simp only [World.size_alloc])
  have s3 : Str W1 (w.heap.size + 1 + 1 + 1) 3 ([1].map (Value.int .i64)) := by rw [← hW1]; (iterate 6 refine Str.alloc_ ?_ _); exact Str.new_ _ (by simp only [World.size_alloc])
  have s4 : Str W1 (w.heap.size + 1 + 1 + 1 + 1) 23 [.slice (some ⟨w.heap.size, 0, none⟩) 2 2, .slice (some ⟨w.heap.size + 1, 0, none⟩) 1 1, .slice (some ⟨w.heap.size + 1 + 1, 0, none⟩) 1 1, .slice (some ⟨w.heap.size + 1 + 1 + 1, 0, none⟩) 1 1] := by rw [← hW1]; (iterate 5 refine Str.alloc_ ?_ _); exact Str.new_ _ (by simp only [World.size_alloc])
  have s5 : Str W1 (w.heap.size + 1 + 1 + 1 + 1 + 1) 3 ([1].map (Value.int .i64)) := by rw [← hW1]; (iterate 4 refine Str.alloc_ ?_ _); exact Str.new_ _ (by simp only [World.size_alloc])
  have s6 : Str W1 (w.heap.size + 1 + 1 + 1 + 1 + 1 + 1) 3 ([2, 3].map (Value.int .i64)) := by rw [← hW1]; (iterate 3 refine Str.alloc_ ?_ _); exact Str.new_ _ (by simp only [World.size_alloc])
  have s7 : Str W1 (w.heap.size + 1 + 1 + 1 + 1 + 1 + 1 + 1) 3 ([1].map (Value.int .i64)) := by rw [← hW1]; (iterate 2 refine Str.alloc_ ?_ _); exact Str.new_ _ (by simp only [World.size_alloc])
  have s8 : Str W1 (w.heap.size + 1 + 1 + 1 + 1 + 1 + 1 + 1 + 1) 3 (([] : List Int).map (Value.int .i64)) := by rw [← hW1]; (iterate 1 refine Str.alloc_ ?_ _); exact Str.new_ _ (by simp only [World.size_alloc])
  have s9 : Str W1 (w.heap.size + 1 + 1 + 1 + 1 + 1 + 1 + 1 + 1 + 1) 23 [.slice (some ⟨w.heap.size + 1 + 1 + 1 + 1 + 1, 0, none⟩) 1 1, .slice (some ⟨w.heap.size + 1 + 1 + 1 + 1 + 1 + 1, 0, none⟩) 2 2, .slice (some ⟨w.heap.size + 1 + 1 + 1 + 1 + 1 + 1 + 1, 0, none⟩) 1 1, .slice (some ⟨w.heap.size + 1 + 1 + 1 + 1 + 1 + 1 + 1 + 1, 0, none⟩) 0 0] := by rw [← hW1]; exact Str.new_ _ (by simp only [World.size_alloc])
  have gA : Grid W1 (.slice (some ⟨w.heap.size + 1 + 1 + 1 + 1, 0, none⟩) 4 4) exA := str_grid (g := exA) s4 (by decide) (fun k hk => by
    match k, hk with
    | 0, _ => exact ⟨_, rfl, str_ints s0 (by decide)⟩
    | 1, _ => exact ⟨_, rfl, str_ints s1 (by decide)⟩
    | 2, _ => exact ⟨_, rfl, str_ints s2 (by decide)⟩
    | 3, _ => exact ⟨_, rfl, str_ints s3 (by decide)⟩)
  have gB : Grid W1 (.slice (some ⟨w.heap.size + 1 + 1 + 1 + 1 + 1 + 1 + 1 + 1 + 1, 0, none⟩) 4 4) exB := str_grid (g := exB) s9 (by decide) (fun k hk => by
    match k, hk with
    | 0, _ => exact ⟨_, rfl, str_ints s5 (by decide)⟩
    | 1, _ => exact ⟨_, rfl, str_ints s6 (by decide)⟩
    | 2, _ => exact ⟨_, rfl, str_ints s7 (by decide)⟩
    | 3, _ => exact ⟨_, rfl, str_ints s8 (by decide)⟩)
  have GA := Lib.hid gA
  have GB := Lib.hid gB
  have HB1 := Lib.hid hB1
  clear hW1 s0 s1 s2 s3 s4 s5 s6 s7 s8 s9 gA gB hB1
  generalize w.heap.size + 1 + 1 + 1 + 1 + 1 + 1 + 1 + 1 + 1 = xB at *
  generalize w.heap.size + 1 + 1 + 1 + 1 = xA at *
  have SA : Small exA := small_of rfl
  have SB : Small exB := small_of rfl
  go_wp2_with fail
  refine (order_code _ _ exA GA.out SA).mono ?_
  rintro e W2 ⟨v2, rfl, ho2, hb2⟩
  rw [exA_order] at ho2
  have i2 := ho2.ints
  have HI2 := Lib.hid i2
  have HB2 := Lib.hid (HB1.out.trans (hb2.mono HB1.out.size))
  have GA2 := Lib.hid (GA.out.keep hb2)
  have GB2 := Lib.hid (GB.out.keep hb2)
  clear ho2 i2 hb2 HB1 GA GB
  go_wp2_with fail
  refine (nums_any _ _ _ _ _ (HI2.out.keep ((Below.refl _ _).alloc (Nat.le_refl _) _)) (str_ints (l := [0, 2, 1, 3]) (Str.new_ _ rfl) (by decide))).mono ?_
  rintro e W3 ⟨rfl, n3, hw3⟩
  have hb3 : Below W2.heap.size W2 W3 := by rw [hw3]; exact below_drewN ((Below.refl _ _).alloc (Nat.le_refl _) _) _
  rw [show (([0, 2, 1, 3] : List Int) == [0, 2, 1, 3]) = true from rfl]
  have HB3 := Lib.hid (HB2.out.trans (hb3.mono HB2.out.size))
  have GA3 := Lib.hid (GA2.out.keep hb3)
  have GB3 := Lib.hid (GB2.out.keep hb3)
  clear hw3 hb3 GA2 GB2 HB2 HI2
  go_wp2_with fail
  refine (idom_code _ _ exA GA3.out SA).mono ?_
  rintro e W4 ⟨v4, rfl, ho4, hb4⟩
  rw [exA_idom] at ho4
  have HI4 := Lib.hid ho4.ints
  have HB4 := Lib.hid (HB3.out.trans (hb4.mono HB3.out.size))
  have GA4 := Lib.hid (GA3.out.keep hb4)
  have GB4 := Lib.hid (GB3.out.keep hb4)
  clear ho4 hb4 HB3 GA3 GB3
  go_wp2_with fail
  refine (nums_any _ _ _ _ _ (HI4.out.keep ((Below.refl _ _).alloc (Nat.le_refl _) _)) (str_ints (l := [-1, 0, 0, 0]) (Str.new_ _ rfl) (by decide))).mono ?_
  rintro e W5 ⟨rfl, n5, hw5⟩
  have hb5 : Below W4.heap.size W4 W5 := by rw [hw5]; exact below_drewN ((Below.refl _ _).alloc (Nat.le_refl _) _) _
  rw [show (([-1, 0, 0, 0] : List Int) == [-1, 0, 0, 0]) = true from rfl]
  have HB5 := Lib.hid (HB4.out.trans (hb5.mono HB4.out.size))
  have GA5 := Lib.hid (GA4.out.keep hb5)
  have GB5 := Lib.hid (GB4.out.keep hb5)
  clear hw5 hb5 GA4 GB4 HB4 HI4
  go_wp2_with fail
  refine (body_code _ _ exB 1 GB5.out SB exB_spans).mono ?_
  rintro e W6 ⟨v6, rfl, ho6, hb6⟩
  rw [exB_body] at ho6
  have HI6 := Lib.hid ho6.ints
  have HB6 := Lib.hid (HB5.out.trans (hb6.mono HB5.out.size))
  have GA6 := Lib.hid (GA5.out.keep hb6)
  have GB6 := Lib.hid (GB5.out.keep hb6)
  clear ho6 hb6 HB5 GA5 GB5
  go_wp2_with fail
  refine (nums_any _ _ _ _ _ (HI6.out.keep ((Below.refl _ _).alloc (Nat.le_refl _) _)) (str_ints (l := [1, 2]) (Str.new_ _ rfl) (by decide))).mono ?_
  rintro e W7 ⟨rfl, n7, hw7⟩
  have hb7 : Below W6.heap.size W6 W7 := by rw [hw7]; exact below_drewN ((Below.refl _ _).alloc (Nat.le_refl _) _) _
  rw [show (([1, 2] : List Int) == [1, 2]) = true from rfl]
  have HB7 := Lib.hid (HB6.out.trans (hb7.mono HB6.out.size))
  have GA7 := Lib.hid (GA6.out.keep hb7)
  have GB7 := Lib.hid (GB6.out.keep hb7)
  clear hw7 hb7 GA6 GB6 HB6 HI6
  go_wp2_with fail
  obtain ⟨W8, hW8⟩ : ∃ W8, (((W7.alloc (.cells #[.int .i64 1, .int .i64 2] 3)).alloc (.cells #[.int .i64 2] 3)).alloc (.cells #[] 3)).alloc (.cells #[.slice (some ⟨W7.heap.size, 0, none⟩) 2 2, .slice (some ⟨W7.heap.size + 1, 0, none⟩) 1 1, .slice (some ⟨W7.heap.size + 1 + 1, 0, none⟩) 0 0] 23) = W8 := ⟨_, rfl⟩
  rw [hW8]
  have hb8 : Below W7.heap.size W7 W8 := by
    rw [← hW8]
    iterate 4 refine Below.alloc ?_ (by first | exact Nat.le_refl _ | (simp only [World.size_alloc]; omega)) _
    exact Below.refl _ _
  have s0 : Str W8 W7.heap.size 3 ([1, 2].map (Value.int .i64)) := by rw [← hW8]; (iterate 3 refine Str.alloc_ ?_ _); exact Str.new_ _ rfl
  have s1 : Str W8 (W7.heap.size + 1) 3 ([2].map (Value.int .i64)) := by rw [← hW8]; (iterate 2 refine Str.alloc_ ?_ _); exact Str.new_ _ (by simp only [World.size_alloc])
  have s2 : Str W8 (W7.heap.size + 1 + 1) 3 (([] : List Int).map (Value.int .i64)) := by rw [← hW8]; (iterate 1 refine Str.alloc_ ?_ _); exact Str.new_ _ (by simp only [World.size_alloc])
  have s3 : Str W8 (W7.heap.size + 1 + 1 + 1) 23 [.slice (some ⟨W7.heap.size, 0, none⟩) 2 2, .slice (some ⟨W7.heap.size + 1, 0, none⟩) 1 1, .slice (some ⟨W7.heap.size + 1 + 1, 0, none⟩) 0 0] := by rw [← hW8]; exact Str.new_ _ (by simp only [World.size_alloc])
  have gC : Grid W8 (.slice (some ⟨W7.heap.size + 1 + 1 + 1, 0, none⟩) 3 3) exC := str_grid (g := exC) s3 (by decide) (fun k hk => by
    match k, hk with
    | 0, _ => exact ⟨_, rfl, str_ints s0 (by decide)⟩
    | 1, _ => exact ⟨_, rfl, str_ints s1 (by decide)⟩
    | 2, _ => exact ⟨_, rfl, str_ints s2 (by decide)⟩)
  have SC : Small exC := small_of rfl
  have HB8 := Lib.hid (HB7.out.trans (hb8.mono HB7.out.size))
  have GA8 := Lib.hid (GA7.out.keep hb8)
  have GB8 := Lib.hid (GB7.out.keep hb8)
  clear hW8 hb8 s0 s1 s2 s3 HB7 GA7 GB7
  refine (critical_code _ _ exC gC SC).mono ?_
  rintro e W9 ⟨v9, rfl, ho9, hb9⟩
  rw [exC_crit] at ho9
  have HR9 := Lib.hid (OwnPairs.ranges ho9)
  have HB9 := Lib.hid (HB8.out.trans (hb9.mono HB8.out.size))
  have GA9 := Lib.hid (GA8.out.keep hb9)
  have GB9 := Lib.hid (GB8.out.keep hb9)
  clear ho9 hb9 HB8 GA8 GB8 gC
  go_wp2_with fail
  refine (pairs_any _ _ _ [(0, 2)] [(0, 2)] (HR9.out.keep ((Below.refl _ _).alloc (Nat.le_refl _) _)) ?pr (by decide) (by decide)).mono ?_
  case pr =>
    have hs := Str.new_ (w := W9) (n := W9.heap.size) (t := 52) [.int .i64 0, .int .i64 2] rfl
    exact ⟨_, _, rfl, Nat.le_refl _, by unfold maxLen; decide, fun j hj => by
      match j, hj with
      | 0, _ => exact ⟨_, rfl, hs.cell 0, hs.cell 1⟩⟩
  rintro e W10 ⟨rfl, n10, hw10⟩
  have hb10 : Below W9.heap.size W9 W10 := by rw [hw10]; exact below_drewN ((Below.refl _ _).alloc (Nat.le_refl _) _) _
  rw [show (([(0, 2)] : List (Int × Int)) == [(0, 2)]) = true from rfl]
  have HB10 := Lib.hid (HB9.out.trans (hb10.mono HB9.out.size))
  have GA10 := Lib.hid (GA9.out.keep hb10)
  have GB10 := Lib.hid (GB9.out.keep hb10)
  clear hw10 hb10 GA9 GB9 HB9 HR9
  go_wp2_with fail
  refine (reducible_code _ _ exA GA10.out SA exA_spans).mono ?_
  rintro e W11 ⟨rfl, hb11⟩
  rw [exA_red]
  have HB11 := Lib.hid (HB10.out.trans (hb11.mono HB10.out.size))
  have GA11 := Lib.hid (GA10.out.keep hb11)
  have GB11 := Lib.hid (GB10.out.keep hb11)
  clear hb11 GA10 GB10 HB10
  go_wp2_with fail
  refine (reducible_code _ _ exB GB11.out SB exB_spans).mono ?_
  rintro e W12 ⟨rfl, hb12⟩
  rw [exB_red]
  have HB12 := Lib.hid (HB11.out.trans (hb12.mono HB11.out.size))
  have GA12 := Lib.hid (GA11.out.keep hb12)
  clear hb12 GA11 GB11 HB11
  go_wp2_with fail
  refine (headers_code _ _ exA GA12.out SA exA_spans).mono ?_
  rintro e W13 ⟨v13, rfl, ho13, hb13⟩
  rw [exA_head] at ho13
  obtain ⟨A13, c13, rfl⟩ := own_form ho13
  have HB13 := Lib.hid (HB12.out.trans (hb13.mono HB12.out.size))
  clear ho13 hb13 GA12 HB12
  go_wp2
  go_ret
  exact ⟨rfl, HB13.out⟩
end Go.Proofs.Ythanbedmiaacdaa.Gc
