/- check's Top, Uses and Foldable: what they tell of any function in memory. -/
import Derived.Test.YtdfehpcbcgbidaaUB
import Derived.Test.YtdfehpcbcgbidaaInfo
import Derived.Test.YtdfehpcbcgbidaaHalves
import Derived.Test.YtdfehpcbcgbidaaKFolds
namespace Go.Proofs.Ytdfehpcbcgbidaa.Kc
open Go.ChangeShapes Go.WideShapes Go.ChangeAt Go.RowKit Go.Maps Go.Proofs.Ytdfehpcbcgbidaa.Mem Go.Proofs.Ytdfehpcbcgbidaa.Br Go.Proofs.Ytdfehpcbcgbidaa.Gc Go.Proofs.Ytdfehpcbcgbidaa.Gr Go.Proofs.Ytdfehpcbcgbidaa.Gn
set_option linter.unusedVariables false
def topF : Tellf Int := fun t v _ => if v < 8192 then max t (v + 1) else t
/-- P3.2: the least number above all values. -/
def topN (params : Int) (bs : List PBlock) : Int := madeS topF bs (min (max params 0) 8192)
/-- All states that come of steps that keep something keep it. -/
theorem madeS_inv {σ : Type} {f : Tellf σ} {P : σ → Prop} (h : ∀ s v a, P s → P (f s v a)) (bs : List PBlock) (s : σ) (hs : P s) : P (madeS f bs s) := by
  have ht : ∀ (vs : List Int) (a : Int × Int) (s : σ), P s → P (tellL f vs a s) := by
    intro vs a
    induction vs with
    | nil => intro s hs; exact hs
    | cons v vs ih => intro s hs; exact ih _ (h _ _ _ hs)
  refine seqE_inv bs 0 s _ (fun j x s s' _ _ _ hp he => ?_) hs (overM f bs s)
  rw [blockE_bind] at he
  obtain ⟨s1, h1⟩ := seqE_ok (h := fun n p => (lookM f).phi (j : Int) (-1 - (n : Int)) p) (fun n p s => (mildM f).1 _ _ _ _) x.phis 0 s
  obtain ⟨s2, h2⟩ := seqE_ok (h := fun n i => (lookM f).ins (j : Int) (n : Int) i) (fun n p s => (mildM f).2.1 _ _ _ _) x.ins 0 s1
  rw [h1] at he
  dsimp only [bindE] at he
  rw [h2] at he
  injection he with he
  rw [← he]
  refine seqE_inv x.ins 0 s1 _ (fun j x s s' _ _ _ hp he => ?_) (seqE_inv x.phis 0 s _ (fun j x s s' _ _ _ hp he => ?_) hp h1) h2
  · injection he with he; rw [← he]; exact ht _ _ _ hp
  · injection he with he; rw [← he]; exact h _ _ _ hp
theorem takenS_inv {σ : Type} {f : Tellf σ} {P : σ → Prop} (h : ∀ s v a, P s → P (f s v a)) (bs : List PBlock) (s : σ) (hs : P s) : P (takenS f bs s) := by
  have ht : ∀ (vs : List Int) (a : Int × Int) (s : σ), P s → P (tellL f vs a s) := by
    intro vs a
    induction vs with
    | nil => intro s hs; exact hs
    | cons v vs ih => intro s hs; exact ih _ (h _ _ _ hs)
  refine seqE_inv bs 0 s _ (fun j x s s' _ _ _ hp he => ?_) hs (overT f bs s)
  rw [blockE_bind] at he
  obtain ⟨s1, h1⟩ := seqE_ok (h := fun n p => (lookT f).phi (j : Int) (-1 - (n : Int)) p) (fun n p s => (mildT f).1 _ _ _ _) x.phis 0 s
  obtain ⟨s2, h2⟩ := seqE_ok (h := fun n i => (lookT f).ins (j : Int) (n : Int) i) (fun n p s => (mildT f).2.1 _ _ _ _) x.ins 0 s1
  rw [h1] at he
  dsimp only [bindE] at he
  rw [h2] at he
  injection he with he
  rw [← he]
  refine ht _ _ _ ?_
  refine seqE_inv x.ins 0 s1 _ (fun j x s s' _ _ _ hp he => ?_) (seqE_inv x.phis 0 s _ (fun j x s s' _ _ _ hp he => ?_) hp h1) h2
  · injection he with he; rw [← he]; exact ht _ _ _ hp
  · injection he with he; rw [← he]; exact ht _ _ _ hp
theorem top_range (params : Int) (bs : List PBlock) : 0 ≤ topN params bs ∧ topN params bs ≤ 8192 := by
  refine madeS_inv (P := fun t => 0 ≤ t ∧ t ≤ 8192) (fun s v a h => ?_) bs _ (by omega)
  unfold topF
  split
  · omega
  · exact h
set_option maxRecDepth 100000 in
set_option maxHeartbeats 1000000 in
theorem topTell_any (w : World) (g : Nat) (t v b p : Int) (hg : Str w g 3 [.int .i64 t]) (hv : InI v) :
    Calls Try.prog 30 #[.int .i64 v, .agg #[.int .i64 b, .int .i64 p], .pointer (some ⟨g, 0, none⟩)] w (fun e w' => e = .returned (.tuple #[]) ∧ ButZ (· = g) w w' ∧ Str w' g 3 [.int .i64 (topF t v (b, p))]) := by
  have hlt := hg.lt
  go_enter Try.func30, Try.ntmps30
  go_upto_region 1 with (fail)
  obtain ⟨W, hW⟩ : ∃ W, w.alloc (.cells #[.int .i64 b, .int .i64 p] 56) = W := ⟨_, rfl⟩
  rw [hW]
  have hb1 : Below w.heap.size w W := by rw [← hW]; exact (Below.refl _ _).alloc (Nat.le_refl _) _
  have hs1 : Str W w.heap.size 56 [.int .i64 b, .int .i64 p] := by rw [← hW]; exact World.alloc_heap_new w _
  have hzW : W.heap.size = w.heap.size + 1 := by rw [← hW]; simp
  clear hW
  have HB := Lib.hid hb1
  have HS := Lib.hid (hg.below hb1)
  have g0 : W.cell? ⟨g, 0, none⟩ = some (.int .i64 t) := HS.out.cell 0
  have g1 := HS.out.frozen 0
  clear hg hb1 hs1
  unfold InI at hv
  by_cases h1 : v < 8192
  · have HF := Lib.hid (show topF t v (b, p) = max t (v + 1) by unfold topF; rw [if_pos h1])
    go_wp2
    go_end0
    rw [HF.out]
    exact ⟨rfl, (ButZ.of_below HB.out).set (Z := (· = g)) rfl _, HS.out.set 0 _⟩
  · have HF := Lib.hid (show topF t v (b, p) = t by unfold topF; rw [if_neg h1])
    go_wp2
    go_end0
    rw [HF.out]
    exact ⟨rfl, ButZ.of_below HB.out, HS.out⟩
set_option maxRecDepth 100000 in
set_option maxHeartbeats 1000000 in
theorem top_any (w : World) (params : Int) (A : Option Addr) (c : Nat) (bs : List PBlock) (hbs : BlocksAt w (.slice A bs.length c) bs) (hwf : WfP bs) :
    Calls Try.prog 10 #[.agg #[.int .i64 params, .slice A bs.length c]] w (fun e w' => e = .returned (.int .i64 (topN params bs)) ∧ Below w.heap.size w w') := by
  have HBS := Lib.hid hbs
  have HWF := Lib.hid hwf
  have HTN := Lib.hid (show topN params bs = madeS topF bs (min (max params 0) 8192) from rfl)
  clear hbs hwf
  go_enter Try.func10, Try.ntmps10
  go_upto_region 1 with (fail)
  obtain ⟨W1, hW1⟩ : ∃ W1, w.alloc (.cells #[.int .i64 params, .slice A bs.length c] 24) = W1 := ⟨_, rfl⟩
  rw [hW1]
  have hb1 : Below w.heap.size w W1 := by rw [← hW1]; exact (Below.refl _ _).alloc (Nat.le_refl _) _
  have hs1 : Str W1 w.heap.size 24 [.int .i64 params, .slice A bs.length c] := by rw [← hW1]; exact World.alloc_heap_new w _
  have hzW1 : W1.heap.size = w.heap.size + 1 := by rw [← hW1]; simp
  clear hW1
  have d0 : W1.cell? ⟨w.heap.size, 0, none⟩ = some (.int .i64 params) := hs1.cell 0
  go_upto_region 2 with (fail)
  obtain ⟨W, hW⟩ : ∃ W, W1.alloc (.cells #[.int .i64 (min (max params 0) 8192)] 3) = W := ⟨_, rfl⟩
  rw [hW]
  have hb2 : Below W1.heap.size W1 W := by rw [← hW]; exact (Below.refl _ _).alloc (Nat.le_refl _) _
  have hs2 : Str W W1.heap.size 3 [.int .i64 (min (max params 0) 8192)] := by rw [← hW]; exact World.alloc_heap_new W1 _
  have hzW : W.heap.size = W1.heap.size + 1 := by rw [← hW]; simp
  clear hW
  have d1 : W.cell? ⟨w.heap.size, 1, none⟩ = some (.slice A bs.length c) := (hs1.below hb2).cell 1
  have d0 : W.cell? ⟨w.heap.size, 0, none⟩ = some (.int .i64 params) := (hs1.below hb2).cell 0
  have HB := Lib.hid (hb1.trans (hb2.mono hb1.size))
  rw [hzW1] at hs2
  have HS := Lib.hid hs2
  clear hb1 hb2 hs1 hs2
  generalize min (max params 0) 8192 = t0 at *
  go_wp2_with fail
  refine (makes_any 30 #[.pointer (some ⟨w.heap.size + 1, 0, none⟩)] (· = w.heap.size + 1) topF bs params A c (fun t w' => Str w' (w.heap.size + 1) 3 [.int .i64 t]) w W t0 ⟨fun args w => by kernel_rfl, fun t w1 w2 h hb => h.below hb, fun t w1 v b p hv hz h => ?_⟩ HBS.out HWF.out HB.out (fun g hg => by subst hg; omega) HS.out).mono ?_
  · rw [appd1]; exact topTell_any w1 _ t v b p h hv
  rintro e w' ⟨rfl, h1, h2⟩
  have H1 := Lib.hid (HB.out.trans (h1.below (c := W) (B := w.heap.size) (fun g hg => by subst hg; omega) HB.out.size))
  have k0 : w'.cell? ⟨w.heap.size + 1, 0, none⟩ = some (.int .i64 (madeS topF bs t0)) := h2.cell 0
  clear h1 h2
  go_wp2
  go_ret
  exact ⟨by rw [HTN.out]; rfl, H1.out⟩
/-- Once more. -/
def useF : Tellf (List Int) := fun l v _ => if 0 ≤ v ∧ v < l.length then l.set v.toNat (wrap64 (l.getD v.toNat 0 + 1)) else l
/-- P3.2: how often each value is an operand. -/
def usesN (params : Int) (bs : List PBlock) : List Int := takenS useF bs (List.replicate (topN params bs).toNat 0)
theorem useF_len (l : List Int) (v : Int) (a : Int × Int) : (useF l v a).length = l.length := by unfold useF; split <;> simp
theorem uses_len (params : Int) (bs : List PBlock) : (usesN params bs).length = (topN params bs).toNat :=
  takenS_inv (P := fun l : List Int => l.length = (topN params bs).toNat) (fun s v a h => by rw [useF_len]; exact h) bs _ (by simp)
/-- Where the counts lie. -/
structure UsesAt (B : Nat) (n g x : Nat) (l : List Int) (w : World) : Prop where
  len : l.length = n
  own : OwnInts B w (.slice (some ⟨g, 0, none⟩) n n) l
  box : Str w x 28 [.slice (some ⟨g, 0, none⟩) n n]
set_option maxRecDepth 100000 in
set_option maxHeartbeats 1000000 in
theorem useTell_any (w : World) (B n g x : Nat) (l : List Int) (v b p : Int) (hu : UsesAt B n g x l w) (hv : InI v) (hn : n ≤ 8192) :
    Calls Try.prog 37 #[.int .i64 v, .agg #[.int .i64 b, .int .i64 p], .pointer (some ⟨x, 0, none⟩)] w (fun e w' => e = .returned (.tuple #[]) ∧ ButZ (· = g) w w' ∧ UsesAt B n g x (useF l v (b, p)) w') := by
  have hlt := hu.box.lt
  go_enter Try.func37, Try.ntmps37
  go_upto_region 1 with (fail)
  obtain ⟨W, hW⟩ : ∃ W, w.alloc (.cells #[.int .i64 b, .int .i64 p] 56) = W := ⟨_, rfl⟩
  rw [hW]
  have hb1 : Below w.heap.size w W := by rw [← hW]; exact (Below.refl _ _).alloc (Nat.le_refl _) _
  have hs1 : Str W w.heap.size 56 [.int .i64 b, .int .i64 p] := by rw [← hW]; exact World.alloc_heap_new w _
  have hzW : W.heap.size = w.heap.size + 1 := by rw [← hW]; simp
  clear hW
  have HB := Lib.hid hb1
  have HU := Lib.hid (show UsesAt B n g x l W from ⟨hu.len, own_below hu.own hb1, hu.box.below hb1⟩)
  have x0 : W.cell? ⟨x, 0, none⟩ = some (.slice (some ⟨g, 0, none⟩) n n) := HU.out.box.cell 0
  clear hu hb1 hs1
  unfold InI at hv
  by_cases h1 : 0 ≤ v
  · by_cases h2 : v < (n : Int)
    · obtain ⟨j, rfl⟩ : ∃ j : Nat, v = j := ⟨v.toNat, by omega⟩
      have hj : j < n := by omega
      have hjl : j < l.length := by rw [HU.out.len]; exact hj
      obtain ⟨c0, c1⟩ := OwnInts.cell HU.out.own hjl
      have HF := Lib.hid (show useF l (j : Int) (b, p) = l.set j (wrap64 (l[j] + 1)) by
        unfold useF; rw [if_pos ⟨h1, by rw [HU.out.len]; exact h2⟩, Int.toNat_natCast, getD_at hjl])
      generalize l[j] = u at *
      go_wp2
      go_end0
      rw [HF.out]
      have hst := OwnInts.stored HU.out.own j (wrap64 (u + 1))
      have hgx : g ≠ x := by
        intro e
        have := HU.out.box.not_row (by decide) HU.out.own
        exact this (by rw [e]; rfl)
      exact ⟨rfl, (ButZ.of_below HB.out).set (Z := (· = g)) rfl _, by rw [List.length_set]; exact HU.out.len, hst.1, HU.out.box.kept hst.2 (fun e => hgx (Option.some.inj e).symm)⟩
    · have HF := Lib.hid (show useF l v (b, p) = l by unfold useF; rw [if_neg (fun h => h2 (by rw [← HU.out.len]; exact h.2))])
      go_wp2
      go_end0
      rw [HF.out]
      exact ⟨rfl, ButZ.of_below HB.out, HU.out⟩
  · have HF := Lib.hid (show useF l v (b, p) = l by unfold useF; rw [if_neg (fun h => h1 h.1)])
    go_wp2
    go_end0
    rw [HF.out]
    exact ⟨rfl, ButZ.of_below HB.out, HU.out⟩
set_option maxRecDepth 100000 in
set_option maxHeartbeats 2000000 in
theorem uses_any (w : World) (params : Int) (A : Option Addr) (c : Nat) (bs : List PBlock) (hbs : BlocksAt w (.slice A bs.length c) bs) (hwf : WfP bs) :
    Calls Try.prog 15 #[.agg #[.int .i64 params, .slice A bs.length c]] w (fun e w' => ∃ v, e = .returned v ∧ OwnInts w.heap.size w' v (usesN params bs) ∧ Below w.heap.size w w') := by
  have HBS := Lib.hid hbs
  have HWF := Lib.hid hwf
  obtain ⟨i0, hi0, hz0, hz1, hz2⟩ := info_parts info_int
  have HI := Lib.hid hi0
  have HZ0 := Lib.hid hz0
  have HZ1 := Lib.hid hz1
  have HZ2 := Lib.hid hz2
  have HR := Lib.hid (top_range params bs)
  clear hbs hwf hi0 hz0 hz1 hz2
  go_enter Try.func15, Try.ntmps15
  go_upto_region 1 with (fail)
  obtain ⟨W1, hW1⟩ : ∃ W1, w.alloc (.cells #[.int .i64 params, .slice A bs.length c] 24) = W1 := ⟨_, rfl⟩
  rw [hW1]
  have hb1 : Below w.heap.size w W1 := by rw [← hW1]; exact (Below.refl _ _).alloc (Nat.le_refl _) _
  have hs1 : Str W1 w.heap.size 24 [.int .i64 params, .slice A bs.length c] := by rw [← hW1]; exact World.alloc_heap_new w _
  have hzW1 : W1.heap.size = w.heap.size + 1 := by rw [← hW1]; simp
  clear hW1
  have d0 : W1.cell? ⟨w.heap.size, 0, none⟩ = some (.int .i64 params) := hs1.cell 0
  have d1 : W1.cell? ⟨w.heap.size, 1, none⟩ = some (.slice A bs.length c) := hs1.cell 1
  have HB1 := Lib.hid hb1
  have HS1 := Lib.hid hs1
  clear hb1 hs1
  have HBS1 := Lib.hid (RowAt.kept HBS.out (fun b o x h => BlockAt.keep HB1.out b o x h))
  go_wp2_with fail
  refine (top_any W1 params A c bs HBS1.out HWF.out).mono ?_
  rintro e w2 ⟨rfl, hb2⟩
  have HUN := Lib.hid (show usesN params bs = takenS useF bs (List.replicate (topN params bs).toNat 0) from rfl)
  have HUL := Lib.hid (uses_len params bs)
  obtain ⟨n, hn⟩ : ∃ n : Nat, topN params bs = n := ⟨(topN params bs).toNat, by have := HR.out; omega⟩
  have hn2 : n ≤ 8192 := by have := HR.out; omega
  rw [hn] at HUN HUL
  rw [Int.toNat_natCast] at HUN HUL
  rw [hn]
  clear hn
  have HB2 := Lib.hid (HB1.out.trans (hb2.mono HB1.out.size))
  have HS2 := Lib.hid (HS1.out.below hb2)
  have hz2 := hb2.size
  clear hb2
  go_wp2_with (at_make; refine wpList_make_full _ rfl _ _ 28 rfl w2.heap.size 3 i0 (.int .i64 0) 1 Try.underlying28 HI.out HZ0.out HZ1.out .i64 .i64 _ _ n rfl rfl rfl rfl (by rw [HZ2.out]; omega) (by unfold maxLen; omega) (Nat.le_refl _) ?_)
  intro w3 hown3 hgr3
  rw [toList_madeCells_one] at hown3
  have ho3 := zeros_own hown3
  have hb3 : Below w2.heap.size w2 w3 := (Below.refl _ _).grown hgr3 (Nat.le_refl _) (fun j hj => by cases hj)
  have hz3 := hb3.size
  have lt3 : w2.heap.size < w3.heap.size := (ho3.lt _ rfl).2
  have HS3 := Lib.hid (HS2.out.below hb3)
  have HO3 := Lib.hid ho3
  have HB3 := Lib.hid (HB2.out.trans (hb3.mono HB2.out.size))
  clear hown3 hgr3 ho3 hb3 d0 d1
  go_upto_region 2 with (fail)
  obtain ⟨W, hW⟩ : ∃ W, w3.alloc (.cells #[.slice (some ⟨w2.heap.size, 0, none⟩) n n] 28) = W := ⟨_, rfl⟩
  rw [hW]
  have hb4 : Below w3.heap.size w3 W := by rw [← hW]; exact (Below.refl _ _).alloc (Nat.le_refl _) _
  have hs4 : Str W w3.heap.size 28 [.slice (some ⟨w2.heap.size, 0, none⟩) n n] := by rw [← hW]; exact World.alloc_heap_new w3 _
  have hzW : W.heap.size = w3.heap.size + 1 := by rw [← hW]; simp
  clear hW
  have d0 : W.cell? ⟨w.heap.size, 0, none⟩ = some (.int .i64 params) := (HS3.out.below hb4).cell 0
  have d1 : W.cell? ⟨w.heap.size, 1, none⟩ = some (.slice A bs.length c) := (HS3.out.below hb4).cell 1
  have HB := Lib.hid (HB3.out.trans (hb4.mono HB3.out.size))
  have HU := Lib.hid (show UsesAt w.heap.size n w2.heap.size w3.heap.size (List.replicate n 0) W from ⟨List.length_replicate, own_base (by have h5 := own_below HO3.out hb4; rw [show li (List.replicate n 0) = List.replicate n (0 : Int) from by simp [li]] at h5; exact h5) (by have := HB2.out.size; omega), hs4⟩)
  clear hb4 hs4
  have hw2 := HB2.out.size
  go_wp2_with fail
  refine (takes_any 37 #[.pointer (some ⟨w3.heap.size, 0, none⟩)] (· = w2.heap.size) useF bs params A c (fun l w' => UsesAt w.heap.size n w2.heap.size w3.heap.size l w') w W (List.replicate n 0) ⟨fun args w => by kernel_rfl, fun l w1 w2 h hb => ⟨h.len, own_below h.own hb, h.box.below hb⟩, fun l w1 v b p hv hz h => ?_⟩ HBS.out HWF.out HB.out (fun g hg => by subst hg; omega) HU.out).mono ?_
  · rw [appd1]; exact useTell_any w1 w.heap.size n w2.heap.size w3.heap.size l v b p h hv hn2
  rintro e w' ⟨rfl, h1, h2⟩
  have H1 := Lib.hid (HB.out.trans (h1.below (c := W) (B := w.heap.size) (fun g hg => by subst hg; omega) HB.out.size))
  have k0 : w'.cell? ⟨w3.heap.size, 0, none⟩ = some (.slice (some ⟨w2.heap.size, 0, none⟩) n n) := h2.box.cell 0
  have H2 := Lib.hid h2.own
  clear h1 h2
  go_wp2
  go_ret
  exact ⟨_, rfl, by rw [HUN.out]; exact H2.out, H1.out⟩
/-- Where a value was met last, and how often. -/
def hitF (val : Int) : Tellf ((Int × Int) × Int) := fun s v a => if v = val then (a, wrap64 (s.2 + 1)) else s
set_option maxRecDepth 100000 in
set_option maxHeartbeats 1000000 in
theorem hit1_any (w : World) (gv gm gs : Nat) (val : Int) (s : (Int × Int) × Int) (v b p : Int) (hv : w.cell? ⟨gv, 0, none⟩ = some (.int .i64 val)) (hm : Str w gm 3 [.int .i64 s.2]) (hs : Str w gs 56 [.int .i64 s.1.1, .int .i64 s.1.2]) (hvm : gv ≠ gm) (hvs : gv ≠ gs) (hms : gm ≠ gs) :
    Calls Try.prog 38 #[.int .i64 v, .agg #[.int .i64 b, .int .i64 p], .pointer (some ⟨gv, 0, none⟩), .pointer (some ⟨gm, 0, none⟩), .pointer (some ⟨gs, 0, none⟩)] w (fun e w' => e = .returned (.tuple #[]) ∧ ButZ (fun g => g = gm ∨ g = gs) w w' ∧
      Str w' gm 3 [.int .i64 (hitF val s v (b, p)).2] ∧ Str w' gs 56 [.int .i64 (hitF val s v (b, p)).1.1, .int .i64 (hitF val s v (b, p)).1.2]) := by
  obtain ⟨⟨sb, sp⟩, sn⟩ := s
  go_enter Try.func38, Try.ntmps38
  go_upto_region 1 with (fail)
  obtain ⟨W, hW⟩ : ∃ W, w.alloc (.cells #[.int .i64 b, .int .i64 p] 56) = W := ⟨_, rfl⟩
  rw [hW]
  have hb1 : Below w.heap.size w W := by rw [← hW]; exact (Below.refl _ _).alloc (Nat.le_refl _) _
  have hs1 : Str W w.heap.size 56 [.int .i64 b, .int .i64 p] := by rw [← hW]; exact World.alloc_heap_new w _
  have hzW : W.heap.size = w.heap.size + 1 := by rw [← hW]; simp
  clear hW
  have HB := Lib.hid hb1
  have HM := Lib.hid (hm.below hb1)
  have HS := Lib.hid (hs.below hb1)
  have e0 : W.cell? ⟨w.heap.size, 0, none⟩ = some (.int .i64 b) := hs1.cell 0
  have e1 : W.cell? ⟨w.heap.size, 1, none⟩ = some (.int .i64 p) := hs1.cell 1
  have v0 := cell_keep hb1 (Nat.le_refl _) hv
  have m0 : W.cell? ⟨gm, 0, none⟩ = some (.int .i64 sn) := HM.out.cell 0
  have m1 := HM.out.frozen 0
  have s0 : W.cell? ⟨gs, 0, none⟩ = some (.int .i64 sb) := HS.out.cell 0
  have s1 : W.cell? ⟨gs, 1, none⟩ = some (.int .i64 sp) := HS.out.cell 1
  have s2 := HS.out.frozen 0
  have s3 := HS.out.frozen 1
  clear hv hm hs hb1 hs1
  by_cases h1 : v = val
  · subst h1
    have HF := Lib.hid (show hitF v ((sb, sp), sn) v (b, p) = ((b, p), wrap64 (sn + 1)) by unfold hitF; rw [if_pos rfl])
    go_wp2_with fail
    go_region
    go_end0
    rw [HF.out]
    have q1 : Str (W.setCell ⟨gs, 0, none⟩ (.int .i64 b)) gs 56 [.int .i64 b, .int .i64 sp] := HS.out.set 0 (.int .i64 b)
    have q2 : Str ((W.setCell ⟨gs, 0, none⟩ (.int .i64 b)).setCell ⟨gs, 1, none⟩ (.int .i64 p)) gs 56 [.int .i64 b, .int .i64 p] := q1.set 1 (.int .i64 p)
    have q3 := q2.kept (setCell_grownBy _ ⟨gm, 0, none⟩ (.int .i64 (wrap64 (sn + 1)))) (fun e => hms (Option.some.inj e).symm)
    have r1 := HM.out.kept (setCell_grownBy W ⟨gs, 0, none⟩ (.int .i64 b)) (fun e => hms (Option.some.inj e))
    have r2 := r1.kept (setCell_grownBy _ ⟨gs, 1, none⟩ (.int .i64 p)) (fun e => hms (Option.some.inj e))
    have r3 := r2.set 0 (.int .i64 (wrap64 (sn + 1)))
    exact ⟨rfl, (((((ButZ.of_below HB.out).set (Z := fun g => g = gm ∨ g = gs) (Or.inr rfl) _).set (Or.inr rfl) _).set (Or.inl rfl) _).drew), r3, q3⟩
  · have HF := Lib.hid (show hitF val ((sb, sp), sn) v (b, p) = ((sb, sp), sn) by unfold hitF; rw [if_neg h1])
    have h1' : (v == val) = false := by simpa using h1
    go_wp2
    go_end0
    rw [HF.out]
    exact ⟨rfl, ButZ.of_below HB.out, HM.out, HS.out⟩
set_option maxRecDepth 100000 in
set_option maxHeartbeats 1000000 in
theorem hit2_any (w : World) (gv gm gs : Nat) (val : Int) (s : (Int × Int) × Int) (v b p : Int) (hv : w.cell? ⟨gv, 0, none⟩ = some (.int .i64 val)) (hm : Str w gm 3 [.int .i64 s.2]) (hs : Str w gs 56 [.int .i64 s.1.1, .int .i64 s.1.2]) (hvm : gv ≠ gm) (hvs : gv ≠ gs) (hms : gm ≠ gs) :
    Calls Try.prog 39 #[.int .i64 v, .agg #[.int .i64 b, .int .i64 p], .pointer (some ⟨gv, 0, none⟩), .pointer (some ⟨gm, 0, none⟩), .pointer (some ⟨gs, 0, none⟩)] w (fun e w' => e = .returned (.tuple #[]) ∧ ButZ (fun g => g = gm ∨ g = gs) w w' ∧
      Str w' gm 3 [.int .i64 (hitF val s v (b, p)).2] ∧ Str w' gs 56 [.int .i64 (hitF val s v (b, p)).1.1, .int .i64 (hitF val s v (b, p)).1.2]) := by
  obtain ⟨⟨sb, sp⟩, sn⟩ := s
  go_enter Try.func39, Try.ntmps39
  go_upto_region 1 with (fail)
  obtain ⟨W, hW⟩ : ∃ W, w.alloc (.cells #[.int .i64 b, .int .i64 p] 56) = W := ⟨_, rfl⟩
  rw [hW]
  have hb1 : Below w.heap.size w W := by rw [← hW]; exact (Below.refl _ _).alloc (Nat.le_refl _) _
  have hs1 : Str W w.heap.size 56 [.int .i64 b, .int .i64 p] := by rw [← hW]; exact World.alloc_heap_new w _
  have hzW : W.heap.size = w.heap.size + 1 := by rw [← hW]; simp
  clear hW
  have HB := Lib.hid hb1
  have HM := Lib.hid (hm.below hb1)
  have HS := Lib.hid (hs.below hb1)
  have e0 : W.cell? ⟨w.heap.size, 0, none⟩ = some (.int .i64 b) := hs1.cell 0
  have e1 : W.cell? ⟨w.heap.size, 1, none⟩ = some (.int .i64 p) := hs1.cell 1
  have v0 := cell_keep hb1 (Nat.le_refl _) hv
  have m0 : W.cell? ⟨gm, 0, none⟩ = some (.int .i64 sn) := HM.out.cell 0
  have m1 := HM.out.frozen 0
  have s0 : W.cell? ⟨gs, 0, none⟩ = some (.int .i64 sb) := HS.out.cell 0
  have s1 : W.cell? ⟨gs, 1, none⟩ = some (.int .i64 sp) := HS.out.cell 1
  have s2 := HS.out.frozen 0
  have s3 := HS.out.frozen 1
  clear hv hm hs hb1 hs1
  by_cases h1 : v = val
  · subst h1
    have HF := Lib.hid (show hitF v ((sb, sp), sn) v (b, p) = ((b, p), wrap64 (sn + 1)) by unfold hitF; rw [if_pos rfl])
    go_wp2_with fail
    go_region
    go_end0
    rw [HF.out]
    have q1 : Str (W.setCell ⟨gs, 0, none⟩ (.int .i64 b)) gs 56 [.int .i64 b, .int .i64 sp] := HS.out.set 0 (.int .i64 b)
    have q2 : Str ((W.setCell ⟨gs, 0, none⟩ (.int .i64 b)).setCell ⟨gs, 1, none⟩ (.int .i64 p)) gs 56 [.int .i64 b, .int .i64 p] := q1.set 1 (.int .i64 p)
    have q3 := q2.kept (setCell_grownBy _ ⟨gm, 0, none⟩ (.int .i64 (wrap64 (sn + 1)))) (fun e => hms (Option.some.inj e).symm)
    have r1 := HM.out.kept (setCell_grownBy W ⟨gs, 0, none⟩ (.int .i64 b)) (fun e => hms (Option.some.inj e))
    have r2 := r1.kept (setCell_grownBy _ ⟨gs, 1, none⟩ (.int .i64 p)) (fun e => hms (Option.some.inj e))
    have r3 := r2.set 0 (.int .i64 (wrap64 (sn + 1)))
    exact ⟨rfl, (((((ButZ.of_below HB.out).set (Z := fun g => g = gm ∨ g = gs) (Or.inr rfl) _).set (Or.inr rfl) _).set (Or.inl rfl) _).drew), r3, q3⟩
  · have HF := Lib.hid (show hitF val ((sb, sp), sn) v (b, p) = ((sb, sp), sn) by unfold hitF; rw [if_neg h1])
    have h1' : (v == val) = false := by simpa using h1
    go_wp2
    go_end0
    rw [HF.out]
    exact ⟨rfl, ButZ.of_below HB.out, HM.out, HS.out⟩
/-- Where something that makes a value can stand. -/
def ValidAt (bs : List PBlock) (a : Int × Int) : Prop := a.2 < 0 ∨ ∃ (j n : Nat) (hj : j < bs.length), n < bs[j].ins.length ∧ a = ((j : Int), (n : Int))
theorem seqE_invAt {σ α : Type} {h : Nat → α → σ → Except Fault σ} {P : σ → Prop} : ∀ (l : List α) (k : Nat) (s s' : σ), (∀ j x s s', l[j]? = some x → P s → h (k + j) x s = .ok s' → P s') → P s → seqE h k l s = .ok s' → P s'
  | [], k, s, s', _, hp, e => by injection e with e; exact e ▸ hp
  | x :: l, k, s, s', hh, hp, e => by
    unfold seqE at e
    cases h1 : h k x s with
    | error f => rw [h1] at e; cases e
    | ok s1 =>
      rw [h1] at e
      exact seqE_invAt l (k + 1) s1 s' (fun j y a b hj ha hb => hh (j + 1) y a b (by simpa using hj) ha (by rw [show k + (j + 1) = k + 1 + j by omega]; exact hb)) (hh 0 x s s1 rfl hp h1) e
theorem madeS_at {σ : Type} {f : Tellf σ} {P : σ → Prop} {bs : List PBlock} (h : ∀ s v a, ValidAt bs a → P s → P (f s v a)) (s : σ) (hs : P s) : P (madeS f bs s) := by
  have ht : ∀ (vs : List Int) (a : Int × Int) (s : σ), ValidAt bs a → P s → P (tellL f vs a s) := by
    intro vs a
    induction vs with
    | nil => intro s _ hs; exact hs
    | cons v vs ih => intro s ha hs; exact ih _ ha (h _ _ _ ha hs)
  refine seqE_invAt bs 0 s _ (fun j x s s' hx hp he => ?_) hs (overM f bs s)
  rw [blockE_bind] at he
  obtain ⟨s1, h1⟩ := seqE_ok (h := fun n p => (lookM f).phi ((0 + j : Nat) : Int) (-1 - (n : Int)) p) (fun n p s => (mildM f).1 _ _ _ _) x.phis 0 s
  obtain ⟨s2, h2⟩ := seqE_ok (h := fun n i => (lookM f).ins ((0 + j : Nat) : Int) (n : Int) i) (fun n p s => (mildM f).2.1 _ _ _ _) x.ins 0 s1
  rw [h1] at he
  dsimp only [bindE] at he
  rw [h2] at he
  injection he with he
  rw [← he]
  refine seqE_invAt x.ins 0 s1 _ (fun i y s s' hy hp he => ?_) (seqE_invAt x.phis 0 s _ (fun i y s s' _ hp he => ?_) hp h1) h2
  · injection he with he
    rw [← he]
    obtain ⟨hj, rfl⟩ := List.getElem?_eq_some_iff.1 hx
    obtain ⟨hi, rfl⟩ := List.getElem?_eq_some_iff.1 hy
    exact ht _ _ _ (Or.inr ⟨j, i, hj, hi, by rw [Nat.zero_add, Nat.zero_add]⟩) hp
  · injection he with he; rw [← he]; exact h _ _ _ (Or.inl (by show -1 - ((0 + i : Nat) : Int) < 0; omega)) hp
def opAt (bs : List PBlock) (a : Int × Int) : Int := ((bs[a.1.toNat]?.bind fun x => x.ins[a.2.toNat]?).map PIns.op).getD 0
/-- P3.3 -/
def foldN (bs : List PBlock) (val : Int) : Bool :=
  let m := madeS (hitF val) bs ((0, 0), 0)
  let u := takenS (hitF val) bs ((0, 0), 0)
  m.2 == 1 && u.2 == 1 && decide (0 ≤ m.1.2) && u.1.1 == m.1.1 && decide (m.1.2 < u.1.2) && foldB (opAt bs m.1)
theorem hit_valid (bs : List PBlock) (val : Int) : madeS (hitF val) bs ((0, 0), 0) = ((0, 0), 0) ∨ ValidAt bs (madeS (hitF val) bs ((0, 0), 0)).1 := by
  refine madeS_at (P := fun s => s = ((0, 0), 0) ∨ ValidAt bs s.1) (fun s v a ha h => ?_) _ (Or.inl rfl)
  unfold hitF
  split
  · exact Or.inr ha
  · exact h
set_option maxRecDepth 100000 in
set_option maxHeartbeats 4000000 in
theorem foldable_any (w : World) (params val : Int) (A : Option Addr) (c : Nat) (bs : List PBlock) (hbs : BlocksAt w (.slice A bs.length c) bs) (hwf : WfP bs) :
    Calls Try.prog 17 #[.agg #[.int .i64 params, .slice A bs.length c], .int .i64 val] w (fun e w' => e = .returned (.bool (foldN bs val)) ∧ Below w.heap.size w w') := by
  have HBS := Lib.hid hbs
  have HWF := Lib.hid hwf
  have HVA := Lib.hid (hit_valid bs val)
  have HFN := Lib.hid (show foldN bs val = ((madeS (hitF val) bs ((0, 0), 0)).2 == 1 && (takenS (hitF val) bs ((0, 0), 0)).2 == 1 && decide (0 ≤ (madeS (hitF val) bs ((0, 0), 0)).1.2) && (takenS (hitF val) bs ((0, 0), 0)).1.1 == (madeS (hitF val) bs ((0, 0), 0)).1.1 && decide ((madeS (hitF val) bs ((0, 0), 0)).1.2 < (takenS (hitF val) bs ((0, 0), 0)).1.2) && foldB (opAt bs (madeS (hitF val) bs ((0, 0), 0)).1)) from rfl)
  clear hbs hwf
  go_enter Try.func17, Try.ntmps17
  go_upto_region 1 with (fail)
  obtain ⟨W1, hW1⟩ : ∃ W1, w.alloc (.cells #[.int .i64 params, .slice A bs.length c] 24) = W1 := ⟨_, rfl⟩
  rw [hW1]
  have hb1 : Below w.heap.size w W1 := by rw [← hW1]; exact (Below.refl _ _).alloc (Nat.le_refl _) _
  have hs1 : Str W1 w.heap.size 24 [.int .i64 params, .slice A bs.length c] := by rw [← hW1]; exact World.alloc_heap_new w _
  have hzW1 : W1.heap.size = w.heap.size + 1 := by rw [← hW1]; simp
  clear hW1
  obtain ⟨W2, hW2⟩ : ∃ W2, W1.alloc (.cells #[.int .i64 val] 3) = W2 := ⟨_, rfl⟩
  rw [hW2]
  have hb2 : Below W1.heap.size W1 W2 := by rw [← hW2]; exact (Below.refl _ _).alloc (Nat.le_refl _) _
  have hs2 : Str W2 W1.heap.size 3 [.int .i64 val] := by rw [← hW2]; exact World.alloc_heap_new W1 _
  have hzW2 : W2.heap.size = W1.heap.size + 1 := by rw [← hW2]; simp
  clear hW2
  have HB2 := Lib.hid (hb1.trans (hb2.mono hb1.size))
  have HS1 := Lib.hid (hs1.below hb2)
  rw [hzW1] at hs2
  have HS2 := Lib.hid hs2
  clear hb1 hs1 hb2 hs2
  go_upto_region 2 with (fail)
  obtain ⟨W3, hW3⟩ : ∃ W3, W2.alloc (.cells #[.int .i64 0, .int .i64 0] 56) = W3 := ⟨_, rfl⟩
  rw [hW3]
  have hb3 : Below W2.heap.size W2 W3 := by rw [← hW3]; exact (Below.refl _ _).alloc (Nat.le_refl _) _
  have hs3 : Str W3 W2.heap.size 56 [.int .i64 0, .int .i64 0] := by rw [← hW3]; exact World.alloc_heap_new W2 _
  have hzW3 : W3.heap.size = W2.heap.size + 1 := by rw [← hW3]; simp
  clear hW3
  obtain ⟨W4, hW4⟩ : ∃ W4, W3.alloc (.cells #[.int .i64 0] 3) = W4 := ⟨_, rfl⟩
  rw [hW4]
  have hb4 : Below W3.heap.size W3 W4 := by rw [← hW4]; exact (Below.refl _ _).alloc (Nat.le_refl _) _
  have hs4 : Str W4 W3.heap.size 3 [.int .i64 0] := by rw [← hW4]; exact World.alloc_heap_new W3 _
  have hzW4 : W4.heap.size = W3.heap.size + 1 := by rw [← hW4]; simp
  clear hW4
  have HB4 := Lib.hid (HB2.out.trans ((hb3.mono HB2.out.size).trans (hb4.mono (Nat.le_trans HB2.out.size hb3.size))))
  have HS1 := Lib.hid ((HS1.out.below hb3).below hb4)
  have HS2 := Lib.hid ((HS2.out.below hb3).below hb4)
  have hs3 := hs3.below hb4
  rw [hzW3] at hs4
  rw [hzW2, hzW1] at hs3 hs4
  have HS3 := Lib.hid hs3
  have HS4 := Lib.hid hs4
  have hz4 : W4.heap.size = w.heap.size + 4 := by omega
  clear hb3 hs3 hb4 hs4 hzW1 hzW2 hzW3 hzW4
  have d0 : W4.cell? ⟨w.heap.size, 0, none⟩ = some (.int .i64 params) := HS1.out.cell 0
  have d1 : W4.cell? ⟨w.heap.size, 1, none⟩ = some (.slice A bs.length c) := HS1.out.cell 1
  generalize hMS : madeS (hitF val) bs ((0, 0), 0) = M at *
  have HMS := Lib.hid hMS
  clear hMS
  generalize hTS : takenS (hitF val) bs ((0, 0), 0) = U at *
  have HTS := Lib.hid hTS
  clear hTS
  go_wp2_with fail
  refine (makes_any 38 #[.pointer (some ⟨w.heap.size + 1, 0, none⟩), .pointer (some ⟨w.heap.size + 1 + 1 + 1, 0, none⟩), .pointer (some ⟨w.heap.size + 1 + 1, 0, none⟩)] (fun g => g = w.heap.size + 1 + 1 + 1 ∨ g = w.heap.size + 1 + 1) (hitF val) bs params A c
    (fun s w' => Str w' (w.heap.size + 1) 3 [.int .i64 val] ∧ Str w' (w.heap.size + 1 + 1 + 1) 3 [.int .i64 s.2] ∧ Str w' (w.heap.size + 1 + 1) 56 [.int .i64 s.1.1, .int .i64 s.1.2]) w W4 ((0, 0), 0)
    ⟨fun args w => by kernel_rfl, fun s w1 w2 h hb => ⟨h.1.below hb, h.2.1.below hb, h.2.2.below hb⟩, fun s w1 v b p hv hz h => ?_⟩ HBS.out HWF.out HB4.out (fun g hg => by rcases hg with rfl | rfl <;> omega) ⟨HS2.out, HS4.out, HS3.out⟩).mono ?_
  · rw [appd3]
    refine (hit1_any w1 _ _ _ val s v b p (h.1.cell 0) h.2.1 h.2.2 (by omega) (by omega) (by omega)).mono ?_
    rintro e w' ⟨rfl, k1, k2, k3⟩
    exact ⟨rfl, k1, k1.str h.1 (by omega), k2, k3⟩
  rintro e w5 ⟨rfl, h1, h2⟩
  rw [HMS.out] at h2
  obtain ⟨⟨mb, mp⟩, mn⟩ := M
  have HB5 := Lib.hid (HB4.out.trans (h1.below (c := W4) (B := w.heap.size) (fun g hg => by rcases hg with rfl | rfl <;> omega) HB4.out.size))
  have HS1 := Lib.hid (h1.str HS1.out (by omega))
  have HS2 := Lib.hid h2.1
  have HS4 := Lib.hid h2.2.1
  have HS3 := Lib.hid h2.2.2
  have hz5 := h1.size
  clear h1 h2 d0 d1
  go_upto_region 4 with (fail)
  obtain ⟨W6, hW6⟩ : ∃ W6, w5.alloc (.cells #[.int .i64 0, .int .i64 0] 56) = W6 := ⟨_, rfl⟩
  rw [hW6]
  have hb6 : Below w5.heap.size w5 W6 := by rw [← hW6]; exact (Below.refl _ _).alloc (Nat.le_refl _) _
  have hs6 : Str W6 w5.heap.size 56 [.int .i64 0, .int .i64 0] := by rw [← hW6]; exact World.alloc_heap_new w5 _
  have hzW6 : W6.heap.size = w5.heap.size + 1 := by rw [← hW6]; simp
  clear hW6
  obtain ⟨W7, hW7⟩ : ∃ W7, W6.alloc (.cells #[.int .i64 0] 3) = W7 := ⟨_, rfl⟩
  rw [hW7]
  have hb7 : Below W6.heap.size W6 W7 := by rw [← hW7]; exact (Below.refl _ _).alloc (Nat.le_refl _) _
  have hs7 : Str W7 W6.heap.size 3 [.int .i64 0] := by rw [← hW7]; exact World.alloc_heap_new W6 _
  have hzW7 : W7.heap.size = W6.heap.size + 1 := by rw [← hW7]; simp
  clear hW7
  have hbx : Below w5.heap.size w5 W7 := hb6.trans (hb7.mono hb6.size)
  have HB7 := Lib.hid (HB5.out.trans (hbx.mono HB5.out.size))
  have HS1 := Lib.hid (HS1.out.below hbx)
  have HS2 := Lib.hid (HS2.out.below hbx)
  have HS3 := Lib.hid (HS3.out.below hbx)
  have HS4 := Lib.hid (HS4.out.below hbx)
  rw [hzW6] at hs7
  have HS6 := Lib.hid (hs6.below hb7)
  have HS7 := Lib.hid hs7
  clear hbx hb6 hb7 hs6 hs7
  have d0 : W7.cell? ⟨w.heap.size, 0, none⟩ = some (.int .i64 params) := HS1.out.cell 0
  have d1 : W7.cell? ⟨w.heap.size, 1, none⟩ = some (.slice A bs.length c) := HS1.out.cell 1
  go_wp2_with fail
  refine (takes_any 39 #[.pointer (some ⟨w.heap.size + 1, 0, none⟩), .pointer (some ⟨w5.heap.size + 1, 0, none⟩), .pointer (some ⟨w5.heap.size, 0, none⟩)] (fun g => g = w5.heap.size + 1 ∨ g = w5.heap.size) (hitF val) bs params A c
    (fun s w' => Str w' (w.heap.size + 1) 3 [.int .i64 val] ∧ Str w' (w5.heap.size + 1) 3 [.int .i64 s.2] ∧ Str w' w5.heap.size 56 [.int .i64 s.1.1, .int .i64 s.1.2]) w W7 ((0, 0), 0)
    ⟨fun args w => by kernel_rfl, fun s w1 w2 h hb => ⟨h.1.below hb, h.2.1.below hb, h.2.2.below hb⟩, fun s w1 v b p hv hz h => ?_⟩ HBS.out HWF.out HB7.out (fun g hg => by rcases hg with rfl | rfl <;> omega) ⟨HS2.out, HS7.out, HS6.out⟩).mono ?_
  · rw [appd3]
    refine (hit2_any w1 _ _ _ val s v b p (h.1.cell 0) h.2.1 h.2.2 (by omega) (by omega) (by omega)).mono ?_
    rintro e w' ⟨rfl, k1, k2, k3⟩
    exact ⟨rfl, k1, k1.str h.1 (by omega), k2, k3⟩
  rintro e w8 ⟨rfl, h1, h2⟩
  rw [HTS.out] at h2
  obtain ⟨⟨ub, up⟩, un⟩ := U
  have HB8 := Lib.hid (HB7.out.trans (h1.below (c := W7) (B := w.heap.size) (fun g hg => by rcases hg with rfl | rfl <;> omega) HB7.out.size))
  have HS1 := Lib.hid (h1.str HS1.out (by omega))
  have HS3 := Lib.hid (h1.str HS3.out (by omega))
  have HS4 := Lib.hid (h1.str HS4.out (by omega))
  have HS6 := Lib.hid h2.2.2
  have HS7 := Lib.hid h2.2.1
  clear h1 h2 d0 d1
  have f1 : w8.cell? ⟨w.heap.size, 1, none⟩ = some (.slice A bs.length c) := HS1.out.cell 1
  have m0 : w8.cell? ⟨w.heap.size + 1 + 1 + 1, 0, none⟩ = some (.int .i64 mn) := HS4.out.cell 0
  have n0 : w8.cell? ⟨w.heap.size + 1 + 1, 0, none⟩ = some (.int .i64 mb) := HS3.out.cell 0
  have n1 : w8.cell? ⟨w.heap.size + 1 + 1, 1, none⟩ = some (.int .i64 mp) := HS3.out.cell 1
  have u0 : w8.cell? ⟨w5.heap.size + 1, 0, none⟩ = some (.int .i64 un) := HS7.out.cell 0
  have v0 : w8.cell? ⟨w5.heap.size, 0, none⟩ = some (.int .i64 ub) := HS6.out.cell 0
  have v1 : w8.cell? ⟨w5.heap.size, 1, none⟩ = some (.int .i64 up) := HS6.out.cell 1
  clear HS1 HS2 HS3 HS4 HS6 HS7 HMS HTS
  have HFN := Lib.hid (show foldN bs val = (mn == 1 && un == 1 && decide (0 ≤ mp) && ub == mb && decide (mp < up) && foldB (opAt bs (mb, mp))) from HFN.out)
  have HVA := Lib.hid (show ((mb, mp), mn) = ((0, 0), 0) ∨ ValidAt bs (mb, mp) from HVA.out)
  cases c1 : (mn == 1) with
  | false =>
    have HR := Lib.hid (show foldN bs val = false by rw [HFN.out, c1]; simp)
    have c1' : (mn != 1) = true := by simpa using c1
    go_wp2
    go_ret
    rw [HR.out]
    exact ⟨rfl, HB8.out⟩
  | true =>
    have c1' : (mn != 1) = false := by simpa using c1
    cases c2 : (un == 1) with
    | false =>
      have HR := Lib.hid (show foldN bs val = false by rw [HFN.out, c2]; simp)
      have c2' : (un != 1) = true := by simpa using c2
      go_wp2
      go_ret
      rw [HR.out]
      exact ⟨rfl, HB8.out⟩
    | true =>
      have c2' : (un != 1) = false := by simpa using c2
      by_cases c3 : mp < 0
      · have HR := Lib.hid (show foldN bs val = false by rw [HFN.out, show decide (0 ≤ mp) = false from by simpa using c3]; simp)
        go_wp2
        go_ret
        rw [HR.out]
        exact ⟨rfl, HB8.out⟩
      · cases c4 : (ub == mb) with
        | false =>
          have HR := Lib.hid (show foldN bs val = false by rw [HFN.out, c4]; simp)
          go_wp2
          go_quiet (fail)
          go_wp2
          go_ret
          rw [HR.out]
          exact ⟨rfl, below_drewK HB8.out _⟩
        | true =>
          by_cases c5 : mp < up
          · have hva : ∃ (j n : Nat) (hj : j < bs.length) (hn : n < bs[j].ins.length), mb = (j : Int) ∧ mp = (n : Int) := by
              rcases HVA.out with h | h | ⟨j, n, hj, hn, h⟩
              · injection h with _ h; subst h; simp at c1
              · exact absurd h (by simpa using c3)
              · injection h with h1 h2; exact ⟨j, n, hj, hn, h1, h2⟩
            obtain ⟨j, n, hj, hn, rfl, rfl⟩ := hva
            have HOP := Lib.hid (show opAt bs ((j : Int), (n : Int)) = bs[j].ins[n].op by
              unfold opAt
              rw [Int.toNat_natCast, Int.toNat_natCast, List.getElem?_eq_getElem hj]
              simp only [Option.bind_some]
              rw [List.getElem?_eq_getElem hn]; rfl)
            have HR := Lib.hid (show foldN bs val = foldB bs[j].ins[n].op by
              rw [HFN.out, c1, c2, c4, decide_eq_true (show (0 : Int) ≤ (n : Int) by omega), decide_eq_true c5, HOP.out]; simp)
            obtain ⟨A', c', bB, oB, e, j1, j2, j3, j4⟩ := HBS.out
            injection e with e1 _ e3
            subst e1 e3
            have e1 := j3 (by omega)
            subst e1
            obtain ⟨p0, q0, p1, q1, p3, q3, p4, q4, r0, r1, r2, r3, r4, r5, k0, k1, k3, k4⟩ := block_rows (j4 j hj)
            obtain ⟨A', c', bP, oP, e, y1, y2, y3, y4⟩ := k1
            injection e with e1 _ e3
            subst e1 e3
            have e1 := y3 (by omega)
            subst e1
            have z0 := cell_keep HB8.out (Nat.le_refl _) (y4 n hn).1
            have r1 := cell_keep HB8.out (Nat.le_refl _) r1
            have jl : bs[j].ins.length ≤ maxLen := Nat.le_trans y1 y2
            have bl : bs.length ≤ maxLen := Nat.le_trans j1 j2
            unfold maxLen at jl bl
            clear r0 r2 r3 r4 r5 k0 k3 k4 y3 y4 j3 j4
            generalize bs[j].ins[n].op = op at *
            generalize bs[j].ins.length = il at *
            go_wp2
            go_quiet (exact Calls.quiet_of_same (folds_any _ _))
            go_wp2
            go_ret
            rw [HR.out]
            exact ⟨rfl, below_drewK HB8.out _⟩
          · have HR := Lib.hid (show foldN bs val = false by rw [HFN.out, show decide (mp < up) = false from by simpa using c5]; simp)
            have c5' : up ≤ mp := by omega
            have c6 : decide (mp < up) = false := decide_eq_false c5
            clear c5
            go_wp2
            go_quiet (fail)
            go_wp2
            go_ret
            rw [HR.out]
            exact ⟨rfl, below_drewK HB8.out _⟩
end Go.Proofs.Ytdfehpcbcgbidaa.Kc
