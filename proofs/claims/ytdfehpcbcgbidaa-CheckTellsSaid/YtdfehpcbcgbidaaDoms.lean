/- What package graph's dominators answers: the immediate dominator of each block. -/
import Derived.Test.YtdfehpcbcgbidaaHalves
import Derived.Test.YtdfehpcbcgbidaaCommon
namespace Go.Proofs.Ytdfehpcbcgbidaa.Gc
open Go.ChangeShapes Go.WideShapes Go.ChangeAt Go.RowKit Go.Shelf Go.Proofs.Ytdfehpcbcgbidaa.Mem Go.Proofs.Ytdfehpcbcgbidaa.Gr Go.Proofs.Ytdfehpcbcgbidaa.Gn Go.Proofs.Ytdfehpcbcgbidaa.Br Go.Proofs.Ytdfehpcbcgbidaa.Rp
set_option linter.unusedVariables false

theorem common_le {l : List Nat} (hf : Falls l) : ∀ (f a b : Nat), a < l.length → b < l.length → commonN l f a b ≤ a ∧ (f < a + b ∨ commonN l f a b ≤ b) := by
  intro f
  induction f with
  | zero => intro a b ha hb; exact ⟨Nat.le_refl _, by show 0 < a + b ∨ a ≤ b; omega⟩
  | succ f ih =>
    intro a b ha hb
    unfold commonN
    by_cases h : b < a
    · rw [if_pos h]
      have := hf a (by omega) ha
      obtain ⟨h1, h2⟩ := ih (l.getD a 0) b (by omega) hb
      exact ⟨by omega, by omega⟩
    · rw [if_neg h]
      by_cases h' : a < b
      · rw [if_pos h']
        have := hf b (by omega) hb
        obtain ⟨h1, h2⟩ := ih a (l.getD b 0) ha (by omega)
        exact ⟨by omega, by omega⟩
      · rw [if_neg h']; exact ⟨Nat.le_refl _, Or.inr (by omega)⟩
/-- No half is greater than its number. -/
def Low (c : Cl) : Prop := ∀ i, c.half.getD i 0 ≤ i
theorem halfOne_low {num : List Int} {n : Nat} {c : Cl} (h : Low c) (a : Nat) : Low (halfOne num n c a) := by
  unfold halfOne
  split
  · exact h
  · intro i
    show (c.half.set n _).getD i 0 ≤ i
    rw [getD_set]
    split
    · rename_i e
      have := h n
      omega
    · exact h i
theorem halfRow_low {num : List Int} {n : Nat} : ∀ (l : List Nat) (c : Cl), Low c → Low (halfRow num n l c)
  | [], _, h => h
  | _ :: l, _, h => halfRow_low l _ (halfOne_low h _)
theorem halfDown_low {w : St} {P : G} : ∀ (n : Nat) (c : Cl), Low c → Low (halfDown w P n c)
  | 0, _, h => h
  | n + 1, _, h => halfDown_low n _ (halfRow_low _ _ h)
theorem halves_low (w : St) (P : G) (i : Nat) : (halvesN w P).getD i 0 ≤ i := by
  refine halfDown_low _ _ (fun i => ?_) i
  show (List.range _).getD i 0 ≤ i
  rw [List.getD_eq_getElem?_getD]
  by_cases h : i < w.came.length
  · rw [List.getElem?_range h]; exact Nat.le_refl _
  · rw [List.getElem?_eq_none (by rw [List.length_range]; omega)]; exact Nat.zero_le _
theorem halfDown_inR {k : Nat} {w : St} {P : G} (hP : ∀ r ∈ P, ∀ b ∈ r, w.number.getD b (-1) = -1 ∨ (0 ≤ w.number.getD b (-1) ∧ w.number.getD b (-1) < k)) : ∀ (n : Nat) (c : Cl), InR k c → Ups c.up → InR k (halfDown w P n c) ∧ Ups (halfDown w P n c).up
  | 0, _, h, hu => ⟨h, hu⟩
  | n + 1, c, h, hu => by
    obtain ⟨h1, h2⟩ := halfRow_ok (n := n + 1) (P.getD (w.came.getD (n + 1) 0) []) c h hu (fun a ha => by
      rw [List.getD_eq_getElem?_getD] at ha
      by_cases hh : w.came.getD (n + 1) 0 < P.length
      · rw [List.getElem?_eq_getElem hh] at ha; exact hP _ (List.getElem_mem hh) a ha
      · rw [List.getElem?_eq_none (by omega)] at ha; cases ha)
    exact halfDown_inR hP n _ h1 h2
theorem halves_len {w : St} {P : G} (hs : Walked P.length w) (hP : Ok P) : (halvesN w P).length = w.came.length := by
  have h0 : InR w.came.length (halfInit w) := ⟨hs.inv.parent, by simp [halfInit], by simp [halfInit], fun i hi => ⟨hs.low i hi, by have := hs.ups i (by rw [hs.inv.parent]; exact hi); show w.parent.getD i (-1) < _; omega⟩,
    fun i hi => by show (List.range w.came.length).getD i 0 < _; rw [List.getD_eq_getElem?_getD, List.getElem?_range hi]; exact hi⟩
  exact (halfDown_inR (k := w.came.length) (w := w) (P := P) (fun r hr b hb => by
    obtain ⟨i, hi, e⟩ := List.mem_iff_getElem.1 hr
    exact hs.number b (hP i hi b (by rw [e]; exact hb))) _ _ h0 hs.ups).1.half
/-- Each number but 0 has a parent. -/
def Rooted (s : St) : Prop := ∀ n, 0 < n → n < s.came.length → 0 ≤ s.parent.getD n (-1)
theorem domTo_succ (s : St) (half : List Nat) (j : Nat) : domTo s half (j + 1) = domStep s half (domTo s half j) (j + 1) := by
  unfold domTo
  rw [List.range_succ, List.foldl_append]; rfl
/-- What stands above. -/
structure Above (s : St) (d : List Nat × List Int) : Prop where
  above : d.1.length = s.came.length
  idom : d.2.length = s.number.length
  falls : Falls d.1
theorem parent_nat {s : St} (hp : s.parent.length = s.came.length) (hu : Ups s.parent) (hr : Rooted s) {n : Nat} (h0 : 0 < n) (hn : n < s.came.length) : s.parent.getD n (-1) = ((s.parent.getD n 0).toNat : Int) ∧ (s.parent.getD n 0).toNat < n := by
  have h1 := hr n h0 hn
  have h2 := hu n (by rw [hp]; exact hn)
  have h3 : s.parent.getD n 0 = s.parent.getD n (-1) := by rw [List.getD_eq_getElem?_getD, List.getD_eq_getElem?_getD, List.getElem?_eq_getElem (by rw [hp]; exact hn)]; rfl
  rw [h3]
  omega
theorem domStep_above {s : St} {half : List Nat} {d : List Nat × List Int} (h : Above s d) (hp : s.parent.length = s.came.length) (hu : Ups s.parent) (hr : Rooted s) (hl : ∀ i, half.getD i 0 ≤ i) {n : Nat} (h0 : 0 < n) (hn : n < s.came.length) :
    Above s (domStep s half d n) ∧ commonN d.1 ((s.parent.getD n 0).toNat + half.getD n 0) (s.parent.getD n 0).toNat (half.getD n 0) < n := by
  obtain ⟨_, h2⟩ := parent_nat hp hu hr h0 hn
  have h3 := (common_le h.falls ((s.parent.getD n 0).toNat + half.getD n 0) _ (half.getD n 0) (show (s.parent.getD n 0).toNat < d.1.length by rw [h.above]; omega) (by rw [h.above]; have := hl n; omega)).1
  refine ⟨⟨by show (d.1.set n _).length = _; rw [List.length_set]; exact h.above, by show (d.2.set _ _).length = _; rw [List.length_set]; exact h.idom, ?_⟩, by omega⟩
  intro k hk hkl
  show (d.1.set n _).getD k 0 < k
  rw [getD_set]
  split
  · rename_i e; omega
  · exact h.falls k hk (by have hkl' : k < (d.1.set n (commonN d.1 ((s.parent.getD n 0).toNat + half.getD n 0) (s.parent.getD n 0).toNat (half.getD n 0))).length := hkl; rw [List.length_set] at hkl'; exact hkl')
theorem domTo_above {s : St} {half : List Nat} (hp : s.parent.length = s.came.length) (hu : Ups s.parent) (hr : Rooted s) (hl : ∀ i, half.getD i 0 ≤ i) : ∀ j, j < s.came.length ∨ j = 0 → Above s (domTo s half j)
  | 0, _ => ⟨by unfold domTo; simp, by unfold domTo; simp, fun k hk hkl => by
      unfold domTo
      show (List.replicate _ 0).getD k 0 < k
      rw [List.getD_eq_getElem?_getD, List.getElem?_replicate]
      split <;> exact hk⟩
  | j + 1, hj => by
    rw [domTo_succ]
    exact (domStep_above (domTo_above hp hu hr hl j (by omega)) hp hu hr hl (Nat.succ_pos j) (by omega)).1
set_option maxRecDepth 100000 in
set_option maxHeartbeats 8000000 in
theorem dominators_any (w : World) (vc vl vn vp vq : Value) (s : St) (P : G) (hw : ReadWalk w vc vl vn vp s) (hs : Walked P.length s) (hro : Rooted s) (hP : Grid w vq (lii P)) (hPO : Ok P) (hPS : Small (lii P)) :
    Calls Try.prog 78 #[.agg #[vc, vl, vn, vp], vq] w (MadeRow (dominatorsN s P) w) := by
  obtain ⟨Ac, cc, e1, hc1, hc2, hc3⟩ := hw.came
  obtain ⟨Al, cl, e2, hl1, hl2, hl3⟩ := hw.left
  obtain ⟨An, cn, e3, hn1, hn2, hn3⟩ := hw.number
  obtain ⟨Ap, cp, e4, hp1, hp2, hp3⟩ := hw.parent
  have hiv := hs.inv
  rw [li_len] at e1 e2
  rw [hiv.number] at e3
  rw [hiv.parent] at e4
  subst e1 e2 e3 e4
  have hpk := hPS.1
  rw [lii_len] at hpk
  have hkp : s.came.length ≤ P.length := by have := hiv.came; omega
  have HW := Lib.hid hw
  have HS := Lib.hid hs
  have HRO := Lib.hid hro
  have HP := Lib.hid hP
  have HPO := Lib.hid hPO
  have HPS := Lib.hid hPS
  have HPL := Lib.hid hiv.parent
  obtain ⟨i0, hi0, hz0, hz1, hz2⟩ := info_parts info_int
  have HI := Lib.hid hi0
  have HZ0 := Lib.hid hz0
  have HZ1 := Lib.hid hz1
  have HZ2 := Lib.hid hz2
  clear hi0 hz0 hz1 hz2 hw hs hro hP hPO hPS hc1 hc2 hc3 hl1 hl2 hl3 hn1 hn2 hn3 hp1 hp2 hp3 hiv
  go_enter Try.func78, Try.ntmps78
  go_upto_region 1 with (fail)
  obtain ⟨W1, hW1⟩ : ∃ W1, w.alloc (.cells #[.slice Ac s.came.length cc, .slice Al s.left.length cl, .slice An P.length cn, .slice Ap s.came.length cp] 116) = W1 := ⟨_, rfl⟩
  rw [hW1]
  have hB1 : Below w.heap.size w W1 := by rw [← hW1]; exact (Below.refl _ _).alloc (Nat.le_refl _) _
  have hs1 : Str W1 w.heap.size 116 [.slice Ac s.came.length cc, .slice Al s.left.length cl, .slice An P.length cn, .slice Ap s.came.length cp] := by rw [← hW1]; exact World.alloc_heap_new w _
  have hz1 : W1.heap.size = w.heap.size + 1 := by rw [← hW1]; simp
  have c0 : W1.cell? ⟨w.heap.size, 0, none⟩ = some (.slice Ac s.came.length cc) := hs1.cell 0
  have c1 : W1.cell? ⟨w.heap.size, 1, none⟩ = some (.slice Al s.left.length cl) := hs1.cell 1
  have c2 : W1.cell? ⟨w.heap.size, 2, none⟩ = some (.slice An P.length cn) := hs1.cell 2
  have c3 : W1.cell? ⟨w.heap.size, 3, none⟩ = some (.slice Ap s.came.length cp) := hs1.cell 3
  have HS1 := Lib.hid hs1
  clear hW1 hs1
  go_wp2_with fail
  refine (halves_any W1 _ _ _ _ _ s P (HW.out.keep hB1) HS.out (HP.out.keep hB1) HPO.out HPS.out).mono ?_
  rintro e w2 ⟨vh, rfl, ho2, hb2⟩
  obtain ⟨Ah, ch, rfl⟩ := ho2.form
  rw [li_len, halves_len HS.out HPO.out] at ho2
  have hz2 := hb2.size
  have hs2 := HS1.out.below hb2
  have c0' : w2.cell? ⟨w.heap.size, 0, none⟩ = some (.slice Ac s.came.length cc) := hs2.cell 0
  have HO2 := Lib.hid ho2
  have HB2 := Lib.hid hb2
  have HS2 := Lib.hid hs2
  rw [li_len, halves_len HS.out HPO.out]
  clear ho2 hb2 hs2 c0 c1 c2 c3
  go_wp2_with (at_make; refine wpList_make_full _ rfl _ _ 28 rfl w2.heap.size 3 i0 (.int .i64 0) 1 Try.underlying28 HI.out HZ0.out HZ1.out .i64 .i64 _ _ s.came.length rfl rfl rfl rfl (by rw [HZ2.out]; omega) (by unfold maxLen; omega) (Nat.le_refl _) ?_)
  intro w3 hown3 hgr3
  rw [toList_madeCells_one] at hown3
  have ho3 := zeros_own hown3
  have hb3 : Below w2.heap.size w2 w3 := (Below.refl _ _).grown hgr3 (Nat.le_refl _) (fun j hj => by cases hj)
  have hz3 := hb3.size
  have lt3 : w2.heap.size < w3.heap.size := (ho3.lt _ rfl).2
  have hs3 := HS2.out.below hb3
  have c2 : (w3.alloc (.cells #[.int .i64 (-1)] 3)).cell? ⟨w.heap.size, 2, none⟩ = some (.slice An P.length cn) := (hs3.below ((Below.refl _ _).alloc (Nat.le_refl _) _)).cell 2
  have HO3 := Lib.hid ho3
  have HB3 := Lib.hid hb3
  have HS3 := Lib.hid hs3
  clear hown3 hgr3 ho3 hb3 hs3 c0'
  go_wp2_with fail
  obtain ⟨W4, hW4⟩ : ∃ W4, w3.alloc (.cells #[.int .i64 (-1)] 3) = W4 := ⟨_, rfl⟩
  rw [hW4]
  have hB4 : Below w3.heap.size w3 W4 := by rw [← hW4]; exact (Below.refl _ _).alloc (Nat.le_refl _) _
  have hz4 : w3.heap.size < W4.heap.size := by rw [← hW4]; simp
  have hx4 : W4.cell? ⟨w3.heap.size, 0, none⟩ = some (.int .i64 (-1)) := by rw [← hW4]; exact cell_made rfl
  clear hW4 c2
  refine (repeat_any W4 w3.heap.size P.length (-1) hx4 (by omega)).mono ?_
  rintro e w5 ⟨rfl, ho5, hb5⟩
  have hz5 := hb5.size
  have lt5 : W4.heap.size < w5.heap.size := (ho5.lt _ rfl).2
  have hb25 : Below w2.heap.size w2 w5 := HB3.out.trans ((hB4.mono hz3).trans (hb5.mono (by omega)))
  have hlh : ∀ g, (Value.slice Ah s.came.length ch).ownBlock = some g → W1.heap.size ≤ g ∧ g < w2.heap.size := fun g e => HO2.out.lt g e
  have hr5 : RowsD W1.heap.size w5 [.slice Ah s.came.length ch, .slice (some ⟨w2.heap.size, 0, none⟩) s.came.length s.came.length, .slice (some ⟨W4.heap.size, 0, none⟩) P.length P.length] [li (halvesN s P), li (List.replicate s.came.length 0), List.replicate P.length (-1)] := by
    refine rows3 (B := W1.heap.size) (own_below HO2.out hb25) (own_below HO3.out ((hB4).trans (hb5.mono (by omega)))) ho5 hlh (e2 := w3.heap.size) (fun g e => ?_) (e3 := w5.heap.size) (fun g e => ?_) ⟨Nat.le_refl _, by omega, by omega⟩ (by omega) (by omega) (by omega)
    · injection e with e; dsimp only at e; omega
    · injection e with e; dsimp only at e; omega
  have HR5 := Lib.hid hr5
  have HS5 := Lib.hid (HS2.out.below hb25)
  have HB5 := Lib.hid (hB1.trans (HB2.out.mono (by omega)) |>.trans (hb25.mono (by omega)))
  clear hr5 ho5 hb5 hb25 hx4 hB4
  have hpl : (domTo s (halvesN s P) 0).2.length = s.number.length := by unfold domTo; simp
  go_wp2
  go_loopw [8] (fun i wr => ∃ j : Nat, (j < s.came.length ∨ j = 0) ∧ i = .int .i64 ((j : Int) + 1) ∧ RowsD W1.heap.size wr [.slice Ah s.came.length ch, .slice (some ⟨w2.heap.size, 0, none⟩) s.came.length s.came.length, .slice (some ⟨W4.heap.size, 0, none⟩) P.length P.length] [li (halvesN s P), li (domTo s (halvesN s P) j).1, (domTo s (halvesN s P) j).2] ∧
    Str wr w.heap.size 116 [.slice Ac s.came.length cc, .slice Al s.left.length cl, .slice An P.length cn, .slice Ap s.came.length cp] ∧ Below w.heap.size w wr) (fun i _ => s.came.length - (intOf i).toNat)
  case atStart => exact ⟨0, Or.inr rfl, rfl, by rw [show P.length = s.number.length from HS.out.inv.number.symm] at HR5 ⊢; exact HR5.out, HS5.out, HB5.out⟩
  case round =>
    obtain ⟨j, hj, rfl, hr, hst, hbw⟩ := hrel
    obtain ⟨wo, rfl⟩ : ∃ wo : World, wo = wr := ⟨_, rfl⟩
    have HR := Lib.hid hr
    have HST := Lib.hid hst
    have HBW := Lib.hid hbw
    have k0 : wo.cell? ⟨w.heap.size, 0, none⟩ = some (.slice Ac s.came.length cc) := hst.cell 0
    have hab := domTo_above HPL.out HS.out.ups HRO.out (halves_low s P) j hj
    by_cases hlt : j + 1 < s.came.length
    · obtain ⟨hp1, hp2⟩ := parent_nat HPL.out HS.out.ups HRO.out (Nat.succ_pos j) hlt
      obtain ⟨ad4, rfl, hpc⟩ := ints_at HW.out.parent (j + 1) (by rw [HPL.out]; exact hlt)
      have hpe : s.parent[j + 1]'(by rw [HPL.out]; exact hlt) = s.parent.getD (j + 1) (-1) := by rw [List.getD_eq_getElem?_getD, List.getElem?_eq_getElem (by rw [HPL.out]; exact hlt)]; rfl
      rw [hpe, hp1] at hpc
      have hpc' := cell_keep hbw (Nat.le_refl _) hpc
      have hhl := halves_len HS.out HPO.out
      obtain ⟨gh, rfl⟩ := (hr.at (i := 0) rfl rfl).block (by rw [li_len, hhl]; omega)
      obtain ⟨hhc, _⟩ := row_nat (hr.at (i := 0) rfl rfl) (j := j + 1) (by rw [hhl]; exact hlt)
      have hhn := halves_low s P (j + 1)
      have hstep := (domStep_above hab HPL.out HS.out.ups HRO.out (halves_low s P) (Nat.succ_pos j) hlt).2
      have HN := Lib.hid (show domTo s (halvesN s P) (j + 1) = ((domTo s (halvesN s P) j).1.set (j + 1) (commonN (domTo s (halvesN s P) j).1 ((s.parent.getD (j + 1) 0).toNat + (halvesN s P).getD (j + 1) 0) (s.parent.getD (j + 1) 0).toNat ((halvesN s P).getD (j + 1) 0)),
        (domTo s (halvesN s P) j).2.set (s.came.getD (j + 1) 0) (s.came.getD (commonN (domTo s (halvesN s P) j).1 ((s.parent.getD (j + 1) 0).toNat + (halvesN s P).getD (j + 1) 0) (s.parent.getD (j + 1) 0).toNat ((halvesN s P).getD (j + 1) 0)) 0 : Nat)) by
          rw [domTo_succ]; rfl)
      have hia := hr.at (i := 1) rfl rfl
      obtain ⟨hac, haf⟩ := row_nat hia (j := j + 1) (by rw [hab.above]; exact hlt)
      have hij := hr.at (i := 2) rfl rfl
      generalize (s.parent.getD (j + 1) 0).toNat = pn at *
      generalize (halvesN s P).getD (j + 1) 0 = hn at *
      generalize hd : domTo s (halvesN s P) j = d at *
      generalize hcn : commonN d.1 (pn + hn) pn hn = cN at *
      generalize d.1.getD (j + 1) 0 = x0 at *
      have HCN := Lib.hid hcn
      have HAB := Lib.hid hab
      have k3 : wo.cell? ⟨w.heap.size, 3, none⟩ = some (.slice (some ad4) s.came.length cp) := hst.cell 3
      obtain ⟨ad1, rfl, hcj⟩ := ints_at HW.out.came (j + 1) (by rw [li_len]; exact hlt)
      obtain ⟨ad1', e1, hcn1⟩ := ints_at HW.out.came cN (by rw [li_len]; omega)
      injection e1 with e1
      subst e1
      rw [li_at hlt] at hcj
      have hcNk : cN < s.came.length := by omega
      rw [li_at hcNk] at hcn1
      have hcj' : w.cell? (ad1.add (j + 1)) = some (.int .i64 (s.came.getD (j + 1) 0 : Nat)) := by rw [List.getD_eq_getElem?_getD, List.getElem?_eq_getElem hlt]; exact hcj
      have hcn' : w.cell? (ad1.add cN) = some (.int .i64 (s.came.getD cN 0 : Nat)) := by rw [List.getD_eq_getElem?_getD, List.getElem?_eq_getElem hcNk]; exact hcn1
      have hcjP : s.came.getD (j + 1) 0 < P.length := HS.out.came _ (by rw [List.getD_eq_getElem?_getD, List.getElem?_eq_getElem hlt]; exact List.getElem_mem hlt)
      generalize s.came.getD (j + 1) 0 = cj at *
      generalize s.came.getD cN 0 = ca at *
      have hlt2 : (j : Int) + 1 < (s.came.length : Int) := by omega
      have hj0 : (0 : Int) ≤ (j : Int) + 1 := by omega
      have HPC := Lib.hid hpc'
      have HCJ := Lib.hid hcj'
      have HCA := Lib.hid hcn'
      have HIJ := Lib.hid hij
      clear hr hst hbw hab hpe hpc hcj hcn1 hcn hij hia hp1 hcj' hcn' hd
      go_wp2
      refine region_held_wp (fun w' => w'.cell? ⟨w.heap.size, 3, none⟩ = some (.slice (some ad4) s.came.length cp) ∧ w'.cell? ⟨ad4.block, ad4.off + (j + 1), none⟩ = some (.int .i64 pn) ∧ w'.cell? ⟨gh, j + 1, none⟩ = some (.int .i64 hn)) [0, 1, 2, 3, 4, 5, 6, 7, 8, 9, 10, 11, 13] [0, 1, 2, 3, 4, 5, 6, 7, 8, 9, 10, 11, 12, 13, 14] (by kernel_rfl) (by kernel_rfl) (by kernel_rfl) rfl (by intro c a d v w h; cases d <;> exact h) ⟨k3, hpc', hhc⟩ ?_
      refine walkH_still _ ?p0 rfl rfl rfl ?py0 ?_
      case py0 => intro w hS; go_simp; first | done | with_reducible rfl
      simp only [Act.put]
      refine walkH_still _ ?p1 rfl rfl rfl ?py1 ?_
      case py1 => intro w hS; go_simp; first | done | with_reducible rfl
      simp only [Act.put]
      refine walkH_still _ ?p2 rfl rfl rfl ?py2 ?_
      case py2 => intro w hS; go_simp; first | done | with_reducible rfl
      simp only [Act.put]
      refine walkH_still _ ?p3 rfl rfl rfl ?py3 ?_
      case py3 => intro w hS; go_simp; first | done | with_reducible rfl
      simp only [Act.put]
      refine walkH_still _ ?p4 rfl rfl rfl ?py4 ?_
      case py4 => intro w hS; go_simp; first | done | with_reducible rfl
      simp only [Act.put]
      refine walkH_still _ ?p5 rfl rfl rfl ?py5 ?_
      case py5 => intro w hS; go_simp; first | done | with_reducible rfl
      simp only [Act.put]
      refine walkH_still _ ?p6 rfl rfl rfl ?py6 ?_
      case py6 => intro w hS; go_simp; first | done | with_reducible rfl
      simp only [Act.put]
      refine walkH_still _ ?p7 rfl rfl rfl ?py7 ?_
      case py7 => intro w hS; go_simp; first | done | with_reducible rfl
      simp only [Act.put]
      refine walkH_still _ ?p8 rfl rfl rfl ?py8 ?_
      case py8 => intro w hS; go_simp; first | done | with_reducible rfl
      simp only [Act.put]
      refine walkH_still _ ?p9 rfl rfl rfl ?py9 ?_
      case py9 => intro w hS; go_simp; first | done | with_reducible rfl
      simp only [Act.put]
      refine walkH_still _ ?p10 rfl rfl rfl ?py10 ?_
      case py10 => intro w hS; go_simp; first | done | with_reducible rfl
      simp only [Act.put]
      refine walkH_still _ ?p11 rfl rfl rfl ?py11 ?_
      case py11 => intro w hS; go_simp; first | done | with_reducible rfl
      simp only [Act.put]
      simp only [List.setIfInBounds_toArray, List.set_cons_zero, List.set_cons_succ]
      refine walkH_does _ rfl rfl ?_
      go_wp2_with fail
      refine (common_any wo.drew _ d.1 pn hn (by have h := (HR.out.at (i := 1) rfl rfl).ints; exact h) (by rw [HAB.out.above]; omega) HAB.out.falls (by rw [HAB.out.above]; omega) (by rw [HAB.out.above]; omega)).mono ?_
      rintro e w9 ⟨rfl, rfl⟩
      rw [HCN.out]
      go_wp2_with fail
      refine ⟨HPC.out, ?_⟩
      refine walkH_still _ ?pa13 rfl rfl rfl ?pay13 ?_
      case pay13 => intro w hS; go_simp; first | done | with_reducible rfl
      simp only [Act.put]
      simp only [List.setIfInBounds_toArray, List.set_cons_zero, List.set_cons_succ]
      refine walkH_does _ rfl rfl ?_
      go_wp2
      refine walkH_nil ?_
      go_upto_region 8 with (fail)
      obtain ⟨W6, hW6⟩ : ∃ W6, (wo.setCell ⟨w2.heap.size, j + 1, none⟩ (.int .i64 cN)).drew = W6 := ⟨_, rfl⟩
      rw [hW6]
      have hr6 : RowsD W1.heap.size W6 [.slice (some ⟨gh, 0, none⟩) s.came.length ch, .slice (some ⟨w2.heap.size, 0, none⟩) s.came.length s.came.length, .slice (some ⟨W4.heap.size, 0, none⟩) P.length P.length] [li (halvesN s P), li (d.1.set (j + 1) cN), d.2] := by
        rw [← hW6]
        have h := rowsD_put HR.out (i := 1) rfl rfl (j + 1) (cN : Int)
        rw [li_set]
        exact h
      have hs6 : Str W6 w.heap.size 116 [.slice (some ad1) s.came.length cc, .slice Al s.left.length cl, .slice An P.length cn, .slice (some ad4) s.came.length cp] := by rw [← hW6]; exact (Below.heap_setCell _ _ _ _ (by show w.heap.size ≠ w2.heap.size; omega)).trans HST.out
      have hb6 : Below w.heap.size w W6 := by rw [← hW6]; exact (HBW.out.setCell (p := ⟨w2.heap.size, j + 1, none⟩) (by show w.heap.size ≤ w2.heap.size; omega) _).drew
      clear hW6
      have c0 : W6.cell? ⟨w.heap.size, 0, none⟩ = some (.slice (some ad1) s.came.length cc) := hs6.cell 0
      have hv1 := cell_keep hb6 (Nat.le_refl _) HCJ.out
      have hv2 := cell_keep hb6 (Nat.le_refl _) HCA.out
      have hv3 := (row_nat (hr6.at (i := 1) rfl rfl) (j := j + 1) (by rw [List.length_set, HAB.out.above]; exact hlt)).1
      rw [getD_set, if_pos ⟨rfl, by rw [HAB.out.above]; exact hlt⟩] at hv3
      obtain ⟨hic, hif⟩ := row_int (hr6.at (i := 2) rfl rfl) (j := cj) (by rw [HAB.out.idom, HS.out.inv.number]; exact hcjP) 0
      generalize d.2.getD cj 0 = y0 at *
      have HR6 := Lib.hid hr6
      have HS6 := Lib.hid hs6
      have HB6 := Lib.hid hb6
      clear hr6 hs6 hb6
      refine region_held_wp (fun w' => w'.cell? ⟨w.heap.size, 0, none⟩ = some (.slice (some ad1) s.came.length cc) ∧ w'.cell? ⟨ad1.block, ad1.off + (j + 1), none⟩ = some (.int .i64 cj) ∧ w'.cell? (ad1.add cN) = some (.int .i64 ca) ∧ w'.cell? ⟨w2.heap.size, j + 1, none⟩ = some (.int .i64 cN)) [0, 1, 2, 3, 4, 5, 6, 7, 8, 9, 10, 11, 12, 13, 14] [0, 1, 2, 3, 4, 5, 6, 7, 8, 9, 10, 11, 12, 13, 14, 15] (by kernel_rfl) (by kernel_rfl) (by kernel_rfl) rfl (by intro c a d v w h; cases d <;> exact h) ⟨c0, hv1, hv2, hv3⟩ ?_
      refine walkH_still _ ?q0 rfl rfl rfl ?qy0 ?_
      case qy0 => intro w hS; go_simp; first | done | with_reducible rfl
      simp only [Act.put]
      refine walkH_still _ ?q1 rfl rfl rfl ?qy1 ?_
      case qy1 => intro w hS; go_simp; first | done | with_reducible rfl
      simp only [Act.put]
      refine walkH_still _ ?q2 rfl rfl rfl ?qy2 ?_
      case qy2 => intro w hS; go_simp; first | done | with_reducible rfl
      simp only [Act.put]
      refine walkH_still _ ?q3 rfl rfl rfl ?qy3 ?_
      case qy3 => intro w hS; go_simp; first | done | with_reducible rfl
      simp only [Act.put]
      refine walkH_still _ ?q4 rfl rfl rfl ?qy4 ?_
      case qy4 => intro w hS; go_simp; first | done | with_reducible rfl
      simp only [Act.put]
      refine walkH_still _ ?q5 rfl rfl rfl ?qy5 ?_
      case qy5 => intro w hS; go_simp; first | done | with_reducible rfl
      simp only [Act.put]
      refine walkH_still _ ?q6 rfl rfl rfl ?qy6 ?_
      case qy6 => intro w hS; go_simp; first | done | with_reducible rfl
      simp only [Act.put]
      refine walkH_still _ ?q7 rfl rfl rfl ?qy7 ?_
      case qy7 => intro w hS; go_simp; first | done | with_reducible rfl
      simp only [Act.put]
      refine walkH_still _ ?q8 rfl rfl rfl ?qy8 ?_
      case qy8 => intro w hS; go_simp; first | done | with_reducible rfl
      simp only [Act.put]
      refine walkH_still _ ?q9 rfl rfl rfl ?qy9 ?_
      case qy9 => intro w hS; go_simp; first | done | with_reducible rfl
      simp only [Act.put]
      refine walkH_still _ ?q10 rfl rfl rfl ?qy10 ?_
      case qy10 => intro w hS; go_simp; first | done | with_reducible rfl
      simp only [Act.put]
      refine walkH_still _ ?q11 rfl rfl rfl ?qy11 ?_
      case qy11 => intro w hS; go_simp; first | done | with_reducible rfl
      simp only [Act.put]
      refine walkH_still _ ?q12 rfl rfl rfl ?qy12 ?_
      case qy12 => intro w hS; go_simp; first | done | with_reducible rfl
      simp only [Act.put]
      refine walkH_still _ ?q13 rfl rfl rfl ?qy13 ?_
      case qy13 => intro w hS; go_simp; first | done | with_reducible rfl
      simp only [Act.put]
      refine walkH_still _ ?q14 rfl rfl rfl ?qy14 ?_
      case qy14 => intro w hS; go_simp; first | done | with_reducible rfl
      simp only [Act.put]
      simp only [List.setIfInBounds_toArray, List.set_cons_zero, List.set_cons_succ]
      refine walkH_does _ rfl rfl ?_
      go_wp2
      refine walkH_nil ?_
      go_wp2
      go_roundw
      case rel => 
        refine ⟨j + 1, Or.inl hlt, by go_num, ?_, ?_, ?_⟩
        · rw [HN.out]
          exact rowsD_put HR6.out (i := 2) rfl rfl cj (ca : Int)
        · exact (Below.heap_setCell _ _ _ _ (by show w.heap.size ≠ W4.heap.size; omega)).trans HS6.out
        · exact (HB6.out.setCell (p := ⟨W4.heap.size, cj, none⟩) (by show w.heap.size ≤ W4.heap.size; omega) _).drew
      case measure => simp [intOf]; omega
    · have hge : ¬ ((j : Int) + 1 < (s.came.length : Int)) := by omega
      have HE := Lib.hid (show (domTo s (halvesN s P) j).2 = dominatorsN s P by
        unfold dominatorsN
        rw [show s.came.length - 1 = j by omega])
      clear hr hst hbw hab
      go_wp2
      go_ret
      have h2 := HR.out.at (i := 2) rfl rfl
      rw [HE.out] at h2
      exact ⟨_, rfl, own_base h2 (by omega), HBW.out⟩
end Go.Proofs.Ytdfehpcbcgbidaa.Gc
