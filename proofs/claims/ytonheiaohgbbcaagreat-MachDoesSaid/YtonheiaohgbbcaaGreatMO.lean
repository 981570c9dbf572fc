/- Stage 7: what mach.Func tells of code without phis. -/
import Derived.Test.YtonheiaohgbbcaaGreatMN
namespace Go.Proofs.YtonheiaohgbbcaaGreat.Mc
open Go.ChangeShapes Go.WideShapes Go.ChangeAt Go.RowKit Go.Proofs.YtonheiaohgbbcaaGreat.Mem Go.Proofs.YtonheiaohgbbcaaGreat.Kc Go.Proofs.YtonheiaohgbbcaaGreat.Pl Go.Proofs.YtonheiaohgbbcaaGreat.Mw Go.Proofs.YtonheiaohgbbcaaGreat.Gr Go.Proofs.YtonheiaohgbbcaaGreat.Gn Go.Proofs.YtonheiaohgbbcaaGreat.Gc Go.Proofs.YtonheiaohgbbcaaGreat.Br
set_option linter.unusedVariables false
set_option linter.unusedSimpArgs false
/-- What is wrong first with the blocks from one on, each alone. -/
def firstE (n : Int) : Nat → List PMB → Fault
  | _, [] => (0, 0, 0)
  | k, x :: l => if (tailE n x.fin 0 x.ins).1 = 0 then firstE n (k + 1) l else ((tailE n x.fin 0 x.ins).1, (k : Int), (tailE n x.fin 0 x.ins).2)
theorem firstE_go {n : Int} {l : List PMB} {k : Nat} (hk : k < l.length) (h : (tailE n l[k].fin 0 l[k].ins).1 = 0) : firstE n k (l.drop k) = firstE n (k + 1) (l.drop (k + 1)) := by
  rw [List.drop_eq_getElem_cons hk]
  exact if_pos h
theorem firstE_no {n : Int} {l : List PMB} {k : Nat} (hk : k < l.length) (h : (tailE n l[k].fin 0 l[k].ins).1 ≠ 0) : firstE n k (l.drop k) = ((tailE n l[k].fin 0 l[k].ins).1, (k : Int), (tailE n l[k].fin 0 l[k].ins).2) := by
  rw [List.drop_eq_getElem_cons hk]
  exact if_neg h
/-- What is wrong first with code without phis. -/
def funcM (params : Int) (bs : List PMB) : Fault :=
  if limM params bs ≠ 0 then (limM params bs, 0, 0) else if (firstE bs.length 0 bs).1 ≠ 0 then firstE bs.length 0 bs else if 0 ≤ unreachN (rowsM bs) then (15, unreachN (rowsM bs), 0) else (0, 0, 0)
def Tells3 (f : Fault) (w : World) (en : Ending) (w' : World) : Prop := en = .returned (.tuple #[.int .i64 f.1, .int .i64 f.2.1, .int .i64 f.2.2]) ∧ Below w.heap.size w w'
theorem limM_few {params : Int} {bs : List PMB} (h : limM params bs = 0) : bs.length ≤ 512 := by
  unfold limM at h
  by_cases h1 : params < 0 ∨ 4 < params
  · rw [if_pos h1] at h; cases h
  · rw [if_neg h1] at h
    by_cases h2 : bs.length = 0
    · omega
    · rw [if_neg h2] at h
      by_cases h3 : 512 < bs.length
      · rw [if_pos h3] at h; cases h
      · omega
theorem rows_small {bs : List PMB} (h : WfM bs) (hl : bs.length ≤ 512) : Small (rowsM bs) := by
  refine ⟨by rw [rowsM_len]; omega, fun i hi => ?_⟩
  have hi' : i < bs.length := by rw [rowsM_len] at hi; exact hi
  have := (h.sizes bs[i] (List.getElem_mem _)).2.2
  simpa [rowsM] using this
set_option maxRecDepth 100000 in
set_option maxHeartbeats 4000000 in
theorem func0_any (w : World) (params : Int) (A : Option Addr) (c : Nat) (bs : List PMB) (hA : MBlocksAt w (.slice A bs.length c) bs) (hwf : WfM bs) (hnp : ∀ x ∈ bs, x.phis = []) :
    Calls Tryz.prog 33 #[.agg #[.int .i64 params, .slice A bs.length c]] w (Tells3 (funcM params bs) w) := by
  have HX := Lib.hid hA
  have HWF := Lib.hid hwf
  have HNP := Lib.hid (show ∀ k (h : k < bs.length), bs[k].phis.length = 0 from fun k h => by rw [hnp _ (List.getElem_mem h)]; rfl)
  have hfew := hwf.few
  obtain ⟨f, hf⟩ : ∃ f, funcM params bs = f := ⟨_, rfl⟩
  have HF := Lib.hid hf
  rw [hf]
  obtain ⟨fe, fb, fp⟩ := f
  clear hA hwf hnp hf
  go_enter Tryz.func33, Tryz.ntmps33
  go_upto_region 1 with (fail)
  obtain ⟨W, hW⟩ : ∃ W, w.alloc (.cells #[.int .i64 params, .slice A bs.length c] 24) = W := ⟨_, rfl⟩
  have hbW : Below w.heap.size w W := by rw [← hW]; exact (Below.refl _ _).alloc (Nat.le_refl _) _
  have hsW : Str W w.heap.size 24 [.int .i64 params, .slice A bs.length c] := by rw [← hW]; exact World.alloc_heap_new w _
  rw [hW]
  clear hW
  have m0 : W.cell? ⟨w.heap.size, 0, none⟩ = some (.int .i64 params) := hsW.cell 0
  have m1 : W.cell? ⟨w.heap.size, 1, none⟩ = some (.slice A bs.length c) := hsW.cell 1
  have HBW := Lib.hid hbW
  have HSW := Lib.hid hsW
  have HXW := Lib.hid (HX.out.keep hbW)
  clear hbW hsW
  go_wp2_with fail
  refine (limits_any W params A c bs HXW.out HWF.out).mono ?_
  rintro e w1 ⟨rfl, hb1⟩
  have HB1 := Lib.hid (HBW.out.trans (hb1.mono HBW.out.size))
  have HS1 := Lib.hid (HSW.out.below hb1)
  have m0 : w1.cell? ⟨w.heap.size, 0, none⟩ = some (.int .i64 params) := HS1.out.cell 0
  have m1 : w1.cell? ⟨w.heap.size, 1, none⟩ = some (.slice A bs.length c) := HS1.out.cell 1
  clear hb1 HSW HBW HXW
  obtain ⟨q, hq⟩ : ∃ q, limM params bs = q := ⟨_, rfl⟩
  have HQ := Lib.hid hq
  rw [hq]
  clear hq
  by_cases hz : q = 0
  · have hz1 : (q != 0) = false := by rw [hz]; rfl
    have HSM := Lib.hid (rows_small HWF.out (limM_few (by rw [HQ.out]; exact hz)))
    have HF2 := Lib.hid (show (if (firstE bs.length 0 bs).1 ≠ 0 then firstE bs.length 0 bs else if 0 ≤ unreachN (rowsM bs) then (15, unreachN (rowsM bs), 0) else (0, 0, 0)) = (fe, fb, fp) by rw [← HF.out]; unfold funcM; rw [if_neg (show ¬ (limM params bs ≠ 0) by rw [HQ.out, hz]; simp)])
    clear hz HF
    go_wp2_with fail
    go_loopw [6, 7, 8, 9, 23] (fun _ _ _ _ j wr => ∃ k : Nat, k ≤ bs.length ∧ j = .int .i64 k ∧ firstE bs.length k (bs.drop k) = firstE bs.length 0 bs ∧ Below w.heap.size w wr ∧ Below w1.heap.size w1 wr) (fun _ _ _ _ j _ => bs.length - (intOf j).toNat)
    case atStart => exact ⟨0, Nat.zero_le _, rfl, rfl, HB1.out, Below.refl _ _⟩
    case round =>
      obtain ⟨k, hk, rfl, ht, hb, hb'⟩ := hrel
      have HT := Lib.hid ht
      have HB := Lib.hid hb
      have HB2 := Lib.hid hb'
      have HS := Lib.hid (HS1.out.below hb')
      clear ht hb hb'
      by_cases hlt : k < bs.length
      · obtain ⟨A', c', b, o, e, q1, q2, q3, q4⟩ := HX.out.keep HB.out
        injection e with e1 _ e3
        subst e1 e3
        have e1 := q3 (by omega)
        subst e1
        obtain ⟨p0, c0, p1, c1, p5, c5, r0, r1, r2, r3, r4, r5, r6, g0, g1, g5⟩ := mblock_rows (q4 k hlt)
        have hp0 := HNP.out k hlt
        rw [hp0] at r0
        have HG1 := Lib.hid g1
        have HG5 := Lib.hid g5
        have HSZ := Lib.hid (HWF.out.sizes bs[k] (List.getElem_mem _))
        have HIN := Lib.hid (HWF.out.ins bs[k] (List.getElem_mem _))
        have HGO := Lib.hid (fun h => firstE_go (n := bs.length) hlt h)
        have HNO := Lib.hid (fun h => firstE_no (n := bs.length) hlt h)
        clear q3 q4 g0 g1 g5 hp0
        generalize bs[k] = x at *
        go_upto_region 7 with (fail)
        obtain ⟨W3, hW3⟩ : ∃ W3, wr.alloc (.cells #[.slice p0 0 c0, .slice p1 x.ins.length c1, .int .i64 x.fin.op, .int .i64 x.fin.a, .int .i64 x.fin.b, .slice p5 x.fin.to.length c5, .int .i32 x.fin.imm] 67) = W3 := ⟨_, rfl⟩
        have hbW3 : Below wr.heap.size wr W3 := by rw [← hW3]; exact (Below.refl _ _).alloc (Nat.le_refl _) _
        have hsW3 : Str W3 wr.heap.size 67 [.slice p0 0 c0, .slice p1 x.ins.length c1, .int .i64 x.fin.op, .int .i64 x.fin.a, .int .i64 x.fin.b, .slice p5 x.fin.to.length c5, .int .i32 x.fin.imm] := by rw [← hW3]; exact World.alloc_heap_new wr _
        rw [hW3]
        clear hW3
        have HBA := Lib.hid (HB.out.trans (hbW3.mono HB.out.size))
        have HBB := Lib.hid (HB2.out.trans (hbW3.mono HB2.out.size))
        have HG1 := Lib.hid (HG1.out.kept (MachAt.keep hbW3))
        have HG5 := Lib.hid (HG5.out.keep hbW3)
        have k0 : W3.cell? ⟨wr.heap.size, 0, none⟩ = some (.slice p0 0 c0) := hsW3.cell 0
        have k1 : W3.cell? ⟨wr.heap.size, 1, none⟩ = some (.slice p1 x.ins.length c1) := hsW3.cell 1
        have k2 : W3.cell? ⟨wr.heap.size, 2, none⟩ = some (.int .i64 x.fin.op) := hsW3.cell 2
        have k3 : W3.cell? ⟨wr.heap.size, 3, none⟩ = some (.int .i64 x.fin.a) := hsW3.cell 3
        have k4 : W3.cell? ⟨wr.heap.size, 4, none⟩ = some (.int .i64 x.fin.b) := hsW3.cell 4
        have k5 : W3.cell? ⟨wr.heap.size, 5, none⟩ = some (.slice p5 x.fin.to.length c5) := hsW3.cell 5
        have k6 : W3.cell? ⟨wr.heap.size, 6, none⟩ = some (.int .i32 x.fin.imm) := hsW3.cell 6
        have m1 : W3.cell? ⟨w.heap.size, 1, none⟩ = some (.slice (some ⟨b, o, none⟩) bs.length c) := (HS.out.below hbW3).cell 1
        clear hbW3 hsW3 r0 r1 r2 r3 r4 r5 r6 m0
        go_wp2_with fail
        refine (parts_any W3 x p0 p1 p5 0 c0 c1 c5 bs.length rfl HG1.out HG5.out HSZ.out.2.1 (fun i hi => ⟨(HIN.out i hi).1, (HIN.out i hi).2.2.2.2.2.2⟩)).mono ?_
        rintro e' w4 ⟨rfl, hb4⟩
        have HBA := Lib.hid (HBA.out.trans (hb4.mono HBA.out.size))
        have HBB := Lib.hid (HBB.out.trans (hb4.mono HBB.out.size))
        clear hb4 k0 k1 k2 k3 k4 k5 k6 m1
        obtain ⟨⟨y, z⟩, hyz⟩ : ∃ q, tailE bs.length x.fin 0 x.ins = q := ⟨_, rfl⟩
        have HYZ := Lib.hid hyz
        rw [hyz]
        clear hyz
        by_cases hy : y = 0
        · have hy1 : (y != 0) = false := by rw [hy]; rfl
          have HN := Lib.hid (show firstE bs.length (k + 1) (bs.drop (k + 1)) = firstE bs.length 0 bs by rw [← HGO.out (by rw [HYZ.out]; exact hy)]; exact HT.out)
          clear hy
          go_wp2_with fail
          exact ⟨⟨k + 1, by omega, by go_num, HN.out, HBA.out, HBB.out⟩, by simp [intOf]; omega⟩
        · have hy1 : (y != 0) = true := by simp [hy]
          have HN := Lib.hid (show (y, (k : Int), z) = (fe, fb, fp) by
            have h1 := HNO.out (by rw [HYZ.out]; exact hy)
            rw [HT.out, HYZ.out] at h1
            have h2 := HF2.out
            rw [h1, if_pos hy] at h2
            exact h2)
          clear hy
          go_wp2_with fail
          go_ret3
          have h9 := HN.out
          injection h9 with h9 h8
          injection h8 with h8 h7
          exact ⟨by rw [← h9, ← h8, ← h7]; rfl, HBA.out⟩
      · obtain rfl : k = bs.length := by omega
        have HF3 := Lib.hid (show (if 0 ≤ unreachN (rowsM bs) then (15, unreachN (rowsM bs), 0) else (0, 0, 0)) = (fe, fb, fp) by
          have h2 := HF2.out
          have h1 := HT.out
          rw [List.drop_length] at h1
          rw [← h1, if_neg (show ¬ ((firstE bs.length bs.length []).1 ≠ 0) from fun h => h rfl)] at h2
          exact h2)
        have HXR := Lib.hid (HX.out.keep HB.out)
        have m0 : wr.cell? ⟨w.heap.size, 0, none⟩ = some (.int .i64 params) := HS.out.cell 0
        have m1 : wr.cell? ⟨w.heap.size, 1, none⟩ = some (.slice A bs.length c) := HS.out.cell 1
        go_wp2_with fail
        refine (ways_any wr params A c bs HXR.out hfew).mono ?_
        rintro e' w5 ⟨b5, hb5l, rfl, hg5, hb5⟩
        have HG5 := Lib.hid hg5
        have HB5 := Lib.hid (HB.out.trans (hb5.mono HB.out.size))
        have HS5 := Lib.hid (HS.out.below hb5)
        clear hg5 hb5 m0 m1 hb5l
        have hrl : (rowsM bs).length = bs.length := rowsM_len bs
        rw [hrl]
        rw [hrl] at HG5
        clear hrl
        go_wp2_with fail
        refine (unreached_any w5 _ (rowsM bs) HG5.out HSM.out).mono ?_
        rintro e' w6 ⟨rfl, hb6⟩
        have HG6 := Lib.hid (HG5.out.keep hb6)
        have HB6 := Lib.hid (HB5.out.trans (hb6.mono HB5.out.size))
        have HS6 := Lib.hid (HS5.out.below hb6)
        clear hb6
        obtain ⟨u, hu⟩ : ∃ u, unreachN (rowsM bs) = u := ⟨_, rfl⟩
        have HU := Lib.hid hu
        rw [hu]
        rw [hu] at HF3
        clear hu
        by_cases h0 : 0 ≤ u
        · have HN := Lib.hid (show ((15 : Int), u, (0 : Int)) = (fe, fb, fp) by have h := HF3.out; rw [if_pos h0] at h; exact h)
          go_wp2_with fail
          go_ret3
          have h9 := HN.out
          injection h9 with h9 h8
          injection h8 with h8 h7
          exact ⟨by rw [← h9, ← h8, ← h7]; rfl, HB6.out⟩
        · have HN := Lib.hid (show ((0 : Int), (0 : Int), (0 : Int)) = (fe, fb, fp) by have h := HF3.out; rw [if_neg h0] at h; exact h)
          have h0 : u < 0 := by omega
          go_wp2_with fail
          refine (preds_code w6 _ (rowsM bs) HG6.out HSM.out).mono ?_
          rintro e' w7 ⟨b7, rfl, hg7, hb7⟩
          have htl : (turnN (tidyN (rowsM bs))).length = bs.length := by rw [show (turnN (tidyN (rowsM bs))).length = (tidyN (rowsM bs)).length from turnAll_len _ _, tidyN_len, rowsM_len]
          have hgl : (lii (turnN (tidyN (rowsM bs)))).length = bs.length := by rw [lii_len]; exact htl
          have HG7 := Lib.hid hg7
          have HGL := Lib.hid hgl
          have HB7 := Lib.hid (HB6.out.trans (hb7.mono HB6.out.size))
          have HS7 := Lib.hid (HS6.out.below hb7)
          rw [htl]
          clear hg7 hb7 htl hgl
          go_wp2_with fail
          go_loopw [12, 13, 14, 52] (fun _ _ _ j wr => ∃ k : Nat, k ≤ bs.length ∧ j = .int .i64 k ∧ Below w7.heap.size w7 wr) (fun _ _ _ j _ => bs.length - (intOf j).toNat)
          case atStart => exact ⟨0, Nat.zero_le _, rfl, Below.refl _ _⟩
          case round =>
            obtain ⟨k, hk, rfl, hb⟩ := hrel
            have HBR := Lib.hid hb
            have HBA := Lib.hid (HB7.out.trans (hb.mono HB7.out.size))
            have m1 : wr.cell? ⟨w.heap.size, 1, none⟩ = some (.slice A bs.length c) := (HS7.out.below hb).cell 1
            by_cases hlt : k < bs.length
            · obtain ⟨ur, hur, _, hor⟩ := GridD.at HG7.out k (by rw [HGL.out]; exact hlt)
              have hur := cell_keep hb (Nat.le_refl _) hur
              obtain ⟨rl, hrl⟩ : ∃ rl : Nat, ((lii (turnN (tidyN (rowsM bs))))[k]'(by rw [HGL.out]; exact hlt)).length = rl := ⟨_, rfl⟩
              have hfm := own_form hor
              rw [hrl] at hfm
              obtain ⟨Ar, cr, rfl⟩ := hfm
              obtain ⟨A', c', b, o, e, q1, q2, q3, q4⟩ := HX.out.keep HBA.out
              injection e with e1 _ e3
              subst e1 e3
              have e1 := q3 (by omega)
              subst e1
              obtain ⟨p0, c0, p1, c1, p5, c5, r0, _⟩ := mblock_rows (q4 k hlt)
              have hp0 := HNP.out k hlt
              rw [hp0] at r0
              clear q3 q4 hor hb hp0 hrl
              go_wp2_with fail
              refine (unlike_none wr p0 c0 k Ar rl cr).mono ?_
              rintro e' w8 ⟨rfl, hb8⟩
              have HBN := Lib.hid (HBR.out.trans (hb8.mono HBR.out.size))
              clear hb8 r0 hur m1
              go_wp2_with fail
              exact ⟨⟨k + 1, by omega, by go_num, HBN.out⟩, by simp [intOf]; omega⟩
            · obtain rfl : k = bs.length := by omega
              go_wp2_with fail
              go_ret3
              have h9 := HN.out
              injection h9 with h9 h8
              injection h8 with h8 h7
              exact ⟨by rw [← h9, ← h8, ← h7]; rfl, HBA.out⟩
  · have hz1 : (q != 0) = true := by simp [hz]
    have HN := Lib.hid (show (q, (0 : Int), (0 : Int)) = (fe, fb, fp) by rw [← HF.out]; unfold funcM; rw [if_pos (by rw [HQ.out]; exact hz), HQ.out])
    clear hz
    go_wp2_with fail
    go_ret3
    have h9 := HN.out
    injection h9 with h9 h8
    injection h8 with h8 h7
    exact ⟨by rw [← h9, ← h8, ← h7]; rfl, HB1.out⟩
end Go.Proofs.YtonheiaohgbbcaaGreat.Mc
