/- What package graph's Idom answers. -/
import Derived.Test.YtdfehpcbcgbidaaDoms
import Derived.Test.YtdfehpcbcgbidaaTurnP
namespace Go.Proofs.Ytdfehpcbcgbidaa.Gc
open Go.ChangeShapes Go.WideShapes Go.ChangeAt Go.RowKit Go.Shelf Go.Proofs.Ytdfehpcbcgbidaa.Mem Go.Proofs.Ytdfehpcbcgbidaa.Gr Go.Proofs.Ytdfehpcbcgbidaa.Gn Go.Proofs.Ytdfehpcbcgbidaa.Br Go.Proofs.Ytdfehpcbcgbidaa.Rp
set_option linter.unusedVariables false

theorem know_walked {T : G} {s : St} (h : Know T s) : Walked T.length s := by
  refine ⟨h.inv, fun b hb => ?_, fun b hb => ?_, fun i _ => h.low i, h.ups⟩
  · obtain ⟨i, hi, e⟩ := List.mem_iff_getElem.1 hb
    have := (h.came i hi).1
    rw [List.getD_eq_getElem?_getD, List.getElem?_eq_getElem hi, Option.getD_some, e] at this
    exact this
  · rcases h.number b hb with h1 | ⟨i, hi, h1, _⟩
    · exact Or.inl h1
    · exact Or.inr (by rw [h1]; omega)
theorem walk_walked {T : G} (hT : Ok T) : Walked T.length (walkN T) ∧ Rooted (walkN T) := by
  by_cases h0 : 0 < T.length
  · have hd := walkN_dfs hT h0
    exact ⟨know_walked hd.know, fun n h1 h2 => by obtain ⟨q, hq, _⟩ := hd.up n h1 h2; rw [hq]; omega⟩
  · have h1 : T.length = 0 := by omega
    rw [walkN_none h1, h1]
    refine ⟨⟨⟨rfl, rfl, rfl, Nat.le_refl _⟩, fun b hb => (by cases hb), fun b hb => (by omega), fun i hi => ?_, fun i hi => ?_⟩, fun n h2 h3 => ?_⟩
    · simp [St.none] at hi
    · simp [St.none] at hi
    · simp [St.none] at h3
theorem walk_dominators (w w1 : World) (u : Value) (b : Nat) (T : G) (hT : Neat T) (hs : T.length ≤ 1000) (hu : ∃ vc vl vn vp, u = .agg #[vc, vl, vn, vp] ∧ ReadWalk w vc vl vn vp (walkN T)) (hg : Grid w (.slice (some ⟨b, 0, none⟩) T.length T.length) (lii (turnN T))) :
    Calls Try.prog 78 #[u, .slice (some ⟨b, 0, none⟩) T.length T.length] w (MadeRow (idomN T) w) := by
  obtain ⟨vc, vl, vn, vp, rfl, hr⟩ := hu
  obtain ⟨h1, h2⟩ := walk_walked hT.ok
  exact dominators_any w vc vl vn vp _ (walkN T) (turnN T) hr (by rw [turnN_len]; exact h1) h2 hg (turnN_neat hT).ok (turnN_small hT hs)
set_option maxRecDepth 100000 in
theorem idom_code (w : World) (v : Value) (g : List (List Int)) (hg : Grid w v g) (hs : Small g) :
    Calls Try.prog 52 #[v] w (MadeRow (idomN (tidyN g)) w) := by
  have HG := Lib.hid hg
  have HS := Lib.hid hs
  clear hg hs
  go_enter Try.func52, Try.ntmps52
  go_wp2_with fail
  refine (tidy_any _ _ g HG.out HS.out).mono ?_
  rintro e w1 ⟨b1, rfl, hO1, hB1⟩
  have HO1 := Lib.hid hO1
  have HB1 := Lib.hid hB1
  have hg1 := hO1.grid.grid
  rw [lii_len] at hg1
  have HG1 := Lib.hid hg1
  clear hO1 hB1 hg1
  go_wp2_with fail
  refine (walk_any _ _ (tidyN g) HG1.out (tidyN_ok g) (tidyN_small HS.out.1)).mono ?_
  rintro e w2 ⟨u, rfl, hw, hB2⟩
  have HW := Lib.hid hw
  have HB2 := Lib.hid hB2
  clear hw hB2
  go_wp2_with fail
  refine (turned_any _ _ (tidyN g) (HG1.out.keep HB2.out) (tidyN_ok g) (tidyN_small HS.out.1)).mono ?_
  rintro e w3 ⟨b3, rfl, hO3, hB3⟩
  rw [turnN_len]
  have hg3 := hO3.grid.grid
  rw [lii_len, turnN_len] at hg3
  have HG3 := Lib.hid hg3
  have HB3 := Lib.hid hB3
  clear hO3 hB3 hg3
  go_wp2_with fail
  obtain ⟨vc, vl, vn, vp, rfl, hr⟩ := OwnWalk.read HW.out
  refine (walk_dominators w3 w2 _ b3 (tidyN g) (tidyN_neat g) (by rw [tidyN_len]; exact HS.out.1) ⟨vc, vl, vn, vp, rfl, hr.keep HB3.out⟩ HG3.out).mono ?_
  rintro e w4 ⟨v4, rfl, ho4, hB4⟩
  have h1 := HB1.out.size
  have h2 := HB2.out.size
  have h3 := HB3.out.size
  have HO4 := Lib.hid (own_base ho4 (show w.heap.size ≤ w3.heap.size by omega))
  have HB4 := Lib.hid (((HB1.out.trans (HB2.out.mono h1)).trans (HB3.out.mono (by omega))).trans (hB4.mono (by omega)))
  clear ho4 hB4
  go_wp2
  go_ret
  exact ⟨_, rfl, HO4.out, HB4.out⟩
end Go.Proofs.Ytdfehpcbcgbidaa.Gc
