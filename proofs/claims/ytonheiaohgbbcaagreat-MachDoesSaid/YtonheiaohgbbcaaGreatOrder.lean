/- What package graph's Preds, Order and Dominates answer. -/
import Derived.Test.YtonheiaohgbbcaaGreatWalk
import Derived.Test.YtonheiaohgbbcaaGreatTurned
namespace Go.Proofs.YtonheiaohgbbcaaGreat.Gc
open Go.ChangeShapes Go.WideShapes Go.ChangeAt Go.RowKit Go.Proofs.YtonheiaohgbbcaaGreat.Mem Go.Proofs.YtonheiaohgbbcaaGreat.Gr Go.Proofs.YtonheiaohgbbcaaGreat.Gn Go.Proofs.YtonheiaohgbbcaaGreat.Rp
set_option linter.unusedVariables false

theorem tidyN_get {g : List (List Int)} {a : Nat} (h : a < g.length) : (tidyN g)[a]? = some ((List.range g.length).filter fun b : Nat => (g.getD a []).contains (b : Int)) := by
  unfold tidyN
  rw [List.getElem?_map, List.getElem?_range h]; rfl
theorem tidyN_ok (g : List (List Int)) : Ok (tidyN g) := by
  intro i h b hb
  have h1 : i < g.length := by rw [tidyN_len] at h; exact h
  rw [at_of (tidyN_get h1) h, List.mem_filter, List.mem_range] at hb
  rw [tidyN_len]; exact hb.1
theorem tidyN_small {g : List (List Int)} (hs : g.length ≤ 1000) : Small (lii (tidyN g)) := by
  refine ⟨by rw [lii_len, tidyN_len]; exact hs, fun i h => ?_⟩
  have h1 : i < (tidyN g).length := by rw [lii_len] at h; exact h
  have h2 : i < g.length := by rw [tidyN_len] at h1; exact h1
  rw [lii_at h1 h, li_len, at_of (tidyN_get h2) h1]
  exact Nat.le_trans (List.length_filter_le _ _) (by rw [List.length_range]; exact hs)
set_option maxRecDepth 100000 in
theorem preds_code (w : World) (v : Value) (g : List (List Int)) (hg : Grid w v g) (hs : Small g) :
    Calls Tryz.prog 65 #[v] w (MadeGraph (turnN (tidyN g)) w) := by
  have HG := Lib.hid hg
  have HS := Lib.hid hs
  clear hg hs
  go_enter Tryz.func65, Tryz.ntmps65
  go_wp2_with fail
  refine (tidy_any _ _ g HG.out HS.out).mono ?_
  rintro e w1 ⟨b1, rfl, hO1, hB1⟩
  have HO1 := Lib.hid hO1
  have HB1 := Lib.hid hB1
  clear hO1 hB1
  go_wp2_with fail
  refine (turned_any _ _ (tidyN g) (by have := HO1.out.grid.grid; rw [lii_len] at this; exact this) (tidyN_ok g) (tidyN_small HS.out.1)).mono ?_
  rintro e w2 ⟨b2, rfl, hO2, hB2⟩
  have HO2 := Lib.hid hO2
  have HB2 := Lib.hid hB2
  clear hO2 hB2
  go_wp2
  go_ret
  have hle := HB1.out.size
  refine ⟨b2, rfl, ?_, HB1.out.trans (HB2.out.mono hle)⟩
  obtain ⟨vs, h1, h2, h3, h4⟩ := HO2.out
  exact ⟨vs, own_base h1 hle, h2, fun i hi => (h3 i hi).elim fun u h => ⟨u, h.1, own_base h.2 hle⟩, h4⟩
/-- A row of numbers of the call's own. -/
def MadeRow (l : List Int) (w : World) (e : Ending) (w' : World) : Prop := ∃ v, e = .returned v ∧ OwnInts w.heap.size w' v l ∧ Below w.heap.size w w'
set_option maxRecDepth 100000 in
theorem order_code (w : World) (v : Value) (g : List (List Int)) (hg : Grid w v g) (hs : Small g) :
    Calls Tryz.prog 93 #[v] w (MadeRow (li (orderN (tidyN g))) w) := by
  have HG := Lib.hid hg
  have HS := Lib.hid hs
  clear hg hs
  go_enter Tryz.func93, Tryz.ntmps93
  go_wp2_with fail
  refine (tidy_any _ _ g HG.out HS.out).mono ?_
  rintro e w1 ⟨b1, rfl, hO1, hB1⟩
  have HO1 := Lib.hid hO1
  have HB1 := Lib.hid hB1
  clear hO1 hB1
  go_wp2_with fail
  refine (walk_any _ _ (tidyN g) (by have := HO1.out.grid.grid; rw [lii_len] at this; exact this) (tidyN_ok g) (tidyN_small HS.out.1)).mono ?_
  rintro e w2 ⟨u, rfl, ⟨vc, vl, vn, vp, rfl, hr⟩, hB2⟩
  have hI := walk_inv (tidyN_ok g)
  have hl := hr.at (i := 1) rfl rfl
  obtain ⟨Al, cl, rfl⟩ := hl.form
  have HL := Lib.hid hl
  have HB2 := Lib.hid hB2
  have hsz : (li (walkN (tidyN g)).left).length ≤ 1000000 := by rw [li_len]; have := hI.left; have := hI.came; have := tidyN_len g; have := HS.out.1; omega
  have hfd : ∀ W : World, (Instr.field 167 (.agg #[vc, .slice Al (li (walkN (tidyN g)).left).length cl, vn, vp]) 1).run Tryz.prog W = .ok (.slice Al (li (walkN (tidyN g)).left).length cl) W := fun _ => by kernel_rfl
  clear hl hr hB2 hI
  go_wp2_with fail
  refine (reverse_own _ _ _ _ HL.out hsz).mono ?_
  rintro e w3 ⟨rfl, ho, hgr⟩
  have HO3 := Lib.hid ho
  have hle := HB1.out.size
  have hle2 := HB2.out.size
  have HB3 := Lib.hid (((HB1.out.trans (HB2.out.mono hle))).grown hgr (by omega) (fun k hk => by have := (HL.out.lt k hk).1; omega))
  clear ho hgr
  go_wp2
  go_ret
  refine ⟨_, rfl, ?_, HB3.out⟩
  have h := own_base HO3.out hle
  unfold orderN
  unfold OwnInts
  rw [show li (walkN (tidyN g)).left.reverse = (li (walkN (tidyN g)).left).reverse from by unfold li; rw [List.map_reverse]]
  exact h
end Go.Proofs.YtonheiaohgbbcaaGreat.Gc
