/- Stage 7: what mach.Func tells of code at its limits, plainly. -/
import Derived.Test.YtonheiaohgbbcaaGreatMV
namespace Go.Proofs.YtonheiaohgbbcaaGreat.Mc
open Go.ChangeShapes Go.WideShapes Go.ChangeAt Go.RowKit Go.Proofs.YtonheiaohgbbcaaGreat.Mem Go.Proofs.YtonheiaohgbbcaaGreat.Kc Go.Proofs.YtonheiaohgbbcaaGreat.Pl Go.Proofs.YtonheiaohgbbcaaGreat.Mw Go.Proofs.YtonheiaohgbbcaaGreat.Gn Go.Proofs.YtonheiaohgbbcaaGreat.Gc Go.Proofs.YtonheiaohgbbcaaGreat.Gr
set_option linter.unusedVariables false
set_option linter.unusedSimpArgs false
def finE : PEnd := ⟨7, -1, 0, [], 0⟩
def lim0 (d : Int) : PMach := ⟨3, 0, 0, 0, 0, 0, 32767 + d, []⟩
theorem lim0_says {d : Int} (h : -2 ≤ d ∧ d ≤ 2) : (funcM 0 [⟨[], [lim0 d], finE⟩]).1 = (if d ≤ 0 then 0 else 32) ∧ (funcM 0 [⟨[], [lim0 d], finE⟩]).2.1 = 0 := by
  have h' : d = -2 ∨ d = -1 ∨ d = 0 ∨ d = 1 ∨ d = 2 := by omega
  rcases h' with rfl | rfl | rfl | rfl | rfl <;> decide +kernel
def lim1 (d : Int) : PMach := ⟨3, 0, 0, 0, 0, 0, -32768 - d, []⟩
theorem lim1_says {d : Int} (h : -2 ≤ d ∧ d ≤ 2) : (funcM 0 [⟨[], [lim1 d], finE⟩]).1 = (if d ≤ 0 then 0 else 32) ∧ (funcM 0 [⟨[], [lim1 d], finE⟩]).2.1 = 0 := by
  have h' : d = -2 ∨ d = -1 ∨ d = 0 ∨ d = 1 ∨ d = 2 := by omega
  rcases h' with rfl | rfl | rfl | rfl | rfl <;> decide +kernel
def lim2 (d : Int) : PMach := ⟨19, 0, 0, 0, 0, 0, -128 - d, []⟩
theorem lim2_says {d : Int} (h : -2 ≤ d ∧ d ≤ 2) : (funcM 0 [⟨[], [lim2 d], finE⟩]).1 = (if d ≤ 0 then 0 else 32) ∧ (funcM 0 [⟨[], [lim2 d], finE⟩]).2.1 = 0 := by
  have h' : d = -2 ∨ d = -1 ∨ d = 0 ∨ d = 1 ∨ d = 2 := by omega
  rcases h' with rfl | rfl | rfl | rfl | rfl <;> decide +kernel
def lim3 (d : Int) : PMach := ⟨22, 0, 0, 0, 0, 0, 31 + d, []⟩
theorem lim3_says {d : Int} (h : -2 ≤ d ∧ d ≤ 2) : (funcM 0 [⟨[], [lim3 d], finE⟩]).1 = (if d ≤ 0 then 0 else 32) ∧ (funcM 0 [⟨[], [lim3 d], finE⟩]).2.1 = 0 := by
  have h' : d = -2 ∨ d = -1 ∨ d = 0 ∨ d = 1 ∨ d = 2 := by omega
  rcases h' with rfl | rfl | rfl | rfl | rfl <;> decide +kernel
def lim4 (d : Int) : PMach := ⟨26, 0, 0, 0, 0, 0, 255 + d, []⟩
theorem lim4_says {d : Int} (h : -2 ≤ d ∧ d ≤ 2) : (funcM 0 [⟨[], [lim4 d], finE⟩]).1 = (if d ≤ 0 then 0 else 32) ∧ (funcM 0 [⟨[], [lim4 d], finE⟩]).2.1 = 0 := by
  have h' : d = -2 ∨ d = -1 ∨ d = 0 ∨ d = 1 ∨ d = 2 := by omega
  rcases h' with rfl | rfl | rfl | rfl | rfl <;> decide +kernel
def lim5 (d : Int) : PMach := ⟨24, 0, 0, 0, 0, 0, -d, []⟩
theorem lim5_says {d : Int} (h : -2 ≤ d ∧ d ≤ 2) : (funcM 0 [⟨[], [lim5 d], finE⟩]).1 = (if d ≤ 0 then 0 else 32) ∧ (funcM 0 [⟨[], [lim5 d], finE⟩]).2.1 = 0 := by
  have h' : d = -2 ∨ d = -1 ∨ d = 0 ∨ d = 1 ∨ d = 2 := by omega
  rcases h' with rfl | rfl | rfl | rfl | rfl <;> decide +kernel
def lim6 (d : Int) : PMach := ⟨1, 0, 0, 8191 + d, 0, 0, 0, []⟩
theorem lim6_says {d : Int} (h : -2 ≤ d ∧ d ≤ 2) : (funcM 0 [⟨[], [lim6 d], finE⟩]).1 = (if d ≤ 0 then 0 else 31) ∧ (funcM 0 [⟨[], [lim6 d], finE⟩]).2.1 = 0 := by
  have h' : d = -2 ∨ d = -1 ∨ d = 0 ∨ d = 1 ∨ d = 2 := by omega
  rcases h' with rfl | rfl | rfl | rfl | rfl <;> decide +kernel
def lim7 (d : Int) : PMach := ⟨28, 0, 0, 0, 0, 0, 0, List.replicate (4 + d).toNat 0⟩
theorem lim7_says {d : Int} (h : -2 ≤ d ∧ d ≤ 2) : (funcM 0 [⟨[], [lim7 d], finE⟩]).1 = (if d ≤ 0 then 0 else 30) ∧ (funcM 0 [⟨[], [lim7 d], finE⟩]).2.1 = 0 := by
  have h' : d = -2 ∨ d = -1 ∨ d = 0 ∨ d = 1 ∨ d = 2 := by omega
  rcases h' with rfl | rfl | rfl | rfl | rfl <;> decide +kernel
def mov0 : PMach := ⟨1, 0, 0, 0, 0, 0, 0, []⟩
def tabE (n : Nat) : PEnd := ⟨6, 0, 0, List.replicate n 1, 0⟩
def trapE : PEnd := ⟨8, 0, 0, [], 0⟩
theorem lim8_reach {d : Int} (h : -2 ≤ d ∧ d ≤ 2) : reachL (rowsM [⟨[], [mov0], tabE (65 + d).toNat⟩, ⟨[], [], trapE⟩]) = [0, 1] := by
  unfold reachL
  have e : li (orderN (tidyN (rowsM [⟨[], [mov0], tabE (65 + d).toNat⟩, ⟨[], [], trapE⟩]))) = [0, 1] := by
    have h' : d = -2 ∨ d = -1 ∨ d = 0 ∨ d = 1 ∨ d = 2 := by omega
    rcases h' with rfl | rfl | rfl | rfl | rfl <;> decide +kernel
  rw [e]
  exact List.mergeSort_of_pairwise (by decide)
theorem lim8_says {d : Int} (h : -2 ≤ d ∧ d ≤ 2) : (funcM 0 [⟨[], [mov0], tabE (65 + d).toNat⟩, ⟨[], [], trapE⟩]).1 = (if d ≤ 0 then 0 else 30) ∧ (funcM 0 [⟨[], [mov0], tabE (65 + d).toNat⟩, ⟨[], [], trapE⟩]).2.1 = 0 := by
  have e : unreachN (rowsM [⟨[], [mov0], tabE (65 + d).toNat⟩, ⟨[], [], trapE⟩]) = -1 := by
    unfold unreachN
    rw [lim8_reach h]
    rfl
  unfold funcM
  rw [e]
  have h' : d = -2 ∨ d = -1 ∨ d = 0 ∨ d = 1 ∨ d = 2 := by omega
  rcases h' with rfl | rfl | rfl | rfl | rfl <;> decide +kernel
end Go.Proofs.YtonheiaohgbbcaaGreat.Mc
