/- Stage 7: what mach.Do makes of the instructions of law MachWords. -/
import Derived.Test.YtceoiimochojeaaGreatMF
namespace Go.Proofs.YtceoiimochojeaaGreat.Mc
open Go.ChangeShapes Go.WideShapes Go.ChangeAt Go.RowKit Go.Proofs.YtceoiimochojeaaGreat.Mem Go.Proofs.YtceoiimochojeaaGreat.Kc Go.Proofs.YtceoiimochojeaaGreat.Pl Go.Proofs.YtceoiimochojeaaGreat.Wd Go.Proofs.YtceoiimochojeaaGreat.Mw
set_option linter.unusedVariables false
set_option linter.unusedSimpArgs false
def two (op : Int) : PMach := ⟨op, 3, 0, 0, 1, 0, 0, []⟩
def num (op imm : Int) : PMach := ⟨op, 1, 0, 0, 0, 0, imm, []⟩
def mad : PMach := ⟨23, 3, 0, 0, 1, 2, 0, []⟩
def mul : PMach := ⟨29, 3, 4, 0, 1, 0, 0, []⟩
theorem two_fx {op a b c : Int} (h : 5 ≤ op ∧ op ≤ 17) : fxM (two op) [a, b, c, 7] [] = reckF (op - 3) a b [] := by
  have h' : op = 5 ∨ op = 6 ∨ op = 7 ∨ op = 8 ∨ op = 9 ∨ op = 10 ∨ op = 11 ∨ op = 12 ∨ op = 13 ∨ op = 14 ∨ op = 15 ∨ op = 16 ∨ op = 17 := by omega
  rcases h' with rfl | rfl | rfl | rfl | rfl | rfl | rfl | rfl | rfl | rfl | rfl | rfl | rfl <;> rfl
theorem two_ok {op a b c : Int} (h : 5 ≤ op ∧ op ≤ 17) (hd : doB (op - 3) b = true) : fxM (two op) [a, b, c, 7] [] = ⟨doV (op - 3) a b, 0, 0, []⟩ ∧ regsM (two op) [a, b, c, 7] [] = [a, b, c, doV (op - 3) a b] := by
  have e : fxM (two op) [a, b, c, 7] [] = ⟨doV (op - 3) a b, 0, 0, []⟩ := by rw [two_fx h]; exact if_pos hd
  refine ⟨e, ?_⟩
  unfold regsM
  rw [e]
  generalize doV (op - 3) a b = x
  have h' : op = 5 ∨ op = 6 ∨ op = 7 ∨ op = 8 ∨ op = 9 ∨ op = 10 ∨ op = 11 ∨ op = 12 ∨ op = 13 ∨ op = 14 ∨ op = 15 ∨ op = 16 ∨ op = 17 := by omega
  rcases h' with rfl | rfl | rfl | rfl | rfl | rfl | rfl | rfl | rfl | rfl | rfl | rfl | rfl <;> rfl
theorem two_no {op a b c : Int} (h : 5 ≤ op ∧ op ≤ 17) (hd : doB (op - 3) b = false) : fxM (two op) [a, b, c, 7] [] = ⟨0, 0, -1, []⟩ ∧ regsM (two op) [a, b, c, 7] [] = [a, b, c, 7] := by
  have e : fxM (two op) [a, b, c, 7] [] = ⟨0, 0, -1, []⟩ := by rw [two_fx h]; exact if_neg (by rw [hd]; simp)
  refine ⟨e, ?_⟩
  unfold regsM
  rw [e]
  have h' : op = 5 ∨ op = 6 ∨ op = 7 ∨ op = 8 ∨ op = 9 ∨ op = 10 ∨ op = 11 ∨ op = 12 ∨ op = 13 ∨ op = 14 ∨ op = 15 ∨ op = 16 ∨ op = 17 := by omega
  rcases h' with rfl | rfl | rfl | rfl | rfl | rfl | rfl | rfl | rfl | rfl | rfl | rfl | rfl <;> rfl
def plainL : List Int := [2, 5, 8, 9, 10]
theorem num_ok {k : Nat} {a b : Int} (h : k < 5) : fxM (num (18 + k) b) [a, 7] [] = ⟨doV (plainL.getD k 0) a b, 0, 0, []⟩ ∧ regsM (num (18 + k) b) [a, 7] [] = [a, doV (plainL.getD k 0) a b] := by
  have h' : k = 0 ∨ k = 1 ∨ k = 2 ∨ k = 3 ∨ k = 4 := by omega
  rcases h' with rfl | rfl | rfl | rfl | rfl <;> exact ⟨rfl, rfl⟩
theorem mad_ok {a b c : Int} : fxM mad [a, b, c, 7, 8] [] = ⟨wrap32 (wrap32 (a * b) + c), 0, 0, []⟩ ∧ regsM mad [a, b, c, 7, 8] [] = [a, b, c, wrap32 (wrap32 (a * b) + c), 8] := ⟨rfl, rfl⟩
theorem mul_ok {a b c x : Int} : fxM mul [a, b, c, x, 8] [] = ⟨wLow a b, wHigh a b, 0, []⟩ ∧ regsM mul [a, b, c, x, 8] [] = [a, b, c, wLow a b, wHigh a b] := ⟨rfl, rfl⟩
theorem own_cell {B : Nat} {w : World} {g n c : Nat} {l : List Int} (h : OwnWords B w (.slice (some ⟨g, 0, none⟩) n c) l) {k : Nat} {x : Int} (hk : l[k]? = some x) : w.cell? ⟨g, k, none⟩ = some (.int .i32 x) := by
  have hkl : k < l.length := (List.getElem?_eq_some_iff.1 hk).1
  have h2 := World.ownsRow.cells h (g := g) rfl k (.int .i32 x) (by rw [List.getElem?_map, hk]; rfl)
  rw [at_add0] at h2
  exact h2
theorem own_lit {W w' : World} {B : Nat} (l : List Int) (hB : B ≤ W.heap.size) (hl : l.length ≤ 1000) (hw : W.alloc (.cells (l.map (Value.int .i32)).toArray 21) = w') : OwnWords B w' (.slice (some ⟨W.heap.size, 0, none⟩) l.length l.length) l := by
  rw [← hw]
  have h := World.ownsRow_lit (size := 1) (e := 21) (base := B) W (l.map (Value.int .i32)).toArray l.length hB (by unfold maxLen; omega) (by simp)
  simpa [OwnWords] using h
theorem getW {l : List Int} (h : ∀ x ∈ l, InW x) : ∀ r, InW (getP l r) := by
  intro r
  unfold getP
  split
  · rename_i hr
    have hk : r.toNat < l.length := by omega
    rw [List.getD_eq_getElem?_getD, List.getElem?_eq_getElem hk]
    exact h _ (List.getElem_mem hk)
  · unfold InW; omega
end Go.Proofs.YtceoiimochojeaaGreat.Mc
