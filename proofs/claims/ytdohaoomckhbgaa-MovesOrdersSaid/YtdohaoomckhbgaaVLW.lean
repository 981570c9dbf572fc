/- Moves: rows that came in, rows that are written. -/
import Derived.Test.YtdohaoomckhbgaaVO2
import Derived.WalkSmall
namespace Go.Proofs.Ytdohaoomckhbgaa.Vm
open Go.ChangeShapes Go.WideShapes Go.ChangeAt Go.RowKit Go.Maps Go.WideElems Go.ChangeMaps Go.Sort Go.Shelf Go.Proofs.Ytdohaoomckhbgaa.Mem Go.Proofs.Ytdohaoomckhbgaa.Br Go.Proofs.Ytdohaoomckhbgaa.Va Go.Proofs.Ytdohaoomckhbgaa.Vr
set_option linter.unusedVariables false
set_option linter.unusedSimpArgs false
/-- An empty literal, as it is laid. -/
theorem empty_ownV (w : World) (t : TypeId) (size : Nat) : (w.alloc (.cells #[] t)).ownsRow w.heap.size t size (.slice (some ⟨w.heap.size, 0, none⟩) 0 0) 0 [] :=
  World.ownsRow_made w #[] 0 (Nat.le_refl _) (Nat.zero_le _) (by simp)
theorem row_ints {w : World} {a : Option Addr} {len cap : Nat} {zs : List Int} (h : (a = none ∧ len = 0 ∧ cap = 0 ∧ zs = []) ∨
    ∃ x, a = some x ∧ len ≤ cap ∧ cap ≤ maxLen ∧ zs.length = cap ∧ (∀ i, i < zs.length → w.cell? (x.add i) = some (.int .i64 (zs.getD i 0))) ∧ ∀ n ∈ zs, (Lit.int .i64 n).wf = true) {k : Nat} (hk : k ≤ len) :
    (zs.take k).length = k ∧ Ints w (.slice a k cap) (zs.take k) := by
  rcases h with ⟨rfl, rfl, rfl, rfl⟩ | ⟨x, rfl, h1, h2, h3, h4, h5⟩
  · have : k = 0 := by omega
    subst this
    exact ⟨rfl, none, 0, rfl, Nat.le_refl _, Nat.zero_le _, fun j hj => by cases hj⟩
  · have hl : (zs.take k).length = k := by rw [List.length_take]; omega
    refine ⟨hl, some x, cap, by rw [hl], by rw [hl]; omega, h2, fun j hj => ⟨x, rfl, ?_⟩⟩
    rw [hl] at hj
    rw [h4 j (by omega), List.getElem_take, List.getD_eq_getElem?_getD, List.getElem?_eq_getElem (by omega)]; rfl
theorem row_wordsV {w : World} {a : Option Addr} {len cap : Nat} {zs : List Int} (h : (a = none ∧ len = 0 ∧ cap = 0 ∧ zs = []) ∨
    ∃ x, a = some x ∧ len ≤ cap ∧ cap ≤ maxLen ∧ zs.length = cap ∧ (∀ i, i < zs.length → w.cell? (x.add i) = some (.int .i32 (zs.getD i 0))) ∧ ∀ n ∈ zs, (Lit.int .i32 n).wf = true) {k : Nat} (hk : k ≤ len) :
    (zs.take k).length = k ∧ len ≤ cap ∧ cap ≤ maxLen ∧ WordsAt w (.slice a k cap) (zs.take k) := by
  rcases h with ⟨rfl, rfl, rfl, rfl⟩ | ⟨x, rfl, h1, h2, h3, h4, h5⟩
  · have : k = 0 := by omega
    subst this
    exact ⟨rfl, Nat.le_refl _, Nat.zero_le _, none, 0, rfl, Nat.le_refl _, Nat.zero_le _, fun j hj => by cases hj⟩
  · have hl : (zs.take k).length = k := by rw [List.length_take]; omega
    refine ⟨hl, h1, h2, some x, cap, by rw [hl], by rw [hl]; omega, h2, fun j hj => ⟨x, rfl, ?_⟩⟩
    rw [hl] at hj
    rw [h4 j (by omega), List.getElem_take, List.getD_eq_getElem?_getD, List.getElem?_eq_getElem (by omega)]; rfl
theorem own_store {B : Nat} {w : World} {g n c k : Nat} {l : List Int} (h : OwnWords B w (.slice (some ⟨g, 0, none⟩) n c) l) (y : Int) : OwnWords B (w.setCell ⟨g, k, none⟩ (.int .i32 y)) (.slice (some ⟨g, 0, none⟩) n c) (l.set k y) ∧ w.grownBy (w.setCell ⟨g, k, none⟩ (.int .i32 y)) (some g) := by
  have e : n = l.length := by
    rcases h.2 with ⟨e, h0⟩ | ⟨g', c', cur, e, _⟩
    · cases e
    · injection e
  subst e
  obtain ⟨s1, s2⟩ := World.ownsRow.stored h k (.int .i32 y)
  refine ⟨?_, s2⟩
  unfold OwnWords
  rw [List.length_set, List.map_set]
  exact s1
theorem OwnWords.cellK {B : Nat} {w : World} {g n c k : Nat} {l : List Int} (h : OwnWords B w (.slice (some ⟨g, 0, none⟩) n c) l) (hk : k < l.length) : w.cell? ⟨g, k, none⟩ = some (.int .i32 l[k]) ∧ w.frozen? ⟨g, k, none⟩ = false := by
  have e : n = l.length := by
    rcases h.2 with ⟨e, h0⟩ | ⟨g', c', cur, e, _⟩
    · cases e
    · injection e
  subst e
  exact ⟨by rw [World.ownsRow.cellAt h k (by omega), List.getElem?_map, List.getElem?_eq_getElem hk]; rfl, World.ownsRow.frozenAt h k⟩
theorem own_at' {B : Nat} {w : World} {A : Option Addr} {n c : Nat} {l : List Int} (h : OwnWords B w (.slice A n c) l) (hl : 0 < l.length) : ∃ g, A = some ⟨g, 0, none⟩ ∧ B ≤ g := by
  rcases h.2 with ⟨e, h0⟩ | ⟨g', c', cur, e, hg, _⟩
  · omega
  · injection e with e; exact ⟨g', e, hg⟩
theorem own_cap {B : Nat} {w : World} {A : Option Addr} {e : TypeId} {sz n m c : Nat} {xs : List Value} (h : w.ownsRow B e sz (.slice A m c) n xs) : n ≤ c ∧ c ≤ maxLen := by
  rcases h.2 with ⟨e, h0⟩ | ⟨g', c', cur, e, hg, _, h1, h2, _⟩
  · injection e with _ _ e; subst e; subst h0; exact ⟨Nat.le_refl _, Nat.zero_le _⟩
  · injection e with _ _ e; subst e; exact ⟨h1, h2⟩
theorem words_keep {w w' : World} {v : Value} {l : List Int} (h : WordsAt w v l) (hb : Below w.heap.size w w') : WordsAt w' v l := by
  obtain ⟨A, c, e, h1, h2, h3⟩ := h
  exact ⟨A, c, e, h1, h2, fun k hk => by obtain ⟨ad, e, hc⟩ := h3 k hk; exact ⟨ad, e, cell_keep hb (Nat.le_refl _) hc⟩⟩
theorem ints_keep {w w' : World} {v : Value} {l : List Int} (h : Ints w v l) (hb : Below w.heap.size w w') : Ints w' v l := by
  obtain ⟨A, c, e, h1, h2, h3⟩ := h
  exact ⟨A, c, e, h1, h2, fun k hk => by obtain ⟨ad, e, hc⟩ := h3 k hk; exact ⟨ad, e, cell_keep hb (Nat.le_refl _) hc⟩⟩
end Go.Proofs.Ytdohaoomckhbgaa.Vm
