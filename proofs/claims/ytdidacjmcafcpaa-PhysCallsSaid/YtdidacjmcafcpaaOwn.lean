/- Rows, and rows of rows, that a call made itself. -/
import Derived.Test.YtdidacjmcafcpaaRows
import Derived.Test.YtdidacjmcafcpaaMem
import Derived.OwnWalk
namespace Go.Proofs.Ytdidacjmcafcpaa.Mem
open Go.RowKit

theorem own_apart {w : World} {B B' : Nat} {e e' : TypeId} {s s' : Nat} {v v' : Value} {n n' : Nat} {xs xs' : List Value} (h : w.ownsRow B e s v n xs) (h' : w.ownsRow B' e' s' v' n' xs') (hne : e ≠ e') :
    v.ownBlock = none ∨ v.ownBlock ≠ v'.ownBlock := by
  rcases h.2 with ⟨rfl, _⟩ | ⟨g, cap, cur, rfl, _, hg, _⟩
  · exact Or.inl rfl
  · right
    rcases h'.2 with ⟨rfl, _⟩ | ⟨g', cap', cur', rfl, _, hg', _⟩
    · simp [Value.ownBlock]
    · simp only [Value.ownBlock]
      intro he
      injection he with he
      change g = g' at he
      subst he
      rw [hg] at hg'
      injection hg' with hg'
      injection hg' with _ ht
      exact hne ht
theorem own_form {w : World} {B : Nat} {e : TypeId} {s : Nat} {v : Value} {n : Nat} {xs : List Value} (h : w.ownsRow B e s v n xs) : ∃ A c, v = .slice A n c := by
  rcases h.2 with ⟨rfl, rfl⟩ | ⟨g, cap, cur, rfl, _⟩
  · exact ⟨_, _, rfl⟩
  · exact ⟨_, _, rfl⟩
theorem own_at {w : World} {B : Nat} {e : TypeId} {s : Nat} {A : Option Addr} {n m c : Nat} {xs : List Value} (h : w.ownsRow B e s (.slice A m c) n xs) (hn : 0 < n) : ∃ g, A = some ⟨g, 0, none⟩ := by
  rcases h.2 with ⟨_, rfl⟩ | ⟨g, cap, cur, hv, _⟩
  · omega
  · injection hv with h1; exact ⟨g, h1⟩
theorem grown_of_below {w w' : World} (hb : Below w.heap.size w w') : w.grownBy w' none := ⟨hb.os, hb.tape, hb.output, hb.size, fun k hk _ => hb.block k hk⟩
theorem own_below {w w' : World} {B : Nat} {e : TypeId} {s : Nat} {v : Value} {n : Nat} {xs : List Value} (h : w.ownsRow B e s v n xs) (hb : Below w.heap.size w w') : w'.ownsRow B e s v n xs :=
  h.kept (grown_of_below hb) (by cases v.ownBlock <;> simp)
theorem own_base {w : World} {B B' : Nat} {e : TypeId} {s : Nat} {v : Value} {n : Nat} {xs : List Value} (h : w.ownsRow B e s v n xs) (hB : B' ≤ B) : w.ownsRow B' e s v n xs := by
  refine ⟨h.1, ?_⟩
  rcases h.2 with h | ⟨g, cap, cur, hv, hg, r⟩
  · exact Or.inl h
  · exact Or.inr ⟨g, cap, cur, hv, Nat.le_trans hB hg, r⟩

/-- A row of numbers of the call's own, from block B on. -/
def OwnInts (B : Nat) (w : World) (v : Value) (l : List Int) : Prop := w.ownsRow B 3 1 v l.length (l.map (Value.int .i64))
/-- Rows of numbers of the call's own. -/
def OwnGrid (B : Nat) (w : World) (o : Value) (g : List (List Int)) : Prop :=
  ∃ vs : List Value, w.ownsRow B 22 1 o g.length vs ∧ ∀ i (h : i < g.length), ∃ u, vs[i]? = some u ∧ OwnInts B w u g[i]
theorem OwnGrid.none_ (B : Nat) (w : World) : OwnGrid B w (.slice none 0 0) [] := ⟨[], World.ownsRow_nil _ _ _ _, fun i h => absurd h (by simp)⟩
theorem OwnGrid.below {B : Nat} {w w' : World} {o : Value} {g : List (List Int)} (h : OwnGrid B w o g) (hb : Below w.heap.size w w') : OwnGrid B w' o g := by
  obtain ⟨vs, h1, h2⟩ := h
  refine ⟨vs, own_below h1 hb, fun i hi => ?_⟩
  obtain ⟨u, e, hu⟩ := h2 i hi
  exact ⟨u, e, own_below hu hb⟩
/-- One row more. -/
theorem OwnGrid.push {B : Nat} {w w1 : World} {o o' u : Value} {g : List (List Int)} {l : List Int} {vs : List Value} (h : ∀ i (h : i < g.length), ∃ u, vs[i]? = some u ∧ OwnInts B w u g[i]) (hvs : w.ownsRow B 22 1 o g.length vs)
    (hu : OwnInts B w u l) (hg : w.grownBy w1 o.ownBlock) (h1 : w1.ownsRow B 22 1 o' (g.length + 1) (vs ++ [u])) : OwnGrid B w1 o' (g ++ [l]) := by
  have hlen : vs.length = g.length := by have := hvs.1; omega
  refine ⟨vs ++ [u], by rw [List.length_append]; exact h1, fun i hi => ?_⟩
  by_cases hi2 : i < g.length
  · obtain ⟨x, e, hx⟩ := h i hi2
    refine ⟨x, by rw [List.getElem?_append_left (by omega)]; exact e, ?_⟩
    rw [List.getElem_append_left hi2]
    exact World.ownsRow.kept hx hg (own_apart hx hvs (by decide))
  · have hi3 : i = g.length := by rw [List.length_append, List.length_singleton] at hi; omega
    subst hi3
    refine ⟨u, by rw [List.getElem?_append_right (by omega), hlen]; simp, ?_⟩
    rw [List.getElem_append_right (Nat.le_refl _)]
    simp only [Nat.sub_self, List.getElem_cons_zero]
    exact World.ownsRow.kept hu hg (own_apart hu hvs (by decide))
theorem OwnInts.ints {B : Nat} {w : World} {v : Value} {l : List Int} (h : OwnInts B w v l) : Ints w v l := by
  rcases h.2 with ⟨rfl, h0⟩ | ⟨g, cap, cur, rfl, _, hg, hn, hm, _⟩
  · have : l = [] := List.length_eq_zero_iff.1 h0
    subst this; exact ints_none w
  · refine ⟨some ⟨g, 0, none⟩, cap, rfl, hn, hm, fun k hk => ⟨_, rfl, ?_⟩⟩
    exact World.ownsRow.cells h (g := g) rfl k _ (by rw [List.getElem?_map, List.getElem?_eq_getElem hk]; rfl)
theorem OwnGrid.grid {B : Nat} {w : World} {o : Value} {g : List (List Int)} (h : OwnGrid B w o g) : Grid w o g := by
  obtain ⟨vs, h1, h2⟩ := h
  rcases h1.2 with ⟨rfl, h0⟩ | ⟨b, cap, cur, rfl, _, hg, hn, hm, _⟩
  · have : g = [] := List.length_eq_zero_iff.1 h0
    subst this; exact rows_none w
  · refine ⟨some ⟨b, 0, none⟩, cap, rfl, hn, hm, fun k hk => ?_⟩
    obtain ⟨u, e, hu⟩ := h2 k hk
    exact ⟨_, u, rfl, World.ownsRow.cells h1 (g := b) rfl k _ e, hu.ints⟩
end Go.Proofs.Ytdidacjmcafcpaa.Mem
