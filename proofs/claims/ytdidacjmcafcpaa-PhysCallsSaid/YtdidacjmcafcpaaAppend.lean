/- One element is appended to a row of the call's own: which block the row has then. -/
import Derived.Test.YtdidacjmcafcpaaOwn
import Derived.Lib.Hide
namespace Go.Proofs.Ytdidacjmcafcpaa.Mem
open Go.RowKit

/-- The row is where it was, or in a block that was not there. -/
def Moved (w : World) (v v' : Value) : Prop := (v.ownBlock ≠ none ∧ v'.ownBlock = v.ownBlock) ∨ ∃ g, v'.ownBlock = some g ∧ w.heap.size ≤ g
theorem run_append1 {P : Program} (w : World) (base : Nat) (t ty e : TypeId) (i : TypeInfo) (z : Value) (bytes : Nat) (ht : P.underlying t = some (.slice e)) (hi : P.info? e = some i) (hz : i.zero = some z)
    (hsize : i.size = 1) (hby : i.bytes = bytes) (hzs : z.cells.size = 1) (v : Value) (n : Nat) (xs : List Value) (hown : w.ownsRow base e 1 v n xs) (ad : Addr) (u : Value) (hc : w.cell? ad = some u) (h1 : u.oneCell' = true)
    (hn : n ≤ 1000000) (hb : bytes ≤ 1000) (hbase : base ≤ w.heap.size) :
    ∃ v' w', (Builtin.append_ #[t, t] ty #[v, .slice (some ad) 1 1]).run P w = .ok v' w' ∧ w'.ownsRow base e 1 v' (n + 1) (xs ++ [u]) ∧ w.grownBy w' v.ownBlock ∧ Moved w v v' := by
  have hnews : ∀ j x, [u][j]? = some x → w.cell? (ad.add j) = some x := by
    intro j x hj
    match j, hj with
    | 0, hj => simp at hj; subst hj; rw [show ad.add 0 = ad from by simp [Addr.add]]; exact hc
  have h1' : ∀ x ∈ [u], x.oneCell' = true := by intro x hx; rw [List.mem_singleton] at hx; subst hx; exact h1
  have hbb : (n + 1) * bytes ≤ 1000001 * 1000 := Nat.mul_le_mul (by omega) hb
  have hml : n + 1 ≤ maxLen := by unfold maxLen; omega
  obtain ⟨v', w', hr, h2, h3, _⟩ := run_append_own (P := P) w base t ty e i z 1 bytes ht hi hz hsize hby hzs (by decide) v n xs hown ad 1 1 [u] rfl hnews h1' hml (by omega) hbase
  refine ⟨v', w', hr, h2, h3, ?_⟩
  rcases hown.2 with ⟨rfl, rfl⟩ | ⟨g, cap, cur, rfl, hbg, hg, hnc, hcm, hcs, htake⟩
  · have hr2 := run_append_nil (P := P) w t ty e i z ht hi hz ad 1 1 [u] (by rw [hsize]; rfl) hnews (by omega) (by omega) (by rw [hby]; omega)
    rw [hr] at hr2
    injection hr2 with hv hw
    exact Or.inr ⟨_, by rw [hv]; rfl, Nat.le_refl _⟩
  · by_cases hroom : n + 1 ≤ cap
    · have hr2 := run_append_room (P := P) w t ty e i ht hi g n cap cur hg ad 1 1 [u] (by rw [hsize]; rfl) hnews h1' hroom (by rw [hsize, hcs]; simp; omega)
      rw [hr] at hr2
      injection hr2 with hv hw
      exact Or.inl ⟨by simp [Value.ownBlock], by rw [hv]; rfl⟩
    · have hr2 := run_append_grow (P := P) w t ty e i z ht hi hz ⟨g, 0, none⟩ n cap xs (by rw [hsize]; exact hown.1) (hown.cells (g := g) rfl) ad 1 1 [u] (by rw [hsize]; rfl) hnews (by omega) (by unfold maxLen at hml; omega)
        (by rw [hby]; exact growslice_fits (by omega) (by omega))
      rw [hr] at hr2
      injection hr2 with hv hw
      exact Or.inr ⟨_, by rw [hv]; rfl, Nat.le_refl _⟩
theorem wpList_append1 {P : Program} {w : World} {ops : Array Oper} {rest : List Oper} {o : Oper} {a : Act} {Q : Exit → Act → World → Prop} (hgd : o.guard = none) (s x : Operand) (t : TypeId)
    (ho : o.op = .call { callee := .builtin .append, args := #[s, x], argTypes := #[t, t] }) (base : Nat) (e : TypeId) (i : TypeInfo) (z : Value) (bytes : Nat) (ht : P.underlying t = some (.slice e)) (hi : P.info? e = some i) (hz : i.zero = some z)
    (hsize : i.size = 1) (hby : i.bytes = bytes) (hzs : z.cells.size = 1) (v : Value) (n : Nat) (xs : List Value) (hs : a.eval s = v) (hown : w.ownsRow base e 1 v n xs) (ad : Addr) (u : Value) (hx : a.eval x = .slice (some ad) 1 1)
    (hc : w.cell? ad = some u) (h1 : u.oneCell' = true) (hn : n ≤ 1000000) (hb : bytes ≤ 1000) (hbase : base ≤ w.heap.size)
    (h : ∀ v' w', w'.ownsRow base e 1 v' (n + 1) (xs ++ [u]) → w.grownBy w' v.ownBlock → Moved w v v' → wpList P ops Q rest (a.put o.dst v') w') : wpList P ops Q (o :: rest) a w := by
  refine wpList_plain hgd fun K hK => ?_
  obtain ⟨v', w', hr, h2, h3, h4⟩ := run_append1 (P := P) w base t o.type e i z bytes ht hi hz hsize hby hzs v n xs hown ad u hc h1 hn hb hbase
  unfold Oper.wp execOp
  simp only [ho, resolve, invoke, builtin, Sem.run_bind, Sem.run_pure, Result.andThen_ok, List.map_toArray, List.map_cons, List.map_nil, hs, hx, hr]
  exact hK _ _ (h v' w' h2 h3 h4)

/-- Rows of numbers, each in a block of its own: as cells of the outer row. -/
def RowsD (B : Nat) (w : World) (vs : List Value) (R : List (List Int)) : Prop :=
  vs.length = R.length ∧ (∀ i (h : i < R.length), ∃ u, vs[i]? = some u ∧ OwnInts B w u R[i]) ∧
  ∀ (i j : Nat) (u v : Value), i ≠ j → vs[i]? = some u → vs[j]? = some v → u.ownBlock = none ∨ u.ownBlock ≠ v.ownBlock
/-- The outer row lies at the head of block b. -/
def GridD (B b : Nat) (w : World) (R : List (List Int)) : Prop :=
  ∃ vs, w.ownsRow B 22 1 (.slice (some ⟨b, 0, none⟩) R.length R.length) R.length vs ∧ RowsD B w vs R
theorem GridD.at {B b : Nat} {w : World} {R : List (List Int)} (h : GridD B b w R) (i : Nat) (hi : i < R.length) :
    ∃ u, w.cell? ⟨b, i, none⟩ = some u ∧ w.frozen? ⟨b, i, none⟩ = false ∧ OwnInts B w u R[i] := by
  obtain ⟨vs, h1, h2, h3, h4⟩ := h
  obtain ⟨u, e, hu⟩ := h3 i hi
  exact ⟨u, by rw [World.ownsRow.cellAt h1 i (by omega)]; exact e, World.ownsRow.frozenAt h1 i, hu⟩
theorem GridD.below {B b : Nat} {w w' : World} {R : List (List Int)} (h : GridD B b w R) (hb : Below w.heap.size w w') : GridD B b w' R := by
  obtain ⟨vs, h1, h2, h3, h4⟩ := h
  refine ⟨vs, own_below h1 hb, h2, fun i hi => ?_, h4⟩
  obtain ⟨u, e, hu⟩ := h3 i hi
  exact ⟨u, e, own_below hu hb⟩
theorem GridD.drew {B b : Nat} {w : World} {R : List (List Int)} (h : GridD B b w R) : GridD B b w.drew R := h
theorem GridD.grid {B b : Nat} {w : World} {R : List (List Int)} (h : GridD B b w R) : OwnGrid B w (.slice (some ⟨b, 0, none⟩) R.length R.length) R := by
  obtain ⟨vs, h1, h2, h3, h4⟩ := h
  exact ⟨vs, h1, h3⟩
theorem GridD.lt {B b : Nat} {w : World} {R : List (List Int)} (h : GridD B b w R) : B ≤ b ∧ b < w.heap.size := by
  obtain ⟨vs, h1, _⟩ := h
  exact h1.lt b rfl
theorem GridD.alloc {B b : Nat} {w : World} {R : List (List Int)} (h : GridD B b w R) (o : Obj) : GridD B b (w.alloc o) R := h.below ((Below.refl _ _).alloc (Nat.le_refl _) _)
/-- The outer row's cells, behind a turn of one of its rows. -/
theorem GridD.still {B b : Nat} {w w1 : World} {R : List (List Int)} (h : GridD B b w R) {i : Nat} (hi : i < R.length) {u : Value} (hc : w.cell? ⟨b, i, none⟩ = some u) (hg : w.grownBy w1 u.ownBlock) :
    w1.cell? ⟨b, i, none⟩ = some u ∧ w1.frozen? ⟨b, i, none⟩ = false := by
  obtain ⟨vs, h1, h2, h3, h4⟩ := h
  have hvi : vs[i]? = some u := by rw [← World.ownsRow.cellAt h1 i (by omega)]; exact hc
  obtain ⟨u0, e0, hu0⟩ := h3 i hi
  rw [hvi] at e0; injection e0 with e0; subst e0
  have h5 := World.ownsRow.kept h1 hg (own_apart h1 hu0 (by decide))
  exact ⟨by rw [World.ownsRow.cellAt h5 i (by omega)]; exact hvi, World.ownsRow.frozenAt h5 i⟩
/-- One row has turned in its place. -/
theorem GridD.turned {B b : Nat} {w w1 : World} {R : List (List Int)} (h : GridD B b w R) {i : Nat} (hi : i < R.length) {u : Value} (hc : w.cell? ⟨b, i, none⟩ = some u) {l : List Int} (hg : w.grownBy w1 u.ownBlock) (hu : OwnInts B w1 u l) :
    GridD B b w1 (R.set i l) := by
  obtain ⟨vs, h1, h2, h3, h4⟩ := h
  have hvi : vs[i]? = some u := by rw [← World.ownsRow.cellAt h1 i (by omega)]; exact hc
  obtain ⟨u0, e0, hu0⟩ := h3 i hi
  rw [hvi] at e0; injection e0 with e0; subst e0
  refine ⟨vs, ?_, by rw [List.length_set]; exact h2, fun k hk => ?_, h4⟩
  · rw [List.length_set]
    exact World.ownsRow.kept h1 hg (own_apart h1 hu0 (by decide))
  · rw [List.length_set] at hk
    rw [List.getElem_set]
    split
    · rename_i e; subst e; exact ⟨u, hvi, hu⟩
    · rename_i e
      obtain ⟨x, ex, hx⟩ := h3 k hk
      exact ⟨x, ex, World.ownsRow.kept hx hg (h4 k i x u (fun e' => e e'.symm) ex hvi)⟩
/-- One row has turned, perhaps into another block, and is stored. -/
theorem GridD.store {B b : Nat} {w w1 : World} {R : List (List Int)} (h : GridD B b w R) {i : Nat} (hi : i < R.length) {u u' : Value} (hc : w.cell? ⟨b, i, none⟩ = some u) {l : List Int} (hg : w.grownBy w1 u.ownBlock) (hu : OwnInts B w1 u' l)
    (hm : u'.ownBlock = u.ownBlock ∨ ∃ g, u'.ownBlock = some g ∧ w.heap.size ≤ g) : GridD B b (w1.setCell ⟨b, i, none⟩ u') (R.set i l) := by
  obtain ⟨vs, h1, h2, h3, h4⟩ := h
  have hvi : vs[i]? = some u := by rw [← World.ownsRow.cellAt h1 i (by omega)]; exact hc
  obtain ⟨u0, e0, hu0⟩ := h3 i hi
  rw [hvi] at e0; injection e0 with e0; subst e0
  have h1' := World.ownsRow.kept h1 hg (own_apart h1 hu0 (by decide))
  obtain ⟨h5, h6⟩ := World.ownsRow.stored h1' i u'
  have hne : ∀ {x : Value} {l : List Int}, OwnInts B w1 x l → OwnInts B (w1.setCell ⟨b, i, none⟩ u') x l := fun hx => World.ownsRow.kept hx h6 (own_apart hx h1' (by decide))
  have hap : ∀ k x, k ≠ i → vs[k]? = some x → (x.ownBlock = none ∨ x.ownBlock ≠ u'.ownBlock) ∧ (u'.ownBlock = none ∨ u'.ownBlock ≠ x.ownBlock) := by
    intro k x hk ex
    rcases hm with hm | ⟨g, hm, hge⟩
    · rw [hm]; exact ⟨h4 k i x u hk ex hvi, h4 i k u x (fun e => hk e.symm) hvi ex⟩
    · have hkl : k < R.length := by have := (List.getElem?_eq_some_iff.1 ex).1; omega
      obtain ⟨x0, e0, hx⟩ := h3 k hkl
      rw [ex] at e0; injection e0 with e0; subst e0
      have hlt := hx.lt
      rw [hm]
      constructor
      · right; intro e; have := (hlt g e).2; omega
      · right; intro e; have := (hlt g e.symm).2; omega
  refine ⟨vs.set i u', by rw [List.length_set]; exact h5, by rw [List.length_set, List.length_set]; exact h2, fun k hk => ?_, fun k j x y hkj ex ey => ?_⟩
  · rw [List.length_set] at hk
    rw [List.getElem_set, List.getElem?_set]
    split
    · rename_i e; subst e; exact ⟨u', by rw [if_pos (by omega)], hne hu⟩
    · rename_i e
      obtain ⟨x, ex, hx⟩ := h3 k hk
      exact ⟨x, ex, hne (World.ownsRow.kept hx hg (h4 k i x u (fun e' => e e'.symm) ex hvi))⟩
  · rw [List.getElem?_set] at ex ey
    by_cases e1 : i = k
    · rw [if_pos e1, if_pos (by omega)] at ex; injection ex with ex; subst ex
      rw [if_neg (by omega)] at ey
      exact (hap j y (by omega) ey).2
    · rw [if_neg e1] at ex
      by_cases e2 : i = j
      · rw [if_pos e2, if_pos (by omega)] at ey; injection ey with ey; subst ey
        exact (hap k x (by omega) ex).1
      · rw [if_neg e2] at ey
        exact h4 k j x y hkj ex ey
/-- Empty rows, as make lays them. -/
theorem GridD.made {B b n : Nat} {w : World} (h : w.ownsRow B 22 1 (.slice (some ⟨b, 0, none⟩) n n) n (List.replicate n (.slice none 0 0))) : GridD B b w (List.replicate n []) := by
  refine ⟨List.replicate n (.slice none 0 0), by rw [List.length_replicate]; exact h, by simp, fun i hi => ?_, fun i j u v _ hu _ => ?_⟩
  · rw [List.length_replicate] at hi
    refine ⟨.slice none 0 0, by rw [List.getElem?_replicate, if_pos hi], ?_⟩
    rw [List.getElem_replicate]; exact World.ownsRow_nil _ _ _ _
  · left
    rw [List.getElem?_replicate] at hu
    split at hu
    · injection hu with hu; subst hu; rfl
    · cases hu
theorem Moved.or {w : World} {v v' : Value} (h : Moved w v v') {w0 : World} (hw : w0.heap.size ≤ w.heap.size) : v'.ownBlock = v.ownBlock ∨ ∃ g, v'.ownBlock = some g ∧ w0.heap.size ≤ g := by
  rcases h with ⟨_, h⟩ | ⟨g, h, hg⟩
  · exact Or.inl h
  · exact Or.inr ⟨g, h, by omega⟩
end Go.Proofs.Ytdidacjmcafcpaa.Mem
