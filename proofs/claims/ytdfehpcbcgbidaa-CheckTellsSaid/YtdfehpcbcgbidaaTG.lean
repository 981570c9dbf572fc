/- A function parameter opened; rows of structs that a call lays itself. -/
import Derived.Test.YtdfehpcbcgbidaaHeld
import Derived.Test.YtdfehpcbcgbidaaFn
import Derived.Test.YtdfehpcbcgbidaaStruct
import Derived.Test.YtdfehpcbcgbidaaInfo
import Derived.WalkKit
import Derived.ProofKit
import Derived.OpenShut
import Derived.Deep.SlicePairs
/- Rows of structs that a call lays itself, with what hangs on their cells. -/
namespace Go.Proofs.Ytdfehpcbcgbidaa.Kc
open Go.ChangeShapes Go.WideShapes Go.ChangeAt Go.RowKit Go.Maps Go.Proofs.Ytdfehpcbcgbidaa.Mem Go.Proofs.Ytdfehpcbcgbidaa.Br Go.Proofs.Ytdfehpcbcgbidaa.Gr
set_option linter.unusedVariables false
section
variable {α : Type}
/-- The slice v is a row of the call's own, whose elements' cells are such as R says. -/
def RowsOwn (B : Nat) (w : World) (e : TypeId) (size : Nat) (R : World → List Value → α → Prop) (v : Value) (l : List α) : Prop :=
  ∃ cs : List (List Value), cs.length = l.length ∧ w.ownsRow B e size v l.length cs.flatten ∧ ∀ i (h : i < l.length), ∃ c, cs[i]? = some c ∧ c.length = size ∧ R w c l[i]
theorem RowsOwn.nil (B : Nat) (w : World) (e : TypeId) (size : Nat) (R : World → List Value → α → Prop) : RowsOwn B w e size R (.slice none 0 0) [] :=
  ⟨[], rfl, World.ownsRow_nil _ _ _ _, fun i h => absurd h (by simp)⟩
theorem RowsOwn.kept {B : Nat} {w w' : World} {e : TypeId} {size : Nat} {R R' : World → List Value → α → Prop} {v : Value} {l : List α} {row : Option Nat} (h : RowsOwn B w e size R v l) (hg : w.grownBy w' row)
    (hv : v.ownBlock = none ∨ v.ownBlock ≠ row) (hR : ∀ c x, R w c x → R' w' c x) : RowsOwn B w' e size R' v l := by
  obtain ⟨cs, h1, h2, h3⟩ := h
  refine ⟨cs, h1, World.ownsRow.kept h2 hg hv, fun i hi => ?_⟩
  obtain ⟨c, a, b, d⟩ := h3 i hi
  exact ⟨c, a, b, hR _ _ d⟩
theorem RowsOwn.below {B : Nat} {w w' : World} {e : TypeId} {size : Nat} {R R' : World → List Value → α → Prop} {v : Value} {l : List α} (h : RowsOwn B w e size R v l) (hb : Below w.heap.size w w') (hR : ∀ c x, R w c x → R' w' c x) : RowsOwn B w' e size R' v l := by
  obtain ⟨cs, h1, h2, h3⟩ := h
  refine ⟨cs, h1, own_below h2 hb, fun i hi => ?_⟩
  obtain ⟨c, a, b, d⟩ := h3 i hi
  exact ⟨c, a, b, hR _ _ d⟩
theorem RowsOwn.base {B B' : Nat} {w : World} {e : TypeId} {size : Nat} {R R' : World → List Value → α → Prop} {v : Value} {l : List α} (h : RowsOwn B w e size R v l) (hB : B' ≤ B) (hR : ∀ c x, R w c x → R' w c x) : RowsOwn B' w e size R' v l := by
  obtain ⟨cs, h1, h2, h3⟩ := h
  refine ⟨cs, h1, own_base h2 hB, fun i hi => ?_⟩
  obtain ⟨c, a, b, d⟩ := h3 i hi
  exact ⟨c, a, b, hR _ _ d⟩
theorem RowsOwn.pushed {B : Nat} {w w' : World} {e : TypeId} {size : Nat} {R R' : World → List Value → α → Prop} {v' : Value} {l : List α} {x : α} {cs : List (List Value)} {c : List Value} (h1 : cs.length = l.length)
    (h3 : ∀ i (h : i < l.length), ∃ c, cs[i]? = some c ∧ c.length = size ∧ R w c l[i]) (hR : ∀ c x, R w c x → R' w' c x) (hr : w'.ownsRow B e size v' (l.length + 1) (cs.flatten ++ c)) (hc : c.length = size) (hx : R' w' c x) :
    RowsOwn B w' e size R' v' (l ++ [x]) := by
  refine ⟨cs ++ [c], by simp [h1], ?_, fun i hi => ?_⟩
  · rw [List.length_append, List.flatten_append]
    simpa using hr
  · rcases Nat.lt_or_ge i l.length with h | h
    · obtain ⟨d, a1, a2, a3⟩ := h3 i h
      rw [List.getElem_append_left h, List.getElem?_append_left (by omega)]
      exact ⟨d, a1, a2, hR _ _ a3⟩
    · rw [List.length_append] at hi
      have : i = l.length := by simp at hi; omega
      subst this
      rw [List.getElem_append_right (Nat.le_refl _), List.getElem?_append_right (by omega)]
      refine ⟨c, by simp [h1], hc, ?_⟩
      simpa using hx
theorem flat_at {size : Nat} : ∀ {cs : List (List Value)} {i j : Nat} {c : List Value}, (∀ d ∈ cs, d.length = size) → cs[i]? = some c → j < size → cs.flatten[i * size + j]? = c[j]?
  | [], i, j, c, _, h, _ => by simp at h
  | d :: cs, 0, j, c, hl, h, hj => by
    rw [List.getElem?_cons_zero] at h
    injection h with h
    subst h
    rw [List.flatten_cons, List.getElem?_append_left (by rw [hl d (List.mem_cons_self ..)]; omega), Nat.zero_mul, Nat.zero_add]
  | d :: cs, i + 1, j, c, hl, h, hj => by
    rw [List.getElem?_cons_succ] at h
    have hd := hl d (List.mem_cons_self ..)
    have e : (i + 1) * size = size + i * size := by rw [Nat.add_mul, Nat.one_mul, Nat.add_comm]
    rw [List.flatten_cons, List.getElem?_append_right (by rw [hd]; omega), hd, show (i + 1) * size + j - size = i * size + j by omega]
    exact flat_at (fun x hx => hl x (List.mem_cons_of_mem _ hx)) h hj
theorem RowsOwn.row {B : Nat} {w : World} {e : TypeId} {size : Nat} {R : World → List Value → α → Prop} {R' : World → Nat → Nat → α → Prop} {v : Value} {l : List α} (h : RowsOwn B w e size R v l)
    (hR : ∀ c x b o, c.length = size → (∀ j u, c[j]? = some u → w.cell? ⟨b, o + j, none⟩ = some u) → R w c x → R' w b o x) : RowAt w size R' v l ∧ ∃ A c, v = .slice A l.length c ∧ (0 < l.length → ∃ g, A = some ⟨g, 0, none⟩) := by
  obtain ⟨cs, h1, h2, h3⟩ := h
  have hall : ∀ d ∈ cs, d.length = size := by
    intro d hd
    obtain ⟨i, hi, e⟩ := List.mem_iff_getElem.1 hd
    obtain ⟨c, a, b, _⟩ := h3 i (by omega)
    rw [List.getElem?_eq_getElem hi] at a
    injection a with a
    rw [← e, a]; exact b
  rcases h2.2 with ⟨rfl, h0⟩ | ⟨g, cap, cur, rfl, hbg, hg, hnc, hcm, hcs, htake⟩
  · refine ⟨⟨none, 0, 0, 0, by rw [h0], by omega, by unfold maxLen; omega, fun h => by omega, fun k hk => by omega⟩, none, 0, by rw [h0], fun h => by omega⟩
  · refine ⟨⟨some ⟨g, 0, none⟩, cap, g, 0, rfl, hnc, hcm, fun _ => rfl, fun k hk => ?_⟩, _, _, rfl, fun _ => ⟨g, rfl⟩⟩
    obtain ⟨c, a, b, d⟩ := h3 k hk
    refine hR c _ g _ b (fun j u hj => ?_) d
    have hjs : j < size := by have := (List.getElem?_eq_some_iff.1 hj).1; omega
    have hlt : k * size + j < l.length * size := by
      have := Nat.mul_le_mul_right size (show k + 1 ≤ l.length from hk)
      rw [Nat.add_mul, Nat.one_mul] at this
      omega
    rw [Nat.zero_add, World.ownsRow.cellAt h2 _ hlt, flat_at hall a hjs]
    exact hj
theorem RowsOwn.form {B : Nat} {w : World} {e : TypeId} {size : Nat} {R : World → List Value → α → Prop} {v : Value} {l : List α} (h : RowsOwn B w e size R v l) : ∃ A c, v = .slice A l.length c := by
  obtain ⟨cs, h1, h2, h3⟩ := h
  exact own_form h2
end
/-- A copy behind an empty row of the call's own. -/
theorem run_copy0 {P : Program} (w : World) (B : Nat) (t e : TypeId) (i : TypeInfo) (z : Value) (size bytes : Nat) (ht : P.underlying t = some (.slice e)) (hi : P.info? e = some i) (hz : i.zero = some z) (hsize : i.size = size) (hby : i.bytes = bytes)
    (hzs : z.cells.size = size) (hsz : 0 < size) (v0 : Value) (h0 : w.ownsRow B e size v0 0 []) (A : Option Addr) (m c : Nat) (news : List Value) (hl : news.length = m * size) (hA : 0 < m → ∃ ad, A = some ad ∧ ∀ j u, news[j]? = some u → w.cell? (ad.add j) = some u)
    (h1 : ∀ u ∈ news, u.oneCell' = true) (hm : m ≤ 1000000) (hb : bytes ≤ 1000) (hB : B ≤ w.heap.size) :
    ∃ v' w', (Builtin.append_ #[t, t] t #[v0, .slice A m c]).run P w = .ok v' w' ∧ w'.ownsRow B e size v' m news ∧ w.grownBy w' v0.ownBlock := by
  have hbb : m * bytes ≤ 1000000 * 1000 := Nat.mul_le_mul hm hb
  cases A with
  | none =>
    obtain rfl : m = 0 := by
      rcases Nat.eq_zero_or_pos m with h | h
      · exact h
      · obtain ⟨ad, e, _⟩ := hA h
        cases e
    obtain rfl : news = [] := List.length_eq_zero_iff.1 (by rw [hl, Nat.zero_mul])
    refine ⟨v0, w, ?_, h0, ⟨rfl, rfl, rfl, Nat.le_refl _, fun _ _ _ => rfl⟩⟩
    rcases h0.2 with ⟨rfl, _⟩ | ⟨g, cap, cur, rfl, _, _, hnc, _⟩
    · simp [Builtin.append_, run_underlying ht, sizeOf, typeInfo, hi, Builtin.lenOf, Builtin.firstCells]
    · simp [Builtin.append_, run_underlying ht, sizeOf, typeInfo, hi, Builtin.lenOf, Builtin.firstCells, storeCells]
  | some ad =>
    have hc : ∀ j u, news[j]? = some u → w.cell? (ad.add j) = some u := by
      intro j u hj
      have hpos : 0 < m := by
        have := (List.getElem?_eq_some_iff.1 hj).1
        rcases Nat.eq_zero_or_pos m with h | h
        · subst h; omega
        · exact h
      obtain ⟨ad', e, hc⟩ := hA hpos
      injection e with e
      subst e
      exact hc j u hj
    obtain ⟨v', w', hr, r1, r2, _⟩ := run_append_own (P := P) w B t t e i z size bytes ht hi hz hsize hby hzs hsz v0 0 [] h0 ad m c news hl hc h1 (by unfold maxLen; omega) (by rw [Nat.zero_add]; omega) hB
    refine ⟨v', w', hr, ?_, r2⟩
    rw [Nat.zero_add, List.nil_append] at r1
    exact r1
theorem wpList_copy0 {P : Program} {w : World} {ops : Array Oper} {rest : List Oper} {o : Oper} {a : Act} {Q : Exit → Act → World → Prop} (hgd : o.guard = none) (s x : Operand) (t : TypeId)
    (ho : o.op = .call { callee := .builtin .append, args := #[s, x], argTypes := #[t, t] }) (hty : o.type = t) (B : Nat) (e : TypeId) (i : TypeInfo) (z : Value) (size bytes : Nat) (ht : P.underlying t = some (.slice e)) (hi : P.info? e = some i) (hz : i.zero = some z)
    (hsize : i.size = size) (hby : i.bytes = bytes) (hzs : z.cells.size = size) (hsz : 0 < size) (v0 : Value) (hs : a.eval s = v0) (h0 : w.ownsRow B e size v0 0 []) (A : Option Addr) (m c : Nat) (hx : a.eval x = .slice A m c) (news : List Value)
    (hl : news.length = m * size) (hA : 0 < m → ∃ ad, A = some ad ∧ ∀ j u, news[j]? = some u → w.cell? (ad.add j) = some u)
    (h1 : ∀ u ∈ news, u.oneCell' = true) (hm : m ≤ 1000000) (hb : bytes ≤ 1000) (hB : B ≤ w.heap.size)
    (hK : ∀ v' w', w'.ownsRow B e size v' m news → w.grownBy w' v0.ownBlock → wpList P ops Q rest (a.put o.dst v') w') : wpList P ops Q (o :: rest) a w := by
  refine wpList_plain hgd fun K hK' => ?_
  obtain ⟨v', w', hr, h2, h3⟩ := run_copy0 w B t e i z size bytes ht hi hz hsize hby hzs hsz v0 h0 A m c news hl hA h1 hm hb hB
  unfold Oper.wp execOp
  simp only [ho, resolve, invoke, builtin, Sem.run_bind, Sem.run_pure, Result.andThen_ok, List.map_toArray, List.map_cons, List.map_nil, hs, hx, hty, hr]
  exact hK' _ _ (hK v' w' h2 h3)
theorem empty_row (w : World) (t : TypeId) (size : Nat) : (w.alloc (.cells #[] t)).ownsRow w.heap.size t size (.slice (some ⟨w.heap.size, 0, none⟩) 0 0) 0 [] :=
  World.ownsRow_made w #[] 0 (Nat.le_refl _) (Nat.zero_le _) (by simp)
/-- Cells of pairs, and of numbers, that are copied. -/
def inCells (l : List (Int × Int)) : List Value := l.flatMap fun p => [Value.int .i64 p.1, .int .i64 p.2]
theorem inCells_len : ∀ l : List (Int × Int), (inCells l).length = l.length * 2
  | [] => rfl
  | p :: l => by
    have := inCells_len l
    show ([Value.int .i64 p.1, .int .i64 p.2] ++ inCells l).length = _
    simp only [List.length_append, this, List.length_cons, List.length_nil]
    omega
theorem inCells_one : ∀ (l : List (Int × Int)), ∀ u ∈ inCells l, u.oneCell' = true := by
  intro l u hu
  obtain ⟨p, _, h⟩ := List.mem_flatMap.1 hu
  rcases List.mem_cons.1 h with rfl | h
  · rfl
  · rw [List.mem_singleton] at h; subst h; rfl
theorem inCells_flat (l : List (Int × Int)) : inCells l = (l.map fun p => [Value.int .i64 p.1, .int .i64 p.2]).flatten := List.flatMap_def
theorem inCells_at {l : List (Int × Int)} {j : Nat} {u : Value} (h : (inCells l)[j]? = some u) : ∃ (i r : Nat) (hi : i < l.length), j = i * 2 + r ∧ ((r = 0 ∧ u = .int .i64 l[i].1) ∨ (r = 1 ∧ u = .int .i64 l[i].2)) := by
  have hj := (List.getElem?_eq_some_iff.1 h).1
  rw [inCells_len] at hj
  have hi : j / 2 < l.length := by omega
  refine ⟨j / 2, j % 2, hi, by omega, ?_⟩
  have e : j = j / 2 * 2 + j % 2 := by omega
  rw [e, inCells_flat, flat_at (size := 2) (c := [Value.int .i64 l[j / 2].1, .int .i64 l[j / 2].2]) (by intro d hd; obtain ⟨p, _, rfl⟩ := List.mem_map.1 hd; rfl) (by rw [List.getElem?_map, List.getElem?_eq_getElem hi]; rfl) (by omega)] at h
  rcases Nat.mod_two_eq_zero_or_one j with h0 | h0
  · rw [h0] at h; exact Or.inl ⟨h0, (Option.some.inj h).symm⟩
  · rw [h0] at h; exact Or.inr ⟨h0, (Option.some.inj h).symm⟩
theorem inCells_from {w w' : World} {A : Option Addr} {n c m : Nat} {l : List (Int × Int)} (h : RowAt w 2 InAt (.slice A n c) l) (hb : Below w.heap.size w w') (hm : m ≤ l.length) : 0 < m → ∃ ad, A = some ad ∧ ∀ j u, (inCells (l.take m))[j]? = some u → w'.cell? (ad.add j) = some u := by
  intro hp
  obtain ⟨A', c', b, o, e, h1, h2, h3, h4⟩ := h
  injection e with e1 _ _
  subst e1
  refine ⟨_, h3 (by omega), fun j u hj => ?_⟩
  obtain ⟨i, r, hi, e, hr⟩ := inCells_at hj
  rw [List.length_take] at hi
  have hk := h4 i (by omega)
  rw [List.getElem_take] at hr
  have hadd : ∀ k, (⟨b, o, none⟩ : Addr).add k = ⟨b, o + k, none⟩ := fun k => by unfold Addr.add; by_cases h : k = 0 <;> simp [h]
  rw [hadd, e]
  rcases hr with ⟨rfl, rfl⟩ | ⟨rfl, rfl⟩
  · exact cell_keep hb (Nat.le_refl _) hk.1
  · have := cell_keep hb (Nat.le_refl _) hk.2
    rw [Nat.add_assoc] at this
    exact this
theorem numCells_from {w w' : World} {A : Option Addr} {n c m : Nat} {l : List Int} (h : Ints w (.slice A n c) l) (hb : Below w.heap.size w w') (hm : m ≤ l.length) : 0 < m → ∃ ad, A = some ad ∧ ∀ j u, ((l.take m).map (Value.int .i64))[j]? = some u → w'.cell? (ad.add j) = some u := by
  intro hp
  obtain ⟨A', c', e, h1, h2, h4⟩ := h
  injection e with e1 _ _
  subst e1
  obtain ⟨ad, e, _⟩ := h4 0 (by omega)
  refine ⟨ad, e, fun j u hj => ?_⟩
  rw [List.getElem?_map] at hj
  by_cases hlt : j < (l.take m).length
  · rw [List.getElem?_eq_getElem hlt] at hj
    rw [List.length_take] at hlt
    obtain ⟨ad', e', hc⟩ := h4 j (by omega)
    rw [e] at e'
    injection e' with e'
    subst e'
    rw [cell_keep hb (Nat.le_refl _) hc, ← hj, List.getElem_take]; rfl
  · rw [List.getElem?_eq_none (by omega)] at hj; cases hj
theorem numCells_len (l : List Int) : (l.map (Value.int .i64)).length = l.length * 1 := by rw [List.length_map, Nat.mul_one]
theorem numCells_one (l : List Int) : ∀ u ∈ l.map (Value.int .i64), u.oneCell' = true := by
  intro u hu
  obtain ⟨p, _, rfl⟩ := List.mem_map.1 hu
  rfl
/-- A function's things, as a call of its own lays them. -/
def inC (w : World) (c : List Value) (p : Int × Int) : Prop := c = [.int .i64 p.1, .int .i64 p.2]
theorem rows_in {w : World} {B : Nat} {v : Value} {n : Nat} {l : List (Int × Int)} (hn : l.length = n) (h : w.ownsRow B 72 2 v n (inCells l)) : RowsOwn B w 72 2 inC v l := by
  subst hn
  refine ⟨l.map fun p => [Value.int .i64 p.1, .int .i64 p.2], by simp, by rw [← inCells_flat]; exact h, fun i hi => ⟨_, by rw [List.getElem?_map, List.getElem?_eq_getElem hi]; rfl, rfl, rfl⟩⟩
def phiC (B : Nat) (w : World) (c : List Value) (p : PPhi) : Prop := ∃ s, c = [.int .i64 p.dst, s] ∧ RowsOwn B w 72 2 inC s p.ins
def insC (B : Nat) (w : World) (c : List Value) (i : PIns) : Prop := ∃ s, c = [.int .i64 i.op, .int .i64 i.dst, .int .i64 i.two, s, .int .i32 i.imm] ∧ OwnInts B w s i.args
def blockC (B : Nat) (w : World) (c : List Value) (x : PBlock) : Prop :=
  ∃ sp si sa st, c = [sp, si, .int .i64 x.term.kind, sa, st, .int .i32 x.term.imm] ∧ RowsOwn B w 54 2 (phiC B) sp x.phis ∧ RowsOwn B w 36 5 (insC B) si x.ins ∧ OwnInts B w sa x.term.args ∧ OwnInts B w st x.term.to
theorem phiC.below {B : Nat} {w w' : World} (hb : Below w.heap.size w w') (c : List Value) (p : PPhi) (h : phiC B w c p) : phiC B w' c p := by
  obtain ⟨s, h1, h2⟩ := h
  exact ⟨s, h1, h2.below hb fun _ _ h => h⟩
theorem insC.below {B : Nat} {w w' : World} (hb : Below w.heap.size w w') (c : List Value) (p : PIns) (h : insC B w c p) : insC B w' c p := by
  obtain ⟨s, h1, h2⟩ := h
  exact ⟨s, h1, own_below h2 hb⟩
theorem blockC.below {B : Nat} {w w' : World} (hb : Below w.heap.size w w') (c : List Value) (p : PBlock) (h : blockC B w c p) : blockC B w' c p := by
  obtain ⟨s1, s2, s3, s4, h1, h2, h3, h4, h5⟩ := h
  exact ⟨s1, s2, s3, s4, h1, h2.below hb (phiC.below hb), h3.below hb (insC.below hb), own_below h4 hb, own_below h5 hb⟩
theorem phiC.base {B B' : Nat} {w : World} (hB : B' ≤ B) (c : List Value) (p : PPhi) (h : phiC B w c p) : phiC B' w c p := by
  obtain ⟨s, h1, h2⟩ := h
  exact ⟨s, h1, h2.base hB fun _ _ h => h⟩
theorem insC.base {B B' : Nat} {w : World} (hB : B' ≤ B) (c : List Value) (p : PIns) (h : insC B w c p) : insC B' w c p := by
  obtain ⟨s, h1, h2⟩ := h
  exact ⟨s, h1, own_base h2 hB⟩
/-- A block of the heap in which no row of such a type lies. -/
def NoRow (w : World) (row : Option Nat) (e : TypeId) : Prop := ∀ B s v n xs, w.ownsRow B e s v n xs → v.ownBlock = none ∨ v.ownBlock ≠ row
theorem noRow_own {w : World} {B : Nat} {e e' : TypeId} {s : Nat} {v : Value} {n : Nat} {xs : List Value} (h : w.ownsRow B e' s v n xs) (hne : e ≠ e') : NoRow w v.ownBlock e := fun _ _ _ _ _ h' => own_apart h' h hne
theorem noRow_str {w : World} {x : Nat} {t e : TypeId} {vs : List Value} (h : Str w x t vs) (hne : t ≠ e) : NoRow w (some x) e := fun _ _ _ _ _ h' => Or.inr (fun e => h.not_row hne h' e.symm)
theorem phiC.kept {B : Nat} {w w' : World} {row : Option Nat} (hg : w.grownBy w' row) (h1 : NoRow w row 72) (c : List Value) (p : PPhi) (h : phiC B w c p) : phiC B w' c p := by
  obtain ⟨s, e1, h2⟩ := h
  refine ⟨s, e1, h2.kept hg ?_ fun _ _ h => h⟩
  obtain ⟨cs, a, b, _⟩ := h2
  exact h1 _ _ _ _ _ b
theorem insC.kept {B : Nat} {w w' : World} {row : Option Nat} (hg : w.grownBy w' row) (h1 : NoRow w row 3) (c : List Value) (p : PIns) (h : insC B w c p) : insC B w' c p := by
  obtain ⟨s, e1, h2⟩ := h
  exact ⟨s, e1, World.ownsRow.kept h2 hg (h1 _ _ _ _ _ h2)⟩
theorem blockC.kept {B : Nat} {w w' : World} {row : Option Nat} (hg : w.grownBy w' row) (h1 : NoRow w row 72) (h2 : NoRow w row 3) (h3 : NoRow w row 54) (h4 : NoRow w row 36) (c : List Value) (p : PBlock) (h : blockC B w c p) :
    blockC B w' c p := by
  obtain ⟨s1, s2, s3, s4, e1, a1, a2, a3, a4⟩ := h
  refine ⟨s1, s2, s3, s4, e1, a1.kept hg ?_ (phiC.kept hg h1), a2.kept hg ?_ (insC.kept hg h2), World.ownsRow.kept a3 hg (h2 _ _ _ _ _ a3), World.ownsRow.kept a4 hg (h2 _ _ _ _ _ a4)⟩
  · obtain ⟨cs, a, b, _⟩ := a1
    exact h3 _ _ _ _ _ b
  · obtain ⟨cs, a, b, _⟩ := a2
    exact h4 _ _ _ _ _ b
theorem in_at {w : World} (c : List Value) (x : Int × Int) (b o : Nat) (hl : c.length = 2) (hc : ∀ j u, c[j]? = some u → w.cell? ⟨b, o + j, none⟩ = some u) (h : inC w c x) : InAt w b o x := by
  cases h
  exact ⟨hc 0 _ rfl, hc 1 _ rfl⟩
theorem phi_at {B : Nat} {w : World} (c : List Value) (x : PPhi) (b o : Nat) (hl : c.length = 2) (hc : ∀ j u, c[j]? = some u → w.cell? ⟨b, o + j, none⟩ = some u) (h : phiC B w c x) : PhiAt w b o x := by
  obtain ⟨s, rfl, h2⟩ := h
  exact ⟨hc 0 _ rfl, s, hc 1 _ rfl, (h2.row in_at).1⟩
theorem ins_at {B : Nat} {w : World} (c : List Value) (x : PIns) (b o : Nat) (hl : c.length = 5) (hc : ∀ j u, c[j]? = some u → w.cell? ⟨b, o + j, none⟩ = some u) (h : insC B w c x) : InsAt w b o x := by
  obtain ⟨s, rfl, h2⟩ := h
  exact ⟨hc 0 _ rfl, hc 1 _ rfl, hc 2 _ rfl, ⟨s, hc 3 _ rfl, OwnInts.ints h2⟩, hc 4 _ rfl⟩
theorem block_at {B : Nat} {w : World} (c : List Value) (x : PBlock) (b o : Nat) (hl : c.length = 6) (hc : ∀ j u, c[j]? = some u → w.cell? ⟨b, o + j, none⟩ = some u) (h : blockC B w c x) : BlockAt w b o x := by
  obtain ⟨s1, s2, s3, s4, rfl, a1, a2, a3, a4⟩ := h
  exact ⟨⟨s1, hc 0 _ rfl, (a1.row phi_at).1⟩, ⟨s2, hc 1 _ rfl, (a2.row ins_at).1⟩, hc 2 _ rfl, ⟨s3, hc 3 _ rfl, OwnInts.ints a3⟩, ⟨s4, hc 4 _ rfl, OwnInts.ints a4⟩, hc 5 _ rfl⟩
end Go.Proofs.Ytdfehpcbcgbidaa.Kc
/- A function that comes in as a parameter, opened: its blocks in memory, their numbers such as an int can be. -/
namespace Go.Proofs.Ytdfehpcbcgbidaa.Kc
open Go.ChangeShapes Go.WideShapes Go.ChangeAt Go.RowKit Go.Deep Go.Proofs.Ytdfehpcbcgbidaa.Mem
set_option linter.unusedVariables false
set_option linter.constructorNameAsVariable false
theorem cells_int : Try.prog.cellsOf 3 = 1 := by kernel_rfl
theorem cells_i32 : Try.prog.cellsOf 21 = 1 := by kernel_rfl
theorem cells_ints : Try.prog.cellsOf 28 = 1 := by kernel_rfl
theorem cells_in : Try.prog.cellsOf 72 = 2 := by kernel_rfl
theorem cells_inRow : Try.prog.cellsOf 52 = 1 := by kernel_rfl
theorem cells_phi : Try.prog.cellsOf 54 = 2 := by kernel_rfl
theorem cells_phiRow : Try.prog.cellsOf 31 = 1 := by kernel_rfl
theorem cells_ins : Try.prog.cellsOf 36 = 5 := by kernel_rfl
theorem cells_insRow : Try.prog.cellsOf 32 = 1 := by kernel_rfl
theorem cells_term : Try.prog.cellsOf 30 = 4 := by kernel_rfl
theorem cells_block : Try.prog.cellsOf 34 = 6 := by kernel_rfl
theorem cells_blockRow : Try.prog.cellsOf 22 = 1 := by kernel_rfl
theorem cells_func : Try.prog.cellsOf 24 = 2 := by kernel_rfl
theorem plain_of {w : World} {a : Addr} {v : Value} (h : w.cell? a = some v) : a = ⟨a.block, a.off, none⟩ := by
  obtain ⟨b, o, s⟩ := a
  cases s with
  | none => rfl
  | some q =>
    exfalso
    simp only [World.cell?] at h
    split at h <;> simp at h
theorem plain_add (b o k : Nat) : (⟨b, o, none⟩ : Addr).add k = ⟨b, o + k, none⟩ := by
  unfold Addr.add
  by_cases h : k = 0
  · subst h; rfl
  · rw [if_neg h]
/-- Numbers of a function: such as an int can be. -/
structure NumsP (bs : List PBlock) : Prop where
  phi : ∀ x ∈ bs, ∀ p ∈ x.phis, InI p.dst ∧ ∀ i ∈ p.ins, InI i.2
  ins : ∀ x ∈ bs, ∀ i ∈ x.ins, InI i.dst ∧ InI i.two ∧ ∀ v ∈ i.args, InI v
  term : ∀ x ∈ bs, ∀ v ∈ x.term.args, InI v
section
variable {H : Type} {enc : TypeId × Value → H} {W : World} {base : Nat} {held : Bool}
theorem ints_open {fuel : Nat} {v : Value} {x : DataW H × List MemPlace} (h : DataW.trod enc Try.prog W base (fun _ => true) held fuel 28 [v] = some x) : ∃ l, Ints W v l ∧ ∀ x ∈ l, InI x := by
  rcases open_ints Try.underlying28 Try.underlying3 cells_int h with ⟨e, _⟩ | ⟨a, len, cap, zs, e, _, hl, hm, hz, _, hcell, hwf⟩
  · injection e with e _
    subst e
    exact ⟨[], ⟨none, 0, rfl, Nat.le_refl _, by unfold maxLen; omega, fun k h => absurd h (by simp)⟩, by simp⟩
  · injection e with e _
    subst e
    simp only [if_true] at hz
    have e : (zs.take len).length = len := by rw [List.length_take]; omega
    refine ⟨zs.take len, ⟨some a, cap, by rw [e], by omega, hm, fun k hk => ⟨a, rfl, ?_⟩⟩, fun x hx => bounds_i64 (hwf x (List.mem_of_mem_take hx))⟩
    have hk2 : k < zs.length := by omega
    rw [hcell k hk2, List.getElem_take, List.getD_eq_getElem?_getD, List.getElem?_eq_getElem hk2]; rfl
theorem row_open {α : Type} [Inhabited α] {t e : TypeId} {size : Nat} {R : World → Nat → Nat → α → Prop} {Good : α → Prop} (ht : Try.prog.underlying t = some (.slice e)) (ce : Try.prog.cellsOf e = size) (hpos : 0 < size)
    (each : ∀ n b o cs y, cs.length = size → (∀ j, j < size → W.cell? ⟨b, o + j, none⟩ = cs[j]?) → DataW.trod enc Try.prog W base (fun _ => true) held n e cs = some y → ∃ x, R W b o x ∧ Good x)
    {fuel : Nat} {v : Value} {x : DataW H × List MemPlace} (h : DataW.trod enc Try.prog W base (fun _ => true) held fuel t [v] = some x) : ∃ l, RowAt W size R v l ∧ ∀ x ∈ l, Good x := by
  rcases open_slice ht h with ⟨e, _⟩ | ⟨a, len, cap, m, n, D, Pl, e, hb, hl, hm, hmm, _, hx⟩
  · injection e with e _
    subst e
    exact ⟨[], rowAt_nil, by simp⟩
  · injection e with e _
    subst e
    simp only [if_true] at hmm
    rcases Nat.eq_zero_or_pos len with h0 | hp
    · subst h0
      exact ⟨[], ⟨some a, cap, 0, 0, rfl, hl, hm, fun hp => absurd hp (by simp), fun k hk => absurd hk (by simp)⟩, by simp⟩
    · have hpl : a = ⟨a.block, a.off, none⟩ := by
        obtain ⟨cs', h1, h2⟩ := hx 0 (by omega)
        rw [ce, Nat.zero_mul] at h1
        obtain ⟨_, hlen, hc⟩ := World.cells?_some h1
        have h3 := hc 0 hpos
        rw [show (a.add 0).add 0 = a from rfl, List.getElem?_eq_getElem (by omega)] at h3
        exact plain_of h3
      obtain ⟨b, o, s⟩ := a
      simp only at hpl
      injection hpl with _ _ hpl
      subst hpl
      have each' : ∀ i, i < len → ∃ x, R W b (o + i * size) x ∧ Good x := fun i hi => by
        obtain ⟨cs', h1, h2⟩ := hx i (by omega)
        rw [ce] at h1
        obtain ⟨_, hlen, hc⟩ := World.cells?_some h1
        exact each n b _ cs' _ hlen (fun j hj => by have := hc j hj; rw [plain_add, plain_add] at this; exact this) h2
      obtain ⟨E, hE⟩ := choose_lt each'
      have hll : ((List.range len).map E).length = len := by simp
      refine ⟨(List.range len).map E, ⟨some ⟨b, o, none⟩, cap, b, o, by rw [hll], by rw [hll]; exact hl, hm, fun _ => rfl, fun k hk => ?_⟩, fun x hx => ?_⟩
      · rw [hll] at hk
        rw [List.getElem_map, List.getElem_range]
        exact (hE k hk).1
      · obtain ⟨i, hi, rfl⟩ := List.mem_map.1 hx
        exact (hE i (List.mem_range.1 hi)).2
instance : Inhabited PPhi := ⟨⟨0, []⟩⟩
instance : Inhabited PIns := ⟨⟨0, 0, 0, [], 0⟩⟩
instance : Inhabited PBlock := ⟨⟨[], [], ⟨0, [], [], 0⟩⟩⟩
set_option maxRecDepth 100000 in
theorem in_open (n b o : Nat) (cs : List Value) (y : DataW H × List MemPlace) (hl : cs.length = 2) (hc : ∀ j, j < 2 → W.cell? ⟨b, o + j, none⟩ = cs[j]?) (h : DataW.trod enc Try.prog W base (fun _ => true) held n 72 cs = some y) :
    ∃ x : Int × Int, InAt W b o x ∧ InI x.2 := by
  obtain ⟨xs, k, _, _, _, hxl, hx⟩ := DataW.trod_struct Try.underlying72 h
  match xs, hxl, cs, hl with
  | [y0, y1], _, [v0, v1], _ =>
    have h0 := hx 0 _ rfl
    have h1 := hx 1 _ rfl
    simp [cells_int] at h0 h1
    obtain ⟨q0, e0, _, g0⟩ := DataW.trod_int Try.underlying3 h0
    obtain ⟨q1, e1, _, g1⟩ := DataW.trod_int Try.underlying3 h1
    injection e0 with e0 _
    injection e1 with e1 _
    subst e0 e1
    exact ⟨(q0, q1), ⟨hc 0 (by omega), hc 1 (by omega)⟩, bounds_i64 g1⟩
set_option maxRecDepth 100000 in
theorem phi_open (n b o : Nat) (cs : List Value) (y : DataW H × List MemPlace) (hl : cs.length = 2) (hc : ∀ j, j < 2 → W.cell? ⟨b, o + j, none⟩ = cs[j]?) (h : DataW.trod enc Try.prog W base (fun _ => true) held n 54 cs = some y) :
    ∃ x : PPhi, PhiAt W b o x ∧ InI x.dst ∧ ∀ i ∈ x.ins, InI i.2 := by
  obtain ⟨xs, k, _, _, _, hxl, hx⟩ := DataW.trod_struct Try.underlying54 h
  match xs, hxl, cs, hl with
  | [y0, y1], _, [v0, v1], _ =>
    have h0 := hx 0 _ rfl
    have h1 := hx 1 _ rfl
    simp [cells_int, cells_inRow] at h0 h1
    obtain ⟨q0, e0, _, g0⟩ := DataW.trod_int Try.underlying3 h0
    obtain ⟨l, r1, r2⟩ := row_open Try.underlying52 cells_in (by omega) in_open h1
    injection e0 with e0 _
    subst e0
    exact ⟨⟨q0, l⟩, ⟨hc 0 (by omega), _, hc 1 (by omega), r1⟩, bounds_i64 g0, r2⟩
set_option maxRecDepth 100000 in
theorem ins_open (n b o : Nat) (cs : List Value) (y : DataW H × List MemPlace) (hl : cs.length = 5) (hc : ∀ j, j < 5 → W.cell? ⟨b, o + j, none⟩ = cs[j]?) (h : DataW.trod enc Try.prog W base (fun _ => true) held n 36 cs = some y) :
    ∃ x : PIns, InsAt W b o x ∧ InI x.dst ∧ InI x.two ∧ ∀ v ∈ x.args, InI v := by
  obtain ⟨xs, k, _, _, _, hxl, hx⟩ := DataW.trod_struct Try.underlying36 h
  match xs, hxl, cs, hl with
  | [y0, y1, y2, y3, y4], _, [v0, v1, v2, v3, v4], _ =>
    have h0 := hx 0 _ rfl
    have h1 := hx 1 _ rfl
    have h2 := hx 2 _ rfl
    have h3 := hx 3 _ rfl
    have h4 := hx 4 _ rfl
    simp [cells_int, cells_ints, cells_i32] at h0 h1 h2 h3 h4
    obtain ⟨q0, e0, _, g0⟩ := DataW.trod_int Try.underlying3 h0
    obtain ⟨q1, e1, _, g1⟩ := DataW.trod_int Try.underlying3 h1
    obtain ⟨q2, e2, _, g2⟩ := DataW.trod_int Try.underlying3 h2
    obtain ⟨l, r1, r2⟩ := ints_open h3
    obtain ⟨q4, e4, _, g4⟩ := DataW.trod_int Try.underlying21 h4
    injection e0 with e0 _
    injection e1 with e1 _
    injection e2 with e2 _
    injection e4 with e4 _
    subst e0 e1 e2 e4
    exact ⟨⟨q0, q1, q2, l, q4⟩, ⟨hc 0 (by omega), hc 1 (by omega), hc 2 (by omega), ⟨_, hc 3 (by omega), r1⟩, hc 4 (by omega)⟩, bounds_i64 g1, bounds_i64 g2, r2⟩
set_option maxRecDepth 100000 in
theorem block_open (n b o : Nat) (cs : List Value) (y : DataW H × List MemPlace) (hl : cs.length = 6) (hc : ∀ j, j < 6 → W.cell? ⟨b, o + j, none⟩ = cs[j]?) (h : DataW.trod enc Try.prog W base (fun _ => true) held n 34 cs = some y) :
    ∃ x : PBlock, BlockAt W b o x ∧ (∀ p ∈ x.phis, InI p.dst ∧ ∀ i ∈ p.ins, InI i.2) ∧ (∀ i ∈ x.ins, InI i.dst ∧ InI i.two ∧ ∀ v ∈ i.args, InI v) ∧ ∀ v ∈ x.term.args, InI v := by
  obtain ⟨xs, k, _, _, _, hxl, hx⟩ := DataW.trod_struct Try.underlying34 h
  match xs, hxl, cs, hl with
  | [y0, y1, y2], _, [v0, v1, v2, v3, v4, v5], _ =>
    have h0 := hx 0 _ rfl
    have h1 := hx 1 _ rfl
    have h2 := hx 2 _ rfl
    simp [cells_phiRow, cells_insRow, cells_term] at h0 h1 h2
    obtain ⟨zs, k2, _, _, _, hzl, hz⟩ := DataW.trod_struct Try.underlying30 h2
    match zs, hzl with
    | [z0, z1, z2, z3], _ =>
      have t0 := hz 0 _ rfl
      have t1 := hz 1 _ rfl
      have t2 := hz 2 _ rfl
      have t3 := hz 3 _ rfl
      simp [cells_int, cells_ints, cells_i32] at t0 t1 t2 t3
      obtain ⟨lp, p1, p2⟩ := row_open Try.underlying31 cells_phi (by omega) phi_open h0
      obtain ⟨li, i1, i2⟩ := row_open Try.underlying32 cells_ins (by omega) ins_open h1
      obtain ⟨q2, e2, _, g2⟩ := DataW.trod_int Try.underlying3 t0
      obtain ⟨la, a1, a2⟩ := ints_open t1
      obtain ⟨lt, b1, b2⟩ := ints_open t2
      obtain ⟨q5, e5, _, g5⟩ := DataW.trod_int Try.underlying21 t3
      injection e2 with e2 _
      injection e5 with e5 _
      subst e2 e5
      exact ⟨⟨lp, li, ⟨q2, la, lt, q5⟩⟩, ⟨⟨_, hc 0 (by omega), p1⟩, ⟨_, hc 1 (by omega), i1⟩, hc 2 (by omega), ⟨_, hc 3 (by omega), a1⟩, ⟨_, hc 4 (by omega), b1⟩, hc 5 (by omega)⟩, p2, i2, a2⟩
set_option maxRecDepth 100000 in
/-- A function that came in. -/
theorem open_func {r : Reach} {b0 : Nat} {v : Value} {d : DataW H} {ps : List MemPlace}
    (hv : Value.okWide Try.prog W r b0 24 v) (hd : DataW.Trod enc Try.prog W base (fun _ => true) held 24 v d ps) :
    ∃ (params : Int) (fv : Value) (bs : List PBlock), v = .agg #[.int .i64 params, fv] ∧ InI params ∧ BlocksAt W fv bs ∧ NumsP bs := by
  obtain ⟨cs, rfl, hsz⟩ := okWide_struct Try.underlying24 hv
  obtain ⟨l⟩ := cs
  have hl : l.length = 2 := hsz.trans cells_func
  match l, hl with
  | [c0, c1], _ =>
    obtain ⟨fuel, hf⟩ := hd
    obtain ⟨xs, n, _, _, hl, hlen, hx⟩ := DataW.trod_struct Try.underlying24 hf
    match xs, hlen with
    | [y0, y1], _ =>
      have h0 := hx 0 _ rfl
      have h1 := hx 1 _ rfl
      simp [Value.cells, cells_int, cells_blockRow] at h0 h1
      obtain ⟨q0, e0, _, g0⟩ := DataW.trod_int Try.underlying3 h0
      obtain ⟨l, r1, r2⟩ := row_open Try.underlying22 cells_block (by omega) block_open h1
      injection e0 with e0 _
      subst e0
      exact ⟨q0, c1, l, rfl, bounds_i64 g0, r1, ⟨fun x hx => (r2 x hx).1, fun x hx => (r2 x hx).2.1, fun x hx => (r2 x hx).2.2⟩⟩
end
end Go.Proofs.Ytdfehpcbcgbidaa.Kc
