/- Stage 12: rows of placed instructions and of blocks that a call lays itself. -/
import Derived.Test.YtdidacjmcafcpaaQY
import Derived.Deep.SlicePairs
namespace Go.Proofs.Ytdidacjmcafcpaa.Ph
open Go.ChangeShapes Go.WideShapes Go.ChangeAt Go.RowKit Go.Maps Go.Proofs.Ytdidacjmcafcpaa.Mem Go.Proofs.Ytdidacjmcafcpaa.Kc Go.Proofs.Ytdidacjmcafcpaa.Br Go.Proofs.Ytdidacjmcafcpaa.Pl Go.Proofs.Ytdidacjmcafcpaa.Mw Go.Proofs.Ytdidacjmcafcpaa.Mc Go.Proofs.Ytdidacjmcafcpaa.Gr
set_option linter.unusedVariables false
set_option linter.unusedSimpArgs false
section
variable {α : Type}
/-- The slice v is a row of the call's own, whose elements' cells are such as R says. -/
def RowsOwn (B : Nat) (w : World) (e : TypeId) (size : Nat) (R : World → List Value → α → Prop) (v : Value) (l : List α) : Prop :=
  ∃ cs : List (List Value), cs.length = l.length ∧ w.ownsRow B e size v l.length cs.flatten ∧ ∀ i (h : i < l.length), ∃ c, cs[i]? = some c ∧ c.length = size ∧ R w c l[i]
theorem RowsOwn.nil (B : Nat) (w : World) (e : TypeId) (size : Nat) (R : World → List Value → α → Prop) : RowsOwn B w e size R (.slice none 0 0) [] :=
  ⟨[], rfl, World.ownsRow_nil _ _ _ _, fun i h => absurd h (by simp)⟩
theorem RowsOwn.kept {B : Nat} {w w' : World} {e : TypeId} {size : Nat} {R R' : World → List Value → α → Prop} {v : Value} {l : List α} {row : Option Nat} (h : RowsOwn B w e size R v l) (hg : w.grownBy w' row)
    (hv : v.ownBlock = none ∨ v.ownBlock ≠ row) (hR : ∀ c x, R w c x → R' w' c x) : RowsOwn B w' e size R' v l := by
  obtain ⟨cs, h1, h2, h3⟩ := h
  refine ⟨cs, h1, World.ownsRow.kept h2 hg hv, fun i hi => ?_⟩
  obtain ⟨c, a, b, d⟩ := h3 i hi
  exact ⟨c, a, b, hR _ _ d⟩
theorem RowsOwn.below {B : Nat} {w w' : World} {e : TypeId} {size : Nat} {R R' : World → List Value → α → Prop} {v : Value} {l : List α} (h : RowsOwn B w e size R v l) (hb : Below w.heap.size w w') (hR : ∀ c x, R w c x → R' w' c x) : RowsOwn B w' e size R' v l := by
  obtain ⟨cs, h1, h2, h3⟩ := h
  refine ⟨cs, h1, own_below h2 hb, fun i hi => ?_⟩
  obtain ⟨c, a, b, d⟩ := h3 i hi
  exact ⟨c, a, b, hR _ _ d⟩
theorem RowsOwn.base {B B' : Nat} {w : World} {e : TypeId} {size : Nat} {R R' : World → List Value → α → Prop} {v : Value} {l : List α} (h : RowsOwn B w e size R v l) (hB : B' ≤ B) (hR : ∀ c x, R w c x → R' w c x) : RowsOwn B' w e size R' v l := by
  obtain ⟨cs, h1, h2, h3⟩ := h
  refine ⟨cs, h1, own_base h2 hB, fun i hi => ?_⟩
  obtain ⟨c, a, b, d⟩ := h3 i hi
  exact ⟨c, a, b, hR _ _ d⟩
theorem RowsOwn.pushed {B : Nat} {w w' : World} {e : TypeId} {size : Nat} {R R' : World → List Value → α → Prop} {v' : Value} {l : List α} {x : α} {cs : List (List Value)} {c : List Value} (h1 : cs.length = l.length)
    (h3 : ∀ i (h : i < l.length), ∃ c, cs[i]? = some c ∧ c.length = size ∧ R w c l[i]) (hR : ∀ c x, R w c x → R' w' c x) (hr : w'.ownsRow B e size v' (l.length + 1) (cs.flatten ++ c)) (hc : c.length = size) (hx : R' w' c x) :
    RowsOwn B w' e size R' v' (l ++ [x]) := by
  refine ⟨cs ++ [c], by simp [h1], ?_, fun i hi => ?_⟩
  · rw [List.length_append, List.flatten_append]
    simpa using hr
  · rcases Nat.lt_or_ge i l.length with h | h
    · obtain ⟨d, a1, a2, a3⟩ := h3 i h
      rw [List.getElem_append_left h, List.getElem?_append_left (by omega)]
      exact ⟨d, a1, a2, hR _ _ a3⟩
    · rw [List.length_append] at hi
      have : i = l.length := by simp at hi; omega
      subst this
      rw [List.getElem_append_right (Nat.le_refl _), List.getElem?_append_right (by omega)]
      refine ⟨c, by simp [h1], hc, ?_⟩
      simpa using hx
theorem flat_at {size : Nat} : ∀ {cs : List (List Value)} {i j : Nat} {c : List Value}, (∀ d ∈ cs, d.length = size) → cs[i]? = some c → j < size → cs.flatten[i * size + j]? = c[j]?
  | [], i, j, c, _, h, _ => by simp at h
  | d :: cs, 0, j, c, hl, h, hj => by
    rw [List.getElem?_cons_zero] at h
    injection h with h
    subst h
    rw [List.flatten_cons, List.getElem?_append_left (by rw [hl d (List.mem_cons_self ..)]; omega), Nat.zero_mul, Nat.zero_add]
  | d :: cs, i + 1, j, c, hl, h, hj => by
    rw [List.getElem?_cons_succ] at h
    have hd := hl d (List.mem_cons_self ..)
    have e : (i + 1) * size = size + i * size := by rw [Nat.add_mul, Nat.one_mul, Nat.add_comm]
    rw [List.flatten_cons, List.getElem?_append_right (by rw [hd]; omega), hd, show (i + 1) * size + j - size = i * size + j by omega]
    exact flat_at (fun x hx => hl x (List.mem_cons_of_mem _ hx)) h hj
theorem RowsOwn.row {B : Nat} {w : World} {e : TypeId} {size : Nat} {R : World → List Value → α → Prop} {R' : World → Nat → Nat → α → Prop} {v : Value} {l : List α} (h : RowsOwn B w e size R v l)
    (hR : ∀ c x b o, c.length = size → (∀ j u, c[j]? = some u → w.cell? ⟨b, o + j, none⟩ = some u) → R w c x → R' w b o x) : RowAt w size R' v l ∧ ∃ A c, v = .slice A l.length c ∧ (0 < l.length → ∃ g, A = some ⟨g, 0, none⟩) := by
  obtain ⟨cs, h1, h2, h3⟩ := h
  have hall : ∀ d ∈ cs, d.length = size := by
    intro d hd
    obtain ⟨i, hi, e⟩ := List.mem_iff_getElem.1 hd
    obtain ⟨c, a, b, _⟩ := h3 i (by omega)
    rw [List.getElem?_eq_getElem hi] at a
    injection a with a
    rw [← e, a]; exact b
  rcases h2.2 with ⟨rfl, h0⟩ | ⟨g, cap, cur, rfl, hbg, hg, hnc, hcm, hcs, htake⟩
  · refine ⟨⟨none, 0, 0, 0, by rw [h0], by omega, by unfold maxLen; omega, fun h => by omega, fun k hk => by omega⟩, none, 0, by rw [h0], fun h => by omega⟩
  · refine ⟨⟨some ⟨g, 0, none⟩, cap, g, 0, rfl, hnc, hcm, fun _ => rfl, fun k hk => ?_⟩, _, _, rfl, fun _ => ⟨g, rfl⟩⟩
    obtain ⟨c, a, b, d⟩ := h3 k hk
    refine hR c _ g _ b (fun j u hj => ?_) d
    have hjs : j < size := by have := (List.getElem?_eq_some_iff.1 hj).1; omega
    have hlt : k * size + j < l.length * size := by
      have := Nat.mul_le_mul_right size (show k + 1 ≤ l.length from hk)
      rw [Nat.add_mul, Nat.one_mul] at this
      omega
    rw [Nat.zero_add, World.ownsRow.cellAt h2 _ hlt, flat_at hall a hjs]
    exact hj
theorem RowsOwn.form {B : Nat} {w : World} {e : TypeId} {size : Nat} {R : World → List Value → α → Prop} {v : Value} {l : List α} (h : RowsOwn B w e size R v l) : ∃ A c, v = .slice A l.length c := by
  obtain ⟨cs, h1, h2, h3⟩ := h
  exact own_form h2
end
/-- A block of the heap in which no row of such a type lies. -/
def NoRow (w : World) (row : Option Nat) (e : TypeId) : Prop := ∀ B s v n xs, w.ownsRow B e s v n xs → v.ownBlock = none ∨ v.ownBlock ≠ row
theorem noRow_own {w : World} {B : Nat} {e e' : TypeId} {s : Nat} {v : Value} {n : Nat} {xs : List Value} (h : w.ownsRow B e' s v n xs) (hne : e ≠ e') : NoRow w v.ownBlock e := fun _ _ _ _ _ h' => Go.Proofs.Ytdidacjmcafcpaa.Mem.own_apart h' h hne
theorem noRow_str {w : World} {x : Nat} {t e : TypeId} {vs : List Value} (h : Str w x t vs) (hne : t ≠ e) : NoRow w (some x) e := fun _ _ _ _ _ h' => Or.inr (fun e => h.not_row hne h' e.symm)
theorem noRow_none {w : World} {e : TypeId} : NoRow w none e := fun _ _ v _ _ _ => by
  cases h : v.ownBlock with
  | none => exact Or.inl rfl
  | some g => exact Or.inr (by simp)
def plL (x : PlIn) (s : Value) : List Value := [.int .i64 x.i.op, .int .i64 x.i.d, .int .i64 x.i.e, .int .i64 x.i.a, .int .i64 x.i.b, .int .i64 x.i.c, .int .i32 x.i.imm, s, .int .i64 x.fr]
def plC (B : Nat) (w : World) (c : List Value) (x : PlIn) : Prop := ∃ s, c = plL x s ∧ OwnInts B w s x.i.args
def pbL (x : PPB) (si st : Value) : List Value := [si, .int .i64 x.fin.op, .int .i64 x.fin.a, .int .i64 x.fin.b, st, .int .i32 x.fin.imm]
def pbC (B : Nat) (w : World) (c : List Value) (x : PPB) : Prop := ∃ si st, c = pbL x si st ∧ RowsOwn B w 47 9 (plC B) si x.ins ∧ OwnInts B w st x.fin.to
theorem plC.below {B : Nat} {w w' : World} (hb : Below w.heap.size w w') (c : List Value) (p : PlIn) (h : plC B w c p) : plC B w' c p := by
  obtain ⟨s, h1, h2⟩ := h
  exact ⟨s, h1, own_below h2 hb⟩
theorem pbC.below {B : Nat} {w w' : World} (hb : Below w.heap.size w w') (c : List Value) (p : PPB) (h : pbC B w c p) : pbC B w' c p := by
  obtain ⟨s1, s2, h1, h2, h3⟩ := h
  exact ⟨s1, s2, h1, h2.below hb (plC.below hb), own_below h3 hb⟩
theorem plC.kept {B : Nat} {w w' : World} {row : Option Nat} (hg : w.grownBy w' row) (h1 : NoRow w row 3) (c : List Value) (p : PlIn) (h : plC B w c p) : plC B w' c p := by
  obtain ⟨s, e1, h2⟩ := h
  exact ⟨s, e1, World.ownsRow.kept h2 hg (h1 _ _ _ _ _ h2)⟩
theorem pbC.kept {B : Nat} {w w' : World} {row : Option Nat} (hg : w.grownBy w' row) (h1 : NoRow w row 3) (h2 : NoRow w row 47) (c : List Value) (p : PPB) (h : pbC B w c p) : pbC B w' c p := by
  obtain ⟨s1, s2, e1, a1, a2⟩ := h
  refine ⟨s1, s2, e1, a1.kept hg ?_ (plC.kept hg h1), World.ownsRow.kept a2 hg (h1 _ _ _ _ _ a2)⟩
  obtain ⟨cs, a, b, _⟩ := a1
  exact h2 _ _ _ _ _ b
theorem pl_at {B : Nat} {w : World} (c : List Value) (x : PlIn) (b o : Nat) (hl : c.length = 9) (hc : ∀ j u, c[j]? = some u → w.cell? ⟨b, o + j, none⟩ = some u) (h : plC B w c x) : PlacedAt w b o x := by
  obtain ⟨s, rfl, h2⟩ := h
  exact ⟨hc 0 _ rfl, hc 1 _ rfl, hc 2 _ rfl, hc 3 _ rfl, hc 4 _ rfl, hc 5 _ rfl, hc 6 _ rfl, ⟨s, hc 7 _ rfl, OwnInts.ints h2⟩, hc 8 _ rfl⟩
theorem pb_at {B : Nat} {w : World} (c : List Value) (x : PPB) (b o : Nat) (hl : c.length = 6) (hc : ∀ j u, c[j]? = some u → w.cell? ⟨b, o + j, none⟩ = some u) (h : pbC B w c x) : PBlockAt w b o x := by
  obtain ⟨s1, s2, rfl, a1, a2⟩ := h
  exact ⟨⟨s1, hc 0 _ rfl, (a1.row pl_at).1⟩, hc 1 _ rfl, hc 2 _ rfl, hc 3 _ rfl, ⟨s2, hc 4 _ rfl, OwnInts.ints a2⟩, hc 5 _ rfl⟩
/-- One element more behind such a row. -/
theorem wpList_push {α : Type} {P : Program} {w : World} {ops : Array Oper} {rest : List Oper} {o : Oper} {a : Act} {Q : Exit → Act → World → Prop} (hgd : o.guard = none) (s x : Operand)
    (t : TypeId) (ho : o.op = .call { callee := .builtin .append, args := #[s, x], argTypes := #[t, t] }) (hty : o.type = t) (B : Nat) (e : TypeId) (i : TypeInfo) (z : Value) (size bytes : Nat) (ht : P.underlying t = some (.slice e)) (hi : P.info? e = some i) (hz : i.zero = some z)
    (hsize : i.size = size) (hby : i.bytes = bytes) (hzs : z.cells.size = size) (hsz : 0 < size) (R R' : World → List Value → α → Prop) (v0 : Value) (l : List α) (hs : a.eval s = v0) (h0 : RowsOwn B w e size R v0 l) (ad : Addr) (c : Nat) (hx : a.eval x = .slice (some ad) 1 c) (y : α) (news : List Value)
    (hl : news.length = size) (hc : ∀ j u, news[j]? = some u → w.cell? (ad.add j) = some u) (h1 : ∀ u ∈ news, u.oneCell' = true) (hn : l.length ≤ 1000000) (hb : bytes ≤ 1000) (hB : B ≤ w.heap.size)
    (hR : ∀ w', w.grownBy w' v0.ownBlock → ∀ c x, R w c x → R' w' c x) (hy : ∀ w', w.grownBy w' v0.ownBlock → R' w' news y)
    (hK : ∀ v' w', RowsOwn B w' e size R' v' (l ++ [y]) → w.grownBy w' v0.ownBlock → (v'.ownBlock = v0.ownBlock ∨ v'.ownBlock = some w.heap.size) → wpList P ops Q rest (a.put o.dst v') w') : wpList P ops Q (o :: rest) a w := by
  obtain ⟨cs, a1, a2, a3⟩ := h0
  refine wpList_app hgd s x t ho hty B e i z size bytes ht hi hz hsize hby hzs hsz v0 l.length cs.flatten hs a2 ad c hx news hl hc h1 hn hb hB fun v' w' h2 h3 h4 => ?_
  exact hK v' w' (RowsOwn.pushed a1 a3 (hR w' h3) h2 hl (hy w' h3)) h3 h4
theorem info_placed : (Try.prog.info? 47).map (fun i => (i.zero, i.size, i.bytes)) = some (some (.agg #[.int .i64 0, .int .i64 0, .int .i64 0, .int .i64 0, .int .i64 0, .int .i64 0, .int .i32 0, .slice none 0 0, .int .i64 0]), 9, 88) := by kernel_rfl
theorem info_pblock : (Try.prog.info? 45).map (fun i => (i.zero, i.size, i.bytes)) = some (some (.agg #[.slice none 0 0, .int .i64 0, .int .i64 0, .int .i64 0, .slice none 0 0, .int .i32 0]), 6, 80) := by kernel_rfl
theorem nil_ints (B : Nat) (w : World) : OwnInts B w (.slice none 0 0) [] := World.ownsRow_nil _ _ _ _
theorem empty_rows {α : Type} (w : World) (t : TypeId) (size : Nat) (R : World → List Value → α → Prop) : RowsOwn w.heap.size (w.alloc (.cells #[] t)) t size R (.slice (some ⟨w.heap.size, 0, none⟩) 0 0) [] :=
  ⟨[], rfl, World.ownsRow_made w #[] 0 (Nat.le_refl _) (Nat.zero_le _) (by simp), fun i h => absurd h (by simp)⟩
end Go.Proofs.Ytdidacjmcafcpaa.Ph
