/- Moves: rows of moves and of instructions that came in, opened. -/
import Derived.Test.YtdohaoomckhbgaaVLW
import Derived.WalkKit
import Derived.ProofKit
import Derived.OpenShut
import Derived.Deep.Slices
namespace Go.Proofs.Ytdohaoomckhbgaa.Vm
open Go.ChangeShapes Go.WideShapes Go.ChangeAt Go.RowKit Go.Deep Go.Proofs.Ytdohaoomckhbgaa.Mem Go.Proofs.Ytdohaoomckhbgaa.Br Go.Proofs.Ytdohaoomckhbgaa.Va
set_option linter.unusedVariables false
set_option linter.unusedSimpArgs false
theorem cells_int : Try.prog.cellsOf 3 = 1 := by kernel_rfl
theorem cells_i32 : Try.prog.cellsOf 21 = 1 := by kernel_rfl
theorem cells_ints : Try.prog.cellsOf 23 = 1 := by kernel_rfl
theorem cells_mv : Try.prog.cellsOf 43 = 2 := by kernel_rfl
theorem cells_mach : Try.prog.cellsOf 48 = 8 := by kernel_rfl
theorem plain_of {w : World} {a : Addr} {v : Value} (h : w.cell? a = some v) : a = ⟨a.block, a.off, none⟩ := by
  obtain ⟨b, o, s⟩ := a
  cases s with
  | none => rfl
  | some q =>
    exfalso
    simp only [World.cell?] at h
    split at h <;> simp at h
theorem plain_add (b o k : Nat) : (⟨b, o, none⟩ : Addr).add k = ⟨b, o + k, none⟩ := by
  unfold Addr.add
  by_cases h : k = 0
  · subst h; rfl
  · rw [if_neg h]
section
variable {H : Type} {enc : TypeId × Value → H} {W : World} {base : Nat} {held : Bool}
theorem ints_open {fuel : Nat} {v : Value} {x : DataW H × List MemPlace} (h : DataW.trod enc Try.prog W base (fun _ => true) held fuel 23 [v] = some x) : ∃ A n c, v = .slice A n c ∧ n ≤ maxLen := by
  rcases open_ints Try.underlying23 Try.underlying3 cells_int h with ⟨e, _⟩ | ⟨a, len, cap, zs, e, _, hl, hm, hz, _, hcell, hwf⟩
  · injection e with e _
    exact ⟨_, _, _, e, Nat.zero_le _⟩
  · injection e with e _
    exact ⟨_, _, _, e, Nat.le_trans hl hm⟩
theorem words_open {fuel : Nat} {v : Value} {x : DataW H × List MemPlace} (h : DataW.trod enc Try.prog W base (fun _ => true) held fuel 31 [v] = some x) : ∃ l, WordsAt W v l := by
  rcases open_ints Try.underlying31 Try.underlying21 cells_i32 h with ⟨e, _⟩ | ⟨a, len, cap, zs, e, _, hl, hm, hz, _, hcell, hwf⟩
  · injection e with e _
    subst e
    exact ⟨[], WordsAt.none_ W⟩
  · injection e with e _
    subst e
    simp only [if_true] at hz
    have e : (zs.take len).length = len := by rw [List.length_take]; omega
    refine ⟨zs.take len, some a, cap, by rw [e], by omega, hm, fun k hk => ⟨a, rfl, ?_⟩⟩
    have hk2 : k < zs.length := by omega
    rw [hcell k hk2, List.getElem_take, List.getD_eq_getElem?_getD, List.getElem?_eq_getElem hk2]; rfl
theorem row_open {α : Type} [Inhabited α] {t e : TypeId} {size : Nat} {R : World → Nat → Nat → α → Prop} {Good : α → Prop} (ht : Try.prog.underlying t = some (.slice e)) (ce : Try.prog.cellsOf e = size) (hpos : 0 < size)
    (each : ∀ n b o cs y, cs.length = size → (∀ j, j < size → W.cell? ⟨b, o + j, none⟩ = cs[j]?) → DataW.trod enc Try.prog W base (fun _ => true) held n e cs = some y → ∃ x, R W b o x ∧ Good x)
    {fuel : Nat} {v : Value} {x : DataW H × List MemPlace} (h : DataW.trod enc Try.prog W base (fun _ => true) held fuel t [v] = some x) : ∃ l, RowAt W size R v l ∧ ∀ x ∈ l, Good x := by
  rcases open_slice ht h with ⟨e, _⟩ | ⟨a, len, cap, m, n, D, Pl, e, hb, hl, hm, hmm, _, hx⟩
  · injection e with e _
    subst e
    exact ⟨[], rowAt_nil, by simp⟩
  · injection e with e _
    subst e
    simp only [if_true] at hmm
    rcases Nat.eq_zero_or_pos len with h0 | hp
    · subst h0
      exact ⟨[], ⟨some a, cap, 0, 0, rfl, hl, hm, fun hp => absurd hp (by simp), fun k hk => absurd hk (by simp)⟩, by simp⟩
    · have hpl : a = ⟨a.block, a.off, none⟩ := by
        obtain ⟨cs', h1, h2⟩ := hx 0 (by omega)
        rw [ce, Nat.zero_mul] at h1
        obtain ⟨_, hlen, hc⟩ := World.cells?_some h1
        have h3 := hc 0 hpos
        rw [show (a.add 0).add 0 = a from rfl, List.getElem?_eq_getElem (by omega)] at h3
        exact plain_of h3
      obtain ⟨b, o, s⟩ := a
      simp only at hpl
      injection hpl with _ _ hpl
      subst hpl
      have each' : ∀ i, i < len → ∃ x, R W b (o + i * size) x ∧ Good x := fun i hi => by
        obtain ⟨cs', h1, h2⟩ := hx i (by omega)
        rw [ce] at h1
        obtain ⟨_, hlen, hc⟩ := World.cells?_some h1
        exact each n b _ cs' _ hlen (fun j hj => by have := hc j hj; rw [plain_add, plain_add] at this; exact this) h2
      obtain ⟨E, hE⟩ := choose_lt each'
      have hll : ((List.range len).map E).length = len := by simp
      refine ⟨(List.range len).map E, ⟨some ⟨b, o, none⟩, cap, b, o, by rw [hll], by rw [hll]; exact hl, hm, fun _ => rfl, fun k hk => ?_⟩, fun x hx => ?_⟩
      · rw [hll] at hk
        rw [List.getElem_map, List.getElem_range]
        exact (hE k hk).1
      · obtain ⟨i, hi, rfl⟩ := List.mem_map.1 hx
        exact (hE i (List.mem_range.1 hi)).2
instance : Inhabited PM := ⟨⟨0, 0, 0, 0, 0, 0, 0, 0⟩⟩
set_option maxRecDepth 100000 in
theorem mv_open (n b o : Nat) (cs : List Value) (y : DataW H × List MemPlace) (hl : cs.length = 2) (hc : ∀ j, j < 2 → W.cell? ⟨b, o + j, none⟩ = cs[j]?) (h : DataW.trod enc Try.prog W base (fun _ => true) held n 43 cs = some y) :
    ∃ x : Int × Int, MvAt W b o x ∧ InI x.1 ∧ InI x.2 := by
  obtain ⟨xs, k, _, _, _, hxl, hx⟩ := DataW.trod_struct Try.underlying43 h
  match xs, hxl, cs, hl with
  | [y0, y1], _, [v0, v1], _ =>
    have h0 := hx 0 _ rfl
    have h1 := hx 1 _ rfl
    simp [cells_int] at h0 h1
    obtain ⟨q0, e0, _, g0⟩ := DataW.trod_int Try.underlying3 h0
    obtain ⟨q1, e1, _, g1⟩ := DataW.trod_int Try.underlying3 h1
    injection e0 with e0 _
    injection e1 with e1 _
    subst e0 e1
    exact ⟨(q0, q1), ⟨hc 0 (by omega), hc 1 (by omega)⟩, bounds_i64 g0, bounds_i64 g1⟩
set_option maxRecDepth 100000 in
theorem pm_open (n b o : Nat) (cs : List Value) (y : DataW H × List MemPlace) (hl : cs.length = 8) (hc : ∀ j, j < 8 → W.cell? ⟨b, o + j, none⟩ = cs[j]?) (h : DataW.trod enc Try.prog W base (fun _ => true) held n 48 cs = some y) :
    ∃ x : PM, PmAt W b o x ∧ True := by
  obtain ⟨xs, k, _, _, _, hxl, hx⟩ := DataW.trod_struct Try.underlying48 h
  match xs, hxl, cs, hl with
  | [y0, y1, y2, y3, y4, y5, y6, y7], _, [v0, v1, v2, v3, v4, v5, v6, v7], _ =>
    have h0 := hx 0 _ rfl
    have h1 := hx 1 _ rfl
    have h2 := hx 2 _ rfl
    have h3 := hx 3 _ rfl
    have h4 := hx 4 _ rfl
    have h5 := hx 5 _ rfl
    have h6 := hx 6 _ rfl
    have h7 := hx 7 _ rfl
    simp [cells_int, cells_ints, cells_i32] at h0 h1 h2 h3 h4 h5 h6 h7
    obtain ⟨q0, e0, _, g0⟩ := DataW.trod_int Try.underlying3 h0
    obtain ⟨q1, e1, _, g1⟩ := DataW.trod_int Try.underlying3 h1
    obtain ⟨q2, e2, _, g2⟩ := DataW.trod_int Try.underlying3 h2
    obtain ⟨q3, e3, _, g3⟩ := DataW.trod_int Try.underlying3 h3
    obtain ⟨q4, e4, _, g4⟩ := DataW.trod_int Try.underlying3 h4
    obtain ⟨q5, e5, _, g5⟩ := DataW.trod_int Try.underlying3 h5
    obtain ⟨q6, e6, _, g6⟩ := DataW.trod_int Try.underlying21 h6
    obtain ⟨A7, n7, c7, e7, r7⟩ := ints_open h7
    injection e0 with e0 _
    injection e1 with e1 _
    injection e2 with e2 _
    injection e3 with e3 _
    injection e4 with e4 _
    injection e5 with e5 _
    injection e6 with e6 _
    subst e0 e1 e2 e3 e4 e5 e6 e7
    have hw := bounds_i32 g6
    exact ⟨⟨q0, q1, q2, q3, q4, q5, q6, n7⟩, ⟨hc 0 (by omega), hc 1 (by omega), hc 2 (by omega), hc 3 (by omega), hc 4 (by omega), hc 5 (by omega), hc 6 (by omega), ⟨A7, c7, hc 7 (by omega)⟩, hw.1, hw.2, r7⟩, trivial⟩
theorem moves_open {fuel : Nat} {v : Value} {x : DataW H × List MemPlace} (h : DataW.trod enc Try.prog W base (fun _ => true) held fuel 22 [v] = some x) : ∃ l, MovesAt W v l ∧ Rng l := by
  obtain ⟨l, h1, h2⟩ := row_open (Good := fun x : Mov => InI x.1 ∧ InI x.2) Try.underlying22 cells_mv (by omega) mv_open h
  exact ⟨l, h1, h2⟩
theorem pms_open {fuel : Nat} {v : Value} {x : DataW H × List MemPlace} (h : DataW.trod enc Try.prog W base (fun _ => true) held fuel 30 [v] = some x) : ∃ l, PmsAt W v l := by
  obtain ⟨l, h1, h2⟩ := row_open (Good := fun x : PM => True) Try.underlying30 cells_mach (by omega) pm_open h
  exact ⟨l, h1⟩
end
end Go.Proofs.Ytdohaoomckhbgaa.Vm
