/- Moves: jacquardref11.Same. -/
import Derived.Test.YtdohaoomckhbgaaVO
namespace Go.Proofs.Ytdohaoomckhbgaa.Vm
open Go.ChangeShapes Go.WideShapes Go.ChangeAt Go.RowKit Go.Maps Go.WideElems Go.ChangeMaps Go.Sort Go.Shelf Go.Proofs.Ytdohaoomckhbgaa.Mem Go.Proofs.Ytdohaoomckhbgaa.Br Go.Proofs.Ytdohaoomckhbgaa.Va Go.Proofs.Ytdohaoomckhbgaa.Vr
set_option linter.unusedVariables false
set_option linter.unusedSimpArgs false
attribute [local go_sem] Oper.semAt_some
def MaAt (w : World) (b o : Nat) (x : PM) : Prop :=
  w.cell? ⟨b, o, none⟩ = some (.int .i64 x.op) ∧ w.cell? ⟨b, o + 1, none⟩ = some (.int .i64 x.d) ∧ w.cell? ⟨b, o + 2, none⟩ = some (.int .i64 x.e) ∧ w.cell? ⟨b, o + 3, none⟩ = some (.int .i64 x.a) ∧
  w.cell? ⟨b, o + 4, none⟩ = some (.int .i64 x.b) ∧ w.cell? ⟨b, o + 5, none⟩ = some (.int .i64 x.c) ∧ w.cell? ⟨b, o + 6, none⟩ = some (.int .i32 x.imm) ∧ ∃ A c, w.cell? ⟨b, o + 7, none⟩ = some (.slice A 0 c)
theorem MaAt.keep {w w' : World} (hb : Below w.heap.size w w') (b o : Nat) (p : PM) (h : MaAt w b o p) : MaAt w' b o p := by
  obtain ⟨h0, h1, h2, h3, h4, h5, h6, ⟨A, c, h7⟩⟩ := h
  exact ⟨cell_keep hb (Nat.le_refl _) h0, cell_keep hb (Nat.le_refl _) h1, cell_keep hb (Nat.le_refl _) h2, cell_keep hb (Nat.le_refl _) h3, cell_keep hb (Nat.le_refl _) h4, cell_keep hb (Nat.le_refl _) h5, cell_keep hb (Nat.le_refl _) h6, ⟨A, c, cell_keep hb (Nat.le_refl _) h7⟩⟩
def MachAt (w : World) (v : Value) (l : List PM) : Prop := RowAt w 8 MaAt v l
theorem MachAt.keep {w w' : World} {v : Value} {l : List PM} (h : MachAt w v l) (hb : Below w.heap.size w w') : MachAt w' v l := RowAt.kept h (MaAt.keep hb)
theorem flat_get (l : List PM) (k j : Nat) (hk : k < l.length) (hj : j < 8) : (l.flatMap cellsM)[k * 8 + j]? = (cellsM l[k])[j]? := by
  induction l generalizing k with
  | nil => cases hk
  | cons x xs ih =>
    have hx : (cellsM x).length = 8 := rfl
    cases k with
    | zero => rw [List.flatMap_cons, Nat.zero_mul, Nat.zero_add, List.getElem?_append_left (by rw [hx]; exact hj)]; rfl
    | succ k =>
      rw [List.flatMap_cons, List.getElem?_append_right (by rw [hx]; omega), hx, show (k + 1) * 8 + j - 8 = k * 8 + j by omega, ih k (by simpa using hk)]
      rfl
theorem MachAt.of_own {B : Nat} {w : World} {v : Value} {l : List PM} (h : OwnMach B w v l) : MachAt w v l := by
  rcases h.2 with ⟨rfl, h0⟩ | ⟨g, cap, cur, rfl, _, hg, hn, hm, _⟩
  · have : l = [] := List.length_eq_zero_iff.1 h0
    subst this; exact rowAt_nil
  · have hk : ∀ (k : Nat) (hk : k < l.length) (j : Nat) (u : Value), j < 8 → (cellsM l[k])[j]? = some u → w.cell? ⟨g, 0 + k * 8 + j, none⟩ = some u := by
      intro k hk j u hj hu
      rw [Nat.zero_add]
      have h2 := World.ownsRow.cells h (g := g) rfl (k * 8 + j) u (by rw [flat_get l k j hk hj]; exact hu)
      rw [at_add0] at h2
      exact h2
    exact ⟨some ⟨g, 0, none⟩, cap, g, 0, rfl, hn, hm, fun _ => rfl, fun k h1 => ⟨hk k h1 0 _ (by omega) rfl, hk k h1 1 _ (by omega) rfl, hk k h1 2 _ (by omega) rfl, hk k h1 3 _ (by omega) rfl, hk k h1 4 _ (by omega) rfl, hk k h1 5 _ (by omega) rfl, hk k h1 6 _ (by omega) rfl, ⟨_, _, hk k h1 7 _ (by omega) rfl⟩⟩⟩
/-- The fields but Args. -/
def fld (x : PM) : List Int := [x.op, x.d, x.e, x.a, x.b, x.c, x.imm]
def sameN (l m : List PM) : Bool := decide (l.map fld = m.map fld)
theorem sameN_no {l m : List PM} {k : Nat} (hk : k < l.length) (hk' : k < m.length) (h : fld l[k] ≠ fld m[k]) : sameN l m = false := by
  unfold sameN
  refine decide_eq_false (fun e => h ?_)
  have := congrArg (·[k]?) e
  simp only [List.getElem?_map, List.getElem?_eq_getElem hk, List.getElem?_eq_getElem hk', Option.map_some, Option.some.injEq] at this
  exact this
theorem sameN_len {l m : List PM} (h : l.length ≠ m.length) : sameN l m = false := by
  unfold sameN
  refine decide_eq_false (fun e => h ?_)
  have := congrArg List.length e
  simpa using this
theorem take_eqM {l m : List PM} {k : Nat} (hk : k < l.length) (hk' : k < m.length) (h : (l.take k).map fld = (m.take k).map fld) (hx : fld l[k] = fld m[k]) : (l.take (k + 1)).map fld = (m.take (k + 1)).map fld := by
  rw [List.take_succ_eq_append_getElem hk, List.take_succ_eq_append_getElem hk', List.map_append, List.map_append, h]
  simp [hx]
def SamS (l m : List PM) (w : World) (k : Nat) (wr : World) : Prop := (l.take k).map fld = (m.take k).map fld ∧ Below w.heap.size w wr
set_option maxRecDepth 100000 in
set_option maxHeartbeats 4000000 in
theorem same_any (w : World) (va vb : Value) (l m : List PM) (hva : MachAt w va l) (hvb : MachAt w vb m) (hl : l.length ≤ 1000000) :
    Calls Try.prog 28 #[va, vb] w fun e w' => e = .returned (.bool (sameN l m)) ∧ Below w.heap.size w w' := by
  have HA := Lib.hid hva
  have HB := Lib.hid hvb
  obtain ⟨Aa, ca, ba0, oa0, rfl, a1, a2, -⟩ := hva
  obtain ⟨Ab, cb, bb0, ob0, rfl, b1, b2, -⟩ := hvb
  unfold maxLen at a2 b2
  go_enter Try.func28, Try.ntmps28
  by_cases hlen : l.length = m.length
  · have hl1 : ((l.length : Int) != (m.length : Int)) = false := by simp [hlen]
    go_wp2_with fail
    go_loopw [5] (fun i wr => ∃ k : Nat, k ≤ l.length ∧ i = .int .i64 k ∧ SamS l m w k wr) (fun i _ => l.length - (intOf i).toNat)
    case atStart => exact ⟨0, Nat.zero_le _, rfl, by rw [List.take_zero, List.take_zero], Below.refl _ _⟩
    case round =>
      obtain ⟨k, hk, rfl, hS⟩ := hrel
      have HS := Lib.hid hS
      clear hS
      by_cases hlt : k < l.length
      · have hltm : k < m.length := by omega
        obtain ⟨A', c', ga, oa, e, -, -, hA, hc⟩ := HA.out
        injection e with e1 e2 e3
        subst e1 e3
        obtain rfl : Aa = some ⟨ga, oa, none⟩ := hA (by omega)
        have hca := MaAt.keep (w := w) (w' := wr) HS.out.2 _ _ _ (hc k hlt)
        clear hc hA
        obtain ⟨A', c', gb, ob, e, -, -, hA, hc⟩ := HB.out
        injection e with e1 e2 e3
        subst e1 e3
        obtain rfl : Ab = some ⟨gb, ob, none⟩ := hA (by omega)
        have hcb := MaAt.keep (w := w) (w' := wr) HS.out.2 _ _ _ (hc k hltm)
        clear hc hA
        have HN := Lib.hid (fun h => sameN_no hlt hltm h)
        have HT := Lib.hid (fun h => take_eqM hlt hltm HS.out.1 h)
        generalize l[k] = x at *
        generalize m[k] = y at *
        obtain ⟨x0, x1, x2, x3, x4, x5, x6, xn⟩ := x
        obtain ⟨y0, y1, y2, y3, y4, y5, y6, yn⟩ := y
        obtain ⟨c0, c1, c2, c3, c4, c5, c6, ⟨xA, xc, c7⟩⟩ := hca
        simp only at c0 c1 c2 c3 c4 c5 c6 c7
        obtain ⟨W1, hW1⟩ : ∃ W1, wr.alloc (.cells #[.int .i64 x0, .int .i64 x1, .int .i64 x2, .int .i64 x3, .int .i64 x4, .int .i64 x5, .int .i32 x6, .slice xA 0 xc] 48) = W1 := ⟨_, rfl⟩
        have hb1 : Below wr.heap.size wr W1 := by rw [← hW1]; exact (Below.refl _ _).alloc (Nat.le_refl _) _
        have hs1 : Str W1 wr.heap.size 48 [.int .i64 x0, .int .i64 x1, .int .i64 x2, .int .i64 x3, .int .i64 x4, .int .i64 x5, .int .i32 x6, .slice xA 0 xc] := by rw [← hW1]; exact World.alloc_heap_new wr _
        obtain ⟨d0, d1, d2, d3, d4, d5, d6, ⟨yA, yc, d7⟩⟩ := MaAt.keep hb1 _ _ _ hcb
        clear hcb
        simp only at d0 d1 d2 d3 d4 d5 d6 d7
        obtain ⟨W2, hW2⟩ : ∃ W2, W1.alloc (.cells #[.int .i64 y0, .int .i64 y1, .int .i64 y2, .int .i64 y3, .int .i64 y4, .int .i64 y5, .int .i32 y6, .slice yA 0 yc] 48) = W2 := ⟨_, rfl⟩
        have hb2 : Below W1.heap.size W1 W2 := by rw [← hW2]; exact (Below.refl _ _).alloc (Nat.le_refl _) _
        have hs2 : Str W2 W1.heap.size 48 [.int .i64 y0, .int .i64 y1, .int .i64 y2, .int .i64 y3, .int .i64 y4, .int .i64 y5, .int .i32 y6, .slice yA 0 yc] := by rw [← hW2]; exact World.alloc_heap_new W1 _
        have hs1' := hs1.below hb2
        have HBB := Lib.hid (HS.out.2.trans ((hb1.trans (hb2.mono hb1.size)).mono HS.out.2.size))
        have p0 : W2.cell? ⟨wr.heap.size, 0, none⟩ = some (.int .i64 x0) := (hs1').cell 0
        have p1 : W2.cell? ⟨wr.heap.size, 1, none⟩ = some (.int .i64 x1) := (hs1').cell 1
        have p2 : W2.cell? ⟨wr.heap.size, 2, none⟩ = some (.int .i64 x2) := (hs1').cell 2
        have p3 : W2.cell? ⟨wr.heap.size, 3, none⟩ = some (.int .i64 x3) := (hs1').cell 3
        have p4 : W2.cell? ⟨wr.heap.size, 4, none⟩ = some (.int .i64 x4) := (hs1').cell 4
        have p5 : W2.cell? ⟨wr.heap.size, 5, none⟩ = some (.int .i64 x5) := (hs1').cell 5
        have p6 : W2.cell? ⟨wr.heap.size, 6, none⟩ = some (.int .i32 x6) := (hs1').cell 6
        have p7 : W2.cell? ⟨wr.heap.size, 7, none⟩ = some (.slice xA 0 xc) := (hs1').cell 7
        have q0 : W2.cell? ⟨W1.heap.size, 0, none⟩ = some (.int .i64 y0) := (hs2).cell 0
        have q1 : W2.cell? ⟨W1.heap.size, 1, none⟩ = some (.int .i64 y1) := (hs2).cell 1
        have q2 : W2.cell? ⟨W1.heap.size, 2, none⟩ = some (.int .i64 y2) := (hs2).cell 2
        have q3 : W2.cell? ⟨W1.heap.size, 3, none⟩ = some (.int .i64 y3) := (hs2).cell 3
        have q4 : W2.cell? ⟨W1.heap.size, 4, none⟩ = some (.int .i64 y4) := (hs2).cell 4
        have q5 : W2.cell? ⟨W1.heap.size, 5, none⟩ = some (.int .i64 y5) := (hs2).cell 5
        have q6 : W2.cell? ⟨W1.heap.size, 6, none⟩ = some (.int .i32 y6) := (hs2).cell 6
        have q7 : W2.cell? ⟨W1.heap.size, 7, none⟩ = some (.slice yA 0 yc) := (hs2).cell 7
        clear hs1 hs2 hs1' hb1 hb2
        by_cases h0 : x0 = y0
        · subst h0
          have n0 : (x0 != x0) = false := by simp
          by_cases h1 : x1 = y1
          · subst h1
            have n1 : (x1 != x1) = false := by simp
            by_cases h2 : x2 = y2
            · subst h2
              have n2 : (x2 != x2) = false := by simp
              by_cases h3 : x3 = y3
              · subst h3
                have n3 : (x3 != x3) = false := by simp
                by_cases h4 : x4 = y4
                · subst h4
                  have n4 : (x4 != x4) = false := by simp
                  by_cases h5 : x5 = y5
                  · subst h5
                    have n5 : (x5 != x5) = false := by simp
                    by_cases h6 : x6 = y6
                    · subst h6
                      have n6 : (x6 != x6) = false := by simp
                      go_wp2_with fail
                      exact ⟨⟨k + 1, by omega, by go_num, ⟨HT.out rfl, HBB.out⟩⟩, by simp [intOf]; omega⟩
                    · have n6 : (x6 != y6) = true := by simp [h6]
                      have HZ := Lib.hid (HN.out (fun e => h6 (by unfold fld at e; simp only [List.cons.injEq, and_true] at e; exact e.2.2.2.2.2.2)))
                      clear h6
                      go_wp2_with fail
                      go_ret
                      rw [HZ.out]
                      exact ⟨rfl, HBB.out⟩
                  · have n5 : (x5 != y5) = true := by simp [h5]
                    have HZ := Lib.hid (HN.out (fun e => h5 (by unfold fld at e; simp only [List.cons.injEq, and_true] at e; exact e.2.2.2.2.2.1)))
                    clear h5
                    go_wp2_with fail
                    go_ret
                    rw [HZ.out]
                    exact ⟨rfl, HBB.out⟩
                · have n4 : (x4 != y4) = true := by simp [h4]
                  have HZ := Lib.hid (HN.out (fun e => h4 (by unfold fld at e; simp only [List.cons.injEq, and_true] at e; exact e.2.2.2.2.1)))
                  clear h4
                  go_wp2_with fail
                  go_ret
                  rw [HZ.out]
                  exact ⟨rfl, HBB.out⟩
              · have n3 : (x3 != y3) = true := by simp [h3]
                have HZ := Lib.hid (HN.out (fun e => h3 (by unfold fld at e; simp only [List.cons.injEq, and_true] at e; exact e.2.2.2.1)))
                clear h3
                go_wp2_with fail
                go_ret
                rw [HZ.out]
                exact ⟨rfl, HBB.out⟩
            · have n2 : (x2 != y2) = true := by simp [h2]
              have HZ := Lib.hid (HN.out (fun e => h2 (by unfold fld at e; simp only [List.cons.injEq, and_true] at e; exact e.2.2.1)))
              clear h2
              go_wp2_with fail
              go_ret
              rw [HZ.out]
              exact ⟨rfl, HBB.out⟩
          · have n1 : (x1 != y1) = true := by simp [h1]
            have HZ := Lib.hid (HN.out (fun e => h1 (by unfold fld at e; simp only [List.cons.injEq, and_true] at e; exact e.2.1)))
            clear h1
            go_wp2_with fail
            go_ret
            rw [HZ.out]
            exact ⟨rfl, HBB.out⟩
        · have n0 : (x0 != y0) = true := by simp [h0]
          have HZ := Lib.hid (HN.out (fun e => h0 (by unfold fld at e; simp only [List.cons.injEq, and_true] at e; exact e.1)))
          clear h0
          go_wp2_with fail
          go_ret
          rw [HZ.out]
          exact ⟨rfl, HBB.out⟩
      · obtain rfl : k = l.length := by omega
        go_wp2_with fail
        go_ret
        refine ⟨?_, HS.out.2⟩
        have h := HS.out.1
        rw [List.take_length, show l.length = m.length from hlen, List.take_length] at h
        rw [show sameN l m = true by unfold sameN; exact decide_eq_true h]
        rfl
  · have hl1 : ((l.length : Int) != (m.length : Int)) = true := by simp; omega
    go_wp2_with fail
    go_ret
    rw [sameN_len hlen]
    exact ⟨rfl, Below.refl _ _⟩
end Go.Proofs.Ytdohaoomckhbgaa.Vm
