/- Stage 7: what mach's do does with rows of registers. -/
import Derived.Test.YtdidacjmcafcpaaMC
import Derived.Test.YtdidacjmcafcpaaMD
import Derived.Test.YtdidacjmcafcpaaInv
namespace Go.Proofs.Ytdidacjmcafcpaa.Mc
open Go.ChangeShapes Go.WideShapes Go.ChangeAt Go.RowKit Go.Proofs.Ytdidacjmcafcpaa.Mem Go.Proofs.Ytdidacjmcafcpaa.Kc Go.Proofs.Ytdidacjmcafcpaa.Pl Go.Proofs.Ytdidacjmcafcpaa.Mw Go.Proofs.Ytdidacjmcafcpaa.Br
set_option linter.unusedVariables false
set_option linter.unusedSimpArgs false
theorem getD_true {L : Array Bool} {i : Nat} (h : L.getD i false = true) (d : Bool) : L.getD i d = true := by
  rcases Nat.lt_or_ge i L.size with g | g
  · simp [Array.getD, g] at h ⊢
    exact h
  · simp [Array.getD, Nat.not_lt.2 g] at h
/-- What holds in the middle of do's first drawn region, whatever was done by then. -/
structure R5 (W : World) (iv s3 s2 : Value) (v3 v2 : List Value) (L : Array Bool) (x24 x25 x26 x27 x10 x11 : Value) (w : World) : Prop where
  below : Below W.heap.size W w
  l0 : L.getD 0 false = true → x24 = iv
  l1 : L.getD 1 false = true → x25 = s3
  l2 : L.getD 2 false = true → x26 = iv
  l3 : L.getD 3 false = true → x27 = s2
  l4 : L.getD 4 false = true → ∃ b, x10 = .pointer (some ⟨b, 0, none⟩) ∧ W.heap.size ≤ b ∧ (L.getD 6 false = false → Str w b 27 [.int .i64 0, .int .i64 0, .int .i64 0]) ∧ (L.getD 6 false = true → Str w b 27 v3)
  l5 : L.getD 5 false = true → ∃ b, x11 = .pointer (some ⟨b, 0, none⟩) ∧ W.heap.size ≤ b ∧ (L.getD 7 false = false → Str w b 90 [.int .i64 0, .int .i64 0]) ∧ (L.getD 7 false = true → Str w b 90 v2)
  c6 : L.getD 6 false = true → L.getD 4 false = true
  c7 : L.getD 7 false = true → L.getD 5 false = true
section
variable {W : World} {iv s3 s2 : Value} {v3 v2 : List Value} {L : Array Bool} {x24 x25 x26 x27 x10 x11 : Value} {w : World}
theorem R5.start (hs : Below W.heap.size W w) (n : Nat) : R5 W iv s3 s2 v3 v2 (Array.replicate n false) x24 x25 x26 x27 x10 x11 w := by
  have h : ∀ i, (Array.replicate n false).getD i false = false := fun i => by simp [Array.getD]
  exact ⟨hs, fun e => (by rw [h] at e; cases e), fun e => (by rw [h] at e; cases e), fun e => (by rw [h] at e; cases e), fun e => (by rw [h] at e; cases e), fun e => (by rw [h] at e; cases e), fun e => (by rw [h] at e; cases e), fun e => (by rw [h] at e; cases e), fun e => (by rw [h] at e; cases e)⟩
theorem R5.world (h : R5 W iv s3 s2 v3 v2 L x24 x25 x26 x27 x10 x11 w) {w' : World} (hb : Below w.heap.size w w') : R5 W iv s3 s2 v3 v2 L x24 x25 x26 x27 x10 x11 w' where
  below := h.below.trans (hb.mono h.below.size)
  l0 := h.l0
  l1 := h.l1
  l2 := h.l2
  l3 := h.l3
  l4 := fun e => by obtain ⟨b, e1, e2, e3, e4⟩ := h.l4 e; exact ⟨b, e1, e2, fun g => (e3 g).below hb, fun g => (e4 g).below hb⟩
  l5 := fun e => by obtain ⟨b, e1, e2, e3, e4⟩ := h.l5 e; exact ⟨b, e1, e2, fun g => (e3 g).below hb, fun g => (e4 g).below hb⟩
  c6 := h.c6
  c7 := h.c7
theorem R5.p0 (h : R5 W iv s3 s2 v3 v2 L x24 x25 x26 x27 x10 x11 w) : R5 W iv s3 s2 v3 v2 (L.setIfInBounds 0 true) iv x25 x26 x27 x10 x11 w := by
  have e1 : ∀ j, j ≠ 0 → (L.setIfInBounds 0 true).getD j false = L.getD j false := fun j hj => getD_set_ne false (Ne.symm hj)
  refine ⟨h.below, ?_, ?_, ?_, ?_, ?_, ?_, ?_, ?_⟩
  · exact fun _ => rfl
  · rw [e1 1 (by decide)]; exact h.l1
  · rw [e1 2 (by decide)]; exact h.l2
  · rw [e1 3 (by decide)]; exact h.l3
  · rw [e1 4 (by decide), e1 6 (by decide)]; exact h.l4
  · rw [e1 5 (by decide), e1 7 (by decide)]; exact h.l5
  · rw [e1 4 (by decide), e1 6 (by decide)]; exact h.c6
  · rw [e1 5 (by decide), e1 7 (by decide)]; exact h.c7
theorem R5.p1 (h : R5 W iv s3 s2 v3 v2 L x24 x25 x26 x27 x10 x11 w) : R5 W iv s3 s2 v3 v2 (L.setIfInBounds 1 true) x24 s3 x26 x27 x10 x11 w := by
  have e1 : ∀ j, j ≠ 1 → (L.setIfInBounds 1 true).getD j false = L.getD j false := fun j hj => getD_set_ne false (Ne.symm hj)
  refine ⟨h.below, ?_, ?_, ?_, ?_, ?_, ?_, ?_, ?_⟩
  · rw [e1 0 (by decide)]; exact h.l0
  · exact fun _ => rfl
  · rw [e1 2 (by decide)]; exact h.l2
  · rw [e1 3 (by decide)]; exact h.l3
  · rw [e1 4 (by decide), e1 6 (by decide)]; exact h.l4
  · rw [e1 5 (by decide), e1 7 (by decide)]; exact h.l5
  · rw [e1 4 (by decide), e1 6 (by decide)]; exact h.c6
  · rw [e1 5 (by decide), e1 7 (by decide)]; exact h.c7
theorem R5.p2 (h : R5 W iv s3 s2 v3 v2 L x24 x25 x26 x27 x10 x11 w) : R5 W iv s3 s2 v3 v2 (L.setIfInBounds 2 true) x24 x25 iv x27 x10 x11 w := by
  have e1 : ∀ j, j ≠ 2 → (L.setIfInBounds 2 true).getD j false = L.getD j false := fun j hj => getD_set_ne false (Ne.symm hj)
  refine ⟨h.below, ?_, ?_, ?_, ?_, ?_, ?_, ?_, ?_⟩
  · rw [e1 0 (by decide)]; exact h.l0
  · rw [e1 1 (by decide)]; exact h.l1
  · exact fun _ => rfl
  · rw [e1 3 (by decide)]; exact h.l3
  · rw [e1 4 (by decide), e1 6 (by decide)]; exact h.l4
  · rw [e1 5 (by decide), e1 7 (by decide)]; exact h.l5
  · rw [e1 4 (by decide), e1 6 (by decide)]; exact h.c6
  · rw [e1 5 (by decide), e1 7 (by decide)]; exact h.c7
theorem R5.p3 (h : R5 W iv s3 s2 v3 v2 L x24 x25 x26 x27 x10 x11 w) : R5 W iv s3 s2 v3 v2 (L.setIfInBounds 3 true) x24 x25 x26 s2 x10 x11 w := by
  have e1 : ∀ j, j ≠ 3 → (L.setIfInBounds 3 true).getD j false = L.getD j false := fun j hj => getD_set_ne false (Ne.symm hj)
  refine ⟨h.below, ?_, ?_, ?_, ?_, ?_, ?_, ?_, ?_⟩
  · rw [e1 0 (by decide)]; exact h.l0
  · rw [e1 1 (by decide)]; exact h.l1
  · rw [e1 2 (by decide)]; exact h.l2
  · exact fun _ => rfl
  · rw [e1 4 (by decide), e1 6 (by decide)]; exact h.l4
  · rw [e1 5 (by decide), e1 7 (by decide)]; exact h.l5
  · rw [e1 4 (by decide), e1 6 (by decide)]; exact h.c6
  · rw [e1 5 (by decide), e1 7 (by decide)]; exact h.c7
theorem R5.p4 (h : R5 W iv s3 s2 v3 v2 L x24 x25 x26 x27 x10 x11 w) (hn : L.getD 4 true = false) : R5 W iv s3 s2 v3 v2 (L.setIfInBounds 4 true) x24 x25 x26 x27 (.pointer (some ⟨w.heap.size, 0, none⟩)) x11 (w.alloc (.cells #[.int .i64 0, .int .i64 0, .int .i64 0] 27)) := by
  have e1 : ∀ j, j ≠ 4 → (L.setIfInBounds 4 true).getD j false = L.getD j false := fun j hj => getD_set_ne false (Ne.symm hj)
  have hn4 : L.getD 4 false = false := by
    cases hc : L.getD 4 false with
    | false => rfl
    | true => have := getD_true hc true; rw [hn] at this; cases this
  have hn6 : L.getD 6 false = false := by
    cases hc : L.getD 6 false with
    | false => rfl
    | true => rw [h.c6 hc] at hn4; cases hn4
  have hb : Below w.heap.size w (w.alloc (.cells #[.int .i64 0, .int .i64 0, .int .i64 0] 27)) := (Below.refl _ _).alloc (Nat.le_refl _) _
  have hbw := h.below
  have h := h.world hb
  refine ⟨h.below, ?_, ?_, ?_, ?_, ?_, ?_, ?_, ?_⟩
  · rw [e1 0 (by decide)]; exact h.l0
  · rw [e1 1 (by decide)]; exact h.l1
  · rw [e1 2 (by decide)]; exact h.l2
  · rw [e1 3 (by decide)]; exact h.l3
  · rw [e1 6 (by decide)]
    exact fun _ => ⟨w.heap.size, rfl, (by have := h.below.size; have := hbw.size; omega), fun _ => World.alloc_heap_new w _, fun g => (by rw [hn6] at g; cases g)⟩
  · rw [e1 5 (by decide), e1 7 (by decide)]; exact h.l5
  · rw [e1 6 (by decide), hn6]; intro g; cases g
  · rw [e1 5 (by decide), e1 7 (by decide)]; exact h.c7
theorem R5.p5 (h : R5 W iv s3 s2 v3 v2 L x24 x25 x26 x27 x10 x11 w) (hn : L.getD 5 true = false) : R5 W iv s3 s2 v3 v2 (L.setIfInBounds 5 true) x24 x25 x26 x27 x10 (.pointer (some ⟨w.heap.size, 0, none⟩)) (w.alloc (.cells #[.int .i64 0, .int .i64 0] 90)) := by
  have e1 : ∀ j, j ≠ 5 → (L.setIfInBounds 5 true).getD j false = L.getD j false := fun j hj => getD_set_ne false (Ne.symm hj)
  have hn4 : L.getD 5 false = false := by
    cases hc : L.getD 5 false with
    | false => rfl
    | true => have := getD_true hc true; rw [hn] at this; cases this
  have hn6 : L.getD 7 false = false := by
    cases hc : L.getD 7 false with
    | false => rfl
    | true => rw [h.c7 hc] at hn4; cases hn4
  have hb : Below w.heap.size w (w.alloc (.cells #[.int .i64 0, .int .i64 0] 90)) := (Below.refl _ _).alloc (Nat.le_refl _) _
  have hbw := h.below
  have h := h.world hb
  refine ⟨h.below, ?_, ?_, ?_, ?_, ?_, ?_, ?_, ?_⟩
  · rw [e1 0 (by decide)]; exact h.l0
  · rw [e1 1 (by decide)]; exact h.l1
  · rw [e1 2 (by decide)]; exact h.l2
  · rw [e1 3 (by decide)]; exact h.l3
  · rw [e1 4 (by decide), e1 6 (by decide)]; exact h.l4
  · rw [e1 7 (by decide)]
    exact fun _ => ⟨w.heap.size, rfl, (by have := h.below.size; have := hbw.size; omega), fun _ => World.alloc_heap_new w _, fun g => (by rw [hn6] at g; cases g)⟩
  · rw [e1 4 (by decide), e1 6 (by decide)]; exact h.c6
  · rw [e1 7 (by decide), hn6]; intro g; cases g
theorem str_ne {w : World} {x y : Nat} {t u : TypeId} {vs us : List Value} (h : Str w x t vs) (g : Str w y u us) (ht : t ≠ u) : x ≠ y := by
  intro e
  subst e
  unfold Str at h g
  rw [h] at g
  injection g with g
  injection g with g1 g2
  exact ht g2
theorem R5.p6 (h : R5 W iv s3 s2 v3 v2 L x24 x25 x26 x27 x10 x11 w) (hn : L.getD 6 true = false) (h4 : L.getD 4 false = true) {b : Nat} (hx : x10 = .pointer (some ⟨b, 0, none⟩)) (a0 a1 a2 : Value) (hv : v3 = [a0, a1, a2]) : R5 W iv s3 s2 v3 v2 (L.setIfInBounds 6 true) x24 x25 x26 x27 x10 x11 (((w.setCell ⟨b, 0, none⟩ a0).setCell ⟨b, 1, none⟩ a1).setCell ⟨b, 2, none⟩ a2) := by
  have e1 : ∀ j, j ≠ 6 → (L.setIfInBounds 6 true).getD j false = L.getD j false := fun j hj => getD_set_ne false (Ne.symm hj)
  have hn6 : L.getD 6 false = false := by
    cases hc : L.getD 6 false with
    | false => rfl
    | true => have := getD_true hc true; rw [hn] at this; cases this
  obtain ⟨b', hx', hge, hz, _⟩ := h.l4 h4
  rw [hx] at hx'
  obtain rfl : b = b' := by injection hx' with hx'; injection hx' with hx'; injection hx'
  have hz := hz hn6
  have hs : Str (((w.setCell ⟨b, 0, none⟩ a0).setCell ⟨b, 1, none⟩ a1).setCell ⟨b, 2, none⟩ a2) b 27 [a0, a1, a2] := by
    have h1 := ((hz.set 0 a0).set 1 a1).set 2 a2
    simpa using h1
  have hbut : But b w (((w.setCell ⟨b, 0, none⟩ a0).setCell ⟨b, 1, none⟩ a1).setCell ⟨b, 2, none⟩ a2) := three_but _ _ _
  have hW : Below W.heap.size W (((w.setCell ⟨b, 0, none⟩ a0).setCell ⟨b, 1, none⟩ a1).setCell ⟨b, 2, none⟩ a2) := h.below.trans (below_of_but hbut hge h.below.size)
  have hlen : 6 < L.size := by
    rcases Nat.lt_or_ge 6 L.size with g | g
    · exact g
    · simp [Array.getD, Nat.not_lt.2 g] at hn
  have e2 : (L.setIfInBounds 6 true).getD 6 false = true := by simp [Array.getD, hlen]
  refine ⟨hW, ?_, ?_, ?_, ?_, ?_, ?_, ?_, ?_⟩
  · rw [e1 0 (by decide)]; exact h.l0
  · rw [e1 1 (by decide)]; exact h.l1
  · rw [e1 2 (by decide)]; exact h.l2
  · rw [e1 3 (by decide)]; exact h.l3
  · rw [e1 4 (by decide), e2]
    exact fun _ => ⟨b, hx, hge, fun g => (by cases g), fun _ => (by rw [hv]; exact hs)⟩
  · rw [e1 5 (by decide), e1 7 (by decide)]
    intro g
    obtain ⟨c, g1, g2, g3, g4⟩ := h.l5 g
    exact ⟨c, g1, g2, fun k => hbut.str (g3 k) (str_ne (g3 k) hz (by decide)), fun k => hbut.str (g4 k) (str_ne (g4 k) hz (by decide))⟩
  · rw [e1 4 (by decide)]; exact fun _ => h4
  · rw [e1 5 (by decide), e1 7 (by decide)]; exact h.c7
theorem R5.p7 (h : R5 W iv s3 s2 v3 v2 L x24 x25 x26 x27 x10 x11 w) (hn : L.getD 7 true = false) (h4 : L.getD 5 false = true) {b : Nat} (hx : x11 = .pointer (some ⟨b, 0, none⟩)) (a0 a1 : Value) (hv : v2 = [a0, a1]) : R5 W iv s3 s2 v3 v2 (L.setIfInBounds 7 true) x24 x25 x26 x27 x10 x11 ((w.setCell ⟨b, 0, none⟩ a0).setCell ⟨b, 1, none⟩ a1) := by
  have e1 : ∀ j, j ≠ 7 → (L.setIfInBounds 7 true).getD j false = L.getD j false := fun j hj => getD_set_ne false (Ne.symm hj)
  have hn6 : L.getD 7 false = false := by
    cases hc : L.getD 7 false with
    | false => rfl
    | true => have := getD_true hc true; rw [hn] at this; cases this
  obtain ⟨b', hx', hge, hz, _⟩ := h.l5 h4
  rw [hx] at hx'
  obtain rfl : b = b' := by injection hx' with hx'; injection hx' with hx'; injection hx'
  have hz := hz hn6
  have hs : Str ((w.setCell ⟨b, 0, none⟩ a0).setCell ⟨b, 1, none⟩ a1) b 90 [a0, a1] := by
    have h1 := ((hz.set 0 a0).set 1 a1)
    simpa using h1
  have hbut : But b w ((w.setCell ⟨b, 0, none⟩ a0).setCell ⟨b, 1, none⟩ a1) := (but_set b 0 a0 w).trans (but_set b 1 a1 _)
  have hW : Below W.heap.size W ((w.setCell ⟨b, 0, none⟩ a0).setCell ⟨b, 1, none⟩ a1) := h.below.trans (below_of_but hbut hge h.below.size)
  have hlen : 7 < L.size := by
    rcases Nat.lt_or_ge 7 L.size with g | g
    · exact g
    · simp [Array.getD, Nat.not_lt.2 g] at hn
  have e2 : (L.setIfInBounds 7 true).getD 7 false = true := by simp [Array.getD, hlen]
  refine ⟨hW, ?_, ?_, ?_, ?_, ?_, ?_, ?_, ?_⟩
  · rw [e1 0 (by decide)]; exact h.l0
  · rw [e1 1 (by decide)]; exact h.l1
  · rw [e1 2 (by decide)]; exact h.l2
  · rw [e1 3 (by decide)]; exact h.l3
  · rw [e1 4 (by decide), e1 6 (by decide)]
    intro g
    obtain ⟨c, g1, g2, g3, g4⟩ := h.l4 g
    exact ⟨c, g1, g2, fun k => hbut.str (g3 k) (str_ne (g3 k) hz (by decide)), fun k => hbut.str (g4 k) (str_ne (g4 k) hz (by decide))⟩
  · rw [e1 5 (by decide), e2]
    exact fun _ => ⟨b, hx, hge, fun g => (by cases g), fun _ => (by rw [hv]; exact hs)⟩
  · rw [e1 4 (by decide), e1 6 (by decide)]; exact h.c6
  · rw [e1 5 (by decide)]; exact fun _ => h4
end
theorem getD_not {L : Array Bool} {i : Nat} (hn : L.getD i true = false) : L.getD i false = false := by
  cases hc : L.getD i false with
  | false => rfl
  | true => have := getD_true hc true; rw [hn] at this; cases this
theorem eql_nil (w : World) : (binOp .eql 94 .nilFunc .nilFunc).run Try.prog w = .ok (.bool true) w := by kernel_rfl
theorem eql_fn (F : Nat) (w : World) : (binOp .eql 94 (.func (.func F) #[] #[]) .nilFunc).run Try.prog w = .ok (.bool false) w := by kernel_rfl
/-- What an operation takes of words, those that it doesn't take being 0. -/
def tookF (n : Nat) (a b c : Int) : List Int := [if 1 ≤ n then a else 0, if 2 ≤ n then b else 0, if 3 ≤ n then c else 0]
set_option maxRecDepth 100000 in
set_option maxHeartbeats 4000000 in
theorem dorow_nil (w : World) (i : PMach) (A : Option Addr) (n k : Nat) (rA mA : Option Addr) (rn rc mn mc : Nat) (hf : fnV i.op = .nilFunc) :
    Calls Try.prog 108 #[.agg #[.int .i64 i.op, .int .i64 i.d, .int .i64 i.e, .int .i64 i.a, .int .i64 i.b, .int .i64 i.c, .int .i32 i.imm, .slice A n k], .slice rA rn rc, .slice mA mn mc] w (fun en w' => en = .returned (.tuple #[.int .i32 0, .bool true]) ∧ Below w.heap.size w w') := by
  go_enter Try.func108, Try.ntmps108
  go_upto_region 1 with (fail)
  obtain ⟨W1, hW1⟩ : ∃ W1, w.alloc (.cells #[.int .i64 i.op, .int .i64 i.d, .int .i64 i.e, .int .i64 i.a, .int .i64 i.b, .int .i64 i.c, .int .i32 i.imm, .slice A n k] 24) = W1 := ⟨_, rfl⟩
  have hbW1 : Below w.heap.size w W1 := by rw [← hW1]; exact (Below.refl _ _).alloc (Nat.le_refl _) _
  have hsW1 : Str W1 w.heap.size 24 [.int .i64 i.op, .int .i64 i.d, .int .i64 i.e, .int .i64 i.a, .int .i64 i.b, .int .i64 i.c, .int .i32 i.imm, .slice A n k] := by rw [← hW1]; exact World.alloc_heap_new w _
  rw [hW1]
  clear hW1
  have m0 : W1.cell? ⟨w.heap.size, 0, none⟩ = some (.int .i64 i.op) := hsW1.cell 0
  have HB1 := Lib.hid hbW1
  clear hsW1 hbW1
  go_wp2_with fail
  refine (operation_any i.op W1).mono ?_
  rintro e w2 ⟨rfl, hb2⟩
  rw [hf]
  have HB2 := Lib.hid (HB1.out.trans (hb2.mono HB1.out.size))
  generalize (makesN i.op : Int) = mk at *
  generalize (takesN i.op : Int) = tk at *
  clear hb2 m0
  have he := eql_nil
  go_wp2
  go_ret2
  exact ⟨rfl, HB2.out.alloc HB2.out.size _⟩
/-- All but two blocks is as it was. -/
structure Two (r m : Option Nat) (w w' : World) : Prop where
  os : w'.os = w.os
  tape : w'.tape = w.tape
  output : w'.output = w.output
  size : w.heap.size ≤ w'.heap.size
  block : ∀ k, k < w.heap.size → some k ≠ r → some k ≠ m → w'.heap[k]? = w.heap[k]?
theorem Two.of_below {r m : Option Nat} {w w' : World} (h : Below w.heap.size w w') : Two r m w w' := ⟨h.os, h.tape, h.output, h.size, fun k hk _ _ => h.block k hk⟩
theorem Two.trans {r m : Option Nat} {a b c : World} (h : Two r m a b) (k : Two r m b c) : Two r m a c :=
  ⟨k.os.trans h.os, k.tape.trans h.tape, k.output.trans h.output, Nat.le_trans h.size k.size, fun i hi h1 h2 => (k.block i (Nat.lt_of_lt_of_le hi h.size) h1 h2).trans (h.block i hi h1 h2)⟩
theorem Two.but {r m : Option Nat} {w a b : World} {x : Nat} (h : Two r m w a) (hb : But x a b) (hx : w.heap.size ≤ x) : Two r m w b :=
  ⟨hb.os.trans h.os, hb.tape.trans h.tape, hb.output.trans h.output, Nat.le_trans h.size hb.size, fun k hk h1 h2 => (hb.block k (Nat.lt_of_lt_of_le hk h.size) (by omega)).trans (h.block k hk h1 h2)⟩
theorem Two.grown {r m : Option Nat} {a b : World} (h : a.grownBy b m) : Two r m a b := ⟨h.os, h.tape, h.output, h.size, fun k hk _ h2 => h.block k hk h2⟩
theorem Two.set {r m : Option Nat} {a b : World} (h : b = a ∨ ∃ g, r = some g ∧ But g a b) : Two r m a b := by
  rcases h with rfl | ⟨g, rfl, hb⟩
  · exact Two.of_below (Below.refl _ _)
  · exact ⟨hb.os, hb.tape, hb.output, hb.size, fun k hk h1 _ => hb.block k hk (fun e => h1 (by rw [e]))⟩
theorem Str.set_kept {w w' : World} {r : Option Nat} {x : Nat} {t : TypeId} {vs : List Value} (h : Str w x t vs) (hs : w' = w ∨ ∃ g, r = some g ∧ But g w w') (hr : r ≠ some x) : Str w' x t vs := by
  rcases hs with rfl | ⟨g, rfl, hb⟩
  · exact h
  · exact hb.str h (fun e => hr (by rw [e]))
theorem OwnWords.set_kept {B : Nat} {w w' : World} {r : Option Nat} {v : Value} {l : List Int} (h : OwnWords B w v l) (hs : w' = w ∨ ∃ g, r = some g ∧ But g w w') (hr : r = none ∨ r ≠ v.ownBlock) : OwnWords B w' v l := by
  rcases hs with rfl | ⟨g, rfl, hb⟩
  · exact h
  · exact OwnWords.but h hb (fun e => by rcases hr with hr | hr; cases hr; exact hr e.symm)
def setsF (i : PMach) (l : List Int) (x y : Int) (q : Nat) : List Int :=
  match q with
  | 0 => l
  | 1 => setP l (if i.op = 2 then i.a else i.d) x
  | _ => setP (setP l (if i.op = 2 then i.a else i.d) x) (if i.op = 2 then i.b else i.e) y
/-- The registers when what an operation made is set. -/
def regsF (i : PMach) (l : List Int) (f : Fx) : List Int := if f.trap = 0 then setsF i l f.x f.y (makesN i.op) else l
def DoPost (B : Nat) (rv mv : Value) (f : Fx) (l : List Int) (w : World) (en : Ending) (w' : World) : Prop :=
  en = .returned (.tuple #[.int .i32 f.trap, .bool (f.trap == 0)]) ∧ OwnWords B w' rv l ∧ OwnWords B w' mv f.mem ∧ Two rv.ownBlock mv.ownBlock w w'
set_option maxRecDepth 100000 in
set_option maxHeartbeats 4000000 in
theorem dorow_fn (w : World) (i : PMach) (A : Option Addr) (n k : Nat) (rA mA : Option Addr) (rn rc mn mc : Nat) (F : Nat) (hf : fnV i.op = .func (.func F) #[] #[]) (hF : ∀ (args : Array Value) (w : World), (callFunc F args).run Try.prog w = .ok (.enter F args) w)
    (B : Nat) (l m : List Int) (hr : OwnWords B w (.slice rA rn rc) l) (hm : OwnWords B w (.slice mA mn mc) m) (hap : (Value.slice rA rn rc).ownBlock = none ∨ (Value.slice rA rn rc).ownBlock ≠ (Value.slice mA mn mc).ownBlock) (hI : InI i.a ∧ InI i.b ∧ InI i.c ∧ InI i.d ∧ InI i.e) (fx : Fx)
    (hfx : ∀ w' : World, OwnWords B w' (.slice mA mn mc) m → Calls Try.prog F #[.agg #[.int .i64 i.op, .int .i64 i.d, .int .i64 i.e, .int .i64 i.a, .int .i64 i.b, .int .i64 i.c, .int .i32 i.imm, .slice A n k], .agg #[.int .i32 (if 1 ≤ takesN i.op then getP l i.a else 0), .int .i32 (if 2 ≤ takesN i.op then getP l i.b else 0), .int .i32 (if 3 ≤ takesN i.op then getP l i.c else 0)], .slice mA mn mc] w' (FxPost B (.slice mA mn mc) fx w')) :
    Calls Try.prog 108 #[.agg #[.int .i64 i.op, .int .i64 i.d, .int .i64 i.e, .int .i64 i.a, .int .i64 i.b, .int .i64 i.c, .int .i32 i.imm, .slice A n k], .slice rA rn rc, .slice mA mn mc] w (DoPost B (.slice rA rn rc) (.slice mA mn mc) fx (regsF i l fx) w) := by
  have HR := Lib.hid hr
  have HM := Lib.hid hm
  have HAP := Lib.hid hap
  have HI := Lib.hid hI
  have HWR := Lib.hid (words_of_own hr)
  have HFX := Lib.hid hfx
  have HFN := Lib.hid hF
  clear hr hm hap hI hfx hF
  obtain ⟨xa, hxa⟩ : ∃ xa, (if i.op = 2 then i.a else i.d) = xa := ⟨_, rfl⟩
  obtain ⟨xb, hxb⟩ : ∃ xb, (if i.op = 2 then i.b else i.e) = xb := ⟨_, rfl⟩
  have HXA := Lib.hid hxa
  have HXB := Lib.hid hxb
  have HF := Lib.hid hf
  clear hxa hxb hf
  go_enter Try.func108, Try.ntmps108
  go_upto_region 1 with (fail)
  obtain ⟨W1, hW1⟩ : ∃ W1, w.alloc (.cells #[.int .i64 i.op, .int .i64 i.d, .int .i64 i.e, .int .i64 i.a, .int .i64 i.b, .int .i64 i.c, .int .i32 i.imm, .slice A n k] 24) = W1 := ⟨_, rfl⟩
  have hbW1 : Below w.heap.size w W1 := by rw [← hW1]; exact (Below.refl _ _).alloc (Nat.le_refl _) _
  have hsW1 : Str W1 w.heap.size 24 [.int .i64 i.op, .int .i64 i.d, .int .i64 i.e, .int .i64 i.a, .int .i64 i.b, .int .i64 i.c, .int .i32 i.imm, .slice A n k] := by rw [← hW1]; exact World.alloc_heap_new w _
  rw [hW1]
  clear hW1
  have m0 : W1.cell? ⟨w.heap.size, 0, none⟩ = some (.int .i64 i.op) := hsW1.cell 0
  have HB1 := Lib.hid hbW1
  have HS1 := Lib.hid hsW1
  clear hsW1 hbW1
  go_wp2_with fail
  refine (operation_any i.op W1).mono ?_
  rintro e w2 ⟨rfl, hb2⟩
  rw [HF.out]
  have HB2 := Lib.hid (HB1.out.trans (hb2.mono HB1.out.size))
  have HS1 := Lib.hid (HS1.out.below hb2)
  obtain ⟨mk, hmk⟩ : ∃ m : Nat, makesN i.op = m := ⟨_, rfl⟩
  obtain ⟨tk, htk⟩ : ∃ m : Nat, takesN i.op = m := ⟨_, rfl⟩
  rw [hmk, htk]
  have HMK := Lib.hid hmk
  have HTK := Lib.hid htk
  clear hb2 m0 hmk htk
  have he := eql_fn F
  go_upto_region 5 with (fail)
  obtain ⟨W4, hW4⟩ : ∃ W4, (w2.alloc (.cells #[.int .i64 mk, .int .i64 tk, .func (.func F) #[] #[]] 96)).alloc (.cells #[.int .i32 0, .int .i32 0, .int .i32 0] 111) = W4 := ⟨_, rfl⟩
  rw [hW4]
  have hb4 : Below w2.heap.size w2 W4 := by rw [← hW4]; exact ((Below.refl _ _).alloc (Nat.le_refl _) _).alloc (by simp) _
  have hs4 : Str W4 w2.heap.size 96 [.int .i64 mk, .int .i64 tk, .func (.func F) #[] #[]] := by rw [← hW4]; exact Str.below (World.alloc_heap_new w2 _) ((Below.refl _ _).alloc (Nat.le_refl _) _)
  have ht4 : Str W4 (w2.heap.size + 1) 111 [.int .i32 0, .int .i32 0, .int .i32 0] := by
    have h := World.alloc_heap_new (w2.alloc (.cells #[.int .i64 mk, .int .i64 tk, .func (.func F) #[] #[]] 96)) (.cells #[.int .i32 0, .int .i32 0, .int .i32 0] 111)
    rw [hW4] at h
    simp only [World.size_alloc] at h
    exact h
  clear hW4
  have HS1 := Lib.hid (HS1.out.below hb4)
  have HS4 := Lib.hid hs4
  have HT4 := Lib.hid ht4
  have HB4 := Lib.hid (HB2.out.trans (hb4.mono HB2.out.size))
  have HB2S := Lib.hid HB2.out.size
  clear hb4 hs4 ht4 HB2 HB1
  refine region_inv_wp (by kernel_rfl) (by kernel_rfl) (fun L a w' => ∃ x24 x25 x26 x27 x10 x11 : Value, a = ⟨#[.agg #[.int .i64 i.op, .int .i64 i.d, .int .i64 i.e, .int .i64 i.a, .int .i64 i.b, .int .i64 i.c, .int .i32 i.imm, .slice A n k], .slice rA rn rc, .slice mA mn mc, .pointer (some ⟨w.heap.size, 0, none⟩), undef, undef, .int .i32 0, .bool false, .pointer (some ⟨w2.heap.size, 0, none⟩), .pointer (some ⟨w2.heap.size + 1, 0, none⟩), x10, x11, undef, undef, undef, undef, undef, undef, .pointer (some ⟨w.heap.size, 0, none⟩), .int .i64 i.op, .agg #[.int .i64 mk, .int .i64 tk, .func (.func F) #[] #[]], .pointer (some ⟨w2.heap.size, 2, none⟩), .func (.func F) #[] #[], .bool false, x24, x25, x26, x27, undef, undef, undef, undef, undef, undef, undef, undef, undef, undef, undef, undef, undef, undef, undef, undef, undef, undef, undef, undef, undef, undef, undef, undef, undef, undef, undef, undef, undef, undef, undef, undef, undef, undef, undef, undef, undef, undef, undef, undef, undef, undef, undef, undef, undef], []⟩ ∧ R5 W4 (.agg #[.int .i64 i.op, .int .i64 i.d, .int .i64 i.e, .int .i64 i.a, .int .i64 i.b, .int .i64 i.c, .int .i32 i.imm, .slice A n k]) (.agg #[.int .i64 i.a, .int .i64 i.b, .int .i64 i.c]) (.agg #[.int .i64 xa, .int .i64 xb]) [.int .i64 i.a, .int .i64 i.b, .int .i64 i.c] [.int .i64 xa, .int .i64 xb] L x24 x25 x26 x27 x10 x11 w') ?h0 ?hstep ?hend
  case h0 => exact ⟨_, _, _, _, _, _, rfl, R5.start (Below.refl _ _).drew _⟩
  case hstep =>
    intro j o ho L a w' hn hw hI
    obtain ⟨x24, x25, x26, x27, x10, x11, rfl, h⟩ := hI
    have hj : j < 8 := (Array.getElem?_eq_some_iff.1 ho).1
    have hj : j = 0 ∨ j = 1 ∨ j = 2 ∨ j = 3 ∨ j = 4 ∨ j = 5 ∨ j = 6 ∨ j = 7 := by omega
    rcases hj with rfl | rfl | rfl | rfl | rfl | rfl | rfl | rfl
    all_goals
      obtain rfl := Option.some.inj ho
      clear ho
    · refine wpOp_list _ rfl ?_
      have m0 : w'.cell? ⟨w.heap.size, 0, none⟩ = some (.int .i64 i.op) := (HS1.out.below h.below).cell 0
      have m1 : w'.cell? ⟨w.heap.size, 1, none⟩ = some (.int .i64 i.d) := (HS1.out.below h.below).cell 1
      have m2 : w'.cell? ⟨w.heap.size, 2, none⟩ = some (.int .i64 i.e) := (HS1.out.below h.below).cell 2
      have m3 : w'.cell? ⟨w.heap.size, 3, none⟩ = some (.int .i64 i.a) := (HS1.out.below h.below).cell 3
      have m4 : w'.cell? ⟨w.heap.size, 4, none⟩ = some (.int .i64 i.b) := (HS1.out.below h.below).cell 4
      have m5 : w'.cell? ⟨w.heap.size, 5, none⟩ = some (.int .i64 i.c) := (HS1.out.below h.below).cell 5
      have m6 : w'.cell? ⟨w.heap.size, 6, none⟩ = some (.int .i32 i.imm) := (HS1.out.below h.below).cell 6
      have m7 : w'.cell? ⟨w.heap.size, 7, none⟩ = some (.slice A n k) := (HS1.out.below h.below).cell 7
      go_wp2
      exact behind1 ⟨_, _, _, _, _, _, rfl, h.p0⟩
    · refine wpOp_list _ rfl ?_
      obtain rfl := h.l0 (hw ⟨0, .data⟩ (by simp) rfl)
      go_wp2_with fail
      refine (sources_any _ _ _ _ _ _ _ _ _ _ _).mono ?_
      rintro e' w5 ⟨rfl, hb5⟩
      go_wp2_with fail
      exact behind1 ⟨_, _, _, _, _, _, rfl, (h.world hb5).p1⟩
    · refine wpOp_list _ rfl ?_
      have m0 : w'.cell? ⟨w.heap.size, 0, none⟩ = some (.int .i64 i.op) := (HS1.out.below h.below).cell 0
      have m1 : w'.cell? ⟨w.heap.size, 1, none⟩ = some (.int .i64 i.d) := (HS1.out.below h.below).cell 1
      have m2 : w'.cell? ⟨w.heap.size, 2, none⟩ = some (.int .i64 i.e) := (HS1.out.below h.below).cell 2
      have m3 : w'.cell? ⟨w.heap.size, 3, none⟩ = some (.int .i64 i.a) := (HS1.out.below h.below).cell 3
      have m4 : w'.cell? ⟨w.heap.size, 4, none⟩ = some (.int .i64 i.b) := (HS1.out.below h.below).cell 4
      have m5 : w'.cell? ⟨w.heap.size, 5, none⟩ = some (.int .i64 i.c) := (HS1.out.below h.below).cell 5
      have m6 : w'.cell? ⟨w.heap.size, 6, none⟩ = some (.int .i32 i.imm) := (HS1.out.below h.below).cell 6
      have m7 : w'.cell? ⟨w.heap.size, 7, none⟩ = some (.slice A n k) := (HS1.out.below h.below).cell 7
      go_wp2
      exact behind1 ⟨_, _, _, _, _, _, rfl, h.p2⟩
    · refine wpOp_list _ rfl ?_
      obtain rfl := h.l2 (hw ⟨2, .data⟩ (by simp) rfl)
      go_wp2_with fail
      refine (targets_any _ _ _ _ _ _ _ _ _ _ _).mono ?_
      rintro e' w5 ⟨rfl, hb5⟩
      rw [HXA.out, HXB.out]
      go_wp2_with fail
      exact behind1 ⟨_, _, _, _, _, _, rfl, (h.world hb5).p3⟩
    · refine wpOp_list _ rfl ?_
      go_wp2
      exact behind1 ⟨_, _, _, _, _, _, rfl, h.p4 hn⟩
    · refine wpOp_list _ rfl ?_
      go_wp2
      exact behind1 ⟨_, _, _, _, _, _, rfl, h.p5 hn⟩
    · refine wpOp_list _ rfl ?_
      have h4 := hw ⟨4, .data⟩ (by simp) rfl
      obtain ⟨b, hx, hge, hz, _⟩ := h.l4 h4
      obtain rfl := h.l1 (hw ⟨1, .data⟩ (by simp) rfl)
      have hz := hz (getD_not hn)
      have z0 := hz.cell 0
      have z1 := hz.cell 1
      have z2 := hz.cell 2
      have y0 := hz.frozen 0
      have y1 := hz.frozen 1
      have y2 := hz.frozen 2
      have H := Lib.hid (h.p6 hn h4 hx _ _ _ rfl)
      clear hz
      subst hx
      go_wp2
      exact behind1 ⟨_, _, _, _, _, _, rfl, H.out⟩
    · refine wpOp_list _ rfl ?_
      have h4 := hw ⟨5, .data⟩ (by simp) rfl
      obtain ⟨b, hx, hge, hz, _⟩ := h.l5 h4
      obtain rfl := h.l3 (hw ⟨3, .data⟩ (by simp) rfl)
      have hz := hz (getD_not hn)
      have z0 := hz.cell 0
      have z1 := hz.cell 1
      have y0 := hz.frozen 0
      have y1 := hz.frozen 1
      have H := Lib.hid (h.p7 hn h4 hx _ _ rfl)
      clear hz
      subst hx
      go_wp2
      exact behind1 ⟨_, _, _, _, _, _, rfl, H.out⟩
  case hend =>
    intro L a w5 hall hI
    obtain ⟨x24, x25, x26, x27, x10, x11, rfl, h⟩ := hI
    obtain ⟨b10, rfl, hge10, _, hs10⟩ := h.l4 (hall 4 (by decide))
    obtain ⟨b11, rfl, hge11, _, hs11⟩ := h.l5 (hall 5 (by decide))
    obtain rfl := h.l0 (hall 0 (by decide))
    obtain rfl := h.l1 (hall 1 (by decide))
    obtain rfl := h.l2 (hall 2 (by decide))
    obtain rfl := h.l3 (hall 3 (by decide))
    have hs10 := hs10 (hall 6 (by decide))
    have hs11 := hs11 (hall 7 (by decide))
    have HSZ2 := Lib.hid (show w.heap.size ≤ w2.heap.size from HB2S.out)
    have HB5 := Lib.hid (HB4.out.trans (h.below.mono HB4.out.size))
    have HS1 := Lib.hid (HS1.out.below h.below)
    have HS4 := Lib.hid (HS4.out.below h.below)
    have HT4 := Lib.hid (HT4.out.below h.below)
    have HS10 := Lib.hid hs10
    have HS11 := Lib.hid hs11
    clear hs10 hs11 h hall
    have o1 : w5.cell? ⟨w2.heap.size, 1, none⟩ = some (.int .i64 tk) := HS4.out.cell 1
    have hle : tk ≤ 3 := by rw [← HTK.out]; exact takesN_le _
    have hcut := fun w => run_cut3 w b10 tk hle
    have hmt := fun f w => row_get f rA rn rc w
    go_wp2_with fail
    go_loopw [12, 13, 32] (fun _ _ j wr => ∃ q : Nat, q ≤ tk ∧ j = .int .i64 q ∧ But (w2.heap.size + 1) w5 wr ∧ Str wr (w2.heap.size + 1) 111 [.int .i32 (if 1 ≤ q then getP l i.a else 0), .int .i32 (if 2 ≤ q then getP l i.b else 0), .int .i32 (if 3 ≤ q then getP l i.c else 0)]) (fun _ _ j _ => tk - (intOf j).toNat)
    case atStart => exact ⟨0, Nat.zero_le _, rfl, But.refl _ _, HT4.out⟩
    case round =>
      obtain ⟨q, hq, rfl, hbt, hsw⟩ := hrel
      have HBT := Lib.hid hbt
      have HSW := Lib.hid hsw
      have HRR := Lib.hid (show OwnWords B wr (.slice rA rn rc) l from OwnWords.but (HR.out.below HB5.out) hbt (fun e => by have := (OwnWords.where_ HR.out e).2; have := HB5.out.size; have := HSZ2.out; omega))
      clear hbt hsw
      by_cases hlt : q < tk
      · have hq3 : q = 0 ∨ q = 1 ∨ q = 2 := by omega
        rcases hq3 with rfl | rfl | rfl
        · have hc : wr.cell? ⟨b10, 0, none⟩ = some (.int .i64 i.a) := (HBT.out.str HS10.out (str_ne HS10.out HT4.out (by decide))).cell 0
          have hz : wr.cell? ⟨w2.heap.size + 1, 0, none⟩ = some (.int .i32 0) := HSW.out.cell 0
          have hy : wr.frozen? ⟨w2.heap.size + 1, 0, none⟩ = false := HSW.out.frozen 0
          go_wp2_with fail
          refine (rowget_any _ _ l i.a (words_of_own HRR.out)).mono ?_
          rintro e' w6 ⟨rfl, rfl⟩
          have HGO := Lib.hid (show But (w2.heap.size + 1) w5 (w6.setCell ⟨w2.heap.size + 1, 0, none⟩ (.int .i32 (getP l i.a))) ∧ Str (w6.setCell ⟨w2.heap.size + 1, 0, none⟩ (.int .i32 (getP l i.a))) (w2.heap.size + 1) 111 [.int .i32 (if 1 ≤ 1 then getP l i.a else 0), .int .i32 (if 2 ≤ 1 then getP l i.b else 0), .int .i32 (if 3 ≤ 1 then getP l i.c else 0)] from ⟨HBT.out.trans (but_set _ _ _ _), HSW.out.set 0 _⟩)
          go_wp2_with fail
          exact ⟨⟨1, by omega, rfl, HGO.out.1, HGO.out.2⟩, by simp [intOf]; omega⟩
        · have hc : wr.cell? ⟨b10, 1, none⟩ = some (.int .i64 i.b) := (HBT.out.str HS10.out (str_ne HS10.out HT4.out (by decide))).cell 1
          have hz : wr.cell? ⟨w2.heap.size + 1, 1, none⟩ = some (.int .i32 0) := HSW.out.cell 1
          have hy : wr.frozen? ⟨w2.heap.size + 1, 1, none⟩ = false := HSW.out.frozen 1
          go_wp2_with fail
          refine (rowget_any _ _ l i.b (words_of_own HRR.out)).mono ?_
          rintro e' w6 ⟨rfl, rfl⟩
          have HGO := Lib.hid (show But (w2.heap.size + 1) w5 (w6.setCell ⟨w2.heap.size + 1, 1, none⟩ (.int .i32 (getP l i.b))) ∧ Str (w6.setCell ⟨w2.heap.size + 1, 1, none⟩ (.int .i32 (getP l i.b))) (w2.heap.size + 1) 111 [.int .i32 (if 1 ≤ 2 then getP l i.a else 0), .int .i32 (if 2 ≤ 2 then getP l i.b else 0), .int .i32 (if 3 ≤ 2 then getP l i.c else 0)] from ⟨HBT.out.trans (but_set _ _ _ _), HSW.out.set 1 _⟩)
          go_wp2_with fail
          exact ⟨⟨2, by omega, rfl, HGO.out.1, HGO.out.2⟩, by simp [intOf]; omega⟩
        · have hc : wr.cell? ⟨b10, 2, none⟩ = some (.int .i64 i.c) := (HBT.out.str HS10.out (str_ne HS10.out HT4.out (by decide))).cell 2
          have hz : wr.cell? ⟨w2.heap.size + 1, 2, none⟩ = some (.int .i32 0) := HSW.out.cell 2
          have hy : wr.frozen? ⟨w2.heap.size + 1, 2, none⟩ = false := HSW.out.frozen 2
          go_wp2_with fail
          refine (rowget_any _ _ l i.c (words_of_own HRR.out)).mono ?_
          rintro e' w6 ⟨rfl, rfl⟩
          have HGO := Lib.hid (show But (w2.heap.size + 1) w5 (w6.setCell ⟨w2.heap.size + 1, 2, none⟩ (.int .i32 (getP l i.c))) ∧ Str (w6.setCell ⟨w2.heap.size + 1, 2, none⟩ (.int .i32 (getP l i.c))) (w2.heap.size + 1) 111 [.int .i32 (if 1 ≤ 3 then getP l i.a else 0), .int .i32 (if 2 ≤ 3 then getP l i.b else 0), .int .i32 (if 3 ≤ 3 then getP l i.c else 0)] from ⟨HBT.out.trans (but_set _ _ _ _), HSW.out.set 2 _⟩)
          go_wp2_with fail
          exact ⟨⟨3, by omega, rfl, HGO.out.1, HGO.out.2⟩, by simp [intOf]; omega⟩
      · obtain rfl : q = tk := by omega
        have hfx := HFX.out
        rw [HTK.out] at hfx
        have HSO := Lib.hid (HBT.out.str HS4.out (str_ne HS4.out HT4.out (by decide)))
        have HSI := Lib.hid (HBT.out.str HS1.out (str_ne HS1.out HT4.out (by decide)))
        have HS11 := Lib.hid (HBT.out.str HS11.out (str_ne HS11.out HT4.out (by decide)))
        have HMM := Lib.hid (show OwnWords B wr (.slice mA mn mc) m from OwnWords.but (HM.out.below HB5.out) HBT.out (fun e => by have := (OwnWords.where_ HM.out e).2; have := HB5.out.size; have := HSZ2.out; omega))
        have HTW := Lib.hid (Two.but (r := (Value.slice rA rn rc).ownBlock) (m := (Value.slice mA mn mc).ownBlock) (Two.of_below HB5.out) HBT.out (by have := HSZ2.out; omega))
        have HCALL := Lib.hid (hfx wr HMM.out)
        have hfn := HFN.out
        clear hfx
        generalize (if 1 ≤ q then getP l i.a else 0) = t0 at *
        generalize (if 2 ≤ q then getP l i.b else 0) = t1 at *
        generalize (if 3 ≤ q then getP l i.c else 0) = t2 at *
        have o2 : wr.cell? ⟨w2.heap.size, 2, none⟩ = some (.func (.func F) #[] #[]) := HSO.out.cell 2
        have i0 : wr.cell? ⟨w.heap.size, 0, none⟩ = some (.int .i64 i.op) := HSI.out.cell 0
        have i1 : wr.cell? ⟨w.heap.size, 1, none⟩ = some (.int .i64 i.d) := HSI.out.cell 1
        have i2 : wr.cell? ⟨w.heap.size, 2, none⟩ = some (.int .i64 i.e) := HSI.out.cell 2
        have i3 : wr.cell? ⟨w.heap.size, 3, none⟩ = some (.int .i64 i.a) := HSI.out.cell 3
        have i4 : wr.cell? ⟨w.heap.size, 4, none⟩ = some (.int .i64 i.b) := HSI.out.cell 4
        have i5 : wr.cell? ⟨w.heap.size, 5, none⟩ = some (.int .i64 i.c) := HSI.out.cell 5
        have i6 : wr.cell? ⟨w.heap.size, 6, none⟩ = some (.int .i32 i.imm) := HSI.out.cell 6
        have i7 : wr.cell? ⟨w.heap.size, 7, none⟩ = some (.slice A n k) := HSI.out.cell 7
        have n0 : wr.cell? ⟨w2.heap.size + 1, 0, none⟩ = some (.int .i32 t0) := HSW.out.cell 0
        have n1 : wr.cell? ⟨w2.heap.size + 1, 1, none⟩ = some (.int .i32 t1) := HSW.out.cell 1
        have n2 : wr.cell? ⟨w2.heap.size + 1, 2, none⟩ = some (.int .i32 t2) := HSW.out.cell 2
        clear HSI o1 HSW HBT
        go_wp2_with fail
        refine HCALL.out.mono ?_
        rintro e' w8 ⟨rfl, ho8, hg8⟩
        have HO8 := Lib.hid ho8
        have HG8 := Lib.hid hg8
        have hbm : ∀ x, (∃ t vs, Str wr x t vs ∧ w.heap.size ≤ x) → some x ≠ (Value.slice mA mn mc).ownBlock := fun x hx e => by obtain ⟨_, _, _, hx⟩ := hx; have := (OwnWords.where_ HM.out e.symm).2; omega
        have HS11 := Lib.hid (HS11.out.kept hg8 (hbm _ ⟨_, _, HS11.out, by have := HB4.out.size; omega⟩))
        have HSO := Lib.hid (HSO.out.kept hg8 (hbm _ ⟨_, _, HSO.out, HSZ2.out⟩))
        have HR8 := Lib.hid (show OwnWords B w8 (.slice rA rn rc) l from World.ownsRow.kept HRR.out hg8 HAP.out)
        have HTW := Lib.hid (HTW.out.trans (Two.grown hg8))
        have HTWS := Lib.hid HTW.out.size
        clear ho8 hg8 hbm o2 i0 i1 i2 i3 i4 i5 i6 i7 n0 n1 n2 HCALL hfn
        obtain ⟨fxx, fxy, fxt, fxm⟩ := fx
        go_upto_region 12 with (fail)
        obtain ⟨W9, hW9⟩ : ∃ W9, w8.alloc (.cells #[.int .i32 fxx, .int .i32 fxy, .int .i32 0] 111) = W9 := ⟨_, rfl⟩
        rw [hW9]
        have hb9 : Below w8.heap.size w8 W9 := by rw [← hW9]; exact (Below.refl _ _).alloc (Nat.le_refl _) _
        have hs9 : Str W9 w8.heap.size 111 [.int .i32 fxx, .int .i32 fxy, .int .i32 0] := by rw [← hW9]; exact World.alloc_heap_new w8 _
        clear hW9
        have HS9 := Lib.hid hs9
        have HB9 := Lib.hid hb9
        have HTW := Lib.hid (HTW.out.trans (Two.of_below hb9))
        have HR9 := Lib.hid (HR8.out.below hb9)
        have HO9 := Lib.hid (HO8.out.below hb9)
        have p0 : W9.cell? ⟨w2.heap.size, 0, none⟩ = some (.int .i64 mk) := (HSO.out.below hb9).cell 0
        have HS11 := Lib.hid (HS11.out.below hb9)
        have HTW8 := Lib.hid (show w.heap.size ≤ w8.heap.size from by have := HB9.out.size; exact HTWS.out)
        clear hb9 hs9
        by_cases hz : fxt = 0
        · have hz1 : (fxt != 0) = false := by rw [hz]; rfl
          have HZ := Lib.hid hz
          clear hz
          have hle2 : mk ≤ 2 := by rw [← HMK.out]; exact makesN_le _
          have hcut2 := fun w => run_cut2 w b11 mk hle2
          have hms := fun f w => row_set f rA rn rc w
          have HNB := Lib.hid (show ∀ x, w.heap.size ≤ x → (Value.slice rA rn rc).ownBlock ≠ some x from fun x hx e => by have := (OwnWords.where_ HR.out e).2; omega)
          have HL := Lib.hid (show w.heap.size ≤ b11 ∧ w.heap.size ≤ w8.heap.size from ⟨by have := HB4.out.size; omega, HTW8.out⟩)
          go_wp2_with fail
          go_loopw [16, 17, 60] (fun _ _ j wr => ∃ q : Nat, q ≤ mk ∧ j = .int .i64 q ∧ OwnWords B wr (.slice rA rn rc) (setsF i l fxx fxy q) ∧ OwnWords B wr (.slice mA mn mc) fxm ∧ Two (Value.slice rA rn rc).ownBlock (Value.slice mA mn mc).ownBlock w wr ∧ Str wr b11 90 [.int .i64 xa, .int .i64 xb] ∧ Str wr w8.heap.size 111 [.int .i32 fxx, .int .i32 fxy, .int .i32 0]) (fun _ _ j _ => mk - (intOf j).toNat)
          case atStart => exact ⟨0, Nat.zero_le _, rfl, HR9.out, HO9.out, HTW.out, HS11.out, HS9.out⟩
          case round =>
            obtain ⟨q, hq, rfl, hr1, hr2, hr3, hr4, hr5⟩ := hrel
            have G1 := Lib.hid hr1
            have G2 := Lib.hid hr2
            have G3 := Lib.hid hr3
            have G4 := Lib.hid hr4
            have G5 := Lib.hid hr5
            clear hr1 hr2 hr3 hr4 hr5
            by_cases hlt : q < mk
            · have hq3 : q = 0 ∨ q = 1 := by omega
              rcases hq3 with rfl | rfl
              · have hc : wr.cell? ⟨b11, 0, none⟩ = some (.int .i64 xa) := G4.out.cell 0
                have hd : wr.cell? ⟨w8.heap.size, 0, none⟩ = some (.int .i32 fxx) := G5.out.cell 0
                go_wp2_with fail
                refine (rowset_any _ B _ (setsF i l fxx fxy 0) xa fxx G1.out).mono ?_
                rintro e' w10 ⟨rfl, ho, hbt⟩
                have K1 := Lib.hid (show OwnWords B w10 (.slice rA rn rc) (setsF i l fxx fxy 1) by unfold setsF; rw [HXA.out]; exact ho)
                have K2 := Lib.hid (OwnWords.set_kept G2.out hbt HAP.out)
                have K3 := Lib.hid (G3.out.trans (Two.set hbt))
                have K4 := Lib.hid (Str.set_kept G4.out hbt (HNB.out _ HL.out.1))
                have K5 := Lib.hid (Str.set_kept G5.out hbt (HNB.out _ HL.out.2))
                clear ho hbt
                go_wp2_with fail
                exact ⟨⟨1, by omega, rfl, K1.out, K2.out, K3.out, K4.out, K5.out⟩, by simp [intOf]; omega⟩
              · have hc : wr.cell? ⟨b11, 1, none⟩ = some (.int .i64 xb) := G4.out.cell 1
                have hd : wr.cell? ⟨w8.heap.size, 1, none⟩ = some (.int .i32 fxy) := G5.out.cell 1
                go_wp2_with fail
                refine (rowset_any _ B _ (setsF i l fxx fxy 1) xb fxy G1.out).mono ?_
                rintro e' w10 ⟨rfl, ho, hbt⟩
                have K1 := Lib.hid (show OwnWords B w10 (.slice rA rn rc) (setsF i l fxx fxy 2) by unfold setsF; rw [HXB.out]; exact ho)
                have K2 := Lib.hid (OwnWords.set_kept G2.out hbt HAP.out)
                have K3 := Lib.hid (G3.out.trans (Two.set hbt))
                have K4 := Lib.hid (Str.set_kept G4.out hbt (HNB.out _ HL.out.1))
                have K5 := Lib.hid (Str.set_kept G5.out hbt (HNB.out _ HL.out.2))
                clear ho hbt
                go_wp2_with fail
                exact ⟨⟨2, by omega, rfl, K1.out, K2.out, K3.out, K4.out, K5.out⟩, by simp [intOf]; omega⟩
            · obtain rfl : q = mk := by omega
              go_wp2_with fail
              go_ret2
              refine ⟨by rw [show (fxt == 0) = true from beq_iff_eq.2 HZ.out, HZ.out]; rfl, ?_, G2.out, G3.out⟩
              unfold regsF
              rw [if_pos HZ.out, HMK.out]
              exact G1.out
        · have hz1 : (fxt != 0) = true := by simp [hz]
          have HZ := Lib.hid hz
          clear hz
          go_wp2_with fail
          go_ret2
          exact ⟨by rw [show (fxt == 0) = false from beq_eq_false_iff_ne.2 HZ.out]; rfl, by unfold regsF; rw [if_neg HZ.out]; exact HR9.out, HO9.out, HTW.out⟩
end Go.Proofs.Ytdidacjmcafcpaa.Mc
