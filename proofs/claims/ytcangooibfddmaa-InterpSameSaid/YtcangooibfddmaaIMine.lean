/- Stage 4: an outcome of one's own, in a box of its own. -/
import Derived.Test.YtcangooibfddmaaIOutc
import Derived.Test.YtcangooibfddmaaILawA
namespace Go.Proofs.Ytcangooibfddmaa.Ic
open Go.ChangeShapes Go.WideShapes Go.ChangeAt Go.RowKit Go.Maps Go.Proofs.Ytcangooibfddmaa.Mem Go.Proofs.Ytcangooibfddmaa.Kc Go.Proofs.Ytcangooibfddmaa.Br Go.Proofs.Ytcangooibfddmaa.Pl Go.Proofs.Ytcangooibfddmaa.Gr
set_option linter.unusedVariables false
def cutO (o : POut) : POut := { o with mem := o.mem.take 20, calls := (o.calls.take 10).map cutEv }
structure Mine (B : Nat) (w : World) (xb : Nat) (o : POut) (mA : Option Addr) (mc : Nat) (cA : Option Addr) (cc : Nat) : Prop where
  far : B ≤ xb
  box : Str w xb 45 [.int .i64 o.how, .int .i32 o.val, .slice mA o.mem.length mc, .slice cA o.calls.length cc, .int .i64 o.steps]
  mem : OwnWords B w (.slice mA o.mem.length mc) o.mem
  calls : EventsAt B w (.slice cA o.calls.length cc) o.calls (fun g => g = xb ∨ (Value.slice mA o.mem.length mc).ownBlock = some g)
theorem Mine.below {B : Nat} {w : World} {xb : Nat} {o : POut} {mA : Option Addr} {mc : Nat} {cA : Option Addr} {cc : Nat} {w' : World} (h : Mine B w xb o mA mc cA cc) (hb : Below w.heap.size w w') : Mine B w' xb o mA mc cA cc :=
  ⟨h.far, h.box.below hb, OwnWords.below h.mem hb, h.calls.below hb⟩
theorem Mine.base {B : Nat} {w : World} {xb : Nat} {o : POut} {mA : Option Addr} {mc : Nat} {cA : Option Addr} {cc : Nat} {B' : Nat} (h : Mine B w xb o mA mc cA cc) (hB : B' ≤ B) : Mine B' w xb o mA mc cA cc :=
  ⟨Nat.le_trans hB h.far, h.box, h.mem.mono hB, h.calls.base hB⟩
theorem Mine.out {B : Nat} {w : World} {xb : Nat} {o : POut} {mA : Option Addr} {mc : Nat} {cA : Option Addr} {cc : Nat} (h : Mine B w xb o mA mc cA cc) : OutAt w (.slice mA o.mem.length mc) (.slice cA o.calls.length cc) o :=
  ⟨words_of_own h.mem, by
    obtain ⟨_, h2, h3, h4⟩ := h.calls.reads
    rcases Nat.eq_zero_or_pos o.calls.length with h0 | hp
    · exact ⟨cA, cc, 0, 0, rfl, h2, h3, fun hp => absurd hp (by omega), fun k hk => absurd hk (by omega)⟩
    · obtain ⟨g, hg, hr⟩ := h4 hp
      refine ⟨cA, cc, g, 0, rfl, h2, h3, fun _ => hg, fun k hk => ?_⟩
      obtain ⟨e1, A, n, c, e2, e3⟩ := hr k hk
      rw [Nat.zero_add]
      exact ⟨e1, _, e2, e3⟩⟩
theorem EventsAt.plus {B : Nat} {w : World} {cs : Value} {l : List (Int × List Int)} {X : Nat → Prop} {xb : Nat} (h : EventsAt B w cs l X) (hx : xb < B ∨ w.heap.size ≤ xb) : EventsAt B w cs l (fun g => g = xb ∨ X g) := by
  obtain ⟨es, h1, h2, h3⟩ := h
  refine ⟨es, h1, fun g hg hX => ?_, fun k hk => ?_⟩
  · rcases hX with rfl | hX
    · have := h1.lt g hg; omega
    · exact h2 g hg hX
  · obtain ⟨e1, v, e2, e3, e4⟩ := h3 k hk
    refine ⟨e1, v, e2, e3, fun g hg hX => ?_⟩
    rcases hX with rfl | hX
    · have := OwnWords.where_ e3 hg; omega
    · exact e4 g hg hX
theorem Mine.of {B : Nat} {w : World} {xb : Nat} {o : POut} {mA : Option Addr} {mc : Nat} {cA : Option Addr} {cc : Nat} {b5 : Nat} {w5 w8 : World} (hm : OwnWords b5 w5 (.slice mA o.mem.length mc) o.mem) (he : EventsAt b5 w5 (.slice cA o.calls.length cc) o.calls (fun g => (Value.slice mA o.mem.length mc).ownBlock = some g)) (hx : xb < b5 ∨ w5.heap.size ≤ xb)
    (h58 : Below w5.heap.size w5 w8) (hf : Str w xb 45 [.int .i64 o.how, .int .i32 o.val, .slice mA o.mem.length mc, .slice cA o.calls.length cc, .int .i64 o.steps]) (hbut : But xb w8 w) (hB : B ≤ xb) (hb5 : B ≤ b5) : Mine B w xb o mA mc cA cc := by
  have hg := grown_of_but hbut
  refine ⟨hB, hf, OwnWords.mono (World.ownsRow.kept (OwnWords.below hm h58) hg ?_) hb5, ((he.plus hx).below h58 |>.kept hg (Or.inl rfl)).base hb5⟩
  cases hv : (Value.slice mA o.mem.length mc).ownBlock with
  | none => exact Or.inl rfl
  | some g => exact Or.inr (fun e => by injection e with e; have := OwnWords.where_ hm hv; omega)
/-- What outcome makes, told of the cut one. -/
theorem outcome_mine (w : World) (mv cv : Value) (o c : POut) (ho : OutAt w mv cv o) (hc : cutO o = c) :
    Calls Try.prog 27 #[.agg #[.int .i64 o.how, .int .i32 o.val, mv, cv, .int .i64 o.steps]] w fun en w' =>
      ∃ mA mc cA cc, en = .returned (.agg #[.int .i64 c.how, .int .i32 c.val, .slice mA c.mem.length mc, .slice cA c.calls.length cc, .int .i64 c.steps]) ∧ OwnWords w.heap.size w' (.slice mA c.mem.length mc) c.mem ∧
        EventsAt w.heap.size w' (.slice cA c.calls.length cc) c.calls (fun g => (Value.slice mA c.mem.length mc).ownBlock = some g) ∧ Below w.heap.size w w' := by
  subst hc
  refine (outcome_any w mv cv o ho).mono ?_
  rintro e w' ⟨mA, mc, cA, cc, rfl, h1, h2, h3⟩
  have hl : ((o.calls.take 10).map cutEv).length = (o.calls.take 10).length := List.length_map _
  rw [← hl] at h2 ⊢
  exact ⟨mA, mc, cA, cc, rfl, h1, h2, h3⟩
theorem Mine.laid {B : Nat} {w : World} {xb : Nat} {o : POut} {mA : Option Addr} {mc : Nat} {cA : Option Addr} {cc : Nat} {b5 : Nat} {w5 : World} (hm : OwnWords b5 w5 (.slice mA o.mem.length mc) o.mem) (he : EventsAt b5 w5 (.slice cA o.calls.length cc) o.calls (fun g => (Value.slice mA o.mem.length mc).ownBlock = some g))
    (hx : w5.heap.size ≤ xb) (h5 : Below w5.heap.size w5 w) (hf : Str w xb 45 [.int .i64 o.how, .int .i32 o.val, .slice mA o.mem.length mc, .slice cA o.calls.length cc, .int .i64 o.steps]) (hB : B ≤ xb) (hb5 : B ≤ b5) : Mine B w xb o mA mc cA cc :=
  ⟨hB, hf, (OwnWords.below hm h5).mono hb5, ((he.plus (Or.inr hx)).below h5).base hb5⟩
theorem own_ne0 {v : Value} {row : Option Nat} {X : Nat → Prop} (h : ∀ g, v.ownBlock = some g → ¬ X g) (hx : ∀ g, row = some g → X g) : v.ownBlock = none ∨ v.ownBlock ≠ row := by
  cases hv : v.ownBlock with
  | none => exact Or.inl rfl
  | some k => exact Or.inr (fun e => h k hv (hx k e.symm))
theorem EventsAt.kept0 {B : Nat} {w w' : World} {cs : Value} {l : List (Int × List Int)} {X : Nat → Prop} {row : Option Nat} (h : EventsAt B w cs l X) (hg : w.grownBy w' row) (hx : ∀ g, row = some g → X g) : EventsAt B w' cs l X := by
  obtain ⟨es, h1, h2, h3⟩ := h
  refine ⟨es, h1.kept hg (own_ne0 h2 hx), h2, fun k hk => ?_⟩
  obtain ⟨e1, v, e2, e3, e4⟩ := h3 k hk
  exact ⟨e1, v, e2, World.ownsRow.kept e3 hg (own_ne0 e4 hx), e4⟩
theorem evs_of {B : Nat} {w : World} {v : Value} {l : List (Int × List Int)} {X : Nat → Prop} (h : EventsAt B w v l X) : EvsAt w v l := by
  have hs := h.slice
  obtain ⟨cA, n, cc, rfl⟩ := hs
  obtain ⟨h1, h2, h3, h4⟩ := h.reads
  subst h1
  rcases Nat.eq_zero_or_pos l.length with h0 | hp
  · exact ⟨cA, cc, 0, 0, rfl, h2, h3, fun hp => absurd hp (by omega), fun k hk => absurd hk (by omega)⟩
  · obtain ⟨g, hg, hr⟩ := h4 hp
    refine ⟨cA, cc, g, 0, rfl, h2, h3, fun _ => hg, fun k hk => ?_⟩
    obtain ⟨e1, A, n, c, e2, e3⟩ := hr k hk
    rw [Nat.zero_add]
    exact ⟨e1, _, e2, e3⟩
theorem Mine.poked {B : Nat} {w : World} {xb : Nat} {o : POut} {mA : Option Addr} {mc : Nat} {cA : Option Addr} {cc : Nat} (h : Mine B w xb o mA mc cA cc) (i : Nat) (v : Value) : OutAt (w.setCell ⟨xb, i, none⟩ v) (.slice mA o.mem.length mc) (.slice cA o.calls.length cc) o :=
  have hg := setCell_grownBy w ⟨xb, i, none⟩ v
  ⟨words_of_own (World.ownsRow.kept h.mem hg (Or.inr fun e => h.box.not_row (by decide) h.mem e.symm)), evs_of (h.calls.kept hg (Or.inl rfl))⟩
theorem wrap64_ne (x : Int) : ¬ x = wrap64 (x + 1) := by unfold wrap64; omega
theorem wrap32_ne (x : Int) : ¬ x = wrap32 (x + 1) := by unfold wrap32; omega
theorem poke_other {w : World} {g j k : Nat} {u : Value} (h : j ≠ k) : (w.setCell ⟨g, j, none⟩ u).cell? ⟨g, k, none⟩ = w.cell? ⟨g, k, none⟩ := by
  apply World.cell?_setCell_other
  intro e
  exact h (congrArg Addr.off e)
theorem poke_same {w : World} {g j : Nat} {u u' : Value} (h : w.cell? ⟨g, j, none⟩ = some u') : (w.setCell ⟨g, j, none⟩ u).cell? ⟨g, j, none⟩ = some u := by
  apply World.cell?_setCell_same'
  rw [h]; rfl
theorem set0_ne {α : Type} (l : List α) (h : 0 < l.length) (x : α) (hx : ¬ l[0] = x) : ¬ l = l.set 0 x := by
  cases l with
  | nil => exact absurd h (by simp)
  | cons a t =>
    intro e
    rw [List.set_cons_zero] at e
    injection e with e _
    exact hx e
theorem Mine.head {B : Nat} {w : World} {xb : Nat} {o : POut} {mA : Option Addr} {mc : Nat} {cA : Option Addr} {cc : Nat} (h : Mine B w xb o mA mc cA cc) (hl : 0 < o.calls.length) : ∃ g, cA = some ⟨g, 0, none⟩ := by
  obtain ⟨_, _, _, h4⟩ := h.calls.reads
  obtain ⟨g, hg, _⟩ := h4 hl
  exact ⟨g, hg⟩
theorem Mine.mhead {B : Nat} {w : World} {xb : Nat} {o : POut} {mA : Option Addr} {mc : Nat} {cA : Option Addr} {cc : Nat} (h : Mine B w xb o mA mc cA cc) (hl : 0 < o.mem.length) : ∃ g, mA = some ⟨g, 0, none⟩ := by
  rcases h.mem.2 with ⟨e, h0⟩ | ⟨g, c, cur, e, _⟩
  · omega
  · injection e with e1 e2 e3
    exact ⟨g, e1⟩
theorem Mine.first {B : Nat} {w : World} {xb g : Nat} {o : POut} {mA : Option Addr} {mc : Nat} {cc : Nat} (h : Mine B w xb o mA mc (some ⟨g, 0, none⟩) cc) (hl : 0 < o.calls.length) :
    w.cell? ⟨g, 0, none⟩ = some (.int .i32 o.calls[0].1) ∧ w.frozen? ⟨g, 0, none⟩ = false ∧ B ≤ g ∧ ∀ c : Int, OutAt (w.setCell ⟨g, 0, none⟩ (.int .i32 c)) (.slice mA o.mem.length mc) (.slice (some ⟨g, 0, none⟩) o.calls.length cc) ⟨o.how, o.val, o.mem, o.calls.set 0 (c, o.calls[0].2), o.steps⟩ ∧
      Str (w.setCell ⟨g, 0, none⟩ (.int .i32 c)) xb 45 [.int .i64 o.how, .int .i32 o.val, .slice mA o.mem.length mc, .slice (some ⟨g, 0, none⟩) o.calls.length cc, .int .i64 o.steps] := by
  obtain ⟨es, h1, h2, h3⟩ := id h.calls
  obtain ⟨_, r2, r3, r4⟩ := h.calls.reads
  have hlt := World.ownsRow.lt h1 g rfl
  have hcell : ∀ j, j < o.calls.length * 2 → w.cell? ⟨g, j, none⟩ = es[j]? := fun j hj => World.ownsRow.cellAt h1 j (by omega)
  have hc0 : w.cell? ⟨g, 0, none⟩ = some (.int .i32 o.calls[0].1) := by rw [hcell 0 (by omega)]; exact (h3 0 hl).1
  refine ⟨hc0, World.ownsRow.frozenAt h1 0, hlt.1, fun c => ?_⟩
  have hg := setCell_grownBy w ⟨g, 0, none⟩ (.int .i32 c)
  refine ⟨⟨words_of_own (World.ownsRow.kept h.mem hg (own_apart h.mem h1 (by decide))), ?_⟩, h.box.kept hg (h.box.not_row (by decide) h1)⟩
  refine ⟨some ⟨g, 0, none⟩, cc, g, 0, by simp, by simpa using r2, r3, fun _ => rfl, fun k hk => ?_⟩
  have hk' : k < o.calls.length := by simpa using hk
  obtain ⟨q1, v, q2, q3, q4⟩ := h3 k hk'
  have hw := words_of_own (World.ownsRow.kept q3 hg (own_apart q3 h1 (by decide)))
  have hv : (w.setCell ⟨g, 0, none⟩ (.int .i32 c)).cell? ⟨g, k * 2 + 1, none⟩ = some v := by
    rw [poke_other (by omega), hcell _ (by omega), Nat.mul_comm]; exact q2
  rw [Nat.zero_add]
  cases k with
  | zero => exact ⟨by simpa using poke_same hc0, v, hv, by simpa using hw⟩
  | succ k =>
    have h0 : (w.setCell ⟨g, 0, none⟩ (.int .i32 c)).cell? ⟨g, (k + 1) * 2, none⟩ = some (.int .i32 o.calls[k + 1].1) := by
      rw [poke_other (by omega), hcell _ (by omega), Nat.mul_comm]; exact q1
    have e : (o.calls.set 0 (c, o.calls[0].2))[k + 1] = o.calls[k + 1] := by rw [List.getElem_set_ne (by omega)]
    simp only at hk ⊢
    rw [e]
    exact ⟨h0, v, hv, hw⟩
theorem Mine.word {B : Nat} {w : World} {xb g : Nat} {o : POut} {mc : Nat} {cA : Option Addr} {cc : Nat} (h : Mine B w xb o (some ⟨g, 0, none⟩) mc cA cc) (hl : 0 < o.mem.length) :
    w.cell? ⟨g, 0, none⟩ = some (.int .i32 o.mem[0]) ∧ w.frozen? ⟨g, 0, none⟩ = false ∧ B ≤ g ∧ ∀ c : Int, OutAt (w.setCell ⟨g, 0, none⟩ (.int .i32 c)) (.slice (some ⟨g, 0, none⟩) o.mem.length mc) (.slice cA o.calls.length cc) ⟨o.how, o.val, o.mem.set 0 c, o.calls, o.steps⟩ ∧
      Str (w.setCell ⟨g, 0, none⟩ (.int .i32 c)) xb 45 [.int .i64 o.how, .int .i32 o.val, .slice (some ⟨g, 0, none⟩) o.mem.length mc, .slice cA o.calls.length cc, .int .i64 o.steps] := by
  have h1 := h.mem
  have hlt := World.ownsRow.lt h1 g rfl
  obtain ⟨A', c', e, r2, r3, hr⟩ := words_of_own h1
  injection e with e1 _ e3
  subst e1 e3
  have hcell : ∀ k (hk : k < o.mem.length), w.cell? ⟨g, k, none⟩ = some (.int .i32 o.mem[k]) := fun k hk => by
    obtain ⟨ad, ea, hc⟩ := hr k hk
    injection ea with ea
    rw [← ea, at_add0] at hc
    exact hc
  refine ⟨hcell 0 hl, World.ownsRow.frozenAt h1 0, hlt.1, fun c => ?_⟩
  have hg := setCell_grownBy w ⟨g, 0, none⟩ (.int .i32 c)
  refine ⟨⟨?_, evs_of (h.calls.kept hg (Or.inr rfl))⟩, h.box.kept hg (h.box.not_row (by decide) h1)⟩
  refine ⟨some ⟨g, 0, none⟩, mc, by simp, by simpa using r2, r3, fun k hk => ⟨⟨g, 0, none⟩, rfl, ?_⟩⟩
  have hk' : k < o.mem.length := by simpa using hk
  rw [at_add0]
  cases k with
  | zero => simpa using poke_same (hcell 0 hl)
  | succ k =>
    have e : (o.mem.set 0 c)[k + 1]'(by simpa using hk') = o.mem[k + 1] := by rw [List.getElem_set_ne (by omega)]
    simp only
    rw [e, poke_other (by omega)]
    exact hcell (k + 1) hk'
theorem mem_few {o c : POut} (h : cutO o = c) : c.mem.length ≤ 20 ∧ c.calls.length ≤ 10 := by
  subst h
  unfold cutO
  simp only [List.length_take, List.length_map]
  omega
theorem sameP_comm (a b : POut) : sameP a b = sameP b a := by
  unfold sameP
  simp only [eq_comm]
theorem sameP_self (a : POut) : sameP a a = true := by simp [sameP]
end Go.Proofs.Ytcangooibfddmaa.Ic
