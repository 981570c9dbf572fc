/- Moves: rows of words, a slice that reads as words, one of the call's own; a row's has, at and put. -/
import Derived.Test.YtdohaoomckhbgaaRows
import Derived.Test.YtdohaoomckhbgaaStruct
import Derived.WalkKit
import Derived.ProofKit
import Derived.Below
import Derived.Lib.Hide
import Derived.WalkSmall
import Derived.WalkSpells
import Derived.WalkLawsBesides
namespace Go.Proofs.Ytdohaoomckhbgaa.Vm
open Go.ChangeShapes Go.WideShapes Go.ChangeAt Go.RowKit Go.Proofs.Ytdohaoomckhbgaa.Mem
set_option linter.unusedVariables false
set_option linter.unusedSimpArgs false
/-- All but block m is as it was. -/
structure But (m : Nat) (w w' : World) : Prop where
  os : w'.os = w.os
  tape : w'.tape = w.tape
  output : w'.output = w.output
  size : w.heap.size ≤ w'.heap.size
  block : ∀ k, k < w.heap.size → k ≠ m → w'.heap[k]? = w.heap[k]?
theorem But.refl (m : Nat) (w : World) : But m w w := ⟨rfl, rfl, rfl, Nat.le_refl _, fun _ _ _ => rfl⟩
theorem But.of_below {m : Nat} {w w' : World} (h : Below w.heap.size w w') : But m w w' := ⟨h.os, h.tape, h.output, h.size, fun k hk _ => h.block k hk⟩
theorem But.trans {m : Nat} {a b c : World} (h : But m a b) (k : But m b c) : But m a c :=
  ⟨k.os.trans h.os, k.tape.trans h.tape, k.output.trans h.output, Nat.le_trans h.size k.size, fun i hi hn => (k.block i (Nat.lt_of_lt_of_le hi h.size) hn).trans (h.block i hi hn)⟩
theorem But.of_grown {m : Nat} {a b : World} (h : a.grownBy b (some m)) : But m a b := ⟨h.os, h.tape, h.output, h.size, fun k hk hn => h.block k hk (fun e => hn (Option.some.inj e))⟩
theorem But.drew {m : Nat} {a b : World} (h : But m a b) : But m a b.drew := ⟨h.os, h.tape, h.output, h.size, h.block⟩
theorem But.below {m B : Nat} {a b : World} (h : But m a b) (hB : B ≤ m) (hs : B ≤ a.heap.size) : Below B a b := ⟨h.os, h.tape, h.output, h.size, fun k hk => h.block k (Nat.lt_of_lt_of_le hk hs) (by omega)⟩
theorem But.cell {m : Nat} {a b : World} (h : But m a b) {p : Addr} {v : Value} (hc : a.cell? p = some v) (hn : p.block ≠ m) : b.cell? p = some v := by
  rw [World.cell?_of_block (h.block _ (lt_of_cell hc) hn)]; exact hc
theorem But.str {m : Nat} {a b : World} (h : But m a b) {x : Nat} {t : TypeId} {vs : List Value} (hc : Str a x t vs) (hn : x ≠ m) : Str b x t vs := (h.block x hc.lt hn).trans hc
/-- The slice v reads as the words l. -/
def WordsAt (w : World) (v : Value) (l : List Int) : Prop :=
  ∃ (A : Option Addr) (c : Nat), v = .slice A l.length c ∧ l.length ≤ c ∧ c ≤ maxLen ∧ ∀ k (h : k < l.length), ∃ ad, A = some ad ∧ w.cell? (ad.add k) = some (.int .i32 l[k])
def OwnWords (B : Nat) (w : World) (v : Value) (l : List Int) : Prop := w.ownsRow B 21 1 v l.length (l.map (Value.int .i32))
theorem OwnWords.mono {B B' : Nat} {w : World} {v : Value} {l : List Int} (h : OwnWords B w v l) (hb : B' ≤ B) : OwnWords B' w v l := by
  obtain ⟨h1, h2⟩ := h
  refine ⟨h1, ?_⟩
  rcases h2 with h2 | ⟨g, cap, cur, hv, hbg, hrest⟩
  · exact Or.inl h2
  · exact Or.inr ⟨g, cap, cur, hv, Nat.le_trans hb hbg, hrest⟩
theorem WordsAt.below {w w' : World} {v : Value} {l : List Int} (h : WordsAt w v l) (hb : Below w.heap.size w w') : WordsAt w' v l := by
  obtain ⟨A, c, e, h1, h2, h3⟩ := h
  refine ⟨A, c, e, h1, h2, fun k hk => ?_⟩
  obtain ⟨ad, e, hc⟩ := h3 k hk
  exact ⟨ad, e, cell_keep hb (Nat.le_refl _) hc⟩
theorem WordsAt.none_ (w : World) : WordsAt w (.slice none 0 0) [] := ⟨none, 0, rfl, Nat.le_refl _, by unfold maxLen; omega, fun k h => absurd h (by simp)⟩
theorem WordsAt.take {w : World} {A : Option Addr} {n c : Nat} {l : List Int} (h : WordsAt w (.slice A n c) l) (m : Nat) (hm : m ≤ n) : WordsAt w (.slice A m c) (l.take m) := by
  obtain ⟨A', c', e, h1, h2, h3⟩ := h
  injection e with e1 e2 e3
  subst e1 e2 e3
  have hl : (l.take m).length = m := by rw [List.length_take]; omega
  refine ⟨A, c, by rw [hl], by omega, h2, fun k hk => ?_⟩
  obtain ⟨ad, e, hc⟩ := h3 k (by omega)
  exact ⟨ad, e, by rw [hc, List.getElem_take]⟩
theorem info_word : (Try.prog.info? 21).map (fun i => (i.zero, i.size, i.bytes)) = some (some (.int .i32 0), 1, 4) := by kernel_rfl
theorem append_none (w : World) (c : Nat) : (Builtin.append_ #[31, 31] 31 #[.slice none 0 0, .slice none 0 c]).run Try.prog w = .ok (.slice none 0 0) w := by
  kernel_rfl
theorem below_of_grown {w w' : World} (h : w.grownBy w' none) : Below w.heap.size w w' := ⟨h.os, h.tape, h.output, h.size, fun k hk => h.block k hk (by simp)⟩
set_option maxRecDepth 100000 in
theorem run_own (w : World) (v : Value) (l : List Int) (h : WordsAt w v l) (hl : l.length ≤ 1000000) :
    ∃ v' w', (Builtin.append_ #[31, 31] 31 #[.slice none 0 0, v]).run Try.prog w = .ok v' w' ∧ OwnWords w.heap.size w' v' l ∧ Below w.heap.size w w' := by
  obtain ⟨A, c, rfl, h1, h2, h3⟩ := h
  obtain ⟨i0, hi, hz0, hz1, hz2⟩ := info_parts info_word
  cases A with
  | none =>
    cases l with
    | nil => exact ⟨_, w, append_none w c, World.ownsRow_nil _ _ _ _, Below.refl _ _⟩
    | cons x l =>
      obtain ⟨ad, e, _⟩ := h3 0 (by simp)
      cases e
  | some ad =>
    have hc : ∀ j u, (l.map (Value.int .i32))[j]? = some u → w.cell? (ad.add j) = some u := by
      intro j u hj
      rw [List.getElem?_map] at hj
      by_cases hlt : j < l.length
      · rw [List.getElem?_eq_getElem hlt] at hj
        obtain ⟨ad', e, hc⟩ := h3 j hlt
        injection e with e
        subst e
        rw [hc]; exact hj
      · rw [List.getElem?_eq_none (by omega)] at hj
        cases hj
    obtain ⟨v', w', hr, r1, r2, _⟩ := run_append_own (P := Try.prog) w w.heap.size 31 31 21 i0 (.int .i32 0) 1 4 Try.underlying31 hi hz0 hz1 hz2 rfl (by decide) (.slice none 0 0) 0 [] (World.ownsRow_nil _ _ _ _) ad l.length c (l.map (Value.int .i32)) (by rw [List.length_map, Nat.mul_one]) hc
      (by intro u hu; obtain ⟨x, _, rfl⟩ := List.mem_map.1 hu; rfl) (by unfold maxLen; omega) (by omega) (Nat.le_refl _)
    refine ⟨v', w', hr, ?_, below_of_grown r2⟩
    rw [Nat.zero_add, List.nil_append] at r1
    exact r1
set_option maxRecDepth 100000 in
theorem run_own0 (w : World) (B : Nat) (v0 v : Value) (l : List Int) (h0 : w.ownsRow B 21 1 v0 0 []) (h : WordsAt w v l) (hl : l.length ≤ 1000000) (hB : B ≤ w.heap.size) :
    ∃ v' w', (Builtin.append_ #[31, 31] 31 #[v0, v]).run Try.prog w = .ok v' w' ∧ OwnWords B w' v' l ∧ w.grownBy w' v0.ownBlock := by
  obtain ⟨A, c, rfl, h1, h2, h3⟩ := h
  obtain ⟨i0, hi, hz0, hz1, hz2⟩ := info_parts info_word
  cases A with
  | none =>
    cases l with
    | nil =>
      refine ⟨v0, w, ?_, h0, ⟨rfl, rfl, rfl, Nat.le_refl _, fun _ _ _ => rfl⟩⟩
      rcases h0.2 with ⟨rfl, _⟩ | ⟨g, cap, cur, rfl, _, _, hnc, _⟩
      · exact append_none w c
      · simp [Builtin.append_, run_underlying Try.underlying31, sizeOf, typeInfo, hi, Builtin.lenOf, Builtin.firstCells, storeCells]
    | cons x l =>
      obtain ⟨ad, e, _⟩ := h3 0 (by simp)
      cases e
  | some ad =>
    have hc : ∀ j u, (l.map (Value.int .i32))[j]? = some u → w.cell? (ad.add j) = some u := by
      intro j u hj
      rw [List.getElem?_map] at hj
      by_cases hlt : j < l.length
      · rw [List.getElem?_eq_getElem hlt] at hj
        obtain ⟨ad', e, hc⟩ := h3 j hlt
        injection e with e
        subst e
        rw [hc]; exact hj
      · rw [List.getElem?_eq_none (by omega)] at hj
        cases hj
    obtain ⟨v', w', hr, r1, r2, _⟩ := run_append_own (P := Try.prog) w B 31 31 21 i0 (.int .i32 0) 1 4 Try.underlying31 hi hz0 hz1 hz2 rfl (by decide) v0 0 [] h0 ad l.length c (l.map (Value.int .i32)) (by rw [List.length_map, Nat.mul_one]) hc
      (by intro u hu; obtain ⟨x, _, rfl⟩ := List.mem_map.1 hu; rfl) (by unfold maxLen; omega) (by omega) hB
    refine ⟨v', w', hr, ?_, r2⟩
    rw [Nat.zero_add, List.nil_append] at r1
    exact r1
theorem wpList_own0 {w : World} {ops : Array Oper} {rest : List Oper} {o : Oper} {a : Act} {Q : Exit → Act → World → Prop} (hgd : o.guard = none) (s x : Operand)
    (ho : o.op = .call { callee := .builtin .append, args := #[s, x], argTypes := #[31, 31] }) (ht : o.type = 31) (B : Nat) (v0 : Value) (l : List Int) (hs : a.eval s = v0) (h0 : w.ownsRow B 21 1 v0 0 []) (h : WordsAt w (a.eval x) l) (hl : l.length ≤ 1000000) (hB : B ≤ w.heap.size)
    (hK : ∀ v' w', OwnWords B w' v' l → w.grownBy w' v0.ownBlock → wpList Try.prog ops Q rest (a.put o.dst v') w') : wpList Try.prog ops Q (o :: rest) a w := by
  refine wpList_plain hgd fun K hK' => ?_
  obtain ⟨v', w', hr, h2, h3⟩ := run_own0 w B v0 _ l h0 h hl hB
  unfold Oper.wp execOp
  simp only [ho, resolve, invoke, builtin, Sem.run_bind, Sem.run_pure, Result.andThen_ok, List.map_toArray, List.map_cons, List.map_nil, hs, ht, hr]
  exact hK' _ _ (hK v' w' h2 h3)
def OwnPost (l : List Int) (w : World) (en : Ending) (w' : World) : Prop := ∃ v, en = .returned v ∧ OwnWords w.heap.size w' v l ∧ Below w.heap.size w w'
theorem OwnWords.below {B : Nat} {w w' : World} {v : Value} {l : List Int} (h : OwnWords B w v l) (hb : Below w.heap.size w w') : OwnWords B w' v l := by
  refine World.ownsRow.kept h (grown_of_below hb) ?_
  cases v.ownBlock with
  | none => exact Or.inl rfl
  | some g => exact Or.inr (by simp)
theorem OwnWords.slice {B : Nat} {w : World} {v : Value} {l : List Int} (h : OwnWords B w v l) : ∃ A n c, v = .slice A n c := by
  rcases h.2 with ⟨rfl, _⟩ | ⟨g', cap, cur, rfl, _⟩
  · exact ⟨_, _, _, rfl⟩
  · exact ⟨_, _, _, rfl⟩
theorem OwnWords.where_ {B g : Nat} {w : World} {v : Value} {l : List Int} (h : OwnWords B w v l) (hg : v.ownBlock = some g) : B ≤ g ∧ g < w.heap.size := by
  rcases h.2 with ⟨rfl, _⟩ | ⟨g', cap, cur, rfl, hb, hc, _⟩
  · cases hg
  · injection hg with hg
    subst hg
    exact ⟨hb, by rcases Nat.lt_or_ge g' w.heap.size with hl | hl; exact hl; rw [Array.getElem?_eq_none hl] at hc; cases hc⟩
def hasB (n : Nat) (at_ : Int) : Bool := decide (0 ≤ at_) && decide (at_ < n)
theorem words_of_own {B : Nat} {w : World} {v : Value} {l : List Int} (h : OwnWords B w v l) : WordsAt w v l := by
  rcases h.2 with ⟨rfl, h0⟩ | ⟨g, cap, cur, rfl, _, hg, hn, hm, _⟩
  · have : l = [] := List.length_eq_zero_iff.1 h0
    subst this; exact WordsAt.none_ w
  · refine ⟨some ⟨g, 0, none⟩, cap, rfl, hn, hm, fun k hk => ⟨_, rfl, ?_⟩⟩
    exact World.ownsRow.cells h (g := g) rfl k _ (by rw [List.getElem?_map, List.getElem?_eq_getElem hk]; rfl)
theorem but_set (b i : Nat) (v : Value) (w : World) : But b w (w.setCell ⟨b, i, none⟩ v) := But.of_grown (setCell_grownBy w ⟨b, i, none⟩ v)
theorem below_of_but {n m : Nat} {a b : World} (h : But m a b) (hm : n ≤ m) (hn : n ≤ a.heap.size) : Below n a b := ⟨h.os, h.tape, h.output, h.size, fun k hk => h.block k (by omega) (by omega)⟩
theorem has_iff {n : Nat} {a : Int} : hasB n a = true ↔ 0 ≤ a ∧ a < n := by unfold hasB; simp

theorem grown_refl (w : World) (row : Option Nat) : w.grownBy w row := ⟨rfl, rfl, rfl, Nat.le_refl _, fun _ _ _ => rfl⟩
theorem hasB_yes {n : Nat} {p : Int} (h0 : 0 ≤ p) (h1 : p < n) : hasB n p = true := has_iff.2 ⟨h0, h1⟩
theorem hasB_no {n : Nat} {p : Int} (h : ¬ (0 ≤ p ∧ p < n)) : hasB n p = false := by cases hc : hasB n p; rfl; exact absurd (has_iff.1 hc) h
/-- What a place of a row has; 0, if there is none. -/
def atV (l : List Int) (p : Int) : Int := if hasB l.length p = true then l.getD p.toNat 0 else 0
def putL (l : List Int) (p v : Int) : List Int := if hasB l.length p = true then l.set p.toNat v else l
theorem putL_len (l : List Int) (p v : Int) : (putL l p v).length = l.length := by unfold putL; split <;> simp
set_option maxRecDepth 100000 in
theorem rhas_any (w : World) (A : Option Addr) (n c : Nat) (p : Int) :
    Calls Try.prog 56 #[.slice A n c, .int .i64 p] w fun e w' => e = .returned (.bool (hasB n p)) ∧ w' = w := by
  by_cases h : 0 ≤ p
  · by_cases hl : p < n
    · have HW := Lib.hid (hasB_yes h hl)
      go_enter Try.func56, Try.ntmps56
      go_wp2
      go_ret
      rw [HW.out]
      exact ⟨rfl, rfl⟩
    · have HW := Lib.hid (hasB_no (n := n) (p := p) (by omega))
      have hl' : (n : Int) ≤ p := by omega
      go_enter Try.func56, Try.ntmps56
      go_wp2
      go_ret
      rw [HW.out]
      exact ⟨rfl, rfl⟩
  · have HW := Lib.hid (hasB_no (n := n) (p := p) (by omega))
    have h' : p < 0 := by omega
    go_enter Try.func56, Try.ntmps56
    go_wp2
    go_ret
    rw [HW.out]
    exact ⟨rfl, rfl⟩
set_option maxRecDepth 100000 in
theorem rat_any (w : World) (v : Value) (l : List Int) (p : Int) (hv : WordsAt w v l) :
    Calls Try.prog 38 #[v, .int .i64 p] w fun e w' => e = .returned (.int .i32 (atV l p)) ∧ w' = w := by
  obtain ⟨A, c, rfl, h1, h2, h3⟩ := hv
  have H3 := Lib.hid h3
  unfold maxLen at h2
  clear h3
  cases hB : hasB l.length p with
  | false =>
    have HW := Lib.hid (show atV l p = 0 by unfold atV; rw [hB]; rfl)
    have HBH := Lib.hid hB
    all_goals
      clear hB
      go_enter Try.func38, Try.ntmps38
      go_wp2_with fail
      refine (rhas_any w _ _ _ _).mono ?_
      rintro e w' ⟨rfl, rfl⟩
      rw [HBH.out]
      go_wp2
      go_ret
      rw [HW.out]
      exact ⟨rfl, rfl⟩
  | true =>
    have hp := has_iff.1 hB
    obtain ⟨k, rfl⟩ : ∃ k : Nat, p = k := ⟨p.toNat, by omega⟩
    have hk : k < l.length := by omega
    obtain ⟨ad, rfl, hc⟩ := H3.out k hk
    have HW := Lib.hid (show atV l k = l[k] by unfold atV; rw [if_pos hB, Int.toNat_natCast, List.getD_eq_getElem?_getD, List.getElem?_eq_getElem hk]; rfl)
    have HBH := Lib.hid hB
    clear hB hp
    generalize l[k] = z at *
    go_enter Try.func38, Try.ntmps38
    go_wp2_with fail
    refine (rhas_any w _ _ _ _).mono ?_
    rintro e w' ⟨rfl, rfl⟩
    rw [HBH.out]
    go_wp2
    go_ret
    rw [HW.out]
    exact ⟨rfl, rfl⟩
set_option maxRecDepth 100000 in
theorem fat_any (w : World) (v : Value) (l : List Int) (p : Int) (hv : WordsAt w v l) :
    Calls Try.prog 35 #[v, .int .i64 p] w fun e w' => e = .returned (.int .i32 (atV l p)) ∧ w' = w := by
  obtain ⟨A, c, rfl, h1, h2, h3⟩ := hv
  have H3 := Lib.hid h3
  unfold maxLen at h2
  clear h3
  cases hB : hasB l.length p with
  | false =>
    have HW := Lib.hid (show atV l p = 0 by unfold atV; rw [hB]; rfl)
    have HBH := Lib.hid hB
    have hp : ¬ (0 ≤ p ∧ p < l.length) := fun h => by rw [has_iff.2 h] at hB; cases hB
    by_cases h0 : p < 0
    rotate_left
    have h9 : (l.length : Int) ≤ p := by omega
    rotate_left
    all_goals
      clear hB hp
      go_enter Try.func35, Try.ntmps35
      go_wp2
      go_ret
      rw [HW.out]
      exact ⟨rfl, rfl⟩
  | true =>
    have hp := has_iff.1 hB
    obtain ⟨k, rfl⟩ : ∃ k : Nat, p = k := ⟨p.toNat, by omega⟩
    have hk : k < l.length := by omega
    obtain ⟨ad, rfl, hc⟩ := H3.out k hk
    have HW := Lib.hid (show atV l k = l[k] by unfold atV; rw [if_pos hB, Int.toNat_natCast, List.getD_eq_getElem?_getD, List.getElem?_eq_getElem hk]; rfl)
    have HBH := Lib.hid hB
    clear hB hp
    generalize l[k] = z at *
    go_enter Try.func35, Try.ntmps35
    go_wp2
    go_ret
    rw [HW.out]
    exact ⟨rfl, rfl⟩
def PutRes (B : Nat) (m : Value) (l : List Int) (p v : Int) (w : World) (e : Ending) (w' : World) : Prop := e = .returned (.tuple #[]) ∧ OwnWords B w' m (putL l p v) ∧ w.grownBy w' m.ownBlock
set_option maxRecDepth 100000 in
theorem rput_any (w : World) (B : Nat) (m : Value) (l : List Int) (p v : Int) (hm : OwnWords B w m l) :
    Calls Try.prog 37 #[m, .int .i64 p, .int .i32 v] w (PutRes B m l p v w) := by
  have HM := Lib.hid hm
  cases hB : hasB l.length p with
  | false =>
    have HP := Lib.hid (show PutRes B m l p v w (.returned (.tuple #[])) w from ⟨rfl, by unfold putL; rw [hB]; exact hm, grown_refl _ _⟩)
    obtain ⟨A, c, rfl⟩ := own_form hm
    have HBH := Lib.hid hB
    all_goals
      clear hB hm
      go_enter Try.func37, Try.ntmps37
      go_wp2_with fail
      refine (rhas_any w _ _ _ _).mono ?_
      rintro e w' ⟨rfl, rfl⟩
      rw [HBH.out]
      go_wp2
      refine ⟨rfl, .tuple #[], by simp only [results]; go_simp, ?_⟩
      exact HP.out
  | true =>
    have hp : 0 ≤ p ∧ p < l.length := has_iff.1 hB
    obtain ⟨k, rfl⟩ : ∃ k : Nat, p = k := ⟨p.toNat, by omega⟩
    have hk : k < l.length := by omega
    rcases hm.2 with ⟨rfl, h0⟩ | ⟨g, c, cur, rfl, h1, h2, h3, h4, h5⟩
    · omega
    unfold maxLen at h4
    have hc : w.cell? ⟨g, k, none⟩ = some (.int .i32 l[k]) := by rw [World.ownsRow.cellAt hm k (by omega), List.getElem?_map, List.getElem?_eq_getElem hk]; rfl
    have hf : w.frozen? ⟨g, k, none⟩ = false := World.ownsRow.frozenAt hm k
    have HP := Lib.hid (show PutRes B (.slice (some ⟨g, 0, none⟩) l.length c) l k v w (.returned (.tuple #[])) (w.setCell ⟨g, k, none⟩ (.int .i32 v)) by
      obtain ⟨s1, s2⟩ := World.ownsRow.stored hm k (.int .i32 v)
      refine ⟨rfl, ?_, s2⟩
      unfold OwnWords putL
      rw [if_pos hB, Int.toNat_natCast, List.length_set, List.map_set]
      exact s1)
    have HBH := Lib.hid hB
    generalize l[k] = z at *
    clear hB hp hm h2 h5
    go_enter Try.func37, Try.ntmps37
    go_wp2_with fail
    refine (rhas_any w _ _ _ _).mono ?_
    rintro e w' ⟨rfl, rfl⟩
    rw [HBH.out]
    go_wp2
    refine ⟨rfl, .tuple #[], by simp only [results]; go_simp, ?_⟩
    exact HP.out
set_option maxRecDepth 100000 in
theorem fput_any (w : World) (B : Nat) (m : Value) (l : List Int) (p v : Int) (hm : OwnWords B w m l) :
    Calls Try.prog 33 #[m, .int .i64 p, .int .i32 v] w (PutRes B m l p v w) := by
  have HM := Lib.hid hm
  cases hB : hasB l.length p with
  | false =>
    have HP := Lib.hid (show PutRes B m l p v w (.returned (.tuple #[])) w from ⟨rfl, by unfold putL; rw [hB]; exact hm, grown_refl _ _⟩)
    obtain ⟨A, c, rfl⟩ := own_form hm
    have HBH := Lib.hid hB
    have hp : ¬ (0 ≤ p ∧ p < l.length) := fun h => by rw [has_iff.2 h] at hB; cases hB
    by_cases h0 : p < 0
    rotate_left
    have h9 : (l.length : Int) ≤ p := by omega
    rotate_left
    all_goals
      clear hB hm hp
      go_enter Try.func33, Try.ntmps33
      go_wp2
      refine ⟨rfl, .tuple #[], by simp only [results]; go_simp, ?_⟩
      exact HP.out
  | true =>
    have hp : 0 ≤ p ∧ p < l.length := has_iff.1 hB
    obtain ⟨k, rfl⟩ : ∃ k : Nat, p = k := ⟨p.toNat, by omega⟩
    have hk : k < l.length := by omega
    rcases hm.2 with ⟨rfl, h0⟩ | ⟨g, c, cur, rfl, h1, h2, h3, h4, h5⟩
    · omega
    unfold maxLen at h4
    have hc : w.cell? ⟨g, k, none⟩ = some (.int .i32 l[k]) := by rw [World.ownsRow.cellAt hm k (by omega), List.getElem?_map, List.getElem?_eq_getElem hk]; rfl
    have hf : w.frozen? ⟨g, k, none⟩ = false := World.ownsRow.frozenAt hm k
    have HP := Lib.hid (show PutRes B (.slice (some ⟨g, 0, none⟩) l.length c) l k v w (.returned (.tuple #[])) (w.setCell ⟨g, k, none⟩ (.int .i32 v)) by
      obtain ⟨s1, s2⟩ := World.ownsRow.stored hm k (.int .i32 v)
      refine ⟨rfl, ?_, s2⟩
      unfold OwnWords putL
      rw [if_pos hB, Int.toNat_natCast, List.length_set, List.map_set]
      exact s1)
    have HBH := Lib.hid hB
    generalize l[k] = z at *
    clear hB hp hm h2 h5
    go_enter Try.func33, Try.ntmps33
    go_wp2
    refine ⟨rfl, .tuple #[], by simp only [results]; go_simp, ?_⟩
    exact HP.out
/-- A register's place. -/
def regP (n : Int) : Int := if n < 0 ∨ 16 ≤ n then -1 else n
def slotP (n : Int) : Int := if n < 0 then -1 else 16 + n
set_option maxRecDepth 100000 in
theorem oreg_any (w : World) (n : Int) : Calls Try.prog 54 #[.int .i64 n] w fun e w' => e = .returned (.int .i64 (regP n)) ∧ w' = w := by
  by_cases h0 : n < 0
  · have HW := Lib.hid (show regP n = -1 by unfold regP; rw [if_pos (Or.inl h0)])
    go_enter Try.func54, Try.ntmps54
    go_wp2
    go_ret
    rw [HW.out]
    exact ⟨rfl, rfl⟩
  · have h0' : 0 ≤ n := by omega
    by_cases h1 : 16 ≤ n
    · have HW := Lib.hid (show regP n = -1 by unfold regP; rw [if_pos (Or.inr h1)])
      have h2 : 15 < n := by omega
      go_enter Try.func54, Try.ntmps54
      go_wp2
      go_ret
      rw [HW.out]
      exact ⟨rfl, rfl⟩
    · have HW := Lib.hid (show regP n = n by unfold regP; rw [if_neg (by omega)])
      have h2 : n < 16 := by omega
      have h3 : n ≤ 15 := by omega
      go_enter Try.func54, Try.ntmps54
      go_wp2
      go_ret
      rw [HW.out]
      exact ⟨rfl, rfl⟩
set_option maxRecDepth 100000 in
theorem freg_any (w : World) (n : Int) : Calls Try.prog 34 #[.int .i64 n] w fun e w' => e = .returned (.int .i64 (regP n)) ∧ w' = w := by
  by_cases h0 : n < 0
  · have HW := Lib.hid (show regP n = -1 by unfold regP; rw [if_pos (Or.inl h0)])
    go_enter Try.func34, Try.ntmps34
    go_wp2
    go_ret
    rw [HW.out]
    exact ⟨rfl, rfl⟩
  · have h0' : 0 ≤ n := by omega
    by_cases h1 : 16 ≤ n
    · have HW := Lib.hid (show regP n = -1 by unfold regP; rw [if_pos (Or.inr h1)])
      have h2 : 15 < n := by omega
      go_enter Try.func34, Try.ntmps34
      go_wp2
      go_ret
      rw [HW.out]
      exact ⟨rfl, rfl⟩
    · have HW := Lib.hid (show regP n = n by unfold regP; rw [if_neg (by omega)])
      have h2 : n < 16 := by omega
      have h3 : n ≤ 15 := by omega
      go_enter Try.func34, Try.ntmps34
      go_wp2
      go_ret
      rw [HW.out]
      exact ⟨rfl, rfl⟩
set_option maxRecDepth 100000 in
theorem oslot_any (w : World) (n : Int) (h1 : -2147483648 ≤ n) (h2 : n ≤ 2147483647) : Calls Try.prog 55 #[.int .i32 n] w fun e w' => e = .returned (.int .i64 (slotP n)) ∧ w' = w := by
  by_cases h0 : n < 0
  · have HW := Lib.hid (show slotP n = -1 by unfold slotP; rw [if_pos h0])
    go_enter Try.func55, Try.ntmps55
    go_wp2
    go_ret
    rw [HW.out]
    exact ⟨rfl, rfl⟩
  · have h0' : 0 ≤ n := by omega
    have HW := Lib.hid (show slotP n = 16 + n by unfold slotP; rw [if_neg h0])
    go_enter Try.func55, Try.ntmps55
    go_wp2
    go_ret
    rw [HW.out]
    exact ⟨rfl, rfl⟩
set_option maxRecDepth 100000 in
theorem fslot_any (w : World) (n : Int) (h1 : -2147483648 ≤ n) (h2 : n ≤ 2147483647) : Calls Try.prog 36 #[.int .i32 n] w fun e w' => e = .returned (.int .i64 (slotP n)) ∧ w' = w := by
  by_cases h0 : n < 0
  · have HW := Lib.hid (show slotP n = -1 by unfold slotP; rw [if_pos h0])
    go_enter Try.func36, Try.ntmps36
    go_wp2
    go_ret
    rw [HW.out]
    exact ⟨rfl, rfl⟩
  · have h0' : 0 ≤ n := by omega
    have HW := Lib.hid (show slotP n = 16 + n by unfold slotP; rw [if_neg h0])
    go_enter Try.func36, Try.ntmps36
    go_wp2
    go_ret
    rw [HW.out]
    exact ⟨rfl, rfl⟩
end Go.Proofs.Ytdohaoomckhbgaa.Vm
