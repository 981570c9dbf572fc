/- Rows of words: a slice that reads as words, one of the call's own; what interp's own and Memory make. -/
import Derived.Test.YtdidacjmcafcpaaRows
import Derived.Test.YtdidacjmcafcpaaFn
import Derived.Test.YtdidacjmcafcpaaStruct
import Derived.Test.YtdidacjmcafcpaaPlain
import Derived.Test.YtdidacjmcafcpaaSlices
import Derived.Test.YtdidacjmcafcpaaInfo
import Derived.WalkKit
import Derived.ProofKit
import Derived.Below
import Derived.Lib.Hide
import Derived.Deep.QuietTactic
import Derived.BigQuiet
import Derived.WalkSmall
namespace Go.Proofs.Ytdidacjmcafcpaa.Mw
open Go.ChangeShapes Go.WideShapes Go.ChangeAt Go.RowKit Go.Proofs.Ytdidacjmcafcpaa.Mem Go.Proofs.Ytdidacjmcafcpaa.Kc Go.Proofs.Ytdidacjmcafcpaa.Pl Go.Proofs.Ytdidacjmcafcpaa.Gr
set_option linter.unusedVariables false
/-- All but block m is as it was. -/
structure But (m : Nat) (w w' : World) : Prop where
  os : w'.os = w.os
  tape : w'.tape = w.tape
  output : w'.output = w.output
  size : w.heap.size ≤ w'.heap.size
  block : ∀ k, k < w.heap.size → k ≠ m → w'.heap[k]? = w.heap[k]?
theorem But.refl (m : Nat) (w : World) : But m w w := ⟨rfl, rfl, rfl, Nat.le_refl _, fun _ _ _ => rfl⟩
theorem But.of_below {m : Nat} {w w' : World} (h : Below w.heap.size w w') : But m w w' := ⟨h.os, h.tape, h.output, h.size, fun k hk _ => h.block k hk⟩
theorem But.trans {m : Nat} {a b c : World} (h : But m a b) (k : But m b c) : But m a c :=
  ⟨k.os.trans h.os, k.tape.trans h.tape, k.output.trans h.output, Nat.le_trans h.size k.size, fun i hi hn => (k.block i (Nat.lt_of_lt_of_le hi h.size) hn).trans (h.block i hi hn)⟩
theorem But.of_grown {m : Nat} {a b : World} (h : a.grownBy b (some m)) : But m a b := ⟨h.os, h.tape, h.output, h.size, fun k hk hn => h.block k hk (fun e => hn (Option.some.inj e))⟩
theorem But.drew {m : Nat} {a b : World} (h : But m a b) : But m a b.drew := ⟨h.os, h.tape, h.output, h.size, h.block⟩
theorem But.below {m B : Nat} {a b : World} (h : But m a b) (hB : B ≤ m) (hs : B ≤ a.heap.size) : Below B a b := ⟨h.os, h.tape, h.output, h.size, fun k hk => h.block k (Nat.lt_of_lt_of_le hk hs) (by omega)⟩
theorem But.cell {m : Nat} {a b : World} (h : But m a b) {p : Addr} {v : Value} (hc : a.cell? p = some v) (hn : p.block ≠ m) : b.cell? p = some v := by
  rw [World.cell?_of_block (h.block _ (lt_of_cell hc) hn)]; exact hc
theorem But.str {m : Nat} {a b : World} (h : But m a b) {x : Nat} {t : TypeId} {vs : List Value} (hc : Str a x t vs) (hn : x ≠ m) : Str b x t vs := (h.block x hc.lt hn).trans hc
/-- The slice v reads as the words l. -/
def WordsAt (w : World) (v : Value) (l : List Int) : Prop :=
  ∃ (A : Option Addr) (c : Nat), v = .slice A l.length c ∧ l.length ≤ c ∧ c ≤ maxLen ∧ ∀ k (h : k < l.length), ∃ ad, A = some ad ∧ w.cell? (ad.add k) = some (.int .i32 l[k])
def OwnWords (B : Nat) (w : World) (v : Value) (l : List Int) : Prop := w.ownsRow B 21 1 v l.length (l.map (Value.int .i32))
theorem OwnWords.mono {B B' : Nat} {w : World} {v : Value} {l : List Int} (h : OwnWords B w v l) (hb : B' ≤ B) : OwnWords B' w v l := by
  obtain ⟨h1, h2⟩ := h
  refine ⟨h1, ?_⟩
  rcases h2 with h2 | ⟨g, cap, cur, hv, hbg, hrest⟩
  · exact Or.inl h2
  · exact Or.inr ⟨g, cap, cur, hv, Nat.le_trans hb hbg, hrest⟩
theorem WordsAt.below {w w' : World} {v : Value} {l : List Int} (h : WordsAt w v l) (hb : Below w.heap.size w w') : WordsAt w' v l := by
  obtain ⟨A, c, e, h1, h2, h3⟩ := h
  refine ⟨A, c, e, h1, h2, fun k hk => ?_⟩
  obtain ⟨ad, e, hc⟩ := h3 k hk
  exact ⟨ad, e, cell_keep hb (Nat.le_refl _) hc⟩
theorem WordsAt.none_ (w : World) : WordsAt w (.slice none 0 0) [] := ⟨none, 0, rfl, Nat.le_refl _, by unfold maxLen; omega, fun k h => absurd h (by simp)⟩
theorem WordsAt.take {w : World} {A : Option Addr} {n c : Nat} {l : List Int} (h : WordsAt w (.slice A n c) l) (m : Nat) (hm : m ≤ n) : WordsAt w (.slice A m c) (l.take m) := by
  obtain ⟨A', c', e, h1, h2, h3⟩ := h
  injection e with e1 e2 e3
  subst e1 e2 e3
  have hl : (l.take m).length = m := by rw [List.length_take]; omega
  refine ⟨A, c, by rw [hl], by omega, h2, fun k hk => ?_⟩
  obtain ⟨ad, e, hc⟩ := h3 k (by omega)
  exact ⟨ad, e, by rw [hc, List.getElem_take]⟩
theorem info_word : (Try.prog.info? 21).map (fun i => (i.zero, i.size, i.bytes)) = some (some (.int .i32 0), 1, 4) := by kernel_rfl
theorem append_none (w : World) (c : Nat) : (Builtin.append_ #[36, 36] 36 #[.slice none 0 0, .slice none 0 c]).run Try.prog w = .ok (.slice none 0 0) w := by
  kernel_rfl
theorem below_of_grown {w w' : World} (h : w.grownBy w' none) : Below w.heap.size w w' := ⟨h.os, h.tape, h.output, h.size, fun k hk => h.block k hk (by simp)⟩
set_option maxRecDepth 100000 in
theorem run_own (w : World) (v : Value) (l : List Int) (h : WordsAt w v l) (hl : l.length ≤ 1000000) :
    ∃ v' w', (Builtin.append_ #[36, 36] 36 #[.slice none 0 0, v]).run Try.prog w = .ok v' w' ∧ OwnWords w.heap.size w' v' l ∧ Below w.heap.size w w' := by
  obtain ⟨A, c, rfl, h1, h2, h3⟩ := h
  obtain ⟨i0, hi, hz0, hz1, hz2⟩ := info_parts info_word
  cases A with
  | none =>
    cases l with
    | nil => exact ⟨_, w, append_none w c, World.ownsRow_nil _ _ _ _, Below.refl _ _⟩
    | cons x l =>
      obtain ⟨ad, e, _⟩ := h3 0 (by simp)
      cases e
  | some ad =>
    have hc : ∀ j u, (l.map (Value.int .i32))[j]? = some u → w.cell? (ad.add j) = some u := by
      intro j u hj
      rw [List.getElem?_map] at hj
      by_cases hlt : j < l.length
      · rw [List.getElem?_eq_getElem hlt] at hj
        obtain ⟨ad', e, hc⟩ := h3 j hlt
        injection e with e
        subst e
        rw [hc]; exact hj
      · rw [List.getElem?_eq_none (by omega)] at hj
        cases hj
    obtain ⟨v', w', hr, r1, r2, _⟩ := run_append_own (P := Try.prog) w w.heap.size 36 36 21 i0 (.int .i32 0) 1 4 Try.underlying36 hi hz0 hz1 hz2 rfl (by decide) (.slice none 0 0) 0 [] (World.ownsRow_nil _ _ _ _) ad l.length c (l.map (Value.int .i32)) (by rw [List.length_map, Nat.mul_one]) hc
      (by intro u hu; obtain ⟨x, _, rfl⟩ := List.mem_map.1 hu; rfl) (by unfold maxLen; omega) (by omega) (Nat.le_refl _)
    refine ⟨v', w', hr, ?_, below_of_grown r2⟩
    rw [Nat.zero_add, List.nil_append] at r1
    exact r1
theorem wpList_own {w : World} {ops : Array Oper} {rest : List Oper} {o : Oper} {a : Act} {Q : Exit → Act → World → Prop} (hgd : o.guard = none) (s x : Operand)
    (ho : o.op = .call { callee := .builtin .append, args := #[s, x], argTypes := #[36, 36] }) (ht : o.type = 36) (l : List Int) (hs : a.eval s = .slice none 0 0) (h : WordsAt w (a.eval x) l) (hl : l.length ≤ 1000000)
    (hK : ∀ v' w', OwnWords w.heap.size w' v' l → Below w.heap.size w w' → wpList Try.prog ops Q rest (a.put o.dst v') w') : wpList Try.prog ops Q (o :: rest) a w := by
  refine wpList_plain hgd fun K hK' => ?_
  obtain ⟨v', w', hr, h2, h3⟩ := run_own w _ l h hl
  unfold Oper.wp execOp
  simp only [ho, resolve, invoke, builtin, Sem.run_bind, Sem.run_pure, Result.andThen_ok, List.map_toArray, List.map_cons, List.map_nil, hs, ht, hr]
  exact hK' _ _ (hK v' w' h2 h3)
def OwnPost (l : List Int) (w : World) (en : Ending) (w' : World) : Prop := ∃ v, en = .returned v ∧ OwnWords w.heap.size w' v l ∧ Below w.heap.size w w'
set_option maxRecDepth 100000 in
theorem own_any (w : World) (v : Value) (l : List Int) (h : WordsAt w v l) (hl : l.length ≤ 1000000) :
    Calls Try.prog 70 #[v] w (OwnPost l w) := by
  have H := Lib.hid h
  clear h
  go_enter Try.func70, Try.ntmps70
  go_wp2_with (at_builtin; refine wpList_own rfl _ _ rfl rfl l rfl H.out hl ?_)
  intro v' w' h1 h2
  go_wp2
  go_ret
  exact ⟨v', rfl, h1, h2⟩
def MemPost (l : List Int) (w : World) (en : Ending) (w' : World) : Prop := ∃ v, en = .returned v ∧ OwnWords w.heap.size w' v (l.take 4096) ∧ Below w.heap.size w w'
set_option maxRecDepth 100000 in
theorem memory_any (w : World) (av mv nv : Value) (lim : Int) (l : List Int) (h : WordsAt w mv l) :
    Calls Try.prog 55 #[.agg #[av, mv, nv, .int .i64 lim]] w (MemPost l w) := by
  have H := Lib.hid h
  obtain ⟨A, c, rfl, h1, h2, h3⟩ := h
  unfold maxLen at h2
  clear h3
  have hm : (min (l.length : Int) 4096).toNat ≤ l.length := by omega
  have ht : l.take (min (l.length : Int) 4096).toNat = l.take 4096 := by
    by_cases hc : l.length ≤ 4096
    · rw [List.take_of_length_le (by omega), List.take_of_length_le hc]
    · rw [show (min (l.length : Int) 4096).toNat = 4096 by omega]
  go_enter Try.func55, Try.ntmps55
  go_wp2_with fail
  have hb : Below w.heap.size w (w.alloc (.cells #[av, .slice A l.length c, nv, .int .i64 lim] 53)) := (Below.refl _ _).alloc (Nat.le_refl _) _
  refine (own_any _ _ (l.take 4096) (by rw [← ht]; exact ((H.out.below hb).take _ hm)) (by rw [List.length_take]; omega)).mono ?_
  rintro e w2 ⟨v, rfl, hv, hb2⟩
  have hb3 := hb.trans (hb2.mono hb.size)
  have HV := Lib.hid (OwnWords.mono hv hb.size)
  clear hv hb hb2
  go_wp2
  go_ret
  exact ⟨v, rfl, HV.out, hb3⟩
theorem OwnWords.below {B : Nat} {w w' : World} {v : Value} {l : List Int} (h : OwnWords B w v l) (hb : Below w.heap.size w w') : OwnWords B w' v l := by
  refine World.ownsRow.kept h (grown_of_below hb) ?_
  cases v.ownBlock with
  | none => exact Or.inl rfl
  | some g => exact Or.inr (by simp)
theorem OwnWords.slice {B : Nat} {w : World} {v : Value} {l : List Int} (h : OwnWords B w v l) : ∃ A n c, v = .slice A n c := by
  rcases h.2 with ⟨rfl, _⟩ | ⟨g', cap, cur, rfl, _⟩
  · exact ⟨_, _, _, rfl⟩
  · exact ⟨_, _, _, rfl⟩
theorem OwnWords.where_ {B g : Nat} {w : World} {v : Value} {l : List Int} (h : OwnWords B w v l) (hg : v.ownBlock = some g) : B ≤ g ∧ g < w.heap.size := by
  rcases h.2 with ⟨rfl, _⟩ | ⟨g', cap, cur, rfl, hb, hc, _⟩
  · cases hg
  · injection hg with hg
    subst hg
    exact ⟨hb, by rcases Nat.lt_or_ge g' w.heap.size with hl | hl; exact hl; rw [Array.getElem?_eq_none hl] at hc; cases hc⟩
def hasB (n : Nat) (at_ : Int) : Bool := decide (0 ≤ at_) && decide (at_ < n)
set_option maxRecDepth 100000 in
theorem has_any (w : World) (A : Option Addr) (n c : Nat) (at_ : Int) (h1 : n ≤ 1000000) (ha : InW at_) :
    Calls Try.prog 86 #[.slice A n c, .int .i32 at_] w fun e w' => e = .returned (.bool (hasB n at_)) ∧ w' = w := by
  obtain ⟨ha1, ha2⟩ := ha
  by_cases h : 0 ≤ at_
  · by_cases hl : at_ < n
    · have HW := Lib.hid (show hasB n at_ = true by unfold hasB; rw [decide_eq_true h, decide_eq_true hl]; rfl)
      go_enter Try.func86, Try.ntmps86
      go_wp2
      go_ret
      rw [HW.out]
      exact ⟨rfl, rfl⟩
    · have HW := Lib.hid (show hasB n at_ = false by unfold hasB; rw [decide_eq_false hl, Bool.and_false])
      have hl' : (n : Int) ≤ at_ := by omega
      go_enter Try.func86, Try.ntmps86
      go_wp2
      go_ret
      rw [HW.out]
      exact ⟨rfl, rfl⟩
  · have HW := Lib.hid (show hasB n at_ = false by unfold hasB; rw [decide_eq_false h, Bool.false_and])
    have h' : at_ < 0 := by omega
    go_enter Try.func86, Try.ntmps86
    go_wp2
    go_ret
    rw [HW.out]
    exact ⟨rfl, rfl⟩
def loadV (l : List Int) (at_ : Int) : Int := if hasB l.length at_ = true then l.getD at_.toNat 0 else 0
set_option maxRecDepth 100000 in
theorem load_any (w : World) (v : Value) (l : List Int) (at_ : Int) (hv : WordsAt w v l) (hl : l.length ≤ 1000000) (ha : InW at_) :
    Calls Try.prog 80 #[v, .int .i32 at_] w fun e w' => e = .returned (.tuple #[.int .i32 (loadV l at_), .bool (hasB l.length at_)]) ∧ w' = w := by
  obtain ⟨A, c, rfl, h1, h2, h3⟩ := hv
  have H3 := Lib.hid h3
  have HAT := Lib.hid ha
  clear ha
  unfold maxLen at h2
  clear h3
  cases hB : hasB l.length at_ with
  | false =>
    have HW := Lib.hid (show loadV l at_ = 0 by unfold loadV; rw [hB]; rfl)
    have HBH := Lib.hid hB
    clear hB
    go_enter Try.func80, Try.ntmps80
    go_wp2_with fail
    refine (has_any w A l.length c at_ hl HAT.out).mono ?_
    rintro e w' ⟨rfl, rfl⟩
    rw [HBH.out]
    go_wp2
    go_ret2
    rw [HW.out]
    exact ⟨rfl, rfl⟩
  | true =>
    have hp : 0 ≤ at_ ∧ at_ < l.length := by unfold hasB at hB; simpa using hB
    obtain ⟨k, rfl⟩ : ∃ k : Nat, at_ = k := ⟨at_.toNat, by omega⟩
    have hk : k < l.length := by omega
    have hk2 : (k : Int) ≤ 2147483647 := HAT.out.2
    obtain ⟨ad, rfl, hc⟩ := H3.out k hk
    have HW := Lib.hid (show loadV l k = l[k] by unfold loadV; rw [if_pos hB, Int.toNat_natCast, List.getD_eq_getElem?_getD, List.getElem?_eq_getElem hk]; rfl)
    have HBH := Lib.hid hB
    clear hB hp
    generalize l[k] = z at *
    go_enter Try.func80, Try.ntmps80
    go_wp2_with fail
    refine (has_any w _ l.length c k hl HAT.out).mono ?_
    rintro e w' ⟨rfl, rfl⟩
    rw [HBH.out]
    go_wp2
    go_ret2
    rw [HW.out]
    exact ⟨rfl, rfl⟩
theorem words_of_own {B : Nat} {w : World} {v : Value} {l : List Int} (h : OwnWords B w v l) : WordsAt w v l := by
  rcases h.2 with ⟨rfl, h0⟩ | ⟨g, cap, cur, rfl, _, hg, hn, hm, _⟩
  · have : l = [] := List.length_eq_zero_iff.1 h0
    subst this; exact WordsAt.none_ w
  · refine ⟨some ⟨g, 0, none⟩, cap, rfl, hn, hm, fun k hk => ⟨_, rfl, ?_⟩⟩
    exact World.ownsRow.cells h (g := g) rfl k _ (by rw [List.getElem?_map, List.getElem?_eq_getElem hk]; rfl)
theorem but_set (b i : Nat) (v : Value) (w : World) : But b w (w.setCell ⟨b, i, none⟩ v) := But.of_grown (setCell_grownBy w ⟨b, i, none⟩ v)
theorem below_of_but {n m : Nat} {a b : World} (h : But m a b) (hm : n ≤ m) (hn : n ≤ a.heap.size) : Below n a b := ⟨h.os, h.tape, h.output, h.size, fun k hk => h.block k (by omega) (by omega)⟩
theorem has_iff {n : Nat} {a : Int} : hasB n a = true ↔ 0 ≤ a ∧ a < n := by unfold hasB; simp
def StoreRes (B : Nat) (mm : Value) (mem : List Int) (at_ v : Int) (w : World) (e : Ending) (w' : World) : Prop :=
  if hasB mem.length at_ = true then e = .returned (.bool true) ∧ ∃ g, mm.ownBlock = some g ∧ But g w w' ∧ OwnWords B w' mm (mem.set at_.toNat v) else e = .returned (.bool false) ∧ w' = w
set_option maxRecDepth 100000 in
theorem store_any (w : World) (B : Nat) (mm : Value) (mem : List Int) (at_ v : Int) (hm : OwnWords B w mm mem) (hl : mem.length ≤ 1000000) (ha : InW at_) :
    Calls Try.prog 81 #[mm, .int .i32 at_, .int .i32 v] w (StoreRes B mm mem at_ v w) := by
  have HM := Lib.hid hm
  have HAT := Lib.hid ha
  clear ha
  cases hB : hasB mem.length at_ with
  | false =>
    have HP := Lib.hid (show ∀ e w', (e = .returned (.bool false) ∧ w' = w) → StoreRes B mm mem at_ v w e w' from fun e w' h => by unfold StoreRes; rw [if_neg (by rw [hB]; simp)]; exact h)
    obtain ⟨A, c, rfl⟩ := own_form hm
    have HBH := Lib.hid hB
    clear hB hm
    go_enter Try.func81, Try.ntmps81
    go_wp2_with fail
    refine (has_any w A mem.length c at_ hl HAT.out).mono ?_
    rintro e w' ⟨rfl, rfl⟩
    rw [HBH.out]
    go_wp2
    go_ret
    exact HP.out _ _ ⟨rfl, rfl⟩
  | true =>
    have HP := Lib.hid (show ∀ e w', (e = .returned (.bool true) ∧ ∃ g, mm.ownBlock = some g ∧ But g w w' ∧ OwnWords B w' mm (mem.set at_.toNat v)) → StoreRes B mm mem at_ v w e w' from fun e w' h => by unfold StoreRes; rw [if_pos hB]; exact h)
    have hp : 0 ≤ at_ ∧ at_ < mem.length := has_iff.1 hB
    obtain ⟨k, rfl⟩ : ∃ k : Nat, at_ = k := ⟨at_.toNat, by omega⟩
    have hk : k < mem.length := by omega
    have hk2 : (k : Int) ≤ 2147483647 := HAT.out.2
    rcases hm.2 with ⟨rfl, h0⟩ | ⟨g, c, cur, rfl, h1, h2, h3, h4, h5⟩
    · omega
    unfold maxLen at h4
    have hc : w.cell? ⟨g, k, none⟩ = some (.int .i32 mem[k]) := by rw [World.ownsRow.cellAt hm k (by omega), List.getElem?_map, List.getElem?_eq_getElem hk]; rfl
    have hf : w.frozen? ⟨g, k, none⟩ = false := World.ownsRow.frozenAt hm k
    have HS := Lib.hid (show But g w (w.setCell ⟨g, k, none⟩ (.int .i32 v)) ∧ OwnWords B (w.setCell ⟨g, k, none⟩ (.int .i32 v)) (.slice (some ⟨g, 0, none⟩) mem.length c) (mem.set ((k : Int)).toNat v) by
      obtain ⟨s1, s2⟩ := World.ownsRow.stored hm k (.int .i32 v)
      refine ⟨But.of_grown s2, ?_⟩
      unfold OwnWords
      rw [Int.toNat_natCast, List.length_set, List.map_set]
      exact s1)
    have HBH := Lib.hid hB
    generalize mem[k] = z at *
    clear hB hp hm h2 h5
    go_enter Try.func81, Try.ntmps81
    go_wp2_with fail
    refine (has_any w _ mem.length c k hl HAT.out).mono ?_
    rintro e w' ⟨rfl, rfl⟩
    rw [HBH.out]
    go_wp2
    go_ret
    exact HP.out _ _ ⟨rfl, g, rfl, HS.out.1, HS.out.2⟩
end Go.Proofs.Ytdidacjmcafcpaa.Mw
