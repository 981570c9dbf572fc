import Derived.Test.YtcmhcpdfgcmbiaaRows
import Derived.Test.YtcmhcpdfgcmbiaaDo
import Derived.Test.YtcmhcpdfgcmbiaaDigits
import Derived.Test.YtcmhcpdfgcmbiaaNumber
import Derived.WalkKit
import Derived.ProofKit
import Derived.Outline
import Derived.Lib.Hide
import Derived.OneCell
import Derived.Laws.BytesArg
import Derived.Deep.LoopGhost
namespace Go.Proofs.Ytcmhcpdfgcmbiaa.Wd
open Go.ChangeShapes Go.WideShapes Go.ChangeAt Go.RowKit Go.Proofs.Ytcmhcpdfgcmbiaa.Pl
set_option linter.unusedVariables false

/-- How far a text has been laid: the row of eleven bytes is block w0's next, the place where it begins the one behind; l stands at its end. -/
structure Lain (w0 : World) (k : Nat) (l : List UInt8) (w : World) : Prop where
  first : w.heap[w0.heap.size + 1]? = some (.cells #[.int .i64 k] 3 (0, 0))
  row : ∃ cs : Array Value, w.heap[w0.heap.size]? = some (.cells cs 51 (0, 0)) ∧ cs.size = 11 ∧ ∀ j (hj : j < l.length), cs[k + j]? = some (.int .u8 (l[j].toNat : Int))
  len : k + l.length = 11
  bel : Below w0.heap.size w0 w

theorem row_cell {w : World} {b : Nat} {cs : Array Value} {t : TypeId} (h : w.heap[b]? = some (.cells cs t (0, 0))) (i : Nat) : w.cell? ⟨b, i, none⟩ = cs[i]? := by simp [World.cell?, h]
theorem row_free {w : World} {b : Nat} {cs : Array Value} {t : TypeId} (h : w.heap[b]? = some (.cells cs t (0, 0))) (i : Nat) : w.frozen? ⟨b, i, none⟩ = false := by simp [World.frozen?, h]
theorem row_store {w : World} {b : Nat} {cs : Array Value} {t : TypeId} (h : w.heap[b]? = some (.cells cs t (0, 0))) (i : Nat) (u : Value) : (w.setCell ⟨b, i, none⟩ u).heap[b]? = some (.cells (cs.setIfInBounds i u) t (0, 0)) := by
  have hlt := lt_of_block h
  have h' : w.heap[b] = .cells cs t (0, 0) := by simpa [Array.getElem?_eq_getElem hlt] using h
  show (w.heap.modify b _)[b]? = _
  rw [Array.getElem?_eq_getElem (by simpa using hlt), Array.getElem_modify_self, h']
  rfl

theorem Lain.lay {w0 w : World} {k : Nat} {l : List UInt8} (h : Lain w0 (k + 1) l w) (c : UInt8) :
    Lain w0 k (c :: l) ((w.setCell ⟨w0.heap.size + 1, 0, none⟩ (.int .i64 k)).setCell ⟨w0.heap.size, k, none⟩ (.int .u8 (c.toNat : Int))) := by
  obtain ⟨h1, ⟨cs, h2, h3, h4⟩, h5, h6⟩ := h
  refine ⟨?_, ⟨cs.setIfInBounds k (.int .u8 (c.toNat : Int)), ?_, ?_, ?_⟩, ?_, ?_⟩
  · rw [Below.heap_setCell _ _ _ _ (by simp)]
    exact one_setCell h1
  · exact row_store (by rw [Below.heap_setCell _ _ _ _ (by simp)]; exact h2) _ _
  · simpa using h3
  · intro j hj
    cases j with
    | zero =>
      show _ = some (Value.int .u8 (c.toNat : Int))
      rw [Nat.add_zero, Array.getElem?_setIfInBounds_self_of_lt (by omega)]
    | succ j =>
      simp only [List.length_cons] at hj
      rw [Array.getElem?_setIfInBounds_ne (by omega), show k + (j + 1) = k + 1 + j by omega]
      exact h4 j (by omega)
  · simp only [List.length_cons]; omega
  · exact (h6.setCell (by simp) _).setCell (by simp) _
theorem Lain.sees {w0 w : World} {k : Nat} {l : List UInt8} (h : Lain w0 (k + 1) l w) :
    w.cell? ⟨w0.heap.size + 1, 0, none⟩ = some (.int .i64 (k + 1)) ∧ w.frozen? ⟨w0.heap.size + 1, 0, none⟩ = false ∧ w.frozen? ⟨w0.heap.size, k, none⟩ = false ∧ ∃ v, w.cell? ⟨w0.heap.size, k, none⟩ = some v := by
  obtain ⟨h1, ⟨cs, h2, h3, h4⟩, h5, h6⟩ := h
  refine ⟨cell_of_one h1, free_of_one h1, row_free h2 k, ?_⟩
  rw [row_cell h2]
  exact ⟨cs[k], Array.getElem?_eq_getElem (by omega)⟩
/-- The closure that lays one sign ahead of the others. -/
def LayPost (w0 : World) (k : Nat) (l : List UInt8) (e : Ending) (w' : World) : Prop := e = .returned (.tuple #[]) ∧ Lain w0 k l w'
theorem lay_any (w0 : World) (d : Int) (c : UInt8) (hd : d = (c.toNat : Int)) (k : Nat) (l : List UInt8) (w : World) (hk : k < 11) (h : Lain w0 (k + 1) l w) :
    Calls Try.prog 34 #[.int .u8 d, .pointer (some ⟨w0.heap.size + 1, 0, none⟩), .pointer (some ⟨w0.heap.size, 0, none⟩)] w (LayPost w0 k (c :: l)) := by
  subst hd
  obtain ⟨h1, h2, h3, v, h4⟩ := h.sees
  have hl := Lib.hid (h.lay c)
  clear h
  go_enter Try.func34, Try.ntmps34
  go_wp2
  go_end0
  exact ⟨rfl, hl.out⟩
theorem strOf_bytes (l : List UInt8) : strOfNums (l.map fun c => (c.toNat : Int)) = ⟨l.toArray⟩ := by
  unfold strOfNums
  rw [List.map_map]
  congr 2
  conv => rhs; rw [← List.map_id l]
  apply List.map_congr_left
  intro c _
  simp
/-- The digits that are left, and those that are laid. -/
def Left (m s : Nat) (l : List UInt8) : Prop := (s = 0 ∧ digs m = l) ∨ (0 < s ∧ digs m = digs s ++ l)
theorem Left.next {m s : Nat} {l : List UInt8} (h : Left m s l) (hs : 0 < s) : Left m (s / 10) (UInt8.ofNat (48 + s % 10) :: l) := by
  rcases h with ⟨h, _⟩ | ⟨_, h⟩
  · omega
  · by_cases h10 : s < 10
    · refine Or.inl ⟨by omega, ?_⟩
      rw [h, digs_lt h10, Nat.mod_eq_of_lt h10]; rfl
    · refine Or.inr ⟨by omega, ?_⟩
      rw [h, digs_ge h10, List.append_assoc]; rfl
theorem Left.start (m : Nat) : Left m (m / 10) [UInt8.ofNat (48 + m % 10)] := by
  by_cases h10 : m < 10
  · exact Or.inl ⟨by omega, by rw [digs_lt h10, Nat.mod_eq_of_lt h10]⟩
  · exact Or.inr ⟨by omega, digs_ge h10⟩
theorem Left.room {m s k : Nat} {l : List UInt8} (h : Left m s l) (hm : m < 10 ^ 10) (hk : k + l.length = 11) : 1 ≤ k ∧ (0 < s → 2 ≤ k) := by
  have hlen := digs_len 9 m hm
  rcases h with ⟨h1, h⟩ | ⟨h1, h⟩
  · rw [h] at hlen; omega
  · rw [h, List.length_append] at hlen
    have := List.length_pos_iff.2 (digs_ne s)
    omega
def TextPost (n : Int) (w0 : World) (e : Ending) (w' : World) : Prop := e = .returned (.string ⟨(textOf n).toArray⟩) ∧ Below w0.heap.size w0 w'
theorem Lain.start (w : World) : Lain w 11 [] ((w.alloc (.cells #[.int .u8 0, .int .u8 0, .int .u8 0, .int .u8 0, .int .u8 0, .int .u8 0, .int .u8 0, .int .u8 0, .int .u8 0, .int .u8 0, .int .u8 0] 51)).alloc (.cells #[.int .i64 11] 3)) := by
  refine ⟨?_, ⟨#[.int .u8 0, .int .u8 0, .int .u8 0, .int .u8 0, .int .u8 0, .int .u8 0, .int .u8 0, .int .u8 0, .int .u8 0, .int .u8 0, .int .u8 0], ?_, rfl, ?_⟩, rfl, ?_⟩
  · have := Go.heap_alloc_new (w.alloc (.cells #[.int .u8 0, .int .u8 0, .int .u8 0, .int .u8 0, .int .u8 0, .int .u8 0, .int .u8 0, .int .u8 0, .int .u8 0, .int .u8 0, .int .u8 0] 51)) (.cells #[.int .i64 11] 3)
    rwa [World.size_alloc] at this
  · rw [Below.heap_alloc _ _ _ (by simp)]; exact Go.heap_alloc_new _ _
  · intro j hj; cases hj
  · exact ((Below.refl _ _).alloc (Nat.le_refl _) _).alloc (by simp) _
theorem arr_is : Try.prog.underlying 51 = some (.array (Try.prog.arrayLen 51) (Try.prog.elem 51)) := by kernel_rfl
theorem arr_len : Try.prog.arrayLen 51 = 11 := by kernel_rfl
theorem arr_size (w : World) : (sizeOf (Try.prog.elem 51)).run Try.prog w = .ok 1 w := by kernel_rfl
theorem cut_row (w : World) (b k : Nat) (hk : k ≤ 10) : (Instr.sliceAt 51 (.pointer (some ⟨b, 0, none⟩)) (some (.int .i64 k)) none none).run Try.prog w = .ok (.slice (some ⟨b, k, none⟩) (11 - k) (11 - k)) w := by
  rw [run_sliceAt_array_l w 51 ⟨b, 0, none⟩ arr_is .i64 k (by omega) (by rw [arr_len]; omega), arr_size, arr_len]
  show Result.ok (slicedAt ⟨b, 0, none⟩ (k : Int).toNat 11 11 1) w = _
  unfold slicedAt
  rw [if_neg (by omega), Int.toNat_natCast, Nat.mul_one]
  cases k <;> simp [Addr.add]
theorem text_neg (n : Int) (h : -2147483648 ≤ n ∧ n < 0) (w : World) :
    Calls Try.prog 24 #[.int .i32 n] w (TextPost n w) := by
  obtain ⟨h1, h2⟩ := h
  obtain ⟨m, hm⟩ : ∃ m : Nat, m = n.natAbs := ⟨_, rfl⟩
  have e1 : -(n % 4294967296) % 4294967296 = (m : Int) := by omega
  have hm1 : m ≤ 2147483648 := by omega
  have HM := Lib.hid hm
  clear hm
  have HL := Lib.hid (Lain.start w)
  go_enter Try.func24, Try.ntmps24
  go_wp2_with fail
  refine (lay_any w _ (UInt8.ofNat (48 + m % 10)) (by rw [digit_nat (by omega)]; omega) 10 [] _ (by decide) HL.out).mono ?_
  rintro e w1 ⟨rfl, hL1⟩
  have HL1 := Lib.hid hL1
  clear hL1
  go_wp2
  go_loopw [3] (fun u wr => ∃ (s k : Nat) (l : List UInt8), s ≤ 214748364 ∧ u = .int .u32 s ∧ Lain w k l wr ∧ Left m s l) (fun u _ => (intOf u).toNat)
  case atStart => exact ⟨m / 10, 10, _, by omega, by go_num, HL1.out, Left.start m⟩
  case round =>
    obtain ⟨s, k, l, hs, rfl, hL, hLeft⟩ := hrel
    have hroom := hLeft.room (by omega) hL.len
    have HLe := Lib.hid hLeft
    have HLw := Lib.hid hL
    clear hLeft hL e1
    by_cases hs0 : 0 < s
    · obtain ⟨k', rfl⟩ : ∃ k', k = k' + 1 := ⟨k - 1, by omega⟩
      have hk : k' < 11 := by have := HLw.out.len; omega
      go_wp2_with fail
      refine (lay_any w _ (UInt8.ofNat (48 + s % 10)) (by rw [digit_nat (by omega)]; omega) k' l _ hk HLw.out).mono ?_
      rintro e w2 ⟨rfl, hL2⟩
      have HL2 := Lib.hid hL2
      clear hL2
      go_wp2
      go_roundw
      case rel => exact ⟨s / 10, k', _, by omega, by go_num, HL2.out, HLe.out.next hs0⟩
      case measure => simp [intOf]; omega
    · obtain rfl : s = 0 := by omega
      obtain ⟨k', rfl⟩ : ∃ k', k = k' + 1 := ⟨k - 1, by omega⟩
      have hk : k' < 11 := by have := HLw.out.len; omega
      have hl : l = digs m := by
        rcases HLe.out with ⟨_, h⟩ | ⟨h, _⟩
        · exact h.symm
        · omega
      have Hl := Lib.hid hl
      clear hl
      go_wp2_with fail
      refine (lay_any w _ 45 rfl k' l _ hk HLw.out).mono ?_
      rintro e w2 ⟨rfl, hL2⟩
      have hT : 45 :: l = textOf n := by unfold textOf; rw [if_pos h2, Hl.out, HM.out]
      rw [hT] at hL2
      obtain ⟨f1, ⟨cs, f2, f3, f4⟩, f5, f6⟩ := hL2
      have c1 := cell_of_one f1
      have hconv := run_convert_bytes_arg (P := Try.prog) w2 33 5 Try.underlying33 Try.underlying5 w.heap.size k' (11 - k') (11 - k') ((textOf n).map fun c => (c.toNat : Int)) (by rw [List.length_map]; omega) (fun i hi => by
        rw [row_cell f2, f4 i (by omega)]
        rw [List.getD_eq_getElem?_getD, List.getElem?_map, List.getElem?_eq_getElem (by omega)]; rfl) 9 Try.underlying9
      clear hT
      have hlen : 0 < (textOf n).length := List.length_pos_iff.2 (textOf_ne _)
      have hsl := cut_row w2 w.heap.size k' (by omega)
      have HB := Lib.hid f6
      clear f1 f2 f3 f4 f5 f6
      go_wp2
      go_ret
      exact ⟨ret_str (strOf_bytes _), HB.out⟩
theorem text_pos (n : Int) (h : 0 ≤ n ∧ n ≤ 2147483647) (w : World) :
    Calls Try.prog 24 #[.int .i32 n] w (TextPost n w) := by
  obtain ⟨h1, h2⟩ := h
  obtain ⟨m, rfl⟩ := Int.eq_ofNat_of_zero_le h1
  have e1 : (m : Int) % 4294967296 = (m : Int) := by omega
  have hm1 : m ≤ 2147483648 := by omega
  have HL := Lib.hid (Lain.start w)
  go_enter Try.func24, Try.ntmps24
  go_wp2_with fail
  refine (lay_any w _ (UInt8.ofNat (48 + m % 10)) (by rw [digit_nat (by omega)]; omega) 10 [] _ (by decide) HL.out).mono ?_
  rintro e w1 ⟨rfl, hL1⟩
  have HL1 := Lib.hid hL1
  clear hL1
  go_wp2
  go_loopw [3] (fun u wr => ∃ (s k : Nat) (l : List UInt8), s ≤ 214748364 ∧ u = .int .u32 s ∧ Lain w k l wr ∧ Left m s l) (fun u _ => (intOf u).toNat)
  case atStart => exact ⟨m / 10, 10, _, by omega, by go_num, HL1.out, Left.start m⟩
  case round =>
    obtain ⟨s, k, l, hs, rfl, hL, hLeft⟩ := hrel
    have hroom := hLeft.room (by omega) hL.len
    have HLe := Lib.hid hLeft
    have HLw := Lib.hid hL
    clear hLeft hL e1
    by_cases hs0 : 0 < s
    · obtain ⟨k, rfl⟩ : ∃ k', k = k' + 1 := ⟨k - 1, by omega⟩
      have hk : k < 11 := by have := HLw.out.len; omega
      go_wp2_with fail
      refine (lay_any w _ (UInt8.ofNat (48 + s % 10)) (by rw [digit_nat (by omega)]; omega) k l _ hk HLw.out).mono ?_
      rintro e wr ⟨rfl, hL2⟩
      have HL2 := Lib.hid hL2
      clear hL2
      go_wp2
      go_roundw
      case rel => exact ⟨s / 10, k, _, by omega, by go_num, HL2.out, HLe.out.next hs0⟩
      case measure => simp [intOf]; omega
    · obtain rfl : s = 0 := by omega
      have hl : l = digs m := by
        rcases HLe.out with ⟨_, h⟩ | ⟨h, _⟩
        · exact h.symm
        · omega
      have Hl := Lib.hid hl
      clear hl
      have hL2 := HLw.out
      have hT : l = textOf (m : Int) := by unfold textOf; rw [if_neg (by omega), Hl.out, Int.natAbs_natCast]
      rw [hT] at hL2
      obtain ⟨f1, ⟨cs, f2, f3, f4⟩, f5, f6⟩ := hL2
      have c1 := cell_of_one f1
      have hconv := run_convert_bytes_arg (P := Try.prog) wr 33 5 Try.underlying33 Try.underlying5 w.heap.size k (11 - k) (11 - k) ((textOf (m : Int)).map fun c => (c.toNat : Int)) (by rw [List.length_map]; omega) (fun i hi => by
        rw [row_cell f2, f4 i (by omega)]
        rw [List.getD_eq_getElem?_getD, List.getElem?_map, List.getElem?_eq_getElem (by omega)]; rfl) 9 Try.underlying9
      clear hT
      have hlen : 0 < (textOf (m : Int)).length := List.length_pos_iff.2 (textOf_ne _)
      have hsl := cut_row wr w.heap.size k (by omega)
      have HB := Lib.hid f6
      clear f1 f2 f3 f4 f5 f6
      go_wp2
      go_ret
      exact ⟨ret_str (strOf_bytes _), HB.out⟩
/-- word.Text. -/
theorem text_any (n : Int) (h : -2147483648 ≤ n ∧ n ≤ 2147483647) (w : World) :
    Calls Try.prog 24 #[.int .i32 n] w (TextPost n w) := by
  by_cases hn : n < 0
  · exact text_neg n ⟨h.1, hn⟩ w
  · exact text_pos n ⟨by omega, h.2⟩ w
end Go.Proofs.Ytcmhcpdfgcmbiaa.Wd
