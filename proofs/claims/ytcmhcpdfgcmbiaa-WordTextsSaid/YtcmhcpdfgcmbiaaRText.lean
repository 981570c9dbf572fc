import Derived.Test.YtcmhcpdfgcmbiaaText
import Derived.Lib.Hide
namespace Go.Proofs.Ytcmhcpdfgcmbiaa.Wd
open Go.ChangeShapes Go.WideShapes Go.ChangeAt Go.RowKit Go.Proofs.Ytcmhcpdfgcmbiaa.Pl
set_option linter.unusedVariables false
/-- A text of one digit. -/
def oneD (d : Nat) : ByteArray := ⟨#[UInt8.ofNat (48 + d)]⟩
theorem cut_lit (a b : Int) (d : Nat) (w : World) (h0 : 0 ≤ a) (h1 : a ≤ b) (h2 : b ≤ 10) (h : (⟨#[48, 49, 50, 51, 52, 53, 54, 55, 56, 57]⟩ : ByteArray).extract a.toNat b.toNat = oneD d) :
    (Instr.slice 9 (.string ⟨#[48, 49, 50, 51, 52, 53, 54, 55, 56, 57]⟩) (some (.int .i64 a)) (some (.int .i64 b)) none).run Try.prog w = .ok (.string (oneD d)) w := by
  rw [run_slice_string w 9 ⟨#[48, 49, 50, 51, 52, 53, 54, 55, 56, 57]⟩ .i64 .i64 a b Try.underlying9 h0 h1 (show b ≤ 10 from h2), h]
theorem digit_cut (s : Nat) (w : World) : (Instr.slice 9 (.string ⟨#[48, 49, 50, 51, 52, 53, 54, 55, 56, 57]⟩) (some (.int .i64 ((s : Int) % 10))) (some (.int .i64 ((s : Int) % 10 + 1))) none).run Try.prog w = .ok (.string (oneD (s % 10))) w := by
  refine cut_lit _ _ _ w (by omega) (by omega) (by omega) ?_
  obtain ⟨d, hd⟩ : ∃ d : Nat, s % 10 = d := ⟨_, rfl⟩
  have hd2 : ((s : Int) % 10).toNat = d := by omega
  have hd3 : ((s : Int) % 10 + 1).toNat = d + 1 := by omega
  rw [hd, hd2, hd3]
  have h : d = 0 ∨ d = 1 ∨ d = 2 ∨ d = 3 ∨ d = 4 ∨ d = 5 ∨ d = 6 ∨ d = 7 ∨ d = 8 ∨ d = 9 := by omega
  clear hd hd2 hd3
  rcases h with rfl | rfl | rfl | rfl | rfl | rfl | rfl | rfl | rfl | rfl <;> decide +kernel
def digC (d : Nat) : UInt8 := UInt8.ofNat (48 + d)
theorem one_join (s : Nat) (l : List UInt8) : oneD (s % 10) ++ ⟨l.toArray⟩ = ⟨(digC (s % 10) :: l).toArray⟩ := by
  apply ByteArray.ext
  rw [ByteArray.data_append]
  simp [oneD, digC]
theorem one_size (d : Nat) : (oneD d).size = 1 := rfl
theorem Left.short {m s : Nat} {l : List UInt8} (h : Left m s l) (hm : m < 10 ^ 10) : l.length ≤ 10 := by
  have hlen := digs_len 9 m hm
  rcases h with ⟨h1, h⟩ | ⟨h1, h⟩
  · rw [h] at hlen; exact hlen
  · rw [h, List.length_append] at hlen; omega
theorem rtext_neg (n : Int) (h : -2147483648 ≤ n ∧ n < 0) (w : World) :
    Calls Try.prog 25 #[.int .i32 n] w (TextPost n w) := by
  obtain ⟨h1, h2⟩ := h
  obtain ⟨m, hm⟩ : ∃ m : Nat, -n = (m : Int) := ⟨n.natAbs, by omega⟩
  have hm1 : m ≤ 2147483648 := by omega
  have HM := Lib.hid hm
  have hd := digit_cut m w
  go_enter Try.func25, Try.ntmps25
  go_wp2
  go_loop [3, 6] (fun u o => ∃ (s : Nat) (l : List UInt8), s ≤ 214748364 ∧ u = .int .i64 s ∧ o = .string ⟨l.toArray⟩ ∧ Left m s l) (fun u _ => (intOf u).toNat)
  case atStart => exact ⟨m / 10, _, by omega, by go_num, rfl, Left.start m⟩
  case round =>
    obtain ⟨s, l, hs, rfl, rfl, hLeft⟩ := hrel
    have hshort := hLeft.short (by omega)
    have hsz := one_size (s % 10)
    have HLe := Lib.hid hLeft
    clear hLeft hm hd
    by_cases hs0 : 0 < s
    · have hd := digit_cut s w
      have hj := one_join s l
      go_wp2
      go_round
      case rel => exact ⟨s / 10, digC (s % 10) :: l, by omega, by go_num, rfl, HLe.out.next hs0⟩
      case measure => simp [intOf]; omega
    · obtain rfl : s = 0 := by omega
      have hl : l = digs m := by
        rcases HLe.out with ⟨_, h⟩ | ⟨h, _⟩
        · exact h.symm
        · omega
      have hT : (⟨#[45]⟩ : ByteArray) ++ ⟨l.toArray⟩ = ⟨(textOf n).toArray⟩ := by
        apply ByteArray.ext
        rw [ByteArray.data_append]
        have e := HM.out
        unfold textOf
        rw [if_pos h2, hl, show n.natAbs = m by omega]
        simp
      have HT := Lib.hid hT
      clear hT hl
      go_wp2
      go_ret
      exact ⟨ret_str HT.out, Below.refl _ _⟩
theorem rtext_pos (n : Int) (h : 0 ≤ n ∧ n ≤ 2147483647) (w : World) :
    Calls Try.prog 25 #[.int .i32 n] w (TextPost n w) := by
  obtain ⟨h1, h2⟩ := h
  obtain ⟨m, rfl⟩ := Int.eq_ofNat_of_zero_le h1
  have hm1 : m ≤ 2147483648 := by omega
  have hd := digit_cut m w
  go_enter Try.func25, Try.ntmps25
  go_wp2
  go_loop [3, 6] (fun u o => ∃ (s : Nat) (l : List UInt8), s ≤ 214748364 ∧ u = .int .i64 s ∧ o = .string ⟨l.toArray⟩ ∧ Left m s l) (fun u _ => (intOf u).toNat)
  case atStart => exact ⟨m / 10, _, by omega, by go_num, rfl, Left.start m⟩
  case round =>
    obtain ⟨s, l, hs, rfl, rfl, hLeft⟩ := hrel
    have hshort := hLeft.short (by omega)
    have hsz := one_size (s % 10)
    have HLe := Lib.hid hLeft
    clear hLeft hd
    by_cases hs0 : 0 < s
    · have hd := digit_cut s w
      have hj := one_join s l
      go_wp2
      go_round
      case rel => exact ⟨s / 10, digC (s % 10) :: l, by omega, by go_num, rfl, HLe.out.next hs0⟩
      case measure => simp [intOf]; omega
    · obtain rfl : s = 0 := by omega
      have hl : l = digs m := by
        rcases HLe.out with ⟨_, h⟩ | ⟨h, _⟩
        · exact h.symm
        · omega
      have hT : (⟨#[]⟩ : ByteArray) ++ ⟨l.toArray⟩ = ⟨(textOf (m : Int)).toArray⟩ := by
        apply ByteArray.ext
        rw [ByteArray.data_append]
        unfold textOf
        rw [if_neg (by omega), hl, Int.natAbs_natCast]
        simp
      have hT2 : (⟨l.toArray⟩ : ByteArray) = ⟨(textOf (m : Int)).toArray⟩ := by
        unfold textOf
        rw [if_neg (by omega), hl, Int.natAbs_natCast]
      have HT2 := Lib.hid hT2
      clear hT2
      have HT := Lib.hid hT
      clear hT hl
      go_wp2
      go_ret
      exact ⟨ret_str (by first | exact HT2.out | exact HT.out), Below.refl _ _⟩
/-- The document's Text. -/
theorem rtext_any (n : Int) (h : -2147483648 ≤ n ∧ n ≤ 2147483647) (w : World) :
    Calls Try.prog 25 #[.int .i32 n] w (TextPost n w) := by
  by_cases hn : n < 0
  · exact rtext_neg n ⟨h.1, hn⟩ w
  · exact rtext_pos n ⟨by omega, h.2⟩ w
end Go.Proofs.Ytcmhcpdfgcmbiaa.Wd
