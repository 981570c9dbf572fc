/- What the document's own answers (jacquardref01), word.Wide, word.Fits and the law's first examples come to: a contract each. -/
import Derived.Test.YtdidacjmcafcpaaDo
import Derived.Test.YtdidacjmcafcpaaBits
import Derived.Lib.Hide
namespace Go.Proofs.Ytdidacjmcafcpaa.Wd
open Go.ChangeShapes Go.WideShapes Go.ChangeAt Go.RowKit Go.Proofs.Ytdidacjmcafcpaa.Pl
set_option linter.unusedVariables false

theorem ret_bool {a b : Bool} (h : a = b) : Ending.returned (.bool a) = .returned (.bool b) := by rw [h]

theorem wide_any (a b : Int) (ha : -2147483648 ≤ a ∧ a ≤ 2147483647) (hb : -2147483648 ≤ b ∧ b ≤ 2147483647) (w : World) :
    Calls Try.prog 76 #[.int .i32 a, .int .i32 b] w fun e w' => e = .returned (.tuple #[.int .i32 (wLow a b), .int .i32 (wHigh a b)]) ∧ w' = w := by
  obtain ⟨ha1, ha2⟩ := ha
  obtain ⟨hb1, hb2⟩ := hb
  go_enter Try.func76, Try.ntmps76
  go_wp2
  go_ret2
  exact ⟨ret_ints (wrap32_wrap64 _) rfl, rfl⟩

end Go.Proofs.Ytdidacjmcafcpaa.Wd
