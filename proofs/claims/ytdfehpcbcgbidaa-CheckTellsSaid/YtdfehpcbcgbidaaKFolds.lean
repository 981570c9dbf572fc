/- Stage 3: which operations there are tiles of: check's folds. -/
import Derived.Test.YtdfehpcbcgbidaaKA
import Derived.WalkSmall
namespace Go.Proofs.Ytdfehpcbcgbidaa.Kc
open Go.ChangeShapes Go.WideShapes Go.ChangeAt Go.RowKit
set_option linter.unusedVariables false
set_option maxRecDepth 100000 in
theorem folds_any (w : World) (op : Int) : Calls Try.prog 40 #[.int .i64 op] w fun e w' => e = .returned (.bool (foldB op)) ∧ w' = w := by
  go_enter Try.func40, Try.ntmps40
  go_wp2
  all_goals
    go_ret
    refine ⟨?_, rfl⟩
    unfold foldB
    simp [*]
end Go.Proofs.Ytdfehpcbcgbidaa.Kc
