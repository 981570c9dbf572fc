/- The names of operations: what the package word's map of them holds, and what Name and Number answer. -/
import Derived.Test.YtcmhcpdfgcmbiaaRows
import Derived.WalkKit
import Derived.ProofKit
import Derived.Maps.Own
import Derived.Maps.Views
import Derived.Lib.Hide
import Derived.Deep.LoopGhost
namespace Go.Proofs.Ytcmhcpdfgcmbiaa.Wd
open Go.ChangeShapes Go.WideShapes Go.ChangeAt Go.RowKit Go.Maps Go.WideElems Go.ChangeMaps
set_option linter.unusedVariables false

/-- The name of an operation; the empty text, if there is none. -/
def nameB (op : Int) : ByteArray :=
  if op = 1 then ⟨#[99, 111, 110, 115, 116]⟩
  else if op = 2 then ⟨#[97, 100, 100]⟩
  else if op = 3 then ⟨#[115, 117, 98]⟩
  else if op = 4 then ⟨#[109, 117, 108]⟩
  else if op = 5 then ⟨#[97, 110, 100]⟩
  else if op = 6 then ⟨#[111, 114]⟩
  else if op = 7 then ⟨#[120, 111, 114]⟩
  else if op = 8 then ⟨#[115, 104, 108]⟩
  else if op = 9 then ⟨#[115, 104, 114]⟩
  else if op = 10 then ⟨#[115, 97, 114]⟩
  else if op = 11 then ⟨#[101, 113]⟩
  else if op = 12 then ⟨#[108, 116]⟩
  else if op = 13 then ⟨#[108, 116, 117]⟩
  else if op = 14 then ⟨#[100, 105, 118]⟩
  else if op = 15 then ⟨#[108, 111, 97, 100]⟩
  else if op = 16 then ⟨#[115, 116, 111, 114, 101]⟩
  else if op = 17 then ⟨#[99, 97, 108, 108]⟩
  else if op = 18 then ⟨#[109, 117, 108, 119]⟩
  else ⟨#[]⟩
/-- How a spelling reads: as its one text. -/
def rdName (v : Value) : Option (DataW Unit × List MemPlace) :=
  match v with
  | .agg cs =>
    match cs.toList with
    | [.string s] => some (.lit (.string s.data.toList), [])
    | _ => none
  | _ => none
theorem rdName_mk (s : ByteArray) : rdName (.agg #[.string s]) = some (.lit (.string s.data.toList), []) := rfl
theorem rdName_inv {v : Value} {l : List UInt8} {ps : List MemPlace} (h : rdName v = some (.lit (.string l), ps)) : v = .agg #[.string ⟨l.toArray⟩] := by
  unfold rdName at h
  split at h
  · rename_i cs
    split at h
    · rename_i s hs
      cases h
      have e : cs = #[.string s] := by rw [← Array.toArray_toList (xs := cs), hs]
      rw [e]
    · cases h
  · cases h
def key (n : Int) : Lit := .int .i64 n
def spelt (n : Int) : DataW Unit := .lit (.string (nameB n).data.toList)
/-- What the map holds when so many names have been laid. -/
def laid : Nat → DataW Unit
  | 0 => .map []
  | k + 1 => (laid k).put (key (k + 1)) (spelt (k + 1))
theorem laid_map : ∀ k, IsMap (laid k)
  | 0 => isMap_empty
  | k + 1 => (laid_map k).put _ _
theorem laid_at (op : Int) (k : Nat) (hk : k ≤ 18) : (laid k).atKey (key op) (.lit (.string [])) = if 1 ≤ op ∧ op ≤ k then spelt op else .lit (.string []) := by
  induction k with
  | zero => rw [if_neg (by omega)]; rfl
  | succ k ih =>
    have hm : IsMap (laid k) := laid_map k
    by_cases h : op = k + 1
    · subst h
      rw [if_pos (by omega)]
      exact atKey_put_same hm (by trivial) _ _
    · rw [laid, atKey_put_other (by simp [key]; omega), ih (by omega)]
      by_cases h1 : 1 ≤ op ∧ op ≤ k
      · rw [if_pos h1, if_pos (by omega)]
      · rw [if_neg h1, if_neg (by omega)]
theorem nameB_none {op : Int} (h : op < 1 ∨ 18 < op) : nameB op = ⟨#[]⟩ := by
  unfold nameB
  simp only [if_neg (show ¬ op = 1 by omega), if_neg (show ¬ op = 2 by omega), if_neg (show ¬ op = 3 by omega), if_neg (show ¬ op = 4 by omega), if_neg (show ¬ op = 5 by omega), if_neg (show ¬ op = 6 by omega), if_neg (show ¬ op = 7 by omega), if_neg (show ¬ op = 8 by omega), if_neg (show ¬ op = 9 by omega), if_neg (show ¬ op = 10 by omega), if_neg (show ¬ op = 11 by omega), if_neg (show ¬ op = 12 by omega), if_neg (show ¬ op = 13 by omega), if_neg (show ¬ op = 14 by omega), if_neg (show ¬ op = 15 by omega), if_neg (show ¬ op = 16 by omega), if_neg (show ¬ op = 17 by omega), if_neg (show ¬ op = 18 by omega)]
theorem laid_name (op : Int) : (laid 18).atKey (key op) (.lit (.string [])) = .lit (.string (nameB op).data.toList) := by
  rw [laid_at op 18 (by decide)]
  by_cases h : 1 ≤ op ∧ op ≤ 18
  · exact if_pos h
  · rw [show (if 1 ≤ op ∧ op ≤ ((18 : Nat) : Int) then spelt op else DataW.lit (.string [])) = .lit (.string []) from if_neg h, nameB_none (by omega)]

theorem law : Keyed Try.prog 3 := int_keyed Try.underlying3
theorem zeroE (w : World) : (zeroValue 46).run Try.prog w = .ok (.agg #[.string ⟨#[]⟩]) w := by kernel_rfl
theorem keyOk {n : Int} (h : -9223372036854775808 ≤ n ∧ n ≤ 9223372036854775807) : keyOf Try.prog 3 (.int .i64 n) = some (key n) := keyOf_int_mk Try.underlying3 (WalkArith.wf_i64 h)

/-- 'm[k] = v' of a literal of a map, at the operation. -/
theorem wpList_insert_own {H : Type} {P : Program} (w : World) {ops : Array Oper} {rest : List Oper} {o : Oper} {a : Act} {Q : Exit → Act → World → Prop}
    (hg : o.guard = none) (m x v : Operand) (t : TypeId) (hop : o.op = Op.insert t m x v)
    (k e : TypeId) (K : Keyed P k) (ht : P.underlying t = some (.map k e)) (R : Value → Option (DataW H × List MemPlace)) (b n : Nat) (D : DataW H)
    (hm : a.eval m = .map (some b)) (hown : w.ownsMap P k R b n D) (hn : n < maxLen) (key val : Value) (kl : Lit) (hx : a.eval x = key) (hv : a.eval v = val) (hkey : keyOf P k key = some kl)
    (d : DataW H) (ps : List MemPlace) (hval : R val = some (d, ps))
    (hK : ∀ w', w'.ownsMap P k R b (n + 1) (D.put kl d) → w.grownBy w' (some b) → wpList P ops Q rest (a.put o.dst undef) w') :
    wpList P ops Q (o :: rest) a w := by
  refine wpList_plain hg fun K' hK' => ?_
  obtain ⟨w', hrun, r1, r2⟩ := hown.update K ht hn hkey hval
  unfold Oper.wp
  simp [execOp, hop, hm, hx, hv, hrun, Result.andThen]
  exact hK' _ _ (hK w' r1 r2)

/-- The map of the names: a new block that reads as all of them; nothing else has turned. -/
def Names (w : World) (e : Ending) (w' : World) : Prop :=
  ∃ b, e = .returned (.map (some b)) ∧ w'.ownsMap Try.prog 3 rdName b 18 (laid 18) ∧ Below w.heap.size w w'
set_option maxHeartbeats 1000000 in
theorem spellings_any (w : World) : Calls Try.prog 32 #[] w (Names w) := by
  have hmm := @run_makeMap Try.prog
  have hown : (w.alloc (.map #[] 0)).ownsMap Try.prog 3 rdName w.heap.size 0 (laid 0) := World.ownsMap_made _ _ _ _
  have hbel : Below w.heap.size w (w.alloc (.map #[] 0)) := (Below.refl _ _).alloc (Nat.le_refl _) _
  generalize hB : w.heap.size = B at *
  go_enter Try.func32, Try.ntmps32
  go_wp2_with (refine wpList_insert_own _ rfl _ _ _ 47 rfl 3 46 law Try.underlying47 rdName _ _ _ rfl hown (by unfold maxLen; omega) _ _ _ rfl rfl (keyOk (by omega)) _ [] (rdName_mk _) ?_; intro w1 hown1 hgrow1; have hbel1 := hbel.grown hgrow1 (by have := hbel.size; omega) (fun j hj => by cases hj; omega); clear hgrow1 hbel hown; have hown := hown1; have hbel := hbel1; clear hown1 hbel1)
  go_ret
  exact ⟨B, rfl, hown, hB ▸ hbel⟩
theorem fieldRun (s : ByteArray) (w : World) : (Instr.field 46 (.agg #[.string s]) 0).run Try.prog w = .ok (.string s) w := by kernel_rfl
/-- A row's name of an operation. -/
def NameOf (op : Int) (w : World) (e : Ending) (w' : World) : Prop := e = .returned (.string (nameB op)) ∧ Below w.heap.size w w'
theorem name_any (op : Int) (h : -9223372036854775808 ≤ op ∧ op ≤ 9223372036854775807) (w : World) : Calls Try.prog 18 #[.int .i64 op] w (NameOf op w) := by
  have HK := Lib.hid (keyOk h)
  clear h
  go_enter Try.func18, Try.ntmps18
  go_wp2_with fail
  refine (spellings_any _).mono ?_
  rintro e w1 ⟨b, rfl, hown, hbel⟩
  obtain ⟨v, ps, hrun, hR⟩ := hown.lookup law Try.underlying47 (zeroE w1) (rdName_mk _) HK.out
  have hv : v = .agg #[.string (nameB op)] := by
    rw [show (⟨#[]⟩ : ByteArray).data.toList = [] from rfl, laid_name] at hR
    exact rdName_inv hR
  subst hv
  have HB := Lib.hid hbel
  clear hR hbel hown
  have hf := fieldRun (nameB op) w1
  go_wp2
  go_ret
  exact ⟨rfl, HB.out⟩
end Go.Proofs.Ytcmhcpdfgcmbiaa.Wd
