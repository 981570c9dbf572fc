/- Stage 7: what mach.Do answers, whatever it is called with. -/
import Derived.Test.YtdidacjmcafcpaaME
namespace Go.Proofs.Ytdidacjmcafcpaa.Mc
open Go.ChangeShapes Go.WideShapes Go.ChangeAt Go.RowKit Go.Proofs.Ytdidacjmcafcpaa.Mem Go.Proofs.Ytdidacjmcafcpaa.Kc Go.Proofs.Ytdidacjmcafcpaa.Pl Go.Proofs.Ytdidacjmcafcpaa.Mw Go.Proofs.Ytdidacjmcafcpaa.Br
set_option linter.unusedVariables false
set_option linter.unusedSimpArgs false
/-- Whether an operation does anything by itself. -/
def actsB (op : Int) : Bool := decide (1 ≤ op ∧ op ≤ 27 ∨ op = 29)
set_option maxRecDepth 100000 in
set_option maxHeartbeats 4000000 in
theorem fx_any (w : World) (B : Nat) (mv : Value) (m : List Int) (hm : OwnWords B w mv m) (hl : m.length ≤ 1000000) (op d e ra rb rc imm a b c : Int) (A : Option Addr) (n k : Nat) (hi : InW imm) (ha : InW a) (hb : InW b) (hc : InW c) (h : actsB op = true) :
    ∃ F : Nat, fnV op = .func (.func F) #[] #[] ∧ (∀ (args : Array Value) (w : World), (callFunc F args).run Try.prog w = .ok (.enter F args) w) ∧ Calls Try.prog F #[.agg #[.int .i64 op, .int .i64 d, .int .i64 e, .int .i64 ra, .int .i64 rb, .int .i64 rc, .int .i32 imm, .slice A n k], .agg #[.int .i32 a, .int .i32 b, .int .i32 c], mv] w (FxPost B mv (doesF op imm a b c m) w) := by
  have h1 : 1 ≤ op ∧ op ≤ 27 ∨ op = 29 := of_decide_eq_true h
  have h2 : (op = 1) ∨ (op = 2) ∨ (op = 3) ∨ (op = 4) ∨ (5 ≤ op ∧ op ≤ 17) ∨ (18 ≤ op ∧ op ≤ 22) ∨ (op = 23) ∨ (op = 24) ∨ (op = 25) ∨ (op = 26) ∨ (op = 27) ∨ (op = 29) := by omega
  rcases h2 with h2 | h2 | h2 | h2 | h2 | h2 | h2 | h2 | h2 | h2 | h2 | h2
  · refine ⟨59, ?_, fun _ _ => by kernel_rfl, ?_⟩
    · unfold fnV
      rw [if_pos (by omega)]
    · unfold doesF
      rw [if_pos (by omega)]
      exact moved_any w B mv m hm hl op d e ra rb rc imm a b c A n k hi ha hb hc
  · refine ⟨60, ?_, fun _ _ => by kernel_rfl, ?_⟩
    · unfold fnV
      rw [if_neg (show ¬ (op = 1) by omega), if_pos (by omega)]
    · unfold doesF
      rw [if_neg (show ¬ (op = 1) by omega), if_pos (by omega)]
      exact swapped_any w B mv m hm hl op d e ra rb rc imm a b c A n k hi ha hb hc
  · refine ⟨61, ?_, fun _ _ => by kernel_rfl, ?_⟩
    · unfold fnV
      rw [if_neg (show ¬ (op = 1) by omega), if_neg (show ¬ (op = 2) by omega), if_pos (by omega)]
    · unfold doesF
      rw [if_neg (show ¬ (op = 1) by omega), if_neg (show ¬ (op = 2) by omega), if_pos (by omega)]
      exact number_any w B mv m hm hl op d e ra rb rc imm a b c A n k hi ha hb hc
  · refine ⟨61, ?_, fun _ _ => by kernel_rfl, ?_⟩
    · unfold fnV
      rw [if_neg (show ¬ (op = 1) by omega), if_neg (show ¬ (op = 2) by omega), if_neg (show ¬ (op = 3) by omega), if_pos (by omega)]
    · unfold doesF
      rw [if_neg (show ¬ (op = 1) by omega), if_neg (show ¬ (op = 2) by omega), if_neg (show ¬ (op = 3) by omega), if_pos (by omega)]
      exact number_any w B mv m hm hl op d e ra rb rc imm a b c A n k hi ha hb hc
  · refine ⟨62, ?_, fun _ _ => by kernel_rfl, ?_⟩
    · unfold fnV
      rw [if_neg (show ¬ (op = 1) by omega), if_neg (show ¬ (op = 2) by omega), if_neg (show ¬ (op = 3) by omega), if_neg (show ¬ (op = 4) by omega), if_pos (by omega)]
    · unfold doesF
      rw [if_neg (show ¬ (op = 1) by omega), if_neg (show ¬ (op = 2) by omega), if_neg (show ¬ (op = 3) by omega), if_neg (show ¬ (op = 4) by omega), if_pos (by omega)]
      exact ofTwo_any w B mv m hm hl op d e ra rb rc imm a b c A n k hi ha hb hc (by omega)
  · refine ⟨63, ?_, fun _ _ => by kernel_rfl, ?_⟩
    · unfold fnV
      rw [if_neg (show ¬ (op = 1) by omega), if_neg (show ¬ (op = 2) by omega), if_neg (show ¬ (op = 3) by omega), if_neg (show ¬ (op = 4) by omega), if_neg (show ¬ (5 ≤ op ∧ op ≤ 17) by omega), if_pos (by omega)]
    · unfold doesF
      rw [if_neg (show ¬ (op = 1) by omega), if_neg (show ¬ (op = 2) by omega), if_neg (show ¬ (op = 3) by omega), if_neg (show ¬ (op = 4) by omega), if_neg (show ¬ (5 ≤ op ∧ op ≤ 17) by omega), if_pos (by omega)]
      exact ofNumber_any w B mv m hm hl op d e ra rb rc imm a b c A n k hi ha hb hc (by omega)
  · refine ⟨64, ?_, fun _ _ => by kernel_rfl, ?_⟩
    · unfold fnV
      rw [if_neg (show ¬ (op = 1) by omega), if_neg (show ¬ (op = 2) by omega), if_neg (show ¬ (op = 3) by omega), if_neg (show ¬ (op = 4) by omega), if_neg (show ¬ (5 ≤ op ∧ op ≤ 17) by omega), if_neg (show ¬ (18 ≤ op ∧ op ≤ 22) by omega), if_pos (by omega)]
    · unfold doesF
      rw [if_neg (show ¬ (op = 1) by omega), if_neg (show ¬ (op = 2) by omega), if_neg (show ¬ (op = 3) by omega), if_neg (show ¬ (op = 4) by omega), if_neg (show ¬ (5 ≤ op ∧ op ≤ 17) by omega), if_neg (show ¬ (18 ≤ op ∧ op ≤ 22) by omega), if_pos (by omega)]
      exact multiplied_any w B mv m hm hl op d e ra rb rc imm a b c A n k hi ha hb hc
  · refine ⟨65, ?_, fun _ _ => by kernel_rfl, ?_⟩
    · unfold fnV
      rw [if_neg (show ¬ (op = 1) by omega), if_neg (show ¬ (op = 2) by omega), if_neg (show ¬ (op = 3) by omega), if_neg (show ¬ (op = 4) by omega), if_neg (show ¬ (5 ≤ op ∧ op ≤ 17) by omega), if_neg (show ¬ (18 ≤ op ∧ op ≤ 22) by omega), if_neg (show ¬ (op = 23) by omega), if_pos (by omega)]
    · unfold doesF
      rw [if_neg (show ¬ (op = 1) by omega), if_neg (show ¬ (op = 2) by omega), if_neg (show ¬ (op = 3) by omega), if_neg (show ¬ (op = 4) by omega), if_neg (show ¬ (5 ≤ op ∧ op ≤ 17) by omega), if_neg (show ¬ (18 ≤ op ∧ op ≤ 22) by omega), if_neg (show ¬ (op = 23) by omega), if_pos (by omega)]
      exact loaded_any w B mv m hm hl op d e ra rb rc imm a b c A n k hi ha hb hc
  · refine ⟨66, ?_, fun _ _ => by kernel_rfl, ?_⟩
    · unfold fnV
      rw [if_neg (show ¬ (op = 1) by omega), if_neg (show ¬ (op = 2) by omega), if_neg (show ¬ (op = 3) by omega), if_neg (show ¬ (op = 4) by omega), if_neg (show ¬ (5 ≤ op ∧ op ≤ 17) by omega), if_neg (show ¬ (18 ≤ op ∧ op ≤ 22) by omega), if_neg (show ¬ (op = 23) by omega), if_neg (show ¬ (op = 24) by omega), if_pos (by omega)]
    · unfold doesF
      rw [if_neg (show ¬ (op = 1) by omega), if_neg (show ¬ (op = 2) by omega), if_neg (show ¬ (op = 3) by omega), if_neg (show ¬ (op = 4) by omega), if_neg (show ¬ (5 ≤ op ∧ op ≤ 17) by omega), if_neg (show ¬ (18 ≤ op ∧ op ≤ 22) by omega), if_neg (show ¬ (op = 23) by omega), if_neg (show ¬ (op = 24) by omega), if_pos (by omega)]
      exact loadedAtSum_any w B mv m hm hl op d e ra rb rc imm a b c A n k hi ha hb hc
  · refine ⟨67, ?_, fun _ _ => by kernel_rfl, ?_⟩
    · unfold fnV
      rw [if_neg (show ¬ (op = 1) by omega), if_neg (show ¬ (op = 2) by omega), if_neg (show ¬ (op = 3) by omega), if_neg (show ¬ (op = 4) by omega), if_neg (show ¬ (5 ≤ op ∧ op ≤ 17) by omega), if_neg (show ¬ (18 ≤ op ∧ op ≤ 22) by omega), if_neg (show ¬ (op = 23) by omega), if_neg (show ¬ (op = 24) by omega), if_neg (show ¬ (op = 25) by omega), if_pos (by omega)]
    · unfold doesF
      rw [if_neg (show ¬ (op = 1) by omega), if_neg (show ¬ (op = 2) by omega), if_neg (show ¬ (op = 3) by omega), if_neg (show ¬ (op = 4) by omega), if_neg (show ¬ (5 ≤ op ∧ op ≤ 17) by omega), if_neg (show ¬ (18 ≤ op ∧ op ≤ 22) by omega), if_neg (show ¬ (op = 23) by omega), if_neg (show ¬ (op = 24) by omega), if_neg (show ¬ (op = 25) by omega), if_pos (by omega)]
      exact stored_any w B mv m hm hl op d e ra rb rc imm a b c A n k hi ha hb hc
  · refine ⟨68, ?_, fun _ _ => by kernel_rfl, ?_⟩
    · unfold fnV
      rw [if_neg (show ¬ (op = 1) by omega), if_neg (show ¬ (op = 2) by omega), if_neg (show ¬ (op = 3) by omega), if_neg (show ¬ (op = 4) by omega), if_neg (show ¬ (5 ≤ op ∧ op ≤ 17) by omega), if_neg (show ¬ (18 ≤ op ∧ op ≤ 22) by omega), if_neg (show ¬ (op = 23) by omega), if_neg (show ¬ (op = 24) by omega), if_neg (show ¬ (op = 25) by omega), if_neg (show ¬ (op = 26) by omega), if_pos (by omega)]
    · unfold doesF
      rw [if_neg (show ¬ (op = 1) by omega), if_neg (show ¬ (op = 2) by omega), if_neg (show ¬ (op = 3) by omega), if_neg (show ¬ (op = 4) by omega), if_neg (show ¬ (5 ≤ op ∧ op ≤ 17) by omega), if_neg (show ¬ (18 ≤ op ∧ op ≤ 22) by omega), if_neg (show ¬ (op = 23) by omega), if_neg (show ¬ (op = 24) by omega), if_neg (show ¬ (op = 25) by omega), if_neg (show ¬ (op = 26) by omega), if_pos (by omega)]
      exact storedAtSum_any w B mv m hm hl op d e ra rb rc imm a b c A n k hi ha hb hc
  · refine ⟨69, ?_, fun _ _ => by kernel_rfl, ?_⟩
    · unfold fnV
      rw [if_neg (show ¬ (op = 1) by omega), if_neg (show ¬ (op = 2) by omega), if_neg (show ¬ (op = 3) by omega), if_neg (show ¬ (op = 4) by omega), if_neg (show ¬ (5 ≤ op ∧ op ≤ 17) by omega), if_neg (show ¬ (18 ≤ op ∧ op ≤ 22) by omega), if_neg (show ¬ (op = 23) by omega), if_neg (show ¬ (op = 24) by omega), if_neg (show ¬ (op = 25) by omega), if_neg (show ¬ (op = 26) by omega), if_neg (show ¬ (op = 27) by omega), if_pos (by omega)]
    · unfold doesF
      rw [if_neg (show ¬ (op = 1) by omega), if_neg (show ¬ (op = 2) by omega), if_neg (show ¬ (op = 3) by omega), if_neg (show ¬ (op = 4) by omega), if_neg (show ¬ (5 ≤ op ∧ op ≤ 17) by omega), if_neg (show ¬ (18 ≤ op ∧ op ≤ 22) by omega), if_neg (show ¬ (op = 23) by omega), if_neg (show ¬ (op = 24) by omega), if_neg (show ¬ (op = 25) by omega), if_neg (show ¬ (op = 26) by omega), if_neg (show ¬ (op = 27) by omega), if_pos (by omega)]
      exact mwide_any w B mv m hm hl op d e ra rb rc imm a b c A n k hi ha hb hc
def fxM (i : PMach) (l m : List Int) : Fx := doesF i.op i.imm (if 1 ≤ takesN i.op then getP l i.a else 0) (if 2 ≤ takesN i.op then getP l i.b else 0) (if 3 ≤ takesN i.op then getP l i.c else 0) m
def regsM (i : PMach) (l m : List Int) : List Int := if actsB i.op = true then regsF i l (fxM i l m) else l
theorem fnV_nil {op : Int} (h : actsB op = false) : fnV op = .nilFunc := by
  have h1 : ¬ (1 ≤ op ∧ op ≤ 27 ∨ op = 29) := of_decide_eq_false h
  unfold fnV
  rw [if_neg (show ¬ (op = 1) by omega), if_neg (show ¬ (op = 2) by omega), if_neg (show ¬ (op = 3) by omega), if_neg (show ¬ (op = 4) by omega), if_neg (show ¬ (5 ≤ op ∧ op ≤ 17) by omega), if_neg (show ¬ (18 ≤ op ∧ op ≤ 22) by omega), if_neg (show ¬ (op = 23) by omega), if_neg (show ¬ (op = 24) by omega), if_neg (show ¬ (op = 25) by omega), if_neg (show ¬ (op = 26) by omega), if_neg (show ¬ (op = 27) by omega), if_neg (show ¬ (op = 29) by omega)]
theorem fxM_nil {i : PMach} {l m : List Int} (h : actsB i.op = false) : fxM i l m = ⟨0, 0, 0, m⟩ := by
  have h1 : ¬ (1 ≤ i.op ∧ i.op ≤ 27 ∨ i.op = 29) := of_decide_eq_false h
  unfold fxM doesF
  rw [if_neg (show ¬ (i.op = 1) by omega), if_neg (show ¬ (i.op = 2) by omega), if_neg (show ¬ (i.op = 3) by omega), if_neg (show ¬ (i.op = 4) by omega), if_neg (show ¬ (5 ≤ i.op ∧ i.op ≤ 17) by omega), if_neg (show ¬ (18 ≤ i.op ∧ i.op ≤ 22) by omega), if_neg (show ¬ (i.op = 23) by omega), if_neg (show ¬ (i.op = 24) by omega), if_neg (show ¬ (i.op = 25) by omega), if_neg (show ¬ (i.op = 26) by omega), if_neg (show ¬ (i.op = 27) by omega), if_neg (show ¬ (i.op = 29) by omega)]
theorem inW_if {p : Prop} [Decidable p] {x : Int} (h : InW x) : InW (if p then x else 0) := by
  split
  · exact h
  · unfold InW; omega
set_option maxRecDepth 100000 in
set_option maxHeartbeats 4000000 in
theorem dorow_any (w : World) (i : PMach) (A : Option Addr) (n k : Nat) (rv mv : Value) (B : Nat) (l m : List Int) (hr : OwnWords B w rv l) (hm : OwnWords B w mv m) (hl : m.length ≤ 1000000) (hap : rv.ownBlock = none ∨ rv.ownBlock ≠ mv.ownBlock)
    (hI : InI i.a ∧ InI i.b ∧ InI i.c ∧ InI i.d ∧ InI i.e) (hi : InW i.imm) (hw : ∀ r, InW (getP l r)) :
    Calls Try.prog 108 #[.agg #[.int .i64 i.op, .int .i64 i.d, .int .i64 i.e, .int .i64 i.a, .int .i64 i.b, .int .i64 i.c, .int .i32 i.imm, .slice A n k], rv, mv] w (DoPost B rv mv (fxM i l m) (regsM i l m) w) := by
  obtain ⟨rA, rn, rc, rfl⟩ := OwnWords.slice hr
  obtain ⟨mA, mn, mc, rfl⟩ := OwnWords.slice hm
  cases ha : actsB i.op with
  | true =>
    obtain ⟨F, hf, hF, _⟩ := fx_any w B _ m hm hl i.op i.d i.e i.a i.b i.c i.imm (if 1 ≤ takesN i.op then getP l i.a else 0) (if 2 ≤ takesN i.op then getP l i.b else 0) (if 3 ≤ takesN i.op then getP l i.c else 0) A n k hi (inW_if (hw _)) (inW_if (hw _)) (inW_if (hw _)) ha
    have e : regsM i l m = regsF i l (fxM i l m) := if_pos ha
    rw [e]
    refine dorow_fn w i A n k rA mA rn rc mn mc F hf hF B l m hr hm hap hI (fxM i l m) (fun w' hm' => ?_)
    obtain ⟨F', hf', _, hc⟩ := fx_any w' B _ m hm' hl i.op i.d i.e i.a i.b i.c i.imm (if 1 ≤ takesN i.op then getP l i.a else 0) (if 2 ≤ takesN i.op then getP l i.b else 0) (if 3 ≤ takesN i.op then getP l i.c else 0) A n k hi (inW_if (hw _)) (inW_if (hw _)) (inW_if (hw _)) ha
    rw [hf] at hf'
    injection hf' with hf'
    injection hf' with hf'
    subst hf'
    exact hc
  | false =>
    have e : regsM i l m = l := if_neg (by rw [ha]; simp)
    rw [e, fxM_nil ha]
    refine (dorow_nil w i A n k rA mA rn rc mn mc (fnV_nil ha)).mono ?_
    rintro e w2 ⟨rfl, hb⟩
    exact ⟨rfl, hr.below hb, hm.below hb, Two.of_below hb⟩
set_option maxRecDepth 100000 in
set_option maxHeartbeats 4000000 in
theorem mdo_any (w : World) (i : PMach) (A : Option Addr) (n k : Nat) (rv mv : Value) (B : Nat) (l m : List Int) (hr : OwnWords B w rv l) (hm : OwnWords B w mv m) (hl : m.length ≤ 1000000) (hap : rv.ownBlock = none ∨ rv.ownBlock ≠ mv.ownBlock)
    (hI : InI i.a ∧ InI i.b ∧ InI i.c ∧ InI i.d ∧ InI i.e) (hi : InW i.imm) (hw : ∀ r, InW (getP l r)) :
    Calls Try.prog 107 #[.agg #[.int .i64 i.op, .int .i64 i.d, .int .i64 i.e, .int .i64 i.a, .int .i64 i.b, .int .i64 i.c, .int .i32 i.imm, .slice A n k], rv, mv] w (DoPost B rv mv (fxM i l m) (regsM i l m) w) := by
  have HC := Lib.hid (fun (w' : World) (hb : Below w.heap.size w w') => dorow_any w' i A n k rv mv B l m (hr.below hb) (hm.below hb) hl hap hI hi hw)
  obtain ⟨rA, rn, rc, rfl⟩ := OwnWords.slice hr
  obtain ⟨mA, mn, mc, rfl⟩ := OwnWords.slice hm
  obtain ⟨f, hf⟩ : ∃ f, fxM i l m = f := ⟨_, rfl⟩
  obtain ⟨l2, hl2⟩ : ∃ l2, regsM i l m = l2 := ⟨_, rfl⟩
  rw [hf, hl2] at HC
  rw [hf, hl2]
  obtain ⟨fx, fy, ft, fm⟩ := f
  clear hr hm hap hI hi hw hf hl2
  go_enter Try.func107, Try.ntmps107
  go_upto_region 1 with (fail)
  obtain ⟨W1, hW1⟩ : ∃ W1, w.alloc (.cells #[.int .i64 i.op, .int .i64 i.d, .int .i64 i.e, .int .i64 i.a, .int .i64 i.b, .int .i64 i.c, .int .i32 i.imm, .slice A n k] 24) = W1 := ⟨_, rfl⟩
  have hbW1 : Below w.heap.size w W1 := by rw [← hW1]; exact (Below.refl _ _).alloc (Nat.le_refl _) _
  have hsW1 : Str W1 w.heap.size 24 [.int .i64 i.op, .int .i64 i.d, .int .i64 i.e, .int .i64 i.a, .int .i64 i.b, .int .i64 i.c, .int .i32 i.imm, .slice A n k] := by rw [← hW1]; exact World.alloc_heap_new w _
  rw [hW1]
  clear hW1
  have m0 : W1.cell? ⟨w.heap.size, 0, none⟩ = some (.int .i64 i.op) := hsW1.cell 0
  have m1 : W1.cell? ⟨w.heap.size, 1, none⟩ = some (.int .i64 i.d) := hsW1.cell 1
  have m2 : W1.cell? ⟨w.heap.size, 2, none⟩ = some (.int .i64 i.e) := hsW1.cell 2
  have m3 : W1.cell? ⟨w.heap.size, 3, none⟩ = some (.int .i64 i.a) := hsW1.cell 3
  have m4 : W1.cell? ⟨w.heap.size, 4, none⟩ = some (.int .i64 i.b) := hsW1.cell 4
  have m5 : W1.cell? ⟨w.heap.size, 5, none⟩ = some (.int .i64 i.c) := hsW1.cell 5
  have m6 : W1.cell? ⟨w.heap.size, 6, none⟩ = some (.int .i32 i.imm) := hsW1.cell 6
  have m7 : W1.cell? ⟨w.heap.size, 7, none⟩ = some (.slice A n k) := hsW1.cell 7
  have HB1 := Lib.hid hbW1
  clear hsW1 hbW1
  go_wp2_with fail
  refine (HC.out W1 HB1.out).mono ?_
  rintro e' w2 ⟨rfl, h1, h2, h3⟩
  have H1 := Lib.hid h1
  have H2 := Lib.hid h2
  have H3 := Lib.hid ((Two.of_below HB1.out).trans h3)
  clear h1 h2 h3
  go_wp2
  go_ret2
  exact ⟨rfl, H1.out, H2.out, H3.out⟩
end Go.Proofs.Ytdidacjmcafcpaa.Mc
