/- Stage 4: runs of one block of operations on two words. -/
import Derived.Test.YtcangooibfddmaaIC
import Derived.Test.YtcangooibfddmaaIA
/- Stage 4: runs of functions of one block that tells, whose instructions have two words each: what their small functions do. -/
namespace Go.Proofs.Ytcangooibfddmaa.Ic
open Go.ChangeShapes Go.WideShapes Go.ChangeAt Go.RowKit Go.Maps Go.Proofs.Ytcangooibfddmaa.Mem Go.Proofs.Ytcangooibfddmaa.Kc Go.Proofs.Ytcangooibfddmaa.Br Go.Proofs.Ytcangooibfddmaa.Pl Go.Proofs.Ytcangooibfddmaa.Gr
set_option linter.unusedVariables false
theorem doV_in (op a b : Int) (ha : InW a) : InW (doV op a b) := by
  obtain ⟨h1, h2⟩ := ha
  have hb : ∀ o : BinOp, InW (bits o .i32 a b) := fun o => by
    obtain ⟨n, hn⟩ := bits_i32 o a b
    rw [hn]
    exact wrap32_bd n
  have ht : ∀ c : Bool, InW (bit c) := fun c => by unfold bit InW; cases c <;> simp
  have hs : InW (wSar a b) := by
    unfold wSar InW
    have hp : (0 : Int) < 2 ^ (b % 32).toNat := Int.pow_pos (by omega)
    have e : (1 : Int) ≤ 2 ^ (b % 32).toNat := hp
    generalize (2 : Int) ^ (b % 32).toNat = p at *
    have l1 : -2147483648 ≤ a / p := (Int.le_ediv_iff_mul_le hp).2 (by omega)
    have l2 : a / p < 2147483648 := (Int.ediv_lt_iff_lt_mul hp).2 (by omega)
    exact ⟨l1, by omega⟩
  unfold doV
  by_cases h2 : op = 2
  · rw [if_pos h2]; exact wrap32_bd _
  rw [if_neg h2]
  by_cases h3 : op = 3
  · rw [if_pos h3]; exact wrap32_bd _
  rw [if_neg h3]
  by_cases h4 : op = 4
  · rw [if_pos h4]; exact wrap32_bd _
  rw [if_neg h4]
  by_cases h5 : op = 5
  · rw [if_pos h5]; exact hb _
  rw [if_neg h5]
  by_cases h6 : op = 6
  · rw [if_pos h6]; exact hb _
  rw [if_neg h6]
  by_cases h7 : op = 7
  · rw [if_pos h7]; exact hb _
  rw [if_neg h7]
  by_cases h8 : op = 8
  · rw [if_pos h8]; exact wrap32_bd _
  rw [if_neg h8]
  by_cases h9 : op = 9
  · rw [if_pos h9]; exact wrap32_bd _
  rw [if_neg h9]
  by_cases h10 : op = 10
  · rw [if_pos h10]; exact hs
  rw [if_neg h10]
  by_cases h11 : op = 11
  · rw [if_pos h11]; exact ht _
  rw [if_neg h11]
  by_cases h12 : op = 12
  · rw [if_pos h12]; exact ht _
  rw [if_neg h12]
  by_cases h13 : op = 13
  · rw [if_pos h13]; exact ht _
  rw [if_neg h13]
  by_cases h14 : op = 14
  · rw [if_pos h14]
    unfold wDiv
    by_cases h : b = 0
    · rw [if_pos h]; exact ⟨by omega, by omega⟩
    · rw [if_neg h]; exact wrap32_bd _
  · rw [if_neg h14]; exact ⟨by omega, by omega⟩
theorem wide_in (a b : Int) : InW (wLow a b) ∧ InW (wHigh a b) := ⟨wrap32_bd _, wrap32_bd _⟩
set_option maxRecDepth 100000 in
theorem phis_none (w : World) (rb : Nat) (A : Option Addr) (c : Nat) (from_ : Int) :
    Calls Try.prog 52 #[.pointer (some ⟨rb, 0, none⟩), .slice A 0 c, .int .i64 from_] w fun e w' => e = .returned (.tuple #[]) ∧ w' = w := by
  go_enter Try.func52, Try.ntmps52
  go_wp2
  refine ⟨rfl, .tuple #[], ?_, rfl, rfl⟩
  simp only [results]
  go_simp
/-- A run of such a function. -/
structure St where
  vals : Int → Int
  steps : Int
  puts : Nat
def argX (i : PIns) (k : Nat) : Int := i.args.getD k 0
def acts (lim : Int) : Acts St where
  stepB s := decide (s.steps < lim)
  stepS s := if s.steps < lim then { s with steps := s.steps + 1 } else s
  doB s i := i.op == 18 || doB i.op (s.vals (argX i 1))
  doV s i := if i.op = 18 then 0 else if doB i.op (s.vals (argX i 1)) = true then 0 else -1
  doS s i := if i.op = 18 then { s with vals := upd (upd s.vals i.dst (wLow (s.vals (argX i 0)) (s.vals (argX i 1)))) i.two (wHigh (s.vals (argX i 0)) (s.vals (argX i 1))), puts := s.puts + 2 }
    else if doB i.op (s.vals (argX i 1)) = true then { s with vals := upd s.vals i.dst (doV i.op (s.vals (argX i 0)) (s.vals (argX i 1))), puts := s.puts + 1 } else s
  phiS s _ _ := s
  firstV s l := firstV s.vals l
  wayV s t := wayV (firstV s.vals t.args) t
  left s := (lim - s.steps).toNat
/-- An instruction of two words. -/
def TwoIns (i : PIns) : Prop := (∃ x y, i.args = [x, y] ∧ InI x ∧ InI y) ∧ InI i.dst ∧ InI i.two ∧ ((2 ≤ i.op ∧ i.op ≤ 14) ∨ i.op = 18)
def InvI (s : St) : Prop := 0 ≤ s.steps ∧ s.steps ≤ 1000 ∧ (∀ x, InW (s.vals x)) ∧ s.puts ≤ 100 + 2 * s.steps.toNat
def AtI (av mv nv : Value) (lim : Int) (rb : Nat) (L : Nat → Prop) (w : World) (s : St) : Prop :=
  ∃ mb cc mA mn mc cA cn ck, RunAt w rb mb cc av mv nv (.slice mA mn mc) (.slice cA cn ck) lim s.vals s.steps ∧ cc ≤ s.puts ∧ ¬ L rb ∧ ¬ L mb ∧ InvI s
def OutI (w : World) (v : Value) (how val : Int) (s : St) : Prop := ∃ mA mn mc cA cn ck, v = .agg #[.int .i64 how, .int .i32 val, .slice mA mn mc, .slice cA cn ck, .int .i64 s.steps]
theorem off_of_but {L : Nat → Prop} {m : Nat} {a b : World} (h : But m a b) (hm : ¬ L m) : Off L a b := ⟨h.os, h.tape, h.output, h.size, fun k hk hs => h.block k hs (fun e => hm (e ▸ hk))⟩
theorem upd_in {f : Int → Int} (h : ∀ x, InW (f x)) {k v : Int} (hv : InW v) (x : Int) : InW (upd f k v x) := by
  unfold upd
  by_cases e : x = k
  · rw [if_pos e]; exact hv
  · rw [if_neg e]; exact h x
theorem serves (av mv nv : Value) (lim : Int) (hlim : lim ≤ 1000) (rb : Nat) (b : PBlock) (hph : b.phis = []) (hin : ∀ i ∈ b.ins, TwoIns i) (hk : b.term.kind = 4) (ha : ∀ x ∈ b.term.args, InI x) :
    Serves (acts lim) rb [b] (fun s _ at_ => at_ = 0) InvI (AtI av mv nv lim rb) OutI where
  weak := by
    rintro L L' w s hl ⟨mb, cc, mA, mn, mc, cA, cn, ck, h, h1, h2, h3, h4⟩
    exact ⟨mb, cc, mA, mn, mc, cA, cn, ck, h, h1, fun e => h2 (hl _ e), fun e => h3 (hl _ e), h4⟩
  ext := by
    rintro L w w' s ⟨mb, cc, mA, mn, mc, cA, cn, ck, h, h1, h2, h3, h4⟩ hb
    have l1 := h.str.lt
    have l2 := h.map.lt
    exact ⟨mb, cc, mA, mn, mc, cA, cn, ck, h.below hb, h1, fun e => e.elim h2 (fun e => by omega), fun e => e.elim h3 (fun e => by omega), h4⟩
  inv := by
    rintro L w s ⟨mb, cc, mA, mn, mc, cA, cn, ck, h, h1, h2, h3, h4⟩
    exact h4
  step := by
    rintro L w s ⟨mb, cc, mA, mn, mc, cA, cn, ck, h, h1, h2, h3, h4, h5, h6, h7⟩
    refine (step_any w rb mb cc av mv nv _ _ lim s.steps s.vals h h4 (by omega)).mono ?_
    intro e w' hp
    unfold StepPost at hp
    by_cases hl : s.steps < lim
    · rw [if_pos hl] at hp
      obtain ⟨rfl, hb, hr⟩ := hp
      refine ⟨by simp only [acts, hl, decide_true], off_of_but hb h2, ?_⟩
      simp only [acts, if_pos hl]
      exact ⟨mb, cc, mA, mn, mc, cA, cn, ck, hr, h1, h2, h3, by simp only; omega, by simp only; omega, h6, by simp only; omega⟩
    · rw [if_neg hl] at hp
      obtain ⟨rfl, hb, hr⟩ := hp
      refine ⟨by simp only [acts, hl, decide_false], off_of_but hb h2, ?_⟩
      simp only [acts, if_neg hl]
      exact ⟨mb, cc, mA, mn, mc, cA, cn, ck, hr, h1, h2, h3, h4, h5, h6, h7⟩
  do_ := by
    rintro L w s0 s i A c ⟨g4, g5, g6, g7⟩ hsb hs ⟨mb, cc, mA, mn, mc, cA, cn, ck, h, h1, h2, h3, h4, h5, h6, h7⟩ hmem hi
    obtain ⟨b', hb', hib⟩ := hmem
    rw [List.mem_singleton] at hb'
    subst hb'
    obtain ⟨⟨x, y, hxy, hx, hy⟩, hd, ht, hop⟩ := hin i hib
    have hsl : s0.steps < lim := of_decide_eq_true hsb
    have hst : s = { s0 with steps := s0.steps + 1 } := by rw [hs]; simp only [acts, if_pos hsl]
    have hpu : s.puts + 2 ≤ 100 + 2 * s.steps.toNat := by rw [hst]; simp only; omega
    have a0 : argX i 0 = x := by unfold argX; rw [hxy]; rfl
    have a1 : argX i 1 = y := by unfold argX; rw [hxy]; rfl
    rw [hxy] at hi ⊢
    simp only [acts, a0, a1]
    by_cases h18 : i.op = 18
    · rw [if_pos h18, if_pos h18, h18]
      refine (do_wide w rb mb cc av mv nv _ _ lim s.steps s.vals h i.dst i.two i.imm A c x y hi hx hy hd ht (by omega) (h6 x) (h6 y)).mono ?_
      rintro e w' ⟨rfl, hb, hr⟩
      refine ⟨rfl, off_of_but hb h3, ?_⟩
      exact ⟨mb, cc + 2, mA, mn, mc, cA, cn, ck, hr, by simp only; omega, h2, h3, h4, h5, fun z => upd_in (fun z => upd_in h6 (wide_in _ _).1 z) (wide_in _ _).2 z, hpu⟩
    · have hop' : 2 ≤ i.op ∧ i.op ≤ 14 := hop.resolve_right h18
      have e18 : (i.op == 18) = false := beq_eq_false_iff_ne.2 h18
      refine (do_two w rb mb cc av mv nv _ _ lim s.steps s.vals h i.op i.dst i.two i.imm A c x y hi hx hy hd (by omega) hop').mono ?_
      intro e w' hp
      unfold TwoPost at hp
      rw [if_neg h18, if_neg h18, e18, Bool.false_or]
      by_cases hB : doB i.op (s.vals y) = true
      · rw [if_pos hB] at hp
        obtain ⟨rfl, hb, hr⟩ := hp
        rw [if_pos hB, if_pos hB, hB]
        exact ⟨rfl, off_of_but hb h3, mb, cc + 1, mA, mn, mc, cA, cn, ck, hr, by simp only; omega, h2, h3, h4, h5, fun z => upd_in h6 (doV_in _ _ _ (h6 x)) z, by simp only; omega⟩
      · rw [if_neg hB] at hp
        obtain ⟨rfl, hb, hr⟩ := hp
        rw [if_neg hB, if_neg hB, Bool.eq_false_iff.2 hB]
        exact ⟨rfl, off_of_but hb h3, mb, cc, mA, mn, mc, cA, cn, ck, hr, h1, h2, h3, h4, h5, h6, h7⟩
  phis := by
    rintro L w s from_ at_ b' v hat hg hb' hv
    have hg : at_ = 0 := hg
    subst hg
    have e : b = b' := by simpa using hb'
    subst e
    rw [hph] at hv ⊢
    obtain ⟨A, c, _, _, rfl, _⟩ := hv
    refine (phis_none w rb A c from_).mono ?_
    rintro e w' ⟨rfl, rfl⟩
    exact ⟨rfl, Off.refl _ _, hat⟩
  first := by
    rintro L w s v l ⟨mb, cc, mA, mn, mc, cA, cn, ck, h, _⟩ hv ⟨b', hb', rfl⟩
    rw [List.mem_singleton] at hb'
    subst hb'
    exact first_any w rb mb cc av mv nv _ _ lim s.steps s.vals h v _ hv ha
  way := by
    rintro L w s t v u ⟨mb, cc, mA, mn, mc, cA, cn, ck, h, _⟩ ⟨b', hb', rfl⟩ hv hu
    rw [List.mem_singleton] at hb'
    subst hb'
    exact way_any w rb mb cc av mv nv _ _ lim s.steps s.vals h _ v u hv hu ha
  end_ := by
    rintro L w s how val q ⟨mb, cc, mA, mn, mc, cA, cn, ck, h, _⟩ hq
    refine (end_any w rb mb cc q av mv nv mA cA mn mc cn ck lim s.steps s.vals h how val hq).mono ?_
    rintro e w' ⟨rfl, hb⟩
    exact ⟨mA, mn, mc, cA, cn, ck, s.steps, rfl, fun _ _ _ _ => ⟨_, _, _, _, _, _, rfl⟩, hb⟩
  start := by
    rintro s from_ at_ rfl
    simp
  goes := by
    rintro s from_ at_ s' from' at' rfl hp
    exfalso
    unfold passZ at hp
    simp only [List.getElem?_cons_zero] at hp
    cases hi : insZ (acts lim) b.ins ((acts lim).phiS s b.phis from_) with
    | inr e => rw [hi] at hp; cases hp
    | inl s2 =>
      rw [hi] at hp
      simp only [termZ, hk] at hp
      by_cases h : (acts lim).stepB s2 = true
      · rw [if_pos h] at hp; simp at hp
      · rw [if_neg h] at hp; cases hp
  goesTo := by
    rintro s from_ at_ b' s2 rfl hb' hi hs h4
    have e : b = b' := by simpa using hb'
    subst e
    exact absurd hk h4
/-- What such a run tells. -/
theorem run_told (w : World) (params : Nat) (hp : params ≤ 4) (A : Option Addr) (b0 c : Nat) (b : PBlock) (hA : A = some ⟨b0, 0, none⟩) (hbs : BlocksAt w (.slice A 1 c) [b]) (hwf : WfP [b]) (hok : (checkN params [b]).1 = 0)
    (hph : b.phis = []) (hin : ∀ i ∈ b.ins, TwoIns i) (hk : b.term.kind = 4) (hta : ∀ x ∈ b.term.args, InI x) (av mv nv : Value) (lim : Int) (hlim : lim ≤ 1000) (al ml : List Int) (ha : WordsAt w av al) (hm : WordsAt w mv ml) (hw : ∀ x ∈ al, InW x) :
    Calls Try.prog 19 #[.agg #[.int .i64 params, .slice A 1 c], .agg #[av, mv, nv, .int .i64 lim]] w
      (RunEnds OutI (runZ (acts lim) [b] ((acts lim).left ⟨parV al params, 0, 8⟩ + 1) 0 0 ⟨parV al params, 0, 8⟩) w.heap.size w) := by
  refine run_any (acts lim) [b] (fun s _ at_ => at_ = 0) InvI (AtI av mv nv lim) OutI (fun rb => serves av mv nv lim hlim rb b hph hin hk hta) w params hp A b0 c (fun _ => hA) hbs hwf hok av mv nv lim al ml ha hm _ rfl ?_
  intro rb mb cc mm w0 w1 hb hbg
  obtain ⟨mA, mn, mc, rfl⟩ := hbg.own.slice
  have hr1 := hbg.r1
  have hr2 := hbg.r2
  have hcc := hbg.cc
  refine ⟨mb, cc, mA, mn, mc, none, 0, 0, hbg.run, by simp only; omega, fun e => by have e : rb < w0.heap.size := e; omega, fun e => by have e : mb < w0.heap.size := e; omega, by simp only; omega, by simp only; omega, fun x => ?_, by simp only; omega⟩
  simp only [parV]
  by_cases h : 0 ≤ x ∧ x < (params : Int)
  · rw [if_pos h, List.getD_eq_getElem?_getD]
    cases hx : al[x.toNat]? with
    | none => exact ⟨by simp, by simp⟩
    | some y => exact hw y (List.mem_of_getElem? hx)
  · rw [if_neg h]; exact ⟨by omega, by omega⟩
end Go.Proofs.Ytcangooibfddmaa.Ic
/- Stage 4: the law's small functions (one, ret), their function in memory, and what its run tells. -/
namespace Go.Proofs.Ytcangooibfddmaa.Ic
open Go.ChangeShapes Go.WideShapes Go.ChangeAt Go.RowKit Go.Maps Go.Proofs.Ytcangooibfddmaa.Mem Go.Proofs.Ytcangooibfddmaa.Kc Go.Proofs.Ytcangooibfddmaa.Br Go.Proofs.Ytcangooibfddmaa.Pl Go.Proofs.Ytcangooibfddmaa.Gr
set_option linter.unusedVariables false
/-- A block of one instruction of the first two values, that tells a value. -/
def blockP (op two v : Int) : PBlock := ⟨[], [⟨op, 2, two, [0, 1], 0⟩], ⟨4, [v], [], 0⟩⟩
theorem right_do : ∀ op : Fin 13, (checkN 2 [blockP ((op.val : Int) + 2) 0 2]).1 = 0 := by decide +kernel
theorem right_low : (checkN 2 [blockP 18 3 2]).1 = 0 := by decide +kernel
theorem right_high : (checkN 2 [blockP 18 3 3]).1 = 0 := by decide +kernel
theorem told_do (lim : Int) (hl : 2 ≤ lim) (op two : Int) (h : 2 ≤ op ∧ op ≤ 14) (f : Nat) (s : St) (hs : s.steps = 0) :
    runZ (acts lim) [blockP op two 2] (f + 1) 0 0 s = if doB op (s.vals 1) = true then (1, doV op (s.vals 0) (s.vals 1), ⟨upd s.vals 2 (doV op (s.vals 0) (s.vals 1)), 2, s.puts + 1⟩) else (2, -1, ⟨s.vals, 1, s.puts⟩) := by
  obtain ⟨vals, steps, puts⟩ := s
  have hs : steps = 0 := hs
  subst hs
  have h18 : ¬ op = 18 := by omega
  have e18 : (op == 18) = false := beq_eq_false_iff_ne.2 h18
  have l0 : (0 : Int) < lim := by omega
  have l1 : (1 : Int) < lim := by omega
  cases hB : doB op (vals 1) with
  | true => simp [runZ, passZ, blockP, insZ, termZ, acts, argX, h18, e18, l0, l1, hB, firstV, upd]
  | false => simp [runZ, passZ, blockP, insZ, acts, argX, h18, e18, l0, hB, firstV]
theorem told_wide (lim : Int) (hl : 2 ≤ lim) (v : Int) (hv : v = 2 ∨ v = 3) (f : Nat) (s : St) (hs : s.steps = 0) :
    runZ (acts lim) [blockP 18 3 v] (f + 1) 0 0 s = (1, if v = 2 then wLow (s.vals 0) (s.vals 1) else wHigh (s.vals 0) (s.vals 1), ⟨upd (upd s.vals 2 (wLow (s.vals 0) (s.vals 1))) 3 (wHigh (s.vals 0) (s.vals 1)), 2, s.puts + 2⟩) := by
  obtain ⟨vals, steps, puts⟩ := s
  have hs : steps = 0 := hs
  subst hs
  have l0 : (0 : Int) < lim := by omega
  have l1 : (1 : Int) < lim := by omega
  rcases hv with rfl | rfl <;> simp [runZ, passZ, blockP, insZ, termZ, acts, argX, l0, l1, firstV, upd]
def RetPost (v : Int) (w : World) (en : Ending) (w' : World) : Prop := ∃ g, en = .returned (.agg #[.int .i64 4, .slice (some ⟨g, 0, none⟩) 1 1, .slice none 0 0, .int .i32 0]) ∧ w'.cell? ⟨g, 0, none⟩ = some (.int .i64 v) ∧ Below w.heap.size w w'
set_option maxRecDepth 100000 in
theorem ret_any (w : World) (v : Int) : Calls Try.prog 21 #[.int .i64 v] w (RetPost v w) := by
  go_enter Try.func21, Try.ntmps21
  go_wp2
  have hc := (show Str _ (w.alloc (.cells #[.int .i64 4, .slice (some ⟨w.heap.size + 1, 0, none⟩) 1 1, .slice none 0 0, .int .i32 0] 30)).heap.size 3 [.int .i64 v] from World.alloc_heap_new _ _).cell 0
  simp only [World.size_alloc] at hc
  refine ⟨rfl, .agg #[.int .i64 4, .slice (some ⟨w.heap.size + 1, 0, none⟩) 1 1, .slice none 0 0, .int .i32 0], ?_, ?_⟩
  · simp only [results]
    go_simp
  · exact ⟨_, rfl, hc, ((Below.refl _ _).alloc (Nat.le_refl _) _).alloc (by simp) _⟩
def OnePost (params : Int) (l : Value) (kind : Int) (a o : Value) (imm : Int) (w : World) (en : Ending) (w' : World) : Prop :=
  ∃ g, en = .returned (.agg #[.int .i64 params, .slice (some ⟨g, 0, none⟩) 1 1]) ∧ Str w' g 34 [.slice none 0 0, l, .int .i64 kind, a, o, .int .i32 imm] ∧ Below w.heap.size w w'
set_option maxRecDepth 100000 in
theorem one_any (w : World) (params kind imm : Int) (lA aA oA : Option Addr) (ln lc an ac on_ oc : Nat) :
    Calls Try.prog 20 #[.int .i64 params, .slice lA ln lc, .agg #[.int .i64 kind, .slice aA an ac, .slice oA on_ oc, .int .i32 imm]] w (OnePost params (.slice lA ln lc) kind (.slice aA an ac) (.slice oA on_ oc) imm w) := by
  go_enter Try.func20, Try.ntmps20
  go_wp2
  have hc : Str _ ((w.alloc (.cells #[.int .i64 kind, .slice aA an ac, .slice oA on_ oc, .int .i32 imm] 30)).alloc (.cells #[.int .i64 params, .slice (some ⟨w.heap.size + 1 + 1, 0, none⟩) 1 1] 24)).heap.size 34 [.slice none 0 0, .slice lA ln lc, .int .i64 kind, .slice aA an ac, .slice oA on_ oc, .int .i32 imm] := World.alloc_heap_new _ _
  simp only [World.size_alloc] at hc
  refine ⟨rfl, .agg #[.int .i64 params, .slice (some ⟨w.heap.size + 1 + 1, 0, none⟩) 1 1], ?_, ?_⟩
  · simp only [results]
    go_simp
  · exact ⟨_, rfl, hc, (((Below.refl _ _).alloc (Nat.le_refl _) _).alloc (by simp) _).alloc (by simp; omega) _⟩
theorem wf_one (op two v : Int) (h2 : InI two) (hv : InI v) : WfP [blockP op two v] where
  phi := by
    intro x hx p hp
    rw [List.mem_singleton] at hx
    subst hx
    simp [blockP] at hp
  ins := by
    intro x hx i hi
    rw [List.mem_singleton] at hx
    subst hx
    have e : i = ⟨op, 2, two, [0, 1], 0⟩ := by simpa [blockP] using hi
    subst e
    refine ⟨⟨by simp, by simp⟩, h2, ?_⟩
    intro z hz
    simp at hz
    rcases hz with rfl | rfl <;> exact ⟨by omega, by omega⟩
  term := by
    intro x hx z hz
    rw [List.mem_singleton] at hx
    subst hx
    have e : z = v := by simpa [blockP] using hz
    rw [e]; exact hv
  size := by
    intro k hk
    have hk : k = 0 ∨ k = 1 := by simp at hk; omega
    rcases hk with rfl | rfl
    · simp [uptoP]
    · simp [uptoP, blockP, sizeP]
theorem block_one {w : World} {gB gI gA gR : Nat} {op two v : Int} {ic ac rc : Nat} (hi : 1 ≤ ic ∧ ic ≤ maxLen) (ha : 2 ≤ ac ∧ ac ≤ maxLen) (hr : 1 ≤ rc ∧ rc ≤ maxLen)
    (hB : Str w gB 34 [.slice none 0 0, .slice (some ⟨gI, 0, none⟩) 1 ic, .int .i64 4, .slice (some ⟨gR, 0, none⟩) 1 rc, .slice none 0 0, .int .i32 0])
    (hI : Str w gI 36 [.int .i64 op, .int .i64 2, .int .i64 two, .slice (some ⟨gA, 0, none⟩) 2 ac, .int .i32 0]) (hA : Str w gA 3 [.int .i64 0, .int .i64 1]) (hR : w.cell? ⟨gR, 0, none⟩ = some (.int .i64 v)) :
    BlocksAt w (.slice (some ⟨gB, 0, none⟩) 1 1) [blockP op two v] := by
  refine ⟨some ⟨gB, 0, none⟩, 1, gB, 0, rfl, Nat.le_refl _, by unfold maxLen; omega, fun _ => rfl, fun k hk => ?_⟩
  obtain rfl : k = 0 := by simp at hk; omega
  refine ⟨⟨_, hB.cell 0, none, 0, 0, 0, rfl, Nat.le_refl _, by unfold maxLen; omega, fun h => absurd h (by simp [blockP]), fun k hk => absurd hk (by simp [blockP])⟩,
    ⟨_, hB.cell 1, some ⟨gI, 0, none⟩, ic, gI, 0, rfl, hi.1, hi.2, fun _ => rfl, fun k hk => ?_⟩, hB.cell 2,
    ⟨_, hB.cell 3, some ⟨gR, 0, none⟩, rc, rfl, hr.1, hr.2, fun k hk => ?_⟩, ⟨_, hB.cell 4, none, 0, rfl, Nat.le_refl _, by unfold maxLen; omega, fun k hk => absurd hk (by simp [blockP])⟩, hB.cell 5⟩
  · obtain rfl : k = 0 := by simp [blockP] at hk; omega
    refine ⟨hI.cell 0, hI.cell 1, hI.cell 2, ⟨_, hI.cell 3, some ⟨gA, 0, none⟩, ac, rfl, ha.1, ha.2, fun j hj => ⟨_, rfl, ?_⟩⟩, hI.cell 4⟩
    have hj : j = 0 ∨ j = 1 := by simp [blockP] at hj; omega
    rcases hj with rfl | rfl
    · exact hA.cell 0
    · exact hA.cell 1
  · obtain rfl : k = 0 := by simp [blockP] at hk; omega
    exact ⟨_, rfl, hR⟩
def OutPost (how val steps : Int) (w : World) (en : Ending) (w' : World) : Prop := ∃ mA mn mc cA cn ck, en = .returned (.agg #[.int .i64 how, .int .i32 val, .slice mA mn mc, .slice cA cn ck, .int .i64 steps]) ∧ Below w.heap.size w w'
theorem par0 (al : List Int) : parV al 2 0 = al.getD 0 0 := by unfold parV; rw [if_pos (by omega)]; rfl
theorem par1 (al : List Int) : parV al 2 1 = al.getD 1 0 := by unfold parV; rw [if_pos (by omega)]; rfl
def dHow (op b : Int) : Int := if doB op b = true then 1 else 2
def dVal (op a b : Int) : Int := if doB op b = true then doV op a b else -1
def dSteps (op b : Int) : Int := if doB op b = true then 2 else 1
theorem ends_out {r : EndZ St} {w : World} {e : Ending} {w' : World} (h : RunEnds OutI r w.heap.size w e w') : OutPost r.1 r.2.1 r.2.2.steps w e w' := by
  obtain ⟨v, rfl, ⟨mA, mn, mc, cA, cn, ck, rfl⟩, hb⟩ := h
  exact ⟨mA, mn, mc, cA, cn, ck, rfl, hb⟩
theorem two_ins (op two v : Int) (hop : (2 ≤ op ∧ op ≤ 14) ∨ op = 18) (h2 : InI two) : ∀ i ∈ (blockP op two v).ins, TwoIns i := by
  intro i hi
  have e : i = ⟨op, 2, two, [0, 1], 0⟩ := by simpa [blockP] using hi
  subst e
  exact ⟨⟨0, 1, rfl, ⟨by omega, by omega⟩, ⟨by omega, by omega⟩⟩, ⟨by simp, by simp⟩, h2, hop⟩
theorem term_in (op two v : Int) (hv : InI v) : ∀ x ∈ (blockP op two v).term.args, InI x := by
  intro x hx
  have e : x = v := by simpa [blockP] using hx
  rw [e]; exact hv
theorem small_in {n : Int} (h : 0 ≤ n ∧ n ≤ 100) : InI n := ⟨by omega, by omega⟩
theorem run_do (w : World) (gB : Nat) (op lim : Int) (hop : 2 ≤ op ∧ op ≤ 14) (hl : 2 ≤ lim ∧ lim ≤ 1000) (hb : BlocksAt w (.slice (some ⟨gB, 0, none⟩) 1 1) [blockP op 0 2]) (av : Value) (al : List Int) (ha : WordsAt w av al) (hw : ∀ x ∈ al, InW x) :
    Calls Try.prog 19 #[.agg #[.int .i64 2, .slice (some ⟨gB, 0, none⟩) 1 1], .agg #[av, .slice none 0 0, .slice none 0 0, .int .i64 lim]] w (OutPost (dHow op (al.getD 1 0)) (dVal op (al.getD 0 0) (al.getD 1 0)) (dSteps op (al.getD 1 0)) w) := by
  have hok : (checkN ((2 : Nat) : Int) [blockP op 0 2]).1 = 0 := by
    have h := right_do ⟨(op - 2).toNat, by omega⟩
    rw [show (((op - 2).toNat : Nat) : Int) + 2 = op by omega] at h
    exact h
  refine (run_told w 2 (by omega) (some ⟨gB, 0, none⟩) gB 1 (blockP op 0 2) rfl hb (wf_one _ _ _ (small_in (by omega)) (small_in (by omega))) hok rfl (two_ins _ _ _ (Or.inl hop) (small_in (by omega))) rfl (term_in _ _ _ (small_in (by omega))) av (.slice none 0 0) (.slice none 0 0) lim hl.2 al [] ha (WordsAt.none_ w) hw).mono ?_
  intro e w' h
  have h := ends_out h
  rw [told_do lim hl.1 op 0 hop _ _ rfl] at h
  simp only [par0, par1] at h
  unfold dHow dVal dSteps
  by_cases hB : doB op (al.getD 1 0) = true
  · rw [if_pos hB] at h
    rw [if_pos hB, if_pos hB, if_pos hB]
    exact h
  · rw [if_neg hB] at h
    rw [if_neg hB, if_neg hB, if_neg hB]
    exact h
theorem run_wide (w : World) (gB : Nat) (v lim : Int) (hv : v = 2 ∨ v = 3) (hl : 2 ≤ lim ∧ lim ≤ 1000) (hb : BlocksAt w (.slice (some ⟨gB, 0, none⟩) 1 1) [blockP 18 3 v]) (av : Value) (al : List Int) (ha : WordsAt w av al) (hw : ∀ x ∈ al, InW x) :
    Calls Try.prog 19 #[.agg #[.int .i64 2, .slice (some ⟨gB, 0, none⟩) 1 1], .agg #[av, .slice none 0 0, .slice none 0 0, .int .i64 lim]] w (OutPost 1 (if v = 2 then wLow (al.getD 0 0) (al.getD 1 0) else wHigh (al.getD 0 0) (al.getD 1 0)) 2 w) := by
  have hok : (checkN ((2 : Nat) : Int) [blockP 18 3 v]).1 = 0 := by rcases hv with rfl | rfl; exact right_low; exact right_high
  have hvi : InI v := by rcases hv with rfl | rfl <;> exact small_in (by omega)
  refine (run_told w 2 (by omega) (some ⟨gB, 0, none⟩) gB 1 (blockP 18 3 v) rfl hb (wf_one _ _ _ (small_in (by omega)) hvi) hok rfl (two_ins _ _ _ (Or.inr rfl) (small_in (by omega))) rfl (term_in _ _ _ hvi) av (.slice none 0 0) (.slice none 0 0) lim hl.2 al [] ha (WordsAt.none_ w) hw).mono ?_
  intro e w' h
  have h := ends_out h
  rw [told_wide lim hl.1 v hv _ _ rfl] at h
  simp only [par0, par1] at h
  exact h
end Go.Proofs.Ytcangooibfddmaa.Ic
/- Stage 4: the law's examples. -/
namespace Go.Proofs.Ytcangooibfddmaa.Ic
open Go.ChangeShapes Go.WideShapes Go.ChangeAt Go.RowKit Go.Maps Go.Proofs.Ytcangooibfddmaa.Mem Go.Proofs.Ytcangooibfddmaa.Kc Go.Proofs.Ytcangooibfddmaa.Br Go.Proofs.Ytcangooibfddmaa.Pl Go.Proofs.Ytcangooibfddmaa.Gr
set_option linter.unusedVariables false
theorem words1 {w : World} {g c : Nat} {t : TypeId} {a : Int} (h : Str w g t [.int .i32 a]) (hc : 1 ≤ c ∧ c ≤ maxLen) : WordsAt w (.slice (some ⟨g, 0, none⟩) 1 c) [a] := by
  refine ⟨_, c, rfl, hc.1, hc.2, fun k hk => ⟨_, rfl, ?_⟩⟩
  obtain rfl : k = 0 := by simp at hk; omega
  exact h.cell 0
theorem words2 {w : World} {g c : Nat} {t : TypeId} {a b : Int} (h : Str w g t [.int .i32 a, .int .i32 b]) (hc : 2 ≤ c ∧ c ≤ maxLen) : WordsAt w (.slice (some ⟨g, 0, none⟩) 2 c) [a, b] := by
  refine ⟨_, c, rfl, hc.1, hc.2, fun k hk => ⟨_, rfl, ?_⟩⟩
  have hk : k = 0 ∨ k = 1 := by simp at hk; omega
  rcases hk with rfl | rfl
  · exact h.cell 0
  · exact h.cell 1
theorem words3 {w : World} {g c : Nat} {t : TypeId} {a b d : Int} (h : Str w g t [.int .i32 a, .int .i32 b, .int .i32 d]) (hc : 3 ≤ c ∧ c ≤ maxLen) : WordsAt w (.slice (some ⟨g, 0, none⟩) 3 c) [a, b, d] := by
  refine ⟨_, c, rfl, hc.1, hc.2, fun k hk => ⟨_, rfl, ?_⟩⟩
  have hk : k = 0 ∨ k = 1 ∨ k = 2 := by simp at hk; omega
  rcases hk with rfl | rfl | rfl
  · exact h.cell 0
  · exact h.cell 1
  · exact h.cell 2
theorem in1 {a : Int} (ha : InW a) : ∀ x ∈ [a], InW x := by
  intro x hx
  rw [List.mem_singleton] at hx
  rw [hx]; exact ha
theorem in2 {a b : Int} (ha : InW a) (hb : InW b) : ∀ x ∈ [a, b], InW x := by
  intro x hx
  simp only [List.mem_cons, List.not_mem_nil, or_false] at hx
  rcases hx with rfl | rfl <;> assumption
theorem in3 {a b c : Int} (ha : InW a) (hb : InW b) (hc : InW c) : ∀ x ∈ [a, b, c], InW x := by
  intro x hx
  simp only [List.mem_cons, List.not_mem_nil, or_false] at hx
  rcases hx with rfl | rfl | rfl <;> assumption
theorem small_w {n : Int} (h : 0 ≤ n ∧ n ≤ 100) : InW n := ⟨by omega, by omega⟩
theorem fits {n : Nat} (h : n ≤ 100) : n ≤ maxLen := by unfold maxLen; omega
theorem s1 : dHow 14 2 = 1 := by decide +kernel
theorem s2 : dVal 14 7 2 = 3 := by decide +kernel
theorem s3 : dSteps 14 2 = 2 := by decide +kernel
theorem s4 : dHow 14 0 = 2 := by decide +kernel
theorem s5 : dVal 14 7 0 = -1 := by decide +kernel
theorem s6 : dSteps 14 0 = 1 := by decide +kernel
def ShownPost (w : World) (en : Ending) (w' : World) : Prop := en = .returned (.bool true) ∧ Below w.heap.size w w'
set_option maxRecDepth 100000 in
set_option maxHeartbeats 2000000 in
theorem shown_any (w : World) : Calls Try.prog 18 #[] w (ShownPost w) := by
  go_enter Try.func18, Try.ntmps18
  go_wp2_with fail
  obtain ⟨W2a, hW2a⟩ : ∃ W2, (w.alloc (.cells #[.int .i64 0, .int .i64 1] 3)).alloc (.cells #[.int .i64 14, .int .i64 2, .int .i64 0, .slice (some ⟨w.heap.size, 0, none⟩) 2 2, .int .i32 0] 36) = W2 := ⟨_, rfl⟩
  rw [hW2a]
  have hb2a : Below w.heap.size w W2a := by rw [← hW2a]; exact ((Below.refl _ _).alloc (Nat.le_refl _) _).alloc (by simp) _
  have hAa : Str W2a w.heap.size 3 [.int .i64 0, .int .i64 1] := by rw [← hW2a]; exact Str.below (World.alloc_heap_new w _) ((Below.refl _ _).alloc (Nat.le_refl _) _)
  have hIa : Str W2a (w.heap.size + 1) 36 [.int .i64 14, .int .i64 2, .int .i64 0, .slice (some ⟨w.heap.size, 0, none⟩) 2 2, .int .i32 0] := by
    have h : Str _ (w.alloc (.cells #[.int .i64 0, .int .i64 1] 3)).heap.size 36 [.int .i64 14, .int .i64 2, .int .i64 0, .slice (some ⟨w.heap.size, 0, none⟩) 2 2, .int .i32 0] := World.alloc_heap_new (w.alloc (.cells #[.int .i64 0, .int .i64 1] 3)) _
    simp only [World.size_alloc] at h
    rw [← hW2a]
    exact h
  clear hW2a
  refine (ret_any W2a 2).mono ?_
  rintro e W3a ⟨gRa, rfl, hRa, hb3a⟩
  go_wp2_with fail
  refine (one_any W3a 2 4 0 _ _ _ _ _ _ _ _ _).mono ?_
  rintro e W4a ⟨gBa, rfl, hBa, hb4a⟩
  have HFa := Lib.hid (block_one (op := 14) (two := 0) (v := 2) ⟨by omega, by unfold maxLen; omega⟩ ⟨by omega, by unfold maxLen; omega⟩ ⟨by omega, by unfold maxLen; omega⟩ hBa ((hIa.below hb3a).below hb4a) ((hAa.below hb3a).below hb4a) (cell_keep hb4a (Nat.le_refl _) hRa))
  have HBa := Lib.hid ((hb2a.trans (hb3a.mono hb2a.size)).trans (hb4a.mono (Nat.le_trans hb2a.size hb3a.size)))
  clear hAa hIa hRa hBa hb2a hb3a hb4a
  go_wp2_with fail
  obtain ⟨W5, hW5⟩ : ∃ W5, (W4a.alloc (.cells #[.int .i64 2, .slice (some ⟨gBa, 0, none⟩) 1 1] 24)).alloc (.cells #[.int .i32 7, .int .i32 2] 21) = W5 := ⟨_, rfl⟩
  rw [hW5]
  have hb5 : Below W4a.heap.size W4a W5 := by rw [← hW5]; exact ((Below.refl _ _).alloc (Nat.le_refl _) _).alloc (by simp) _
  have hF : Str W5 W4a.heap.size 24 [.int .i64 2, .slice (some ⟨gBa, 0, none⟩) 1 1] := by rw [← hW5]; exact Str.below (World.alloc_heap_new W4a _) ((Below.refl _ _).alloc (Nat.le_refl _) _)
  have hV : Str W5 (W4a.heap.size + 1) 21 [.int .i32 7, .int .i32 2] := by
    have h : Str _ (W4a.alloc (.cells #[.int .i64 2, .slice (some ⟨gBa, 0, none⟩) 1 1] 24)).heap.size 21 [.int .i32 7, .int .i32 2] := World.alloc_heap_new (W4a.alloc (.cells #[.int .i64 2, .slice (some ⟨gBa, 0, none⟩) 1 1] 24)) _
    simp only [World.size_alloc] at h
    rw [← hW5]
    exact h
  clear hW5
  have hB5 := HBa.out.trans (hb5.mono HBa.out.size)
  refine (run_do W5 gBa 14 5 (by omega) (by omega) (HFa.out.keep hb5) _ [7, 2] (words2 hV ⟨by omega, fits (by omega)⟩) (in2 (small_w (by omega)) (small_w (by omega)))).mono ?_
  rintro e W6 ⟨mA, mn, mc, cA, cn, ck, rfl, hb6⟩
  rw [show dHow 14 ([(7 : Int), 2].getD 1 0) = 1 from s1, show dVal 14 ([(7 : Int), 2].getD 0 0) ([(7 : Int), 2].getD 1 0) = 3 from s2, show dSteps 14 ([(7 : Int), 2].getD 1 0) = 2 from s3]
  have HB6 := Lib.hid (hB5.trans (hb6.mono hB5.size))
  have HFS := Lib.hid (hF.below hb6)
  have HF6 := Lib.hid ((HFa.out.keep hb5).keep hb6)
  clear hB5 hb5 hb6 hF hV
  go_upto_region 3 with (fail)
  obtain ⟨W7, hW7⟩ : ∃ W7, W6.alloc (.cells #[.int .i64 1, .int .i32 3, .slice mA mn mc, .slice cA cn ck, .int .i64 2] 45) = W7 := ⟨_, rfl⟩
  rw [hW7]
  have hb7 : Below W6.heap.size W6 W7 := by rw [← hW7]; exact (Below.refl _ _).alloc (Nat.le_refl _) _
  have HO7 := Lib.hid (show Str W7 W6.heap.size 45 [.int .i64 1, .int .i32 3, .slice mA mn mc, .slice cA cn ck, .int .i64 2] by rw [← hW7]; exact World.alloc_heap_new W6 _)
  clear hW7
  have f0 : W7.cell? ⟨W4a.heap.size, 0, none⟩ = some (.int .i64 2) := (HFS.out.below hb7).cell 0
  have f1 : W7.cell? ⟨W4a.heap.size, 1, none⟩ = some (.slice (some ⟨gBa, 0, none⟩) 1 1) := (HFS.out.below hb7).cell 1
  have HF7 := Lib.hid (HF6.out.keep hb7)
  have HB7 := Lib.hid (HB6.out.trans (hb7.mono HB6.out.size))
  clear hb7
  go_wp2_with fail
  obtain ⟨W8, hW8⟩ : ∃ W8, W7.alloc (.cells #[.int .i32 7] 21) = W8 := ⟨_, rfl⟩
  rw [hW8]
  have hb8 : Below W7.heap.size W7 W8 := by rw [← hW8]; exact (Below.refl _ _).alloc (Nat.le_refl _) _
  have hV : Str W8 W7.heap.size 21 [.int .i32 7] := by rw [← hW8]; exact World.alloc_heap_new W7 _
  clear hW8
  refine (run_do W8 gBa 14 5 (by omega) (by omega) (HF7.out.keep hb8) _ [7] (words1 hV ⟨by omega, fits (by omega)⟩) (in1 (small_w (by omega)))).mono ?_
  rintro e W9 ⟨mA', mn', mc', cA', cn', ck', rfl, hb9⟩
  rw [show dHow 14 ([(7 : Int)].getD 1 0) = 2 from s4, show dVal 14 ([(7 : Int)].getD 0 0) ([(7 : Int)].getD 1 0) = -1 from s5, show dSteps 14 ([(7 : Int)].getD 1 0) = 1 from s6]
  have HO9 := Lib.hid ((HO7.out.below hb8).below hb9)
  have HB9 := Lib.hid ((HB7.out.trans (hb8.mono HB7.out.size)).trans (hb9.mono (Nat.le_trans HB7.out.size hb8.size)))
  clear hb8 hb9 hV f0 f1
  go_upto_region 4 with (fail)
  obtain ⟨Wf, hWf⟩ : ∃ Wf, W9.alloc (.cells #[.int .i64 2, .int .i32 (-1), .slice mA' mn' mc', .slice cA' cn' ck', .int .i64 1] 45) = Wf := ⟨_, rfl⟩
  rw [hWf]
  have hbf : Below W9.heap.size W9 Wf := by rw [← hWf]; exact (Below.refl _ _).alloc (Nat.le_refl _) _
  have hof : Str Wf W9.heap.size 45 [.int .i64 2, .int .i32 (-1), .slice mA' mn' mc', .slice cA' cn' ck', .int .i64 1] := by rw [← hWf]; exact World.alloc_heap_new W9 _
  clear hWf
  have a0 : Wf.cell? ⟨W6.heap.size, 0, none⟩ = some (.int .i64 1) := (HO9.out.below hbf).cell 0
  have a1 : Wf.cell? ⟨W6.heap.size, 1, none⟩ = some (.int .i32 3) := (HO9.out.below hbf).cell 1
  have a4 : Wf.cell? ⟨W6.heap.size, 4, none⟩ = some (.int .i64 2) := (HO9.out.below hbf).cell 4
  have b0 : Wf.cell? ⟨W9.heap.size, 0, none⟩ = some (.int .i64 2) := hof.cell 0
  have b1 : Wf.cell? ⟨W9.heap.size, 1, none⟩ = some (.int .i32 (-1)) := hof.cell 1
  have b4 : Wf.cell? ⟨W9.heap.size, 4, none⟩ = some (.int .i64 1) := hof.cell 4
  have HBF := Lib.hid (HB9.out.trans (hbf.mono HB9.out.size))
  clear hbf hof
  go_wp2_with fail
  go_ret
  exact ⟨rfl, HBF.out⟩
end Go.Proofs.Ytcangooibfddmaa.Ic
