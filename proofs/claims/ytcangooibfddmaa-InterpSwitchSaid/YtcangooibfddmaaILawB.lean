/- Stage 4: functions that are written out: whether they fit, by reckoning; the laws' functions in memory; what their runs tell. -/
import Derived.Test.YtcangooibfddmaaILawM
namespace Go.Proofs.Ytcangooibfddmaa.Ic
open Go.ChangeShapes Go.WideShapes Go.ChangeAt Go.RowKit Go.Maps Go.Proofs.Ytcangooibfddmaa.Mem Go.Proofs.Ytcangooibfddmaa.Kc Go.Proofs.Ytcangooibfddmaa.Br Go.Proofs.Ytcangooibfddmaa.Pl Go.Proofs.Ytcangooibfddmaa.Gr
set_option linter.unusedVariables false
def inIB (x : Int) : Bool := decide (-9223372036854775808 ≤ x ∧ x ≤ 9223372036854775807)
def inWB (x : Int) : Bool := decide (-2147483648 ≤ x ∧ x ≤ 2147483647)
def phisB (phis : List PPhi) (from_ : Int) : Bool := phis.all fun p => decide (phiN phis from_ < p.ins.length) && (decide (p.ins.length ≤ 1000000) && decide (p.ins.Pairwise fun x y => x.1 ≤ y.1))
def insB (i : PIns) : Bool := mayB i.op i.args.length && (inIB i.dst && (inIB i.two && (inWB i.imm && i.args.all inIB)))
def blockB (n : Nat) (b : PBlock) : Bool := b.ins.all insB && (endB b.term.kind b.term.args.length b.term.to.length && (b.term.args.all inIB && (b.term.to.all (fun x => decide (1 ≤ x ∧ x < n)) && (decide (b.phis.length ≤ 4096) && b.phis.all fun p => inIB p.dst && p.ins.all fun x => inIB x.1 && inIB x.2))))
def zeroB (bs : List PBlock) : Bool := match bs[0]? with
  | some b => b.phis.isEmpty
  | none => true
def edgeB1 (bs : List PBlock) (a : Nat) (x : Int) : Bool := match bs[x.toNat]? with
  | some c => phisB c.phis a
  | none => true
def edgesB (bs : List PBlock) (a : Nat) : Bool := match bs[a]? with
  | some b => b.term.to.all (edgeB1 bs a)
  | none => true
def fitB (bs : List PBlock) : Bool := decide (0 < bs.length) && (bs.all (blockB bs.length) && (zeroB bs && ((List.range bs.length).all (edgesB bs) && decide (uptoP bs bs.length ≤ 1000000000000000000))))
theorem inI_of {x : Int} (h : inIB x = true) : InI x := by
  unfold inIB at h
  rw [decide_eq_true_eq] at h
  exact h
theorem inW_of {x : Int} (h : inWB x = true) : InW x := by
  unfold inWB at h
  rw [decide_eq_true_eq] at h
  exact h
theorem fit_of {bs : List PBlock} (h : fitB bs = true) : FitG bs ∧ WfP bs := by
  unfold fitB at h
  simp only [Bool.and_eq_true, decide_eq_true_eq] at h
  obtain ⟨h1, h2, h3, h4, h5⟩ := h
  have hb : ∀ b ∈ bs, (∀ i ∈ b.ins, insB i = true) ∧ endB b.term.kind b.term.args.length b.term.to.length = true ∧ (∀ x ∈ b.term.args, InI x) ∧ (∀ x ∈ b.term.to, 1 ≤ x ∧ x < bs.length) ∧ b.phis.length ≤ 4096 ∧ ∀ p ∈ b.phis, InI p.dst ∧ ∀ x ∈ p.ins, InI x.1 ∧ InI x.2 := by
    intro b hb
    have h := List.all_eq_true.1 h2 b hb
    unfold blockB at h
    simp only [Bool.and_eq_true, List.all_eq_true, decide_eq_true_eq] at h
    obtain ⟨a1, a2, a3, a4, a5, a6⟩ := h
    exact ⟨a1, a2, fun x hx => inI_of (a3 x hx), a4, a5, fun p hp => ⟨inI_of (a6 p hp).1, fun x hx => ⟨inI_of ((a6 p hp).2 x hx).1, inI_of ((a6 p hp).2 x hx).2⟩⟩⟩
  have hi : ∀ b ∈ bs, ∀ i ∈ b.ins, mayB i.op i.args.length = true ∧ InI i.dst ∧ InI i.two ∧ InW i.imm ∧ ∀ x ∈ i.args, InI x := by
    intro b hb' i hi'
    have h := (hb b hb').1 i hi'
    unfold insB at h
    simp only [Bool.and_eq_true, List.all_eq_true] at h
    obtain ⟨a1, a2, a3, a4, a5⟩ := h
    exact ⟨a1, inI_of a2, inI_of a3, inW_of a4, fun x hx => inI_of (a5 x hx)⟩
  refine ⟨{
    pos := h1
    ins := hi
    term := fun b hb' => ⟨(hb b hb').2.1, (hb b hb').2.2.1⟩
    tos := fun b hb' => (hb b hb').2.2.2.1
    phis := fun b hb' => (hb b hb').2.2.2.2
    zero := fun b hb' => by
      unfold zeroB at h3
      rw [hb'] at h3
      exact List.isEmpty_iff.1 h3
    edge := fun a b c hb' x hx hc p hp => by
      have ha : a < bs.length := (List.getElem?_eq_some_iff.1 hb').1
      have h := List.all_eq_true.1 h4 a (List.mem_range.2 ha)
      unfold edgesB at h
      rw [hb'] at h
      have h := List.all_eq_true.1 h x hx
      unfold edgeB1 at h
      rw [hc] at h
      have h := List.all_eq_true.1 h p hp
      simp only [Bool.and_eq_true, decide_eq_true_eq] at h
      exact h }, {
    phi := fun b hb' p hp => ⟨((hb b hb').2.2.2.2.2 p hp).1, fun x hx => (((hb b hb').2.2.2.2.2 p hp).2 x hx).2⟩
    ins := fun b hb' i hi' => by
      obtain ⟨a1, a2, a3, a4, a5⟩ := hi b hb' i hi'
      exact ⟨a2, a3, a5⟩
    term := fun b hb' => (hb b hb').2.2.1
    size := fun k hk => Nat.le_trans (uptoP_le bs bs.length k hk (Nat.le_refl _)) h5 }⟩
/-- What a run of such a function tells. -/
theorem run_lit (w : World) (params : Nat) (hp : params ≤ 4) (gB c : Nat) (bs : List PBlock) (hbs : BlocksAt w (.slice (some ⟨gB, 0, none⟩) bs.length c) bs) (hok : (checkN params bs).1 = 0) (hbl : bs.length ≤ 1000) (hf : fitB bs = true)
    (av mv nv : Value) (lim : Int) (hlim : lim ≤ 1000000) (al ml nl : List Int) (ha : WordsAt w av al) (hm : WordsAt w mv ml) (hnw : WordsAt w nv nl) (hw : ∀ x ∈ al, InW x) (hmw : ∀ x ∈ ml, InW x) (hn : ∀ x ∈ nl, InW x) (hnl : nl.length ≤ 1000000)
    {how val : Int} {t : Sg} (ht : runZ (actsG lim nl) bs (lim.toNat + 1) 0 0 ⟨parV al params, 0, ml.take 4096, [], 8⟩ = (how, val, t)) :
    Calls Try.prog 19 #[.agg #[.int .i64 params, .slice (some ⟨gB, 0, none⟩) bs.length c], .agg #[av, mv, nv, .int .i64 lim]] w (Tells w.heap.size how val t.steps t.mem t.calls w) := by
  refine (run_gives w params hp (some ⟨gB, 0, none⟩) gB c bs rfl hbs (fit_of hf).2 hok hbl (fit_of hf).1 av mv nv lim hlim al ml nl ha hm hnw hw hmw hn hnl).mono ?_
  intro e w' h
  have h := tells_of h
  rw [ht] at h
  exact h
theorem one_int {w : World} {g : Nat} {x : Int} (h : w.cell? ⟨g, 0, none⟩ = some (.int .i64 x)) : Ints w (.slice (some ⟨g, 0, none⟩) 1 1) [x] := by
  refine ⟨_, 1, rfl, by simp, by unfold maxLen; omega, fun k hk => ⟨_, rfl, ?_⟩⟩
  obtain rfl : k = 0 := by simp at hk; omega
  exact h
theorem loop_right : (checkN 2 loopP).1 = 0 := by decide +kernel
theorem loop_fit : fitB loopP = true := by decide +kernel
theorem swap_right : (checkN 3 swapP).1 = 0 := by decide +kernel
theorem swap_fit : fitB swapP = true := by decide +kernel
theorem loopP_at {w : World} {g0 g1 g2 g3 g4 g5 g6 g7 g8 g9 g10 g11 g12 gR3 gB : Nat}
    (hg0 : Str w g0 36 [.int .i64 1, .int .i64 2, .int .i64 0, .slice none 0 0, .int .i32 0])
    (hg1 : Str w g1 3 [.int .i64 1])
    (hg2 : Str w g2 61 [.int .i64 0, .int .i64 2, .int .i64 2, .int .i64 7])
    (hg3 : Str w g3 61 [.int .i64 0, .int .i64 1, .int .i64 2, .int .i64 8])
    (hg4 : Str w g4 64 [.int .i64 3, .slice (some ⟨g2, 0, none⟩) 2 2, .int .i64 4, .slice (some ⟨g3, 0, none⟩) 2 2])
    (hg5 : Str w g5 3 [.int .i64 3, .int .i64 0])
    (hg6 : Str w g6 36 [.int .i64 12, .int .i64 5, .int .i64 0, .slice (some ⟨g5, 0, none⟩) 2 2, .int .i32 0])
    (hg7 : Str w g7 3 [.int .i64 5])
    (hg8 : Str w g8 3 [.int .i64 2, .int .i64 3])
    (hg9 : Str w g9 3 [.int .i64 3, .int .i64 6])
    (hg10 : Str w g10 3 [.int .i64 4, .int .i64 3])
    (hg11 : Str w g11 36 [.int .i64 1, .int .i64 6, .int .i64 0, .slice none 0 0, .int .i32 1, .int .i64 2, .int .i64 7, .int .i64 0, .slice (some ⟨g9, 0, none⟩) 2 2, .int .i32 0, .int .i64 2, .int .i64 8, .int .i64 0, .slice (some ⟨g10, 0, none⟩) 2 2, .int .i32 0])
    (hg12 : Str w g12 3 [.int .i64 1])
    (hgR3 : w.cell? ⟨gR3, 0, none⟩ = some (.int .i64 4))
    (hB : Str w gB 34 [.slice none 0 0, .slice (some ⟨g0, 0, none⟩) 1 1, .int .i64 1, .slice none 0 0, .slice (some ⟨g1, 0, none⟩) 1 1, .int .i32 0, .slice (some ⟨g4, 0, none⟩) 2 2, .slice (some ⟨g6, 0, none⟩) 1 1, .int .i64 2, .slice (some ⟨g7, 0, none⟩) 1 1, .slice (some ⟨g8, 0, none⟩) 2 2, .int .i32 0, .slice none 0 0, .slice (some ⟨g11, 0, none⟩) 3 3, .int .i64 1, .slice none 0 0, .slice (some ⟨g12, 0, none⟩) 1 1, .int .i32 0, .slice none 0 0, .slice none 0 0, .int .i64 4, .slice (some ⟨gR3, 0, none⟩) 1 1, .slice none 0 0, .int .i32 0]) :
    BlocksAt w (.slice (some ⟨gB, 0, none⟩) 4 4) loopP :=
  rowAt_lit ⟨⟨⟨_, hB.cell 0, rowAt_nil⟩, ⟨_, hB.cell 1, rowAt_lit ⟨⟨hg0.cell 0, hg0.cell 1, hg0.cell 2, ⟨_, hg0.cell 3, ints_none w⟩, hg0.cell 4⟩, trivial⟩ rfl ⟨by omega, by omega⟩⟩, hB.cell 2, ⟨_, hB.cell 3, ints_none w⟩, ⟨_, hB.cell 4, ints_lit hg1 rfl ⟨by omega, by omega⟩⟩, hB.cell 5⟩,
    ⟨⟨_, hB.cell 6, rowAt_lit ⟨⟨hg4.cell 0, ⟨_, hg4.cell 1, rowAt_lit ⟨⟨hg2.cell 0, hg2.cell 1⟩, ⟨hg2.cell 2, hg2.cell 3⟩, trivial⟩ rfl ⟨by omega, by omega⟩⟩⟩, ⟨hg4.cell 2, ⟨_, hg4.cell 3, rowAt_lit ⟨⟨hg3.cell 0, hg3.cell 1⟩, ⟨hg3.cell 2, hg3.cell 3⟩, trivial⟩ rfl ⟨by omega, by omega⟩⟩⟩, trivial⟩ rfl ⟨by omega, by omega⟩⟩, ⟨_, hB.cell 7, rowAt_lit ⟨⟨hg6.cell 0, hg6.cell 1, hg6.cell 2, ⟨_, hg6.cell 3, ints_lit hg5 rfl ⟨by omega, by omega⟩⟩, hg6.cell 4⟩, trivial⟩ rfl ⟨by omega, by omega⟩⟩, hB.cell 8, ⟨_, hB.cell 9, ints_lit hg7 rfl ⟨by omega, by omega⟩⟩, ⟨_, hB.cell 10, ints_lit hg8 rfl ⟨by omega, by omega⟩⟩, hB.cell 11⟩,
    ⟨⟨_, hB.cell 12, rowAt_nil⟩, ⟨_, hB.cell 13, rowAt_lit ⟨⟨hg11.cell 0, hg11.cell 1, hg11.cell 2, ⟨_, hg11.cell 3, ints_none w⟩, hg11.cell 4⟩, ⟨hg11.cell 5, hg11.cell 6, hg11.cell 7, ⟨_, hg11.cell 8, ints_lit hg9 rfl ⟨by omega, by omega⟩⟩, hg11.cell 9⟩, ⟨hg11.cell 10, hg11.cell 11, hg11.cell 12, ⟨_, hg11.cell 13, ints_lit hg10 rfl ⟨by omega, by omega⟩⟩, hg11.cell 14⟩, trivial⟩ rfl ⟨by omega, by omega⟩⟩, hB.cell 14, ⟨_, hB.cell 15, ints_none w⟩, ⟨_, hB.cell 16, ints_lit hg12 rfl ⟨by omega, by omega⟩⟩, hB.cell 17⟩,
    ⟨⟨_, hB.cell 18, rowAt_nil⟩, ⟨_, hB.cell 19, rowAt_nil⟩, hB.cell 20, ⟨_, hB.cell 21, one_int hgR3⟩, ⟨_, hB.cell 22, ints_none w⟩, hB.cell 23⟩, trivial⟩ rfl ⟨by omega, by omega⟩
theorem swapP_at {w : World} {g0 g1 g2 g3 g4 g5 g6 g7 g8 g9 g10 g11 g12 gR3 gB : Nat}
    (hg0 : Str w g0 36 [.int .i64 1, .int .i64 3, .int .i64 0, .slice none 0 0, .int .i32 (-1)])
    (hg1 : Str w g1 3 [.int .i64 1])
    (hg2 : Str w g2 61 [.int .i64 0, .int .i64 0, .int .i64 2, .int .i64 5])
    (hg3 : Str w g3 61 [.int .i64 0, .int .i64 1, .int .i64 2, .int .i64 4])
    (hg4 : Str w g4 61 [.int .i64 0, .int .i64 2, .int .i64 2, .int .i64 7])
    (hg5 : Str w g5 64 [.int .i64 4, .slice (some ⟨g2, 0, none⟩) 2 2, .int .i64 5, .slice (some ⟨g3, 0, none⟩) 2 2, .int .i64 6, .slice (some ⟨g4, 0, none⟩) 2 2])
    (hg6 : Str w g6 3 [.int .i64 6])
    (hg7 : Str w g7 3 [.int .i64 2, .int .i64 3])
    (hg8 : Str w g8 3 [.int .i64 6, .int .i64 3])
    (hg9 : Str w g9 36 [.int .i64 2, .int .i64 7, .int .i64 0, .slice (some ⟨g8, 0, none⟩) 2 2, .int .i32 0])
    (hg10 : Str w g10 3 [.int .i64 1])
    (hg11 : Str w g11 3 [.int .i64 4, .int .i64 5])
    (hg12 : Str w g12 36 [.int .i64 17, .int .i64 8, .int .i64 0, .slice (some ⟨g11, 0, none⟩) 2 2, .int .i32 9])
    (hgR3 : w.cell? ⟨gR3, 0, none⟩ = some (.int .i64 4))
    (hB : Str w gB 34 [.slice none 0 0, .slice (some ⟨g0, 0, none⟩) 1 1, .int .i64 1, .slice none 0 0, .slice (some ⟨g1, 0, none⟩) 1 1, .int .i32 0, .slice (some ⟨g5, 0, none⟩) 3 3, .slice none 0 0, .int .i64 2, .slice (some ⟨g6, 0, none⟩) 1 1, .slice (some ⟨g7, 0, none⟩) 2 2, .int .i32 0, .slice none 0 0, .slice (some ⟨g9, 0, none⟩) 1 1, .int .i64 1, .slice none 0 0, .slice (some ⟨g10, 0, none⟩) 1 1, .int .i32 0, .slice none 0 0, .slice (some ⟨g12, 0, none⟩) 1 1, .int .i64 4, .slice (some ⟨gR3, 0, none⟩) 1 1, .slice none 0 0, .int .i32 0]) :
    BlocksAt w (.slice (some ⟨gB, 0, none⟩) 4 4) swapP :=
  rowAt_lit ⟨⟨⟨_, hB.cell 0, rowAt_nil⟩, ⟨_, hB.cell 1, rowAt_lit ⟨⟨hg0.cell 0, hg0.cell 1, hg0.cell 2, ⟨_, hg0.cell 3, ints_none w⟩, hg0.cell 4⟩, trivial⟩ rfl ⟨by omega, by omega⟩⟩, hB.cell 2, ⟨_, hB.cell 3, ints_none w⟩, ⟨_, hB.cell 4, ints_lit hg1 rfl ⟨by omega, by omega⟩⟩, hB.cell 5⟩,
    ⟨⟨_, hB.cell 6, rowAt_lit ⟨⟨hg5.cell 0, ⟨_, hg5.cell 1, rowAt_lit ⟨⟨hg2.cell 0, hg2.cell 1⟩, ⟨hg2.cell 2, hg2.cell 3⟩, trivial⟩ rfl ⟨by omega, by omega⟩⟩⟩, ⟨hg5.cell 2, ⟨_, hg5.cell 3, rowAt_lit ⟨⟨hg3.cell 0, hg3.cell 1⟩, ⟨hg3.cell 2, hg3.cell 3⟩, trivial⟩ rfl ⟨by omega, by omega⟩⟩⟩, ⟨hg5.cell 4, ⟨_, hg5.cell 5, rowAt_lit ⟨⟨hg4.cell 0, hg4.cell 1⟩, ⟨hg4.cell 2, hg4.cell 3⟩, trivial⟩ rfl ⟨by omega, by omega⟩⟩⟩, trivial⟩ rfl ⟨by omega, by omega⟩⟩, ⟨_, hB.cell 7, rowAt_nil⟩, hB.cell 8, ⟨_, hB.cell 9, ints_lit hg6 rfl ⟨by omega, by omega⟩⟩, ⟨_, hB.cell 10, ints_lit hg7 rfl ⟨by omega, by omega⟩⟩, hB.cell 11⟩,
    ⟨⟨_, hB.cell 12, rowAt_nil⟩, ⟨_, hB.cell 13, rowAt_lit ⟨⟨hg9.cell 0, hg9.cell 1, hg9.cell 2, ⟨_, hg9.cell 3, ints_lit hg8 rfl ⟨by omega, by omega⟩⟩, hg9.cell 4⟩, trivial⟩ rfl ⟨by omega, by omega⟩⟩, hB.cell 14, ⟨_, hB.cell 15, ints_none w⟩, ⟨_, hB.cell 16, ints_lit hg10 rfl ⟨by omega, by omega⟩⟩, hB.cell 17⟩,
    ⟨⟨_, hB.cell 18, rowAt_nil⟩, ⟨_, hB.cell 19, rowAt_lit ⟨⟨hg12.cell 0, hg12.cell 1, hg12.cell 2, ⟨_, hg12.cell 3, ints_lit hg11 rfl ⟨by omega, by omega⟩⟩, hg12.cell 4⟩, trivial⟩ rfl ⟨by omega, by omega⟩⟩, hB.cell 20, ⟨_, hB.cell 21, one_int hgR3⟩, ⟨_, hB.cell 22, ints_none w⟩, hB.cell 23⟩, trivial⟩ rfl ⟨by omega, by omega⟩
def LoopTells (k v lim : Int) (w : World) (en : Ending) (w' : World) : Prop :=
  ∃ how val steps mem calls, Tells w.heap.size how val steps mem calls w en w' ∧ if lim < 5 + 6 * k then how = 3 ∧ val = 0 ∧ steps = lim else how = 1 ∧ val = wrap32 (v + k * (k - 1) / 2) ∧ steps = 5 + 6 * k
theorem run_loop (w : World) (gB : Nat) (k v lim : Int) (hk : 0 ≤ k ∧ k ≤ 60) (hv : InW v) (hl : 0 ≤ lim ∧ lim ≤ 511) (hb : BlocksAt w (.slice (some ⟨gB, 0, none⟩) 4 4) loopP) (av : Value) (hav : WordsAt w av [k, v]) :
    Calls Try.prog 19 #[.agg #[.int .i64 2, .slice (some ⟨gB, 0, none⟩) 4 4], .agg #[av, .slice none 0 0, .slice none 0 0, .int .i64 lim]] w (LoopTells k v lim w) := by
  obtain ⟨t, ht, hst⟩ := told_loop k v hk hv (parV [k, v] 2) (parV0 _ _ _ (by omega)) (parV1 _ _ _ _ (by omega)) ([].take 4096) 8
  have hless := told_less (lim := lim) (lim' := 1000) (by omega) (s := ⟨parV [k, v] 2, 0, [].take 4096, [], 8⟩) (by show (0 : Int) ≤ lim; omega) (by show ((1000 : Int) - 0).toNat < 1001; omega) ht
  have e1 : (lim - (⟨parV [k, v] 2, 0, [].take 4096, [], 8⟩ : Sg).steps).toNat = lim.toNat := by show (lim - 0).toNat = _; omega
  rw [e1] at hless
  by_cases hc : lim < 5 + 6 * k
  · rw [if_neg (by omega)] at hless
    obtain ⟨u, hu, hus, _⟩ := hless
    refine (run_lit w 2 (by omega) gB 4 loopP hb loop_right (by simp [loopP]) loop_fit av (.slice none 0 0) (.slice none 0 0) lim (by omega) [k, v] [] [] hav (WordsAt.none_ w) (WordsAt.none_ w) (in2 ⟨by omega, by omega⟩ hv) (by simp) (by simp) (by simp) hu).mono ?_
    intro e w' h
    exact ⟨_, _, _, _, _, h, by rw [if_pos hc]; exact ⟨rfl, rfl, hus⟩⟩
  · rw [if_pos (by omega)] at hless
    refine (run_lit w 2 (by omega) gB 4 loopP hb loop_right (by simp [loopP]) loop_fit av (.slice none 0 0) (.slice none 0 0) lim (by omega) [k, v] [] [] hav (WordsAt.none_ w) (WordsAt.none_ w) (in2 ⟨by omega, by omega⟩ hv) (by simp) (by simp) (by simp) hless).mono ?_
    intro e w' h
    exact ⟨_, _, _, _, _, h, by rw [if_neg hc]; exact ⟨rfl, rfl, hst⟩⟩
theorem run_swap (w : World) (gB : Nat) (a b : Int) (r : Nat) (hr : r ≤ 40) (ha : InW a) (hb' : InW b) (hb : BlocksAt w (.slice (some ⟨gB, 0, none⟩) 4 4) swapP) (av : Value) (hav : WordsAt w av [a, b, (r : Int)]) :
    Calls Try.prog 19 #[.agg #[.int .i64 3, .slice (some ⟨gB, 0, none⟩) 4 4], .agg #[av, .slice none 0 0, .slice none 0 0, .int .i64 1000]] w
      (fun en w' => ∃ steps mem, Tells w.heap.size 1 (swapV r a b).1 steps mem [(9, [(swapV r a b).1, (swapV r a b).2])] w en w') := by
  obtain ⟨t, ht, hc⟩ := told_swap r a b hr (parV [a, b, (r : Int)] 3) (parV0 _ _ _ (by omega)) (parV1 _ _ _ _ (by omega)) (parV2 _ _ _ _ _ (by omega)) ([].take 4096) 8
  refine (run_lit w 3 (by omega) gB 4 swapP hb swap_right (by simp [swapP]) swap_fit av (.slice none 0 0) (.slice none 0 0) 1000 (by omega) [a, b, (r : Int)] [] [] hav (WordsAt.none_ w) (WordsAt.none_ w) (in3 ha hb' ⟨by omega, by omega⟩) (by simp) (by simp) (by simp) ht).mono ?_
  intro e w' h
  rw [hc] at h
  exact ⟨_, _, h⟩
theorem calls_right : ∀ m : Fin 13, (checkN 1 (callsP m.val)).1 = 0 := by decide +kernel
theorem calls_fit : ∀ m : Fin 13, fitB (callsP m.val) = true := by decide +kernel
theorem run_calls (w : World) (gB : Nat) (n : Nat) (hn : n ≤ 12) (v : Int) (hv : InW v) (nl : List Int) (hnl : nl.length ≤ 20) (hnw : ∀ x ∈ nl, InW x) (hb : BlocksAt w (.slice (some ⟨gB, 0, none⟩) 1 1) (callsP n)) (av nv : Value) (hav : WordsAt w av [v]) (hnv : WordsAt w nv nl) :
    Calls Try.prog 19 #[.agg #[.int .i64 1, .slice (some ⟨gB, 0, none⟩) 1 1], .agg #[av, .slice none 0 0, nv, .int .i64 99]] w
      (fun en w' => ∃ mem, Tells w.heap.size 1 (answerV nl v n) (n + 1) mem ((List.range n).map (callE nl v)) w en w') := by
  obtain ⟨t, ht, hs, hc⟩ := told_calls nl v n 99 8 hn ([].take 4096) (parV [v] 1) (parV0 _ _ _ (by omega))
  refine (run_lit w 1 (by omega) gB 1 (callsP n) hb (calls_right ⟨n, by omega⟩) (by simp [callsP]) (calls_fit ⟨n, by omega⟩) av (.slice none 0 0) nv 99 (by omega) [v] [] nl hav (WordsAt.none_ w) hnv (in1 hv) (by simp) hnw (by omega) ht).mono ?_
  intro e w' h
  rw [hc, hs] at h
  exact ⟨_, h⟩
end Go.Proofs.Ytcangooibfddmaa.Ic
