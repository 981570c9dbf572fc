/- Functions that are written out; the example that each law of layer 3 begins with. -/
import Derived.Test.YtdfehpcbcgbidaaUC
namespace Go.Proofs.Ytdfehpcbcgbidaa.Kc
open Go.ChangeShapes Go.WideShapes Go.ChangeAt Go.RowKit Go.Maps Go.Proofs.Ytdfehpcbcgbidaa.Mem Go.Proofs.Ytdfehpcbcgbidaa.Br Go.Proofs.Ytdfehpcbcgbidaa.Gr
set_option linter.unusedVariables false
theorem at_add0 (g k : Nat) : (⟨g, 0, none⟩ : Addr).add k = ⟨g, k, none⟩ := by cases k <;> simp [Addr.add]
/-- Structs laid one behind the other. -/
def laid (w : World) : List (List Value × TypeId) → World
  | [] => w
  | x :: l => laid (w.alloc (.cells x.1.toArray x.2)) l
theorem laid_size : ∀ (l : List (List Value × TypeId)) (w : World), (laid w l).heap.size = w.heap.size + l.length
  | [], w => rfl
  | x :: l, w => by
    show (laid (w.alloc _) l).heap.size = _
    rw [laid_size l, World.size_alloc, List.length_cons]
    omega
theorem laid_below : ∀ (l : List (List Value × TypeId)) (w : World) (B : Nat), B ≤ w.heap.size → Below B w (laid w l)
  | [], w, B, _ => Below.refl _ _
  | x :: l, w, B, hB => by
    have h : Below B w (w.alloc (.cells x.1.toArray x.2)) := (Below.refl _ _).alloc hB _
    exact h.trans (laid_below l _ B (Nat.le_trans hB h.size))
theorem laid_at : ∀ (l : List (List Value × TypeId)) (w : World) (k : Nat) (vs : List Value) (t : TypeId), l[k]? = some (vs, t) → Str (laid w l) (w.heap.size + k) t vs
  | [], w, k, vs, t, h => by cases h
  | x :: l, w, 0, vs, t, h => by
    injection h with h
    subst h
    have hb := laid_below l (w.alloc (.cells vs.toArray t)) (w.alloc (.cells vs.toArray t)).heap.size (Nat.le_refl _)
    exact Str.below (World.alloc_heap_new w _) hb
  | x :: l, w, k + 1, vs, t, h => by
    have h2 := laid_at l (w.alloc (.cells x.1.toArray x.2)) k vs t h
    rw [World.size_alloc, show w.heap.size + 1 + k = w.heap.size + (k + 1) by omega] at h2
    exact h2
/-- Things that lie one behind the other. -/
def AllAt {α : Type} (R : World → Nat → Nat → α → Prop) (w : World) (g size : Nat) : Nat → List α → Prop
  | _, [] => True
  | o, x :: l => R w g o x ∧ AllAt R w g size (o + size) l
theorem allAt_get {α : Type} {R : World → Nat → Nat → α → Prop} {w : World} {g size : Nat} : ∀ (l : List α) (o : Nat), AllAt R w g size o l → ∀ k (h : k < l.length), R w g (o + k * size) l[k]
  | x :: l, o, h, 0, _ => by rw [Nat.zero_mul]; exact h.1
  | x :: l, o, h, k + 1, hk => by
    have := allAt_get l (o + size) h.2 k (by simpa using hk)
    rw [show o + (k + 1) * size = o + size + k * size by rw [Nat.add_mul]; omega]
    exact this
theorem rowAt_lit {α : Type} {R : World → Nat → Nat → α → Prop} {w : World} {g size c n : Nat} {l : List α} (h : AllAt R w g size 0 l) (hn : n = l.length) (hc : n ≤ c ∧ c ≤ 1000) : RowAt w size R (.slice (some ⟨g, 0, none⟩) n c) l := by
  subst hn
  exact ⟨_, c, g, 0, rfl, hc.1, by unfold maxLen; omega, fun _ => rfl, allAt_get l 0 h⟩
theorem ints_lit {w : World} {g c n : Nat} {t : TypeId} {l : List Int} (h : Str w g t (l.map (Value.int .i64))) (hn : n = l.length) (hc : n ≤ c ∧ c ≤ 1000) : Ints w (.slice (some ⟨g, 0, none⟩) n c) l := by
  subst hn
  refine ⟨_, c, rfl, hc.1, by unfold maxLen; omega, fun k hk => ⟨_, rfl, ?_⟩⟩
  rw [at_add0, h.cell k, List.getElem?_map, List.getElem?_eq_getElem hk]; rfl

def inIB (x : Int) : Bool := decide (-9223372036854775808 ≤ x ∧ x ≤ 9223372036854775807)
theorem inI_of {x : Int} (h : inIB x = true) : InI x := by
  unfold inIB at h
  rw [decide_eq_true_eq] at h
  exact h
def wfB (bs : List PBlock) : Bool := (bs.all fun b => (b.phis.all fun p => inIB p.dst && p.ins.all fun i => inIB i.2) && ((b.ins.all fun i => inIB i.dst && (inIB i.two && i.args.all inIB)) && b.term.args.all inIB)) && decide (uptoP bs bs.length ≤ 1000000000000000000)
theorem wf_of {bs : List PBlock} (h : wfB bs = true) : WfP bs := by
  unfold wfB at h
  simp only [Bool.and_eq_true, List.all_eq_true, decide_eq_true_eq] at h
  obtain ⟨h1, h2⟩ := h
  exact ⟨fun x hx p hp => ⟨inI_of ((h1 x hx).1 p hp).1, fun i hi => inI_of (((h1 x hx).1 p hp).2 i hi)⟩, fun x hx i hi => ⟨inI_of ((h1 x hx).2.1 i hi).1, inI_of ((h1 x hx).2.1 i hi).2.1, fun v hv => inI_of (((h1 x hx).2.1 i hi).2.2 v hv)⟩, fun x hx v hv => inI_of ((h1 x hx).2.2 v hv), fun k hk => Nat.le_trans (uptoP_le bs bs.length k hk (Nat.le_refl _)) h2⟩
theorem blocks_keep {w w' : World} {v : Value} {bs : List PBlock} (h : BlocksAt w v bs) (hb : Below w.heap.size w w') : BlocksAt w' v bs := RowAt.kept h (fun b o x h => BlockAt.keep hb b o x h)
/-- What check.Right answers. -/
def RightSays (b : Bool) (w : World) (e : Ending) (w' : World) : Prop := e = .returned (.bool b) ∧ Below w.heap.size w w'
set_option maxRecDepth 100000 in
set_option maxHeartbeats 1000000 in
theorem right_says (w : World) (params : Int) (A : Option Addr) (b0 c : Nat) (bs : List PBlock) (hA : 0 < bs.length → A = some ⟨b0, 0, none⟩) (hbs : BlocksAt w (.slice A bs.length c) bs) (hwf : WfP bs) :
    Calls Try.prog 16 #[.agg #[.int .i64 params, .slice A bs.length c]] w (RightSays ((checkN params bs).1 == 0) w) := by
  have hf := fun w' (hb : Below w.heap.size w w') => func_any w' params A b0 c bs hA (blocks_keep hbs hb) hwf
  generalize checkN params bs = r at hf ⊢
  obtain ⟨r0, r1, r2⟩ := r
  have HF := Lib.hid hf
  clear hf hbs hwf hA
  go_enter Try.func16, Try.ntmps16
  go_wp2_with fail
  have hb : Below w.heap.size w (w.alloc (.cells #[.int .i64 params, .slice A bs.length c] 24)) := (Below.refl _ _).alloc (Nat.le_refl _) _
  refine (HF.out _ hb).mono ?_
  rintro e w2 ⟨rfl, hb2⟩
  have HB := Lib.hid (hb.trans (hb2.mono hb.size))
  clear hb hb2 HF
  go_wp2
  go_ret
  exact ⟨rfl, HB.out⟩
def shA : List PBlock := [⟨[], [⟨1, 0, 0, [], 1⟩], ⟨4, [0], [], 0⟩⟩]
theorem shA_at {w : World} {g0 g1 gB : Nat}
    (hg0 : Str w g0 36 [.int .i64 1, .int .i64 0, .int .i64 0, .slice none 0 0, .int .i32 1])
    (hg1 : Str w g1 3 [.int .i64 0])
    (hB : Str w gB 34 [.slice none 0 0, .slice (some ⟨g0, 0, none⟩) 1 1, .int .i64 4, .slice (some ⟨g1, 0, none⟩) 1 1, .slice none 0 0, .int .i32 0]) :
    BlocksAt w (.slice (some ⟨gB, 0, none⟩) 1 1) shA :=
  rowAt_lit ⟨⟨⟨_, hB.cell 0, rowAt_nil⟩, ⟨_, hB.cell 1, rowAt_lit ⟨⟨hg0.cell 0, hg0.cell 1, hg0.cell 2, ⟨_, hg0.cell 3, ints_none w⟩, hg0.cell 4⟩, trivial⟩ rfl ⟨by omega, by omega⟩⟩, hB.cell 2, ⟨_, hB.cell 3, ints_lit hg1 rfl ⟨by omega, by omega⟩⟩, ⟨_, hB.cell 4, ints_none w⟩, hB.cell 5⟩, trivial⟩ rfl ⟨by omega, by omega⟩
def shB : List PBlock := [⟨[], [], ⟨4, [0], [], 0⟩⟩]
theorem shB_at {w : World} {g0 gB : Nat}
    (hg0 : Str w g0 3 [.int .i64 0])
    (hB : Str w gB 34 [.slice none 0 0, .slice none 0 0, .int .i64 4, .slice (some ⟨g0, 0, none⟩) 1 1, .slice none 0 0, .int .i32 0]) :
    BlocksAt w (.slice (some ⟨gB, 0, none⟩) 1 1) shB :=
  rowAt_lit ⟨⟨⟨_, hB.cell 0, rowAt_nil⟩, ⟨_, hB.cell 1, rowAt_nil⟩, hB.cell 2, ⟨_, hB.cell 3, ints_lit hg0 rfl ⟨by omega, by omega⟩⟩, ⟨_, hB.cell 4, ints_none w⟩, hB.cell 5⟩, trivial⟩ rfl ⟨by omega, by omega⟩
def shC : List PBlock := [⟨[], [⟨2, 1, 0, [0, 2], 0⟩, ⟨1, 2, 0, [], 0⟩], ⟨5, [], [], 0⟩⟩]
theorem shC_at {w : World} {g0 g1 gB : Nat}
    (hg0 : Str w g0 3 [.int .i64 0, .int .i64 2])
    (hg1 : Str w g1 36 [.int .i64 2, .int .i64 1, .int .i64 0, .slice (some ⟨g0, 0, none⟩) 2 2, .int .i32 0, .int .i64 1, .int .i64 2, .int .i64 0, .slice none 0 0, .int .i32 0])
    (hB : Str w gB 34 [.slice none 0 0, .slice (some ⟨g1, 0, none⟩) 2 2, .int .i64 5, .slice none 0 0, .slice none 0 0, .int .i32 0]) :
    BlocksAt w (.slice (some ⟨gB, 0, none⟩) 1 1) shC :=
  rowAt_lit ⟨⟨⟨_, hB.cell 0, rowAt_nil⟩, ⟨_, hB.cell 1, rowAt_lit ⟨⟨hg1.cell 0, hg1.cell 1, hg1.cell 2, ⟨_, hg1.cell 3, ints_lit hg0 rfl ⟨by omega, by omega⟩⟩, hg1.cell 4⟩, ⟨hg1.cell 5, hg1.cell 6, hg1.cell 7, ⟨_, hg1.cell 8, ints_none w⟩, hg1.cell 9⟩, trivial⟩ rfl ⟨by omega, by omega⟩⟩, hB.cell 2, ⟨_, hB.cell 3, ints_none w⟩, ⟨_, hB.cell 4, ints_none w⟩, hB.cell 5⟩, trivial⟩ rfl ⟨by omega, by omega⟩
def shD : List PBlock := [⟨[], [⟨1, 1, 0, [], 0⟩, ⟨2, 2, 0, [0, 1], 0⟩], ⟨4, [2], [], 0⟩⟩]
theorem shD_at {w : World} {g0 g1 g2 gB : Nat}
    (hg0 : Str w g0 3 [.int .i64 0, .int .i64 1])
    (hg1 : Str w g1 36 [.int .i64 1, .int .i64 1, .int .i64 0, .slice none 0 0, .int .i32 0, .int .i64 2, .int .i64 2, .int .i64 0, .slice (some ⟨g0, 0, none⟩) 2 2, .int .i32 0])
    (hg2 : Str w g2 3 [.int .i64 2])
    (hB : Str w gB 34 [.slice none 0 0, .slice (some ⟨g1, 0, none⟩) 2 2, .int .i64 4, .slice (some ⟨g2, 0, none⟩) 1 1, .slice none 0 0, .int .i32 0]) :
    BlocksAt w (.slice (some ⟨gB, 0, none⟩) 1 1) shD :=
  rowAt_lit ⟨⟨⟨_, hB.cell 0, rowAt_nil⟩, ⟨_, hB.cell 1, rowAt_lit ⟨⟨hg1.cell 0, hg1.cell 1, hg1.cell 2, ⟨_, hg1.cell 3, ints_none w⟩, hg1.cell 4⟩, ⟨hg1.cell 5, hg1.cell 6, hg1.cell 7, ⟨_, hg1.cell 8, ints_lit hg0 rfl ⟨by omega, by omega⟩⟩, hg1.cell 9⟩, trivial⟩ rfl ⟨by omega, by omega⟩⟩, hB.cell 2, ⟨_, hB.cell 3, ints_lit hg2 rfl ⟨by omega, by omega⟩⟩, ⟨_, hB.cell 4, ints_none w⟩, hB.cell 5⟩, trivial⟩ rfl ⟨by omega, by omega⟩
theorem shA_check : checkN 0 shA = (0, 0, 0) := by decide +kernel
theorem shB_check : checkN 0 shB = (13, 0, 0) := by decide +kernel
theorem shC_check : checkN 1 shC = (13, 0, 0) := by decide +kernel
theorem shD_check : checkN 1 shD = (0, 0, 0) := by decide +kernel
theorem shE_check : checkN 0 [] = (14, 0, 0) := by decide +kernel
theorem shD_top : topN 1 shD = 3 := by decide +kernel
theorem shD_uses : usesN 1 shD = [1, 1, 1] := by decide +kernel
theorem shD_fold1 : foldN shD 1 = true := by decide +kernel
theorem shD_fold2 : foldN shD 2 = true := by decide +kernel
theorem shD_fold0 : foldN shD 0 = false := by decide +kernel
theorem shA_wf : WfP shA := wf_of (by decide +kernel)
theorem shB_wf : WfP shB := wf_of (by decide +kernel)
theorem shC_wf : WfP shC := wf_of (by decide +kernel)
theorem shD_wf : WfP shD := wf_of (by decide +kernel)
theorem shE_wf : WfP [] := wf_of (by decide +kernel)
/-- What one makes. -/
def OneOf (params : Int) (cells : List Value) (w : World) (e : Ending) (w' : World) : Prop :=
  ∃ g, e = .returned (.agg #[.int .i64 params, .slice (some ⟨g, 0, none⟩) 1 1]) ∧ Str w' g 34 cells ∧ w.heap.size ≤ g ∧ Below w.heap.size w w'
set_option maxRecDepth 100000 in
set_option maxHeartbeats 1000000 in
theorem one_any (w : World) (params kind imm : Int) (A A2 A3 : Option Addr) (n c n2 c2 n3 c3 : Nat) :
    Calls Try.prog 14 #[.int .i64 params, .slice A n c, .agg #[.int .i64 kind, .slice A2 n2 c2, .slice A3 n3 c3, .int .i32 imm]] w (OneOf params [.slice none 0 0, .slice A n c, .int .i64 kind, .slice A2 n2 c2, .slice A3 n3 c3, .int .i32 imm] w) := by
  go_enter Try.func14, Try.ntmps14
  go_wp2
  refine ⟨rfl, .agg #[.int .i64 params, .slice (some ⟨w.heap.size + 1 + 1, 0, none⟩) 1 1], ?_, ?_⟩
  · simp only [results]
    go_simp
  · refine ⟨w.heap.size + 1 + 1, rfl, ?_, by omega, ?_⟩
    · have h := World.alloc_heap_new ((w.alloc (.cells #[.int .i64 kind, .slice A2 n2 c2, .slice A3 n3 c3, .int .i32 imm] 30)).alloc (.cells #[.int .i64 params, .slice (some ⟨w.heap.size + 1 + 1, 0, none⟩) 1 1] 24)) (.cells #[.slice none 0 0, .slice A n c, .int .i64 kind, .slice A2 n2 c2, .slice A3 n3 c3, .int .i32 imm] 34)
      simp only [World.size_alloc] at h
      exact h
    · exact (((Below.refl _ _).alloc (Nat.le_refl _) _).alloc (by simp) _).alloc (by simp; omega) _
set_option maxRecDepth 100000 in
set_option maxHeartbeats 8000000 in
theorem shown_any (w : World) : Calls Try.prog 6 #[] w (RightSays true w) := by
  have HB0 := Lib.hid (Below.refl w.heap.size w)
  go_enter Try.func6, Try.ntmps6
  go_wp2_with fail
  obtain ⟨V10, hV10⟩ : ∃ V10, w.alloc (.cells #[.int .i64 1, .int .i64 0, .int .i64 0, .slice none 0 0, .int .i32 1] 36) = V10 := ⟨_, rfl⟩
  rw [hV10]
  have hb10 : Below w.heap.size w V10 := by rw [← hV10]; exact (Below.refl _ _).alloc (Nat.le_refl _) _
  have hgI : Str V10 w.heap.size 36 [.int .i64 1, .int .i64 0, .int .i64 0, .slice none 0 0, .int .i32 1] := by rw [← hV10]; exact World.alloc_heap_new w _
  have hzV10 : V10.heap.size = w.heap.size + 1 := by rw [← hV10]; simp
  clear hV10
  obtain ⟨V11, hV11⟩ : ∃ V11, V10.alloc (.cells #[.int .i64 0] 3) = V11 := ⟨_, rfl⟩
  rw [hV11]
  have hb11 : Below V10.heap.size V10 V11 := by rw [← hV11]; exact (Below.refl _ _).alloc (Nat.le_refl _) _
  have hgA : Str V11 V10.heap.size 3 [.int .i64 0] := by rw [← hV11]; exact World.alloc_heap_new V10 _
  have hzV11 : V11.heap.size = V10.heap.size + 1 := by rw [← hV11]; simp
  clear hV11
  have hgI := hgI.below hb11
  have HL1 := Lib.hid (show Below w.heap.size w V11 from (hb10).trans (hb11.mono (by omega)))
  rw [hzV10] at hgA
  clear hb10 hzV10 hb11 hzV11
  refine (one_any V11 0 4 0 _ _ none _ _ _ _ 0 0).mono ?_
  rintro e U1 ⟨gB1, rfl, hs1, _, hb1⟩
  have hgI := hgI.below (hb1)
  have hgA := hgA.below (hb1)
  have HA1 := Lib.hid (shA_at hgI hgA hs1)
  have HT1 := Lib.hid (HB0.out.trans ((HL1.out.mono HB0.out.size).trans (hb1.mono (Nat.le_trans HB0.out.size HL1.out.size))))
  clear hgI hgA hs1 hb1
  go_wp2_with fail
  refine (func_any U1 0 _ gB1 1 shA (fun _ => rfl) HA1.out shA_wf).mono ?_
  rintro e R1 ⟨rfl, hc1⟩
  rw [shA_check]
  have HB1 := Lib.hid (HT1.out.trans (hc1.mono HT1.out.size))
  clear hc1 HA1 HT1
  go_wp2_with fail
  obtain ⟨V20, hV20⟩ : ∃ V20, R1.alloc (.cells #[.int .i64 0] 3) = V20 := ⟨_, rfl⟩
  rw [hV20]
  have hb20 : Below R1.heap.size R1 V20 := by rw [← hV20]; exact (Below.refl _ _).alloc (Nat.le_refl _) _
  have hgA : Str V20 R1.heap.size 3 [.int .i64 0] := by rw [← hV20]; exact World.alloc_heap_new R1 _
  have hzV20 : V20.heap.size = R1.heap.size + 1 := by rw [← hV20]; simp
  clear hV20
  have HL2 := Lib.hid (show Below R1.heap.size R1 V20 from hb20)
  clear hb20 hzV20
  refine (one_any V20 0 4 0 none _ none 0 0 _ _ 0 0).mono ?_
  rintro e U2 ⟨gB2, rfl, hs2, _, hb2⟩
  have hgA := hgA.below (hb2)
  have HA2 := Lib.hid (shB_at hgA hs2)
  have HT2 := Lib.hid (HB1.out.trans ((HL2.out.mono HB1.out.size).trans (hb2.mono (Nat.le_trans HB1.out.size HL2.out.size))))
  clear hgA hs2 hb2
  go_wp2_with fail
  refine (func_any U2 0 _ gB2 1 shB (fun _ => rfl) HA2.out shB_wf).mono ?_
  rintro e R2 ⟨rfl, hc2⟩
  rw [shB_check]
  have HB2 := Lib.hid (HT2.out.trans (hc2.mono HT2.out.size))
  clear hc2 HA2 HT2
  go_wp2_with fail
  obtain ⟨V30, hV30⟩ : ∃ V30, R2.alloc (.cells #[.int .i64 0, .int .i64 2] 3) = V30 := ⟨_, rfl⟩
  rw [hV30]
  have hb30 : Below R2.heap.size R2 V30 := by rw [← hV30]; exact (Below.refl _ _).alloc (Nat.le_refl _) _
  have hgA : Str V30 R2.heap.size 3 [.int .i64 0, .int .i64 2] := by rw [← hV30]; exact World.alloc_heap_new R2 _
  have hzV30 : V30.heap.size = R2.heap.size + 1 := by rw [← hV30]; simp
  clear hV30
  obtain ⟨V31, hV31⟩ : ∃ V31, V30.alloc (.cells #[.int .i64 2, .int .i64 1, .int .i64 0, .slice (some ⟨R2.heap.size, 0, none⟩) 2 2, .int .i32 0, .int .i64 1, .int .i64 2, .int .i64 0, .slice none 0 0, .int .i32 0] 36) = V31 := ⟨_, rfl⟩
  rw [hV31]
  have hb31 : Below V30.heap.size V30 V31 := by rw [← hV31]; exact (Below.refl _ _).alloc (Nat.le_refl _) _
  have hgI : Str V31 V30.heap.size 36 [.int .i64 2, .int .i64 1, .int .i64 0, .slice (some ⟨R2.heap.size, 0, none⟩) 2 2, .int .i32 0, .int .i64 1, .int .i64 2, .int .i64 0, .slice none 0 0, .int .i32 0] := by rw [← hV31]; exact World.alloc_heap_new V30 _
  have hzV31 : V31.heap.size = V30.heap.size + 1 := by rw [← hV31]; simp
  clear hV31
  have hgA := hgA.below hb31
  have HL3 := Lib.hid (show Below R2.heap.size R2 V31 from (hb30).trans (hb31.mono (by omega)))
  rw [hzV30] at hgI
  clear hb30 hzV30 hb31 hzV31
  refine (one_any V31 1 5 0 _ none none _ _ 0 0 0 0).mono ?_
  rintro e U3 ⟨gB3, rfl, hs3, _, hb3⟩
  have hgA := hgA.below (hb3)
  have hgI := hgI.below (hb3)
  have HA3 := Lib.hid (shC_at hgA hgI hs3)
  have HT3 := Lib.hid (HB2.out.trans ((HL3.out.mono HB2.out.size).trans (hb3.mono (Nat.le_trans HB2.out.size HL3.out.size))))
  clear hgA hgI hs3 hb3
  go_wp2_with fail
  refine (func_any U3 1 _ gB3 1 shC (fun _ => rfl) HA3.out shC_wf).mono ?_
  rintro e R3 ⟨rfl, hc3⟩
  rw [shC_check]
  have HB3 := Lib.hid (HT3.out.trans (hc3.mono HT3.out.size))
  clear hc3 HA3 HT3
  go_wp2_with fail
  obtain ⟨V40, hV40⟩ : ∃ V40, R3.alloc (.cells #[.int .i64 0, .int .i64 1] 3) = V40 := ⟨_, rfl⟩
  rw [hV40]
  have hb40 : Below R3.heap.size R3 V40 := by rw [← hV40]; exact (Below.refl _ _).alloc (Nat.le_refl _) _
  have hgA : Str V40 R3.heap.size 3 [.int .i64 0, .int .i64 1] := by rw [← hV40]; exact World.alloc_heap_new R3 _
  have hzV40 : V40.heap.size = R3.heap.size + 1 := by rw [← hV40]; simp
  clear hV40
  obtain ⟨V41, hV41⟩ : ∃ V41, V40.alloc (.cells #[.int .i64 1, .int .i64 1, .int .i64 0, .slice none 0 0, .int .i32 0, .int .i64 2, .int .i64 2, .int .i64 0, .slice (some ⟨R3.heap.size, 0, none⟩) 2 2, .int .i32 0] 36) = V41 := ⟨_, rfl⟩
  rw [hV41]
  have hb41 : Below V40.heap.size V40 V41 := by rw [← hV41]; exact (Below.refl _ _).alloc (Nat.le_refl _) _
  have hgI : Str V41 V40.heap.size 36 [.int .i64 1, .int .i64 1, .int .i64 0, .slice none 0 0, .int .i32 0, .int .i64 2, .int .i64 2, .int .i64 0, .slice (some ⟨R3.heap.size, 0, none⟩) 2 2, .int .i32 0] := by rw [← hV41]; exact World.alloc_heap_new V40 _
  have hzV41 : V41.heap.size = V40.heap.size + 1 := by rw [← hV41]; simp
  clear hV41
  obtain ⟨V42, hV42⟩ : ∃ V42, V41.alloc (.cells #[.int .i64 2] 3) = V42 := ⟨_, rfl⟩
  rw [hV42]
  have hb42 : Below V41.heap.size V41 V42 := by rw [← hV42]; exact (Below.refl _ _).alloc (Nat.le_refl _) _
  have hgT : Str V42 V41.heap.size 3 [.int .i64 2] := by rw [← hV42]; exact World.alloc_heap_new V41 _
  have hzV42 : V42.heap.size = V41.heap.size + 1 := by rw [← hV42]; simp
  clear hV42
  have hgA := hgA.below hb41
  have hgA := hgA.below hb42
  have hgI := hgI.below hb42
  have HL4 := Lib.hid (show Below R3.heap.size R3 V42 from ((hb40).trans (hb41.mono (by omega))).trans (hb42.mono (by omega)))
  rw [hzV40] at hgI
  rw [hzV41, hzV40] at hgT
  clear hb40 hzV40 hb41 hzV41 hb42 hzV42
  refine (one_any V42 1 4 0 _ _ none _ _ _ _ 0 0).mono ?_
  rintro e U4 ⟨gB4, rfl, hs4, _, hb4⟩
  have hgA := hgA.below (hb4)
  have hgI := hgI.below (hb4)
  have hgT := hgT.below (hb4)
  have HA4 := Lib.hid (shD_at hgA hgI hgT hs4)
  have HT4 := Lib.hid (HB3.out.trans ((HL4.out.mono HB3.out.size).trans (hb4.mono (Nat.le_trans HB3.out.size HL4.out.size))))
  clear hgA hgI hgT hs4 hb4
  go_upto_region 5 with (fail)
  obtain ⟨X, hX⟩ : ∃ X, U4.alloc (.cells #[.int .i64 1, .slice (some ⟨gB4, 0, none⟩) 1 1] 24) = X := ⟨_, rfl⟩
  rw [hX]
  have hbX : Below U4.heap.size U4 X := by rw [← hX]; exact (Below.refl _ _).alloc (Nat.le_refl _) _
  have hsX : Str X U4.heap.size 24 [.int .i64 1, .slice (some ⟨gB4, 0, none⟩) 1 1] := by rw [← hX]; exact World.alloc_heap_new U4 _
  have hzX : X.heap.size = U4.heap.size + 1 := by rw [← hX]; simp
  clear hX
  have HBX := Lib.hid (HT4.out.trans (hbX.mono HT4.out.size))
  have HAX := Lib.hid (blocks_keep HA4.out hbX)
  have HSX := Lib.hid hsX
  clear hbX hsX HA4 HT4
  have x0 : X.cell? ⟨U4.heap.size, 0, none⟩ = some (.int .i64 1) := HSX.out.cell 0
  have x1 : X.cell? ⟨U4.heap.size, 1, none⟩ = some (.slice (some ⟨gB4, 0, none⟩) 1 1) := HSX.out.cell 1
  go_wp2_with fail
  refine (uses_any X 1 _ 1 shD HAX.out shD_wf).mono ?_
  rintro e Y0 ⟨v, rfl, hu, hy⟩
  rw [shD_uses] at hu
  obtain ⟨Au, cu, rfl⟩ := hu.form
  obtain ⟨gu, rfl⟩ := hu.block (by simp)
  have HU := Lib.hid hu
  have HY0 := Lib.hid (HBX.out.trans (hy.mono HBX.out.size))
  have HS0 := Lib.hid (HSX.out.below hy)
  have HD0 := Lib.hid (blocks_keep HAX.out hy)
  clear hu hy x0 x1
  have x0 : Y0.cell? ⟨U4.heap.size, 0, none⟩ = some (.int .i64 1) := HS0.out.cell 0
  have x1 : Y0.cell? ⟨U4.heap.size, 1, none⟩ = some (.slice (some ⟨gB4, 0, none⟩) 1 1) := HS0.out.cell 1
  go_wp2_with fail
  refine (right_says Y0 1 _ gB4 1 shD (fun _ => rfl) HD0.out shD_wf).mono ?_
  rintro e Y1 ⟨rfl, hy⟩
  rw [shD_check]
  have HY1 := Lib.hid (HY0.out.trans (hy.mono HY0.out.size))
  have HS1 := Lib.hid (HS0.out.below hy)
  have HD1 := Lib.hid (blocks_keep HD0.out hy)
  have HU := Lib.hid (own_below HU.out hy)
  clear hy x0 x1
  have x0 : Y1.cell? ⟨U4.heap.size, 0, none⟩ = some (.int .i64 1) := HS1.out.cell 0
  have x1 : Y1.cell? ⟨U4.heap.size, 1, none⟩ = some (.slice (some ⟨gB4, 0, none⟩) 1 1) := HS1.out.cell 1
  go_wp2_with fail
  refine (top_any Y1 1 _ 1 shD HD1.out shD_wf).mono ?_
  rintro e Y2 ⟨rfl, hy⟩
  rw [shD_top]
  have HY2 := Lib.hid (HY1.out.trans (hy.mono HY1.out.size))
  have HS2 := Lib.hid (HS1.out.below hy)
  have HD2 := Lib.hid (blocks_keep HD1.out hy)
  have HU := Lib.hid (own_below HU.out hy)
  clear hy x0 x1
  have x0 : Y2.cell? ⟨U4.heap.size, 0, none⟩ = some (.int .i64 1) := HS2.out.cell 0
  have x1 : Y2.cell? ⟨U4.heap.size, 1, none⟩ = some (.slice (some ⟨gB4, 0, none⟩) 1 1) := HS2.out.cell 1
  have u1 : Y2.cell? ⟨gu, 1, none⟩ = some (.int .i64 1) := (OwnInts.cell HU.out (j := 1) (by simp)).1
  go_wp2_with fail
  refine (foldable_any Y2 1 1 _ 1 shD HD2.out shD_wf).mono ?_
  rintro e Y3 ⟨rfl, hy⟩
  rw [shD_fold1]
  have HY3 := Lib.hid (HY2.out.trans (hy.mono HY2.out.size))
  have HS3 := Lib.hid (HS2.out.below hy)
  have HD3 := Lib.hid (blocks_keep HD2.out hy)
  have HU := Lib.hid (own_below HU.out hy)
  clear hy x0 x1
  have x0 : Y3.cell? ⟨U4.heap.size, 0, none⟩ = some (.int .i64 1) := HS3.out.cell 0
  have x1 : Y3.cell? ⟨U4.heap.size, 1, none⟩ = some (.slice (some ⟨gB4, 0, none⟩) 1 1) := HS3.out.cell 1
  go_wp2_with fail
  refine (foldable_any Y3 1 2 _ 1 shD HD3.out shD_wf).mono ?_
  rintro e Y4 ⟨rfl, hy⟩
  rw [shD_fold2]
  have HY4 := Lib.hid (HY3.out.trans (hy.mono HY3.out.size))
  have HS4 := Lib.hid (HS3.out.below hy)
  have HD4 := Lib.hid (blocks_keep HD3.out hy)
  have HU := Lib.hid (own_below HU.out hy)
  clear hy x0 x1
  have x0 : Y4.cell? ⟨U4.heap.size, 0, none⟩ = some (.int .i64 1) := HS4.out.cell 0
  have x1 : Y4.cell? ⟨U4.heap.size, 1, none⟩ = some (.slice (some ⟨gB4, 0, none⟩) 1 1) := HS4.out.cell 1
  go_wp2_with fail
  refine (foldable_any Y4 1 0 _ 1 shD HD4.out shD_wf).mono ?_
  rintro e Y5 ⟨rfl, hy⟩
  rw [shD_fold0]
  have HY5 := Lib.hid (HY4.out.trans (hy.mono HY4.out.size))
  clear hy x0 x1
  go_wp2_with fail
  refine (right_says Y5 0 none 0 0 [] (fun h => absurd h (by simp)) rowAt_nil shE_wf).mono ?_
  rintro e Y6 ⟨rfl, hy⟩
  rw [shE_check]
  have HY6 := Lib.hid (HY5.out.trans (hy.mono HY5.out.size))
  clear hy
  go_wp2
  go_ret
  exact ⟨rfl, HY6.out⟩
end Go.Proofs.Ytdfehpcbcgbidaa.Kc
