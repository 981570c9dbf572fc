/- check's makes and takes: each value is told, one behind the other. -/
import Derived.Test.YtdfehpcbcgbidaaUA
namespace Go.Proofs.Ytdfehpcbcgbidaa.Kc
open Go.ChangeShapes Go.WideShapes Go.ChangeAt Go.RowKit Go.Maps Go.Proofs.Ytdfehpcbcgbidaa.Mem Go.Proofs.Ytdfehpcbcgbidaa.Br
set_option linter.unusedVariables false
/-- What is done with what is told: state, value, where. -/
abbrev Tellf (σ : Type) := σ → Int → Int × Int → σ
/-- A function value that is told values. -/
structure Tells {σ : Type} (T : Nat) (CT : Array Value) (Z : Nat → Prop) (f : Tellf σ) (W : World) (I : σ → World → Prop) : Prop where
  enter : ∀ (args : Array Value) (w : World), (callFunc T args).run Try.prog w = .ok (.enter T args) w
  keep : ∀ s w w', I s w → Below w.heap.size w w' → I s w'
  step : ∀ s w v (b p : Int), InI v → W.heap.size ≤ w.heap.size → I s w →
    Calls Try.prog T (#[.int .i64 v, .agg #[.int .i64 b, .int .i64 p]] ++ CT) w (fun e w' => e = .returned (.tuple #[]) ∧ ButZ Z w w' ∧ I (f s v (b, p)) w')
/-- All of a row, told at one place. -/
def tellL {σ : Type} (f : Tellf σ) (vs : List Int) (at_ : Int × Int) (s : σ) : σ := vs.foldl (fun s v => f s v at_) s
theorem tellL_drop {σ : Type} (f : Tellf σ) {vs : List Int} {k : Nat} (hk : k < vs.length) (a : Int × Int) (s : σ) : tellL f (vs.drop k) a s = tellL f (vs.drop (k + 1)) a (f s vs[k] a) := by
  rw [List.drop_eq_getElem_cons hk]; rfl
/-- What makes tells of. -/
def lookM {σ : Type} (f : Tellf σ) : Looks σ where
  phi b p x s := .ok (f s x.dst (b, p))
  ins b p i s := .ok (tellL f (prodL i.op i.dst i.two) (b, p) s)
  term b p t s := .ok s
/-- What takes tells of. -/
def lookT {σ : Type} (f : Tellf σ) : Looks σ where
  phi b p x s := .ok (tellL f (x.ins.map Prod.snd) (b, p) s)
  ins b p i s := .ok (tellL f i.args (b, p) s)
  term b p t s := .ok (tellL f t.args (b, p) s)
theorem add_block (a : Addr) (n : Nat) : (a.add n).block = a.block := by unfold Addr.add; split <;> rfl
theorem ints_not {w : World} {A : Option Addr} {c : Nat} {l : List Int} {Z : Nat → Prop} (h : Ints w (.slice A l.length c) l) (hZ : ∀ g, Z g → w.heap.size ≤ g) : ∀ ad : Addr, A = some ad → 0 < l.length → ¬ Z ad.block := by
  rintro ad rfl hl hz
  obtain ⟨A', c', e, _, _, h3⟩ := h
  obtain ⟨ad', e1, h4⟩ := h3 0 hl
  injection e with e0 _ _
  rw [← e0] at e1
  injection e1 with e1
  have h5 := lt_of_cell h4
  rw [add_block] at h5
  have := hZ _ hz
  rw [e1] at this
  omega
section
variable {σ : Type}
set_option maxRecDepth 100000 in
set_option maxHeartbeats 4000000 in
theorem makes1_any (T : Nat) (CT : Array Value) (Z : Nat → Prop) (f : Tellf σ) (V : World) (I : σ → World → Prop) (hT : Tells T CT Z f V I) (w : World) (s : σ) (x : Nat) (b p dst : Int) (A : Option Addr) (n c : Nat) (hx : w.cell? ⟨x, 0, none⟩ = some (.func (.func T) #[] CT)) (hV : V.heap.size ≤ w.heap.size) (hs : I s w) (hd : InI dst) :
    Calls Try.prog 60 #[.agg #[.int .i64 b, .int .i64 p], .agg #[.int .i64 dst, .slice A n c], .pointer (some ⟨x, 0, none⟩)] w (fun e w' => e = .returned (.tuple #[]) ∧ ButZ Z w w' ∧ I (f s dst (b, p)) w') := by
  have HT := Lib.hid hT
  have HS := Lib.hid hs
  clear hT hs
  go_enter Try.func60, Try.ntmps60
  go_upto_region 1 with (fail)
  obtain ⟨W1, hW1⟩ : ∃ W1, w.alloc (.cells #[.int .i64 b, .int .i64 p] 56) = W1 := ⟨_, rfl⟩
  rw [hW1]
  have hb1 : Below w.heap.size w W1 := by rw [← hW1]; exact (Below.refl _ _).alloc (Nat.le_refl _) _
  have hs1 : Str W1 w.heap.size 56 [.int .i64 b, .int .i64 p] := by rw [← hW1]; exact World.alloc_heap_new w _
  have hzW1 : W1.heap.size = w.heap.size + 1 := by rw [← hW1]; simp
  clear hW1
  obtain ⟨W2, hW2⟩ : ∃ W2, W1.alloc (.cells #[.int .i64 dst, .slice A n c] 54) = W2 := ⟨_, rfl⟩
  rw [hW2]
  have hb2 : Below W1.heap.size W1 W2 := by rw [← hW2]; exact (Below.refl _ _).alloc (Nat.le_refl _) _
  have hs2 : Str W2 W1.heap.size 54 [.int .i64 dst, .slice A n c] := by rw [← hW2]; exact World.alloc_heap_new W1 _
  have hzW2 : W2.heap.size = W1.heap.size + 1 := by rw [← hW2]; simp
  clear hW2
  have d0 : W2.cell? ⟨w.heap.size, 0, none⟩ = some (.int .i64 b) := (hs1.below hb2).cell 0
  have d1 : W2.cell? ⟨w.heap.size, 1, none⟩ = some (.int .i64 p) := (hs1.below hb2).cell 1
  rw [hzW1] at hs2
  have e0 : W2.cell? ⟨w.heap.size + 1, 0, none⟩ = some (.int .i64 dst) := hs2.cell 0
  have HB := Lib.hid (hb1.trans (hb2.mono hb1.size))
  have x0 := cell_keep HB.out (Nat.le_refl _) hx
  have hE := HT.out.enter
  have HV := Lib.hid (show V.heap.size ≤ W2.heap.size by omega)
  clear hb1 hb2 hs1 hs2 hx
  go_wp2_with fail
  refine (HT.out.step s W2 dst b p hd HV.out (HT.out.keep _ _ _ HS.out HB.out)).mono ?_
  rintro e w' ⟨rfl, h1, h2⟩
  have H1 := Lib.hid ((ButZ.of_below HB.out).trans h1)
  have H2 := Lib.hid h2
  clear h1 h2
  go_wp2
  go_end0
  exact ⟨rfl, H1.out, H2.out⟩
set_option maxRecDepth 100000 in
set_option maxHeartbeats 4000000 in
theorem makes2_any (T : Nat) (CT : Array Value) (Z : Nat → Prop) (f : Tellf σ) (V : World) (I : σ → World → Prop) (hT : Tells T CT Z f V I) (hZ : ∀ g, Z g → g < V.heap.size) (w : World) (s : σ) (x : Nat) (b p op dst two imm : Int) (A : Option Addr) (n c : Nat) (hx : w.cell? ⟨x, 0, none⟩ = some (.func (.func T) #[] CT)) (hxz : ¬ Z x) (hV : V.heap.size ≤ w.heap.size) (hs : I s w) (hd : InI dst) (h2 : InI two) :
    Calls Try.prog 61 #[.agg #[.int .i64 b, .int .i64 p], .agg #[.int .i64 op, .int .i64 dst, .int .i64 two, .slice A n c, .int .i32 imm], .pointer (some ⟨x, 0, none⟩)] w (fun e w' => e = .returned (.tuple #[]) ∧ ButZ Z w w' ∧ I (tellL f (prodL op dst two) (b, p) s) w') := by
  have HT := Lib.hid hT
  have HS := Lib.hid hs
  have HII := Lib.hid (show ∀ v ∈ prodL op dst two, InI v by
    intro v hv; unfold prodL at hv; split at hv
    · cases hv
    · split at hv
      · simp at hv; rcases hv with rfl | rfl <;> assumption
      · simp at hv; subst hv; exact hd)
  clear hT hs hd h2
  go_enter Try.func61, Try.ntmps61
  go_upto_region 1 with (fail)
  obtain ⟨W1, hW1⟩ : ∃ W1, w.alloc (.cells #[.int .i64 b, .int .i64 p] 56) = W1 := ⟨_, rfl⟩
  rw [hW1]
  have hb1 : Below w.heap.size w W1 := by rw [← hW1]; exact (Below.refl _ _).alloc (Nat.le_refl _) _
  have hs1 : Str W1 w.heap.size 56 [.int .i64 b, .int .i64 p] := by rw [← hW1]; exact World.alloc_heap_new w _
  have hzW1 : W1.heap.size = w.heap.size + 1 := by rw [← hW1]; simp
  clear hW1
  obtain ⟨W2, hW2⟩ : ∃ W2, W1.alloc (.cells #[.int .i64 op, .int .i64 dst, .int .i64 two, .slice A n c, .int .i32 imm] 36) = W2 := ⟨_, rfl⟩
  rw [hW2]
  have hb2 : Below W1.heap.size W1 W2 := by rw [← hW2]; exact (Below.refl _ _).alloc (Nat.le_refl _) _
  have hs2 : Str W2 W1.heap.size 36 [.int .i64 op, .int .i64 dst, .int .i64 two, .slice A n c, .int .i32 imm] := by rw [← hW2]; exact World.alloc_heap_new W1 _
  have hzW2 : W2.heap.size = W1.heap.size + 1 := by rw [← hW2]; simp
  clear hW2
  have d0 : W2.cell? ⟨w.heap.size, 0, none⟩ = some (.int .i64 b) := (hs1.below hb2).cell 0
  have d1 : W2.cell? ⟨w.heap.size, 1, none⟩ = some (.int .i64 p) := (hs1.below hb2).cell 1
  rw [hzW1] at hs2
  have e0 : W2.cell? ⟨w.heap.size + 1, 0, none⟩ = some (.int .i64 op) := hs2.cell 0
  have e1 : W2.cell? ⟨w.heap.size + 1, 1, none⟩ = some (.int .i64 dst) := hs2.cell 1
  have e2 : W2.cell? ⟨w.heap.size + 1, 2, none⟩ = some (.int .i64 two) := hs2.cell 2
  have e3 : W2.cell? ⟨w.heap.size + 1, 3, none⟩ = some (.slice A n c) := hs2.cell 3
  have e4 : W2.cell? ⟨w.heap.size + 1, 4, none⟩ = some (.int .i32 imm) := hs2.cell 4
  have HB2 := Lib.hid (hb1.trans (hb2.mono hb1.size))
  have x0 := cell_keep HB2.out (Nat.le_refl _) hx
  have hzw : W2.heap.size = w.heap.size + 2 := by omega
  clear hb1 hb2 hs1 hs2 hx
  go_wp2_with fail
  refine (products_any W2 op dst two A n c imm).mono ?_
  rintro e W ⟨v, rfl, hv, hvn, hbW⟩
  have D0 := Lib.hid (cell_keep hbW (Nat.le_refl _) d0)
  have D1 := Lib.hid (cell_keep hbW (Nat.le_refl _) d1)
  have X0 := Lib.hid (cell_keep hbW (Nat.le_refl _) x0)
  have HB := Lib.hid (HB2.out.trans (hbW.mono HB2.out.size))
  have HI0 := Lib.hid (HT.out.keep _ _ _ HS.out HB.out)
  have HV := Lib.hid (show V.heap.size ≤ W.heap.size by have := HB.out.size; omega)
  have hzW : w.heap.size + 2 ≤ W.heap.size := by have := hbW.size; omega
  have hzn : ¬ Z w.heap.size := fun hz => by have := hZ _ hz; omega
  clear hbW d0 d1 x0 e0 e1 e2 e3 e4
  generalize hpl : prodL op dst two = vs at *
  have HPL := Lib.hid hpl
  clear hpl
  obtain ⟨A', c', rfl, hv1, hv2, hv3⟩ := hv
  unfold maxLen at hv2
  have HVV := Lib.hid hv3
  have HNZ := Lib.hid (show ∀ ad : Addr, A' = some ad → ¬ Z ad.block by
    rintro ⟨g, o, e⟩ rfl hz
    have h1 := hvn g o e _ _ rfl
    have h2 := hZ _ hz
    change g < _ at h2
    omega)
  clear hv3 hvn
  go_wp2_with fail
  go_loopw [6, 10] (fun _ i wr => ∃ (k : Nat) (s1 : σ), k ≤ vs.length ∧ i = .int .i64 k ∧ ButZ Z W wr ∧ I s1 wr ∧ tellL f (vs.drop k) (b, p) s1 = tellL f vs (b, p) s) (fun _ i _ => vs.length - (intOf i).toNat)
  case atStart => exact ⟨0, s, by omega, rfl, ButZ.refl _ _, HI0.out, by rw [List.drop_zero]⟩
  case round =>
    obtain ⟨k, s1, hk, rfl, hbt, hi, hsq⟩ := hrel
    obtain ⟨wo, rfl⟩ : ∃ wo : World, wo = wr := ⟨_, rfl⟩
    have HBT := Lib.hid hbt
    have HI := Lib.hid hi
    have HSQ := Lib.hid hsq
    clear hbt hi hsq
    by_cases hlt : k < vs.length
    · have d0 := HBT.out.cell D0.out hzn
      have d1 := HBT.out.cell D1.out hzn
      have x0 := HBT.out.cell X0.out hxz
      obtain ⟨ad, rfl, hy0⟩ := HVV.out k hlt
      have hy := HBT.out.cell hy0 (by rw [add_block]; exact HNZ.out ad rfl)
      clear hy0
      have HTL := Lib.hid (tellL_drop f hlt (b, p) s1)
      have hvi := HII.out _ (List.getElem_mem hlt)
      generalize vs[k] = v at *
      have hE := HT.out.enter
      have HVo := Lib.hid (show V.heap.size ≤ wo.heap.size by have := HBT.out.size; have := HV.out; omega)
      go_wp2_with fail
      refine (HT.out.step s1 wo v b p hvi HVo.out HI.out).mono ?_
      rintro e w' ⟨rfl, h1, h2⟩
      have H1 := Lib.hid (HBT.out.trans h1)
      have H2 := Lib.hid h2
      clear h1 h2
      go_wp2
      go_roundw
      case rel => exact ⟨k + 1, _, by omega, by go_num, H1.out, H2.out, by rw [← HTL.out]; exact HSQ.out⟩
      case measure => simp [intOf]; omega
    · obtain rfl : k = vs.length := by omega
      have HF := Lib.hid (show s1 = tellL f vs (b, p) s by rw [← HSQ.out, List.drop_length]; rfl)
      go_wp2
      go_end0
      rw [HPL.out, ← HF.out]
      exact ⟨rfl, (ButZ.of_below HB.out).trans HBT.out, HI.out⟩
set_option maxRecDepth 100000 in
set_option maxHeartbeats 4000000 in
theorem takes1_any (T : Nat) (CT : Array Value) (Z : Nat → Prop) (f : Tellf σ) (V : World) (I : σ → World → Prop) (hT : Tells T CT Z f V I) (hZ : ∀ g, Z g → g < V.heap.size) (w : World) (s : σ) (x : Nat) (b p : Int) (A : Option Addr) (c : Nat) (vs : List Int) (hx : w.cell? ⟨x, 0, none⟩ = some (.func (.func T) #[] CT)) (hxz : ¬ Z x) (hV : V.heap.size ≤ w.heap.size) (hs : I s w)
    (hv : Ints w (.slice A vs.length c) vs) (hn : ∀ ad : Addr, A = some ad → 0 < vs.length → ¬ Z ad.block) (hi : ∀ v ∈ vs, InI v) :
    Calls Try.prog 70 #[.agg #[.int .i64 b, .int .i64 p], .slice A vs.length c, .pointer (some ⟨x, 0, none⟩)] w (fun e w' => e = .returned (.tuple #[]) ∧ ButZ Z w w' ∧ I (tellL f vs (b, p) s) w') := by
  have HT := Lib.hid hT
  have HS := Lib.hid hs
  have HII := Lib.hid hi
  obtain ⟨A', c', e, hv1, hv2, hv3⟩ := hv
  injection e with e1 _ e3
  subst e1 e3
  unfold maxLen at hv2
  have HVV := Lib.hid hv3
  have HNZ := Lib.hid hn
  clear hT hs hi hv3 hn
  go_enter Try.func70, Try.ntmps70
  go_upto_region 1 with (fail)
  obtain ⟨W, hW⟩ : ∃ W, w.alloc (.cells #[.int .i64 b, .int .i64 p] 56) = W := ⟨_, rfl⟩
  rw [hW]
  have hb1 : Below w.heap.size w W := by rw [← hW]; exact (Below.refl _ _).alloc (Nat.le_refl _) _
  have hs1 : Str W w.heap.size 56 [.int .i64 b, .int .i64 p] := by rw [← hW]; exact World.alloc_heap_new w _
  have hzW : W.heap.size = w.heap.size + 1 := by rw [← hW]; simp
  clear hW
  have D0 := Lib.hid (show W.cell? ⟨w.heap.size, 0, none⟩ = some (.int .i64 b) from hs1.cell 0)
  have D1 := Lib.hid (show W.cell? ⟨w.heap.size, 1, none⟩ = some (.int .i64 p) from hs1.cell 1)
  have HB := Lib.hid hb1
  have X0 := Lib.hid (cell_keep HB.out (Nat.le_refl _) hx)
  have HI0 := Lib.hid (HT.out.keep _ _ _ HS.out HB.out)
  have HV := Lib.hid (show V.heap.size ≤ W.heap.size by have := HB.out.size; omega)
  have hzW : w.heap.size + 1 ≤ W.heap.size := by omega
  have hzn : ¬ Z w.heap.size := fun hz => by have := hZ _ hz; omega
  clear hb1 hs1 hx
  go_wp2_with fail
  go_loopw [6, 9] (fun _ i wr => ∃ (k : Nat) (s1 : σ), k ≤ vs.length ∧ i = .int .i64 k ∧ ButZ Z W wr ∧ I s1 wr ∧ tellL f (vs.drop k) (b, p) s1 = tellL f vs (b, p) s) (fun _ i _ => vs.length - (intOf i).toNat)
  case atStart => exact ⟨0, s, by omega, rfl, ButZ.refl _ _, HI0.out, by rw [List.drop_zero]⟩
  case round =>
    obtain ⟨k, s1, hk, rfl, hbt, hi, hsq⟩ := hrel
    obtain ⟨wo, rfl⟩ : ∃ wo : World, wo = wr := ⟨_, rfl⟩
    have HBT := Lib.hid hbt
    have HI := Lib.hid hi
    have HSQ := Lib.hid hsq
    clear hbt hi hsq
    by_cases hlt : k < vs.length
    · have d0 := HBT.out.cell D0.out hzn
      have d1 := HBT.out.cell D1.out hzn
      have x0 := HBT.out.cell X0.out hxz
      obtain ⟨ad, rfl, hy0⟩ := HVV.out k hlt
      have hy := HBT.out.cell (cell_keep HB.out (Nat.le_refl _) hy0) (by rw [add_block]; exact HNZ.out ad rfl (by omega))
      clear hy0
      have HTL := Lib.hid (tellL_drop f hlt (b, p) s1)
      have hvi := HII.out _ (List.getElem_mem hlt)
      generalize vs[k] = v at *
      have hE := HT.out.enter
      have HVo := Lib.hid (show V.heap.size ≤ wo.heap.size by have := HBT.out.size; have := HV.out; omega)
      go_wp2_with fail
      refine (HT.out.step s1 wo v b p hvi HVo.out HI.out).mono ?_
      rintro e w' ⟨rfl, h1, h2⟩
      have H1 := Lib.hid (HBT.out.trans h1)
      have H2 := Lib.hid h2
      clear h1 h2
      go_wp2
      go_roundw
      case rel => exact ⟨k + 1, _, by omega, by go_num, H1.out, H2.out, by rw [← HTL.out]; exact HSQ.out⟩
      case measure => simp [intOf]; omega
    · obtain rfl : k = vs.length := by omega
      have HF := Lib.hid (show s1 = tellL f vs (b, p) s by rw [← HSQ.out, List.drop_length]; rfl)
      go_wp2
      go_end0
      rw [← HF.out]
      exact ⟨rfl, (ButZ.of_below HB.out).trans HBT.out, HI.out⟩
set_option maxRecDepth 100000 in
set_option maxHeartbeats 4000000 in
theorem takes2_any (T : Nat) (CT : Array Value) (Z : Nat → Prop) (f : Tellf σ) (V : World) (I : σ → World → Prop) (hT : Tells T CT Z f V I) (w0 w : World) (hZ : ∀ g, Z g → w0.heap.size ≤ g ∧ g < V.heap.size) (s : σ) (x : Nat) (b p dst : Int) (A : Option Addr) (c : Nat) (l : List (Int × Int)) (hx : w.cell? ⟨x, 0, none⟩ = some (.func (.func T) #[] CT)) (hxz : ¬ Z x) (hV : V.heap.size ≤ w.heap.size) (hs : I s w)
    (hb0 : Below w0.heap.size w0 w) (hv : RowAt w0 2 InAt (.slice A l.length c) l) (hi : ∀ i ∈ l, InI i.2) :
    Calls Try.prog 71 #[.agg #[.int .i64 b, .int .i64 p], .agg #[.int .i64 dst, .slice A l.length c], .pointer (some ⟨x, 0, none⟩)] w (fun e w' => e = .returned (.tuple #[]) ∧ ButZ Z w w' ∧ I (tellL f (l.map Prod.snd) (b, p) s) w') := by
  have HT := Lib.hid hT
  have HS := Lib.hid hs
  have HB0 := Lib.hid hb0
  have HII := Lib.hid (show ∀ v ∈ l.map Prod.snd, InI v by
    intro v hv; obtain ⟨i, hi1, rfl⟩ := List.mem_map.1 hv; exact hi i hi1)
  obtain ⟨A', c', bB, oB, e, hv1, hv2, hv3, hv4⟩ := hv
  injection e with e1 _ e3
  subst e1 e3
  unfold maxLen at hv2
  have HA := Lib.hid hv3
  have HVV := Lib.hid hv4
  clear hT hs hi hv3 hv4 hb0
  go_enter Try.func71, Try.ntmps71
  go_upto_region 1 with (fail)
  obtain ⟨W1, hW1⟩ : ∃ W1, w.alloc (.cells #[.int .i64 b, .int .i64 p] 56) = W1 := ⟨_, rfl⟩
  rw [hW1]
  have hb1 : Below w.heap.size w W1 := by rw [← hW1]; exact (Below.refl _ _).alloc (Nat.le_refl _) _
  have hs1 : Str W1 w.heap.size 56 [.int .i64 b, .int .i64 p] := by rw [← hW1]; exact World.alloc_heap_new w _
  have hzW1 : W1.heap.size = w.heap.size + 1 := by rw [← hW1]; simp
  clear hW1
  obtain ⟨W, hW⟩ : ∃ W, W1.alloc (.cells #[.int .i64 dst, .slice A l.length c] 54) = W := ⟨_, rfl⟩
  rw [hW]
  have hb2 : Below W1.heap.size W1 W := by rw [← hW]; exact (Below.refl _ _).alloc (Nat.le_refl _) _
  have hs2 : Str W W1.heap.size 54 [.int .i64 dst, .slice A l.length c] := by rw [← hW]; exact World.alloc_heap_new W1 _
  have hzW : W.heap.size = W1.heap.size + 1 := by rw [← hW]; simp
  clear hW
  have D0 := Lib.hid (show W.cell? ⟨w.heap.size, 0, none⟩ = some (.int .i64 b) from (hs1.below hb2).cell 0)
  have D1 := Lib.hid (show W.cell? ⟨w.heap.size, 1, none⟩ = some (.int .i64 p) from (hs1.below hb2).cell 1)
  rw [hzW1] at hs2
  have e1 : W.cell? ⟨w.heap.size + 1, 1, none⟩ = some (.slice A l.length c) := hs2.cell 1
  have HB := Lib.hid (hb1.trans (hb2.mono hb1.size))
  have X0 := Lib.hid (cell_keep HB.out (Nat.le_refl _) hx)
  have HI0 := Lib.hid (HT.out.keep _ _ _ HS.out HB.out)
  have HV := Lib.hid (show V.heap.size ≤ W.heap.size by have := HB.out.size; omega)
  have hzW' : w.heap.size + 2 ≤ W.heap.size := by omega
  have hzn : ¬ Z w.heap.size := fun hz => by have := hZ _ hz; omega
  clear hb1 hs1 hb2 hs2 hx
  go_wp2_with fail
  clear e1
  go_loopw [6, 10] (fun _ i wr => ∃ (k : Nat) (s1 : σ), k ≤ l.length ∧ i = .int .i64 k ∧ ButZ Z W wr ∧ I s1 wr ∧ tellL f ((l.map Prod.snd).drop k) (b, p) s1 = tellL f (l.map Prod.snd) (b, p) s) (fun _ i _ => l.length - (intOf i).toNat)
  case atStart => exact ⟨0, s, by omega, rfl, ButZ.refl _ _, HI0.out, by rw [List.drop_zero]⟩
  case round =>
    obtain ⟨k, s1, hk, rfl, hbt, hi, hsq⟩ := hrel
    obtain ⟨wo, rfl⟩ : ∃ wo : World, wo = wr := ⟨_, rfl⟩
    have HBT := Lib.hid hbt
    have HI := Lib.hid hi
    have HSQ := Lib.hid hsq
    clear hbt hi hsq
    by_cases hlt : k < l.length
    · have d0 := HBT.out.cell D0.out hzn
      have d1 := HBT.out.cell D1.out hzn
      have x0 := HBT.out.cell X0.out hxz
      have e1 := HA.out (by omega)
      subst e1
      obtain ⟨y0, y1⟩ := HVV.out k hlt
      have HBq := Lib.hid (HB0.out.trans ((HB.out.mono HB0.out.size).trans (HBT.out.below hZ (Nat.le_trans HB0.out.size HB.out.size))))
      have y0 := cell_keep HBq.out (Nat.le_refl _) y0
      have y1 := cell_keep HBq.out (Nat.le_refl _) y1
      have HTL := tellL_drop (vs := l.map Prod.snd) f (by rw [List.length_map]; exact hlt) (b, p) s1
      have hvi := HII.out _ (List.getElem_mem (show k < (l.map Prod.snd).length by rw [List.length_map]; exact hlt))
      have HBV := Lib.hid (show Below wo.heap.size wo (wo.alloc (.cells #[.int .i64 l[k].1, .int .i64 l[k].2] 72)) from (Below.refl _ _).alloc (Nat.le_refl _) _)
      rw [List.getElem_map] at HTL hvi
      have HTL := Lib.hid HTL
      generalize l[k] = i at *
      have hE := HT.out.enter
      have HVo := Lib.hid (show V.heap.size ≤ wo.heap.size by have := HBT.out.size; have := HV.out; omega)
      go_upto_region 4 with (fail)
      obtain ⟨Wa, hWa⟩ : ∃ Wa, wo.alloc (.cells #[.int .i64 i.1, .int .i64 i.2] 72) = Wa := ⟨_, rfl⟩
      rw [hWa]
      rw [hWa] at HBV
      have hsa : Str Wa wo.heap.size 72 [.int .i64 i.1, .int .i64 i.2] := by rw [← hWa]; exact World.alloc_heap_new wo _
      have a1 : Wa.cell? ⟨wo.heap.size, 1, none⟩ = some (.int .i64 i.2) := hsa.cell 1
      have d0 := cell_keep HBV.out (Nat.le_refl _) d0
      have d1 := cell_keep HBV.out (Nat.le_refl _) d1
      have x0 := cell_keep HBV.out (Nat.le_refl _) x0
      clear hWa hsa
      go_wp2_with fail
      refine (HT.out.step s1 Wa i.2 b p hvi (Nat.le_trans HVo.out HBV.out.size) (HT.out.keep _ _ _ HI.out HBV.out)).mono ?_
      rintro e w' ⟨rfl, h1, h2⟩
      have H1 := Lib.hid ((HBT.out.trans (ButZ.of_below HBV.out)).trans h1)
      have H2 := Lib.hid h2
      clear h1 h2
      go_wp2
      go_roundw
      case rel => exact ⟨k + 1, _, by omega, by go_num, H1.out, H2.out, by rw [← HTL.out]; exact HSQ.out⟩
      case measure => simp [intOf]; omega
    · obtain rfl : k = l.length := by omega
      have HF := Lib.hid (show s1 = tellL f (l.map Prod.snd) (b, p) s by rw [← HSQ.out, ← List.length_map (f := Prod.snd), List.drop_length]; rfl)
      go_wp2
      go_end0
      rw [← HF.out]
      exact ⟨rfl, (ButZ.of_below HB.out).trans HBT.out, HI.out⟩
set_option maxRecDepth 100000 in
set_option maxHeartbeats 4000000 in
theorem takes3_any (T : Nat) (CT : Array Value) (Z : Nat → Prop) (f : Tellf σ) (V : World) (I : σ → World → Prop) (hT : Tells T CT Z f V I) (w0 w : World) (hZ : ∀ g, Z g → w0.heap.size ≤ g ∧ g < V.heap.size) (s : σ) (x y : Nat) (b p op dst two imm : Int) (A : Option Addr) (c : Nat) (vs : List Int) (hy : w.cell? ⟨y, 0, none⟩ = some (.func (.func 70) #[] #[.pointer (some ⟨x, 0, none⟩)])) (hx : w.cell? ⟨x, 0, none⟩ = some (.func (.func T) #[] CT)) (hxz : ¬ Z x) (hV : V.heap.size ≤ w.heap.size) (hs : I s w)
    (hb0 : Below w0.heap.size w0 w) (hv : Ints w0 (.slice A vs.length c) vs) (hi : ∀ v ∈ vs, InI v) :
    Calls Try.prog 72 #[.agg #[.int .i64 b, .int .i64 p], .agg #[.int .i64 op, .int .i64 dst, .int .i64 two, .slice A vs.length c, .int .i32 imm], .pointer (some ⟨y, 0, none⟩)] w (fun e w' => e = .returned (.tuple #[]) ∧ ButZ Z w w' ∧ I (tellL f vs (b, p) s) w') := by
  have HT := Lib.hid hT
  have HS := Lib.hid hs
  have HII := Lib.hid hi
  have HB0 := Lib.hid hb0
  have HV := Lib.hid hv
  clear hT hs hi hv hb0
  go_enter Try.func72, Try.ntmps72
  go_upto_region 1 with (fail)
  obtain ⟨W1, hW1⟩ : ∃ W1, w.alloc (.cells #[.int .i64 b, .int .i64 p] 56) = W1 := ⟨_, rfl⟩
  rw [hW1]
  have hb1 : Below w.heap.size w W1 := by rw [← hW1]; exact (Below.refl _ _).alloc (Nat.le_refl _) _
  have hs1 : Str W1 w.heap.size 56 [.int .i64 b, .int .i64 p] := by rw [← hW1]; exact World.alloc_heap_new w _
  have hzW1 : W1.heap.size = w.heap.size + 1 := by rw [← hW1]; simp
  clear hW1
  obtain ⟨W, hW⟩ : ∃ W, W1.alloc (.cells #[.int .i64 op, .int .i64 dst, .int .i64 two, .slice A vs.length c, .int .i32 imm] 36) = W := ⟨_, rfl⟩
  rw [hW]
  have hb2 : Below W1.heap.size W1 W := by rw [← hW]; exact (Below.refl _ _).alloc (Nat.le_refl _) _
  have hs2 : Str W W1.heap.size 36 [.int .i64 op, .int .i64 dst, .int .i64 two, .slice A vs.length c, .int .i32 imm] := by rw [← hW]; exact World.alloc_heap_new W1 _
  have hzW : W.heap.size = W1.heap.size + 1 := by rw [← hW]; simp
  clear hW
  have d0 : W.cell? ⟨w.heap.size, 0, none⟩ = some (.int .i64 b) := (hs1.below hb2).cell 0
  have d1 : W.cell? ⟨w.heap.size, 1, none⟩ = some (.int .i64 p) := (hs1.below hb2).cell 1
  rw [hzW1] at hs2
  have e1 : W.cell? ⟨w.heap.size + 1, 3, none⟩ = some (.slice A vs.length c) := hs2.cell 3
  have HB := Lib.hid (hb1.trans (hb2.mono hb1.size))
  have x0 := cell_keep HB.out (Nat.le_refl _) hx
  have y0 := cell_keep HB.out (Nat.le_refl _) hy
  have HI0 := Lib.hid (HT.out.keep _ _ _ HS.out HB.out)
  have hVW : V.heap.size ≤ W.heap.size := by have := HB.out.size; omega
  have HVW := Lib.hid (HV.out.keep (HB0.out.trans (HB.out.mono HB0.out.size)))
  clear hb1 hs1 hb2 hs2 hx hy
  have hE : ∀ (args : Array Value) (w : World), (callFunc 70 args).run Try.prog w = .ok (.enter 70 args) w := fun args w => by kernel_rfl
  go_wp2_with fail
  refine (takes1_any T CT Z f V I HT.out (fun g hg => (hZ g hg).2) W s x b p A c vs x0 hxz hVW HI0.out HVW.out (ints_not HV.out (fun g hg => (hZ g hg).1)) HII.out).mono ?_
  rintro e w' ⟨rfl, h1, h2⟩
  have H1 := Lib.hid ((ButZ.of_below HB.out).trans h1)
  have H2 := Lib.hid h2
  clear h1 h2
  go_wp2
  go_end0
  exact ⟨rfl, H1.out, H2.out⟩
set_option maxRecDepth 100000 in
set_option maxHeartbeats 4000000 in
theorem takes4_any (T : Nat) (CT : Array Value) (Z : Nat → Prop) (f : Tellf σ) (V : World) (I : σ → World → Prop) (hT : Tells T CT Z f V I) (w0 w : World) (hZ : ∀ g, Z g → w0.heap.size ≤ g ∧ g < V.heap.size) (s : σ) (x y : Nat) (b p op imm : Int) (A : Option Addr) (c : Nat) (vs : List Int) (A2 : Option Addr) (n2 c2 : Nat) (hy : w.cell? ⟨y, 0, none⟩ = some (.func (.func 70) #[] #[.pointer (some ⟨x, 0, none⟩)])) (hx : w.cell? ⟨x, 0, none⟩ = some (.func (.func T) #[] CT)) (hxz : ¬ Z x) (hV : V.heap.size ≤ w.heap.size) (hs : I s w)
    (hb0 : Below w0.heap.size w0 w) (hv : Ints w0 (.slice A vs.length c) vs) (hi : ∀ v ∈ vs, InI v) :
    Calls Try.prog 73 #[.agg #[.int .i64 b, .int .i64 p], .agg #[.int .i64 op, .slice A vs.length c, .slice A2 n2 c2, .int .i32 imm], .pointer (some ⟨y, 0, none⟩)] w (fun e w' => e = .returned (.tuple #[]) ∧ ButZ Z w w' ∧ I (tellL f vs (b, p) s) w') := by
  have HT := Lib.hid hT
  have HS := Lib.hid hs
  have HII := Lib.hid hi
  have HB0 := Lib.hid hb0
  have HV := Lib.hid hv
  clear hT hs hi hv hb0
  go_enter Try.func73, Try.ntmps73
  go_upto_region 1 with (fail)
  obtain ⟨W1, hW1⟩ : ∃ W1, w.alloc (.cells #[.int .i64 b, .int .i64 p] 56) = W1 := ⟨_, rfl⟩
  rw [hW1]
  have hb1 : Below w.heap.size w W1 := by rw [← hW1]; exact (Below.refl _ _).alloc (Nat.le_refl _) _
  have hs1 : Str W1 w.heap.size 56 [.int .i64 b, .int .i64 p] := by rw [← hW1]; exact World.alloc_heap_new w _
  have hzW1 : W1.heap.size = w.heap.size + 1 := by rw [← hW1]; simp
  clear hW1
  obtain ⟨W, hW⟩ : ∃ W, W1.alloc (.cells #[.int .i64 op, .slice A vs.length c, .slice A2 n2 c2, .int .i32 imm] 30) = W := ⟨_, rfl⟩
  rw [hW]
  have hb2 : Below W1.heap.size W1 W := by rw [← hW]; exact (Below.refl _ _).alloc (Nat.le_refl _) _
  have hs2 : Str W W1.heap.size 30 [.int .i64 op, .slice A vs.length c, .slice A2 n2 c2, .int .i32 imm] := by rw [← hW]; exact World.alloc_heap_new W1 _
  have hzW : W.heap.size = W1.heap.size + 1 := by rw [← hW]; simp
  clear hW
  have d0 : W.cell? ⟨w.heap.size, 0, none⟩ = some (.int .i64 b) := (hs1.below hb2).cell 0
  have d1 : W.cell? ⟨w.heap.size, 1, none⟩ = some (.int .i64 p) := (hs1.below hb2).cell 1
  rw [hzW1] at hs2
  have e1 : W.cell? ⟨w.heap.size + 1, 1, none⟩ = some (.slice A vs.length c) := hs2.cell 1
  have HB := Lib.hid (hb1.trans (hb2.mono hb1.size))
  have x0 := cell_keep HB.out (Nat.le_refl _) hx
  have y0 := cell_keep HB.out (Nat.le_refl _) hy
  have HI0 := Lib.hid (HT.out.keep _ _ _ HS.out HB.out)
  have hVW : V.heap.size ≤ W.heap.size := by have := HB.out.size; omega
  have HVW := Lib.hid (HV.out.keep (HB0.out.trans (HB.out.mono HB0.out.size)))
  clear hb1 hs1 hb2 hs2 hx hy
  have hE : ∀ (args : Array Value) (w : World), (callFunc 70 args).run Try.prog w = .ok (.enter 70 args) w := fun args w => by kernel_rfl
  go_wp2_with fail
  refine (takes1_any T CT Z f V I HT.out (fun g hg => (hZ g hg).2) W s x b p A c vs x0 hxz hVW HI0.out HVW.out (ints_not HV.out (fun g hg => (hZ g hg).1)) HII.out).mono ?_
  rintro e w' ⟨rfl, h1, h2⟩
  have H1 := Lib.hid ((ButZ.of_below HB.out).trans h1)
  have H2 := Lib.hid h2
  clear h1 h2
  go_wp2
  go_end0
  exact ⟨rfl, H1.out, H2.out⟩
end
theorem appd0 (x y : Value) : #[x, y] ++ (#[] : Array Value) = #[x, y] := by simp
theorem appd1 (x y z : Value) : #[x, y] ++ #[z] = #[x, y, z] := by simp
theorem appd3 (x y a b c : Value) : #[x, y] ++ #[a, b, c] = #[x, y, a, b, c] := by simp
def outE {σ : Type} (d : σ) : Except Fault σ → σ
  | .ok s => s
  | .error _ => d
theorem seqE_ok {σ α : Type} {h : Nat → α → σ → Except Fault σ} (hh : ∀ k x s, ∃ s', h k x s = .ok s') : ∀ (l : List α) (k : Nat) (s : σ), ∃ s', seqE h k l s = .ok s'
  | [], k, s => ⟨s, rfl⟩
  | x :: l, k, s => by
    obtain ⟨s1, h1⟩ := hh k x s
    obtain ⟨s2, h2⟩ := seqE_ok hh l (k + 1) s1
    exact ⟨s2, by unfold seqE; rw [h1]; exact h2⟩
/-- Nothing is ever denied. -/
def Mild {σ : Type} (L : Looks σ) : Prop := (∀ b p x s, ∃ s', L.phi b p x s = .ok s') ∧ (∀ b p x s, ∃ s', L.ins b p x s = .ok s') ∧ ∀ b p x s, ∃ s', L.term b p x s = .ok s'
theorem overE_ok {σ : Type} {L : Looks σ} (h : Mild L) (bs : List PBlock) (s : σ) : ∃ s', overE L bs s = .ok s' := by
  refine seqE_ok (fun k x s => ?_) bs 0 s
  obtain ⟨s1, h1⟩ := seqE_ok (h := fun n p => L.phi (k : Int) (-1 - (n : Int)) p) (fun n p s => h.1 _ _ _ _) x.phis 0 s
  obtain ⟨s2, h2⟩ := seqE_ok (h := fun n i => L.ins (k : Int) (n : Int) i) (fun n p s => h.2.1 _ _ _ _) x.ins 0 s1
  obtain ⟨s3, h3⟩ := h.2.2 (k : Int) (x.ins.length : Int) x.term s2
  exact ⟨s3, by unfold blockE; rw [h1]; dsimp only; rw [h2]; exact h3⟩
theorem mildM {σ : Type} (f : Tellf σ) : Mild (lookM f) := ⟨fun b p x s => ⟨_, rfl⟩, fun b p x s => ⟨_, rfl⟩, fun b p x s => ⟨_, rfl⟩⟩
theorem mildT {σ : Type} (f : Tellf σ) : Mild (lookT f) := ⟨fun b p x s => ⟨_, rfl⟩, fun b p x s => ⟨_, rfl⟩, fun b p x s => ⟨_, rfl⟩⟩
/-- What comes of all that is made, and of all that is taken. -/
def madeS {σ : Type} (f : Tellf σ) (bs : List PBlock) (s : σ) : σ := outE s (overE (lookM f) bs s)
def takenS {σ : Type} (f : Tellf σ) (bs : List PBlock) (s : σ) : σ := outE s (overE (lookT f) bs s)
theorem overM {σ : Type} (f : Tellf σ) (bs : List PBlock) (s : σ) : overE (lookM f) bs s = .ok (madeS f bs s) := by
  obtain ⟨s', h⟩ := overE_ok (mildM f) bs s
  unfold madeS; rw [h]; rfl
theorem overT {σ : Type} (f : Tellf σ) (bs : List PBlock) (s : σ) : overE (lookT f) bs s = .ok (takenS f bs s) := by
  obtain ⟨s', h⟩ := overE_ok (mildT f) bs s
  unfold takenS; rw [h]; rfl
section
variable {σ : Type}
set_option maxRecDepth 100000 in
set_option maxHeartbeats 1000000 in
theorem makes3_any (w : World) (b p kind imm : Int) (A A2 : Option Addr) (n c n2 c2 : Nat) :
    Calls Try.prog 62 #[.agg #[.int .i64 b, .int .i64 p], .agg #[.int .i64 kind, .slice A n c, .slice A2 n2 c2, .int .i32 imm]] w (fun e w' => e = .returned (.tuple #[]) ∧ Below w.heap.size w w') := by
  go_enter Try.func62, Try.ntmps62
  go_wp2
  go_end0
  exact ⟨rfl, ((Below.refl _ _).alloc (Nat.le_refl _) _).alloc (by simp) _⟩
set_option maxRecDepth 100000 in
set_option maxHeartbeats 4000000 in
theorem makes_any (T : Nat) (CT : Array Value) (Z : Nat → Prop) (f : Tellf σ) (bs : List PBlock) (params : Int) (A : Option Addr) (c : Nat) (I : σ → World → Prop) (w0 w : World) (s0 : σ) (hT : Tells T CT Z f w I) (hbs : BlocksAt w0 (.slice A bs.length c) bs) (hwf : WfP bs) (hb0 : Below w0.heap.size w0 w) (hZ : ∀ g, Z g → w0.heap.size ≤ g ∧ g < w.heap.size) (hI0 : I s0 w) :
    Calls Try.prog 29 #[.agg #[.int .i64 params, .slice A bs.length c], .func (.func T) #[] CT] w (fun e w' => e = .returned (.tuple #[]) ∧ ButZ Z w w' ∧ I (madeS f bs s0) w') := by
  have HT := Lib.hid hT
  have HBS := Lib.hid hbs
  have HWF := Lib.hid hwf
  have HB0 := Lib.hid hb0
  have HI0 := Lib.hid hI0
  have HZ := Lib.hid hZ
  clear hT hbs hwf hb0 hI0 hZ
  go_enter Try.func29, Try.ntmps29
  go_upto_region 1 with (fail)
  obtain ⟨W1, hW1⟩ : ∃ W1, w.alloc (.cells #[.int .i64 params, .slice A bs.length c] 24) = W1 := ⟨_, rfl⟩
  rw [hW1]
  have hb1 : Below w.heap.size w W1 := by rw [← hW1]; exact (Below.refl _ _).alloc (Nat.le_refl _) _
  have hs1 : Str W1 w.heap.size 24 [.int .i64 params, .slice A bs.length c] := by rw [← hW1]; exact World.alloc_heap_new w _
  have hzW1 : W1.heap.size = w.heap.size + 1 := by rw [← hW1]; simp
  clear hW1
  obtain ⟨W, hW⟩ : ∃ W, W1.alloc (.cells #[.func (.func T) #[] CT] 69) = W := ⟨_, rfl⟩
  rw [hW]
  have hb2 : Below W1.heap.size W1 W := by rw [← hW]; exact (Below.refl _ _).alloc (Nat.le_refl _) _
  have hs2 : Str W W1.heap.size 69 [.func (.func T) #[] CT] := by rw [← hW]; exact World.alloc_heap_new W1 _
  have hzW : W.heap.size = W1.heap.size + 1 := by rw [← hW]; simp
  clear hW
  have d0 : W.cell? ⟨w.heap.size, 0, none⟩ = some (.int .i64 params) := (hs1.below hb2).cell 0
  have d1 : W.cell? ⟨w.heap.size, 1, none⟩ = some (.slice A bs.length c) := (hs1.below hb2).cell 1
  rw [hzW1] at hs2
  have X0 := Lib.hid (show W.cell? ⟨w.heap.size + 1, 0, none⟩ = some (.func (.func T) #[] CT) from hs2.cell 0)
  have HB := Lib.hid (hb1.trans (hb2.mono hb1.size))
  have hzW' : W.heap.size = w.heap.size + 2 := by omega
  have hxz : ¬ Z (w.heap.size + 1) := fun hz => by have := HZ.out _ hz; omega
  clear hb1 hs1 hb2 hs2
  go_wp2_with fail
  refine (inOrderZ 60 61 62 #[.pointer (some ⟨w.heap.size + 1, 0, none⟩)] #[.pointer (some ⟨w.heap.size + 1, 0, none⟩)] #[] Z (lookM f) bs
    (fun k s w' => I s w' ∧ w'.cell? ⟨w.heap.size + 1, 0, none⟩ = some (.func (.func T) #[] CT)) w0 W params A c s0 ?hC HBS.out (HB0.out.trans (HB.out.mono HB0.out.size)) (fun g hg => ⟨(HZ.out g hg).1, by have := (HZ.out g hg).2; omega⟩) ⟨HT.out.keep _ _ _ HI0.out HB.out, X0.out⟩).mono ?_
  case hC =>
    refine ⟨fun F hF args w => ?_, fun k s w1 w2 h hb => ⟨HT.out.keep _ _ _ h.1 hb, cell_keep hb (Nat.le_refl _) h.2⟩, ?_, ?_, ?_⟩
    · rcases hF with rfl | rfl | rfl <;> kernel_rfl
    · intro k s w1 a n ha hn A1 c1 h1 h2 h3 h4 h5
      rw [appd1]
      refine (makes1_any T CT Z f w I HT.out w1 s _ a (-1 - (n : Int)) _ A1 _ c1 h3.2 (by omega) h3.1 (HWF.out.phi _ (List.getElem_mem ha) _ (List.getElem_mem hn)).1).mono ?_
      rintro e w' ⟨rfl, k1, k2⟩
      exact ⟨rfl, k1, k2, k1.cell h3.2 hxz⟩
    · intro k s w1 a n ha hn A1 c1 h1 h2 h3 h4 h5
      rw [appd1]
      have hi := HWF.out.ins _ (List.getElem_mem ha) _ (List.getElem_mem hn)
      refine (makes2_any T CT Z f w I HT.out (fun g hg => (HZ.out g hg).2) w1 s _ a n _ _ _ _ A1 _ c1 h3.2 hxz (by omega) h3.1 hi.1 hi.2.1).mono ?_
      rintro e w' ⟨rfl, k1, k2⟩
      exact ⟨rfl, k1, k2, k1.cell h3.2 hxz⟩
    · intro k s w1 a ha A1 c1 T1 t1 h1 h2 h3 h4 h5 h6
      rw [appd0]
      refine (makes3_any w1 a _ _ _ A1 T1 _ c1 _ t1).mono ?_
      rintro e w' ⟨rfl, k1⟩
      exact ⟨rfl, ButZ.of_below k1, HT.out.keep _ _ _ h3.1 k1, cell_keep k1 (Nat.le_refl _) h3.2⟩
  rintro e w' he
  rw [overM] at he
  obtain ⟨rfl, h1, h2, _⟩ := he
  have H1 := Lib.hid ((ButZ.of_below HB.out).trans h1)
  have H2 := Lib.hid h2
  clear h1 h2
  go_wp2
  go_end0
  exact ⟨rfl, H1.out, H2.out⟩
set_option maxRecDepth 100000 in
set_option maxHeartbeats 4000000 in
theorem takes_any (T : Nat) (CT : Array Value) (Z : Nat → Prop) (f : Tellf σ) (bs : List PBlock) (params : Int) (A : Option Addr) (c : Nat) (I : σ → World → Prop) (w0 w : World) (s0 : σ) (hT : Tells T CT Z f w I) (hbs : BlocksAt w0 (.slice A bs.length c) bs) (hwf : WfP bs) (hb0 : Below w0.heap.size w0 w) (hZ : ∀ g, Z g → w0.heap.size ≤ g ∧ g < w.heap.size) (hI0 : I s0 w) :
    Calls Try.prog 36 #[.agg #[.int .i64 params, .slice A bs.length c], .func (.func T) #[] CT] w (fun e w' => e = .returned (.tuple #[]) ∧ ButZ Z w w' ∧ I (takenS f bs s0) w') := by
  have HT := Lib.hid hT
  have HBS := Lib.hid hbs
  have HWF := Lib.hid hwf
  have HB0 := Lib.hid hb0
  have HI0 := Lib.hid hI0
  have HZ := Lib.hid hZ
  clear hT hbs hwf hb0 hI0 hZ
  go_enter Try.func36, Try.ntmps36
  go_upto_region 1 with (fail)
  obtain ⟨W1, hW1⟩ : ∃ W1, w.alloc (.cells #[.int .i64 params, .slice A bs.length c] 24) = W1 := ⟨_, rfl⟩
  rw [hW1]
  have hb1 : Below w.heap.size w W1 := by rw [← hW1]; exact (Below.refl _ _).alloc (Nat.le_refl _) _
  have hs1 : Str W1 w.heap.size 24 [.int .i64 params, .slice A bs.length c] := by rw [← hW1]; exact World.alloc_heap_new w _
  have hzW1 : W1.heap.size = w.heap.size + 1 := by rw [← hW1]; simp
  clear hW1
  obtain ⟨W2, hW2⟩ : ∃ W2, W1.alloc (.cells #[.func (.func T) #[] CT] 69) = W2 := ⟨_, rfl⟩
  rw [hW2]
  have hb2 : Below W1.heap.size W1 W2 := by rw [← hW2]; exact (Below.refl _ _).alloc (Nat.le_refl _) _
  have hs2 : Str W2 W1.heap.size 69 [.func (.func T) #[] CT] := by rw [← hW2]; exact World.alloc_heap_new W1 _
  have hzW2 : W2.heap.size = W1.heap.size + 1 := by rw [← hW2]; simp
  clear hW2
  have d0 : W2.cell? ⟨w.heap.size, 0, none⟩ = some (.int .i64 params) := (hs1.below hb2).cell 0
  have d1 : W2.cell? ⟨w.heap.size, 1, none⟩ = some (.slice A bs.length c) := (hs1.below hb2).cell 1
  rw [hzW1] at hs2
  have x0 : W2.cell? ⟨w.heap.size + 1, 0, none⟩ = some (.func (.func T) #[] CT) := hs2.cell 0
  have HB2 := Lib.hid (hb1.trans (hb2.mono hb1.size))
  have hzW' : W2.heap.size = w.heap.size + 2 := by omega
  have hxz : ¬ Z (w.heap.size + 1) := fun hz => by have := HZ.out _ hz; omega
  clear hb1 hs1 hb2 hs2
  go_upto_region 2 with (fail)
  obtain ⟨W, hW⟩ : ∃ W, W2.alloc (.cells #[.func (.func 70) #[] #[.pointer (some ⟨w.heap.size + 1, 0, none⟩)]] 102) = W := ⟨_, rfl⟩
  rw [hW]
  have hb3 : Below W2.heap.size W2 W := by rw [← hW]; exact (Below.refl _ _).alloc (Nat.le_refl _) _
  have hs3 : Str W W2.heap.size 102 [.func (.func 70) #[] #[.pointer (some ⟨w.heap.size + 1, 0, none⟩)]] := by rw [← hW]; exact World.alloc_heap_new W2 _
  have hzW3 : W.heap.size = W2.heap.size + 1 := by rw [← hW]; simp
  clear hW
  have d0 := cell_keep hb3 (Nat.le_refl _) d0
  have d1 := cell_keep hb3 (Nat.le_refl _) d1
  have X0 := Lib.hid (cell_keep hb3 (Nat.le_refl _) x0)
  rw [hzW'] at hs3
  have Y0 := Lib.hid (show W.cell? ⟨w.heap.size + 1 + 1, 0, none⟩ = some (.func (.func 70) #[] #[.pointer (some ⟨w.heap.size + 1, 0, none⟩)]) from hs3.cell 0)
  have HB := Lib.hid (HB2.out.trans (hb3.mono HB2.out.size))
  have hyz : ¬ Z (w.heap.size + 1 + 1) := fun hz => by have := HZ.out _ hz; omega
  clear hb3 hs3 x0
  go_wp2_with fail
  refine (inOrderZ 71 72 73 #[.pointer (some ⟨w.heap.size + 1, 0, none⟩)] #[.pointer (some ⟨w.heap.size + 1 + 1, 0, none⟩)] #[.pointer (some ⟨w.heap.size + 1 + 1, 0, none⟩)] Z (lookT f) bs
    (fun k s w' => I s w' ∧ w'.cell? ⟨w.heap.size + 1, 0, none⟩ = some (.func (.func T) #[] CT) ∧ w'.cell? ⟨w.heap.size + 1 + 1, 0, none⟩ = some (.func (.func 70) #[] #[.pointer (some ⟨w.heap.size + 1, 0, none⟩)])) w0 W params A c s0 ?hC HBS.out (HB0.out.trans (HB.out.mono HB0.out.size)) (fun g hg => ⟨(HZ.out g hg).1, by have := (HZ.out g hg).2; omega⟩) ⟨HT.out.keep _ _ _ HI0.out HB.out, X0.out, Y0.out⟩).mono ?_
  case hC =>
    refine ⟨fun F hF args w => ?_, fun k s w1 w2 h hb => ⟨HT.out.keep _ _ _ h.1 hb, cell_keep hb (Nat.le_refl _) h.2.1, cell_keep hb (Nat.le_refl _) h.2.2⟩, ?_, ?_, ?_⟩
    · rcases hF with rfl | rfl | rfl <;> kernel_rfl
    · intro k s w1 a n ha hn A1 c1 h1 h2 h3 h4 h5
      rw [appd1]
      refine (takes2_any T CT Z f w I HT.out w0 w1 HZ.out s _ a (-1 - (n : Int)) _ A1 c1 _ h3.2.1 hxz (by omega) h3.1 h1 h5 (HWF.out.phi _ (List.getElem_mem ha) _ (List.getElem_mem hn)).2).mono ?_
      rintro e w' ⟨rfl, k1, k2⟩
      exact ⟨rfl, k1, k2, k1.cell h3.2.1 hxz, k1.cell h3.2.2 hyz⟩
    · intro k s w1 a n ha hn A1 c1 h1 h2 h3 h4 h5
      rw [appd1]
      have hi := HWF.out.ins _ (List.getElem_mem ha) _ (List.getElem_mem hn)
      refine (takes3_any T CT Z f w I HT.out w0 w1 HZ.out s _ _ a n _ _ _ _ A1 c1 _ h3.2.2 h3.2.1 hxz (by omega) h3.1 h1 h5 hi.2.2).mono ?_
      rintro e w' ⟨rfl, k1, k2⟩
      exact ⟨rfl, k1, k2, k1.cell h3.2.1 hxz, k1.cell h3.2.2 hyz⟩
    · intro k s w1 a ha A1 c1 T1 t1 h1 h2 h3 h4 h5 h6
      rw [appd1]
      refine (takes4_any T CT Z f w I HT.out w0 w1 HZ.out s _ _ a _ _ _ A1 c1 _ T1 _ t1 h3.2.2 h3.2.1 hxz (by omega) h3.1 h1 h5 (HWF.out.term _ (List.getElem_mem ha))).mono ?_
      rintro e w' ⟨rfl, k1, k2⟩
      exact ⟨rfl, k1, k2, k1.cell h3.2.1 hxz, k1.cell h3.2.2 hyz⟩
  rintro e w' he
  rw [overT] at he
  obtain ⟨rfl, h1, h2, _⟩ := he
  have H1 := Lib.hid ((ButZ.of_below HB.out).trans h1)
  have H2 := Lib.hid h2
  clear h1 h2
  go_wp2
  go_end0
  exact ⟨rfl, H1.out, H2.out⟩
end
end Go.Proofs.Ytdfehpcbcgbidaa.Kc
