/- Stage 7: what an operation of the machine makes of the words that it takes, and of memory. -/
import Derived.Test.YtdidacjmcafcpaaMB
import Derived.Test.YtdidacjmcafcpaaRef7
namespace Go.Proofs.Ytdidacjmcafcpaa.Mc
open Go.ChangeShapes Go.WideShapes Go.ChangeAt Go.RowKit Go.Proofs.Ytdidacjmcafcpaa.Mem Go.Proofs.Ytdidacjmcafcpaa.Kc Go.Proofs.Ytdidacjmcafcpaa.Pl Go.Proofs.Ytdidacjmcafcpaa.Wd Go.Proofs.Ytdidacjmcafcpaa.Mw
set_option linter.unusedVariables false
set_option linter.unusedSimpArgs false
/-- What an operation makes: two words, or a trap; and memory. -/
structure Fx where
  x : Int
  y : Int
  trap : Int
  mem : List Int
def reckF (o a b : Int) (m : List Int) : Fx := if doB o b = true then ⟨doV o a b, 0, 0, m⟩ else ⟨0, 0, -1, m⟩
def loadF (at_ : Int) (m : List Int) : Fx := if hasB m.length at_ = true then ⟨loadV m at_, 0, 0, m⟩ else ⟨0, 0, -2, m⟩
def storeF (at_ v : Int) (m : List Int) : Fx := if hasB m.length at_ = true then ⟨0, 0, 0, m.set at_.toNat v⟩ else ⟨0, 0, -2, m⟩
def doesF (op imm a b c : Int) (m : List Int) : Fx :=
  if op = 1 then ⟨a, 0, 0, m⟩ else if op = 2 then ⟨b, a, 0, m⟩ else if op = 3 then ⟨imm, 0, 0, m⟩ else if op = 4 then ⟨imm, 0, 0, m⟩
  else if 5 ≤ op ∧ op ≤ 17 then reckF (byB op) a b m else if 18 ≤ op ∧ op ≤ 22 then reckF (byB op) a imm m
  else if op = 23 then ⟨wrap32 (wrap32 (a * b) + c), 0, 0, m⟩ else if op = 24 then loadF (wrap32 (a + imm)) m else if op = 25 then loadF (wrap32 (a + b)) m
  else if op = 26 then storeF (wrap32 (a + imm)) b m else if op = 27 then storeF (wrap32 (a + b)) c m else if op = 29 then ⟨wLow a b, wHigh a b, 0, m⟩ else ⟨0, 0, 0, m⟩
def FxPost (B : Nat) (mv : Value) (f : Fx) (w : World) (en : Ending) (w' : World) : Prop :=
  en = .returned (.tuple #[.agg #[.int .i32 f.x, .int .i32 f.y, .int .i32 0], .int .i32 f.trap]) ∧ OwnWords B w' mv f.mem ∧ w.grownBy w' mv.ownBlock
theorem grown_own {w w' : World} {r : Option Nat} (hb : Below w.heap.size w w') : w.grownBy w' r := ⟨hb.os, hb.tape, hb.output, hb.size, fun k hk _ => hb.block k hk⟩
theorem FxPost.still {B : Nat} {mv : Value} {f : Fx} {w w' : World} {m : List Int} (hm : OwnWords B w mv m) (hf : f.mem = m) (hb : Below w.heap.size w w') : FxPost B mv f w (.returned (.tuple #[.agg #[.int .i32 f.x, .int .i32 f.y, .int .i32 0], .int .i32 f.trap])) w' :=
  ⟨rfl, by rw [hf]; exact hm.below hb, grown_own hb⟩
theorem grown_trans {a b c : World} {r : Option Nat} (h : a.grownBy b r) (k : b.grownBy c r) : a.grownBy c r :=
  ⟨k.os.trans h.os, k.tape.trans h.tape, k.output.trans h.output, Nat.le_trans h.size k.size, fun i hi hn => (k.block i (Nat.lt_of_lt_of_le hi h.size) hn).trans (h.block i hi hn)⟩
set_option maxRecDepth 100000 in
set_option maxHeartbeats 4000000 in
theorem moved_any (w : World) (B : Nat) (mv : Value) (m : List Int) (hm : OwnWords B w mv m) (hl : m.length ≤ 1000000) (op d e ra rb rc imm a b c : Int) (A : Option Addr) (n k : Nat) (hi : InW imm) (ha : InW a) (hb : InW b) (hc : InW c) :
    Calls Try.prog 59 #[.agg #[.int .i64 op, .int .i64 d, .int .i64 e, .int .i64 ra, .int .i64 rb, .int .i64 rc, .int .i32 imm, .slice A n k], .agg #[.int .i32 a, .int .i32 b, .int .i32 c], mv] w (FxPost B mv ⟨a, 0, 0, m⟩ w) := by
  obtain ⟨mA, mn, mc, rfl⟩ := OwnWords.slice hm
  have HM := Lib.hid hm
  clear hm
  go_enter Try.func59, Try.ntmps59
  go_wp2
  refine ⟨rfl, .tuple #[.agg #[.int .i32 (a), .int .i32 (0), .int .i32 0], .int .i32 0], ?_, ?_⟩
  · simp only [results]
    go_simp
  · exact FxPost.still HM.out rfl ((((Below.refl _ _).alloc (Nat.le_refl _) _).alloc (by simp) _).alloc (by simp; omega) _)
set_option maxRecDepth 100000 in
set_option maxHeartbeats 4000000 in
theorem swapped_any (w : World) (B : Nat) (mv : Value) (m : List Int) (hm : OwnWords B w mv m) (hl : m.length ≤ 1000000) (op d e ra rb rc imm a b c : Int) (A : Option Addr) (n k : Nat) (hi : InW imm) (ha : InW a) (hb : InW b) (hc : InW c) :
    Calls Try.prog 60 #[.agg #[.int .i64 op, .int .i64 d, .int .i64 e, .int .i64 ra, .int .i64 rb, .int .i64 rc, .int .i32 imm, .slice A n k], .agg #[.int .i32 a, .int .i32 b, .int .i32 c], mv] w (FxPost B mv ⟨b, a, 0, m⟩ w) := by
  obtain ⟨mA, mn, mc, rfl⟩ := OwnWords.slice hm
  have HM := Lib.hid hm
  clear hm
  go_enter Try.func60, Try.ntmps60
  go_wp2
  refine ⟨rfl, .tuple #[.agg #[.int .i32 (b), .int .i32 (a), .int .i32 0], .int .i32 0], ?_, ?_⟩
  · simp only [results]
    go_simp
  · exact FxPost.still HM.out rfl ((((Below.refl _ _).alloc (Nat.le_refl _) _).alloc (by simp) _).alloc (by simp; omega) _)
set_option maxRecDepth 100000 in
set_option maxHeartbeats 4000000 in
theorem number_any (w : World) (B : Nat) (mv : Value) (m : List Int) (hm : OwnWords B w mv m) (hl : m.length ≤ 1000000) (op d e ra rb rc imm a b c : Int) (A : Option Addr) (n k : Nat) (hi : InW imm) (ha : InW a) (hb : InW b) (hc : InW c) :
    Calls Try.prog 61 #[.agg #[.int .i64 op, .int .i64 d, .int .i64 e, .int .i64 ra, .int .i64 rb, .int .i64 rc, .int .i32 imm, .slice A n k], .agg #[.int .i32 a, .int .i32 b, .int .i32 c], mv] w (FxPost B mv ⟨imm, 0, 0, m⟩ w) := by
  obtain ⟨mA, mn, mc, rfl⟩ := OwnWords.slice hm
  have HM := Lib.hid hm
  clear hm
  go_enter Try.func61, Try.ntmps61
  go_wp2
  refine ⟨rfl, .tuple #[.agg #[.int .i32 (imm), .int .i32 (0), .int .i32 0], .int .i32 0], ?_, ?_⟩
  · simp only [results]
    go_simp
  · exact FxPost.still HM.out rfl ((((Below.refl _ _).alloc (Nat.le_refl _) _).alloc (by simp) _).alloc (by simp; omega) _)
set_option maxRecDepth 100000 in
set_option maxHeartbeats 4000000 in
theorem multiplied_any (w : World) (B : Nat) (mv : Value) (m : List Int) (hm : OwnWords B w mv m) (hl : m.length ≤ 1000000) (op d e ra rb rc imm a b c : Int) (A : Option Addr) (n k : Nat) (hi : InW imm) (ha : InW a) (hb : InW b) (hc : InW c) :
    Calls Try.prog 64 #[.agg #[.int .i64 op, .int .i64 d, .int .i64 e, .int .i64 ra, .int .i64 rb, .int .i64 rc, .int .i32 imm, .slice A n k], .agg #[.int .i32 a, .int .i32 b, .int .i32 c], mv] w (FxPost B mv ⟨wrap32 (wrap32 (a * b) + c), 0, 0, m⟩ w) := by
  obtain ⟨mA, mn, mc, rfl⟩ := OwnWords.slice hm
  have HM := Lib.hid hm
  clear hm
  go_enter Try.func64, Try.ntmps64
  go_wp2
  refine ⟨rfl, .tuple #[.agg #[.int .i32 (wrap32 (wrap32 (a * b) + c)), .int .i32 (0), .int .i32 0], .int .i32 0], ?_, ?_⟩
  · simp only [results]
    go_simp
  · exact FxPost.still HM.out rfl ((((Below.refl _ _).alloc (Nat.le_refl _) _).alloc (by simp) _).alloc (by simp; omega) _)
set_option maxRecDepth 100000 in
set_option maxHeartbeats 4000000 in
theorem by_any (op : Int) (h : 5 ≤ op ∧ op ≤ 22) (w : World) :
    Calls Try.prog 79 #[.int .i64 op] w fun e w' => e = .returned (.int .i64 (byB op)) ∧ w' = w := by
  by_cases h1 : 18 ≤ op
  · have h' : op = 18 ∨ op = 19 ∨ op = 20 ∨ op = 21 ∨ op = 22 := by omega
    rcases h' with rfl | rfl | rfl | rfl | rfl
    all_goals
      go_enter Try.func79, Try.ntmps79
      go_wp2
      go_ret
      exact ⟨rfl, rfl⟩
  · have HB := Lib.hid (show byB op = op - 5 + 2 by
      unfold byB
      rw [if_neg (by omega), if_neg (by omega), if_neg (by omega)]
      omega)
    have h2 : op < 18 := by omega
    go_enter Try.func79, Try.ntmps79
    go_wp2
    go_ret
    exact ⟨by rw [HB.out]; rfl, rfl⟩
set_option maxRecDepth 100000 in
set_option maxHeartbeats 4000000 in
theorem reckoned_any (w : World) (op d e ra rb rc imm a b : Int) (A : Option Addr) (n k : Nat) (h : 5 ≤ op ∧ op ≤ 22) (m : List Int) :
    Calls Try.prog 73 #[.agg #[.int .i64 op, .int .i64 d, .int .i64 e, .int .i64 ra, .int .i64 rb, .int .i64 rc, .int .i32 imm, .slice A n k], .int .i32 a, .int .i32 b] w fun en w' => en = .returned (.tuple #[.agg #[.int .i32 (reckF (byB op) a b m).x, .int .i32 (reckF (byB op) a b m).y, .int .i32 0], .int .i32 (reckF (byB op) a b m).trap]) ∧ Below w.heap.size w w' := by
  have HO := Lib.hid h
  clear h
  obtain ⟨x, hx⟩ : ∃ x, doV (byB op) a b = x := ⟨_, rfl⟩
  have HX := Lib.hid hx
  cases hB : doB (byB op) b with
  | true =>
    have HR := Lib.hid (show reckF (byB op) a b m = ⟨x, 0, 0, m⟩ by rw [← hx]; exact if_pos hB)
    rw [HR.out]
    have HBH := Lib.hid hB
    clear hB HR hx
    go_enter Try.func73, Try.ntmps73
    go_wp2_with fail
    refine (by_any op HO.out _).mono ?_
    rintro e' w2 ⟨rfl, rfl⟩
    go_wp2_with fail
    refine (do_any _ _ _ _).mono ?_
    rintro e' w2 ⟨rfl, rfl⟩
    rw [HBH.out, HX.out]
    go_wp2
    refine ⟨rfl, .tuple #[.agg #[.int .i32 x, .int .i32 0, .int .i32 0], .int .i32 0], ?_, ?_⟩
    · simp only [results]
      go_simp
    · exact ⟨rfl, ((Below.refl _ _).alloc (Nat.le_refl _) _).alloc (by simp) _⟩
  | false =>
    have HR := Lib.hid (show reckF (byB op) a b m = ⟨0, 0, -1, m⟩ from if_neg (by rw [hB]; simp))
    rw [HR.out]
    have HBH := Lib.hid hB
    clear hB HR hx
    go_enter Try.func73, Try.ntmps73
    go_wp2_with fail
    refine (by_any op HO.out _).mono ?_
    rintro e' w2 ⟨rfl, rfl⟩
    go_wp2_with fail
    refine (do_any _ _ _ _).mono ?_
    rintro e' w2 ⟨rfl, rfl⟩
    rw [HBH.out, HX.out]
    go_wp2
    refine ⟨rfl, .tuple #[.agg #[.int .i32 0, .int .i32 0, .int .i32 0], .int .i32 (-1)], ?_, ?_⟩
    · simp only [results]
      go_simp
    · exact ⟨rfl, ((Below.refl _ _).alloc (Nat.le_refl _) _).alloc (by simp) _⟩
theorem three_but {W : World} {x : Nat} (u v z : Value) : But x W (((W.setCell ⟨x, 0, none⟩ u).setCell ⟨x, 1, none⟩ v).setCell ⟨x, 2, none⟩ z) := ((but_set x 0 u W).trans (but_set x 1 v _)).trans (but_set x 2 z _)
theorem but_grown {x : Nat} {a b : World} (h : But x a b) : a.grownBy b (some x) := ⟨h.os, h.tape, h.output, h.size, fun i hi hn => h.block i hi (fun e => hn (by rw [e]))⟩
theorem OwnWords.but {B x : Nat} {a b : World} {v : Value} {l : List Int} (h : OwnWords B a v l) (hb : But x a b) (hx : v.ownBlock ≠ some x) : OwnWords B b v l := World.ownsRow.kept h (but_grown hb) (Or.inr hx)
theorem grown_but {x : Nat} {w a b : World} {r : Option Nat} (h : w.grownBy a r) (hb : But x a b) (hx : w.heap.size ≤ x) : w.grownBy b r :=
  ⟨hb.os.trans h.os, hb.tape.trans h.tape, hb.output.trans h.output, Nat.le_trans h.size hb.size, fun k hk hn => (hb.block k (Nat.lt_of_lt_of_le hk h.size) (by omega)).trans (h.block k hk hn)⟩
/-- The result's three words are set. -/
theorem three_set {w W : World} {x : Nat} (hx : w.heap.size ≤ x) (hb : Below w.heap.size w W) (u v z : Value) : Below w.heap.size w (((W.setCell ⟨x, 0, none⟩ u).setCell ⟨x, 1, none⟩ v).setCell ⟨x, 2, none⟩ z) :=
  hb.trans (below_of_but (((but_set x 0 u W).trans (but_set x 1 v _)).trans (but_set x 2 z _)) hx hb.size)
set_option maxRecDepth 100000 in
set_option maxHeartbeats 4000000 in
theorem ofTwo_any (w : World) (B : Nat) (mv : Value) (m : List Int) (hm : OwnWords B w mv m) (hl : m.length ≤ 1000000) (op d e ra rb rc imm a b c : Int) (A : Option Addr) (n k : Nat) (hi : InW imm) (ha : InW a) (hb : InW b) (hc : InW c) (h : 5 ≤ op ∧ op ≤ 22) :
    Calls Try.prog 62 #[.agg #[.int .i64 op, .int .i64 d, .int .i64 e, .int .i64 ra, .int .i64 rb, .int .i64 rc, .int .i32 imm, .slice A n k], .agg #[.int .i32 a, .int .i32 b, .int .i32 c], mv] w (FxPost B mv (reckF (byB op) a b m) w) := by
  obtain ⟨mA, mn, mc, rfl⟩ := OwnWords.slice hm
  have HM := Lib.hid hm
  clear hm
  go_enter Try.func62, Try.ntmps62
  go_upto_region 1 with (fail)
  obtain ⟨W3, hW3⟩ : ∃ W3, ((w.alloc (.cells #[.int .i64 op, .int .i64 d, .int .i64 e, .int .i64 ra, .int .i64 rb, .int .i64 rc, .int .i32 imm, .slice A n k] 24)).alloc (.cells #[.int .i32 a, .int .i32 b, .int .i32 c] 111)).alloc (.cells #[.int .i32 0, .int .i32 0, .int .i32 0] 111) = W3 := ⟨_, rfl⟩
  have hb3 : Below w.heap.size w W3 := by rw [← hW3]; exact (((Below.refl _ _).alloc (Nat.le_refl _) _).alloc (by simp) _).alloc (by simp; omega) _
  have hsi : Str W3 w.heap.size 24 [.int .i64 op, .int .i64 d, .int .i64 e, .int .i64 ra, .int .i64 rb, .int .i64 rc, .int .i32 imm, .slice A n k] := by
    rw [← hW3]
    exact Str.below (Str.below (World.alloc_heap_new w _) ((Below.refl _ _).alloc (Nat.le_refl _) _)) ((Below.refl _ _).alloc (Nat.le_refl _) _)
  have hsa : Str W3 (w.heap.size + 1) 111 [.int .i32 a, .int .i32 b, .int .i32 c] := by
    have h := Str.below (World.alloc_heap_new (w.alloc (.cells #[.int .i64 op, .int .i64 d, .int .i64 e, .int .i64 ra, .int .i64 rb, .int .i64 rc, .int .i32 imm, .slice A n k] 24)) (.cells #[.int .i32 a, .int .i32 b, .int .i32 c] 111)) ((Below.refl _ _).alloc (Nat.le_refl _) (.cells #[.int .i32 0, .int .i32 0, .int .i32 0] 111))
    simp only [World.size_alloc] at h
    rw [← hW3]
    exact h
  have hsz : Str W3 (w.heap.size + 2) 111 [.int .i32 0, .int .i32 0, .int .i32 0] := by
    have h := World.alloc_heap_new ((w.alloc (.cells #[.int .i64 op, .int .i64 d, .int .i64 e, .int .i64 ra, .int .i64 rb, .int .i64 rc, .int .i32 imm, .slice A n k] 24)).alloc (.cells #[.int .i32 a, .int .i32 b, .int .i32 c] 111)) (.cells #[.int .i32 0, .int .i32 0, .int .i32 0] 111)
    simp only [World.size_alloc] at h
    rw [← hW3]
    exact h
  rw [hW3]
  clear hW3
  have i0 : W3.cell? ⟨w.heap.size, 0, none⟩ = some (.int .i64 op) := hsi.cell 0
  have i1 : W3.cell? ⟨w.heap.size, 1, none⟩ = some (.int .i64 d) := hsi.cell 1
  have i2 : W3.cell? ⟨w.heap.size, 2, none⟩ = some (.int .i64 e) := hsi.cell 2
  have i3 : W3.cell? ⟨w.heap.size, 3, none⟩ = some (.int .i64 ra) := hsi.cell 3
  have i4 : W3.cell? ⟨w.heap.size, 4, none⟩ = some (.int .i64 rb) := hsi.cell 4
  have i5 : W3.cell? ⟨w.heap.size, 5, none⟩ = some (.int .i64 rc) := hsi.cell 5
  have i6 : W3.cell? ⟨w.heap.size, 6, none⟩ = some (.int .i32 imm) := hsi.cell 6
  have i7 : W3.cell? ⟨w.heap.size, 7, none⟩ = some (.slice A n k) := hsi.cell 7
  have a0 : W3.cell? ⟨w.heap.size + 1, 0, none⟩ = some (.int .i32 a) := hsa.cell 0
  have a1 : W3.cell? ⟨w.heap.size + 1, 1, none⟩ = some (.int .i32 b) := hsa.cell 1
  have a2 : W3.cell? ⟨w.heap.size + 1, 2, none⟩ = some (.int .i32 c) := hsa.cell 2
  have HB3 := Lib.hid hb3
  have HSZ := Lib.hid hsz
  clear hb3 hsi hsa hsz
  go_wp2_with fail
  refine (reckoned_any W3 op d e ra rb rc imm a b A n k h m).mono ?_
  rintro e' w4 ⟨rfl, hb4⟩
  have hz0 := (HSZ.out.below hb4).cell 0
  have hz1 := (HSZ.out.below hb4).cell 1
  have hz2 := (HSZ.out.below hb4).cell 2
  have y0 := (HSZ.out.below hb4).frozen 0
  have y1 := (HSZ.out.below hb4).frozen 1
  have y2 := (HSZ.out.below hb4).frozen 2
  have HB4 := Lib.hid (HB3.out.trans (hb4.mono HB3.out.size))
  have HFM := Lib.hid (show (reckF (byB op) a b m).mem = m by unfold reckF; split <;> rfl)
  generalize reckF (byB op) a b m = f at *
  clear hb4 HSZ HB3 i0 i1 i2 i3 i4 i5 i6 i7 a0 a1 a2
  go_wp2
  refine ⟨rfl, .tuple #[.agg #[.int .i32 f.x, .int .i32 f.y, .int .i32 0], .int .i32 f.trap], ?_, ?_⟩
  · simp only [results]
    go_simp
  · exact FxPost.still HM.out HFM.out (three_set (by omega) HB4.out _ _ _)
set_option maxRecDepth 100000 in
set_option maxHeartbeats 4000000 in
theorem ofNumber_any (w : World) (B : Nat) (mv : Value) (m : List Int) (hm : OwnWords B w mv m) (hl : m.length ≤ 1000000) (op d e ra rb rc imm a b c : Int) (A : Option Addr) (n k : Nat) (hi : InW imm) (ha : InW a) (hb : InW b) (hc : InW c) (h : 5 ≤ op ∧ op ≤ 22) :
    Calls Try.prog 63 #[.agg #[.int .i64 op, .int .i64 d, .int .i64 e, .int .i64 ra, .int .i64 rb, .int .i64 rc, .int .i32 imm, .slice A n k], .agg #[.int .i32 a, .int .i32 b, .int .i32 c], mv] w (FxPost B mv (reckF (byB op) a imm m) w) := by
  obtain ⟨mA, mn, mc, rfl⟩ := OwnWords.slice hm
  have HM := Lib.hid hm
  clear hm
  go_enter Try.func63, Try.ntmps63
  go_upto_region 1 with (fail)
  obtain ⟨W3, hW3⟩ : ∃ W3, ((w.alloc (.cells #[.int .i64 op, .int .i64 d, .int .i64 e, .int .i64 ra, .int .i64 rb, .int .i64 rc, .int .i32 imm, .slice A n k] 24)).alloc (.cells #[.int .i32 a, .int .i32 b, .int .i32 c] 111)).alloc (.cells #[.int .i32 0, .int .i32 0, .int .i32 0] 111) = W3 := ⟨_, rfl⟩
  have hb3 : Below w.heap.size w W3 := by rw [← hW3]; exact (((Below.refl _ _).alloc (Nat.le_refl _) _).alloc (by simp) _).alloc (by simp; omega) _
  have hsi : Str W3 w.heap.size 24 [.int .i64 op, .int .i64 d, .int .i64 e, .int .i64 ra, .int .i64 rb, .int .i64 rc, .int .i32 imm, .slice A n k] := by
    rw [← hW3]
    exact Str.below (Str.below (World.alloc_heap_new w _) ((Below.refl _ _).alloc (Nat.le_refl _) _)) ((Below.refl _ _).alloc (Nat.le_refl _) _)
  have hsa : Str W3 (w.heap.size + 1) 111 [.int .i32 a, .int .i32 b, .int .i32 c] := by
    have h := Str.below (World.alloc_heap_new (w.alloc (.cells #[.int .i64 op, .int .i64 d, .int .i64 e, .int .i64 ra, .int .i64 rb, .int .i64 rc, .int .i32 imm, .slice A n k] 24)) (.cells #[.int .i32 a, .int .i32 b, .int .i32 c] 111)) ((Below.refl _ _).alloc (Nat.le_refl _) (.cells #[.int .i32 0, .int .i32 0, .int .i32 0] 111))
    simp only [World.size_alloc] at h
    rw [← hW3]
    exact h
  have hsz : Str W3 (w.heap.size + 2) 111 [.int .i32 0, .int .i32 0, .int .i32 0] := by
    have h := World.alloc_heap_new ((w.alloc (.cells #[.int .i64 op, .int .i64 d, .int .i64 e, .int .i64 ra, .int .i64 rb, .int .i64 rc, .int .i32 imm, .slice A n k] 24)).alloc (.cells #[.int .i32 a, .int .i32 b, .int .i32 c] 111)) (.cells #[.int .i32 0, .int .i32 0, .int .i32 0] 111)
    simp only [World.size_alloc] at h
    rw [← hW3]
    exact h
  rw [hW3]
  clear hW3
  have i0 : W3.cell? ⟨w.heap.size, 0, none⟩ = some (.int .i64 op) := hsi.cell 0
  have i1 : W3.cell? ⟨w.heap.size, 1, none⟩ = some (.int .i64 d) := hsi.cell 1
  have i2 : W3.cell? ⟨w.heap.size, 2, none⟩ = some (.int .i64 e) := hsi.cell 2
  have i3 : W3.cell? ⟨w.heap.size, 3, none⟩ = some (.int .i64 ra) := hsi.cell 3
  have i4 : W3.cell? ⟨w.heap.size, 4, none⟩ = some (.int .i64 rb) := hsi.cell 4
  have i5 : W3.cell? ⟨w.heap.size, 5, none⟩ = some (.int .i64 rc) := hsi.cell 5
  have i6 : W3.cell? ⟨w.heap.size, 6, none⟩ = some (.int .i32 imm) := hsi.cell 6
  have i7 : W3.cell? ⟨w.heap.size, 7, none⟩ = some (.slice A n k) := hsi.cell 7
  have a0 : W3.cell? ⟨w.heap.size + 1, 0, none⟩ = some (.int .i32 a) := hsa.cell 0
  have a1 : W3.cell? ⟨w.heap.size + 1, 1, none⟩ = some (.int .i32 b) := hsa.cell 1
  have a2 : W3.cell? ⟨w.heap.size + 1, 2, none⟩ = some (.int .i32 c) := hsa.cell 2
  have HB3 := Lib.hid hb3
  have HSZ := Lib.hid hsz
  clear hb3 hsi hsa hsz
  go_wp2_with fail
  refine (reckoned_any W3 op d e ra rb rc imm a imm A n k h m).mono ?_
  rintro e' w4 ⟨rfl, hb4⟩
  have hz0 := (HSZ.out.below hb4).cell 0
  have hz1 := (HSZ.out.below hb4).cell 1
  have hz2 := (HSZ.out.below hb4).cell 2
  have y0 := (HSZ.out.below hb4).frozen 0
  have y1 := (HSZ.out.below hb4).frozen 1
  have y2 := (HSZ.out.below hb4).frozen 2
  have HB4 := Lib.hid (HB3.out.trans (hb4.mono HB3.out.size))
  have HFM := Lib.hid (show (reckF (byB op) a imm m).mem = m by unfold reckF; split <;> rfl)
  generalize reckF (byB op) a imm m = f at *
  clear hb4 HSZ HB3 i0 i1 i2 i3 i4 i5 i6 i7 a0 a1 a2
  go_wp2
  refine ⟨rfl, .tuple #[.agg #[.int .i32 f.x, .int .i32 f.y, .int .i32 0], .int .i32 f.trap], ?_, ?_⟩
  · simp only [results]
    go_simp
  · exact FxPost.still HM.out HFM.out (three_set (by omega) HB4.out _ _ _)
set_option maxRecDepth 100000 in
set_option maxHeartbeats 4000000 in
theorem mwide_any (w : World) (B : Nat) (mv : Value) (m : List Int) (hm : OwnWords B w mv m) (hl : m.length ≤ 1000000) (op d e ra rb rc imm a b c : Int) (A : Option Addr) (n k : Nat) (hi : InW imm) (ha : InW a) (hb : InW b) (hc : InW c)  :
    Calls Try.prog 69 #[.agg #[.int .i64 op, .int .i64 d, .int .i64 e, .int .i64 ra, .int .i64 rb, .int .i64 rc, .int .i32 imm, .slice A n k], .agg #[.int .i32 a, .int .i32 b, .int .i32 c], mv] w (FxPost B mv (⟨wLow a b, wHigh a b, 0, m⟩) w) := by
  obtain ⟨mA, mn, mc, rfl⟩ := OwnWords.slice hm
  have HM := Lib.hid hm
  clear hm
  go_enter Try.func69, Try.ntmps69
  go_upto_region 1 with (fail)
  obtain ⟨W3, hW3⟩ : ∃ W3, ((w.alloc (.cells #[.int .i64 op, .int .i64 d, .int .i64 e, .int .i64 ra, .int .i64 rb, .int .i64 rc, .int .i32 imm, .slice A n k] 24)).alloc (.cells #[.int .i32 a, .int .i32 b, .int .i32 c] 111)).alloc (.cells #[.int .i32 0, .int .i32 0, .int .i32 0] 111) = W3 := ⟨_, rfl⟩
  have hb3 : Below w.heap.size w W3 := by rw [← hW3]; exact (((Below.refl _ _).alloc (Nat.le_refl _) _).alloc (by simp) _).alloc (by simp; omega) _
  have hsi : Str W3 w.heap.size 24 [.int .i64 op, .int .i64 d, .int .i64 e, .int .i64 ra, .int .i64 rb, .int .i64 rc, .int .i32 imm, .slice A n k] := by
    rw [← hW3]
    exact Str.below (Str.below (World.alloc_heap_new w _) ((Below.refl _ _).alloc (Nat.le_refl _) _)) ((Below.refl _ _).alloc (Nat.le_refl _) _)
  have hsa : Str W3 (w.heap.size + 1) 111 [.int .i32 a, .int .i32 b, .int .i32 c] := by
    have h := Str.below (World.alloc_heap_new (w.alloc (.cells #[.int .i64 op, .int .i64 d, .int .i64 e, .int .i64 ra, .int .i64 rb, .int .i64 rc, .int .i32 imm, .slice A n k] 24)) (.cells #[.int .i32 a, .int .i32 b, .int .i32 c] 111)) ((Below.refl _ _).alloc (Nat.le_refl _) (.cells #[.int .i32 0, .int .i32 0, .int .i32 0] 111))
    simp only [World.size_alloc] at h
    rw [← hW3]
    exact h
  have hsz : Str W3 (w.heap.size + 2) 111 [.int .i32 0, .int .i32 0, .int .i32 0] := by
    have h := World.alloc_heap_new ((w.alloc (.cells #[.int .i64 op, .int .i64 d, .int .i64 e, .int .i64 ra, .int .i64 rb, .int .i64 rc, .int .i32 imm, .slice A n k] 24)).alloc (.cells #[.int .i32 a, .int .i32 b, .int .i32 c] 111)) (.cells #[.int .i32 0, .int .i32 0, .int .i32 0] 111)
    simp only [World.size_alloc] at h
    rw [← hW3]
    exact h
  rw [hW3]
  clear hW3
  have i0 : W3.cell? ⟨w.heap.size, 0, none⟩ = some (.int .i64 op) := hsi.cell 0
  have i1 : W3.cell? ⟨w.heap.size, 1, none⟩ = some (.int .i64 d) := hsi.cell 1
  have i2 : W3.cell? ⟨w.heap.size, 2, none⟩ = some (.int .i64 e) := hsi.cell 2
  have i3 : W3.cell? ⟨w.heap.size, 3, none⟩ = some (.int .i64 ra) := hsi.cell 3
  have i4 : W3.cell? ⟨w.heap.size, 4, none⟩ = some (.int .i64 rb) := hsi.cell 4
  have i5 : W3.cell? ⟨w.heap.size, 5, none⟩ = some (.int .i64 rc) := hsi.cell 5
  have i6 : W3.cell? ⟨w.heap.size, 6, none⟩ = some (.int .i32 imm) := hsi.cell 6
  have i7 : W3.cell? ⟨w.heap.size, 7, none⟩ = some (.slice A n k) := hsi.cell 7
  have a0 : W3.cell? ⟨w.heap.size + 1, 0, none⟩ = some (.int .i32 a) := hsa.cell 0
  have a1 : W3.cell? ⟨w.heap.size + 1, 1, none⟩ = some (.int .i32 b) := hsa.cell 1
  have a2 : W3.cell? ⟨w.heap.size + 1, 2, none⟩ = some (.int .i32 c) := hsa.cell 2
  have HB3 := Lib.hid hb3
  have HSZ := Lib.hid hsz
  clear hb3 hsi hsa hsz
  go_wp2_with fail
  refine (Go.Proofs.Ytdidacjmcafcpaa.Wd.wide_any a b ha hb W3).mono ?_
  rintro e' w4 ⟨rfl, rfl⟩
  have hz0 := HSZ.out.cell 0
  have hz1 := HSZ.out.cell 1
  have hz2 := HSZ.out.cell 2
  have y0 := HSZ.out.frozen 0
  have y1 := HSZ.out.frozen 1
  have y2 := HSZ.out.frozen 2
  obtain ⟨x, hx⟩ : ∃ x, wLow a b = x := ⟨_, rfl⟩
  obtain ⟨y, hy⟩ : ∃ y, wHigh a b = y := ⟨_, rfl⟩
  rw [hx, hy]
  have HX := Lib.hid hx
  have HY := Lib.hid hy
  clear HSZ i0 i1 i2 i3 i4 i5 i6 i7 a0 a1 a2 hx hy ha hb hc hi
  go_wp2
  refine ⟨rfl, .tuple #[.agg #[.int .i32 x, .int .i32 y, .int .i32 0], .int .i32 0], ?_, ?_⟩
  · simp only [results]
    go_simp
  · rw [HX.out, HY.out]
    exact FxPost.still (f := ⟨x, y, 0, m⟩) HM.out rfl (three_set (by omega) HB3.out _ _ _)
set_option maxRecDepth 100000 in
set_option maxHeartbeats 4000000 in
theorem mload_any (w : World) (B : Nat) (mv : Value) (m : List Int) (hm : OwnWords B w mv m) (hl : m.length ≤ 1000000) (at_ : Int) (ha : InW at_) :
    Calls Try.prog 74 #[mv, .int .i32 at_] w (FxPost B mv (loadF at_ m) w) := by
  have HM := Lib.hid hm
  have HW := Lib.hid (words_of_own hm)
  have HA := Lib.hid ha
  obtain ⟨mA, mn, mc, rfl⟩ := OwnWords.slice hm
  clear hm ha
  obtain ⟨x, hx⟩ : ∃ x, loadV m at_ = x := ⟨_, rfl⟩
  have HX := Lib.hid hx
  cases hB : hasB m.length at_ with
  | true =>
    have HR := Lib.hid (show loadF at_ m = ⟨x, 0, 0, m⟩ by rw [← hx]; exact if_pos hB)
    rw [HR.out]
    have HBH := Lib.hid hB
    clear hB hx
    go_enter Try.func74, Try.ntmps74
    go_wp2_with fail
    have hb1 : Below w.heap.size w (w.alloc (.cells #[.int .i32 0, .int .i32 0, .int .i32 0] 111)) := (Below.refl _ _).alloc (Nat.le_refl _) _
    refine (load_any _ _ m at_ (HW.out.below hb1) hl HA.out).mono ?_
    rintro e' w2 ⟨rfl, rfl⟩
    rw [HBH.out, HX.out]
    clear hb1
    go_wp2
    refine ⟨rfl, .tuple #[.agg #[.int .i32 x, .int .i32 0, .int .i32 0], .int .i32 0], ?_, ?_⟩
    · simp only [results]
      go_simp
    · exact FxPost.still (f := ⟨x, 0, 0, m⟩) HM.out rfl ((Below.refl _ _).alloc (Nat.le_refl _) _)
  | false =>
    have HR := Lib.hid (show loadF at_ m = ⟨0, 0, -2, m⟩ from if_neg (by rw [hB]; simp))
    rw [HR.out]
    have HBH := Lib.hid hB
    clear hB hx
    go_enter Try.func74, Try.ntmps74
    go_wp2_with fail
    have hb1 : Below w.heap.size w (w.alloc (.cells #[.int .i32 0, .int .i32 0, .int .i32 0] 111)) := (Below.refl _ _).alloc (Nat.le_refl _) _
    refine (load_any _ _ m at_ (HW.out.below hb1) hl HA.out).mono ?_
    rintro e' w2 ⟨rfl, rfl⟩
    rw [HBH.out, HX.out]
    clear hb1
    go_wp2
    refine ⟨rfl, .tuple #[.agg #[.int .i32 0, .int .i32 0, .int .i32 0], .int .i32 (-2)], ?_, ?_⟩
    · simp only [results]
      go_simp
    · exact FxPost.still (f := ⟨0, 0, -2, m⟩) HM.out rfl ((Below.refl _ _).alloc (Nat.le_refl _) _)
set_option maxRecDepth 100000 in
set_option maxHeartbeats 4000000 in
theorem mstore_any (w : World) (B : Nat) (mv : Value) (m : List Int) (hm : OwnWords B w mv m) (hl : m.length ≤ 1000000) (at_ v : Int) (ha : InW at_) :
    Calls Try.prog 75 #[mv, .int .i32 at_, .int .i32 v] w (FxPost B mv (storeF at_ v m) w) := by
  have HM := Lib.hid hm
  have HA := Lib.hid ha
  obtain ⟨mA, mn, mc, rfl⟩ := OwnWords.slice hm
  clear hm ha
  go_enter Try.func75, Try.ntmps75
  go_wp2_with fail
  obtain ⟨W1, hW1⟩ : ∃ W1, w.alloc (.cells #[.int .i32 0, .int .i32 0, .int .i32 0] 111) = W1 := ⟨_, rfl⟩
  rw [hW1]
  have hb1 : Below w.heap.size w W1 := by rw [← hW1]; exact (Below.refl _ _).alloc (Nat.le_refl _) _
  have hs1 : Str W1 w.heap.size 111 [.int .i32 0, .int .i32 0, .int .i32 0] := by rw [← hW1]; exact World.alloc_heap_new w _
  clear hW1
  have hm1 := HM.out.below hb1
  have HWH := Lib.hid (show ∀ g, (Value.slice mA mn mc).ownBlock = some g → g < w.heap.size from fun g hg => (OwnWords.where_ HM.out hg).2)
  have HB1 := Lib.hid hb1
  refine (store_any W1 B _ m at_ v hm1 hl HA.out).mono ?_
  intro e' w2 hst
  unfold StoreRes at hst
  have HS1 := Lib.hid hs1
  clear hs1 hb1 hm1
  cases hB : hasB m.length at_ with
  | true =>
    rw [if_pos hB] at hst
    obtain ⟨rfl, g, hg, hbt, ho⟩ := hst
    have hgl := HWH.out g hg
    have hs2 := hbt.str HS1.out (by omega)
    have z0 := hs2.cell 0
    have z1 := hs2.cell 1
    have z2 := hs2.cell 2
    have y0 := hs2.frozen 0
    have y1 := hs2.frozen 1
    have y2 := hs2.frozen 2
    have HF := Lib.hid (show storeF at_ v m = ⟨0, 0, 0, m.set at_.toNat v⟩ from if_pos hB)
    have HBT := Lib.hid hbt
    have HO := Lib.hid ho
    have HG := Lib.hid hg
    have HBB := Lib.hid hB
    clear hB hbt ho hg hs2
    go_wp2
    refine ⟨rfl, .tuple #[.agg #[.int .i32 0, .int .i32 0, .int .i32 0], .int .i32 0], ?_, ?_⟩
    · simp only [results]
      go_simp
    · rw [HF.out]
      have hne : (Value.slice mA mn mc).ownBlock ≠ some w.heap.size := by rw [HG.out]; intro e; injection e with e; omega
      have hgr : w.grownBy w2 (some g) := grown_trans (grown_own HB1.out) (but_grown HBT.out)
      rw [← HG.out] at hgr
      exact ⟨rfl, OwnWords.but HO.out (three_but _ _ _) hne, grown_but hgr (three_but _ _ _) (Nat.le_refl _)⟩
  | false =>
    rw [if_neg (by rw [hB]; simp)] at hst
    obtain ⟨rfl, rfl⟩ := hst
    have z0 := HS1.out.cell 0
    have z1 := HS1.out.cell 1
    have z2 := HS1.out.cell 2
    have y0 := HS1.out.frozen 0
    have y1 := HS1.out.frozen 1
    have y2 := HS1.out.frozen 2
    have HF := Lib.hid (show storeF at_ v m = ⟨0, 0, -2, m⟩ from if_neg (by rw [hB]; simp))
    clear hB
    go_wp2
    refine ⟨rfl, .tuple #[.agg #[.int .i32 0, .int .i32 0, .int .i32 0], .int .i32 (-2)], ?_, ?_⟩
    · simp only [results]
      go_simp
    · rw [HF.out]
      exact FxPost.still (f := ⟨0, 0, -2, m⟩) HM.out rfl (three_set (Nat.le_refl _) HB1.out _ _ _)
set_option maxRecDepth 100000 in
set_option maxHeartbeats 4000000 in
theorem loaded_any (w : World) (B : Nat) (mv : Value) (m : List Int) (hm : OwnWords B w mv m) (hl : m.length ≤ 1000000) (op d e ra rb rc imm a b c : Int) (A : Option Addr) (n k : Nat) (hi : InW imm) (ha : InW a) (hb : InW b) (hc : InW c)  :
    Calls Try.prog 65 #[.agg #[.int .i64 op, .int .i64 d, .int .i64 e, .int .i64 ra, .int .i64 rb, .int .i64 rc, .int .i32 imm, .slice A n k], .agg #[.int .i32 a, .int .i32 b, .int .i32 c], mv] w (FxPost B mv (loadF (wrap32 (a + imm)) m) w) := by
  obtain ⟨mA, mn, mc, rfl⟩ := OwnWords.slice hm
  have HM := Lib.hid hm
  clear hm
  go_enter Try.func65, Try.ntmps65
  go_upto_region 1 with (fail)
  obtain ⟨W3, hW3⟩ : ∃ W3, ((w.alloc (.cells #[.int .i64 op, .int .i64 d, .int .i64 e, .int .i64 ra, .int .i64 rb, .int .i64 rc, .int .i32 imm, .slice A n k] 24)).alloc (.cells #[.int .i32 a, .int .i32 b, .int .i32 c] 111)).alloc (.cells #[.int .i32 0, .int .i32 0, .int .i32 0] 111) = W3 := ⟨_, rfl⟩
  have hb3 : Below w.heap.size w W3 := by rw [← hW3]; exact (((Below.refl _ _).alloc (Nat.le_refl _) _).alloc (by simp) _).alloc (by simp; omega) _
  have hsi : Str W3 w.heap.size 24 [.int .i64 op, .int .i64 d, .int .i64 e, .int .i64 ra, .int .i64 rb, .int .i64 rc, .int .i32 imm, .slice A n k] := by
    rw [← hW3]
    exact Str.below (Str.below (World.alloc_heap_new w _) ((Below.refl _ _).alloc (Nat.le_refl _) _)) ((Below.refl _ _).alloc (Nat.le_refl _) _)
  have hsa : Str W3 (w.heap.size + 1) 111 [.int .i32 a, .int .i32 b, .int .i32 c] := by
    have h := Str.below (World.alloc_heap_new (w.alloc (.cells #[.int .i64 op, .int .i64 d, .int .i64 e, .int .i64 ra, .int .i64 rb, .int .i64 rc, .int .i32 imm, .slice A n k] 24)) (.cells #[.int .i32 a, .int .i32 b, .int .i32 c] 111)) ((Below.refl _ _).alloc (Nat.le_refl _) (.cells #[.int .i32 0, .int .i32 0, .int .i32 0] 111))
    simp only [World.size_alloc] at h
    rw [← hW3]
    exact h
  have hsz : Str W3 (w.heap.size + 2) 111 [.int .i32 0, .int .i32 0, .int .i32 0] := by
    have h := World.alloc_heap_new ((w.alloc (.cells #[.int .i64 op, .int .i64 d, .int .i64 e, .int .i64 ra, .int .i64 rb, .int .i64 rc, .int .i32 imm, .slice A n k] 24)).alloc (.cells #[.int .i32 a, .int .i32 b, .int .i32 c] 111)) (.cells #[.int .i32 0, .int .i32 0, .int .i32 0] 111)
    simp only [World.size_alloc] at h
    rw [← hW3]
    exact h
  rw [hW3]
  clear hW3
  have i0 : W3.cell? ⟨w.heap.size, 0, none⟩ = some (.int .i64 op) := hsi.cell 0
  have i1 : W3.cell? ⟨w.heap.size, 1, none⟩ = some (.int .i64 d) := hsi.cell 1
  have i2 : W3.cell? ⟨w.heap.size, 2, none⟩ = some (.int .i64 e) := hsi.cell 2
  have i3 : W3.cell? ⟨w.heap.size, 3, none⟩ = some (.int .i64 ra) := hsi.cell 3
  have i4 : W3.cell? ⟨w.heap.size, 4, none⟩ = some (.int .i64 rb) := hsi.cell 4
  have i5 : W3.cell? ⟨w.heap.size, 5, none⟩ = some (.int .i64 rc) := hsi.cell 5
  have i6 : W3.cell? ⟨w.heap.size, 6, none⟩ = some (.int .i32 imm) := hsi.cell 6
  have i7 : W3.cell? ⟨w.heap.size, 7, none⟩ = some (.slice A n k) := hsi.cell 7
  have a0 : W3.cell? ⟨w.heap.size + 1, 0, none⟩ = some (.int .i32 a) := hsa.cell 0
  have a1 : W3.cell? ⟨w.heap.size + 1, 1, none⟩ = some (.int .i32 b) := hsa.cell 1
  have a2 : W3.cell? ⟨w.heap.size + 1, 2, none⟩ = some (.int .i32 c) := hsa.cell 2
  have HB3 := Lib.hid hb3
  have HSZ := Lib.hid hsz
  clear hb3 hsi hsa hsz
  go_wp2_with fail
  refine (mload_any W3 B _ m (HM.out.below HB3.out) hl (wrap32 (a + imm)) (wrap32_bd _)).mono ?_
  rintro e' w4 ⟨rfl, ho, hgr⟩
  have hne : (Value.slice mA mn mc).ownBlock ≠ some (w.heap.size + 2) := fun e => by have := (OwnWords.where_ HM.out e).2; omega
  have hsz4 : Str w4 (w.heap.size + 2) 111 [.int .i32 0, .int .i32 0, .int .i32 0] := HSZ.out.kept hgr (fun e => hne e.symm)
  have hz0 := hsz4.cell 0
  have hz1 := hsz4.cell 1
  have hz2 := hsz4.cell 2
  have y0 := hsz4.frozen 0
  have y1 := hsz4.frozen 1
  have y2 := hsz4.frozen 2
  have HG4 := Lib.hid (grown_trans (grown_own HB3.out) hgr)
  have HO4 := Lib.hid ho
  have HNE := Lib.hid hne
  generalize loadF (wrap32 (a + imm)) m = f at *
  clear hgr ho hne hsz4 HSZ HB3 i0 i1 i2 i3 i4 i5 i6 i7 a0 a1 a2
  go_wp2
  refine ⟨rfl, .tuple #[.agg #[.int .i32 f.x, .int .i32 f.y, .int .i32 0], .int .i32 f.trap], ?_, ?_⟩
  · simp only [results]
    go_simp
  · exact ⟨rfl, OwnWords.but HO4.out (three_but _ _ _) HNE.out, grown_but HG4.out (three_but _ _ _) (by omega)⟩
set_option maxRecDepth 100000 in
set_option maxHeartbeats 4000000 in
theorem loadedAtSum_any (w : World) (B : Nat) (mv : Value) (m : List Int) (hm : OwnWords B w mv m) (hl : m.length ≤ 1000000) (op d e ra rb rc imm a b c : Int) (A : Option Addr) (n k : Nat) (hi : InW imm) (ha : InW a) (hb : InW b) (hc : InW c)  :
    Calls Try.prog 66 #[.agg #[.int .i64 op, .int .i64 d, .int .i64 e, .int .i64 ra, .int .i64 rb, .int .i64 rc, .int .i32 imm, .slice A n k], .agg #[.int .i32 a, .int .i32 b, .int .i32 c], mv] w (FxPost B mv (loadF (wrap32 (a + b)) m) w) := by
  obtain ⟨mA, mn, mc, rfl⟩ := OwnWords.slice hm
  have HM := Lib.hid hm
  clear hm
  go_enter Try.func66, Try.ntmps66
  go_upto_region 1 with (fail)
  obtain ⟨W3, hW3⟩ : ∃ W3, ((w.alloc (.cells #[.int .i64 op, .int .i64 d, .int .i64 e, .int .i64 ra, .int .i64 rb, .int .i64 rc, .int .i32 imm, .slice A n k] 24)).alloc (.cells #[.int .i32 a, .int .i32 b, .int .i32 c] 111)).alloc (.cells #[.int .i32 0, .int .i32 0, .int .i32 0] 111) = W3 := ⟨_, rfl⟩
  have hb3 : Below w.heap.size w W3 := by rw [← hW3]; exact (((Below.refl _ _).alloc (Nat.le_refl _) _).alloc (by simp) _).alloc (by simp; omega) _
  have hsi : Str W3 w.heap.size 24 [.int .i64 op, .int .i64 d, .int .i64 e, .int .i64 ra, .int .i64 rb, .int .i64 rc, .int .i32 imm, .slice A n k] := by
    rw [← hW3]
    exact Str.below (Str.below (World.alloc_heap_new w _) ((Below.refl _ _).alloc (Nat.le_refl _) _)) ((Below.refl _ _).alloc (Nat.le_refl _) _)
  have hsa : Str W3 (w.heap.size + 1) 111 [.int .i32 a, .int .i32 b, .int .i32 c] := by
    have h := Str.below (World.alloc_heap_new (w.alloc (.cells #[.int .i64 op, .int .i64 d, .int .i64 e, .int .i64 ra, .int .i64 rb, .int .i64 rc, .int .i32 imm, .slice A n k] 24)) (.cells #[.int .i32 a, .int .i32 b, .int .i32 c] 111)) ((Below.refl _ _).alloc (Nat.le_refl _) (.cells #[.int .i32 0, .int .i32 0, .int .i32 0] 111))
    simp only [World.size_alloc] at h
    rw [← hW3]
    exact h
  have hsz : Str W3 (w.heap.size + 2) 111 [.int .i32 0, .int .i32 0, .int .i32 0] := by
    have h := World.alloc_heap_new ((w.alloc (.cells #[.int .i64 op, .int .i64 d, .int .i64 e, .int .i64 ra, .int .i64 rb, .int .i64 rc, .int .i32 imm, .slice A n k] 24)).alloc (.cells #[.int .i32 a, .int .i32 b, .int .i32 c] 111)) (.cells #[.int .i32 0, .int .i32 0, .int .i32 0] 111)
    simp only [World.size_alloc] at h
    rw [← hW3]
    exact h
  rw [hW3]
  clear hW3
  have i0 : W3.cell? ⟨w.heap.size, 0, none⟩ = some (.int .i64 op) := hsi.cell 0
  have i1 : W3.cell? ⟨w.heap.size, 1, none⟩ = some (.int .i64 d) := hsi.cell 1
  have i2 : W3.cell? ⟨w.heap.size, 2, none⟩ = some (.int .i64 e) := hsi.cell 2
  have i3 : W3.cell? ⟨w.heap.size, 3, none⟩ = some (.int .i64 ra) := hsi.cell 3
  have i4 : W3.cell? ⟨w.heap.size, 4, none⟩ = some (.int .i64 rb) := hsi.cell 4
  have i5 : W3.cell? ⟨w.heap.size, 5, none⟩ = some (.int .i64 rc) := hsi.cell 5
  have i6 : W3.cell? ⟨w.heap.size, 6, none⟩ = some (.int .i32 imm) := hsi.cell 6
  have i7 : W3.cell? ⟨w.heap.size, 7, none⟩ = some (.slice A n k) := hsi.cell 7
  have a0 : W3.cell? ⟨w.heap.size + 1, 0, none⟩ = some (.int .i32 a) := hsa.cell 0
  have a1 : W3.cell? ⟨w.heap.size + 1, 1, none⟩ = some (.int .i32 b) := hsa.cell 1
  have a2 : W3.cell? ⟨w.heap.size + 1, 2, none⟩ = some (.int .i32 c) := hsa.cell 2
  have HB3 := Lib.hid hb3
  have HSZ := Lib.hid hsz
  clear hb3 hsi hsa hsz
  go_wp2_with fail
  refine (mload_any W3 B _ m (HM.out.below HB3.out) hl (wrap32 (a + b)) (wrap32_bd _)).mono ?_
  rintro e' w4 ⟨rfl, ho, hgr⟩
  have hne : (Value.slice mA mn mc).ownBlock ≠ some (w.heap.size + 2) := fun e => by have := (OwnWords.where_ HM.out e).2; omega
  have hsz4 : Str w4 (w.heap.size + 2) 111 [.int .i32 0, .int .i32 0, .int .i32 0] := HSZ.out.kept hgr (fun e => hne e.symm)
  have hz0 := hsz4.cell 0
  have hz1 := hsz4.cell 1
  have hz2 := hsz4.cell 2
  have y0 := hsz4.frozen 0
  have y1 := hsz4.frozen 1
  have y2 := hsz4.frozen 2
  have HG4 := Lib.hid (grown_trans (grown_own HB3.out) hgr)
  have HO4 := Lib.hid ho
  have HNE := Lib.hid hne
  generalize loadF (wrap32 (a + b)) m = f at *
  clear hgr ho hne hsz4 HSZ HB3 i0 i1 i2 i3 i4 i5 i6 i7 a0 a1 a2
  go_wp2
  refine ⟨rfl, .tuple #[.agg #[.int .i32 f.x, .int .i32 f.y, .int .i32 0], .int .i32 f.trap], ?_, ?_⟩
  · simp only [results]
    go_simp
  · exact ⟨rfl, OwnWords.but HO4.out (three_but _ _ _) HNE.out, grown_but HG4.out (three_but _ _ _) (by omega)⟩
set_option maxRecDepth 100000 in
set_option maxHeartbeats 4000000 in
theorem stored_any (w : World) (B : Nat) (mv : Value) (m : List Int) (hm : OwnWords B w mv m) (hl : m.length ≤ 1000000) (op d e ra rb rc imm a b c : Int) (A : Option Addr) (n k : Nat) (hi : InW imm) (ha : InW a) (hb : InW b) (hc : InW c)  :
    Calls Try.prog 67 #[.agg #[.int .i64 op, .int .i64 d, .int .i64 e, .int .i64 ra, .int .i64 rb, .int .i64 rc, .int .i32 imm, .slice A n k], .agg #[.int .i32 a, .int .i32 b, .int .i32 c], mv] w (FxPost B mv (storeF (wrap32 (a + imm)) b m) w) := by
  obtain ⟨mA, mn, mc, rfl⟩ := OwnWords.slice hm
  have HM := Lib.hid hm
  clear hm
  go_enter Try.func67, Try.ntmps67
  go_upto_region 1 with (fail)
  obtain ⟨W3, hW3⟩ : ∃ W3, ((w.alloc (.cells #[.int .i64 op, .int .i64 d, .int .i64 e, .int .i64 ra, .int .i64 rb, .int .i64 rc, .int .i32 imm, .slice A n k] 24)).alloc (.cells #[.int .i32 a, .int .i32 b, .int .i32 c] 111)).alloc (.cells #[.int .i32 0, .int .i32 0, .int .i32 0] 111) = W3 := ⟨_, rfl⟩
  have hb3 : Below w.heap.size w W3 := by rw [← hW3]; exact (((Below.refl _ _).alloc (Nat.le_refl _) _).alloc (by simp) _).alloc (by simp; omega) _
  have hsi : Str W3 w.heap.size 24 [.int .i64 op, .int .i64 d, .int .i64 e, .int .i64 ra, .int .i64 rb, .int .i64 rc, .int .i32 imm, .slice A n k] := by
    rw [← hW3]
    exact Str.below (Str.below (World.alloc_heap_new w _) ((Below.refl _ _).alloc (Nat.le_refl _) _)) ((Below.refl _ _).alloc (Nat.le_refl _) _)
  have hsa : Str W3 (w.heap.size + 1) 111 [.int .i32 a, .int .i32 b, .int .i32 c] := by
    have h := Str.below (World.alloc_heap_new (w.alloc (.cells #[.int .i64 op, .int .i64 d, .int .i64 e, .int .i64 ra, .int .i64 rb, .int .i64 rc, .int .i32 imm, .slice A n k] 24)) (.cells #[.int .i32 a, .int .i32 b, .int .i32 c] 111)) ((Below.refl _ _).alloc (Nat.le_refl _) (.cells #[.int .i32 0, .int .i32 0, .int .i32 0] 111))
    simp only [World.size_alloc] at h
    rw [← hW3]
    exact h
  have hsz : Str W3 (w.heap.size + 2) 111 [.int .i32 0, .int .i32 0, .int .i32 0] := by
    have h := World.alloc_heap_new ((w.alloc (.cells #[.int .i64 op, .int .i64 d, .int .i64 e, .int .i64 ra, .int .i64 rb, .int .i64 rc, .int .i32 imm, .slice A n k] 24)).alloc (.cells #[.int .i32 a, .int .i32 b, .int .i32 c] 111)) (.cells #[.int .i32 0, .int .i32 0, .int .i32 0] 111)
    simp only [World.size_alloc] at h
    rw [← hW3]
    exact h
  rw [hW3]
  clear hW3
  have i0 : W3.cell? ⟨w.heap.size, 0, none⟩ = some (.int .i64 op) := hsi.cell 0
  have i1 : W3.cell? ⟨w.heap.size, 1, none⟩ = some (.int .i64 d) := hsi.cell 1
  have i2 : W3.cell? ⟨w.heap.size, 2, none⟩ = some (.int .i64 e) := hsi.cell 2
  have i3 : W3.cell? ⟨w.heap.size, 3, none⟩ = some (.int .i64 ra) := hsi.cell 3
  have i4 : W3.cell? ⟨w.heap.size, 4, none⟩ = some (.int .i64 rb) := hsi.cell 4
  have i5 : W3.cell? ⟨w.heap.size, 5, none⟩ = some (.int .i64 rc) := hsi.cell 5
  have i6 : W3.cell? ⟨w.heap.size, 6, none⟩ = some (.int .i32 imm) := hsi.cell 6
  have i7 : W3.cell? ⟨w.heap.size, 7, none⟩ = some (.slice A n k) := hsi.cell 7
  have a0 : W3.cell? ⟨w.heap.size + 1, 0, none⟩ = some (.int .i32 a) := hsa.cell 0
  have a1 : W3.cell? ⟨w.heap.size + 1, 1, none⟩ = some (.int .i32 b) := hsa.cell 1
  have a2 : W3.cell? ⟨w.heap.size + 1, 2, none⟩ = some (.int .i32 c) := hsa.cell 2
  have HB3 := Lib.hid hb3
  have HSZ := Lib.hid hsz
  clear hb3 hsi hsa hsz
  go_wp2_with fail
  refine (mstore_any W3 B _ m (HM.out.below HB3.out) hl (wrap32 (a + imm)) b (wrap32_bd _)).mono ?_
  rintro e' w4 ⟨rfl, ho, hgr⟩
  have hne : (Value.slice mA mn mc).ownBlock ≠ some (w.heap.size + 2) := fun e => by have := (OwnWords.where_ HM.out e).2; omega
  have hsz4 : Str w4 (w.heap.size + 2) 111 [.int .i32 0, .int .i32 0, .int .i32 0] := HSZ.out.kept hgr (fun e => hne e.symm)
  have hz0 := hsz4.cell 0
  have hz1 := hsz4.cell 1
  have hz2 := hsz4.cell 2
  have y0 := hsz4.frozen 0
  have y1 := hsz4.frozen 1
  have y2 := hsz4.frozen 2
  have HG4 := Lib.hid (grown_trans (grown_own HB3.out) hgr)
  have HO4 := Lib.hid ho
  have HNE := Lib.hid hne
  generalize storeF (wrap32 (a + imm)) b m = f at *
  clear hgr ho hne hsz4 HSZ HB3 i0 i1 i2 i3 i4 i5 i6 i7 a0 a1 a2
  go_wp2
  refine ⟨rfl, .tuple #[.agg #[.int .i32 f.x, .int .i32 f.y, .int .i32 0], .int .i32 f.trap], ?_, ?_⟩
  · simp only [results]
    go_simp
  · exact ⟨rfl, OwnWords.but HO4.out (three_but _ _ _) HNE.out, grown_but HG4.out (three_but _ _ _) (by omega)⟩
set_option maxRecDepth 100000 in
set_option maxHeartbeats 4000000 in
theorem storedAtSum_any (w : World) (B : Nat) (mv : Value) (m : List Int) (hm : OwnWords B w mv m) (hl : m.length ≤ 1000000) (op d e ra rb rc imm a b c : Int) (A : Option Addr) (n k : Nat) (hi : InW imm) (ha : InW a) (hb : InW b) (hc : InW c)  :
    Calls Try.prog 68 #[.agg #[.int .i64 op, .int .i64 d, .int .i64 e, .int .i64 ra, .int .i64 rb, .int .i64 rc, .int .i32 imm, .slice A n k], .agg #[.int .i32 a, .int .i32 b, .int .i32 c], mv] w (FxPost B mv (storeF (wrap32 (a + b)) c m) w) := by
  obtain ⟨mA, mn, mc, rfl⟩ := OwnWords.slice hm
  have HM := Lib.hid hm
  clear hm
  go_enter Try.func68, Try.ntmps68
  go_upto_region 1 with (fail)
  obtain ⟨W3, hW3⟩ : ∃ W3, ((w.alloc (.cells #[.int .i64 op, .int .i64 d, .int .i64 e, .int .i64 ra, .int .i64 rb, .int .i64 rc, .int .i32 imm, .slice A n k] 24)).alloc (.cells #[.int .i32 a, .int .i32 b, .int .i32 c] 111)).alloc (.cells #[.int .i32 0, .int .i32 0, .int .i32 0] 111) = W3 := ⟨_, rfl⟩
  have hb3 : Below w.heap.size w W3 := by rw [← hW3]; exact (((Below.refl _ _).alloc (Nat.le_refl _) _).alloc (by simp) _).alloc (by simp; omega) _
  have hsi : Str W3 w.heap.size 24 [.int .i64 op, .int .i64 d, .int .i64 e, .int .i64 ra, .int .i64 rb, .int .i64 rc, .int .i32 imm, .slice A n k] := by
    rw [← hW3]
    exact Str.below (Str.below (World.alloc_heap_new w _) ((Below.refl _ _).alloc (Nat.le_refl _) _)) ((Below.refl _ _).alloc (Nat.le_refl _) _)
  have hsa : Str W3 (w.heap.size + 1) 111 [.int .i32 a, .int .i32 b, .int .i32 c] := by
    have h := Str.below (World.alloc_heap_new (w.alloc (.cells #[.int .i64 op, .int .i64 d, .int .i64 e, .int .i64 ra, .int .i64 rb, .int .i64 rc, .int .i32 imm, .slice A n k] 24)) (.cells #[.int .i32 a, .int .i32 b, .int .i32 c] 111)) ((Below.refl _ _).alloc (Nat.le_refl _) (.cells #[.int .i32 0, .int .i32 0, .int .i32 0] 111))
    simp only [World.size_alloc] at h
    rw [← hW3]
    exact h
  have hsz : Str W3 (w.heap.size + 2) 111 [.int .i32 0, .int .i32 0, .int .i32 0] := by
    have h := World.alloc_heap_new ((w.alloc (.cells #[.int .i64 op, .int .i64 d, .int .i64 e, .int .i64 ra, .int .i64 rb, .int .i64 rc, .int .i32 imm, .slice A n k] 24)).alloc (.cells #[.int .i32 a, .int .i32 b, .int .i32 c] 111)) (.cells #[.int .i32 0, .int .i32 0, .int .i32 0] 111)
    simp only [World.size_alloc] at h
    rw [← hW3]
    exact h
  rw [hW3]
  clear hW3
  have i0 : W3.cell? ⟨w.heap.size, 0, none⟩ = some (.int .i64 op) := hsi.cell 0
  have i1 : W3.cell? ⟨w.heap.size, 1, none⟩ = some (.int .i64 d) := hsi.cell 1
  have i2 : W3.cell? ⟨w.heap.size, 2, none⟩ = some (.int .i64 e) := hsi.cell 2
  have i3 : W3.cell? ⟨w.heap.size, 3, none⟩ = some (.int .i64 ra) := hsi.cell 3
  have i4 : W3.cell? ⟨w.heap.size, 4, none⟩ = some (.int .i64 rb) := hsi.cell 4
  have i5 : W3.cell? ⟨w.heap.size, 5, none⟩ = some (.int .i64 rc) := hsi.cell 5
  have i6 : W3.cell? ⟨w.heap.size, 6, none⟩ = some (.int .i32 imm) := hsi.cell 6
  have i7 : W3.cell? ⟨w.heap.size, 7, none⟩ = some (.slice A n k) := hsi.cell 7
  have a0 : W3.cell? ⟨w.heap.size + 1, 0, none⟩ = some (.int .i32 a) := hsa.cell 0
  have a1 : W3.cell? ⟨w.heap.size + 1, 1, none⟩ = some (.int .i32 b) := hsa.cell 1
  have a2 : W3.cell? ⟨w.heap.size + 1, 2, none⟩ = some (.int .i32 c) := hsa.cell 2
  have HB3 := Lib.hid hb3
  have HSZ := Lib.hid hsz
  clear hb3 hsi hsa hsz
  go_wp2_with fail
  refine (mstore_any W3 B _ m (HM.out.below HB3.out) hl (wrap32 (a + b)) c (wrap32_bd _)).mono ?_
  rintro e' w4 ⟨rfl, ho, hgr⟩
  have hne : (Value.slice mA mn mc).ownBlock ≠ some (w.heap.size + 2) := fun e => by have := (OwnWords.where_ HM.out e).2; omega
  have hsz4 : Str w4 (w.heap.size + 2) 111 [.int .i32 0, .int .i32 0, .int .i32 0] := HSZ.out.kept hgr (fun e => hne e.symm)
  have hz0 := hsz4.cell 0
  have hz1 := hsz4.cell 1
  have hz2 := hsz4.cell 2
  have y0 := hsz4.frozen 0
  have y1 := hsz4.frozen 1
  have y2 := hsz4.frozen 2
  have HG4 := Lib.hid (grown_trans (grown_own HB3.out) hgr)
  have HO4 := Lib.hid ho
  have HNE := Lib.hid hne
  generalize storeF (wrap32 (a + b)) c m = f at *
  clear hgr ho hne hsz4 HSZ HB3 i0 i1 i2 i3 i4 i5 i6 i7 a0 a1 a2
  go_wp2
  refine ⟨rfl, .tuple #[.agg #[.int .i32 f.x, .int .i32 f.y, .int .i32 0], .int .i32 f.trap], ?_, ?_⟩
  · simp only [results]
    go_simp
  · exact ⟨rfl, OwnWords.but HO4.out (three_but _ _ _) HNE.out, grown_but HG4.out (three_but _ _ _) (by omega)⟩
end Go.Proofs.Ytdidacjmcafcpaa.Mc
