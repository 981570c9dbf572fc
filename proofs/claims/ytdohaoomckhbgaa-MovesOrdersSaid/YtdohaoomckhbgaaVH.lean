/- Moves: a circle's turn. -/
import Derived.Test.YtdohaoomckhbgaaVG
namespace Go.Proofs.Ytdohaoomckhbgaa.Vm
open Go.ChangeShapes Go.WideShapes Go.ChangeAt Go.RowKit Go.Maps Go.WideElems Go.ChangeMaps Go.Sort Go.Shelf Go.Proofs.Ytdohaoomckhbgaa.Mem Go.Proofs.Ytdohaoomckhbgaa.Br Go.Proofs.Ytdohaoomckhbgaa.Va Go.Proofs.Ytdohaoomckhbgaa.Vr
set_option linter.unusedVariables false
set_option linter.unusedSimpArgs false
attribute [local go_sem] Oper.semAt_some
theorem below_tn {B lo : Nat} {w0 w w' : World} (hb : Below B w0 w) (hB : B ≤ lo) (hz : B ≤ w.heap.size) (ht : Tn nothing lo w w') : Below B w0 w' :=
  hb.trans ⟨ht.os, ht.tape, ht.output, ht.size, fun k hk => by
    have h3 := Array.getElem?_eq_some_iff.2 ⟨Nat.lt_of_lt_of_le hk hz, rfl⟩
    exact (ht.block k _ h3 id (Or.inl (by omega))).trans h3.symm⟩
theorem Str.tn {M : Nat → Prop} {lo : Nat} {w w' : World} {k : Nat} {t : TypeId} {vs : List Value} (h : Str w k t vs) (ht : Tn M lo w w') (hM : ¬ M k) : Str w' k t vs := ht.block _ _ h hM (Or.inr rfl)
theorem marks_one {lo D : Nat} {W : World} (h : lo ≤ D) (hK : W.heap[D]? = some (.deferred (some []))) : Marks lo W.heap.size [{ target := .collected D, args := #[] }] W := .cons h (Array.getElem?_eq_some_iff.1 hK).1 hK .nil (fun d hd => by cases hd)
theorem keepsF_below {B : Nat} {W W' : World} (h : Below W.heap.size W W') : KeepsFrom B W W' := ⟨h.size, fun k o _ hk _ => (h.block k (Array.getElem?_eq_some_iff.1 hk).1).trans hk⟩
/-- Whether a place of a circle is a slot. -/
def anySlot (l : List Int) : Bool := l.any fun p => !decide (p < 16)
theorem circ_to (f : Int → Int) (x : Int) (j : Nat) : (circ f x j ++ [(it f x j, it f x (j + 1))]) = circ f x (j + 1) := (circ_succ f x j).symm
set_option maxRecDepth 100000 in
set_option maxHeartbeats 2000000 in
theorem hasSlot_any (w : World) (bf bt c K : Nat) (L : List Mov) (x : Int) (N : Nat) (hP : PendAt w bf bt c K L) (hx : InI x) (hC : Closed (srcD L) x N) :
    Calls Try.prog 80 #[pendV bf bt, .int .i64 x] w fun e w' => e = .returned (.bool (anySlot (orb (srcD L) x N))) ∧ Below w.heap.size w w' := by
  refine (callsIn_wide (n := 9)).1 ?_
  refine callsIn_of_wp_marks Try.func80 rfl trivial ?_ rfl
  simp only [Try.ntmps80, List.size_toArray, List.length_cons, List.length_nil, Nat.reduceAdd, Nat.reduceSub, Array.replicate_succ, Array.replicate_zero, List.push_toArray, List.append_toArray, List.nil_append, List.cons_append]
  obtain ⟨W1, hW1⟩ : ∃ W1, w.alloc (.cells #[.map (some bf), .map (some bt)] 74) = W1 := ⟨_, rfl⟩
  have hb1 : Below w.heap.size w W1 := by rw [← hW1]; exact (Below.refl _ _).alloc (Nat.le_refl _) _
  have hs1 : Str W1 w.heap.size 74 [.map (some bf), .map (some bt)] := by rw [← hW1]; exact World.alloc_heap_new w _
  obtain ⟨W2, hW2⟩ : ∃ W2, W1.alloc (.cells #[.bool false] 4) = W2 := ⟨_, rfl⟩
  have hb2 : Below W1.heap.size W1 W2 := by rw [← hW2]; exact (Below.refl _ _).alloc (Nat.le_refl _) _
  have hs2 : Str W2 W1.heap.size 4 [.bool false] := by rw [← hW2]; exact World.alloc_heap_new W1 _
  have hs12 := hs1.below hb2
  have m0 : W2.cell? ⟨w.heap.size, 0, none⟩ = some (.map (some bf)) := hs12.cell 0
  have m1 : W2.cell? ⟨w.heap.size, 1, none⟩ = some (.map (some bt)) := hs12.cell 1
  have hz1 := hs1.lt
  have hz2 := hs2.lt
  have HB := Lib.hid (hb1.trans (hb2.mono (by omega)))
  have HS2 := Lib.hid hs2
  have HP2 := Lib.hid ((hP.below hb1).below hb2)
  have HX := Lib.hid hx
  have HC := Lib.hid hC
  clear hP hx hC hb1 hs1 hb2 hs2 hs12
  gi_wp2_with fail
  refine ⟨trivial, ?_⟩
  refine (callsIn_wide.2 (circle_call W2 bf bt x)).mono ?_
  rintro e w6 ⟨rfl, hw6⟩
  have hb6 : Below W2.heap.size W2 w6 := by rw [hw6]; exact ((Below.refl _ _).alloc (Nat.le_refl _) _).alloc (by simp) _
  have hc6 : CircS (W2.heap.size + 1) W2.heap.size bf bt c L x w6 := by
    refine ⟨?_, ?_, HP2.out.from_.below hb6⟩
    · rw [hw6]; exact (Below.heap_alloc _ _ _ (by simp)).trans (World.alloc_heap_new W2 _)
    · rw [hw6]; have := World.alloc_heap_new (W2.alloc (.cells #[.map (some bf), .map (some bt)] 74)) (.cells #[.int .i64 x] 3); rwa [World.size_alloc] at this
  have HS6 := Lib.hid (HS2.out.below hb6)
  have HB6 := Lib.hid (HB.out.trans (hb6.mono (by omega)))
  have HC6 := Lib.hid hc6
  have HF6 := Lib.hid (HP2.out.from_.below hb6).lt
  have hz6 : W2.heap.size + 1 < w6.heap.size := hc6.start.lt
  clear hw6 hb6 hc6 m0 m1 hW1 hW2
  gi_wp2_with fail
  refine wp_range (F := Fence.wide) rfl (by omega) (gf := 72) (lb := #[.pointer (some ⟨W2.heap.size + 1, 0, none⟩), .pointer (some ⟨W2.heap.size, 0, none⟩)]) rfl trivial (enters_of Try.func72 (by kernel_rfl) rfl)
    (circle_seq 8 (by omega) w6 (W2.heap.size + 1) W2.heap.size bf bt c L x N HC6.out HX.out HC.out) (fun k h => h.elim) (fun k o h => Or.inl (by have := HF6.out; rcases h with h | h | h <;> omega)) (fun _ => rfl) (fun xs W l o h _ => h)
    (fun pre W => Str W W1.heap.size 4 [.bool false] ∧ Below w.heap.size w W ∧ anySlot (pre.map (·.1)) = false)
    (fun cc pre W => cc = .ret ∧ Str W W1.heap.size 4 [.bool true] ∧ Below w.heap.size w W ∧ anySlot (orb (srcD L) x N) = true)
    (fun s A B h ht => ⟨Str.tn h.1 ht id, below_tn h.2.1 (by omega) h.2.1.size ht, h.2.2⟩) (fun cc s A B h ht => ⟨h.1, Str.tn h.2.1 ht id, below_tn h.2.2.1 (by omega) h.2.2.1.size ht, h.2.2.2⟩) ⟨HS6.out, HB6.out, rfl⟩
    (fun m => { tmps := #[pendV bf bt, .int .i64 x, .pointer (some ⟨w.heap.size, 0, none⟩), undef, .pointer (some ⟨W1.heap.size, 0, none⟩), .int .i64 m.1, pendV bf bt, .int .i64 x, .func (.func 72) #[] #[.pointer (some ⟨W2.heap.size + 1, 0, none⟩), .pointer (some ⟨W2.heap.size, 0, none⟩)], .int .i64 m.1, .int .i64 m.2, undef, undef, undef], defers := [] }) ?assign ?body ?done ?stop
  case assign =>
    intro l m W K hK
    gi_wp2
    exact hK
  case body =>
    rintro l pre m W hz ⟨hsW, hbW, haW⟩ ⟨j, hj, rfl, rfl⟩
    have k0 : W.cell? ⟨W1.heap.size, 0, none⟩ = some (.bool false) := hsW.cell 0
    have kf := hsW.frozen 0
    have hb2 := hbW.setCell (p := ⟨W1.heap.size, 0, none⟩) (by show w.heap.size ≤ W1.heap.size; omega) (.bool true)
    have hs2 : Str (W.setCell ⟨W1.heap.size, 0, none⟩ (.bool true)) W1.heap.size 4 [.bool true] := hsW.set 0 _
    have HST := Lib.hid hs2
    have HBT := Lib.hid hb2
    have HSW := Lib.hid hsW
    have HBW := Lib.hid hbW
    have haW' : anySlot (orb (srcD L) x j) = false := by rw [← circ_fst]; exact haW
    have hmem : it (srcD L) x j ∈ orb (srcD L) x N := mem_orb.2 ⟨j, hj, rfl⟩
    have HAS := Lib.hid (show anySlot ((circ (srcD L) x j ++ [(it (srcD L) x j, it (srcD L) x (j + 1))]).map (·.1)) = !decide (it (srcD L) x j < 16) by
      rw [circ_to, circ_fst, orb_succ]
      unfold anySlot at haW' ⊢
      rw [List.any_append, haW']; simp)
    have HMM := Lib.hid hmem
    clear hsW hbW haW haW' hs2 hb2 hmem
    gi_wp2_with fail
    refine ⟨trivial, ?_⟩
    refine (CallsIn.inRound l (callsIn_wide.2 (isReg_any W (it (srcD L) x j)))).mono ?_
    rintro e w' ⟨rfl, hw'⟩
    obtain rfl : W = w' := hw'.symm
    cases hd : decide (it (srcD L) x j < 16) with
    | true =>
      have HA2 := Lib.hid (HAS.out.trans (by rw [hd]; try rfl))
      clear hd
      gi_wp2
      exact ⟨KeepsFrom.refl _ _, Rd.refl _ _, HSW.out, HBW.out, HA2.out⟩
    | false =>
      have HA2 := Lib.hid (show anySlot (orb (srcD L) x N) = true by unfold anySlot; rw [List.any_eq_true]; exact ⟨_, HMM.out, by rw [hd]; rfl⟩)
      clear hd
      gi_wp2
      exact ⟨(KeepsOthers.setCell _ _ _).from _, rfl, HST.out, HBT.out, HA2.out⟩
  case done =>
    rintro D xs W hD rfl ⟨hsW, hbW, haW⟩ hK
    rw [circ_fst] at haW
    have HM := Lib.hid (marks_one (lo := w.heap.size) (by omega) hK)
    have HSW := Lib.hid hsW
    have HBW := Lib.hid hbW
    have HA := Lib.hid haW
    have k0 : W.cell? ⟨W1.heap.size, 0, none⟩ = some (.bool false) := hsW.cell 0
    have kf := hsW.frozen 0
    clear hsW hbW haW hK
    gi_wp2
    refine leave_marks (by simp) (HM.out.kept (Nat.le_refl _) (fun k hk hd => (KeepsOthers.setCell W ⟨W1.heap.size, 0, none⟩ (.bool false)).same k _ hd rfl)) fun w' ht => ?_
    have hs3 : Str w' W1.heap.size 4 [.bool false] := Str.tn (HSW.out.set 0 (.bool false)) ht id
    have c0 : w'.cell? ⟨W1.heap.size, 0, none⟩ = some (.bool false) := hs3.cell 0
    refine ⟨.bool false, ?_, by rw [HA.out], below_tn (HBW.out.setCell (p := ⟨W1.heap.size, 0, none⟩) (by show w.heap.size ≤ W1.heap.size; omega) _) (Nat.le_refl _) (by rw [size_set]; exact HBW.out.size) ht⟩
    simp only [results]; go_simp
  case stop =>
    rintro D cc pre W hD ⟨rfl, hsW, hbW, haW⟩ hK
    have HM := Lib.hid (marks_one (lo := w.heap.size) (by omega) hK)
    have HSW := Lib.hid hsW
    have HBW := Lib.hid hbW
    have HA := Lib.hid haW
    clear hsW hbW haW hK
    gi_wp2
    refine leave_marks (by simp) HM.out fun w' ht => ?_
    have hs3 : Str w' W1.heap.size 4 [.bool true] := Str.tn HSW.out ht id
    have c0 : w'.cell? ⟨W1.heap.size, 0, none⟩ = some (.bool true) := hs3.cell 0
    refine ⟨.bool true, ?_, by rw [HA.out], below_tn HBW.out (Nat.le_refl _) HBW.out.size ht⟩
    simp only [results]; go_simp
def appO (a b : Option (List PM)) : Option (List PM) := match a, b with | some x, some y => some (x ++ y) | _, _ => none
def seqO (g : Mov → Option (List PM)) (ms : List Mov) : Option (List PM) := ms.foldl (fun acc m => appO acc (g m)) (some [])
theorem seqO_snoc (g : Mov → Option (List PM)) (ms : List Mov) (m : Mov) : seqO g (ms ++ [m]) = appO (seqO g ms) (g m) := by unfold seqO; rw [List.foldl_append]; rfl
theorem appO_none_l (b : Option (List PM)) : appO none b = none := by cases b <;> rfl
theorem appO_none_r (a : Option (List PM)) : appO a none = none := by cases a <;> rfl
theorem seqO_none {g : Mov → Option (List PM)} {pre ms : List Mov} (h : pre <+: ms) (hn : seqO g pre = none) : seqO g ms = none := by
  obtain ⟨r, rfl⟩ := h
  unfold seqO at hn ⊢
  rw [List.foldl_append, hn]
  clear hn
  induction r with
  | nil => rfl
  | cons m r ih => rw [List.foldl_cons, appO_none_l]; exact ih
theorem bringN_len {sc sp a b : Int} {xs : List PM} (h : bringN sc sp a b = some xs) : xs.length ≤ 4 := by
  unfold bringN at h
  split at h
  · injection h with h; rw [← h]; simp
  · split at h
    · injection h with h; rw [← h]; simp
    · split at h
      · cases h
      · injection h with h; rw [← h]; simp
theorem seqO_len {g : Mov → Option (List PM)} (hg : ∀ m xs, g m = some xs → xs.length ≤ 4) : ∀ (ms : List Mov) (a ys : List PM), ms.foldl (fun acc m => appO acc (g m)) (some a) = some ys → ys.length ≤ a.length + 4 * ms.length
  | [], a, ys, h => by simp at h; rw [h]; simp
  | m :: ms, a, ys, h => by
    rw [List.foldl_cons] at h
    cases hm : g m with
    | none =>
      rw [hm, appO_none_r] at h
      have : seqO g ms = none ∨ True := Or.inr trivial
      exfalso
      have hx : ∀ (r : List Mov), r.foldl (fun acc m => appO acc (g m)) none = none := by
        intro r
        induction r with
        | nil => rfl
        | cons q r ih => rw [List.foldl_cons, appO_none_l]; exact ih
      rw [hx] at h; cases h
    | some xs =>
      rw [hm] at h
      have := seqO_len hg ms (a ++ xs) ys h
      have := hg m xs hm
      rw [List.length_append] at *
      rw [List.length_cons]; omega
def passG (sc sp x own : Int) (m : Mov) : Option (List PM) := bringN sc sp m.1 (if m.2 = x then own else m.2)
def passN (sc sp x own : Int) (ms : List Mov) : Option (List PM) := appO (bringN sc sp own x) (seqO (passG sc sp x own) ms)
def Pls (L : List Mov) : Prop := ∀ m ∈ L, InPl m.1 ∧ InPl m.2
theorem srcD_pl {L : List Mov} (h : Pls L) (x : Int) : InPl (srcD L x) := by
  unfold srcD
  cases e : L.find? fun m => m.1 == x with
  | none => exact ⟨Int.le_refl _, by show (0 : Int) < 16400; omega⟩
  | some m => exact (h m (List.mem_of_find?_eq_some e)).2
theorem it_pl {L : List Mov} (h : Pls L) {x : Int} (hx : InPl x) : ∀ i, InPl (it (srcD L) x i)
  | 0 => hx
  | i + 1 => srcD_pl h _
theorem InPl.inI {x : Int} (h : InPl x) : InI x := by unfold InPl at h; unfold InI; omega
theorem Lay.tn {ba lo : Nat} {w0 w w' : World} (h : Lay ba w0 w) (hlo : w0.heap.size ≤ lo) (ht : Tn nothing lo w w') : Lay ba w0 w' :=
  ⟨ht.os.trans h.os, ht.tape.trans h.tape, ht.output.trans h.output, Nat.le_trans h.size ht.size, fun k o hk h1 h2 => ht.block k o (h.block k o hk h1 h2) id (Or.inl (by have := (Array.getElem?_eq_some_iff.1 hk).1; omega))⟩
theorem LayAt.tn0 {lo : Nat} {w w' : World} {ba B : Nat} {l : List PM} (h : LayAt w ba B l) (ht : Tn nothing lo w w') : LayAt w' ba B l := h.tn ht (fun _ _ _ _ => id)
theorem keepsF_lay {B ba : Nat} {W W' : World} {l : List PM} {C : Nat} (hl : LayAt W ba C l) (h : Lay ba W W') : KeepsFrom B W W' := ⟨h.size, fun k o _ hk hc => h.block k o hk (fun e => by
  subst e; obtain ⟨v, h1, _⟩ := hl; have := hk.symm.trans h1; cases this; cases hc) (fun cur e => by subst e; cases hc)⟩
theorem lay_same {ba : Nat} {W W' : World} (h : Lay ba W W') {k : Nat} (hk : k < W.heap.size) (h1 : k ≠ ba) (h2 : ∀ cur : Array Value, W.heap[k]? ≠ some (Obj.cells cur 48 (0, 0))) : W'.heap[k]? = W.heap[k]? := by
  have h3 := Array.getElem?_eq_some_iff.2 ⟨hk, rfl⟩
  exact (h.block k _ h3 h1 (fun cur e => h2 cur (by rw [h3, e]))).trans h3.symm
theorem PendAt.lay {ba : Nat} {W W' : World} {bf bt c K : Nat} {L : List Mov} (hp : PendAt W bf bt c K L) (h : Lay ba W W') {l : List PM} {C : Nat} (hl : LayAt W ba C l) : PendAt W' bf bt c K L := by
  obtain ⟨e1, c1, h1⟩ := from_map hp.from_
  obtain ⟨e2, c2, h2⟩ := tak_map hp.tak
  obtain ⟨v, h3, _⟩ := hl
  exact hp.same (lay_same h hp.from_.lt (fun e => by subst e; have := h1.symm.trans h3; cases this) (fun cur e => by rw [h1] at e; cases e)) (lay_same h hp.tak.lt (fun e => by subst e; have := h2.symm.trans h3; cases this) (fun cur e => by rw [h2] at e; cases e))
theorem rd_lay {ba C : Nat} {W W' : World} {bx bp bf bt c : Nat} {L : List Mov} {x : Int} {l : List PM} (h : Lay ba W W') (hc : CircS bx bp bf bt c L x W) (hl : LayAt W ba C l) (h1 : bx ≠ ba) (h2 : bp ≠ ba) : Rd (rdC bx bp bf) W W' := fun k o hk hr => by
  rcases hr with rfl | rfl | rfl
  · exact h.block _ o hk h1 (fun cur e => by have := hk.symm.trans hc.start; cases this; cases e)
  · exact h.block _ o hk h2 (fun cur e => by have := hk.symm.trans hc.box; cases this; cases e)
  · obtain ⟨es, cl, hm⟩ := from_map hc.from_
    obtain ⟨v, h3, _⟩ := hl
    exact h.block _ o hk (fun e => by subst e; have := hm.symm.trans h3; cases this) (fun cur e => by have := hk.symm.trans hm; cases this; cases e)
theorem CircS.tn {M : Nat → Prop} {lo : Nat} {W W' : World} {bx bp bf bt c : Nat} {L : List Mov} {x : Int} (hc : CircS bx bp bf bt c L x W) (ht : Tn nothing lo W W') (hf : bf < lo) : CircS bx bp bf bt c L x W' := by
  obtain ⟨es, cl, hm⟩ := from_map hc.from_
  exact ⟨ht.block _ _ hc.box id (Or.inr rfl), ht.block _ _ hc.start id (Or.inr rfl), hc.from_.same ((ht.block _ _ hm id (Or.inl hf)).trans hm.symm)⟩
theorem LayAt.other {w : World} {ba B k i : Nat} {t : TypeId} {vs : List Value} {l : List PM} (h : LayAt w ba B l) (hs : Str w k t vs) (hk : k ≠ ba) (ht : t ≠ 48) (u : Value) : LayAt (w.setCell ⟨k, i, none⟩ u) ba B l := by
  obtain ⟨v, h1, h2⟩ := h
  exact ⟨v, (Below.heap_setCell _ _ _ _ (fun e => hk e.symm)).trans h1, own_same_row h2 (fun g cur hg => Below.heap_setCell _ _ _ _ (fun e => by
    have e : g = k := e
    subst e
    have := hg.symm.trans (show w.heap[g]? = _ from hs)
    injection this with this
    injection this with _ e2 _
    exact ht e2.symm))⟩
theorem Lay.set {ba k i : Nat} {w0 w : World} (h : Lay ba w0 w) (hk : w0.heap.size ≤ k) (u : Value) : Lay ba w0 (w.setCell ⟨k, i, none⟩ u) :=
  ⟨h.os, h.tape, h.output, by rw [size_set]; exact h.size, fun j o hj h1 h2 => (Below.heap_setCell _ _ _ _ (fun e => by have := (Array.getElem?_eq_some_iff.1 hj).1; have e : j = k := e; omega)).trans (h.block j o hj h1 h2)⟩
/-- What holds in the world while a circle is passed. -/
structure PassS (ba B : Nat) (sc sp x own : Int) (a1 a2 a3 a4 a5 : Nat) (bf bt c K : Nat) (L : List Mov) (w0 w : World) : Prop where
  b1 : Str w a1 70 [.func (.func 40) #[] #[.pointer (some ⟨ba, 0, none⟩)], .int .i64 sc, .int .i64 sp]
  b3 : Str w a3 3 [.int .i64 x]
  b4 : Str w a4 3 [.int .i64 own]
  b5 : Str w a5 4 [.bool false]
  lay : Lay ba w0 w
  below : Below (min B ba) w0 w
theorem PassS.laid {ba B : Nat} {sc sp x own : Int} {a1 a2 a3 a4 a5 bf bt c K : Nat} {L : List Mov} {w0 w w' : World} (h : PassS ba B sc sp x own a1 a2 a3 a4 a5 bf bt c K L w0 w) (hl : Lay ba w w') (hb : Below (min B ba) w w') (hne : a1 ≠ ba ∧ a3 ≠ ba ∧ a4 ≠ ba ∧ a5 ≠ ba) : PassS ba B sc sp x own a1 a2 a3 a4 a5 bf bt c K L w0 w' :=
  ⟨hl.str h.b1 hne.1 (by decide), hl.str h.b3 hne.2.1 (by decide), hl.str h.b4 hne.2.2.1 (by decide), hl.str h.b5 hne.2.2.2 (by decide), h.lay.trans hl, h.below.trans hb⟩
theorem PassS.tn {ba B lo : Nat} {sc sp x own : Int} {a1 a2 a3 a4 a5 bf bt c K : Nat} {L : List Mov} {w0 w w' : World} (h : PassS ba B sc sp x own a1 a2 a3 a4 a5 bf bt c K L w0 w) (ht : Tn nothing lo w w') (hlo : w0.heap.size ≤ lo) (hB : min B ba ≤ lo) (hz : min B ba ≤ w.heap.size) : PassS ba B sc sp x own a1 a2 a3 a4 a5 bf bt c K L w0 w' :=
  ⟨Str.tn h.b1 ht id, Str.tn h.b3 ht id, Str.tn h.b4 ht id, Str.tn h.b5 ht id, h.lay.tn hlo ht, below_tn h.below hB hz ht⟩
set_option maxRecDepth 100000 in
set_option maxHeartbeats 4000000 in
theorem pass_any (w : World) (ba B : Nat) (l : List PM) (sc sp x own : Int) (bf bt c K : Nat) (L : List Mov) (N : Nat) (hL : LayAt w ba B l) (hB : B ≤ w.heap.size) (hl : l.length ≤ 500000) (hsc : sc < 16) (hsp : sp < 16383) (hP : PendAt w bf bt c K L) (hpl : Pls L) (hx : InPl x) (ho : InPl own) (hC : Closed (srcD L) x N) (hN : N ≤ 20000) :
    Calls Try.prog 81 #[carV ba sc sp, pendV bf bt, .int .i64 x, .int .i64 own] w (RunRes ba B l (passN sc sp x own (circ (srcD L) x N)) w) := by
  refine (callsIn_wide (n := 9)).1 ?_
  refine callsIn_of_wp_marks Try.func81 rfl trivial ?_ rfl
  simp only [Try.ntmps81, List.size_toArray, List.length_cons, List.length_nil, Nat.reduceAdd, Nat.reduceSub, Array.replicate_succ, Array.replicate_zero, List.push_toArray, List.append_toArray, List.nil_append, List.cons_append]
  obtain ⟨V1, hV1⟩ : ∃ V, w.alloc (.cells #[.func (.func 40) #[] #[.pointer (some ⟨ba, 0, none⟩)], .int .i64 sc, .int .i64 sp] 70) = V := ⟨_, rfl⟩
  have vb1 : Below w.heap.size w V1 := by rw [← hV1]; exact (Below.refl _ _).alloc (Nat.le_refl _) _
  have vs1 : Str V1 w.heap.size 70 [.func (.func 40) #[] #[.pointer (some ⟨ba, 0, none⟩)], .int .i64 sc, .int .i64 sp] := by rw [← hV1]; exact World.alloc_heap_new w _
  have vz1 : w.heap.size < V1.heap.size := vs1.lt
  obtain ⟨V2, hV2⟩ : ∃ V, V1.alloc (.cells #[.map (some bf), .map (some bt)] 74) = V := ⟨_, rfl⟩
  have vb2 : Below V1.heap.size V1 V2 := by rw [← hV2]; exact (Below.refl _ _).alloc (Nat.le_refl _) _
  have vs2 : Str V2 V1.heap.size 74 [.map (some bf), .map (some bt)] := by rw [← hV2]; exact World.alloc_heap_new V1 _
  have vz2 : V1.heap.size < V2.heap.size := vs2.lt
  obtain ⟨V3, hV3⟩ : ∃ V, V2.alloc (.cells #[.int .i64 x] 3) = V := ⟨_, rfl⟩
  have vb3 : Below V2.heap.size V2 V3 := by rw [← hV3]; exact (Below.refl _ _).alloc (Nat.le_refl _) _
  have vs3 : Str V3 V2.heap.size 3 [.int .i64 x] := by rw [← hV3]; exact World.alloc_heap_new V2 _
  have vz3 : V2.heap.size < V3.heap.size := vs3.lt
  obtain ⟨V4, hV4⟩ : ∃ V, V3.alloc (.cells #[.int .i64 own] 3) = V := ⟨_, rfl⟩
  have vb4 : Below V3.heap.size V3 V4 := by rw [← hV4]; exact (Below.refl _ _).alloc (Nat.le_refl _) _
  have vs4 : Str V4 V3.heap.size 3 [.int .i64 own] := by rw [← hV4]; exact World.alloc_heap_new V3 _
  have vz4 : V3.heap.size < V4.heap.size := vs4.lt
  obtain ⟨V5, hV5⟩ : ∃ V, V4.alloc (.cells #[.bool false] 4) = V := ⟨_, rfl⟩
  have vb5 : Below V4.heap.size V4 V5 := by rw [← hV5]; exact (Below.refl _ _).alloc (Nat.le_refl _) _
  have vs5 : Str V5 V4.heap.size 4 [.bool false] := by rw [← hV5]; exact World.alloc_heap_new V4 _
  have vz5 : V4.heap.size < V5.heap.size := vs5.lt
  have HX1 := Lib.hid ((((vs1.below vb2).below vb3).below vb4).below vb5)
  have HX2 := Lib.hid (((vs2.below vb3).below vb4).below vb5)
  have HX3 := Lib.hid ((vs3.below vb4).below vb5)
  have HX4 := Lib.hid (vs4.below vb5)
  have HX5 := Lib.hid vs5
  have HBV := Lib.hid ((((vb1.trans (vb2.mono (by omega))).trans (vb3.mono (by omega))).trans (vb4.mono (by omega))).trans (vb5.mono (by omega)))
  have HLT : Hid (∀ (k : Nat) , k < w.heap.size → V5.heap[k]? = w.heap[k]?) := Lib.hid (fun k hk => HBV.out.block k hk)
  clear vb1 vs1 vb2 vs2 vb3 vs3 vb4 vs4 vb5 vs5
  have hlw := hL.lt
  have HL0 := Lib.hid (hL.tn0 (lo := w.heap.size) (w' := V5) ((It.of_below (M := nothing) (HBV.out)).tn _))
  have HP0 := Lib.hid (hP.below HBV.out)
  have HPL := Lib.hid hpl
  have HX := Lib.hid hx
  have HO := Lib.hid ho
  have HC := Lib.hid hC
  have c0 : V5.cell? ⟨w.heap.size, 0, none⟩ = some (.func (.func 40) #[] #[.pointer (some ⟨ba, 0, none⟩)]) := (HX1.out).cell 0
  have c1 : V5.cell? ⟨w.heap.size, 1, none⟩ = some (.int .i64 sc) := (HX1.out).cell 1
  have c2 : V5.cell? ⟨w.heap.size, 2, none⟩ = some (.int .i64 sp) := (HX1.out).cell 2
  have d0 : V5.cell? ⟨V1.heap.size, 0, none⟩ = some (.map (some bf)) := (HX2.out).cell 0
  have d1 : V5.cell? ⟨V1.heap.size, 1, none⟩ = some (.map (some bt)) := (HX2.out).cell 1
  have e0 : V5.cell? ⟨V2.heap.size, 0, none⟩ = some (.int .i64 x) := (HX3.out).cell 0
  have f0 : V5.cell? ⟨V3.heap.size, 0, none⟩ = some (.int .i64 own) := (HX4.out).cell 0
  have g0 : V5.cell? ⟨V4.heap.size, 0, none⟩ = some (.bool false) := (HX5.out).cell 0
  have gf := HX5.out.frozen 0
  clear hL hP hpl hx ho hC
  gi_wp2_with fail
  refine ⟨trivial, ?_⟩
  refine (callsIn_wide.2 (bring_any V5 ba B l sc sp own x HL0.out (by omega) (by omega) HO.out HX.out hsc hsp)).mono ?_
  rintro e w1 hr
  obtain ⟨he, ⟨l1, hl1, hq1⟩, hy1, hb1⟩ := hr
  subst he
  have HL1 := Lib.hid hl1
  have HY1 := Lib.hid hy1
  have HB1 := Lib.hid hb1
  have HS1 : Hid (PassS ba B sc sp x own w.heap.size V1.heap.size V2.heap.size V3.heap.size V4.heap.size bf bt c K L w w1) := Lib.hid
    ((⟨HX1.out, HX3.out, HX4.out, HX5.out, Lay.of_below HBV.out, HBV.out.mono (by omega)⟩ : PassS ba B sc sp x own w.heap.size V1.heap.size V2.heap.size V3.heap.size V4.heap.size bf bt c K L w V5).laid hy1 hb1 ⟨by omega, by omega, by omega, by omega⟩)
  clear hl1 hy1 hb1 c0 c1 c2 d0 d1 e0 f0 g0 gf
  clear hV1 hV2 hV3 hV4 hV5
  cases hbr : bringN sc sp own x with
  | none =>
    have HE := Lib.hid (show passN sc sp x own (circ (srcD L) x N) = none by unfold passN; rw [hbr, appO_none_l])
    have g0 : w1.cell? ⟨V4.heap.size, 0, none⟩ = some (.bool false) := (HS1.out.b5).cell 0
    have gf := HS1.out.b5.frozen 0
    clear hbr hq1
    gi_wp2
    refine leave_marks (by simp) (.nil : Marks w.heap.size w1.heap.size [] _) fun w' ht => ?_
    have hz5 : min B ba ≤ (w1.setCell ⟨V4.heap.size, 0, none⟩ (.bool false)).heap.size := by rw [size_set]; have := HL1.out.lt; omega
    have c0 : w'.cell? ⟨V4.heap.size, 0, none⟩ = some (.bool false) := (Str.tn (HS1.out.b5.set 0 (.bool false)) ht id).cell 0
    refine ⟨.bool false, ?_, by rw [HE.out]; rfl, ⟨l1, (HL1.out.other HS1.out.b5 (by omega) (by decide) _).tn0 ht, fun xs e => by rw [HE.out] at e; cases e⟩, (HS1.out.lay.set (by omega) _).tn (Nat.le_refl _) ht, below_tn (HS1.out.below.setCell (p := ⟨V4.heap.size, 0, none⟩) (by show min B ba ≤ V4.heap.size; omega) _) (by omega) hz5 ht⟩
    simp only [results]; go_simp
  | some xs =>
    obtain rfl := hq1 xs hbr
    have HBR := Lib.hid hbr
    have hxl := bringN_len hbr
    have HPW1 := Lib.hid (PendAt.lay HP0.out HY1.out HL0.out)
    have hs2 : Str w1 V1.heap.size 74 [.map (some bf), .map (some bt)] := HY1.out.str HX2.out (by omega) (by decide)
    have c0 : w1.cell? ⟨w.heap.size, 0, none⟩ = some (.func (.func 40) #[] #[.pointer (some ⟨ba, 0, none⟩)]) := (HS1.out.b1).cell 0
    have c1 : w1.cell? ⟨w.heap.size, 1, none⟩ = some (.int .i64 sc) := (HS1.out.b1).cell 1
    have c2 : w1.cell? ⟨w.heap.size, 2, none⟩ = some (.int .i64 sp) := (HS1.out.b1).cell 2
    have d0 : w1.cell? ⟨V1.heap.size, 0, none⟩ = some (.map (some bf)) := (hs2).cell 0
    have d1 : w1.cell? ⟨V1.heap.size, 1, none⟩ = some (.map (some bt)) := (hs2).cell 1
    have e0 : w1.cell? ⟨V2.heap.size, 0, none⟩ = some (.int .i64 x) := (HS1.out.b3).cell 0
    have f0 : w1.cell? ⟨V3.heap.size, 0, none⟩ = some (.int .i64 own) := (HS1.out.b4).cell 0
    clear hbr hq1 hs2
    gi_wp2_with fail
    refine ⟨trivial, ?_⟩
    refine (callsIn_wide.2 (circle_call w1 bf bt x)).mono ?_
    rintro e w6 ⟨rfl, hw6⟩
    have hb6 : Below w1.heap.size w1 w6 := by rw [hw6]; exact ((Below.refl _ _).alloc (Nat.le_refl _) _).alloc (by simp) _
    have hc6 : CircS (w1.heap.size + 1) w1.heap.size bf bt c L x w6 := by
      refine ⟨?_, ?_, HPW1.out.from_.below hb6⟩
      · rw [hw6]; exact (Below.heap_alloc _ _ _ (by simp)).trans (World.alloc_heap_new w1 _)
      · rw [hw6]; have := World.alloc_heap_new (w1.alloc (.cells #[.map (some bf), .map (some bt)] 74)) (.cells #[.int .i64 x] 3); rwa [World.size_alloc] at this
    have HS6 := Lib.hid (HS1.out.laid (Lay.of_below hb6) (hb6.mono (by have := HL1.out.lt; omega)) ⟨by omega, by omega, by omega, by omega⟩)
    have HL6 := Lib.hid (HL1.out.below hb6)
    have HC6 := Lib.hid hc6
    have hz6 : w1.heap.size + 1 < w6.heap.size := hc6.start.lt
    have hbl := HL1.out.lt
    have hfl := HPW1.out.from_.lt
    have hzw : V5.heap.size ≤ w1.heap.size := HY1.out.size
    clear hw6 hb6 hc6 c0 c1 c2 d0 d1 e0 f0
    gi_wp2_with fail
    refine wp_range (F := Fence.wide) rfl (by omega) (gf := 72) (lb := #[.pointer (some ⟨w1.heap.size + 1, 0, none⟩), .pointer (some ⟨w1.heap.size, 0, none⟩)]) rfl trivial (enters_of Try.func72 (by kernel_rfl) rfl)
      (circle_seq 8 (by omega) w6 (w1.heap.size + 1) w1.heap.size bf bt c L x N HC6.out HX.out.inI HC.out) (fun k h => h.elim) (fun k o h => Or.inl (by rcases h with h | h | h <;> omega)) (fun _ => rfl) (fun xs W l o h _ => h)
      (fun pre W => PassS ba B sc sp x own w.heap.size V1.heap.size V2.heap.size V3.heap.size V4.heap.size bf bt c K L w W ∧ CircS (w1.heap.size + 1) w1.heap.size bf bt c L x W ∧ ∃ ys, seqO (passG sc sp x own) pre = some ys ∧ LayAt W ba B (l ++ xs ++ ys))
      (fun cc pre W => cc = .ret ∧ Str W V4.heap.size 4 [.bool false] ∧ Lay ba w W ∧ Below (min B ba) w W ∧ (∃ l', LayAt W ba B l') ∧ seqO (passG sc sp x own) (circ (srcD L) x N) = none)
      (fun s A C h ht => by
        obtain ⟨h1, h2, ys, h3, h4⟩ := h
        exact ⟨h1.tn ht (by omega) (by omega) (by have := h4.lt; omega), h2.tn (M := nothing) ht (by omega), ys, h3, h4.tn0 ht⟩)
      (fun cc s A C h ht => by
        obtain ⟨h1, h2, h3, h4, ⟨l', h5⟩, h6⟩ := h
        exact ⟨h1, Str.tn h2 ht id, h3.tn (by omega) ht, below_tn h4 (by omega) (by have := h5.lt; omega) ht, ⟨l', h5.tn0 ht⟩, h6⟩)
      ⟨HS6.out, HC6.out, [], rfl, by rw [List.append_nil]; exact HL6.out⟩
      (fun m => { tmps := #[carV ba sc sp, pendV bf bt, .int .i64 x, .int .i64 own, .pointer (some ⟨w.heap.size, 0, none⟩), .pointer (some ⟨V1.heap.size, 0, none⟩), .pointer (some ⟨V2.heap.size, 0, none⟩), .pointer (some ⟨V3.heap.size, 0, none⟩), .pointer (some ⟨V4.heap.size, 0, none⟩), .int .i64 m.1, .int .i64 m.2, carV ba sc sp, .int .i64 own, .int .i64 x, .bool true, .bool false, pendV bf bt, .int .i64 x, .func (.func 72) #[] #[.pointer (some ⟨w1.heap.size + 1, 0, none⟩), .pointer (some ⟨w1.heap.size, 0, none⟩)], .int .i64 m.1, .int .i64 m.2, undef, undef, undef, undef, undef, undef, undef, undef, undef], defers := [] }) ?assign ?body ?done ?stop
    case assign =>
      intro lp m W K hK
      gi_wp2
      exact hK
    case body =>
      rintro lp pre m W hz ⟨hps, hcs, ys, hys, hly⟩ ⟨j, hj, rfl, rfl⟩
      have HPS := Lib.hid hps
      have HCS := Lib.hid hcs
      have HYS := Lib.hid hys
      have HLY := Lib.hid hly
      have hyl : ys.length ≤ 80000 := by
        have h := seqO_len (g := passG sc sp x own) (fun m xs h => bringN_len h) (circ (srcD L) x j) [] ys hys
        rw [circ_len] at h
        simp at h; omega
      have HSN := Lib.hid (seqO_snoc (passG sc sp x own) (circ (srcD L) x j) (it (srcD L) x j, it (srcD L) x (j + 1)))
      have HPX := Lib.hid (show circ (srcD L) x j ++ [(it (srcD L) x j, it (srcD L) x (j + 1))] <+: circ (srcD L) x N by rw [circ_to]; exact circ_pre (srcD L) x (show j + 1 ≤ N by omega))
      have HT := Lib.hid (it_pl HPL.out HX.out j)
      have HFR := Lib.hid (show InPl (if it (srcD L) x (j + 1) = x then own else it (srcD L) x (j + 1)) by split; exact HO.out; exact it_pl HPL.out HX.out (j + 1))
      have hbW := hps.b5
      have k0 : W.cell? ⟨V2.heap.size, 0, none⟩ = some (.int .i64 x) := hps.b3.cell 0
      have k1 : W.cell? ⟨V3.heap.size, 0, none⟩ = some (.int .i64 own) := hps.b4.cell 0
      have q0 := hps.b1.cell 0
      have q1 := hps.b1.cell 1
      have q2 := hps.b1.cell 2
      simp only [List.getElem?_cons_zero, List.getElem?_cons_succ] at q0 q1 q2
      have HQ := Lib.hid (show passG sc sp x own (it (srcD L) x j, it (srcD L) x (j + 1)) = bringN sc sp (it (srcD L) x j) (if it (srcD L) x (j + 1) = x then own else it (srcD L) x (j + 1)) from rfl)
      have HTB := Lib.hid (show ∀ b, (it (srcD L) x (j + 1) == x) = b → (if it (srcD L) x (j + 1) = x then own else it (srcD L) x (j + 1)) = if b = true then own else it (srcD L) x (j + 1) from fun b hb => by rw [← hb]; simp)
      generalize it (srcD L) x (j + 1) = tf at *
      generalize it (srcD L) x j = tt at *
      generalize (if tf = x then own else tf) = fr at *
      clear hps hcs hys hly hbW
      cases hcmp : tf == x
      all_goals
        have hfr := HTB.out _ hcmp
        simp only [if_true, if_false, Bool.false_eq_true] at hfr
        subst hfr
        gi_wp2_with fail
        refine ⟨trivial, ?_⟩
        refine (CallsIn.inRound lp (callsIn_wide.2 (bring_any W ba B (l ++ xs ++ ys) sc sp tt _ HLY.out (by omega) (by simp only [List.length_append]; omega) HT.out HFR.out hsc hsp))).mono ?_
        rintro e W3 ⟨he, ⟨l3, hl3, hq3⟩, hy3, hb3⟩
        subst he
        have hKF := keepsF_lay (B := w6.heap.size) HLY.out hy3
        have hRD := rd_lay hy3 HCS.out HLY.out (by omega) (by omega)
        have hPS3 := HPS.out.laid hy3 hb3 ⟨by omega, by omega, by omega, by omega⟩
        have HKF := Lib.hid hKF
        have HRD := Lib.hid hRD
        have HPS3 := Lib.hid hPS3
        have HL3 := Lib.hid hl3
        have HCS3 := Lib.hid (HCS.out.rd hRD)
        have g0 : W3.cell? ⟨V4.heap.size, 0, none⟩ = some (.bool false) := hPS3.b5.cell 0
        have gf := hPS3.b5.frozen 0
        clear hKF hRD hPS3 hl3 hy3 hb3 k0 k1 q0 q1 q2
        have HQ3 := Lib.hid hq3
        clear hq3 hcmp
        have HTOT := Lib.hid (HSN.out.trans (by rw [HYS.out, HQ.out]))
        cases hbn : bringN sc sp tt _ with
        | none =>
          have HNO := Lib.hid (seqO_none HPX.out (HTOT.out.trans (by rw [hbn, appO_none_r])))
          clear hbn
          gi_wp2
          exact ⟨HKF.out.trans ((KeepsOthers.setCell _ _ _).from _), rfl, HPS3.out.b5.set 0 _, HPS3.out.lay.set (by omega) _, HPS3.out.below.setCell (p := ⟨V4.heap.size, 0, none⟩) (by show min B ba ≤ V4.heap.size; omega) _, ⟨l3, HL3.out.other HPS3.out.b5 (by omega) (by decide) _⟩, HNO.out⟩
        | some zs =>
          obtain rfl := HQ3.out zs hbn
          have HYZ := Lib.hid (HTOT.out.trans (show _ = some (ys ++ zs) by rw [hbn]; rfl))
          clear hbn
          gi_wp2
          exact ⟨HKF.out, HRD.out, HPS3.out, HCS3.out, ys ++ zs, HYZ.out, by rw [← List.append_assoc]; exact HL3.out⟩
    case done =>
      rintro D ms W hD rfl ⟨hps, _, ys, hys, hly⟩ hK
      have HM := Lib.hid (marks_one (lo := w.heap.size) (by omega) hK)
      have HPS := Lib.hid hps
      have HLY := Lib.hid hly
      have HE := Lib.hid (show passN sc sp x own (circ (srcD L) x N) = some (xs ++ ys) by unfold passN; rw [HBR.out, hys]; rfl)
      have g0 : W.cell? ⟨V4.heap.size, 0, none⟩ = some (.bool false) := hps.b5.cell 0
      have gf := hps.b5.frozen 0
      have hzl := hly.lt
      clear hps hys hly hK
      gi_wp2
      refine leave_marks (by simp) (HM.out.kept (Nat.le_refl _) (fun k hk hd => (KeepsOthers.setCell W ⟨V4.heap.size, 0, none⟩ (.bool true)).same k _ hd rfl)) fun w' ht => ?_
      have c0 : w'.cell? ⟨V4.heap.size, 0, none⟩ = some (.bool true) := (Str.tn (HPS.out.b5.set 0 (.bool true)) ht id).cell 0
      refine ⟨.bool true, ?_, by rw [HE.out]; rfl, ⟨_, (HLY.out.other HPS.out.b5 (by omega) (by decide) _).tn0 ht, fun zs e => by rw [HE.out] at e; injection e with e; rw [← e, List.append_assoc]⟩, (HPS.out.lay.set (by omega) _).tn (Nat.le_refl _) ht, below_tn (HPS.out.below.setCell (p := ⟨V4.heap.size, 0, none⟩) (by show min B ba ≤ V4.heap.size; omega) _) (by omega) (by rw [size_set]; omega) ht⟩
      simp only [results]; go_simp
    case stop =>
      rintro D cc pre W hD ⟨rfl, hsW, hyW, hbW, ⟨l', hlW⟩, hno⟩ hK
      have HM := Lib.hid (marks_one (lo := w.heap.size) (by omega) hK)
      have HSW := Lib.hid hsW
      have HYW := Lib.hid hyW
      have HBW := Lib.hid hbW
      have HLW := Lib.hid hlW
      have HE := Lib.hid (show passN sc sp x own (circ (srcD L) x N) = none by unfold passN; rw [hno, appO_none_r])
      clear hsW hyW hbW hlW hno hK
      gi_wp2
      refine leave_marks (by simp) HM.out fun w' ht => ?_
      have c0 : w'.cell? ⟨V4.heap.size, 0, none⟩ = some (.bool false) := (Str.tn HSW.out ht id).cell 0
      refine ⟨.bool false, ?_, by rw [HE.out]; rfl, ⟨l', HLW.out.tn0 ht, fun zs e => by rw [HE.out] at e; cases e⟩, HYW.out.tn (Nat.le_refl _) ht, below_tn HBW.out (by omega) (by have := HLW.out.lt; omega) ht⟩
      simp only [results]; go_simp
end Go.Proofs.Ytdohaoomckhbgaa.Vm
