/- Moves that are pending: which is loose, what is done, which rise. -/
import Derived.Test.YtdohaoomckhbgaaVM
import Derived.Test.YtdohaoomckhbgaaShelf
import Derived.Maps.OwnIn
namespace Go.Proofs.Ytdohaoomckhbgaa.Vm
open Go.ChangeShapes Go.WideShapes Go.ChangeAt Go.RowKit Go.Maps Go.WideElems Go.ChangeMaps Go.Sort Go.Shelf Go.Proofs.Ytdohaoomckhbgaa.Mem Go.Proofs.Ytdohaoomckhbgaa.Br Go.Proofs.Ytdohaoomckhbgaa.Va Go.Proofs.Ytdohaoomckhbgaa.Vr
set_option linter.unusedVariables false
set_option linter.unusedSimpArgs false
attribute [local go_sem] Oper.semAt_some
/-- What is pending: the moves L, each by its To, and how many of them take from each place. -/
structure PendAt (w : World) (bf bt c K : Nat) (L : List Mov) : Prop where
  from_ : FromAt w bf c L
  tak : TakAt w bt (K - L.length) (cnt L)
  le : L.length ≤ K
  small : K ≤ 1000000000
  ne : bf ≠ bt
theorem PendAt.below {w w' : World} {bf bt c K : Nat} {L : List Mov} (h : PendAt w bf bt c K L) (hb : Below w.heap.size w w') : PendAt w' bf bt c K L := ⟨h.from_.below hb, h.tak.below hb, h.le, h.small, h.ne⟩
theorem PendAt.same {w w' : World} {bf bt c K : Nat} {L : List Mov} (h : PendAt w bf bt c K L) (h1 : w'.heap[bf]? = w.heap[bf]?) (h2 : w'.heap[bt]? = w.heap[bt]?) : PendAt w' bf bt c K L := ⟨h.from_.same h1, h.tak.same h2, h.le, h.small, h.ne⟩
theorem from_nc {w : World} {b c : Nat} {L : List Mov} (h : FromAt w b c L) : ∃ o, w.heap[b]? = some o ∧ o.isCells = false := by obtain ⟨es, ⟨e, cl, hb, _⟩, _⟩ := h; exact ⟨_, hb, rfl⟩
theorem tak_nc {w : World} {b c : Nat} {f : Int → Int} (h : TakAt w b c f) : ∃ o, w.heap[b]? = some o ∧ o.isCells = false := by obtain ⟨D, ⟨e, cl, hb, _⟩, _⟩ := h; exact ⟨_, hb, rfl⟩
abbrev pendV (bf bt : Nat) : Value := .agg #[.map (some bf), .map (some bt)]
theorem beq_cnt {L : List Mov} {x : Int} {b : Bool} (h : isFrom L x = b) : (cnt L x == 0) = !b := by rw [cnt_zero, h]
set_option maxRecDepth 100000 in
set_option maxHeartbeats 1000000 in
theorem isLoose_any (w : World) (bf bt c K : Nat) (L : List Mov) (x : Int) (hP : PendAt w bf bt c K L) (hx : InI x) :
    Calls Try.prog 70 #[pendV bf bt, .int .i64 x] w fun e w' => e = .returned (.bool (looseB L x)) ∧ Below w.heap.size w w' := by
  obtain ⟨W1, hW1⟩ : ∃ W1, w.alloc (.cells #[.map (some bf), .map (some bt)] 74) = W1 := ⟨_, rfl⟩
  have hbW1 : Below w.heap.size w W1 := by rw [← hW1]; exact (Below.refl _ _).alloc (Nat.le_refl _) _
  have hsW1 : Str W1 w.heap.size 74 [.map (some bf), .map (some bt)] := by rw [← hW1]; exact World.alloc_heap_new w _
  have m0 : W1.cell? ⟨w.heap.size, 0, none⟩ = some (.map (some bf)) := hsW1.cell 0
  have m1 : W1.cell? ⟨w.heap.size, 1, none⟩ = some (.map (some bt)) := hsW1.cell 1
  have hP1 := hP.below hbW1
  have l1 := hP1.from_.look hx
  have l2 := hP1.tak.get hx
  have HB := Lib.hid hbW1
  have HQ := Lib.hid (show looseB L x = (isTo L x && !isFrom L x) from rfl)
  have hcz := cnt_zero (L := L) (x := x)
  clear hP hP1 hbW1 hsW1 hx
  generalize isTo L x = p at *
  generalize isFrom L x = q at *
  generalize cnt L x = n at *
  cases p <;> cases q
  all_goals
    simp only [Bool.not_true, Bool.not_false] at hcz
    go_enter Try.func70, Try.ntmps70
    go_wp2
    go_ret
    rw [HQ.out]
    exact ⟨rfl, HB.out⟩
/-- Behind done. -/
def DoneRes (bf bt c K : Nat) (L : List Mov) (x : Int) (w : World) (e : Ending) (w' : World) : Prop := e = .returned (.tuple #[]) ∧ PendAt w' bf bt c K (wo L x) ∧ It (fun k => k = bf ∨ k = bt) w w'
set_option maxRecDepth 100000 in
set_option maxHeartbeats 1000000 in
theorem done_any (w : World) (bf bt c K : Nat) (L : List Mov) (x : Int) (hP : PendAt w bf bt c K L) (hx : InI x) (ht : isTo L x = true) :
    Calls Try.prog 71 #[pendV bf bt, .int .i64 x] w (DoneRes bf bt c K L x w) := by
  obtain ⟨W1, hW1⟩ : ∃ W1, w.alloc (.cells #[.map (some bf), .map (some bt)] 74) = W1 := ⟨_, rfl⟩
  have hbW1 : Below w.heap.size w W1 := by rw [← hW1]; exact (Below.refl _ _).alloc (Nat.le_refl _) _
  have hsW1 : Str W1 w.heap.size 74 [.map (some bf), .map (some bt)] := by rw [← hW1]; exact World.alloc_heap_new w _
  have m0 : W1.cell? ⟨w.heap.size, 0, none⟩ = some (.map (some bf)) := hsW1.cell 0
  have m1 : W1.cell? ⟨w.heap.size, 1, none⟩ = some (.map (some bt)) := hsW1.cell 1
  have hP1 := hP.below hbW1
  have hsr := srcD_in hP1.from_.rng x
  have hc1 := cnt_src hP1.from_.uni ht
  have hc2 := cnt_le L (srcD L x)
  have hle := hP.le
  have hsm := hP.small
  have hlt := wo_lt ht
  have hlo := hP.from_.lt
  have hlt2 := hP.tak.lt
  have l1 := hP1.from_.get hx
  have l2 := hP1.tak.get hsr
  obtain ⟨w2, r2, hT2, hg2⟩ := hP1.tak.put (by omega) hsr (v := cnt L (srcD L x) - 1) (by unfold InI; omega)
  have hF2 := hP1.from_.kept hg2 (fun e => hP.ne (by cases e; rfl))
  obtain ⟨w3, r3, hF3, hg3⟩ := hF2.del hx 0
  have hs2 : Str w2 w.heap.size 74 [.map (some bf), .map (some bt)] := hsW1.kept hg2 (fun e => by cases e; omega)
  have n0 : w2.cell? ⟨w.heap.size, 0, none⟩ = some (.map (some bf)) := hs2.cell 0
  have hb1 : 1 ≤ cnt L (srcD L x) := hc1
  have hb2 : cnt L (srcD L x) ≤ 1000000000 := by omega
  have HD := Lib.hid (show DoneRes bf bt c K L x w (.returned (.tuple #[])) w3 by
    refine ⟨rfl, ⟨hF3, ?_, by omega, hsm, hP.ne⟩, (It.of_below hbW1).trans ((It.of_grown hg2 (fun k e => ⟨Or.inr (by cases e; rfl), by cases e; exact tak_nc hT2⟩)).trans (It.of_grown hg3 (fun k e => ⟨Or.inl (by cases e; rfl), by cases e; exact from_nc hF3⟩)))⟩
    have h := (hT2.kept hg3 (fun e => hP.ne (by cases e; rfl))).more (c' := K - (wo L x).length) (by omega)
    have e : addT (cnt L) (srcD L x) (cnt L (srcD L x) - 1) = cnt (wo L x) := by
      funext y
      rw [cnt_wo hP.from_.uni ht]
      unfold addT
      by_cases e : y = srcD L x
      · rw [if_pos e, if_pos e, e]
      · rw [if_neg e, if_neg e]; omega
    rw [e] at h
    exact h)
  clear hP hP1 hbW1 hsW1 hx ht hsr hc1 hc2 hle hsm hlt hlo hlt2 hT2 hg2 hF2 hF3 hg3 hs2
  generalize srcD L x = y at *
  generalize cnt L y = n at *
  go_enter Try.func71, Try.ntmps71
  go_wp2
  refine ⟨rfl, .tuple #[], by simp only [results]; go_simp, ?_⟩
  exact HD.out
def keysN (L : List Mov) : List Int := (L.map (·.1)).mergeSort fun x y => decide (x ≤ y)
theorem keysN_mem {L : List Mov} {x : Int} : x ∈ keysN L ↔ isTo L x = true := by
  unfold keysN
  rw [(List.mergeSort_perm _ _).mem_iff, List.mem_map, isTo_iff]
theorem keysN_len (L : List Mov) : (keysN L).length = L.length := by unfold keysN; rw [List.length_mergeSort, List.length_map]
theorem keysN_rise {L : List Mov} (h : Uni L) : (keysN L).Pairwise (· < ·) := by
  have h1 : (keysN L).Pairwise (fun a b => decide (a ≤ b) = true) := List.pairwise_mergeSort (le := fun x y => decide (x ≤ y)) (fun a b c h1 h2 => by simp only [decide_eq_true_eq] at *; omega) (fun a b => by simp; omega) _
  have h2 : (keysN L).Pairwise (· ≠ ·) := by
    refine ((List.mergeSort_perm _ _).pairwise_iff (fun {_ _} hne => Ne.symm hne)).2 (List.pairwise_map.2 h)
  exact (h1.and h2).imp fun {a b} h => by have h1 := h.1; have h2 := h.2; simp only [decide_eq_true_eq] at h1; omega
/-- slices.Sort at this program, at the fence that asks nothing. -/
theorem sorts (m : Nat) : AnyZI.SortsIn Try.prog Try.sortedA_ren Fence.wide m :=
  ⟨fun blk off cap ss W hH hblk hsz => callsIn_wide.2 (Try.slices_Sort_int blk off cap ss W hH hblk hsz), fun p cap W => callsIn_wide.2 (Try.slices_Sort_int_none p cap W)⟩
def RiseRes (L : List Mov) (w : World) (e : Ending) (w' : World) : Prop := ∃ v, e = .returned v ∧ OwnInts w.heap.size w' v (keysN L) ∧ Below w.heap.size w w'
theorem keys_enc {es : List (Lit × DataW Unit)} {L : List Mov} (h : es.Perm (L.map encM)) : (intKeys (.map es)).Perm (L.map (·.1)) := by
  have := h.map (fun p => Go.intOf p.1)
  rw [List.map_map] at this
  exact this
set_option maxRecDepth 100000 in
set_option maxHeartbeats 1000000 in
theorem rising_any (w : World) (bf bt c K : Nat) (L : List Mov) (hP : PendAt w bf bt c K L) : Calls Try.prog 69 #[pendV bf bt] w (RiseRes L w) := by
  refine (callsIn_wide (n := 6)).1 ?_
  obtain ⟨W1, hW1⟩ : ∃ W1, w.alloc (.cells #[.map (some bf), .map (some bt)] 74) = W1 := ⟨_, rfl⟩
  have hbW1 : Below w.heap.size w W1 := by rw [← hW1]; exact (Below.refl _ _).alloc (Nat.le_refl _) _
  have hsW1 : Str W1 w.heap.size 74 [.map (some bf), .map (some bt)] := by rw [← hW1]; exact World.alloc_heap_new w _
  have m0 : W1.cell? ⟨w.heap.size, 0, none⟩ = some (.map (some bf)) := hsW1.cell 0
  have hle := hP.le
  have hsm := hP.small
  obtain ⟨es, hown, hpe, -, -⟩ := hP.from_.below hbW1
  have hel : es.length = L.length := by have := hpe.length_eq; rwa [List.length_map] at this
  have hbl := hown.lt
  have hseq : SeqGives Fence.wide 2 Try.prog 86 #[.pointer (some ⟨W1.heap.size, 0, none⟩)] encZ (fun ss => ss.Perm (intKeys (.map es))) (Maps.size (.map es)) (W1.alloc (.cells #[.map (some bf)] 72)) :=
    AnyZI.keys_gives (ρ := Try.keysA_ren) { Try.keysA with } Fence.wide _ trivial rfl (by omega) W1.heap.size bf _ (.map es) _ (by simp) (by simp) (by
      obtain ⟨es', clock, hb, Ft, hs, hD⟩ := hown
      exact ⟨es', clock, (Below.heap_alloc _ _ bf hbl).trans hb, Ft, hs, hD⟩)
  have cK : ∀ mb W, CallsIn Fence.wide 5 Try.prog 83 #[.map mb] W fun e w' => e = .returned (.func (.func 86) #[] #[.pointer (some ⟨W.heap.size, 0, none⟩)]) ∧ w' = W.alloc (.cells #[.map mb] 72) := fun mb W => AnyZI.keys_in Try.keysA Fence.wide 5 trivial rfl mb W
  have cS := AnyZI.sorted_in Try.sortedA Fence.wide 5 trivial trivial trivial trivial rfl (by omega) (sorts _) (enters_of Try.func85 (by kernel_rfl) rfl) 86 #[.pointer (some ⟨W1.heap.size, 0, none⟩)] trivial (enters_of Try.func86 (by kernel_rfl) rfl) _ _ (by rw [size_eq, hel]; unfold maxLen; omega) (by rw [size_eq, hel]; omega) _ hseq
  change CallsIn _ _ Try.prog 82 _ _ _ at cS
  have hfK : Fence.wide.fn 83 := trivial
  have hfS : Fence.wide.fn 82 := trivial
  have HB := Lib.hid hbW1
  have HPE := Lib.hid hpe
  have HEL := Lib.hid hel
  clear hsW1 hbW1 hown hpe hP hel hbl hseq
  refine callsIn_of_wp Try.func69 rfl trivial ?_ rfl
  simp only [Try.ntmps69, List.size_toArray, List.length_cons, List.length_nil, Nat.reduceAdd, Nat.reduceSub, Array.replicate_succ, Array.replicate_zero, List.push_toArray, List.append_toArray, List.nil_append, List.cons_append]
  gi_wp2_with (first
    | (gi_at_call 83; refine (cK _ _).mono ?_; rintro e w' ⟨rfl, rfl⟩)
    | (gi_at_call 82; refine cS.mono ?_; rintro e w' ⟨v, ss, rfl, hS, hrow, hnil, hb⟩))
  go_ret
  refine ⟨v, rfl, ?_, HB.out.trans (((Below.refl _ W1).alloc (Nat.le_refl _) _).trans (hb.mono (by simp)) |>.mono HB.out.size)⟩
  have e : ss.mergeSort (fun x y => decide (x ≤ y)) = keysN L := by
    unfold keysN
    exact mergeSort_of_perm_i (hS.trans (keys_enc HPE.out))
  rw [e] at hrow
  have hl : ss.length = (keysN L).length := by rw [keysN_len, hS.length_eq, (keys_enc HPE.out).length_eq, List.length_map]
  rw [hl] at hrow
  have hz := HB.out.size
  exact ownsRow_base_a hrow (by simp; omega)
end Go.Proofs.Ytdohaoomckhbgaa.Vm
