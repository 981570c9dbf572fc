/- The document's answer of layer 3: which blocks are reached, without going through one. -/
import Derived.Test.YtdfehpcbcgbidaaRA
import Derived.Deep.QuietTactic
namespace Go.Proofs.Ytdfehpcbcgbidaa.Rf
open Go.ChangeShapes Go.WideShapes Go.ChangeAt Go.RowKit Go.Maps Go.Proofs.Ytdfehpcbcgbidaa.Mem Go.Proofs.Ytdfehpcbcgbidaa.Br Go.Proofs.Ytdfehpcbcgbidaa.Gr Go.Proofs.Ytdfehpcbcgbidaa.Kc
set_option linter.unusedVariables false
/-- What is found so far: marks, whoever waits, and how many of these were gone over. -/
structure Found (bs : List PBlock) (gone : Int) (l : List Bool) (q : List Nat) (i : Nat) : Prop where
  len : l.length = bs.length
  fit : i ≤ q.length
  cnt : l.count true = q.length
  way : ∀ x ∈ q, Gl.Way (rowsP bs) gone x
  all : ∀ b, l.getD b false = true → b ∈ q
  zero : gone ≠ 0 → l.getD 0 false = true
  done : ∀ j (h : j < q.length), j < i → ∀ b : Nat, edgeB (rowsP bs) q[j] b = true → (b : Int) ≠ gone → l.getD b false = true
theorem Found.most {bs : List PBlock} {gone : Int} {l : List Bool} {q : List Nat} {i : Nat} (h : Found bs gone l q i) : q.length ≤ bs.length := by
  rw [← h.cnt, ← h.len]; exact List.count_le_length
theorem getD_set {l : List Bool} {x b : Nat} {v : Bool} (hx : x < l.length) : (l.set x v).getD b false = if b = x then v else l.getD b false := by
  rw [List.getD_eq_getElem?_getD, List.getD_eq_getElem?_getD, List.getElem?_set]
  by_cases h : x = b
  · subst h; rw [if_pos rfl, if_pos rfl, if_pos hx]; rfl
  · rw [if_neg h, if_neg (fun e => h e.symm)]
theorem count_true_set : ∀ (l : List Bool) (x : Nat), l.getD x false = false → x < l.length → (l.set x true).count true = l.count true + 1
  | [], x, _, h => absurd h (by simp)
  | a :: l, 0, h, _ => by
    have : a = false := h
    subst this
    simp
  | a :: l, x + 1, h, hl => by
    have := count_true_set l x h (by simpa using hl)
    rw [List.set_cons_succ, List.count_cons, List.count_cons, this]
    omega
theorem Found.more {bs : List PBlock} {gone : Int} {l : List Bool} {q : List Nat} {i x a : Nat} (h : Found bs gone l q i) (hx : x < bs.length) (hn : l.getD x false = false) (ha : a ∈ q) (he : edgeB (rowsP bs) a x = true) (hg : (x : Int) ≠ gone) : Found bs gone (l.set x true) (q ++ [x]) i := by
  have hxl : x < l.length := by rw [h.len]; exact hx
  refine ⟨by rw [List.length_set]; exact h.len, by rw [List.length_append]; have := h.fit; omega, by rw [count_true_set l x hn hxl, h.cnt, List.length_append]; rfl, fun y hy => ?_, fun b hb => ?_, fun hz => ?_, fun j hj hi b he hb => ?_⟩
  · rcases List.mem_append.1 hy with hy | hy
    · exact h.way y hy
    · rw [List.mem_singleton] at hy; subst hy; exact Gl.Way.step (h.way a ha) he hg
  · rw [getD_set hxl] at hb
    by_cases hbx : b = x
    · subst hbx; exact List.mem_append_right _ (List.mem_singleton.2 rfl)
    · rw [if_neg hbx] at hb; exact List.mem_append_left _ (h.all b hb)
  · rw [getD_set hxl]; split
    · rfl
    · exact h.zero hz
  · rw [getD_set hxl]; split
    · rfl
    · have hj2 : j < q.length := Nat.lt_of_lt_of_le hi h.fit
      rw [List.getElem_append_left hj2] at he
      exact h.done j hj2 hi b he hb
theorem Found.end_ {bs : List PBlock} {gone : Int} {l : List Bool} {q : List Nat} {i : Nat} (h : Found bs gone l q i) (hi : q.length ≤ i) (b : Nat) : l.getD b false = true ↔ Gl.Way (rowsP bs) gone b := by
  refine ⟨fun hb => h.way b (h.all b hb), fun hw => ?_⟩
  induction hw with
  | root _ hg => exact h.zero hg
  | step _ he hg ih =>
    obtain ⟨j, hj, e⟩ := List.mem_iff_getElem.1 (h.all _ ih)
    exact h.done j hj (by omega) _ (by rw [e]; exact he) hg
theorem info_bool : (Try.prog.info? 4).map (fun i => (i.zero, i.size, i.bytes)) = some (some (.bool false), 1, 1) := by kernel_rfl
/-- A row of bools of the call's own. -/
def Bools (B g : Nat) (w : World) (l : List Bool) : Prop := w.ownsRow B 4 1 (.slice (some ⟨g, 0, none⟩) l.length l.length) l.length (l.map Value.bool)
theorem Bools.cell {B g : Nat} {w : World} {l : List Bool} (h : Bools B g w l) {b : Nat} (hb : b < l.length) : w.cell? ⟨g, b, none⟩ = some (.bool l[b]) := by
  rw [World.ownsRow.cellAt h b (by omega), List.getElem?_map, List.getElem?_eq_getElem hb]; rfl
theorem Bools.store {B g : Nat} {w : World} {l : List Bool} (h : Bools B g w l) (b : Nat) (x : Bool) : Bools B g (w.setCell ⟨g, b, none⟩ (.bool x)) (l.set b x) ∧ w.grownBy (w.setCell ⟨g, b, none⟩ (.bool x)) (some g) := by
  have := World.ownsRow.stored h b (.bool x)
  unfold Bools
  rw [List.length_set, List.map_set]; exact this
/-- The numbers of blocks, as they lie there. -/
def nums (q : List Nat) : List Int := q.map fun (x : Nat) => (x : Int)
theorem nums_len (q : List Nat) : (nums q).length = q.length := by simp [nums]
/-- What Reached answers. -/
def ReachSays (bs : List PBlock) (gone : Int) (w : World) (e : Ending) (w' : World) : Prop :=
  ∃ g l, e = .returned (.slice (some ⟨g, 0, none⟩) bs.length bs.length) ∧ l.length = bs.length ∧ Bools w.heap.size g w' l ∧ Below w.heap.size w w' ∧ ∀ b, l.getD b false = true ↔ Gl.Way (rowsP bs) gone b
set_option maxRecDepth 100000 in
set_option maxHeartbeats 8000000 in
theorem reached3_any (w : World) (params : Int) (gB oB c : Nat) (bs : List PBlock) (gone : Int) (hbs : BlocksAt w (.slice (some ⟨gB, oB, none⟩) bs.length c) bs) (hl : bs.length ≤ 4096) (h0 : 0 < bs.length) :
    Calls Try.prog 42 #[.agg #[.int .i64 params, .slice (some ⟨gB, oB, none⟩) bs.length c], .int .i64 gone] w (ReachSays bs gone w) := by
  have HBS := Lib.hid hbs
  obtain ⟨i0, hi, hz0, hz1, hz2⟩ := info_parts info_bool
  have HI0 := Lib.hid hi
  have HZ0 := Lib.hid hz0
  have HZ1 := Lib.hid hz1
  have HZ2 := Lib.hid hz2
  obtain ⟨i1, hi, hz0, hz1, hz2⟩ := info_parts info_num
  have HI1 := Lib.hid hi
  have HY0 := Lib.hid hz0
  have HY1 := Lib.hid hz1
  have HY2 := Lib.hid hz2
  clear hi hz0 hz1 hz2 hbs
  go_enter Try.func42, Try.ntmps42
  go_upto_region 1 with (fail)
  obtain ⟨W1, hW1⟩ : ∃ W1, w.alloc (.cells #[.int .i64 params, .slice (some ⟨gB, oB, none⟩) bs.length c] 24) = W1 := ⟨_, rfl⟩
  rw [hW1]
  have hb1 : Below w.heap.size w W1 := by rw [← hW1]; exact (Below.refl _ _).alloc (Nat.le_refl _) _
  have hs1 : Str W1 w.heap.size 24 [.int .i64 params, .slice (some ⟨gB, oB, none⟩) bs.length c] := by rw [← hW1]; exact World.alloc_heap_new w _
  have hzW1 : W1.heap.size = w.heap.size + 1 := by rw [← hW1]; simp
  clear hW1
  have f1 : W1.cell? ⟨w.heap.size, 1, none⟩ = some (.slice (some ⟨gB, oB, none⟩) bs.length c) := hs1.cell 1
  go_wp2_with (at_make; refine wpList_make_full _ rfl _ _ 80 rfl W1.heap.size 4 i0 (.bool false) 1 Try.underlying80 HI0.out HZ0.out HZ1.out .i64 .i64 _ _ bs.length rfl rfl rfl rfl (by rw [HZ2.out]; omega) (by unfold maxLen; omega) (Nat.le_refl _) ?_)
  intro W2 hown hgr
  rw [toList_madeCells_one] at hown
  have ho2 : Bools w.heap.size (w.heap.size + 1) W2 (List.replicate bs.length false) := by
    unfold Bools
    rw [List.length_replicate, List.map_replicate]
    exact own_base (B := w.heap.size + 1) (by simpa [hzW1] using hown) (Nat.le_succ _)
  have hb2 : Below W1.heap.size W1 W2 := (Below.refl _ _).grown hgr (Nat.le_refl _) (fun j hj => by cases hj)
  have hz2 : w.heap.size + 1 < W2.heap.size := (ho2.lt _ rfl).2
  have HS2 := Lib.hid (hs1.below hb2)
  have HB2 := Lib.hid (hb1.trans (hb2.mono hb1.size))
  have HO2 := Lib.hid ho2
  clear hown hgr f1 hs1 hb1 hb2 ho2 hzW1
  go_upto_region 3 with (fail)
  obtain ⟨W3, hW3⟩ : ∃ W3, W2.alloc (.cells #[] 3) = W3 := ⟨_, rfl⟩
  rw [hW3]
  have ho := empty_ints W2
  rw [hW3] at ho
  have hb3 : Below W2.heap.size W2 W3 := by rw [← hW3]; exact (Below.refl _ _).alloc (Nat.le_refl _) _
  have HS3 := Lib.hid (HS2.out.below hb3)
  have HB3 := Lib.hid (HB2.out.trans (hb3.mono HB2.out.size))
  have HO3 := Lib.hid (show Bools w.heap.size (w.heap.size + 1) W3 (List.replicate bs.length false) from own_below HO2.out hb3)
  have HQ3 := Lib.hid (own_base ho HB2.out.size)
  have hz3 := hb3.size
  obtain ⟨gq, hgq⟩ : ∃ gq, W2.heap.size = gq := ⟨_, rfl⟩
  rw [hgq] at HQ3 ⊢
  have hgq2 : w.heap.size + 1 < gq := by omega
  clear hW3 ho hb3 hgq
  have f1 : W3.cell? ⟨w.heap.size, 1, none⟩ = some (.slice (some ⟨gB, oB, none⟩) bs.length c) := HS3.out.cell 1
  by_cases hgn : gone = 0
  · have e0 : (gone == 0) = true := beq_iff_eq.2 hgn
    have e1 : (gone != 0) = false := by simpa using hgn
    have HF := Lib.hid (show ∀ b, (List.replicate bs.length false).getD b false = true ↔ Gl.Way (rowsP bs) gone b by
      intro b
      refine ⟨fun h => ?_, fun h => ?_⟩
      · rw [List.getD_eq_getElem?_getD, List.getElem?_replicate] at h
        split at h <;> cases h
      · exfalso
        have key : ∀ b, ¬ Gl.Way (rowsP bs) gone b := by
          intro b hw
          induction hw with
          | root _ h => exact h hgn
          | step _ _ _ ih => exact ih
        exact key b h)
    clear hgn
    go_wp2_with fail
    go_loopw [6, 7, 8, 9] (fun o i _ _ wr => o = .slice (some ⟨gq, 0, none⟩) 0 0 ∧ i = .int .i64 0 ∧ wr = W3) (fun _ _ _ _ _ => 0)
    case atStart => exact ⟨rfl, rfl, rfl⟩
    case round =>
      obtain ⟨rfl, rfl, hw⟩ := hrel
      obtain rfl : W3 = wr := hw.symm
      go_wp2_with fail
      go_ret
      exact ⟨_, _, rfl, List.length_replicate, HO3.out, HB3.out, HF.out⟩
  · have e1 : (gone != 0) = true := by simpa using hgn
    have HGN := Lib.hid hgn
    clear hgn
    have c0 := HO3.out.cell (b := 0) (by rw [List.length_replicate]; exact h0)
    have c1 := World.ownsRow.frozenAt HO3.out 0
    rw [List.getElem_replicate] at c0
    go_upto_region 5 with (fail)
    obtain ⟨W4, hW4⟩ : ∃ W4, W3.setCell ⟨w.heap.size + 1, 0, none⟩ (.bool true) = W4 := ⟨_, rfl⟩
    have hst := HO3.out.store 0 true
    rw [hW4] at hst ⊢
    have HO4 := Lib.hid hst.1
    have HQ4 := Lib.hid (World.ownsRow.kept HQ3.out hst.2 (own_apart HQ3.out HO3.out (by decide)))
    have hs4 := HS3.out.kept hst.2 (fun e => by injection e with e; omega)
    have HS4 := Lib.hid hs4
    have HB4 := Lib.hid (HB3.out.trans (show Below w.heap.size W3 W4 by rw [← hW4]; exact (Below.refl _ _).setCell (by show w.heap.size ≤ w.heap.size + 1; omega) _))
    have hz4 := HB4.out.size
    have hz44 : w.heap.size + 1 < W4.heap.size := (HO4.out.lt _ rfl).2
    clear hst hs4 hW4 c0 c1 f1
    go_wp2_with (at_builtin; refine wpList_append1 rfl _ _ _ rfl w.heap.size 3 i1 (.int .i64 0) 8 Try.underlying28 HI1.out HY0.out HY1.out HY2.out rfl (.slice (some ⟨gq, 0, none⟩) 0 0) 0 [] rfl (own_below HQ4.out ((Below.refl _ _).alloc (Nat.le_refl _) (.cells #[.int .i64 0] 3))) ⟨W4.heap.size, 0, none⟩ (.int .i64 0) rfl (cell_made rfl) rfl (by omega) (by omega) (by rw [World.size_alloc]; omega) ?_)
    intro v5 W5 hr hg hm
    have hb5a : Below W4.heap.size W4 (W4.alloc (.cells #[.int .i64 0] 3)) := (Below.refl _ _).alloc (Nat.le_refl _) _
    have HB5 := Lib.hid (below_own (HB4.out.trans (hb5a.mono hz4)) (by rw [World.size_alloc]; omega) hg (fun g hg => (HQ4.out.lt g hg).1))
    have HS5 := Lib.hid ((HS4.out.below hb5a).kept hg (fun e => HS4.out.not_row (by decide) HQ4.out e))
    have HO5 := Lib.hid (World.ownsRow.kept (own_below HO4.out hb5a) hg (own_apart (own_below HO4.out hb5a) (own_below HQ4.out hb5a) (by decide)))
    obtain ⟨qA, qc, hqf⟩ := own_form hr
    subst hqf
    have HQ5 := Lib.hid (show OwnInts w.heap.size W5 (.slice qA 1 qc) (nums [0]) from hr)
    have HF5 := Lib.hid (show Found bs gone ((List.replicate bs.length false).set 0 true) [0] 0 from by
      have hl0 : (List.replicate bs.length false).length = bs.length := List.length_replicate
      refine ⟨by rw [List.length_set, hl0], Nat.zero_le _, ?_, fun x hx => ?_, fun b hb => ?_, fun _ => ?_, fun j _ hj => absurd hj (by omega)⟩
      · rw [count_true_set _ 0 ?_ (by rw [hl0]; exact h0), List.count_replicate]
        · simp
        · rw [List.getD_eq_getElem?_getD, List.getElem?_replicate, if_pos h0]; rfl
      · rw [List.mem_singleton] at hx; subst hx
        exact Gl.Way.root (by unfold rowsP; rw [List.length_map]; exact h0) HGN.out
      · rw [getD_set (by rw [hl0]; exact h0)] at hb
        by_cases hb0 : b = 0
        · subst hb0; exact List.mem_singleton.2 rfl
        · rw [if_neg hb0, List.getD_eq_getElem?_getD, List.getElem?_replicate] at hb
          split at hb <;> cases hb
      · rw [getD_set (by rw [hl0]; exact h0), if_pos rfl])
    have hgx : w.heap.size + 1 < W5.heap.size := by have h1 := HB5.out.size; have h2 := hg.size; rw [World.size_alloc] at h2; omega
    clear hr hg hm hb5a
    have HO5 := Lib.hid (show Bools w.heap.size (w.heap.size + 1) W5 ((List.replicate bs.length false).set 0 true) from HO5.out)
    generalize (List.replicate bs.length false).set 0 true = l5 at *
    go_wp2_with fail
    go_loopw [6, 7, 8, 9] (fun o i _ _ wr => ∃ (l : List Bool) (q : List Nat) (k : Nat), i = .int .i64 k ∧ Found bs gone l q k ∧ OwnInts w.heap.size wr o (nums q) ∧ Bools w.heap.size (w.heap.size + 1) wr l ∧ Below w.heap.size w wr ∧ Str wr w.heap.size 24 [.int .i64 params, .slice (some ⟨gB, oB, none⟩) bs.length c]) (fun _ i _ _ _ => bs.length - (intOf i).toNat)
    case atStart => exact ⟨l5, [0], 0, rfl, HF5.out, HQ5.out, HO5.out, HB5.out, HS5.out⟩
    case round =>
      obtain ⟨l, q, k, rfl, hf, hq, ho, hb, hs⟩ := hrel
      obtain ⟨wo, rfl⟩ : ∃ wo : World, wo = wr := ⟨_, rfl⟩
      have hqm := hf.most
      have hqk := hf.fit
      have hlen := hf.len
      have hqz : (nums q).length = q.length := nums_len q
      obtain ⟨oA, oc, hof⟩ := own_form hq
      rw [hqz] at hof
      subst hof
      have f1 : wo.cell? ⟨w.heap.size, 1, none⟩ = some (.slice (some ⟨gB, oB, none⟩) bs.length c) := hs.cell 1
      have HFd := Lib.hid hf
      have HQ := Lib.hid hq
      have HO := Lib.hid ho
      have HB := Lib.hid hb
      have HS := Lib.hid hs
      have HLN := Lib.hid hlen
      have hzo := hb.size
      clear hf hq ho hb hs hlen
      by_cases hlt : k < q.length
      · obtain ⟨a, ha⟩ : ∃ a, q[k]? = some a := ⟨_, List.getElem?_eq_getElem hlt⟩
        obtain ⟨gqa, hgqa⟩ := own_at HQ.out (by rw [hqz]; omega)
        subst hgqa
        have hc := (OwnInts.cell HQ.out (j := k) (by rw [hqz]; exact hlt)).1
        have hc' : wo.cell? ⟨gqa, k, none⟩ = some (.int .i64 a) := by
          rw [hc]
          have e1 : (nums q)[k]'(by rw [hqz]; exact hlt) = ((q[k] : Nat) : Int) := by simp [nums]
          have e2 : q[k] = a := by rw [List.getElem?_eq_getElem hlt] at ha; exact Option.some.inj ha
          rw [e1, e2]
        have haq : a ∈ q := List.mem_of_getElem? ha
        have halt : a < bs.length := by have := (HFd.out.way a haq).lt; unfold rowsP at this; rw [List.length_map] at this; exact this
        obtain ⟨hbl, hbk⟩ := open_block HBS.out halt
        obtain ⟨p0, c0, p1, c1, p3, c3, p4, c4, r0, r1, r2, r3, r4, r5, q0, q1, q3, q4⟩ := block_rows hbk
        have r4 := cell_keep HB.out (Nat.le_refl _) r4
        have HT := Lib.hid q4
        have HAQ := Lib.hid haq
        have HAK := Lib.hid ha
        obtain ⟨_, hq1, hq2⟩ := ints_open q4
        have HT2 := Lib.hid hq2
        have HED := Lib.hid (show ∀ b : Nat, edgeB (rowsP bs) a b = true → (b : Int) ∈ bs[a].term.to ∧ b < bs.length by
          intro b h
          have h2 := Gl.edge_lt h
          rw [Gl.edgeB_nat, Bool.and_eq_true] at h
          have h3 := h.2
          unfold rowsP at h3 h2
          rw [List.length_map] at h2
          rw [List.getD_eq_getElem?_getD, List.getElem?_map, List.getElem?_eq_getElem halt] at h3
          exact ⟨List.contains_iff_mem.1 h3, h2.2⟩)
        have HEB := Lib.hid (show ∀ b : Nat, b < bs.length → (b : Int) ∈ bs[a].term.to → edgeB (rowsP bs) a b = true by
          intro b h1 h2
          rw [Gl.edgeB_nat, Bool.and_eq_true]
          unfold rowsP
          rw [List.length_map]
          refine ⟨decide_eq_true ⟨halt, h1⟩, ?_⟩
          rw [List.getD_eq_getElem?_getD, List.getElem?_map, List.getElem?_eq_getElem halt]
          exact List.contains_iff_mem.2 h2)
        clear r0 r1 r2 r3 r5 q0 q1 q3 q4 hbk hc ha haq hq2 HT
        generalize bs[a].term.to = tt at *
        go_upto_region 9 with (fail)
        go_quiet (fail)
        go_upto_region 10 with (fail)
        obtain ⟨wd, hwd⟩ : ∃ wd, wo.drewN nq = wd := ⟨_, rfl⟩
        rw [hwd]
        have HBd := Lib.hid (show Below w.heap.size w wd by rw [← hwd]; exact below_drewK HB.out _)
        have HQd := Lib.hid (show OwnInts w.heap.size wd (.slice (some ⟨gqa, 0, none⟩) q.length oc) (nums q) by rw [← hwd]; exact HQ.out)
        have HOd := Lib.hid (show Bools w.heap.size (w.heap.size + 1) wd l by rw [← hwd]; exact HO.out)
        have HSd := Lib.hid (show Str wd w.heap.size 24 [.int .i64 params, .slice (some ⟨gB, oB, none⟩) bs.length c] by rw [← hwd]; exact HS.out)
        clear hwd f1 r4 hc'
        go_wp2_with fail
        go_loopw [6, 9] (fun o j wr => ∃ (l' : List Bool) (q' : List Nat) (x : Nat), j = .int .i64 x ∧ x ≤ tt.length ∧ Found bs gone l' q' k ∧ q'[k]? = some a ∧ OwnInts w.heap.size wr o (nums q') ∧ Bools w.heap.size (w.heap.size + 1) wr l' ∧ Below w.heap.size w wr ∧ Str wr w.heap.size 24 [.int .i64 params, .slice (some ⟨gB, oB, none⟩) bs.length c] ∧ ∀ b : Nat, (b : Int) ∈ tt.take x → b < bs.length → (b : Int) ≠ gone → l'.getD b false = true) (fun _ j _ => tt.length - (intOf j).toNat)
        case atStart => exact ⟨l, q, 0, rfl, Nat.zero_le _, HFd.out, HAK.out, HQd.out, HOd.out, HBd.out, HSd.out, fun b hb => by simp at hb⟩
        case round =>
          obtain ⟨l', q', x, rfl, hx, hf, hqa, hq, ho, hb, hs, hall⟩ := hrel
          obtain ⟨wi, rfl⟩ : ∃ wi : World, wi = wr := ⟨_, rfl⟩
          have hqm' := hf.most
          have hln := hf.len
          have hqz' : (nums q').length = q'.length := nums_len q'
          obtain ⟨iA, ic, hof⟩ := own_form hq
          rw [hqz'] at hof
          subst hof
          have HFi := Lib.hid hf
          have HQi := Lib.hid hq
          have HOi := Lib.hid ho
          have HBi := Lib.hid hb
          have HSi := Lib.hid hs
          have HALL := Lib.hid hall
          have HQA := Lib.hid hqa
          have HLI := Lib.hid hln
          have hzi := hb.size
          clear hf hq ho hb hs hall hqa hln
          by_cases hlt2 : x < tt.length
          · obtain ⟨ad, rfl, hy0⟩ := HT2.out x hlt2
            have hy := cell_keep HBi.out (Nat.le_refl _) hy0
            have HTK := Lib.hid (show ∀ y : Int, y ∈ tt.take (x + 1) → y ∈ tt.take x ∨ y = tt[x] from fun y hy => by
              rw [List.take_succ_eq_append_getElem hlt2, List.mem_append, List.mem_singleton] at hy; exact hy)
            have HTM := Lib.hid (show tt[x] ∈ tt from List.getElem_mem hlt2)
            generalize tt[x] = y at *
            have key : y < 0 ∨ (0 ≤ y ∧ (bs.length : Int) ≤ y) ∨ ∃ b : Nat, y = (b : Int) ∧ b < bs.length := by
              by_cases h1 : y < 0
              · exact Or.inl h1
              · by_cases h2 : (bs.length : Int) ≤ y
                · exact Or.inr (Or.inl ⟨by omega, h2⟩)
                · exact Or.inr (Or.inr ⟨y.toNat, by omega, by omega⟩)
            rcases key with k1 | ⟨k1, k2⟩ | ⟨b, rfl, hb⟩
            · have HN := Lib.hid (show ∀ b : Nat, (b : Int) ∈ tt.take (x + 1) → b < bs.length → (b : Int) ≠ gone → l'.getD b false = true from fun b h1 h2 h3 => by
                rcases HTK.out _ h1 with h | h
                · exact HALL.out b h h2 h3
                · omega)
              go_wp2_with fail
              go_roundw
              case rel => exact ⟨l', q', x + 1, by go_num, by omega, HFi.out, HQA.out, HQi.out, HOi.out, HBi.out, HSi.out, HN.out⟩
              case measure => simp [intOf]; omega
            · have HN := Lib.hid (show ∀ b : Nat, (b : Int) ∈ tt.take (x + 1) → b < bs.length → (b : Int) ≠ gone → l'.getD b false = true from fun b h1 h2 h3 => by
                rcases HTK.out _ h1 with h | h
                · exact HALL.out b h h2 h3
                · omega)
              go_wp2_with fail
              go_roundw
              case rel => exact ⟨l', q', x + 1, by go_num, by omega, HFi.out, HQA.out, HQi.out, HOi.out, HBi.out, HSi.out, HN.out⟩
              case measure => simp [intOf]; omega
            · have hbl' : b < l'.length := by rw [HLI.out]; exact hb
              have o0 := HOi.out.cell hbl'
              have o1 := World.ownsRow.frozenAt HOi.out b
              have HGD := Lib.hid (show l'.getD b false = l'[b] by rw [List.getD_eq_getElem?_getD, List.getElem?_eq_getElem hbl']; rfl)
              generalize l'[b] = vb at *
              cases vb with
              | true =>
                have HN := Lib.hid (show ∀ b : Nat, (b : Int) ∈ tt.take (x + 1) → b < bs.length → (b : Int) ≠ gone → l'.getD b false = true from fun b2 h1 h2 h3 => by
                  rcases HTK.out _ h1 with h | h
                  · exact HALL.out b2 h h2 h3
                  · have : b2 = b := by omega
                    subst this; exact HGD.out)
                go_wp2_with fail
                go_roundw
                case rel => exact ⟨l', q', x + 1, by go_num, by omega, HFi.out, HQA.out, HQi.out, HOi.out, HBi.out, HSi.out, HN.out⟩
                case measure => simp [intOf]; omega
              | false =>
                cases hgo : ((b : Int) != gone) with
                | false =>
                  have HN := Lib.hid (show ∀ b : Nat, (b : Int) ∈ tt.take (x + 1) → b < bs.length → (b : Int) ≠ gone → l'.getD b false = true from fun b2 h1 h2 h3 => by
                    rcases HTK.out _ h1 with h | h
                    · exact HALL.out b2 h h2 h3
                    · rw [← h] at hgo
                      exact absurd (by simpa using hgo) h3)
                  go_wp2_with fail
                  go_roundw
                  case rel => exact ⟨l', q', x + 1, by go_num, by omega, HFi.out, HQA.out, HQi.out, HOi.out, HBi.out, HSi.out, HN.out⟩
                  case measure => simp [intOf]; omega
                | true =>
                  have hgo2 : (b : Int) ≠ gone := by simpa using hgo
                  have HMO := Lib.hid (HFi.out.more hb HGD.out (List.mem_of_getElem? HQA.out) (HEB.out b hb HTM.out) hgo2)
                  have HQ2 := Lib.hid (show (q' ++ [b])[k]? = some a by
                    rw [List.getElem?_append_left (List.getElem?_eq_some_iff.1 HQA.out).1]; exact HQA.out)
                  have HN := Lib.hid (show ∀ b2 : Nat, (b2 : Int) ∈ tt.take (x + 1) → b2 < bs.length → (b2 : Int) ≠ gone → (l'.set b true).getD b2 false = true from fun b2 h1 h2 h3 => by
                    rw [getD_set hbl']
                    split
                    · rfl
                    · rename_i hne
                      rcases HTK.out _ h1 with h | h
                      · exact HALL.out b2 h h2 h3
                      · exact absurd (by omega) hne)
                  clear hgo2
                  go_upto_region 15 with (fail)
                  obtain ⟨Wa, hWa⟩ : ∃ Wa, wi.setCell ⟨w.heap.size + 1, b, none⟩ (.bool true) = Wa := ⟨_, rfl⟩
                  have hst := HOi.out.store b true
                  rw [hWa] at hst ⊢
                  have HOa := Lib.hid hst.1
                  have HQa := Lib.hid (World.ownsRow.kept HQi.out hst.2 (own_apart HQi.out HOi.out (by decide)))
                  have hsa := HSi.out.kept hst.2 (fun e => by injection e with e; omega)
                  have HSa := Lib.hid hsa
                  have HBa := Lib.hid (HBi.out.trans (show Below w.heap.size wi Wa by rw [← hWa]; exact (Below.refl _ _).setCell (by show w.heap.size ≤ w.heap.size + 1; omega) _))
                  have hza := HBa.out.size
                  have hza2 : w.heap.size + 1 < Wa.heap.size := (HOa.out.lt _ rfl).2
                  have hya := cell_keep HBa.out (Nat.le_refl _) hy0
                  clear hst hsa hWa o0 o1 hy
                  go_wp2_with (at_builtin; refine wpList_append1 rfl _ _ _ rfl w.heap.size 3 i1 (.int .i64 0) 8 Try.underlying28 HI1.out HY0.out HY1.out HY2.out rfl (.slice iA q'.length ic) (nums q').length ((nums q').map (Value.int .i64)) rfl (own_below HQa.out ((Below.refl _ _).alloc (Nat.le_refl _) (.cells #[.int .i64 b] 3))) ⟨Wa.heap.size, 0, none⟩ (.int .i64 b) rfl (cell_made rfl) rfl (by rw [hqz']; omega) (by omega) (by rw [World.size_alloc]; omega) ?_)
                  intro v5 W5 hr hg hm
                  have hb5a : Below Wa.heap.size Wa (Wa.alloc (.cells #[.int .i64 b] 3)) := (Below.refl _ _).alloc (Nat.le_refl _) _
                  have HB5 := Lib.hid (below_own (HBa.out.trans (hb5a.mono hza)) (by rw [World.size_alloc]; omega) hg (fun g hg => (HQa.out.lt g hg).1))
                  have HS5 := Lib.hid ((HSa.out.below hb5a).kept hg (fun e => HSa.out.not_row (by decide) HQa.out e))
                  have HO5 := Lib.hid (show Bools w.heap.size (w.heap.size + 1) W5 (l'.set b true) from World.ownsRow.kept (own_below HOa.out hb5a) hg (own_apart (own_below HOa.out hb5a) (own_below HQa.out hb5a) (by decide)))
                  have HQ5 := Lib.hid (show OwnInts w.heap.size W5 v5 (nums (q' ++ [b])) by
                    unfold OwnInts
                    rw [show nums (q' ++ [b]) = nums q' ++ [(b : Int)] by simp [nums], List.length_append, List.map_append, hqz']
                    exact hr)
                  obtain ⟨vA, vc, hvf⟩ := own_form hr
                  subst hvf
                  clear hr hg hm hb5a
                  go_wp2_with fail
                  go_roundw
                  case rel => exact ⟨_, _, x + 1, by go_num, by omega, HMO.out, HQ2.out, HQ5.out, HO5.out, HB5.out, HS5.out, HN.out⟩
                  case measure => simp [intOf]; omega
          · obtain rfl : x = tt.length := by omega
            have HFN := Lib.hid (show Found bs gone l' q' (k + 1) from by
              have hq2 := List.getElem?_eq_some_iff.1 HQA.out
              refine { HFi.out with fit := hq2.1, done := fun j hj hjk b he hg => ?_ }
              by_cases hj2 : j < k
              · exact HFi.out.done j hj hj2 b he hg
              · obtain rfl : j = k := by omega
                rw [hq2.2] at he
                obtain ⟨h1, h2⟩ := HED.out b he
                exact HALL.out b (by rw [List.take_length]; exact h1) h2 hg)
            go_wp2_with fail
            exact ⟨⟨l', q', k + 1, by go_num, HFN.out, HQi.out, HOi.out, HBi.out, HSi.out⟩, by simp [intOf]; omega⟩
      · obtain rfl : k = q.length := by omega
        have HE := Lib.hid (fun b => HFd.out.end_ (Nat.le_refl _) b)
        go_wp2_with fail
        go_ret
        exact ⟨_, l, rfl, HLN.out, HO.out, HB.out, HE.out⟩
end Go.Proofs.Ytdfehpcbcgbidaa.Rf
