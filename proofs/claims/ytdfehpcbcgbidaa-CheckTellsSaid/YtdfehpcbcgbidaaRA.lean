/- The document's answer of layer 3: where control comes from; how many operands and blocks there must be. -/
import Derived.Test.YtdfehpcbcgbidaaUC
namespace Go.Proofs.Ytdfehpcbcgbidaa.Rf
open Go.ChangeShapes Go.WideShapes Go.ChangeAt Go.RowKit Go.Maps Go.Proofs.Ytdfehpcbcgbidaa.Mem Go.Proofs.Ytdfehpcbcgbidaa.Br Go.Proofs.Ytdfehpcbcgbidaa.Gr Go.Proofs.Ytdfehpcbcgbidaa.Kc
set_option linter.unusedVariables false
theorem info_num : (Try.prog.info? 3).map (fun i => (i.zero, i.size, i.bytes)) = some (some (.int .i64 0), 1, 8) := by kernel_rfl
theorem below_own {w w1 w2 : World} {B : Nat} {v : Value} (hb : Below B w w1) (hB : B ≤ w1.heap.size) (hg : w1.grownBy w2 v.ownBlock) (hv : ∀ g, v.ownBlock = some g → B ≤ g) : Below B w w2 :=
  hb.trans ⟨hg.os, hg.tape, hg.output, hg.size, fun k hk => hg.block k (Nat.lt_of_lt_of_le hk hB) (fun e => by have := hv k e.symm; omega)⟩
/-- Block b of blocks in memory. -/
theorem open_block {w : World} {g o c : Nat} {bs : List PBlock} (h : BlocksAt w (.slice (some ⟨g, o, none⟩) bs.length c) bs) {b : Nat} (hb : b < bs.length) : bs.length ≤ 9223372036854775807 ∧ BlockAt w g (o + b * 6) bs[b] := by
  obtain ⟨A', c', g', o', e, h1, h2, h3, h4⟩ := h
  injection e with e1 _ e3
  have e2 := h3 (by omega)
  rw [← e1] at e2
  injection e2 with e2
  injection e2 with e4 e5
  subst e4 e5
  unfold maxLen at h2
  exact ⟨by omega, h4 b hb⟩
theorem ints_open {w : World} {A : Option Addr} {n c : Nat} {l : List Int} (h : Ints w (.slice A n c) l) : n = l.length ∧ n ≤ 9223372036854775807 ∧ ∀ k (hk : k < l.length), ∃ ad, A = some ad ∧ w.cell? (ad.add k) = some (.int .i64 l[k]) := by
  obtain ⟨A', c', e, h1, h2, h3⟩ := h
  injection e with e1 e2 e3
  subst e1 e2 e3
  unfold maxLen at h2
  exact ⟨rfl, by omega, h3⟩
theorem empty_ints (w : World) : OwnInts w.heap.size (w.alloc (.cells #[] 3)) (.slice (some ⟨w.heap.size, 0, none⟩) 0 0) [] :=
  World.ownsRow_made w #[] 0 (Nat.le_refl _) (Nat.zero_le _) (by simp)
/-- The blocks below k from which an edge goes to block b. -/
def comeL (bs : List PBlock) (b : Int) (k : Nat) : List Int := ((List.range k).filter fun (a : Nat) => ((bs[a]?.map fun x => x.term.to).getD []).contains b).map fun (a : Nat) => (a : Int)
theorem come_len (bs : List PBlock) (b : Int) (k : Nat) : (comeL bs b k).length ≤ k := by
  unfold comeL
  rw [List.length_map]
  exact Nat.le_trans (List.length_filter_le _ _) (by simp)
theorem come_hit {bs : List PBlock} {b : Int} {k : Nat} (hk : k < bs.length) (h : bs[k].term.to.contains b = true) : comeL bs b (k + 1) = comeL bs b k ++ [(k : Int)] := by
  unfold comeL
  rw [List.range_succ, List.filter_append, List.map_append]
  simp only [List.filter_cons, List.filter_nil, List.getElem?_eq_getElem hk, Option.map_some, Option.getD_some, h]
  rfl
theorem come_miss {bs : List PBlock} {b : Int} {k : Nat} (hk : k < bs.length) (h : bs[k].term.to.contains b = false) : comeL bs b (k + 1) = comeL bs b k := by
  unfold comeL
  rw [List.range_succ, List.filter_append, List.map_append]
  simp only [List.filter_cons, List.filter_nil, List.getElem?_eq_getElem hk, Option.map_some, Option.getD_some, h]
  simp
theorem contains_false {l : List Int} {b : Int} {k : Nat} (hk : k < l.length) (h : (l.take k).contains b = false) (hn : (l[k] == b) = false) : (l.take (k + 1)).contains b = false := by
  rw [List.take_succ_eq_append_getElem hk]
  simp only [List.contains_eq_any_beq, List.any_append, List.any_cons, List.any_nil, Bool.or_false] at h ⊢
  rw [h, Bool.false_or]
  rw [beq_eq_false_iff_ne] at hn ⊢
  exact fun e => hn e.symm
theorem contains_true {l : List Int} {b : Int} {k : Nat} (hk : k < l.length) (hn : (l[k] == b) = true) : l.contains b = true := by
  rw [List.contains_iff_mem, ← beq_iff_eq.1 hn]
  exact List.getElem_mem hk
set_option maxRecDepth 100000 in
set_option maxHeartbeats 4000000 in
theorem preds3_any (w : World) (params : Int) (gB oB c : Nat) (bs : List PBlock) (b : Int) (hbs : BlocksAt w (.slice (some ⟨gB, oB, none⟩) bs.length c) bs) (hl : bs.length ≤ 4096) :
    Calls Try.prog 46 #[.agg #[.int .i64 params, .slice (some ⟨gB, oB, none⟩) bs.length c], .int .i64 b] w (fun e w' => ∃ v, e = .returned v ∧ OwnInts w.heap.size w' v (comeL bs b bs.length) ∧ Below w.heap.size w w') := by
  have HBS := Lib.hid hbs
  obtain ⟨i1, hi, hz0, hz1, hz2⟩ := info_parts info_num
  have HI1 := Lib.hid hi
  have HY0 := Lib.hid hz0
  have HY1 := Lib.hid hz1
  have HY2 := Lib.hid hz2
  clear hi hz0 hz1 hz2 hbs
  go_enter Try.func46, Try.ntmps46
  go_upto_region 1 with (fail)
  obtain ⟨W1, hW1⟩ : ∃ W1, w.alloc (.cells #[.int .i64 params, .slice (some ⟨gB, oB, none⟩) bs.length c] 24) = W1 := ⟨_, rfl⟩
  rw [hW1]
  have hb1 : Below w.heap.size w W1 := by rw [← hW1]; exact (Below.refl _ _).alloc (Nat.le_refl _) _
  have hs1 : Str W1 w.heap.size 24 [.int .i64 params, .slice (some ⟨gB, oB, none⟩) bs.length c] := by rw [← hW1]; exact World.alloc_heap_new w _
  have hzW1 : W1.heap.size = w.heap.size + 1 := by rw [← hW1]; simp
  clear hW1
  go_upto_region 2 with (fail)
  obtain ⟨W2, hW2⟩ : ∃ W2, W1.alloc (.cells #[] 3) = W2 := ⟨_, rfl⟩
  rw [hW2]
  have ho := empty_ints W1
  rw [hW2, hzW1] at ho
  have hb2 : Below W1.heap.size W1 W2 := by rw [← hW2]; exact (Below.refl _ _).alloc (Nat.le_refl _) _
  have HS := Lib.hid (hs1.below hb2)
  have HB2 := Lib.hid (hb1.trans (hb2.mono hb1.size))
  have HO2 := Lib.hid (own_base ho (Nat.le_succ _))
  have hz2 := HB2.out.size
  clear hW2 ho hb2 hb1 hs1 hzW1
  go_wp2_with fail
  go_loopw [5, 6, 7, 8] (fun o i _ _ wr => ∃ k : Nat, k ≤ bs.length ∧ i = .int .i64 k ∧ OwnInts w.heap.size wr o (comeL bs b k) ∧ Below w.heap.size w wr ∧ Str wr w.heap.size 24 [.int .i64 params, .slice (some ⟨gB, oB, none⟩) bs.length c]) (fun _ i _ _ _ => bs.length - (intOf i).toNat)
  case atStart => exact ⟨0, by omega, rfl, HO2.out, HB2.out, HS.out⟩
  case round =>
    obtain ⟨k, hk, rfl, hown, hb, hs⟩ := hrel
    obtain ⟨wo, rfl⟩ : ∃ wo : World, wo = wr := ⟨_, rfl⟩
    have f1 : wo.cell? ⟨w.heap.size, 1, none⟩ = some (.slice (some ⟨gB, oB, none⟩) bs.length c) := hs.cell 1
    have HS := Lib.hid hs
    have HB := Lib.hid hb
    have hcl := come_len bs b k
    obtain ⟨oA, oc, hof⟩ := own_form hown
    subst hof
    have HO := Lib.hid hown
    have hzo := hb.size
    clear hown hb hs
    by_cases hlt : k < bs.length
    · have HH := Lib.hid (fun h => @come_hit bs b k hlt h)
      have HM := Lib.hid (fun h => @come_miss bs b k hlt h)
      obtain ⟨hbl, hbk⟩ := open_block HBS.out hlt
      obtain ⟨p0, c0, p1, c1, p3, c3, p4, c4, r0, r1, r2, r3, r4, r5, q0, q1, q3, q4⟩ := block_rows hbk
      have r4 := cell_keep HB.out (Nat.le_refl _) r4
      obtain ⟨_, hq1, hq2⟩ := ints_open (q4.keep HB.out)
      have HQ := Lib.hid hq2
      clear r0 r1 r2 r3 r5 q0 q1 q3 q4 hbk hq2
      generalize bs[k].term.to = tt at *
      generalize comeL bs b k = cl at *
      go_wp2_with fail
      go_loopw [5, 8] (fun o j wr => ∃ q : Nat, q ≤ tt.length ∧ j = .int .i64 q ∧ o = .slice oA cl.length oc ∧ wr = wo ∧ (tt.take q).contains b = false) (fun _ j _ => tt.length - (intOf j).toNat)
      case atStart => exact ⟨0, by omega, rfl, rfl, rfl, by simp⟩
      case round =>
        obtain ⟨q, hq, rfl, rfl, hw, hct⟩ := hrel
        obtain rfl : wo = wr := hw.symm
        have HCT := Lib.hid hct
        clear hct hw
        by_cases hlt2 : q < tt.length
        · obtain ⟨ad, rfl, hx⟩ := HQ.out q hlt2
          cases he : (tt[q] == b) with
          | false =>
            have HN := Lib.hid (contains_false hlt2 HCT.out he)
            generalize tt[q] = x at *
            go_wp2_with fail
            go_roundw
            case rel => exact ⟨q + 1, by omega, by go_num, rfl, trivial, HN.out⟩
            case measure => simp [intOf]; omega
          | true =>
            have HN := Lib.hid (contains_true hlt2 he)
            generalize tt[q] = x at *
            go_wp2_with (at_builtin; refine wpList_append1 rfl _ _ _ rfl w.heap.size 3 i1 (.int .i64 0) 8 Try.underlying28 HI1.out HY0.out HY1.out HY2.out rfl (.slice oA cl.length oc) cl.length (cl.map (Value.int .i64)) rfl (own_below HO.out ((Below.refl _ _).alloc (Nat.le_refl _) (.cells #[.int .i64 k] 3))) ⟨wo.heap.size, 0, none⟩ (.int .i64 k) rfl (cell_made rfl) rfl (by omega) (by omega) (by rw [World.size_alloc]; omega) ?_)
            intro v' w' hr hg hm
            have hb9 : Below w.heap.size w (wo.alloc (.cells #[.int .i64 k] 3)) := HB.out.alloc hzo _
            have HB9 := Lib.hid (below_own hb9 (by rw [World.size_alloc]; omega) hg (fun g hg => (HO.out.lt g hg).1))
            have HS9 := Lib.hid ((HS.out.below ((Below.refl _ _).alloc (Nat.le_refl _) (.cells #[.int .i64 k] 3))).kept hg (by
              intro e
              have h1 := HS.out
              have h2 := h1.not_row (by decide) HO.out
              exact h2 e))
            obtain ⟨vA, vc, hvf⟩ := own_form hr
            subst hvf
            have HR := Lib.hid (show OwnInts w.heap.size w' (.slice vA (cl.length + 1) vc) (comeL bs b (k + 1)) by
              rw [HH.out HN.out]
              unfold OwnInts
              rw [List.length_append, List.map_append]
              exact hr)
            clear hr hg hm hb9
            go_wp2_with fail
            exact ⟨⟨k + 1, by omega, by go_num, HR.out, HB9.out, HS9.out⟩, by simp [intOf]; omega⟩
        · obtain rfl : q = tt.length := by omega
          have HN := Lib.hid (show tt.contains b = false by have := HCT.out; rwa [List.take_length] at this)
          go_wp2_with fail
          exact ⟨⟨k + 1, by omega, by go_num, by rw [HM.out HN.out]; exact HO.out, HB.out, HS.out⟩, by simp [intOf]; omega⟩
    · obtain rfl : k = bs.length := by omega
      go_wp2_with fail
      go_ret
      exact ⟨_, rfl, HO.out, HB.out⟩
end Go.Proofs.Ytdfehpcbcgbidaa.Rf
