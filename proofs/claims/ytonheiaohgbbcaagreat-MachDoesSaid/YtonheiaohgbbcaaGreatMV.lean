/- Stage 7: the laws' one block, and their examples. -/
import Derived.Test.YtonheiaohgbbcaaGreatMU
namespace Go.Proofs.YtonheiaohgbbcaaGreat.Mc
open Go.ChangeShapes Go.WideShapes Go.ChangeAt Go.RowKit Go.Maps Go.Proofs.YtonheiaohgbbcaaGreat.Mem Go.Proofs.YtonheiaohgbbcaaGreat.Kc Go.Proofs.YtonheiaohgbbcaaGreat.Pl Go.Proofs.YtonheiaohgbbcaaGreat.Mw Go.Proofs.YtonheiaohgbbcaaGreat.Br
set_option linter.unusedVariables false
set_option linter.unusedSimpArgs false
def OnePost (params : Int) (l e0 e1 e2 e3 e4 : Value) (w : World) (en : Ending) (w' : World) : Prop := ∃ b, w.heap.size ≤ b ∧ en = .returned (.agg #[.int .i64 params, .slice (some ⟨b, 0, none⟩) 1 1]) ∧ Str w' b 67 [.slice none 0 0, l, e0, e1, e2, e3, e4] ∧ Below w.heap.size w w'
set_option maxRecDepth 100000 in
set_option maxHeartbeats 4000000 in
theorem one_any (w : World) (params op a b imm : Int) (A lA : Option Addr) (n k ln lc : Nat) :
    Calls Tryz.prog 32 #[.int .i64 params, .agg #[.int .i64 op, .int .i64 a, .int .i64 b, .slice A n k, .int .i32 imm], .slice lA ln lc] w (OnePost params (.slice lA ln lc) (.int .i64 op) (.int .i64 a) (.int .i64 b) (.slice A n k) (.int .i32 imm) w) := by
  go_enter Tryz.func32, Tryz.ntmps32
  go_wp2
  refine ⟨rfl, .agg #[.int .i64 params, .slice (some ⟨w.heap.size + 1 + 1, 0, none⟩) 1 1], ?_, ?_⟩
  · simp only [results]
    go_simp
  · refine ⟨w.heap.size + 1 + 1, by omega, rfl, ?_, (((Below.refl _ _).alloc (Nat.le_refl _) _).alloc (by simp) _).alloc (by simp; omega) _⟩
    have h := World.alloc_heap_new ((w.alloc (.cells #[.int .i64 op, .int .i64 a, .int .i64 b, .slice A n k, .int .i32 imm] 42)).alloc (.cells #[.int .i64 params, .slice (some ⟨w.heap.size + 1 + 1, 0, none⟩) 1 1] 24)) (.cells #[.slice none 0 0, .slice lA ln lc, .int .i64 op, .int .i64 a, .int .i64 b, .slice A n k, .int .i32 imm] 67)
    simp only [World.size_alloc] at h
    exact h
theorem row_one {w : World} {x : Nat} (i : PMach) {A : Option Addr} {k : Nat} (h : Str w x 40 [.int .i64 i.op, .int .i64 i.d, .int .i64 i.e, .int .i64 i.a, .int .i64 i.b, .int .i64 i.c, .int .i32 i.imm, .slice A i.args.length k]) (hv : Ints w (.slice A i.args.length k) i.args) : RowAt w 8 MachAt (.slice (some ⟨x, 0, none⟩) 1 1) [i] := by
  refine ⟨_, 1, x, 0, rfl, Nat.le_refl _, by decide, fun _ => rfl, fun j hj => ?_⟩
  have : j = 0 := by simp at hj; omega
  subst this
  exact ⟨h.cell 0, h.cell 1, h.cell 2, h.cell 3, h.cell 4, h.cell 5, h.cell 6, _, h.cell 7, hv⟩
theorem mblocks_one {w : World} {x : Nat} {ins : List PMach} {lA A : Option Addr} {lc k : Nat} {op a b imm : Int} {to : List Int} (h : Str w x 67 [.slice none 0 0, .slice lA ins.length lc, .int .i64 op, .int .i64 a, .int .i64 b, .slice A to.length k, .int .i32 imm])
    (hr : RowAt w 8 MachAt (.slice lA ins.length lc) ins) (ht : Ints w (.slice A to.length k) to) : MBlocksAt w (.slice (some ⟨x, 0, none⟩) 1 1) [⟨[], ins, ⟨op, a, b, to, imm⟩⟩] := by
  refine ⟨_, 1, x, 0, rfl, Nat.le_refl _, by decide, fun _ => rfl, fun j hj => ?_⟩
  have : j = 0 := by simp at hj; omega
  subst this
  exact ⟨⟨_, h.cell 0, rowAt_nil⟩, ⟨_, h.cell 1, hr⟩, h.cell 2, h.cell 3, h.cell 4, ⟨_, h.cell 5, ht⟩, h.cell 6⟩
theorem words_lit {w : World} {x : Nat} {t : TypeId} {l : List Int} (h : Str w x t (l.map (Value.int .i32))) (hl : l.length ≤ 1000) : WordsAt w (.slice (some ⟨x, 0, none⟩) l.length l.length) l := by
  refine ⟨_, _, rfl, Nat.le_refl _, by unfold maxLen; omega, fun k hk => ⟨_, rfl, ?_⟩⟩
  rw [at_add0, h.cell k, List.getElem?_map, List.getElem?_eq_getElem hk]; rfl
theorem wf_one {i : PMach} {e : PEnd} (hi : i.args.length ≤ 100000 ∧ InI i.a ∧ InI i.b ∧ InI i.c ∧ InI i.d ∧ InI i.e ∧ InW i.imm) (he : e.to.length ≤ 1000) : WfM [⟨[], [i], e⟩] where
  few := by simp
  sizes := fun x hx => by rw [List.mem_singleton.1 hx]; exact ⟨by simp, by simp, he⟩
  ins := fun x hx j hj => by rw [List.mem_singleton.1 hx] at hj; rw [List.mem_singleton.1 hj]; exact hi
  phis := fun x hx p hp => by rw [List.mem_singleton.1 hx] at hp; cases hp
theorem par5 : ∀ r, InW (parV [5] (min 1 [(5 : Int)].length) r) := by
  intro r
  unfold parV
  split
  · rename_i h
    have : r = 0 := by simp at h; omega
    subst this
    unfold InW
    decide
  · unfold InW
    decide
def I1 : PMach := ⟨18, 1, 0, 0, 0, 0, -3, []⟩
def I2 : PMach := ⟨18, 1, 0, 0, 0, 0, 128, []⟩
/-- An answer of a bool; nothing that was there has turned. -/
def Says (b : Bool) (w : World) (e : Ending) (w' : World) : Prop := e = .returned (.bool b) ∧ Below w.heap.size w w'
set_option maxRecDepth 100000 in
set_option maxHeartbeats 4000000 in
theorem shown_any (w : World) : Calls Tryz.prog 9 #[] w (Says true w) := by
  go_enter Tryz.func9, Tryz.ntmps9
  go_wp2_with fail
  obtain ⟨W1, hW1⟩ : ∃ W1, w.alloc (.cells #[.int .i64 18, .int .i64 1, .int .i64 0, .int .i64 0, .int .i64 0, .int .i64 0, .int .i32 (-3), .slice none 0 0] 40) = W1 := ⟨_, rfl⟩
  have hbW1 : Below w.heap.size w W1 := by rw [← hW1]; exact (Below.refl _ _).alloc (Nat.le_refl _) _
  have hsW1 : Str W1 w.heap.size 40 [.int .i64 18, .int .i64 1, .int .i64 0, .int .i64 0, .int .i64 0, .int .i64 0, .int .i32 (-3), .slice none 0 0] := by rw [← hW1]; exact World.alloc_heap_new w _
  rw [hW1]
  clear hW1
  refine (one_any W1 1 7 1 0 0 none (some ⟨w.heap.size, 0, none⟩) 0 0 1 1).mono ?_
  rintro e w2 ⟨b2, hb2l, rfl, hs2, hb2⟩
  have HBK := Lib.hid (mblocks_one (ins := [I1]) (to := []) hs2 (row_one I1 (hsW1.below hb2) (ints_none _)) (ints_none _))
  have HB2 := Lib.hid (hbW1.trans (hb2.mono hbW1.size))
  clear hsW1 hbW1 hs2 hb2 hb2l
  go_wp2_with fail
  obtain ⟨W3, hW3⟩ : ∃ W3, w2.alloc (.cells #[.int .i32 5] 21) = W3 := ⟨_, rfl⟩
  have hbW3 : Below w2.heap.size w2 W3 := by rw [← hW3]; exact (Below.refl _ _).alloc (Nat.le_refl _) _
  have hsW3 : Str W3 w2.heap.size 21 [.int .i32 5] := by rw [← hW3]; exact World.alloc_heap_new w2 _
  rw [hW3]
  clear hW3
  have HB3 := Lib.hid (HB2.out.trans (hbW3.mono HB2.out.size))
  refine (run_one W3 1 (by omega) (some ⟨b2, 0, none⟩) 1 I1 1 0 0 [] (HBK.out.keep hbW3) (wf_one ⟨by decide, by unfold InI; decide, by unfold InI; decide, by unfold InI; decide, by unfold InI; decide, by unfold InI; decide, by unfold InW; decide⟩ (by decide)) (by unfold InI; decide) (by decide +kernel)
    (.slice (some ⟨w2.heap.size, 0, none⟩) 1 1) (.slice none 0 0) (.slice none 0 0) 9 (by omega) [5] [] (words_lit (l := [5]) hsW3 (by decide)) (WordsAt.none_ _) (by decide) par5 (by decide +kernel)).mono ?_
  rintro e w4 ⟨mA, mn, mc, cA, cn, ck, rfl, hb4⟩
  rw [show newV I1 (parV [5] (min 1 [(5 : Int)].length)) (List.take 4096 []) 1 = 2 by decide +kernel]
  have HB4 := Lib.hid (HB3.out.trans (hb4.mono HB3.out.size))
  clear hbW3 hsW3 hb4 HBK
  go_upto_region 2 with (fail)
  obtain ⟨W5, hW5⟩ : ∃ W5, w4.alloc (.cells #[.int .i64 1, .int .i32 2, .slice mA mn mc, .slice cA cn ck, .int .i64 2] 33) = W5 := ⟨_, rfl⟩
  have hbW5 : Below w4.heap.size w4 W5 := by rw [← hW5]; exact (Below.refl _ _).alloc (Nat.le_refl _) _
  have hsW5 : Str W5 w4.heap.size 33 [.int .i64 1, .int .i32 2, .slice mA mn mc, .slice cA cn ck, .int .i64 2] := by rw [← hW5]; exact World.alloc_heap_new w4 _
  rw [hW5]
  clear hW5
  have HO5 := Lib.hid hsW5
  have HB5 := Lib.hid (HB4.out.trans (hbW5.mono HB4.out.size))
  clear hsW5 hbW5
  go_wp2_with fail
  obtain ⟨W6, hW6⟩ : ∃ W6, W5.alloc (.cells #[.int .i64 18, .int .i64 1, .int .i64 0, .int .i64 0, .int .i64 0, .int .i64 0, .int .i32 128, .slice none 0 0] 40) = W6 := ⟨_, rfl⟩
  have hbW6 : Below W5.heap.size W5 W6 := by rw [← hW6]; exact (Below.refl _ _).alloc (Nat.le_refl _) _
  have hsW6 : Str W6 W5.heap.size 40 [.int .i64 18, .int .i64 1, .int .i64 0, .int .i64 0, .int .i64 0, .int .i64 0, .int .i32 128, .slice none 0 0] := by rw [← hW6]; exact World.alloc_heap_new W5 _
  rw [hW6]
  clear hW6
  have HO6 := Lib.hid (HO5.out.below hbW6)
  have HB6 := Lib.hid (HB5.out.trans (hbW6.mono HB5.out.size))
  refine (one_any W6 1 7 1 0 0 none (some ⟨W5.heap.size, 0, none⟩) 0 0 1 1).mono ?_
  rintro e w7 ⟨b7, hb7l, rfl, hs7, hb7⟩
  have HBK := Lib.hid (mblocks_one (ins := [I2]) (to := []) hs7 (row_one I2 (hsW6.below hb7) (ints_none _)) (ints_none _))
  have HO7 := Lib.hid (HO6.out.below hb7)
  have HB7 := Lib.hid (HB6.out.trans (hb7.mono HB6.out.size))
  clear hsW6 hbW6 hs7 hb7 hb7l
  go_wp2_with fail
  refine (func0_any w7 1 (some ⟨b7, 0, none⟩) 1 [⟨[], [I2], ⟨7, 1, 0, [], 0⟩⟩] HBK.out (wf_one ⟨by decide, by unfold InI; decide, by unfold InI; decide, by unfold InI; decide, by unfold InI; decide, by unfold InI; decide, by unfold InW; decide⟩ (by decide)) (by simp)).mono ?_
  rintro e w8 ⟨rfl, hb8⟩
  rw [show funcM 1 [⟨[], [I2], ⟨7, 1, 0, [], 0⟩⟩] = (32, 0, 0) by decide +kernel]
  have ho := HO7.out.below hb8
  have o0 := ho.cell 0
  have o1 := ho.cell 1
  have o4 := ho.cell 4
  have HB8 := Lib.hid (HB7.out.trans (hb8.mono HB7.out.size))
  clear ho hb8
  go_wp2_with fail
  go_ret
  exact ⟨rfl, HB8.out⟩
end Go.Proofs.YtonheiaohgbbcaaGreat.Mc
