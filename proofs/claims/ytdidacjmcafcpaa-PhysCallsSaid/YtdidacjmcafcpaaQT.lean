/- Stage 12: the document's example. -/
import Derived.Test.YtdidacjmcafcpaaQS
import Derived.Test.YtdidacjmcafcpaaQJ
namespace Go.Proofs.Ytdidacjmcafcpaa.Ph
open Go.ChangeShapes Go.WideShapes Go.ChangeAt Go.RowKit Go.Proofs.Ytdidacjmcafcpaa.Mem Go.Proofs.Ytdidacjmcafcpaa.Kc Go.Proofs.Ytdidacjmcafcpaa.Pl Go.Proofs.Ytdidacjmcafcpaa.Mw Go.Proofs.Ytdidacjmcafcpaa.Mc Go.Proofs.Ytdidacjmcafcpaa.Br Go.Proofs.Ytdidacjmcafcpaa.Wd Go.Proofs.Ytdidacjmcafcpaa.Gr
set_option linter.unusedVariables false
set_option linter.unusedSimpArgs false
def SW : PPB := ⟨[⟨⟨2, 0, 0, 0, 1, 0, 0, []⟩, 0⟩, ⟨⟨6, 0, 0, 0, 1, 0, 0, []⟩, 0⟩], ⟨7, 0, 0, [], 0⟩⟩
theorem sw_wf : WfQ [SW] where
  few := by simp
  sizes := fun x hx => by rw [List.mem_singleton.1 hx]; exact ⟨by simp [SW], by simp [SW]⟩
  ins := fun x hx y hy => by
    rw [List.mem_singleton.1 hx] at hy
    have h : y = ⟨⟨2, 0, 0, 0, 1, 0, 0, []⟩, 0⟩ ∨ y = ⟨⟨6, 0, 0, 0, 1, 0, 0, []⟩, 0⟩ := by simpa [SW] using hy
    rcases h with rfl | rfl
    · exact ⟨by simp, by unfold InI; decide, by unfold InI; decide, by unfold InI; decide, by unfold InI; decide, by unfold InI; decide, by unfold InW; decide⟩
    · exact ⟨by simp, by unfold InI; decide, by unfold InI; decide, by unfold InI; decide, by unfold InI; decide, by unfold InI; decide, by unfold InW; decide⟩
theorem sw_ok : (funcQ 2 4 0 [SW]).1 = 0 := by decide +kernel
theorem sw_ins : ∀ y ∈ SW.ins, (y.i.op ≠ 28 ∧ y.i.op ≠ 30 ∧ y.i.op ≠ 31) ∧ (InI y.i.a ∧ InI y.i.b ∧ InI y.i.c ∧ InI y.i.d ∧ InI y.i.e) ∧ InW y.i.imm := fun y hy => by
  have h := sw_wf.ins SW (List.mem_singleton.2 rfl) y hy
  have h2 : y = ⟨⟨2, 0, 0, 0, 1, 0, 0, []⟩, 0⟩ ∨ y = ⟨⟨6, 0, 0, 0, 1, 0, 0, []⟩, 0⟩ := by simpa [SW] using hy
  refine ⟨?_, ⟨h.2.1, h.2.2.1, h.2.2.2.1, h.2.2.2.2.1, h.2.2.2.2.2.1⟩, h.2.2.2.2.2.2⟩
  rcases h2 with rfl | rfl
  · exact ⟨by decide, by decide, by decide⟩
  · exact ⟨by decide, by decide, by decide⟩
theorem getWQ {l : List Int} (h : ∀ x ∈ l, InW x) : ∀ r, InW (getP l r) := by
  intro r
  unfold getP
  split
  · rename_i hr
    have hk : r.toNat < l.length := by omega
    rw [List.getD_eq_getElem?_getD, List.getElem?_eq_getElem hk]
    exact h _ (List.getElem_mem hk)
  · unfold InW; omega
theorem sw_regs (av mv nv : Value) (lim : Int) (sv me : Value) (k : Nat) (hk : k < SW.ins.length) : (∀ r, InW (getP (stQ SW.ins (startQ av mv nv lim 2 [5, 9] sv me) ([].take 4096) k).1.regs r)) ∧ (stQ SW.ins (startQ av mv nv lim 2 [5, 9] sv me) ([].take 4096) k).2.length ≤ 1000000 := by
  have h : k = 0 ∨ k = 1 := by have : SW.ins.length = 2 := rfl; omega
  rcases h with rfl | rfl
  · refine ⟨getWQ (l := [5, 9, 0, 0, 0, 0, 0, 0, 0, 0, 0, 0, 0, 0, 0, 0]) (by unfold InW; decide), by show (List.take 4096 ([] : List Int)).length ≤ _; simp⟩
  · refine ⟨getWQ (l := [9, 5, 0, 0, 0, 0, 0, 0, 0, 0, 0, 0, 0, 0, 0, 0]) (by unfold InW; decide), by show (List.take 4096 ([] : List Int)).length ≤ _; simp⟩
theorem sw_three (av mv nv sv me : Value) : (restQ SW.fin SW.ins (startQ av mv nv 3 2 [5, 9] sv me) ([].take 4096)).1.how = 1 ∧ (restQ SW.fin SW.ins (startQ av mv nv 3 2 [5, 9] sv me) ([].take 4096)).1.val = 4 ∧ (restQ SW.fin SW.ins (startQ av mv nv 3 2 [5, 9] sv me) ([].take 4096)).1.steps = 3 := ⟨by kernel_rfl, by kernel_rfl, by kernel_rfl⟩
theorem sw_two (av mv nv sv me : Value) : (restQ SW.fin SW.ins (startQ av mv nv 2 2 [5, 9] sv me) ([].take 4096)).1.how = 3 ∧ (restQ SW.fin SW.ins (startQ av mv nv 2 2 [5, 9] sv me) ([].take 4096)).1.steps = 2 := ⟨by kernel_rfl, by kernel_rfl⟩
theorem words_litQ {w : World} {x : Nat} {l : List Int} (h : Str w x 21 (l.map (Value.int .i32))) (hl : l.length ≤ 1000) : WordsAt w (.slice (some ⟨x, 0, none⟩) l.length l.length) l := by
  refine ⟨_, _, rfl, Nat.le_refl _, by unfold maxLen; omega, fun k hk => ⟨_, rfl, ?_⟩⟩
  rw [show (⟨x, 0, none⟩ : Addr).add k = ⟨x, k, none⟩ by unfold Addr.add; split <;> simp_all, h.cell k, List.getElem?_map, List.getElem?_eq_getElem hk]; rfl
theorem ints_litQ {w : World} {x : Nat} {l : List Int} (h : Str w x 3 (l.map (Value.int .i64))) (hl : l.length ≤ 1000) : Ints w (.slice (some ⟨x, 0, none⟩) l.length l.length) l := by
  refine ⟨_, _, rfl, Nat.le_refl _, by unfold maxLen; omega, fun k hk => ⟨_, rfl, ?_⟩⟩
  rw [show (⟨x, 0, none⟩ : Addr).add k = ⟨x, k, none⟩ by unfold Addr.add; split <;> simp_all, h.cell k, List.getElem?_map, List.getElem?_eq_getElem hk]; rfl
theorem sw_at {w : World} {x y : Nat} (hx : Str w x 47 [.int .i64 2, .int .i64 0, .int .i64 0, .int .i64 0, .int .i64 1, .int .i64 0, .int .i32 0, .slice none 0 0, .int .i64 0, .int .i64 6, .int .i64 0, .int .i64 0, .int .i64 0, .int .i64 1, .int .i64 0, .int .i32 0, .slice none 0 0, .int .i64 0])
    (hy : Str w y 45 [.slice (some ⟨x, 0, none⟩) 2 2, .int .i64 7, .int .i64 0, .int .i64 0, .slice none 0 0, .int .i32 0]) : PBlocksAt w (.slice (some ⟨y, 0, none⟩) 1 1) [SW] := by
  refine ⟨_, 1, y, 0, rfl, Nat.le_refl _, by decide, fun _ => rfl, fun j hj => ?_⟩
  have : j = 0 := by simp at hj; omega
  subst this
  refine ⟨⟨_, hy.cell 0, ⟨_, 2, x, 0, rfl, Nat.le_refl _, by decide, fun _ => rfl, fun i hi => ?_⟩⟩, hy.cell 1, hy.cell 2, hy.cell 3, ⟨_, hy.cell 4, ints_none _⟩, hy.cell 5⟩
  have hi : i = 0 ∨ i = 1 := by have : i < 2 := hi; omega
  rcases hi with rfl | rfl
  · exact ⟨hx.cell 0, hx.cell 1, hx.cell 2, hx.cell 3, hx.cell 4, hx.cell 5, hx.cell 6, ⟨_, hx.cell 7, ints_none _⟩, hx.cell 8⟩
  · exact ⟨hx.cell 9, hx.cell 10, hx.cell 11, hx.cell 12, hx.cell 13, hx.cell 14, hx.cell 15, ⟨_, hx.cell 16, ints_none _⟩, hx.cell 17⟩
def SwPost (w : World) (e : Ending) (w' : World) : Prop := ∃ b, e = .returned (.agg #[.int .i64 2, .int .i64 4, .int .i64 0, .slice (some ⟨b, 0, none⟩) 1 1]) ∧ PBlocksAt w' (.slice (some ⟨b, 0, none⟩) 1 1) [SW] ∧ Below w.heap.size w w'
theorem four_but (R : Nat) (w : World) (a b c d : Value) : But R w ((((w.setCell ⟨R, 0, none⟩ a).setCell ⟨R, 1, none⟩ b).setCell ⟨R, 2, none⟩ c).setCell ⟨R, 3, none⟩ d) := (((but_set _ _ _ _).trans (but_set _ _ _ _)).trans (but_set _ _ _ _)).trans (but_set _ _ _ _)
set_option maxRecDepth 100000 in
set_option maxHeartbeats 4000000 in
theorem swapped_any (w : World) : Calls Try.prog 27 #[] w (SwPost w) := by
  go_enter Try.func27, Try.ntmps27
  go_upto_region 1 with (fail)
  obtain ⟨W1, hW1⟩ : ∃ V, w.alloc (.cells #[.int .i64 0, .int .i64 0, .int .i64 0, .slice none 0 0] 51) = V := ⟨_, rfl⟩
  have hb1 : Below w.heap.size w W1 := by rw [← hW1]; exact (Below.refl _ _).alloc (Nat.le_refl _) _
  have hs1 : Str W1 w.heap.size 51 [.int .i64 0, .int .i64 0, .int .i64 0, .slice none 0 0] := by rw [← hW1]; exact World.alloc_heap_new w _
  rw [hW1]
  clear hW1
  go_upto_region 2 with (fail)
  obtain ⟨W2, hW2⟩ : ∃ V, W1.alloc (.cells #[.int .i64 2, .int .i64 0, .int .i64 0, .int .i64 0, .int .i64 1, .int .i64 0, .int .i32 0, .slice none 0 0, .int .i64 0, .int .i64 6, .int .i64 0, .int .i64 0, .int .i64 0, .int .i64 1, .int .i64 0, .int .i32 0, .slice none 0 0, .int .i64 0] 47) = V := ⟨_, rfl⟩
  have hb2 : Below W1.heap.size W1 W2 := by rw [← hW2]; exact (Below.refl _ _).alloc (Nat.le_refl _) _
  have hs2 := World.alloc_heap_new W1 (.cells #[.int .i64 2, .int .i64 0, .int .i64 0, .int .i64 0, .int .i64 1, .int .i64 0, .int .i32 0, .slice none 0 0, .int .i64 0, .int .i64 6, .int .i64 0, .int .i64 0, .int .i64 0, .int .i64 1, .int .i64 0, .int .i32 0, .slice none 0 0, .int .i64 0] 47)
  rw [hW2] at hs2
  rw [hW2]
  clear hW2
  obtain ⟨W3, hW3⟩ : ∃ V, W2.alloc (.cells #[.slice (some ⟨W1.heap.size, 0, none⟩) 2 2, .int .i64 7, .int .i64 0, .int .i64 0, .slice none 0 0, .int .i32 0] 45) = V := ⟨_, rfl⟩
  have hb3 : Below W2.heap.size W2 W3 := by rw [← hW3]; exact (Below.refl _ _).alloc (Nat.le_refl _) _
  have hs3 : Str W3 W2.heap.size 45 [.slice (some ⟨W1.heap.size, 0, none⟩) 2 2, .int .i64 7, .int .i64 0, .int .i64 0, .slice none 0 0, .int .i32 0] := by rw [← hW3]; exact World.alloc_heap_new W2 _
  have hr3 := (hs1.below hb2).below hb3
  have z0 := hr3.cell 0
  have z1 := hr3.cell 1
  have z2 := hr3.cell 2
  have z3 := hr3.cell 3
  have y0 := hr3.frozen 0
  have y1 := hr3.frozen 1
  have y2 := hr3.frozen 2
  have y3 := hr3.frozen 3
  simp only [List.getElem?_cons_zero, List.getElem?_cons_succ] at z0 z1 z2 z3
  have hlt1 := hs1.lt
  have hb12 := hb1.trans (hb2.mono hb1.size)
  have hb13 := hb12.trans (hb3.mono hb12.size)
  have HAT := Lib.hid (fun a b c d => (show PBlocksAt (((((W3.setCell ⟨w.heap.size, 0, none⟩ a).setCell ⟨w.heap.size, 1, none⟩ b).setCell ⟨w.heap.size, 2, none⟩ c).setCell ⟨w.heap.size, 3, none⟩ d)) (.slice (some ⟨W2.heap.size, 0, none⟩) 1 1) [SW] from sw_at ((four_but w.heap.size W3 a b c d).str (Str.below hs2 hb3) (by omega)) ((four_but w.heap.size W3 a b c d).str hs3 (by have := hb2.size; omega))))
  have HBE := Lib.hid (fun a b c d => hb13.trans (below_of_but (four_but w.heap.size W3 a b c d) (Nat.le_refl _) hb13.size))
  rw [← hW3] at z0 z1 z2 z3 y0 y1 y2 y3
  have HW3 := Lib.hid hW3
  clear hb1 hs1 hb2 hs2 hb3 hs3 hr3 hlt1 hb12 hb13 hW3
  go_wp2_with fail
  rw [HW3.out]
  refine ⟨rfl, .agg #[.int .i64 2, .int .i64 4, .int .i64 0, .slice (some ⟨W2.heap.size, 0, none⟩) 1 1], ?_, ⟨_, rfl, HAT.out _ _ _ _, HBE.out _ _ _ _⟩⟩
  simp only [results]
  rw [← HW3.out]
  go_simp
end Go.Proofs.Ytdidacjmcafcpaa.Ph
