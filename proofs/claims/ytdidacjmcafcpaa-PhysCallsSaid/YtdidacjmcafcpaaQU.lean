/- Stage 12: the law's examples. -/
import Derived.Test.YtdidacjmcafcpaaQT
namespace Go.Proofs.Ytdidacjmcafcpaa.Ph
open Go.ChangeShapes Go.WideShapes Go.ChangeAt Go.RowKit Go.Proofs.Ytdidacjmcafcpaa.Mem Go.Proofs.Ytdidacjmcafcpaa.Kc Go.Proofs.Ytdidacjmcafcpaa.Pl Go.Proofs.Ytdidacjmcafcpaa.Mw Go.Proofs.Ytdidacjmcafcpaa.Mc Go.Proofs.Ytdidacjmcafcpaa.Br Go.Proofs.Ytdidacjmcafcpaa.Wd Go.Proofs.Ytdidacjmcafcpaa.Gr
set_option linter.unusedVariables false
set_option linter.unusedSimpArgs false
theorem nil_wf : WfQ [] where
  few := by simp
  sizes := fun x hx => by cases hx
  ins := fun x hx => by cases hx
theorem nil_no : (funcQ 0 0 0 []).1 ≠ 0 := by decide +kernel
theorem nil_at (w : World) : PBlocksAt w (.slice none 0 0) [] := rowAt_nil
theorem ex_ins : insQ ⟨28, 0, 0, 0, 0, 0, 0, [1]⟩ 4 0 = 30 := by decide +kernel
theorem ex_slot : insQ ⟨31, 0, 0, 0, 0, 0, 2, []⟩ 4 2 = 43 := by decide +kernel
theorem ex_end : endQ ⟨7, 1, 0, [], 0⟩ 4 1 = 31 := by decide +kernel
theorem ex_spoils : spoilsQ ⟨28, 0, 0, 0, 0, 0, 0, []⟩ = [1, 2, 3] := rfl
theorem ex_makes : makesQ ⟨31, 0, 0, 3, 0, 0, 2, []⟩ = [18] := by decide +kernel
set_option maxRecDepth 100000 in
set_option maxHeartbeats 8000000 in
theorem shown_any (w : World) : Calls Try.prog 7 #[] w fun e w' => e = .returned (.bool true) ∧ Below w.heap.size w w' := by
  have HB0 := Lib.hid (Below.refl w.heap.size w)
  go_enter Try.func7, Try.ntmps7
  go_wp2_with fail
  refine (swapped_any w).mono ?_
  rintro e a1 ⟨b1, rfl, hp, hb⟩
  have HP := Lib.hid hp
  have HBa := Lib.hid (HB0.out.trans (hb.mono HB0.out.size))
  clear hp hb
  go_wp2_with fail
  obtain ⟨c1, hc⟩ : ∃ V, a1.alloc (.cells #[.int .i32 5, .int .i32 9] 21) = V := ⟨_, rfl⟩
  rw [hc]
  have hbc : Below a1.heap.size a1 c1 := by rw [← hc]; exact (Below.refl _ _).alloc (Nat.le_refl _) _
  have hsc : Str c1 a1.heap.size 21 ([5, 9].map (Value.int .i32)) := by rw [← hc]; exact World.alloc_heap_new a1 _
  clear hc
  have HBc := Lib.hid (HBa.out.trans (hbc.mono HBa.out.size))
  refine (runOne_any c1 2 0 4 (some ⟨b1, 0, none⟩) 1 SW (HP.out.keep hbc) sw_wf sw_ok (by omega) (by omega) (.slice (some ⟨a1.heap.size, 0, none⟩) 2 2) (.slice none 0 0) (.slice none 0 0) 3 [5, 9] [] (words_litQ (l := [5, 9]) hsc (by decide)) (WordsAt.none_ _) (by unfold InI; decide) sw_ins (fun sv me k hk => sw_regs _ _ _ _ sv me k hk) (Or.inl ⟨rfl, by decide⟩)).mono ?_
  rintro e d1 ⟨sv1, mA1, mn1, mc1, rfl, hb⟩
  obtain ⟨x1, x2, x3⟩ := sw_three (.slice (some ⟨a1.heap.size, 0, none⟩) 2 2) (.slice none 0 0) (.slice none 0 0) sv1 (.slice mA1 mn1 mc1)
  rw [x1, x2, x3]
  clear x1 x2 x3
  have HBd := Lib.hid (HBc.out.trans (hb.mono HBc.out.size))
  clear hb hbc hsc
  go_upto_region 2 with (fail)
  obtain ⟨e1, he⟩ : ∃ V, d1.alloc (.cells #[.int .i64 1, .int .i32 4, .slice mA1 mn1 mc1, .slice none 0 0, .int .i64 3] 39) = V := ⟨_, rfl⟩
  rw [he]
  have hb : Below d1.heap.size d1 e1 := by rw [← he]; exact (Below.refl _ _).alloc (Nat.le_refl _) _
  have hs : Str e1 d1.heap.size 39 [.int .i64 1, .int .i32 4, .slice mA1 mn1 mc1, .slice none 0 0, .int .i64 3] := by rw [← he]; exact World.alloc_heap_new d1 _
  clear he
  have HO1 := Lib.hid hs
  have HBe := Lib.hid (HBd.out.trans (hb.mono HBd.out.size))
  clear hb hs
  go_wp2_with fail
  refine (swapped_any e1).mono ?_
  rintro e a2 ⟨b2, rfl, hp, hb⟩
  have HP := Lib.hid hp
  have HBa := Lib.hid (HBe.out.trans (hb.mono HBe.out.size))
  have HO1 := Lib.hid (HO1.out.below hb)
  clear hp hb
  go_wp2_with fail
  obtain ⟨c2, hc⟩ : ∃ V, a2.alloc (.cells #[.int .i32 5, .int .i32 9] 21) = V := ⟨_, rfl⟩
  rw [hc]
  have hbc : Below a2.heap.size a2 c2 := by rw [← hc]; exact (Below.refl _ _).alloc (Nat.le_refl _) _
  have hsc : Str c2 a2.heap.size 21 ([5, 9].map (Value.int .i32)) := by rw [← hc]; exact World.alloc_heap_new a2 _
  clear hc
  have HBc := Lib.hid (HBa.out.trans (hbc.mono HBa.out.size))
  have HO1 := Lib.hid (HO1.out.below hbc)
  refine (runOne_any c2 2 0 4 (some ⟨b2, 0, none⟩) 1 SW (HP.out.keep hbc) sw_wf sw_ok (by omega) (by omega) (.slice (some ⟨a2.heap.size, 0, none⟩) 2 2) (.slice none 0 0) (.slice none 0 0) 2 [5, 9] [] (words_litQ (l := [5, 9]) hsc (by decide)) (WordsAt.none_ _) (by unfold InI; decide) sw_ins (fun sv me k hk => sw_regs _ _ _ _ sv me k hk) (Or.inl ⟨rfl, by decide⟩)).mono ?_
  rintro e d2 ⟨sv2, mA2, mn2, mc2, rfl, hb⟩
  obtain ⟨x1, x3⟩ := sw_two (.slice (some ⟨a2.heap.size, 0, none⟩) 2 2) (.slice none 0 0) (.slice none 0 0) sv2 (.slice mA2 mn2 mc2)
  rw [x1, x3]
  clear x1 x3
  generalize (restQ SW.fin SW.ins (startQ (.slice (some ⟨a2.heap.size, 0, none⟩) 2 2) (.slice none 0 0) (.slice none 0 0) 2 2 [5, 9] sv2 (.slice mA2 mn2 mc2)) (List.take 4096 [])).1.val = val2
  have HBd := Lib.hid (HBc.out.trans (hb.mono HBc.out.size))
  have HO1 := Lib.hid (HO1.out.below hb)
  clear hb hbc hsc
  go_upto_region 3 with (fail)
  obtain ⟨e2, he⟩ : ∃ V, d2.alloc (.cells #[.int .i64 3, .int .i32 val2, .slice mA2 mn2 mc2, .slice none 0 0, .int .i64 2] 39) = V := ⟨_, rfl⟩
  rw [he]
  have hb : Below d2.heap.size d2 e2 := by rw [← he]; exact (Below.refl _ _).alloc (Nat.le_refl _) _
  have hs : Str e2 d2.heap.size 39 [.int .i64 3, .int .i32 val2, .slice mA2 mn2 mc2, .slice none 0 0, .int .i64 2] := by rw [← he]; exact World.alloc_heap_new d2 _
  clear he
  have HO2 := Lib.hid hs
  have HBe := Lib.hid (HBd.out.trans (hb.mono HBd.out.size))
  have HO1 := Lib.hid (HO1.out.below hb)
  clear hb hs
  go_wp2_with fail
  refine (runWrong_any e2 0 0 0 none 0 [] (nil_at _) nil_wf nil_no (.slice none 0 0) (.slice none 0 0) (.slice none 0 0) 0).mono ?_
  rintro e d3 ⟨rfl, hb⟩
  have HBd := Lib.hid (HBe.out.trans (hb.mono HBe.out.size))
  have HO1 := Lib.hid (HO1.out.below hb)
  have HO2 := Lib.hid (HO2.out.below hb)
  clear hb
  go_upto_region 4 with (fail)
  obtain ⟨e3, he⟩ : ∃ V, d3.alloc (.cells #[.int .i64 4, .int .i32 0, .slice none 0 0, .slice none 0 0, .int .i64 0] 39) = V := ⟨_, rfl⟩
  rw [he]
  have hb : Below d3.heap.size d3 e3 := by rw [← he]; exact (Below.refl _ _).alloc (Nat.le_refl _) _
  have hs : Str e3 d3.heap.size 39 [.int .i64 4, .int .i32 0, .slice none 0 0, .slice none 0 0, .int .i64 0] := by rw [← he]; exact World.alloc_heap_new d3 _
  clear he
  have HO3 := Lib.hid hs
  have HBe := Lib.hid (HBd.out.trans (hb.mono HBd.out.size))
  have HO1 := Lib.hid (HO1.out.below hb)
  have HO2 := Lib.hid (HO2.out.below hb)
  clear hb hs
  go_wp2_with fail
  obtain ⟨f1, hf⟩ : ∃ V, e3.alloc (.cells #[.int .i64 1] 3) = V := ⟨_, rfl⟩
  rw [hf]
  have hb : Below e3.heap.size e3 f1 := by rw [← hf]; exact (Below.refl _ _).alloc (Nat.le_refl _) _
  have hs : Str f1 e3.heap.size 3 ([1].map (Value.int .i64)) := by rw [← hf]; exact World.alloc_heap_new e3 _
  clear hf
  have HBf := Lib.hid (HBe.out.trans (hb.mono HBe.out.size))
  have HO1 := Lib.hid (HO1.out.below hb)
  have HO2 := Lib.hid (HO2.out.below hb)
  have HO3 := Lib.hid (HO3.out.below hb)
  refine (insP_any f1 ⟨28, 0, 0, 0, 0, 0, 0, [1]⟩ (some ⟨e3.heap.size, 0, none⟩) 1 4 0 (ints_litQ (l := [1]) hs (by decide)) (by decide) (by unfold InW; decide)).mono ?_
  clear hb hs
  rintro e g1 ⟨rfl, hb⟩
  rw [ex_ins]
  have HBg := Lib.hid (HBf.out.trans (hb.mono HBf.out.size))
  have HO1 := Lib.hid (HO1.out.below hb)
  have HO2 := Lib.hid (HO2.out.below hb)
  have HO3 := Lib.hid (HO3.out.below hb)
  clear hb
  go_wp2_with fail
  refine (insP_any g1 ⟨31, 0, 0, 0, 0, 0, 2, []⟩ none 0 4 2 (ints_none _) (by decide) (by unfold InW; decide)).mono ?_
  rintro e g2 ⟨rfl, hb⟩
  rw [ex_slot]
  have HBg := Lib.hid (HBg.out.trans (hb.mono HBg.out.size))
  have HO1 := Lib.hid (HO1.out.below hb)
  have HO2 := Lib.hid (HO2.out.below hb)
  have HO3 := Lib.hid (HO3.out.below hb)
  clear hb
  go_wp2_with fail
  refine (endP_any g2 ⟨7, 1, 0, [], 0⟩ none 0 4 1 (ints_none _)).mono ?_
  rintro e g3 ⟨rfl, hb⟩
  rw [ex_end]
  have HBg := Lib.hid (HBg.out.trans (hb.mono HBg.out.size))
  have HO1 := Lib.hid (HO1.out.below hb)
  have HO2 := Lib.hid (HO2.out.below hb)
  have HO3 := Lib.hid (HO3.out.below hb)
  clear hb
  go_wp2_with fail
  refine (spoilsQ_any g3 ⟨28, 0, 0, 0, 0, 0, 0, []⟩ none 0 0).mono ?_
  rintro e g4 ⟨v4, rfl, ho, hb⟩
  rw [ex_spoils] at ho
  have HV4 := Lib.hid (OwnInts.ints ho)
  obtain ⟨A4, k4, rfl⟩ := own_form ho
  have HBg := Lib.hid (HBg.out.trans (hb.mono HBg.out.size))
  have HO1 := Lib.hid (HO1.out.below hb)
  have HO2 := Lib.hid (HO2.out.below hb)
  have HO3 := Lib.hid (HO3.out.below hb)
  clear hb ho
  go_wp2_with fail
  refine (makesQ_any g4 ⟨31, 0, 0, 3, 0, 0, 2, []⟩ none 0 0 (by unfold InW; decide) (ints_none _) (by decide)).mono ?_
  rintro e g5 ⟨v5, rfl, ho, hb⟩
  rw [ex_makes] at ho
  have HV5 := Lib.hid (OwnInts.ints ho)
  obtain ⟨A5, k5, rfl⟩ := own_form ho
  have HV4 := Lib.hid (HV4.out.keep hb)
  have HBg := Lib.hid (HBg.out.trans (hb.mono HBg.out.size))
  have HO1 := Lib.hid (HO1.out.below hb)
  have HO2 := Lib.hid (HO2.out.below hb)
  have HO3 := Lib.hid (HO3.out.below hb)
  clear hb ho
  have o10 : g5.cell? ⟨d1.heap.size, 0, none⟩ = some (.int .i64 1) := HO1.out.cell 0
  have o11 : g5.cell? ⟨d1.heap.size, 1, none⟩ = some (.int .i32 4) := HO1.out.cell 1
  have o14 : g5.cell? ⟨d1.heap.size, 4, none⟩ = some (.int .i64 3) := HO1.out.cell 4
  have o20 : g5.cell? ⟨d2.heap.size, 0, none⟩ = some (.int .i64 3) := HO2.out.cell 0
  have o24 : g5.cell? ⟨d2.heap.size, 4, none⟩ = some (.int .i64 2) := HO2.out.cell 4
  have o30 : g5.cell? ⟨d3.heap.size, 0, none⟩ = some (.int .i64 4) := HO3.out.cell 0
  go_wp2_with fail
  obtain ⟨h1, hf⟩ : ∃ V, g5.alloc (.cells #[.int .i64 1, .int .i64 2, .int .i64 3] 3) = V := ⟨_, rfl⟩
  rw [hf]
  have hb : Below g5.heap.size g5 h1 := by rw [← hf]; exact (Below.refl _ _).alloc (Nat.le_refl _) _
  have hs : Str h1 g5.heap.size 3 ([1, 2, 3].map (Value.int .i64)) := by rw [← hf]; exact World.alloc_heap_new g5 _
  clear hf o10 o11 o14 o20 o24 o30 HO1 HO2 HO3
  have HBh := Lib.hid (HBg.out.trans (hb.mono HBg.out.size))
  have HV5 := Lib.hid (HV5.out.keep hb)
  refine (nums_any h1 _ _ [1, 2, 3] [1, 2, 3] (HV4.out.keep hb) (ints_litQ (l := [1, 2, 3]) hs (by decide))).mono ?_
  clear hb hs HV4
  rintro e h2 ⟨rfl, hb⟩
  rw [show decide (([1, 2, 3] : List Int) = [1, 2, 3]) = true by decide]
  have HBh := Lib.hid (HBh.out.trans (hb.mono HBh.out.size))
  have HV5 := Lib.hid (HV5.out.keep hb)
  clear hb
  go_wp2_with fail
  obtain ⟨h3, hf⟩ : ∃ V, h2.alloc (.cells #[.int .i64 18] 3) = V := ⟨_, rfl⟩
  rw [hf]
  have hb : Below h2.heap.size h2 h3 := by rw [← hf]; exact (Below.refl _ _).alloc (Nat.le_refl _) _
  have hs : Str h3 h2.heap.size 3 ([18].map (Value.int .i64)) := by rw [← hf]; exact World.alloc_heap_new h2 _
  clear hf
  have HBh := Lib.hid (HBh.out.trans (hb.mono HBh.out.size))
  refine (nums_any h3 _ _ [18] [18] (HV5.out.keep hb) (ints_litQ (l := [18]) hs (by decide))).mono ?_
  clear hb hs HV5
  rintro e h4 ⟨rfl, hb⟩
  rw [show decide (([18] : List Int) = [18]) = true by decide]
  have HBh := Lib.hid (HBh.out.trans (hb.mono HBh.out.size))
  clear hb
  go_wp2_with fail
  refine (swapped_any h4).mono ?_
  rintro e h5 ⟨b5, rfl, hp, hb⟩
  have HP := Lib.hid hp
  have HBh := Lib.hid (HBh.out.trans (hb.mono HBh.out.size))
  clear hp hb
  go_wp2_with fail
  refine (rightQ_any h5 2 4 0 (some ⟨b5, 0, none⟩) 1 [SW] HP.out sw_wf).mono ?_
  rintro e h6 ⟨rfl, hb⟩
  rw [sw_ok]
  have HBh := Lib.hid (HBh.out.trans (hb.mono HBh.out.size))
  clear hb
  go_wp2_with fail
  go_ret
  exact ⟨rfl, HBh.out⟩
end Go.Proofs.Ytdidacjmcafcpaa.Ph
