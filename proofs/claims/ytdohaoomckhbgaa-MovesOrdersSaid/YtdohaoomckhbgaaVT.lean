/- Moves: a circle's turn, and all that is carried. -/
import Derived.Test.YtdohaoomckhbgaaVH
namespace Go.Proofs.Ytdohaoomckhbgaa.Vm
open Go.ChangeShapes Go.WideShapes Go.ChangeAt Go.RowKit Go.Maps Go.WideElems Go.ChangeMaps Go.Sort Go.Shelf Go.Proofs.Ytdohaoomckhbgaa.Mem Go.Proofs.Ytdohaoomckhbgaa.Br Go.Proofs.Ytdohaoomckhbgaa.Va Go.Proofs.Ytdohaoomckhbgaa.Vr
set_option linter.unusedVariables false
set_option linter.unusedSimpArgs false
attribute [local go_sem] Oper.semAt_some
def swapsN (x : Int) (ms : List Mov) : List PM := (ms.filter fun m => !(m.2 == x)).map fun m => mSwap m.1 m.2
theorem swapsN_snoc (x : Int) (ms : List Mov) (m : Mov) : swapsN x (ms ++ [m]) = swapsN x ms ++ (if (m.2 == x) = true then [] else [mSwap m.1 m.2]) := by
  unfold swapsN
  rw [List.filter_append, List.map_append]
  cases h : m.2 == x <;> simp [h]
theorem swapsN_len (x : Int) (ms : List Mov) : (swapsN x ms).length ≤ ms.length := by unfold swapsN; rw [List.length_map]; exact List.length_filter_le _ _
def turnN (sc sp : Int) (f : Int → Int) (x : Int) (N : Nat) : Option (List PM) :=
  if anySlot (orb f x N) = true then (if sp < 0 then none else passN sc sp x (16 + sp) (circ f x N)) else if 0 ≤ sc then passN sc sp x sc (circ f x N) else some (swapsN x (circ f x N))
theorem RunRes.late {ba B : Nat} {l : List PM} {o : Option (List PM)} {w w1 w' : World} {e : Ending} (h : RunRes ba B l o w1 e w') (hb : Below w.heap.size w w1) (hB : min B ba ≤ w.heap.size) : RunRes ba B l o w e w' :=
  ⟨h.1, h.2.1, (Lay.of_below hb).trans h.2.2.1, (hb.mono hB).trans h.2.2.2⟩
structure TurnS (ba B : Nat) (sc sp x : Int) (a1 a3 : Nat) (w0 w : World) : Prop where
  b1 : Str w a1 70 [.func (.func 40) #[] #[.pointer (some ⟨ba, 0, none⟩)], .int .i64 sc, .int .i64 sp]
  b3 : Str w a3 3 [.int .i64 x]
  lay : Lay ba w0 w
  below : Below (min B ba) w0 w
theorem TurnS.laid {ba B : Nat} {sc sp x : Int} {a1 a3 : Nat} {w0 w w' : World} (h : TurnS ba B sc sp x a1 a3 w0 w) (hl : Lay ba w w') (hb : Below (min B ba) w w') (h1 : a1 ≠ ba) (h3 : a3 ≠ ba) : TurnS ba B sc sp x a1 a3 w0 w' :=
  ⟨hl.str h.b1 h1 (by decide), hl.str h.b3 h3 (by decide), h.lay.trans hl, h.below.trans hb⟩
theorem TurnS.tn {ba B lo : Nat} {sc sp x : Int} {a1 a3 : Nat} {w0 w w' : World} (h : TurnS ba B sc sp x a1 a3 w0 w) (ht : Tn nothing lo w w') (hlo : w0.heap.size ≤ lo) (hB : min B ba ≤ lo) (hz : min B ba ≤ w.heap.size) : TurnS ba B sc sp x a1 a3 w0 w' :=
  ⟨Str.tn h.b1 ht id, Str.tn h.b3 ht id, h.lay.tn hlo ht, below_tn h.below hB hz ht⟩
set_option maxRecDepth 100000 in
set_option maxHeartbeats 4000000 in
theorem turn_any (w : World) (ba B : Nat) (l : List PM) (sc sp x : Int) (bf bt c K : Nat) (L : List Mov) (N : Nat) (hL : LayAt w ba B l) (hB : B ≤ w.heap.size) (hl : l.length ≤ 400000) (hsc : sc < 16) (hsp : sp < 16383) (hP : PendAt w bf bt c K L) (hpl : Pls L) (hx : InPl x) (hC : Closed (srcD L) x N) (hN : N ≤ 20000) :
    Calls Try.prog 64 #[carV ba sc sp, pendV bf bt, .int .i64 x] w (RunRes ba B l (turnN sc sp (srcD L) x N) w) := by
  refine (callsIn_wide (n := 9)).1 ?_
  refine callsIn_of_wp_marks Try.func64 rfl trivial ?_ rfl
  simp only [Try.ntmps64, List.size_toArray, List.length_cons, List.length_nil, Nat.reduceAdd, Nat.reduceSub, Array.replicate_succ, Array.replicate_zero, List.push_toArray, List.append_toArray, List.nil_append, List.cons_append]
  obtain ⟨V1, hV1⟩ : ∃ V, w.alloc (.cells #[.func (.func 40) #[] #[.pointer (some ⟨ba, 0, none⟩)], .int .i64 sc, .int .i64 sp] 70) = V := ⟨_, rfl⟩
  have vb1 : Below w.heap.size w V1 := by rw [← hV1]; exact (Below.refl _ _).alloc (Nat.le_refl _) _
  have vs1 : Str V1 w.heap.size 70 [.func (.func 40) #[] #[.pointer (some ⟨ba, 0, none⟩)], .int .i64 sc, .int .i64 sp] := by rw [← hV1]; exact World.alloc_heap_new w _
  have vz1 : w.heap.size < V1.heap.size := vs1.lt
  obtain ⟨V2, hV2⟩ : ∃ V, V1.alloc (.cells #[.map (some bf), .map (some bt)] 74) = V := ⟨_, rfl⟩
  have vb2 : Below V1.heap.size V1 V2 := by rw [← hV2]; exact (Below.refl _ _).alloc (Nat.le_refl _) _
  have vs2 : Str V2 V1.heap.size 74 [.map (some bf), .map (some bt)] := by rw [← hV2]; exact World.alloc_heap_new V1 _
  have vz2 : V1.heap.size < V2.heap.size := vs2.lt
  obtain ⟨V3, hV3⟩ : ∃ V, V2.alloc (.cells #[.int .i64 x] 3) = V := ⟨_, rfl⟩
  have vb3 : Below V2.heap.size V2 V3 := by rw [← hV3]; exact (Below.refl _ _).alloc (Nat.le_refl _) _
  have vs3 : Str V3 V2.heap.size 3 [.int .i64 x] := by rw [← hV3]; exact World.alloc_heap_new V2 _
  have vz3 : V2.heap.size < V3.heap.size := vs3.lt
  have HX1 := Lib.hid ((vs1.below vb2).below vb3)
  have HX2 := Lib.hid (vs2.below vb3)
  have HX3 := Lib.hid vs3
  have HBV := Lib.hid ((vb1.trans (vb2.mono (by omega))).trans (vb3.mono (by omega)))
  have HLT : Hid (∀ (k : Nat) , k < w.heap.size → V3.heap[k]? = w.heap[k]?) := Lib.hid (fun k hk => HBV.out.block k hk)
  clear vb1 vs1 vb2 vs2 vb3 vs3
  have hlw := hL.lt
  have HL0 := Lib.hid (hL.tn0 (lo := w.heap.size) (w' := V3) ((It.of_below (M := nothing) (HBV.out)).tn _))
  have HP0 := Lib.hid (hP.below HBV.out)
  have HPL := Lib.hid hpl
  have HX := Lib.hid hx
  have HC := Lib.hid hC
  have c0 : V3.cell? ⟨w.heap.size, 0, none⟩ = some (.func (.func 40) #[] #[.pointer (some ⟨ba, 0, none⟩)]) := (HX1.out).cell 0
  have c1 : V3.cell? ⟨w.heap.size, 1, none⟩ = some (.int .i64 sc) := (HX1.out).cell 1
  have c2 : V3.cell? ⟨w.heap.size, 2, none⟩ = some (.int .i64 sp) := (HX1.out).cell 2
  have d0 : V3.cell? ⟨V1.heap.size, 0, none⟩ = some (.map (some bf)) := (HX2.out).cell 0
  have d1 : V3.cell? ⟨V1.heap.size, 1, none⟩ = some (.map (some bt)) := (HX2.out).cell 1
  have e0 : V3.cell? ⟨V2.heap.size, 0, none⟩ = some (.int .i64 x) := (HX3.out).cell 0
  clear hL hP hpl hx hC
  gi_wp2_with fail
  refine ⟨trivial, ?_⟩
  refine (callsIn_wide.2 (hasSlot_any V3 bf bt c K L x N HP0.out HX.out.inI HC.out)).mono ?_
  rintro e w1 ⟨rfl, hb1⟩
  have HL1 := Lib.hid (HL0.out.below hb1)
  have HP1 := Lib.hid (HP0.out.below hb1)
  have HB1 := Lib.hid (HBV.out.trans (hb1.mono HBV.out.size))
  have HY1 := Lib.hid (HX1.out.below hb1)
  have HY2 := Lib.hid (HX2.out.below hb1)
  have HY3 := Lib.hid (HX3.out.below hb1)
  have hzz := hb1.size
  clear c0 c1 c2 d0 d1 e0 hb1
  clear hV1 hV2 hV3
  have c0 : w1.cell? ⟨w.heap.size, 0, none⟩ = some (.func (.func 40) #[] #[.pointer (some ⟨ba, 0, none⟩)]) := (HY1.out).cell 0
  have c1 : w1.cell? ⟨w.heap.size, 1, none⟩ = some (.int .i64 sc) := (HY1.out).cell 1
  have c2 : w1.cell? ⟨w.heap.size, 2, none⟩ = some (.int .i64 sp) := (HY1.out).cell 2
  have d0 : w1.cell? ⟨V1.heap.size, 0, none⟩ = some (.map (some bf)) := (HY2.out).cell 0
  have d1 : w1.cell? ⟨V1.heap.size, 1, none⟩ = some (.map (some bt)) := (HY2.out).cell 1
  have e0 : w1.cell? ⟨V2.heap.size, 0, none⟩ = some (.int .i64 x) := (HY3.out).cell 0
  have HTN := Lib.hid (show turnN sc sp (srcD L) x N = (if anySlot (orb (srcD L) x N) = true then (if sp < 0 then none else passN sc sp x (16 + sp) (circ (srcD L) x N)) else if 0 ≤ sc then passN sc sp x sc (circ (srcD L) x N) else some (swapsN x (circ (srcD L) x N))) from rfl)
  generalize turnN sc sp (srcD L) x N = tn at *
  generalize anySlot (orb (srcD L) x N) = sb at *
  cases sb with
  | true =>
    by_cases hp0 : sp < 0
    · have HE := Lib.hid (show tn = none by rw [HTN.out, if_pos rfl, if_pos hp0])
      gi_wp2
      refine leave_marks (by simp) (.nil : Marks w.heap.size w1.heap.size [] _) fun w' ht => ?_
      refine ⟨_, results_tmp rfl _ _ _, by rw [HE.out]; rfl, ⟨l, HL1.out.tn0 ht, fun xs e => by rw [HE.out] at e; cases e⟩, (Lay.of_below HB1.out).tn (Nat.le_refl _) ht, below_tn (HB1.out.mono (by omega)) (by omega) (by have := HB1.out.size; omega) ht⟩
    · have HE := Lib.hid (show tn = passN sc sp x (16 + sp) (circ (srcD L) x N) by rw [HTN.out, if_pos rfl, if_neg hp0])
      have hp0' : 0 ≤ sp := by omega
      clear hp0
      gi_wp2_with fail
      refine ⟨trivial, ?_⟩
      refine (callsIn_wide.2 (pass_any w1 ba B l sc sp x (16 + sp) bf bt c K L N HL1.out (by omega) (by omega) hsc hsp HP1.out HPL.out HX.out ⟨by omega, by omega⟩ HC.out hN)).mono ?_
      rintro e w2 hr
      have HR := Lib.hid (hr.late HB1.out (by omega))
      have he := hr.1
      clear hr
      subst he
      gi_wp2
      refine leave_marks (by simp) (.nil : Marks w.heap.size w2.heap.size [] _) fun w' ht => ?_
      obtain ⟨_, ⟨l', h1, h2⟩, h3, h4⟩ := HR.out
      refine ⟨_, results_tmp rfl _ _ _, by rw [HE.out]; rfl, ⟨l', h1.tn0 ht, fun xs e => h2 xs (by rw [← HE.out]; exact e)⟩, h3.tn (Nat.le_refl _) ht, below_tn h4 (by omega) (by have := h3.size; omega) ht⟩
  | false =>
    by_cases hs0 : 0 ≤ sc
    · have HE := Lib.hid (show tn = passN sc sp x sc (circ (srcD L) x N) by rw [HTN.out, if_neg (by simp), if_pos hs0])
      have hd : decide (0 ≤ sc) = true := by simp; omega
      gi_wp2_with fail
      refine ⟨trivial, ?_⟩
      refine (callsIn_wide.2 (pass_any w1 ba B l sc sp x sc bf bt c K L N HL1.out (by omega) (by omega) hsc hsp HP1.out HPL.out HX.out ⟨hs0, by omega⟩ HC.out hN)).mono ?_
      rintro e w2 hr
      have HR := Lib.hid (hr.late HB1.out (by omega))
      have he := hr.1
      clear hr
      subst he
      gi_wp2
      refine leave_marks (by simp) (.nil : Marks w.heap.size w2.heap.size [] _) fun w' ht => ?_
      obtain ⟨_, ⟨l', h1, h2⟩, h3, h4⟩ := HR.out
      refine ⟨_, results_tmp rfl _ _ _, by rw [HE.out]; rfl, ⟨l', h1.tn0 ht, fun xs e => h2 xs (by rw [← HE.out]; exact e)⟩, h3.tn (Nat.le_refl _) ht, below_tn h4 (by omega) (by have := h3.size; omega) ht⟩
    · have HE := Lib.hid (show tn = some (swapsN x (circ (srcD L) x N)) by rw [HTN.out, if_neg (by simp), if_neg hs0])
      have hs0' : sc < 0 := by omega
      have hd : decide (0 ≤ sc) = false := by simp; omega
      clear hs0
      gi_wp2_with fail
      refine ⟨trivial, ?_⟩
      refine (callsIn_wide.2 (circle_call w1 bf bt x)).mono ?_
      rintro e w6 ⟨rfl, hw6⟩
      have hb6 : Below w1.heap.size w1 w6 := by rw [hw6]; exact ((Below.refl _ _).alloc (Nat.le_refl _) _).alloc (by simp) _
      have hc6 : CircS (w1.heap.size + 1) w1.heap.size bf bt c L x w6 := by
        refine ⟨?_, ?_, HP1.out.from_.below hb6⟩
        · rw [hw6]; exact (Below.heap_alloc _ _ _ (by simp)).trans (World.alloc_heap_new w1 _)
        · rw [hw6]; have := World.alloc_heap_new (w1.alloc (.cells #[.map (some bf), .map (some bt)] 74)) (.cells #[.int .i64 x] 3); rwa [World.size_alloc] at this
      have HS6 : Hid (TurnS ba B sc sp x w.heap.size V2.heap.size w w6) := Lib.hid ((⟨HY1.out, HY3.out, Lay.of_below HB1.out, HB1.out.mono (by omega)⟩ : TurnS ba B sc sp x w.heap.size V2.heap.size w w1).laid (Lay.of_below hb6) (hb6.mono (by have := HB1.out.size; omega)) (by omega) (by omega))
      have HL6 := Lib.hid (HL1.out.below hb6)
      have HC6 := Lib.hid hc6
      have hz6 : w1.heap.size + 1 < w6.heap.size := hc6.start.lt
      have hfl := HP1.out.from_.lt
      have hbl := HL1.out.lt
      clear hw6 hb6 hc6 c0 c1 c2 d0 d1 e0
      gi_wp2_with fail
      refine wp_range (F := Fence.wide) rfl (by omega) (gf := 72) (lb := #[.pointer (some ⟨w1.heap.size + 1, 0, none⟩), .pointer (some ⟨w1.heap.size, 0, none⟩)]) rfl trivial (enters_of Try.func72 (by kernel_rfl) rfl)
        (circle_seq 8 (by omega) w6 (w1.heap.size + 1) w1.heap.size bf bt c L x N HC6.out HX.out.inI HC.out) (fun k h => h.elim) (fun k o h => Or.inl (by rcases h with h | h | h <;> omega)) (fun _ => rfl) (fun xs W l o h _ => h)
        (fun pre W => TurnS ba B sc sp x w.heap.size V2.heap.size w W ∧ CircS (w1.heap.size + 1) w1.heap.size bf bt c L x W ∧ LayAt W ba B (l ++ swapsN x pre))
        (fun cc pre W => False)
        (fun s A C h ht => ⟨h.1.tn ht (by omega) (by omega) (by have := h.2.2.lt; omega), h.2.1.tn (M := nothing) ht (by omega), h.2.2.tn0 ht⟩)
        (fun cc s A C h ht => h)
        ⟨HS6.out, HC6.out, by rw [show swapsN x [] = [] from rfl, List.append_nil]; exact HL6.out⟩
        (fun m => { tmps := #[carV ba sc sp, pendV bf bt, .int .i64 x, .pointer (some ⟨w.heap.size, 0, none⟩), .pointer (some ⟨V1.heap.size, 0, none⟩), .pointer (some ⟨V2.heap.size, 0, none⟩), .bool false, .bool false, .int .i64 m.1, .int .i64 m.2, pendV bf bt, .int .i64 x, .bool false, .bool false, .bool false, .bool false, undef, undef, undef, .bool false, .bool false, .bool false, undef, undef, undef, undef, undef, undef, undef, .bool false, .pointer (some ⟨w.heap.size, 1, none⟩), .int .i64 sc, .bool false, undef, undef, undef, undef, undef, undef, pendV bf bt, .int .i64 x, .func (.func 72) #[] #[.pointer (some ⟨w1.heap.size + 1, 0, none⟩), .pointer (some ⟨w1.heap.size, 0, none⟩)], .int .i64 m.1, .int .i64 m.2, undef, undef, undef, undef, undef, undef, undef, undef, undef], defers := [] }) ?assign ?body ?done ?stop
      case assign =>
        intro lp m W K hK
        gi_wp2
        exact hK
      case body =>
        rintro lp pre m W hz ⟨hps, hcs, hly⟩ ⟨j, hj, rfl, rfl⟩
        have HPS := Lib.hid hps
        have HCS := Lib.hid hcs
        have HLY := Lib.hid hly
        have hsl : (swapsN x (circ (srcD L) x j)).length ≤ 20000 := by have := swapsN_len x (circ (srcD L) x j); rw [circ_len] at this; omega
        have HSN := Lib.hid (swapsN_snoc x (circ (srcD L) x j) (it (srcD L) x j, it (srcD L) x (j + 1)))
        have k0 : W.cell? ⟨V2.heap.size, 0, none⟩ = some (.int .i64 x) := hps.b3.cell 0
        have q0 := hps.b1.cell 0
        simp only [List.getElem?_cons_zero] at q0
        have HCM := Lib.hid (show ∀ b, (it (srcD L) x (j + 1) == x) = b → (it (srcD L) x (j + 1) != x) = !b from fun b hb => by rw [← hb]; rfl)
        generalize it (srcD L) x (j + 1) = tf at *
        generalize it (srcD L) x j = tt at *
        clear hps hcs hly
        cases hcmp : tf == x with
        | true =>
          have hne := HCM.out _ hcmp
          have HLZ := Lib.hid (show LayAt W ba B (l ++ swapsN x (circ (srcD L) x j ++ [(tt, tf)])) by rw [HSN.out, if_pos hcmp, List.append_nil]; exact HLY.out)
          rw [Bool.not_true] at hne
          clear hcmp
          gi_wp2
          exact ⟨KeepsFrom.refl _ _, Rd.refl _ _, HPS.out, HCS.out, HLZ.out⟩
        | false =>
          have hne := HCM.out _ hcmp
          have HSM := Lib.hid (show swapsN x (circ (srcD L) x j ++ [(tt, tf)]) = swapsN x (circ (srcD L) x j) ++ [mSwap tt tf] by rw [HSN.out, if_neg (by rw [hcmp]; simp)])
          rw [Bool.not_false] at hne
          clear hcmp
          gi_wp2_with fail
          refine ⟨trivial, ?_⟩
          refine (CallsIn.inRound lp (callsIn_wide.2 (lay_any W ba B (l ++ swapsN x (circ (srcD L) x j)) (mSwap tt tf) HLY.out (by omega) (by rw [List.length_append]; omega)))).mono ?_
          rintro e W3 ⟨rfl, hl3, hy3, hb3⟩
          have hRD := rd_lay hy3 HCS.out HLY.out (by omega) (by omega)
          have HPOST := Lib.hid (show KeepsFrom w6.heap.size W W3 ∧ Rd (rdC (w1.heap.size + 1) w1.heap.size bf) W W3 ∧ TurnS ba B sc sp x w.heap.size V2.heap.size w W3 ∧ CircS (w1.heap.size + 1) w1.heap.size bf bt c L x W3 ∧ LayAt W3 ba B (l ++ swapsN x (circ (srcD L) x j ++ [(tt, tf)])) from
            ⟨keepsF_lay HLY.out hy3, hRD, HPS.out.laid hy3 hb3 (by omega) (by omega), HCS.out.rd hRD, by rw [HSM.out, ← List.append_assoc]; exact hl3⟩)
          clear hl3 hy3 hb3 hRD k0 q0
          gi_wp2
          exact HPOST.out
      case done =>
        rintro D ms W hD rfl ⟨hps, _, hly⟩ hK
        have HM := Lib.hid (marks_one (lo := w.heap.size) (by omega) hK)
        have HPS := Lib.hid hps
        have HLY := Lib.hid hly
        clear hps hly hK
        gi_wp2
        refine leave_marks (by simp) HM.out fun w' ht => ?_
        refine ⟨_, results_tmp rfl _ _ _, by rw [HE.out]; rfl, ⟨_, HLY.out.tn0 ht, fun zs e => by rw [HE.out] at e; injection e with e; rw [← e]⟩, HPS.out.lay.tn (Nat.le_refl _) ht, below_tn HPS.out.below (by omega) (by have := HLY.out.lt; omega) ht⟩
      case stop =>
        rintro D cc pre W _ h _
        exact h.elim
end Go.Proofs.Ytdohaoomckhbgaa.Vm
