/- Moves: what jacquardref11.Order tells. Moves: the law's tells: both orders are the same. -/
import Derived.Test.YtdohaoomckhbgaaVED
import Derived.Test.YtdohaoomckhbgaaVEF
import Derived.Test.YtdohaoomckhbgaaVEF
import Derived.Test.YtdohaoomckhbgaaVX
namespace Go.Proofs.Ytdohaoomckhbgaa.Vm
open Go.ChangeShapes Go.WideShapes Go.ChangeAt Go.RowKit Go.Maps Go.WideElems Go.ChangeMaps Go.Sort Go.Shelf Go.Proofs.Ytdohaoomckhbgaa.Mem Go.Proofs.Ytdohaoomckhbgaa.Br Go.Proofs.Ytdohaoomckhbgaa.Va Go.Proofs.Ytdohaoomckhbgaa.Vr
set_option linter.unusedVariables false
set_option linter.unusedSimpArgs false
attribute [local go_sem] Oper.semAt_some
theorem fault_uni {l : List Mov} {sc sp : Int} (h : faultN l sc sp = 0) : Uni l := by
  refine uni_twice ?_
  cases ht : twiceN l with
  | false => rfl
  | true =>
    unfold faultN at h
    split at h
    · cases h
    · first
      | cases h
      | (rw [if_pos ht] at h; cases h)
theorem self_take {l : List Mov} {k : Nat} (h : k < l.length) : noSelf (l.take (k + 1)) = noSelf (l.take k) ++ (if l[k].1 = l[k].2 then [] else [l[k]]) := by
  rw [List.take_succ_eq_append_getElem h]; unfold noSelf; rw [List.filter_append]
  congr 1
  by_cases e : l[k].1 = l[k].2
  · rw [if_pos e, List.filter_cons_of_neg (by simp [e])]; rfl
  · rw [if_neg e, List.filter_cons_of_pos (by simp [e])]; rfl
theorem mv_lay {by_ Bv : Nat} {w w' : World} {vs : List Value} {v : Value} {xs : List Mov} (h : OwnMv Bv w v xs) (hx : Str w by_ 84 vs) (hy : Lay by_ w w') : OwnMv Bv w' v xs :=
  own_same_row h (fun g cur hg => (hy.block g _ hg (fun e => by subst e; have := hg.symm.trans hx; cases this) (fun cur e => by cases e)).trans hg.symm)
theorem LyrAt.low {w w' : World} {by_ B n : Nat} {sc sp : Int} {o : Option (List PM)} (h : LyrAt w by_ B sc sp o n) (hb : Below w.heap.size w w') : LyrAt w' by_ B sc sp o n := by
  obtain ⟨v, xs, e, h1, h2, h3, h4⟩ := h
  exact ⟨v, xs, e, h1.below hb, own_same_row h2 (fun g cur hg => hb.block g (Array.getElem?_eq_some_iff.1 hg).1), h3, h4⟩
def ordOf (o : Option (List PM)) : List PM × Int := match o with | some xs => (xs, 0) | none => ([], 43)
def OrdR (l : List Mov) (sc sp : Int) (w : World) (e : Ending) (w' : World) : Prop := ∃ u, e = .returned (.agg #[u, .int .i64 (orderN l sc sp).2]) ∧ OwnMach w.heap.size w' u (orderN l sc sp).1 ∧ Below w.heap.size w w'
/-- What holds while moves are put in an order. -/
structure OrdS (b6 by_ : Nat) (sc sp : Int) (T : Option (List PM)) (L : List Mov) (o : Option (List PM)) (n : Nat) (lv : Value) (w0 w : World) : Prop where
  row : OwnMv w0.heap.size w lv L
  lyr : LyrAt w by_ w0.heap.size sc sp o n
  box : Str w b6 58 [.slice none 0 0, .int .i64 0]
  num : n + 2000 * L.length ≤ 500000
  uni : Uni L
  pls : Pls L
  left : T = appO o (restN sc sp L)
  below : Below w0.heap.size w0 w
section
variable {b6 by_ n : Nat} {sc sp : Int} {T o : Option (List PM)} {L : List Mov} {lv : Value} {w0 w w' w'' : World}
theorem OrdS.later (h : OrdS b6 by_ sc sp T L o n lv w0 w) (hb : Below w.heap.size w w') : OrdS b6 by_ sc sp T L o n lv w0 w' :=
  ⟨own_same_row h.row (fun g cur hg => hb.block g (Array.getElem?_eq_some_iff.1 hg).1), h.lyr.low hb, h.box.below hb, h.num, h.uni, h.pls, h.left, h.below.trans (hb.mono h.below.size)⟩
theorem OrdS.free (h : OrdS b6 by_ sc sp T L o n lv w0 w) {t : Int} (hf : IsFree L t) (hl : LyrAt w' by_ w0.heap.size sc sp (appO o (bringN sc sp t (srcD L t))) (n + 4)) (hy : Lay by_ w w') (hb : Below (min w0.heap.size by_) w w') (hby : w0.heap.size ≤ by_) (h6 : b6 < by_) {lv' : Value} (ho : OwnMv w'.heap.size w'' lv' (wo L t)) (hb2 : Below w'.heap.size w' w'') :
    OrdS b6 by_ sc sp T (wo L t) (appO o (bringN sc sp t (srcD L t))) (n + 4) lv' w0 w'' := by
  have hlt := wo_lt (loose_to hf.1)
  have hz := h.below.size
  have hz2 := hy.size
  refine ⟨own_base ho (by omega), hl.low hb2, (hy.str h.box (by omega) (by decide)).below hb2, ?_, h.uni.wo t, fun m hm => h.pls m (mem_wo.1 hm).1, by rw [h.left, rest_step hf, appO_asc], (h.below.trans (hb.mono (by omega))).trans (hb2.mono (by omega))⟩
  have := h.num
  omega
theorem rem_lt : ∀ (c : List Int) {L : List Mov} {x : Int}, x ∈ c → isTo L x = true → (remN L c).length < L.length
  | y :: c, L, x, hx, hto => by
    show (remN (wo L y) c).length < _
    by_cases e : y = x
    · subst e
      exact Nat.lt_of_le_of_lt (rem_len c _) (wo_lt hto)
    · rcases List.mem_cons.1 hx with h | h
      · exact absurd h.symm e
      · obtain ⟨m, hm, e2⟩ := isTo_iff.1 hto
        exact Nat.lt_of_lt_of_le (rem_lt c h (isTo_iff.2 ⟨m, mem_wo.2 ⟨hm, fun h => e (h.symm.trans e2)⟩, e2⟩)) (wo_len L y)
theorem OrdS.circle (h : OrdS b6 by_ sc sp T L o n lv w0 w) (hn : NoFree L) {x : Int} {N : Nat} (hx : isTo L x = true) (hmin : ∀ y, isTo L y = true → x ≤ y) (hC : Closed (srcD L) x N) (hN : N ≤ L.length) (h200 : L.length ≤ 250) (hl : LyrAt w' by_ w0.heap.size sc sp (appO o (turnN sc sp (srcD L) x N)) (n + 4 + 4 * N)) (hy : Lay by_ w w') (hb : Below (min w0.heap.size by_) w w') (hby : w0.heap.size ≤ by_) (h6 : b6 < by_) {lv' : Value} (ho : OwnMv w0.heap.size w'' lv' (remN L (orb (srcD L) x N))) (hb2 : Below w'.heap.size w' w'') :
    OrdS b6 by_ sc sp T (remN L (orb (srcD L) x N)) (appO o (turnN sc sp (srcD L) x N)) (n + 4 + 4 * N) lv' w0 w'' ∧ (remN L (orb (srcD L) x N)).length < L.length := by
  obtain ⟨r1, r2⟩ := rest_circle (sc := sc) (sp := sp) hn h.uni hx hmin hC hN
  have hlt := rem_lt (orb (srcD L) x N) (L := L) (x := x) (mem_orb.2 ⟨0, hC.1, rfl⟩) hx
  have hz := h.below.size
  have hz2 := hy.size
  refine ⟨⟨ho, hl.low hb2, (hy.str h.box (by omega) (by decide)).below hb2, ?_, uni_rem _ h.uni, fun m hm => h.pls m ((mem_rem _ L m).1 hm).1, by rw [h.left, r1, appO_asc], (h.below.trans (hb.mono (by omega))).trans (hb2.mono (by omega))⟩, hlt⟩
  have := h.num
  omega
theorem mach_nil (B : Nat) (w : World) : OwnMach B w (.slice none 0 0) [] := World.ownsRow_nil _ _ _ _
theorem got_end {b6 : Nat} {u a b : Value} {vs : List Value} {xs : List PM} (hb6 : w0.heap.size ≤ b6) (hbox : Str w b6 58 vs) (ho : OwnMach w0.heap.size w u xs) (hbel : Below w0.heap.size w0 w) :
    OwnMach w0.heap.size ((w.setCell ⟨b6, 0, none⟩ a).setCell ⟨b6, 1, none⟩ b) u xs ∧ Below w0.heap.size w0 ((w.setCell ⟨b6, 0, none⟩ a).setCell ⟨b6, 1, none⟩ b) := by
  refine ⟨own_same_kv ho (fun g hg => ?_), (hbel.setCell (p := ⟨b6, 0, none⟩) hb6 a).setCell (p := ⟨b6, 1, none⟩) hb6 b⟩
  have hne : g ≠ b6 := fun e => by subst e; exact hbox.not_row (by decide) ho hg.symm
  exact (Below.heap_setCell _ _ _ _ (fun e => hne e)).trans (Below.heap_setCell _ _ _ _ (fun e => hne e))
end
set_option maxRecDepth 100000 in
set_option maxHeartbeats 4000000 in
theorem orderR_any (w : World) (v : Value) (l : List Mov) (sc sp : Int) (hv : MovesAt w v l) (hl : l.length ≤ 200) (hsp : InI sp) : Calls Try.prog 30 #[v, .int .i64 sc, .int .i64 sp] w (OrdR l sc sp w) := by
  have HV := Lib.hid hv
  have HSP := Lib.hid hsp
  obtain ⟨A, c, b0, o0, rfl, h1, h2, -⟩ := hv
  unfold maxLen at h2
  clear hsp
  obtain ⟨i0, hi, hz0, hz1, hz2⟩ := info_parts info_mv
  have HI := Lib.hid hi
  have HZ0 := Lib.hid hz0
  have HZ1 := Lib.hid hz1
  have HZ2 := Lib.hid hz2
  clear hi hz0 hz1 hz2
  obtain ⟨W1, hW1⟩ : ∃ V, w.alloc (.cells #[.slice none 0 0, .int .i64 0] 58) = V := ⟨_, rfl⟩
  have vb1 : Below w.heap.size w W1 := by rw [← hW1]; exact (Below.refl _ _).alloc (Nat.le_refl _) _
  have vs1 : Str W1 w.heap.size 58 [.slice none 0 0, .int .i64 0] := by rw [← hW1]; exact World.alloc_heap_new w _
  have HX1 := Lib.hid vs1
  have HB1 := Lib.hid vb1
  have HV1 := Lib.hid (MovesAt.keep HV.out vb1)
  have vz1 := vs1.lt
  clear vb1 vs1
  go_enter Try.func30, Try.ntmps30
  go_wp2_with fail
  clear hW1
  refine (wrong_any W1 _ l sc sp HV1.out HSP.out).mono ?_
  rintro e w2 ⟨rfl, nq, hw2⟩
  have hb2 : Below W1.heap.size W1 w2 := by rw [hw2]; exact below_drewN (Below.refl _ _) _
  have HX2 := Lib.hid (HX1.out.below hb2)
  have HB2 := Lib.hid (HB1.out.trans (hb2.mono HB1.out.size))
  have HV2 := Lib.hid (MovesAt.keep HV1.out hb2)
  clear hb2 hw2 HX1 HB1 HV1
  by_cases hf : faultN l sc sp = 0
  · obtain ⟨hpl, hsc, hsp⟩ := faultN_zero hf
    have HU := Lib.hid (fault_uni hf)
    have HPL := Lib.hid hpl
    have HT := Lib.hid (show orderN l sc sp = ordOf (restN sc sp (pendN l)) by
      unfold orderN ordOf
      rw [if_pos hf, rest_goes (goes_greedy l.length (pendN l) (pendN_len l))]
      cases carryN sc sp (greedyN l.length (pendN l)).1 (greedyN l.length (pendN l)).2 <;> rfl)
    have HPN := Lib.hid (show pendN l = noSelf l by unfold pendN noSelf; rw [keptN_self (fault_uni hf)])
    generalize faultN l sc sp = ft at *
    subst hf
    clear hpl
    obtain ⟨W3, hW3⟩ : ∃ V, w2.alloc (.cells #[.slice none 0 0, .int .i64 sc, .int .i64 sp, .int .i64 0] 84) = V := ⟨_, rfl⟩
    have vb3 : Below w2.heap.size w2 W3 := by rw [← hW3]; exact (Below.refl _ _).alloc (Nat.le_refl _) _
    have vs3 : Str W3 w2.heap.size 84 [.slice none 0 0, .int .i64 sc, .int .i64 sp, .int .i64 0] := by rw [← hW3]; exact World.alloc_heap_new w2 _
    have vz3 := vs3.lt
    have vz2 := HB2.out.size
    have vx2 := HX2.out.lt
    have HX3 := Lib.hid (HX2.out.below vb3)
    have HB3 := Lib.hid (HB2.out.trans (vb3.mono HB2.out.size))
    have HV3 := Lib.hid (MovesAt.keep HV2.out vb3)
    have HL3 := Lib.hid (show LyrAt W3 w2.heap.size w.heap.size sc sp (some []) 0 from ⟨_, [], 0, vs3, World.ownsRow_nil _ _ _ _, Nat.le_refl _, Or.inl ⟨rfl, rfl⟩⟩)
    clear vb3 vs3 HX2 HB2 HV2
    go_wp2_with fail
    clear hW3
    go_loopw [9, 10] (fun o i wr => ∃ k : Nat, k ≤ l.length ∧ OwnMv W3.heap.size wr o (noSelf (l.take k)) ∧ i = .int .i64 k ∧ Below W3.heap.size W3 wr) (fun _ i _ => l.length - (Go.RowKit.intOf i).toNat)
    case atStart => exact ⟨0, Nat.zero_le _, World.ownsRow_nil _ _ _ _, rfl, Below.refl _ _⟩
    case round =>
      obtain ⟨k, hk, ho, rfl, hb⟩ := hrel
      obtain ⟨wo, rfl⟩ : ∃ wo : World, wo = wr := ⟨_, rfl⟩
      have HO := Lib.hid ho
      have HB := Lib.hid hb
      clear ho hb
      by_cases hlt : k < l.length
      · obtain ⟨A', c', gb, ob, e, -, -, hA, hc⟩ := HV3.out
        injection e with e1 e2 e3
        subst e1 e3
        obtain rfl : A = some ⟨gb, ob, none⟩ := hA (by omega)
        have hmv := hc k hlt
        have HMV := Lib.hid hmv
        obtain ⟨c0, c1⟩ := MvAt.keep HB.out _ _ _ hmv
        have HT2 := Lib.hid (self_take hlt)
        have hnl : (noSelf (l.take k)).length ≤ 200 := Nat.le_trans (List.length_filter_le _ _) (by rw [List.length_take]; omega)
        have hle1 : k + 1 ≤ l.length := hlt
        clear hc hA hmv
        generalize l[k] = y at *
        obtain ⟨y1, y2⟩ := y
        simp only at c0 c1
        by_cases hx : y1 = y2
        · have hb : (y1 != y2) = false := by rw [hx]; simp
          have HR := Lib.hid (show noSelf (l.take (k + 1)) = noSelf (l.take k) by rw [HT2.out, if_pos hx, List.append_nil])
          clear hx HT2
          go_wp2_with fail
          go_quiet (fail)
          go_wp2
          exact ⟨⟨k + 1, hle1, by rw [HR.out]; exact HO.out, by go_num, below_drewN HB.out _⟩, by simp [Go.RowKit.intOf] <;> omega⟩
        · have hb : (y1 != y2) = true := by simpa using hx
          have HR := Lib.hid (show noSelf (l.take (k + 1)) = noSelf (l.take k) ++ [(y1, y2)] by rw [HT2.out, if_neg hx])
          clear hx HT2
          go_wp2_with fail
          go_quiet (fail)
          obtain ⟨wq, hwq⟩ : ∃ wq, wo.drewN nq = wq := ⟨_, rfl⟩
          rw [hwq]
          have hbq : Below wo.heap.size wo wq := by rw [← hwq]; exact below_drewN (Below.refl _ _) _
          have HBQ := Lib.hid (HB.out.trans (hbq.mono HB.out.size))
          obtain ⟨c0, c1⟩ := MvAt.keep HBQ.out _ _ _ HMV.out
          simp only at c0 c1
          obtain ⟨W4, hW4⟩ : ∃ V, wq.alloc (.cells #[.int .i64 y1, .int .i64 y2] 43) = V := ⟨_, rfl⟩
          have hb1 : Below wq.heap.size wq W4 := by rw [← hW4]; exact (Below.refl _ _).alloc (Nat.le_refl _) _
          have hs1 : Str W4 wq.heap.size 43 (cellsV (y1, y2)) := by rw [← hW4]; exact World.alloc_heap_new wq _
          have hz0 := HBQ.out.size
          have hz1 := hb1.size
          have HOq := Lib.hid (show OwnMv W3.heap.size W4 _ (noSelf (l.take k)) from own_same_row (own_same_row HO.out (fun g cur hg => hbq.block g (Array.getElem?_eq_some_iff.1 hg).1)) (fun g cur hg => hb1.block g (Array.getElem?_eq_some_iff.1 hg).1))
          have HB4 := Lib.hid (HBQ.out.trans (hb1.mono HBQ.out.size))
          have HS4 := Lib.hid hs1
          clear hb1 hs1 hbq hwq
          go_wp2_with (at_builtin; refine wpList_appendM rfl _ _ 22 rfl W3.heap.size 43 i0 (.agg #[.int .i64 0, .int .i64 0]) 2 16 Try.underlying22 HI.out HZ0.out HZ1.out HZ2.out rfl (by decide) _ (noSelf (l.take k)).length ((noSelf (l.take k)).flatMap cellsV) rfl HOq.out ⟨wq.heap.size, 0, none⟩ (cellsV (y1, y2)) rfl rfl ?news ?one (by omega) (by omega) (by omega) ?_)
          case news =>
            intro j u hj
            first
            | (rw [at_add0, HS4.out.cell j]; exact hj)
            | (rw [HS4.out.cell j]; exact hj)
          case one =>
            intro u hu
            simp only [cellsV, List.mem_cons, List.not_mem_nil, or_false] at hu
            rcases hu with rfl | rfl <;> rfl
          intro v' w5 ho5 hg5 _
          have HO5 := Lib.hid (show OwnMv W3.heap.size w5 v' (noSelf (l.take (k + 1))) by unfold OwnMv; rw [HR.out, List.length_append, List.length_singleton, flat_snocV]; exact ho5)
          have HB5 := Lib.hid (HB4.out.grown hg5 (by omega) (fun j e => (World.ownsRow.lt HOq.out j e).1))
          clear ho5 hg5 hW4
          go_wp2_with fail
          exact ⟨⟨k + 1, hle1, HO5.out, by go_num, HB5.out⟩, by simp [Go.RowKit.intOf] <;> omega⟩
      · obtain rfl : k = l.length := by omega
        have ho := HO.out
        rw [List.take_length, ← HPN.out] at ho
        have hpl := pendN_len l
        have HS : Hid (∃ o n, OrdS w.heap.size w2.heap.size sc sp (restN sc sp (pendN l)) (pendN l) o n _ w wo) := Lib.hid
          ⟨some [], 0, own_base ho (by omega), HL3.out.low HB.out, HX3.out.below HB.out, by omega, pendN_uni l, fun m hm => HPL.out m (mem_pendN hm).1, by rw [appO_nil_l], HB3.out.trans (HB.out.mono HB3.out.size)⟩
        obtain ⟨T, hT⟩ : ∃ T, restN sc sp (pendN l) = T := ⟨_, rfl⟩
        rw [hT] at HS HT
        obtain ⟨lA, lc, rfl⟩ := own_form ho
        clear ho HO HPN HU HPL hT HL3 HX3 HB3 HV3 HB
        generalize pendN l = P at *
        go_wp2_with fail
        go_loopw [9] (fun lv wr => ∃ (L : List Mov) (o : Option (List PM)) (n : Nat) (A : Option Addr) (c : Nat), lv = .slice A L.length c ∧ OrdS w.heap.size w2.heap.size sc sp T L o n lv w wr) (fun lv _ => lenV lv)
        case atStart => obtain ⟨o, n, h⟩ := HS.out; exact ⟨P, o, n, _, _, rfl, h⟩
        case round =>
          obtain ⟨L, o, n, lA, lc, rfl, hS⟩ := hrel
          obtain ⟨wq, rfl⟩ : ∃ wq : World, wq = wr := ⟨_, rfl⟩
          have HS := Lib.hid hS
          obtain ⟨u, ys, e, hx, ho, hlen, hoe⟩ := hS.lyr
          obtain ⟨uA, uc, rfl⟩ := own_form ho
          have HXL := Lib.hid hx
          have HOL := Lib.hid ho
          have k3 : wq.cell? ⟨w2.heap.size, 3, none⟩ = some (.int .i64 e) := hx.cell 3
          have k0 : wq.cell? ⟨w2.heap.size, 0, none⟩ = some _ := hx.cell 0
          have b0' : wq.cell? ⟨w.heap.size, 0, none⟩ = some (.slice none 0 0) := hS.box.cell 0
          have b1' : wq.cell? ⟨w.heap.size, 1, none⟩ = some (.int .i64 0) := hS.box.cell 1
          have bf0 := hS.box.frozen 0
          have bf1 := hS.box.frozen 1
          have hcap := own_cap hS.row
          unfold maxLen at hcap
          clear hx ho hS
          by_cases hL : L = []
          · subst hL
            rcases hoe with ⟨rfl, rfl⟩ | ⟨rfl, rfl⟩
            · have HE := Lib.hid (show orderN l sc sp = (ys, 0) by rw [HT.out, HS.out.left, rest_nil, appO_nil_r]; rfl)
              go_wp2_with fail
              refine ⟨rfl, .agg #[.slice uA ys.length uc, .int .i64 0], ?_, _, by rw [HE.out], by rw [HE.out]; exact (got_end (Nat.le_refl _) HS.out.box HOL.out HS.out.below).1, (got_end (Nat.le_refl _) HS.out.box HOL.out HS.out.below).2⟩
              simp only [results]
              go_simp
            · have HE := Lib.hid (show orderN l sc sp = ([], 43) by rw [HT.out, HS.out.left, appO_none_l]; rfl)
              go_wp2_with fail
              refine ⟨rfl, .agg #[.slice none 0 0, .int .i64 43], ?_, _, by rw [HE.out], by rw [HE.out]; exact (got_end (Nat.le_refl _) HS.out.box (mach_nil _ wq) HS.out.below).1, (got_end (Nat.le_refl _) HS.out.box (mach_nil _ wq) HS.out.below).2⟩
              simp only [results]
              go_simp
          · have hlp : 0 < L.length := by
              cases L with
              | nil => exact absurd rfl hL
              | cons m L' => simp
            rcases hoe with ⟨rfl, rfl⟩ | ⟨rfl, rfl⟩
            · have hby : w.heap.size ≤ w2.heap.size := by omega
              clear b0' b1' bf0 bf1
              go_wp2_with fail
              refine (free_any wq _ L (MovesAt.of_own HS.out.row) (fun m hm => (HS.out.pls m hm).1.1)).mono ?_
              rintro e w3 ⟨b, rfl, hfb, nq, hw3⟩
              have hb3 : Below wq.heap.size wq w3 := by rw [hw3]; exact below_drewN (Below.refl _ _) _
              have HS3 := Lib.hid (HS.out.later hb3)
              have hz3 := HS3.out.below.size
              have hnum := HS3.out.num
              clear hw3 hb3 k0 k3 HXL HOL HS
              rcases hfb with ⟨rfl, hn⟩ | ⟨hb0, hfree⟩
              · obtain ⟨A', c', gb, ob, e, -, -, hA, hc⟩ := MovesAt.of_own HS3.out.row
                injection e with e1 e2 e3
                subst e1 e3
                obtain rfl : lA = some ⟨gb, ob, none⟩ := hA hlp
                have HC := Lib.hid hc
                obtain ⟨c0, -⟩ := hc 0 hlp
                have HNF := Lib.hid hn
                have HM0 := Lib.hid (show ∃ m ∈ L, m.1 = L[0].1 from ⟨L[0], List.getElem_mem hlp, rfl⟩)
                rw [Nat.zero_mul, Nat.add_zero] at c0
                clear hc hA hn
                generalize L[0].1 = x0 at *
                go_wp2_with fail
                clear c0
                go_loopw [12, 13] (fun xv iv wr => ∃ (k : Nat) (x : Int), k ≤ L.length ∧ xv = .int .i64 x ∧ iv = .int .i64 k ∧ (∃ m ∈ L, m.1 = x) ∧ (∀ m ∈ L.take k, x ≤ m.1) ∧ wr = w3) (fun _ iv _ => L.length - (Go.RowKit.intOf iv).toNat)
                case atStart => exact ⟨0, x0, Nat.zero_le _, rfl, rfl, HM0.out, fun m hm => (by simp at hm), rfl⟩
                case round =>
                  obtain ⟨k, x, hk, rfl, rfl, hx1, hx2, hw⟩ := hrel
                  obtain rfl : w3 = wr := hw.symm
                  have HX1 := Lib.hid hx1
                  have HX2 := Lib.hid hx2
                  clear hx1 hx2
                  by_cases hlt : k < L.length
                  · obtain ⟨c0, -⟩ := HC.out k hlt
                    have HMK := Lib.hid (show ∃ m ∈ L, m.1 = L[k].1 from ⟨L[k], List.getElem_mem hlt, rfl⟩)
                    have HST := Lib.hid (show ∀ q, q ≤ x → q ≤ L[k].1 → ∀ m ∈ L.take (k + 1), q ≤ m.1 from fun q h1 h2 m hm => by
                      rcases mem_take_succ hlt hm with hm | rfl
                      · exact Int.le_trans h1 (HX2.out m hm)
                      · exact h2)
                    have hle1 : k + 1 ≤ L.length := hlt
                    generalize L[k].1 = y at *
                    by_cases hxy : x ≤ y
                    · have hmn : min x y = x := by omega
                      have HR := Lib.hid (HST.out x (Int.le_refl _) hxy)
                      go_wp2_with fail
                      exact ⟨⟨k + 1, x, hle1, rfl, by go_num, HX1.out, HR.out, trivial⟩, by simp [Go.RowKit.intOf]; omega⟩
                    · have hmn : min x y = y := by omega
                      have HR := Lib.hid (HST.out y (by omega) (Int.le_refl _))
                      go_wp2_with fail
                      exact ⟨⟨k + 1, y, hle1, rfl, by go_num, HMK.out, HR.out, trivial⟩, by simp [Go.RowKit.intOf]; omega⟩
                  · obtain rfl : k = L.length := by omega
                    have hto : isTo L x = true := isTo_iff.2 HX1.out
                    have HTO := Lib.hid hto
                    have HMN := Lib.hid (show ∀ y, isTo L y = true → x ≤ y from fun y hy => by
                      obtain ⟨m, hm, e⟩ := isTo_iff.1 hy
                      rw [← e]
                      exact HX2.out m (by rw [List.take_length]; exact hm))
                    obtain ⟨N, hC, hN⟩ := noFree_closed HNF.out HS3.out.uni hto
                    have HCL := Lib.hid hC
                    have HIT := Lib.hid (it_to HNF.out HS3.out.uni hto)
                    have HPI := Lib.hid (show ∀ j, InPl (it (srcD L) x j) from fun j => by
                      obtain ⟨m, hm, e⟩ := isTo_iff.1 (HIT.out j)
                      rw [← e]; exact (HS3.out.pls m hm).1)
                    clear HX1 HX2 HM0 HC hto hC
                    go_wp2_with fail
                    refine (circleR_any w3 _ L x N (MovesAt.of_own HS3.out.row) (by omega) HS3.out.uni HCL.out hN HIT.out (fun j => (HPI.out j).1)).mono ?_
                    rintro e w4 ⟨vc, rfl, hoc, hb4⟩
                    have HC4 := Lib.hid hoc
                    have HS4 := Lib.hid (HS3.out.later hb4)
                    have hz4 := HS4.out.below.size
                    clear hoc hb4
                    go_wp2_with fail
                    refine (round_any w4 w2.heap.size w.heap.size w3.heap.size sc sp ys n vc (srcD L) x N HS4.out.lyr hz4 (by omega) HC4.out HCL.out (by omega) (fun j => by have h := HPI.out j; unfold InPl at h; unfold Bd6; omega) hsc hsp).mono ?_
                    rintro e w5 ⟨rfl, hl5, hy5, hb5⟩
                    have HL5 := Lib.hid hl5
                    have HY5 := Lib.hid hy5
                    have HB5 := Lib.hid hb5
                    have HR5 := Lib.hid (show OwnMv w.heap.size w5 _ L by obtain ⟨_, _, h⟩ := HS4.out.lyr.box; exact mv_lay HS4.out.row h hy5)
                    have HC5 := Lib.hid (HS4.out.lyr.row HC4.out hy5)
                    have hz5 := hy5.size
                    have hol : (orb (srcD L) x N).length = N := orb_len _ _ _
                    obtain ⟨cA, cc, rfl⟩ := own_form HC4.out
                    rw [hol]
                    clear hl5 hy5 hb5 HC4
                    obtain ⟨cs, hcs⟩ : ∃ cs, orb (srcD L) x N = cs := ⟨_, rfl⟩
                    rw [hcs] at HC5 hol
                    have HCS := Lib.hid hcs
                    clear hcs
                    go_wp2_with fail
                    go_loopw [9, 15] (fun lv iv wr => ∃ (k : Nat) (A : Option Addr) (c : Nat), k ≤ N ∧ iv = .int .i64 k ∧ lv = .slice A (remN L (cs.take k)).length c ∧ OwnMv w.heap.size wr lv (remN L (cs.take k)) ∧ Below w5.heap.size w5 wr) (fun _ iv _ => N - (Go.RowKit.intOf iv).toNat)
                    case atStart => exact ⟨0, _, _, Nat.zero_le _, rfl, rfl, HR5.out, Below.refl _ _⟩
                    case round =>
                      obtain ⟨k, A9, c9, hk9, rfl, rfl, ho9, hb9⟩ := hrel
                      obtain ⟨w9, rfl⟩ : ∃ w9 : World, w9 = wr := ⟨_, rfl⟩
                      have HO9 := Lib.hid ho9
                      have HB9 := Lib.hid hb9
                      have hz9 := hb9.size
                      have HC9 := Lib.hid (show OwnInts w3.heap.size w9 _ cs from own_same_row HC5.out (fun g cur hg => hb9.block g (Array.getElem?_eq_some_iff.1 hg).1))
                      have hrl := rem_len (cs.take k) L
                      clear ho9 hb9
                      by_cases hlt9 : k < N
                      · have hkc : k < cs.length := by omega
                        obtain ⟨gk, rfl⟩ := OwnInts.block HC9.out (by omega)
                        have hcell := (OwnInts.cell HC9.out hkc).1
                        have HTK := Lib.hid (show remN L (cs.take (k + 1)) = Va.wo (remN L (cs.take k)) cs[k] by unfold remN; rw [List.take_succ_eq_append_getElem hkc, List.foldl_append]; rfl)
                        generalize cs[k] = y at *
                        go_wp2_with fail
                        refine (without_any w9 _ (remN L (cs.take k)) y (MovesAt.of_own HO9.out) (by omega)).mono ?_
                        rintro e w10 ⟨v10, rfl, ho10, hb10⟩
                        rw [← HTK.out] at ho10
                        obtain ⟨A10, c10, rfl⟩ := own_form ho10
                        have HO10 := Lib.hid (own_base ho10 (show w.heap.size ≤ w9.heap.size by omega))
                        have HB10 := Lib.hid (HB9.out.trans (hb10.mono hz9))
                        clear ho10 hb10 hcell
                        go_wp2_with fail
                        exact ⟨⟨k + 1, _, _, by omega, by go_num, rfl, HO10.out, HB10.out⟩, by simp [Go.RowKit.intOf]; omega⟩
                      · obtain rfl : N = k := by omega
                        have ho := HO9.out
                        rw [List.take_of_length_le (by omega), ← HCS.out] at ho
                        have hfin := HS4.out.circle HNF.out HTO.out HMN.out HCL.out hN (by omega) HL5.out HY5.out HB5.out hby (by omega) ho HB9.out
                        have HF9 := Lib.hid hfin.1
                        have hfl := hfin.2
                        rw [HCS.out] at HF9 hfl
                        rw [List.take_of_length_le (by omega)]
                        clear ho hfin
                        go_wp2_with fail
                        exact ⟨⟨remN L cs, _, _, _, _, rfl, HF9.out⟩, by simp [lenV]; omega⟩
              · have hto := loose_to hfree.1
                have HF := Lib.hid hfree
                have HSU := Lib.hid (source_uni HS3.out.uni hto)
                have HBD := Lib.hid (show Bd6 b ∧ Bd6 (srcD L b) from by
                  have h := HS3.out.pls _ (mem_src HS3.out.uni hto)
                  unfold InPl at h
                  unfold Bd6
                  simp only at h
                  omega)
                clear hfree hto
                go_wp2_with fail
                refine (source_any w3 _ L b (MovesAt.of_own HS3.out.row)).mono ?_
                rintro e w4 ⟨rfl, hw4⟩
                obtain rfl : w3 = w4 := hw4.symm
                rw [HSU.out]
                go_wp2_with fail
                refine (bringL_any w3 w2.heap.size w.heap.size sc sp (some ys) n b (srcD L b) HS3.out.lyr hz3 (by omega) HBD.out.1 HBD.out.2 hsc hsp).mono ?_
                rintro e w4 ⟨rfl, hl4, hy4, hb4⟩
                have HL4 := Lib.hid hl4
                have HY4 := Lib.hid hy4
                have HB4 := Lib.hid hb4
                have HR4 := Lib.hid (show OwnMv w.heap.size w4 _ L by obtain ⟨_, _, h⟩ := HS3.out.lyr.box; exact mv_lay HS3.out.row h hy4)
                clear hl4 hy4 hb4
                go_wp2_with fail
                refine (without_any w4 _ L b (MovesAt.of_own HR4.out) (by omega)).mono ?_
                rintro e w5 ⟨v5, rfl, ho5, hb5⟩
                obtain ⟨A5, c5, rfl⟩ := own_form ho5
                have HF5 := Lib.hid (HS3.out.free HF.out HL4.out HY4.out HB4.out hby (by omega) ho5 hb5)
                have hwl := wo_lt (loose_to HF.out.1)
                clear ho5 hb5
                go_wp2_with fail
                exact ⟨⟨Va.wo L b, _, n + 4, _, _, rfl, HF5.out⟩, by simp [lenV]; omega⟩
            · have HE := Lib.hid (show orderN l sc sp = ([], 43) by rw [HT.out, HS.out.left, appO_none_l]; rfl)
              go_wp2_with fail
              refine ⟨rfl, .agg #[.slice none 0 0, .int .i64 43], ?_, _, by rw [HE.out], by rw [HE.out]; exact (got_end (Nat.le_refl _) HS.out.box (mach_nil _ wq) HS.out.below).1, (got_end (Nat.le_refl _) HS.out.box (mach_nil _ wq) HS.out.below).2⟩
              simp only [results]
              go_simp
  · have hne : (faultN l sc sp != 0) = true := by simp [hf]
    have HE := Lib.hid (show orderN l sc sp = ([], faultN l sc sp) by unfold orderN; rw [if_neg hf])
    have b0' : w2.cell? ⟨w.heap.size, 0, none⟩ = some (.slice none 0 0) := HX2.out.cell 0
    have b1' : w2.cell? ⟨w.heap.size, 1, none⟩ = some (.int .i64 0) := HX2.out.cell 1
    have bf0 := HX2.out.frozen 0
    have bf1 := HX2.out.frozen 1
    generalize faultN l sc sp = ft at *
    clear hf
    go_wp2_with fail
    refine ⟨rfl, .agg #[.slice none 0 0, .int .i64 ft], ?_, _, by rw [HE.out], by rw [HE.out]; exact (got_end (Nat.le_refl _) HX2.out (mach_nil _ w2) HB2.out).1, (got_end (Nat.le_refl _) HX2.out (mach_nil _ w2) HB2.out).2⟩
    simp only [results]
    go_simp
end Go.Proofs.Ytdohaoomckhbgaa.Vm
namespace Go.Proofs.Ytdohaoomckhbgaa.Vm
open Go.ChangeShapes Go.WideShapes Go.ChangeAt Go.RowKit Go.Maps Go.WideElems Go.ChangeMaps Go.Sort Go.Shelf Go.Proofs.Ytdohaoomckhbgaa.Mem Go.Proofs.Ytdohaoomckhbgaa.Br Go.Proofs.Ytdohaoomckhbgaa.Va Go.Proofs.Ytdohaoomckhbgaa.Vr
set_option linter.unusedVariables false
set_option linter.unusedSimpArgs false
attribute [local go_sem] Oper.semAt_some
set_option maxRecDepth 100000 in
set_option maxHeartbeats 2000000 in
theorem tells_any (w : World) (v : Value) (l : List Mov) (sc sp : Int) (hv : MovesAt w v l) (hl : l.length ≤ 200) (hr : Rng l) (hsp : InI sp) : Calls Try.prog 15 #[v, .int .i64 sc, .int .i64 sp] w fun e w' => e = .returned (.bool true) ∧ Below w.heap.size w w' := by
  have HV := Lib.hid hv
  have HR := Lib.hid hr
  have HSP := Lib.hid hsp
  have HOL := Lib.hid (order_len hl sc sp)
  clear hv hr hsp
  go_enter Try.func15, Try.ntmps15
  go_wp2_with fail
  refine (order_any w _ l sc sp HV.out hl HR.out).mono ?_
  rintro e w1 ⟨va, rfl, hoa, hb⟩
  have HA := Lib.hid hoa
  have HB := Lib.hid hb
  have HV1 := Lib.hid (MovesAt.keep HV.out hb)
  clear hoa hb
  go_wp2_with fail
  refine (orderR_any w1 _ l sc sp HV1.out hl HSP.out).mono ?_
  rintro e w2 ⟨vb, rfl, hob, hb⟩
  have HA2 := Lib.hid (MachAt.keep (MachAt.of_own HA.out) hb)
  have HB2 := Lib.hid (HB.out.trans (hb.mono HB.out.size))
  obtain ⟨bA, bc, rfl⟩ := own_form hob
  have HO := Lib.hid (MachAt.of_own hob)
  obtain ⟨er, her⟩ : ∃ er, (orderN l sc sp).2 = er := ⟨_, rfl⟩
  rw [her]
  obtain ⟨xs, hxs⟩ : ∃ xs, (orderN l sc sp).1 = xs := ⟨_, rfl⟩
  rw [hxs] at HO HA2 HOL
  rw [hxs]
  clear hob hb her hxs HA HB
  obtain ⟨W3, hW3⟩ : ∃ V, w2.alloc (.cells #[.slice bA xs.length bc, .int .i64 er] 58) = V := ⟨_, rfl⟩
  have vb3 : Below w2.heap.size w2 W3 := by rw [← hW3]; exact (Below.refl _ _).alloc (Nat.le_refl _) _
  have vs3 : Str W3 w2.heap.size 58 [.slice bA xs.length bc, .int .i64 er] := by rw [← hW3]; exact World.alloc_heap_new w2 _
  have c0 : W3.cell? ⟨w2.heap.size, 0, none⟩ = some (.slice bA xs.length bc) := vs3.cell 0
  have c1 : W3.cell? ⟨w2.heap.size, 1, none⟩ = some (.int .i64 er) := vs3.cell 1
  have HA3 := Lib.hid (MachAt.keep HA2.out vb3)
  have HO3 := Lib.hid (MachAt.keep HO.out vb3)
  have HB3 := Lib.hid (HB2.out.trans (vb3.mono HB2.out.size))
  have hee : (er == er) = true := by simp
  clear vb3 vs3
  go_wp2_with fail
  clear hW3
  refine (same_any W3 _ _ _ _ HA3.out HO3.out (Nat.le_trans HOL.out (by omega))).mono ?_
  rintro e w4 ⟨rfl, hb⟩
  rw [show ∀ xs, sameN xs xs = true from fun xs => by unfold sameN; exact decide_eq_true rfl]
  have HB4 := Lib.hid (HB3.out.trans (hb.mono HB3.out.size))
  clear hb
  go_wp2
  go_ret
  exact ⟨rfl, HB4.out⟩
end Go.Proofs.Ytdohaoomckhbgaa.Vm
