/- Moves: what jacquardref11.Circles tells. -/
import Derived.Test.YtdohaoomckhbgaaVCT
namespace Go.Proofs.Ytdohaoomckhbgaa.Vm
open Go.ChangeShapes Go.WideShapes Go.ChangeAt Go.RowKit Go.Maps Go.WideElems Go.ChangeMaps Go.Sort Go.Shelf Go.Proofs.Ytdohaoomckhbgaa.Mem Go.Proofs.Ytdohaoomckhbgaa.Br Go.Proofs.Ytdohaoomckhbgaa.Va Go.Proofs.Ytdohaoomckhbgaa.Vr
set_option linter.unusedVariables false
set_option linter.unusedSimpArgs false
attribute [local go_sem] Oper.semAt_some
theorem info_rowV : (Try.prog.info? 23).map (fun i => (i.zero, i.size, i.bytes)) = some (some (.slice none 0 0), 1, 24) := by kernel_rfl
def CircRes (l : List Mov) (w : World) (e : Ending) (w' : World) : Prop := ∃ v, e = .returned v ∧ OwnGrid w.heap.size w' v (circsN l) ∧ Below w.heap.size w w'
set_option maxRecDepth 100000 in
set_option maxHeartbeats 4000000 in
theorem circles_any (w : World) (v : Value) (l : List Mov) (hv : MovesAt w v l) (hl : l.length ≤ 1000) (hu : Uni l) : Calls Try.prog 24 #[v] w (CircRes l w) := by
  have HV := Lib.hid hv
  have HU := Lib.hid hu
  obtain ⟨A, c, b0, o0, rfl, h1, h2, -⟩ := hv
  unfold maxLen at h2
  clear hu
  obtain ⟨i0, hi, hz0, hz1, hz2⟩ := info_parts info_rowV
  have HI := Lib.hid hi
  have HZ0 := Lib.hid hz0
  have HZ1 := Lib.hid hz1
  have HZ2 := Lib.hid hz2
  clear hi hz0 hz1 hz2
  go_enter Try.func24, Try.ntmps24
  go_wp2_with fail
  go_loopw [3, 4, 5] (fun o la bg wr => ∃ (i : Nat) (b : Bool) (y : Int), KeyAt l i b y ∧ la = .int .i64 y ∧ bg = .bool b ∧ OwnGrid w.heap.size wr o (circL l i) ∧ Below w.heap.size w wr) (fun _ la bg _ => leftK (keysN l) bg la)
  case atStart => exact ⟨0, false, 0, ⟨Nat.zero_le _, fun _ => rfl, fun h => (by cases h)⟩, rfl, rfl, OwnGrid.none_ _ _, Below.refl _ _⟩
  case round =>
    obtain ⟨i, b, y, hk, rfl, rfl, ho, hb⟩ := hrel
    obtain ⟨wo, rfl⟩ : ∃ wo : World, wo = wr := ⟨_, rfl⟩
    have HK := Lib.hid hk
    have HO := Lib.hid ho
    have HB := Lib.hid hb
    clear hk ho hb
    go_wp2_with fail
    go_loopw [6, 7, 8] (fun xv sv iv wr => ∃ (k : Nat) (x : Int) (so : Bool), k ≤ l.length ∧ xv = .int .i64 x ∧ sv = .bool so ∧ iv = .int .i64 k ∧ ScanI (PaB b y) (l.take k) x so ∧ wr = wo) (fun _ _ iv _ => l.length - (Go.RowKit.intOf iv).toNat)
    case atStart => exact ⟨0, 0, false, Nat.zero_le _, rfl, rfl, rfl, Or.inl ⟨rfl, fun m hm => (by rw [List.take_zero] at hm; cases hm)⟩, rfl⟩
    case round =>
      obtain ⟨k, x, so, hk, rfl, rfl, rfl, hS, hw⟩ := hrel
      obtain rfl : wo = wr := hw.symm
      have HS := Lib.hid hS
      clear hS
      by_cases hlt : k < l.length
      · obtain ⟨A', c', gb, ob, e, -, -, hA, hc⟩ := HV.out
        injection e with e1 e2 e3
        subst e1 e3
        obtain rfl : A = some ⟨gb, ob, none⟩ := hA (by omega)
        obtain ⟨c0, c1⟩ := MvAt.keep (w := w) (w' := wo) HB.out _ _ _ (hc k hlt)
        have HT := Lib.hid (fun hp ht => scan_take hlt HS.out hp ht)
        have HSK := Lib.hid (fun hp => scan_skip hlt HS.out hp)
        clear hc hA
        generalize l[k].1 = z at *
        clear c1
        have hle : k + 1 ≤ l.length := hlt
        cases b
        · cases so
          · have HR := Lib.hid (HT.out (Or.inl rfl) (Or.inl rfl))
            go_wp2_with fail
            exact ⟨⟨k + 1, z, true, hle, rfl, rfl, by go_num, HR.out, trivial⟩, by simp [Go.RowKit.intOf]; omega⟩
          · by_cases hzx : z < x
            · have HR := Lib.hid (HT.out (Or.inl rfl) (Or.inr hzx))
              go_wp2_with fail
              exact ⟨⟨k + 1, z, true, hle, rfl, rfl, by go_num, HR.out, trivial⟩, by simp [Go.RowKit.intOf]; omega⟩
            · have HR := Lib.hid (HSK.out (Or.inr ⟨rfl, by omega⟩))
              go_wp2_with fail
              exact ⟨⟨k + 1, x, true, hle, rfl, rfl, by go_num, HR.out, trivial⟩, by simp [Go.RowKit.intOf]; omega⟩
        · by_cases hyz : y < z
          · cases so
            · have HR := Lib.hid (HT.out (Or.inr hyz) (Or.inl rfl))
              go_wp2_with fail
              exact ⟨⟨k + 1, z, true, hle, rfl, rfl, by go_num, HR.out, trivial⟩, by simp [Go.RowKit.intOf]; omega⟩
            · by_cases hzx : z < x
              · have HR := Lib.hid (HT.out (Or.inr hyz) (Or.inr hzx))
                go_wp2_with fail
                exact ⟨⟨k + 1, z, true, hle, rfl, rfl, by go_num, HR.out, trivial⟩, by simp [Go.RowKit.intOf]; omega⟩
              · have HR := Lib.hid (HSK.out (Or.inr ⟨rfl, by omega⟩))
                go_wp2_with fail
                exact ⟨⟨k + 1, x, true, hle, rfl, rfl, by go_num, HR.out, trivial⟩, by simp [Go.RowKit.intOf]; omega⟩
          · have HR := Lib.hid (HSK.out (Or.inl (fun h => by rcases h with h | h; cases h; omega)))
            go_wp2_with fail
            exact ⟨⟨k + 1, x, so, hle, rfl, rfl, by go_num, HR.out, trivial⟩, by simp [Go.RowKit.intOf]; omega⟩
      · obtain rfl : k = l.length := by omega
        have HE := Lib.hid (scan_end HU.out HK.out (by have := HS.out; rwa [List.take_length] at this))
        clear HS
        cases so with
        | false =>
          have HEE := Lib.hid (HE.out.1 rfl)
          go_wp2_with fail
          go_ret
          exact ⟨_, rfl, by unfold circsN; rw [← HEE.out]; exact HO.out, HB.out⟩
        | true =>
          have hx := HE.out.2 rfl
          have HX := Lib.hid hx
          have HN := Lib.hid (leftK_next HU.out HK.out hx)
          have HCS := Lib.hid (show circL l (i + 1) = circL l i ++ (if 1 < (ringL l x).length then [ringL l x] else []) by
            obtain ⟨h1, h2⟩ := List.getElem?_eq_some_iff.1 hx
            rw [circL_succ h1, h2])
          have hcl := circL_len l i
          clear hx HE
          go_wp2_with fail
          refine (around_any wo _ l x (MovesAt.keep HV.out HB.out) hl HU.out).mono ?_
          rintro e w5 ⟨vc, cs, rfl, hoc, hb5, hcs⟩
          have hcs' : cs = ringL l x := by
            rcases hcs with ⟨e, h⟩ | ⟨n, h, e⟩
            · rw [e, ringL_none h]
            · rw [e, ringL_some h]
          have hclen : cs.length ≤ 1000 := by
            rcases hcs with ⟨e, h⟩ | ⟨n, h, e⟩
            · rw [e]; simp
            · rw [e, orb_len]; have := h.len; omega
          clear hcs
          obtain ⟨Ac, cc, rfl⟩ := own_form hoc
          have hcap := own_cap hoc
          unfold maxLen at hcap
          have HOC := Lib.hid hoc
          have HB5 := Lib.hid (HB.out.trans (hb5.mono HB.out.size))
          have HO5 := Lib.hid (HO.out.below hb5)
          have hzo := HB.out.size
          rw [← hcs'] at HCS
          clear hoc hb5 hcs'
          by_cases hc1 : 1 < cs.length
          · have HC := Lib.hid (show circL l (i + 1) = circL l i ++ [cs] by rw [HCS.out, if_pos hc1])
            obtain ⟨vs, hvs, hrows⟩ := HO5.out
            obtain ⟨W1, hW1⟩ : ∃ W1, w5.alloc (.cells #[.slice Ac cs.length cc] 23) = W1 := ⟨_, rfl⟩
            have hb1 : Below w5.heap.size w5 W1 := by rw [← hW1]; exact (Below.refl _ _).alloc (Nat.le_refl _) _
            have hs1 : Str W1 w5.heap.size 23 [.slice Ac cs.length cc] := by rw [← hW1]; exact World.alloc_heap_new w5 _
            have hz0 := HB5.out.size
            have hz1 := hb1.size
            have HV1 := Lib.hid (own_same_row hvs (fun g cur hg => hb1.block g (Array.getElem?_eq_some_iff.1 hg).1))
            have HR1 := Lib.hid (show ∀ j (h : j < (circL l i).length), ∃ u, vs[j]? = some u ∧ OwnInts w.heap.size W1 u (circL l i)[j] from fun j hj => by
              obtain ⟨u, e, hu⟩ := hrows j hj
              exact ⟨u, e, own_same_row hu (fun g cur hg => hb1.block g (Array.getElem?_eq_some_iff.1 hg).1)⟩)
            have HOC1 := Lib.hid (show OwnInts w.heap.size W1 (.slice Ac cs.length cc) cs from own_base (own_same_row HOC.out (fun g cur hg => hb1.block g (Array.getElem?_eq_some_iff.1 hg).1)) hzo)
            have HB1 := Lib.hid (HB5.out.trans (hb1.mono HB5.out.size))
            have HS1 := Lib.hid hs1
            clear hb1 hs1 hvs hrows
            go_wp2_with (at_builtin; refine wpList_appendM rfl _ _ 45 rfl w.heap.size 23 i0 (.slice none 0 0) 1 24 Try.underlying45 HI.out HZ0.out HZ1.out HZ2.out rfl (by decide) _ (circL l i).length vs rfl HV1.out ⟨w5.heap.size, 0, none⟩ [.slice Ac cs.length cc] rfl rfl ?news ?one (by omega) (by omega) (by omega) ?_)
            case news =>
              intro j u hj
              rw [at_add0, HS1.out.cell j]
              exact hj
            case one =>
              intro u hu
              simp only [List.mem_cons, List.not_mem_nil, or_false] at hu
              rcases hu with rfl
              rfl
            intro v' w6 ho6 hg6 _
            have HO6 := Lib.hid (show OwnGrid w.heap.size w6 v' (circL l (i + 1)) by rw [HC.out]; exact OwnGrid.push HR1.out HV1.out HOC1.out hg6 ho6)
            have HB6 := Lib.hid (HB1.out.grown hg6 (by omega) (fun j e => (World.ownsRow.lt HV1.out j e).1))
            clear ho6 hg6 hW1
            go_wp2_with fail
            exact ⟨⟨i + 1, true, x, HN.out.2, rfl, rfl, HO6.out, HB6.out⟩, HN.out.1⟩
          · have HC := Lib.hid (show circL l (i + 1) = circL l i by rw [HCS.out, if_neg hc1, List.append_nil])
            go_wp2_with fail
            exact ⟨⟨i + 1, true, x, HN.out.2, rfl, rfl, by rw [HC.out]; exact HO5.out, HB5.out⟩, HN.out.1⟩
end Go.Proofs.Ytdohaoomckhbgaa.Vm
