/- Moves: jacquardref11.source, without. Moves: jacquardref11.free, circle. Moves: jacquardref11.circle. -/
import Derived.Test.YtdohaoomckhbgaaVDA
import Derived.Test.YtdohaoomckhbgaaVZ
namespace Go.Proofs.Ytdohaoomckhbgaa.Vm
open Go.ChangeShapes Go.WideShapes Go.ChangeAt Go.RowKit Go.Maps Go.WideElems Go.ChangeMaps Go.Sort Go.Shelf Go.Proofs.Ytdohaoomckhbgaa.Mem Go.Proofs.Ytdohaoomckhbgaa.Br Go.Proofs.Ytdohaoomckhbgaa.Va Go.Proofs.Ytdohaoomckhbgaa.Vr
set_option linter.unusedVariables false
set_option linter.unusedSimpArgs false
attribute [local go_sem] Oper.semAt_some
def sourceN (l : List Mov) (x : Int) : Int := if isTo l x = true then takN l x else -1
theorem source_snoc (l : List Mov) (m : Mov) (x : Int) : sourceN (l ++ [m]) x = if m.1 = x then m.2 else sourceN l x := by
  unfold sourceN
  have h1 : isTo (l ++ [m]) x = (isTo l x || m.1 == x) := by unfold isTo; rw [List.any_append]; simp
  have h2 : takN (l ++ [m]) x = if m.1 = x then m.2 else takN l x := by
    unfold takN
    rw [List.reverse_append, List.reverse_singleton, List.singleton_append, List.find?_cons]
    by_cases e : m.1 = x
    · rw [show (m.1 == x) = true by simpa using e, if_pos e]; rfl
    · rw [show (m.1 == x) = false by simpa using e, if_neg e]
  rw [h1, h2]
  by_cases e : m.1 = x
  · rw [show (m.1 == x) = true by simpa using e]; simp [e]
  · rw [show (m.1 == x) = false by simpa using e]; simp [e]
theorem source_take {l : List Mov} {k : Nat} (h : k < l.length) (x : Int) : sourceN (l.take (k + 1)) x = if l[k].1 = x then l[k].2 else sourceN (l.take k) x := by
  rw [List.take_succ_eq_append_getElem h, source_snoc]
theorem source_uni {l : List Mov} (hu : Uni l) {x : Int} (hx : isTo l x = true) : sourceN l x = srcD l x := by unfold sourceN; rw [if_pos hx, takN_uni hu]
theorem wo_take {l : List Mov} {k : Nat} (h : k < l.length) (x : Int) : wo (l.take (k + 1)) x = wo (l.take k) x ++ (if l[k].1 = x then [] else [l[k]]) := by
  rw [List.take_succ_eq_append_getElem h]; unfold wo; rw [List.filter_append]
  congr 1
  by_cases e : l[k].1 = x
  · rw [if_pos e, List.filter_cons_of_neg (by simp [e])]; rfl
  · rw [if_neg e, List.filter_cons_of_pos (by simp [e])]; rfl
set_option maxRecDepth 100000 in
set_option maxHeartbeats 1000000 in
theorem source_any (w : World) (v : Value) (l : List Mov) (x : Int) (hv : MovesAt w v l) : Calls Try.prog 50 #[v, .int .i64 x] w fun e w' => e = .returned (.int .i64 (sourceN l x)) ∧ w' = w := by
  have HV := Lib.hid hv
  obtain ⟨A, c, b0, o0, rfl, h1, h2, -⟩ := hv
  unfold maxLen at h2
  go_enter Try.func50, Try.ntmps50
  go_wp2_with fail
  go_loopw [5, 6] (fun o i wr => ∃ k : Nat, k ≤ l.length ∧ o = .int .i64 (sourceN (l.take k) x) ∧ i = .int .i64 k ∧ wr = w) (fun _ i _ => l.length - (Go.RowKit.intOf i).toNat)
  case atStart => exact ⟨0, Nat.zero_le _, rfl, rfl, rfl⟩
  case round =>
    obtain ⟨k, hk, rfl, rfl, hw⟩ := hrel
    obtain rfl : w = wr := hw.symm
    by_cases hlt : k < l.length
    · obtain ⟨A', c', gb, ob, e, -, -, hA, hc⟩ := HV.out
      injection e with e1 e2 e3
      subst e1 e3
      obtain rfl : A = some ⟨gb, ob, none⟩ := hA (by omega)
      obtain ⟨c0, c1⟩ := hc k hlt
      have HT := Lib.hid (source_take hlt x)
      clear hc hA
      generalize l[k] = y at *
      obtain ⟨y1, y2⟩ := y
      simp only at c0 c1
      generalize sourceN (l.take k) x = q at *
      have hle1 : k + 1 ≤ l.length := hlt
      by_cases hx : y1 = x
      · have hb : (y1 == x) = true := by rw [hx]; simp
        have HR := Lib.hid (HT.out.trans (if_pos hx))
        clear hx HT
        go_wp2_with fail
        exact ⟨⟨k + 1, hle1, by rw [HR.out], by go_num, trivial⟩, by simp [Go.RowKit.intOf] <;> omega⟩
      · have hb : (y1 == x) = false := beq_eq_false_iff_ne.2 hx
        have HR := Lib.hid (HT.out.trans (if_neg hx))
        clear hx HT
        go_wp2_with fail
        exact ⟨⟨k + 1, hle1, by rw [HR.out], by go_num, trivial⟩, by simp [Go.RowKit.intOf] <;> omega⟩
    · obtain rfl : k = l.length := by omega
      rw [List.take_length]
      go_wp2_with fail
      go_ret
      exact ⟨rfl, rfl⟩
def WithoutRes (l : List Mov) (w : World) (e : Ending) (w' : World) : Prop := ∃ v, e = .returned v ∧ OwnMv w.heap.size w' v l ∧ Below w.heap.size w w'
set_option maxRecDepth 100000 in
set_option maxHeartbeats 1000000 in
theorem without_any (w : World) (v : Value) (l : List Mov) (x : Int) (hv : MovesAt w v l) (hl : l.length ≤ 400) : Calls Try.prog 51 #[v, .int .i64 x] w (WithoutRes (wo l x) w) := by
  have HV := Lib.hid hv
  obtain ⟨A, c, b0, o0, rfl, h1, h2, -⟩ := hv
  unfold maxLen at h2
  obtain ⟨i0, hi, hz0, hz1, hz2⟩ := info_parts info_mv
  have HI := Lib.hid hi
  have HZ0 := Lib.hid hz0
  have HZ1 := Lib.hid hz1
  have HZ2 := Lib.hid hz2
  clear hi hz0 hz1 hz2
  go_enter Try.func51, Try.ntmps51
  go_wp2_with fail
  go_loopw [5, 6] (fun o i wr => ∃ k : Nat, k ≤ l.length ∧ OwnMv w.heap.size wr o (wo (l.take k) x) ∧ i = .int .i64 k ∧ Below w.heap.size w wr) (fun _ i _ => l.length - (Go.RowKit.intOf i).toNat)
  case atStart => exact ⟨0, Nat.zero_le _, World.ownsRow_nil _ _ _ _, rfl, Below.refl _ _⟩
  case round =>
    obtain ⟨k, hk, ho, rfl, hb⟩ := hrel
    have HO := Lib.hid ho
    have HB := Lib.hid hb
    clear ho hb
    by_cases hlt : k < l.length
    · obtain ⟨A', c', gb, ob, e, -, -, hA, hc⟩ := HV.out
      injection e with e1 e2 e3
      subst e1 e3
      obtain rfl : A = some ⟨gb, ob, none⟩ := hA (by omega)
      obtain ⟨c0, c1⟩ := MvAt.keep HB.out _ _ _ (hc k hlt)
      have HT := Lib.hid (wo_take hlt x)
      have hwl : (wo (l.take k) x).length ≤ 400 := Nat.le_trans (wo_len _ _) (by rw [List.length_take]; omega)
      have hle1 : k + 1 ≤ l.length := hlt
      clear hc hA
      generalize l[k] = y at *
      obtain ⟨y1, y2⟩ := y
      simp only at c0 c1
      by_cases hx : y1 = x
      · have hb : (y1 != x) = false := by rw [hx]; simp
        have HR := Lib.hid (show wo (l.take (k + 1)) x = wo (l.take k) x by rw [HT.out, if_pos hx, List.append_nil])
        clear hx HT
        go_wp2_with fail
        exact ⟨⟨k + 1, hle1, by rw [HR.out]; exact HO.out, by go_num, HB.out⟩, by simp [Go.RowKit.intOf] <;> omega⟩
      · have hb : (y1 != x) = true := by simpa using hx
        have HR := Lib.hid (show wo (l.take (k + 1)) x = wo (l.take k) x ++ [(y1, y2)] by rw [HT.out, if_neg hx])
        obtain ⟨W1, hW1⟩ : ∃ W1, wr.alloc (.cells #[.int .i64 y1, .int .i64 y2] 43) = W1 := ⟨_, rfl⟩
        have hb1 : Below wr.heap.size wr W1 := by rw [← hW1]; exact (Below.refl _ _).alloc (Nat.le_refl _) _
        have hs1 : Str W1 wr.heap.size 43 (cellsV (y1, y2)) := by rw [← hW1]; exact World.alloc_heap_new wr _
        have hz0 := HB.out.size
        have hz1 := hb1.size
        have HO1 := Lib.hid (show OwnMv w.heap.size W1 _ _ from own_same_row HO.out (fun g cur hg => hb1.block g (Array.getElem?_eq_some_iff.1 hg).1))
        have HBW := Lib.hid (HB.out.trans (hb1.mono HB.out.size))
        have HS1 := Lib.hid hs1
        clear hb1 hs1 hx HT
        go_wp2_with (at_builtin; refine wpList_appendM rfl _ _ 22 rfl w.heap.size 43 i0 (.agg #[.int .i64 0, .int .i64 0]) 2 16 Try.underlying22 HI.out HZ0.out HZ1.out HZ2.out rfl (by decide) _ (wo (l.take k) x).length ((wo (l.take k) x).flatMap cellsV) rfl HO1.out ⟨wr.heap.size, 0, none⟩ (cellsV (y1, y2)) rfl rfl ?news ?one (by omega) (by omega) (by omega) ?_)
        case news =>
          intro j u hj
          first
          | (rw [at_add0, HS1.out.cell j]; exact hj)
          | (rw [HS1.out.cell j]; exact hj)
        case one =>
          intro u hu
          simp only [cellsV, List.mem_cons, List.not_mem_nil, or_false] at hu
          rcases hu with rfl | rfl <;> rfl
        intro v' w5 ho5 hg5 _
        have HO5 := Lib.hid (show OwnMv w.heap.size w5 v' (wo (l.take (k + 1)) x) by unfold OwnMv; rw [HR.out, List.length_append, List.length_singleton, flat_snocV]; exact ho5)
        have HB5 := Lib.hid (HBW.out.grown hg5 (by omega) (fun j e => (World.ownsRow.lt HO1.out j e).1))
        clear ho5 hg5 hW1
        go_wp2_with fail
        exact ⟨⟨k + 1, hle1, HO5.out, by go_num, HB5.out⟩, by simp [Go.RowKit.intOf] <;> omega⟩
    · obtain rfl : k = l.length := by omega
      have ho := HO.out
      rw [List.take_length] at ho
      have HE := Lib.hid ho
      clear ho
      go_wp2_with fail
      go_ret
      exact ⟨_, rfl, HE.out, HB.out⟩
end Go.Proofs.Ytdohaoomckhbgaa.Vm
namespace Go.Proofs.Ytdohaoomckhbgaa.Vm
open Go.ChangeShapes Go.WideShapes Go.ChangeAt Go.RowKit Go.Maps Go.WideElems Go.ChangeMaps Go.Sort Go.Shelf Go.Proofs.Ytdohaoomckhbgaa.Mem Go.Proofs.Ytdohaoomckhbgaa.Br Go.Proofs.Ytdohaoomckhbgaa.Va Go.Proofs.Ytdohaoomckhbgaa.Vr
set_option linter.unusedVariables false
set_option linter.unusedSimpArgs false
attribute [local go_sem] Oper.semAt_some
/-- What has been found so far. -/
def FreeAt (l : List Mov) (i : Nat) (b : Int) : Prop := (b = -1 ∧ ∀ m ∈ l.take i, isFrom l m.1 = true) ∨ (0 ≤ b ∧ looseB l b = true ∧ ∀ m ∈ l.take i, isFrom l m.1 = false → b ≤ m.1)
theorem isFrom_take {l : List Mov} {k : Nat} (h : k < l.length) (x : Int) : isFrom (l.take (k + 1)) x = (isFrom (l.take k) x || l[k].2 == x) := by
  rw [List.take_succ_eq_append_getElem h]; unfold isFrom; rw [List.any_append]; simp
theorem mem_take_succ {l : List Mov} {k : Nat} (h : k < l.length) {m : Mov} (hm : m ∈ l.take (k + 1)) : m ∈ l.take k ∨ m = l[k] := by
  rw [List.take_succ_eq_append_getElem h] at hm
  rcases List.mem_append.1 hm with hm | hm
  · exact Or.inl hm
  · exact Or.inr (List.mem_singleton.1 hm)
theorem free_used {l : List Mov} {i : Nat} {b : Int} (h : i < l.length) (hf : FreeAt l i b) (hu : isFrom l l[i].1 = true) : FreeAt l (i + 1) b := by
  rcases hf with ⟨e, h1⟩ | ⟨h0, h1, h2⟩
  · refine Or.inl ⟨e, fun m hm => ?_⟩
    rcases mem_take_succ h hm with hm | rfl
    · exact h1 m hm
    · exact hu
  · refine Or.inr ⟨h0, h1, fun m hm hn => ?_⟩
    rcases mem_take_succ h hm with hm | rfl
    · exact h2 m hm hn
    · rw [hu] at hn; cases hn
theorem free_take {l : List Mov} {i : Nat} {b : Int} (h : i < l.length) (hf : FreeAt l i b) (hp : 0 ≤ l[i].1) (hu : isFrom l l[i].1 = false) (hb : b < 0 ∨ l[i].1 < b) : FreeAt l (i + 1) l[i].1 := by
  refine Or.inr ⟨hp, ?_, fun m hm hn => ?_⟩
  · unfold looseB
    rw [isTo_iff.2 ⟨l[i], List.getElem_mem h, rfl⟩, hu]; rfl
  · rcases mem_take_succ h hm with hm | rfl
    · rcases hf with ⟨e, h1⟩ | ⟨h0, h1, h2⟩
      · have := h1 m hm; rw [hn] at this; cases this
      · have := h2 m hm hn
        rcases hb with hb | hb <;> omega
    · exact Int.le_refl _
theorem free_skip {l : List Mov} {i : Nat} {b : Int} (h : i < l.length) (hf : FreeAt l i b) (hb : 0 ≤ b) (hle : b ≤ l[i].1) : FreeAt l (i + 1) b := by
  rcases hf with ⟨e, h1⟩ | ⟨h0, h1, h2⟩
  · omega
  · refine Or.inr ⟨h0, h1, fun m hm hn => ?_⟩
    rcases mem_take_succ h hm with hm | rfl
    · exact h2 m hm hn
    · exact hle
theorem free_end {l : List Mov} {b : Int} (hf : FreeAt l l.length b) : (b = -1 ∧ NoFree l) ∨ (0 ≤ b ∧ IsFree l b) := by
  unfold FreeAt at hf
  rw [List.take_length] at hf
  rcases hf with ⟨e, h1⟩ | ⟨h0, h1, h2⟩
  · refine Or.inl ⟨e, fun y => ?_⟩
    cases hy : looseB l y with
    | false => rfl
    | true =>
      unfold looseB at hy
      rw [Bool.and_eq_true] at hy
      obtain ⟨m, hm, e⟩ := isTo_iff.1 hy.1
      have := h1 m hm
      rw [e] at this
      rw [this] at hy
      simp at hy
  · refine Or.inr ⟨h0, h1, fun y hy => ?_⟩
    unfold looseB at hy
    rw [Bool.and_eq_true] at hy
    obtain ⟨m, hm, e⟩ := isTo_iff.1 hy.1
    rw [← e]
    refine h2 m hm ?_
    rw [e]
    simpa using hy.2
def FreeRes (l : List Mov) (w : World) (e : Ending) (w' : World) : Prop := ∃ b, e = .returned (.int .i64 b) ∧ ((b = -1 ∧ NoFree l) ∨ (0 ≤ b ∧ IsFree l b)) ∧ ∃ n, w' = w.drewN n
set_option maxRecDepth 100000 in
set_option maxHeartbeats 2000000 in
theorem free_any (w : World) (v : Value) (l : List Mov) (hv : MovesAt w v l) (hp : ∀ m ∈ l, 0 ≤ m.1) : Calls Try.prog 48 #[v] w (FreeRes l w) := by
  have HV := Lib.hid hv
  have HP := Lib.hid hp
  obtain ⟨A, c, b0, o0, rfl, h1, h2, -⟩ := hv
  unfold maxLen at h2
  clear hp
  go_enter Try.func48, Try.ntmps48
  go_wp2_with fail
  go_loopw [3, 4] (fun b i wr => ∃ (k n : Nat) (x : Int), k ≤ l.length ∧ b = .int .i64 x ∧ FreeAt l k x ∧ i = .int .i64 k ∧ wr = w.drewN n) (fun _ i _ => l.length - (Go.RowKit.intOf i).toNat)
  case atStart => exact ⟨0, 0, -1, Nat.zero_le _, rfl, Or.inl ⟨rfl, fun m hm => (by simp at hm)⟩, rfl, rfl⟩
  case round =>
    obtain ⟨k, n, x, hk, rfl, hf, rfl, hw⟩ := hrel
    obtain ⟨wo, rfl⟩ : ∃ wo : World, wo = wr := ⟨_, rfl⟩
    have HW := Lib.hid hw
    have HF := Lib.hid hf
    clear hf
    by_cases hlt : k < l.length
    · obtain ⟨A', c', gb, ob, e, -, -, hA, hc⟩ := HV.out
      injection e with e1 e2 e3
      subst e1 e3
      obtain rfl : A = some ⟨gb, ob, none⟩ := hA (by omega)
      have HC := Lib.hid hc
      obtain ⟨c0, -⟩ := hc k hlt
      have HUS := Lib.hid (fun h => free_used hlt HF.out h)
      have HTK := Lib.hid (fun h h' => free_take hlt HF.out (HP.out _ (List.getElem_mem hlt)) h h')
      have HSK := Lib.hid (fun h h' => free_skip hlt HF.out h h')
      have HC0 := Lib.hid c0
      have hle1 : k + 1 ≤ l.length := hlt
      clear hc hA c0 hw
      generalize l[k].1 = y at *
      go_wp2_with fail
      go_loopw [5, 6] (fun u j wr => ∃ q m : Nat, q ≤ l.length ∧ u = .bool (isFrom (l.take q) y) ∧ j = .int .i64 q ∧ wr = w.drewN m) (fun _ j _ => l.length - (Go.RowKit.intOf j).toNat)
      case atStart => exact ⟨0, n, Nat.zero_le _, rfl, rfl, HW.out⟩
      case round =>
        obtain ⟨q, m, hq, rfl, rfl, hw⟩ := hrel
        obtain ⟨wp, rfl⟩ : ∃ wp : World, wp = wr := ⟨_, rfl⟩
        have HX := Lib.hid hw
        by_cases hlq : q < l.length
        · obtain ⟨-, d1⟩ := HC.out q hlq
          have d1 : wp.cell? ⟨gb, ob + q * 2 + 1, none⟩ = some (.int .i64 l[q].2) := by rw [hw]; exact d1
          have d0 : wp.cell? ⟨gb, ob + k * 2, none⟩ = some (.int .i64 y) := by rw [hw]; exact HC0.out
          have HT := Lib.hid (isFrom_take hlq y)
          clear hw
          generalize l[q].2 = z at *
          generalize isFrom (l.take q) y = u at *
          have hlq1 : q + 1 ≤ l.length := hlq
          cases u
          · cases hzy : (z == y) with
            | true =>
              have HR := Lib.hid (HT.out.trans (show _ = true by rw [hzy]; rfl))
              go_wp2_with fail
              go_quiet (fail)
              go_wp2
              exact ⟨⟨q + 1, m + nq, hlq1, by rw [HR.out], by go_num, by rw [HX.out]; simp [World.drewN, Nat.add_assoc]⟩, by simp [Go.RowKit.intOf]; omega⟩
            | false =>
              have HR := Lib.hid (HT.out.trans (show _ = false by rw [hzy]; rfl))
              go_wp2_with fail
              go_quiet (fail)
              go_wp2
              exact ⟨⟨q + 1, m + nq, hlq1, by rw [HR.out], by go_num, by rw [HX.out]; simp [World.drewN, Nat.add_assoc]⟩, by simp [Go.RowKit.intOf]; omega⟩
          · have HR := Lib.hid (HT.out.trans (show _ = true from rfl))
            go_wp2_with fail
            go_quiet (fail)
            go_wp2
            exact ⟨⟨q + 1, m + nq, hlq1, by rw [HR.out], by go_num, by rw [HX.out]; simp [World.drewN, Nat.add_assoc]⟩, by simp [Go.RowKit.intOf]; omega⟩
        · obtain rfl : q = l.length := by omega
          rw [List.take_length]
          have d0 : wp.cell? ⟨gb, ob + k * 2, none⟩ = some (.int .i64 y) := by rw [hw]; exact HC0.out
          clear hw
          cases hu : isFrom l y with
          | true =>
            have HR := Lib.hid (HUS.out hu)
            go_wp2_with fail
            exact ⟨⟨k + 1, m, x, hle1, rfl, HR.out, by go_num, HX.out⟩, by simp [Go.RowKit.intOf]; omega⟩
          | false =>
            by_cases hx : x < 0
            · have HR := Lib.hid (HTK.out hu (Or.inl hx))
              go_wp2_with fail
              exact ⟨⟨k + 1, m, y, hle1, rfl, HR.out, by go_num, HX.out⟩, by simp [Go.RowKit.intOf]; omega⟩
            · by_cases hyx : y < x
              · have HR := Lib.hid (HTK.out hu (Or.inr hyx))
                go_wp2_with fail
                exact ⟨⟨k + 1, m, y, hle1, rfl, HR.out, by go_num, HX.out⟩, by simp [Go.RowKit.intOf]; omega⟩
              · have HR := Lib.hid (HSK.out (by omega) (by omega))
                go_wp2_with fail
                exact ⟨⟨k + 1, m, x, hle1, rfl, HR.out, by go_num, HX.out⟩, by simp [Go.RowKit.intOf]; omega⟩
    · obtain rfl : k = l.length := by omega
      have HE := Lib.hid (free_end HF.out)
      clear hw
      go_wp2_with fail
      go_ret
      exact ⟨x, rfl, HE.out, n, HW.out⟩
end Go.Proofs.Ytdohaoomckhbgaa.Vm
namespace Go.Proofs.Ytdohaoomckhbgaa.Vm
open Go.ChangeShapes Go.WideShapes Go.ChangeAt Go.RowKit Go.Maps Go.WideElems Go.ChangeMaps Go.Sort Go.Shelf Go.Proofs.Ytdohaoomckhbgaa.Mem Go.Proofs.Ytdohaoomckhbgaa.Br Go.Proofs.Ytdohaoomckhbgaa.Va Go.Proofs.Ytdohaoomckhbgaa.Vr
set_option linter.unusedVariables false
set_option linter.unusedSimpArgs false
attribute [local go_sem] Oper.semAt_some
def CircRowRes (c : List Int) (w : World) (e : Ending) (w' : World) : Prop := ∃ v, e = .returned v ∧ OwnInts w.heap.size w' v c ∧ Below w.heap.size w w'
set_option maxRecDepth 100000 in
set_option maxHeartbeats 2000000 in
theorem circleR_any (w : World) (v : Value) (l : List Mov) (x : Int) (N : Nat) (hv : MovesAt w v l) (hl : l.length ≤ 400) (hu : Uni l) (hC : Closed (srcD l) x N) (hN : N ≤ l.length) (hto : ∀ j, isTo l (it (srcD l) x j) = true) (hge : ∀ j, 0 ≤ it (srcD l) x j) :
    Calls Try.prog 52 #[v, .int .i64 x] w (CircRowRes (orb (srcD l) x N) w) := by
  have HV := Lib.hid hv
  have HS := Lib.hid (show ∀ j, sourceN l (it (srcD l) x j) = it (srcD l) x (j + 1) from fun j => source_uni hu (hto j))
  have HC := Lib.hid hC
  have HGE := Lib.hid hge
  have hN1 := hC.1
  obtain ⟨A, c, b0, o0, rfl, h1, h2, -⟩ := hv
  unfold maxLen at h2
  clear hu hC hto hge
  obtain ⟨i0, hi, hz0, hz1, hz2⟩ := info_parts info_int
  have HI := Lib.hid hi
  have HZ0 := Lib.hid hz0
  have HZ1 := Lib.hid hz1
  have HZ2 := Lib.hid hz2
  clear hi hz0 hz1 hz2
  obtain ⟨W0, hW0⟩ : ∃ W0, w.alloc (.cells #[.int .i64 x] 3) = W0 := ⟨_, rfl⟩
  have hb0 : Below w.heap.size w W0 := by rw [← hW0]; exact (Below.refl _ _).alloc (Nat.le_refl _) _
  have HO0 := Lib.hid (show W0.ownsRow w.heap.size 3 1 (.slice (some ⟨w.heap.size, 0, none⟩) 1 1) 1 ((orb (srcD l) x 1).map (Value.int .i64)) by
    rw [← hW0]
    exact World.ownsRow_lit (size := 1) (e := 3) (base := w.heap.size) w #[.int .i64 x] 1 (Nat.le_refl _) (by unfold maxLen; omega) (by simp))
  have HB0 := Lib.hid hb0
  have HS0 := Lib.hid (show sourceN l x = it (srcD l) x 1 from HS.out 0)
  clear hb0
  go_enter Try.func52, Try.ntmps52
  go_wp2_with fail
  clear hW0
  refine (source_any W0 _ l x (MovesAt.keep HV.out HB0.out)).mono ?_
  rintro e w1 ⟨rfl, hw1⟩
  obtain rfl : W0 = w1 := hw1.symm
  rw [HS0.out]
  go_wp2_with fail
  go_loopw [5, 6] (fun o p wr => ∃ n : Nat, 1 ≤ n ∧ n ≤ N ∧ p = .int .i64 (it (srcD l) x n) ∧ wr.ownsRow w.heap.size 3 1 o n ((orb (srcD l) x n).map (Value.int .i64)) ∧ Below w.heap.size w wr ∧ ∃ A c, o = .slice A n c) (fun o _ _ => N - lenV o)
  case atStart => exact ⟨1, Nat.le_refl _, hN1, rfl, HO0.out, HB0.out, _, _, rfl⟩
  case round =>
    obtain ⟨n, hn0, hn1, rfl, ho, hb, A2, c2, rfl⟩ := hrel
    have HO := Lib.hid ho
    have HB := Lib.hid hb
    have hcap := own_cap ho
    unfold maxLen at hcap
    have HNX := Lib.hid (HS.out n)
    have HGN := Lib.hid (HGE.out n)
    have HEQ := Lib.hid (show it (srcD l) x n = x ↔ n = N from ⟨fun e => by
      rcases Nat.lt_or_ge n N with h | h
      · exact absurd e (HC.out.2.2 n hn0 h)
      · omega, fun e => by rw [e]; exact HC.out.2.1⟩)
    have HOR := Lib.hid (orb_succ (srcD l) x n)
    clear ho hb HB0 HO0
    generalize it (srcD l) x n = y at *
    by_cases hyx : y = x
    · have hne : (y != x) = false := by rw [hyx]; simp
      have hnN := HEQ.out.1 hyx
      subst hnN
      clear hyx HEQ HNX HGN HOR
      go_wp2_with fail
      go_ret
      exact ⟨_, rfl, by unfold OwnInts; rw [orb_len]; exact HO.out, HB.out⟩
    · have hne : (y != x) = true := by simpa using hyx
      have hnN : n < N := by
        rcases Nat.lt_or_ge n N with h | h
        · exact h
        · exact absurd (HEQ.out.2 (by omega)) hyx
      have hy0 : 0 ≤ y := HGN.out
      have hnl : n ≤ l.length := by omega
      obtain ⟨W1, hW1⟩ : ∃ W1, wr.alloc (.cells #[.int .i64 y] 3) = W1 := ⟨_, rfl⟩
      have hb1 : Below wr.heap.size wr W1 := by rw [← hW1]; exact (Below.refl _ _).alloc (Nat.le_refl _) _
      have hs1 : Str W1 wr.heap.size 3 [.int .i64 y] := by rw [← hW1]; exact World.alloc_heap_new wr _
      have hz0 := HB.out.size
      have hz1 := hb1.size
      have HO1 := Lib.hid (show W1.ownsRow w.heap.size 3 1 (.slice A2 n c2) n ((orb (srcD l) x n).map (Value.int .i64)) from own_same_row HO.out (fun g cur hg => hb1.block g (Array.getElem?_eq_some_iff.1 hg).1))
      have HB1 := Lib.hid (HB.out.trans (hb1.mono HB.out.size))
      have HS1 := Lib.hid hs1
      clear hb1 hs1 hyx HEQ
      go_wp2_with (at_builtin; refine wpList_appendM rfl _ _ 23 rfl w.heap.size 3 i0 (.int .i64 0) 1 8 Try.underlying23 HI.out HZ0.out HZ1.out HZ2.out rfl (by decide) _ n ((orb (srcD l) x n).map (Value.int .i64)) rfl HO1.out ⟨wr.heap.size, 0, none⟩ [.int .i64 y] rfl rfl ?news ?one (by omega) (by omega) (by omega) ?_)
      case news =>
        intro j u hj
        rw [at_add0, HS1.out.cell j]
        exact hj
      case one =>
        intro u hu
        simp only [List.mem_cons, List.not_mem_nil, or_false] at hu
        rcases hu with rfl
        rfl
      intro v' w5 ho5 hg5 _
      have HO5 := Lib.hid (show w5.ownsRow w.heap.size 3 1 v' (n + 1) ((orb (srcD l) x (n + 1)).map (Value.int .i64)) by rw [HOR.out, List.map_append]; exact ho5)
      have HB5 := Lib.hid (HB1.out.grown hg5 (by omega) (fun j e => (World.ownsRow.lt HO1.out j e).1))
      obtain ⟨A5, c5, rfl⟩ := own_form ho5
      clear ho5 hg5 hW1
      go_wp2_with fail
      refine (source_any w5 _ l y (MovesAt.keep HV.out HB5.out)).mono ?_
      rintro e w6 ⟨rfl, hw6⟩
      obtain rfl : w5 = w6 := hw6.symm
      rw [HNX.out]
      go_wp2_with fail
      exact ⟨⟨n + 1, by omega, hnN, rfl, HO5.out, HB5.out, _, _, rfl⟩, by simp [lenV]; omega⟩
end Go.Proofs.Ytdohaoomckhbgaa.Vm
