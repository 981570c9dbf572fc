/- Moves: jacquardref11.takes and around: the circle of which a place is the least. -/
import Derived.Test.YtdohaoomckhbgaaVPT
namespace Go.Proofs.Ytdohaoomckhbgaa.Vm
open Go.ChangeShapes Go.WideShapes Go.ChangeAt Go.RowKit Go.Maps Go.WideElems Go.ChangeMaps Go.Sort Go.Shelf Go.Proofs.Ytdohaoomckhbgaa.Mem Go.Proofs.Ytdohaoomckhbgaa.Br Go.Proofs.Ytdohaoomckhbgaa.Va Go.Proofs.Ytdohaoomckhbgaa.Vr
set_option linter.unusedVariables false
set_option linter.unusedSimpArgs false
attribute [local go_sem] Oper.semAt_some
/-- The last move to a place: its From; 0, if there is none. -/
def takN (l : List Mov) (x : Int) : Int := ((l.reverse.find? fun m => m.1 == x).map (·.2)).getD 0
theorem takN_none {l : List Mov} {x : Int} (h : ∀ m ∈ l, m.1 ≠ x) : takN l x = 0 ∧ isTo l x = false := by
  constructor
  · unfold takN
    rw [List.find?_eq_none.2 (fun m hm => by simpa using h m (by simpa using hm))]; rfl
  · cases hx : isTo l x with
    | false => rfl
    | true => obtain ⟨m, hm, e⟩ := isTo_iff.1 hx; exact absurd e (h m hm)
theorem takN_some {l : List Mov} {x : Int} {k : Nat} (hk : k < l.length) (h : ∀ m ∈ l.drop (k + 1), m.1 ≠ x) (e : l[k].1 = x) : takN l x = l[k].2 ∧ isTo l x = true := by
  refine ⟨?_, isTo_iff.2 ⟨l[k], List.getElem_mem hk, e⟩⟩
  have hl : l = l.take k ++ l[k] :: l.drop (k + 1) := by rw [List.getElem_cons_drop, List.take_append_drop]
  unfold takN
  generalize l[k] = y at *
  rw [hl, List.reverse_append, List.reverse_cons, List.append_assoc, List.find?_append, List.find?_eq_none.2 (fun m hm => by simpa using h m (by simpa using hm))]
  simp [e]
theorem takN_uni {l : List Mov} (h : Uni l) (x : Int) : takN l x = srcD l x := by
  cases hx : isTo l x with
  | false => rw [src_none hx, (takN_none (fun m hm e => by have := isTo_iff.2 ⟨m, hm, e⟩; rw [hx] at this; cases this)).1]
  | true =>
    obtain ⟨m, hm, e⟩ := isTo_iff.1 hx
    obtain ⟨k, hk, ek⟩ := List.getElem_of_mem hm
    have hd : ∀ q ∈ l.drop (k + 1), q.1 ≠ x := fun q hq e2 => by
      obtain ⟨j, hj, ej⟩ := List.getElem_of_mem hq
      rw [List.getElem_drop] at ej
      have := List.pairwise_iff_getElem.1 h k (k + 1 + j) hk (by rw [List.length_drop] at hj; omega) (by omega)
      rw [ek, ej] at this
      exact this (e.trans e2.symm)
    rw [(takN_some hk hd (by rw [ek]; exact e)).1, ek, ← e]
    exact (src_of_mem h hm).symm
set_option maxRecDepth 100000 in
set_option maxHeartbeats 1000000 in
theorem takes_any (w : World) (v : Value) (l : List Mov) (x : Int) (hv : MovesAt w v l) : Calls Try.prog 67 #[v, .int .i64 x] w fun e w' => e = .returned (.tuple #[.int .i64 (takN l x), .bool (isTo l x)]) ∧ w' = w := by
  have HV := Lib.hid hv
  obtain ⟨A, c, b0, o0, rfl, h1, h2, -⟩ := hv
  unfold maxLen at h2
  go_enter Try.func67, Try.ntmps67
  go_wp2_with fail
  go_loopw [6] (fun i wr => ∃ k : Nat, k ≤ l.length ∧ i = .int .i64 ((k : Int) - 1) ∧ (∀ m ∈ l.drop k, m.1 ≠ x) ∧ wr = w) (fun i _ => (Go.RowKit.intOf i + 1).toNat)
  case atStart => exact ⟨l.length, Nat.le_refl _, rfl, (fun m hm => absurd hm (by rw [List.drop_length]; simp)), rfl⟩
  case round =>
    obtain ⟨k, hk, rfl, hd, hw⟩ := hrel
    obtain rfl : w = wr := hw.symm
    have HD := Lib.hid hd
    clear hd
    cases k with
    | zero =>
      have HN := Lib.hid (takN_none (l := l) (x := x) (fun m hm => HD.out m (by rw [List.drop_zero]; exact hm)))
      go_wp2_with fail
      go_ret2
      rw [HN.out.1, HN.out.2]
      exact ⟨rfl, rfl⟩
    | succ k =>
      obtain ⟨A', c', gb, ob, e, -, -, hA, hc⟩ := HV.out
      injection e with e1 e2 e3
      subst e1 e3
      obtain rfl : A = some ⟨gb, ob, none⟩ := hA (by omega)
      obtain ⟨c0, c1⟩ := hc k hk
      have HS := Lib.hid (fun e => takN_some hk HD.out e)
      have HDR := Lib.hid (show ∀ m ∈ l.drop k, l[k].1 ≠ x → m.1 ≠ x from fun m hm hne => by
        rw [List.drop_eq_getElem_cons hk] at hm
        rcases List.mem_cons.1 hm with rfl | hm
        · exact hne
        · exact HD.out m hm)
      have ek : (((k + 1 : Nat) : Int) - 1) = (k : Int) := by omega
      clear hc hA
      generalize l[k] = y at *
      obtain ⟨y1, y2⟩ := y
      simp only at c0 c1
      rw [ek]
      by_cases hx : y1 = x
      · have hb : (y1 == x) = true := by rw [hx]; simp
        have HT := Lib.hid (HS.out hx)
        clear hx HS HDR ek
        go_wp2_with fail
        go_ret2
        rw [HT.out.1, HT.out.2]
        exact ⟨rfl, rfl⟩
      · have hb : (y1 == x) = false := beq_eq_false_iff_ne.2 hx
        have HT := Lib.hid (fun m hm => HDR.out m hm hx)
        clear hx HS HDR ek
        go_wp2_with fail
        exact ⟨⟨k, by omega, by go_num, HT.out, trivial⟩, by simp [Go.RowKit.intOf] <;> omega⟩
end Go.Proofs.Ytdohaoomckhbgaa.Vm
