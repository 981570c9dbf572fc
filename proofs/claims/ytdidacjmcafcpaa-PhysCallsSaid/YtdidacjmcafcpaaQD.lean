/- Stage 12: phys: whether an instruction may be. -/
import Derived.Test.YtdidacjmcafcpaaQA
import Derived.Test.YtdidacjmcafcpaaInfo
namespace Go.Proofs.Ytdidacjmcafcpaa.Ph
open Go.ChangeShapes Go.WideShapes Go.ChangeAt Go.RowKit Go.Proofs.Ytdidacjmcafcpaa.Mem Go.Proofs.Ytdidacjmcafcpaa.Kc Go.Proofs.Ytdidacjmcafcpaa.Pl Go.Proofs.Ytdidacjmcafcpaa.Mw Go.Proofs.Ytdidacjmcafcpaa.Mc Go.Proofs.Ytdidacjmcafcpaa.Br
set_option linter.unusedVariables false
set_option linter.unusedSimpArgs false
attribute [local go_sem] Oper.semAt_some
theorem ret_bool {a b : Bool} (h : a = b) : Ending.returned (.bool a) = .returned (.bool b) := by rw [h]
theorem any_step {q : Int → Bool} {l : List Int} {k : Nat} (hk : k < l.length) (h : (l.take k).any q = false) : (l.take (k + 1)).any q = q l[k] := by
  rw [List.take_succ_eq_append_getElem hk, List.any_append, h]; simp
theorem any_yes {q : Int → Bool} {l : List Int} {k : Nat} (hk : k < l.length) (h : q l[k] = true) : l.any q = true := by
  rw [List.any_eq_true]
  exact ⟨l[k], List.getElem_mem hk, h⟩
set_option maxRecDepth 100000 in
set_option maxHeartbeats 4000000 in
theorem index_any (w : World) (v : Value) (l : List Int) (hv : Ints w v l) (F : Nat) (x : Value) (q : Int → Bool) (hF : ∀ y : Value, (callFunc F #[y, x]).run Try.prog w = .ok (.enter F #[y, x]) w) (hq : ∀ y, Calls Try.prog F #[.int .i64 y, x] w fun en w' => en = .returned (.bool (q y)) ∧ w' = w) :
    Calls Try.prog 54 #[v, .func (.func F) #[] #[x]] w fun en w' => ∃ r : Int, en = .returned (.int .i64 r) ∧ (0 ≤ r ↔ l.any q = true) ∧ w' = w := by
  obtain ⟨A, c, rfl, h1, h2, h3⟩ := hv
  have H3 := Lib.hid h3
  have HQ := Lib.hid hq
  unfold maxLen at h2
  obtain ⟨n, hn⟩ : ∃ n, l.length = n := ⟨_, rfl⟩
  have HN := Lib.hid hn
  rw [hn] at h1
  rw [hn]
  clear h3 hn hq
  go_enter Try.func54, Try.ntmps54
  go_wp2_with fail
  go_loopw [5, 8] (fun _ j wr => ∃ k : Nat, k ≤ n ∧ j = .int .i64 k ∧ (l.take k).any q = false ∧ wr = w) (fun _ j _ => n - (intOf j).toNat)
  case atStart => exact ⟨0, Nat.zero_le _, rfl, rfl, rfl⟩
  case round =>
    obtain ⟨k, hk, rfl, hall, rfl⟩ := hrel
    have HA := Lib.hid hall
    clear hall
    by_cases hlt : k < n
    · have hkl : k < l.length := by rw [HN.out]; exact hlt
      obtain ⟨ad, rfl, hc⟩ := H3.out k hkl
      have HX := Lib.hid (any_step hkl HA.out)
      have HY := Lib.hid (fun h => any_yes (q := q) hkl h)
      generalize l[k] = y at *
      clear hkl
      go_wp2_with fail
      refine (HQ.out y).mono ?_
      rintro e' w3 ⟨rfl, rfl⟩
      cases hx : q y with
      | false =>
        have HXX := Lib.hid hx
        clear hx
        go_wp2_with fail
        exact ⟨⟨k + 1, by omega, by go_num, by rw [HX.out]; exact HXX.out, trivial⟩, by simp [intOf]; omega⟩
      | true =>
        have HXX := Lib.hid hx
        clear hx
        go_wp2_with fail
        go_ret
        exact ⟨_, rfl, ⟨fun _ => HY.out HXX.out, fun _ => by omega⟩, rfl⟩
    · obtain rfl : k = n := by omega
      have HZ := Lib.hid (show l.any q = false by have := HA.out; rw [← HN.out, List.take_length] at this; exact this)
      go_wp2_with fail
      go_ret
      exact ⟨_, rfl, ⟨fun h => absurd h (by omega), fun h => by rw [HZ.out] at h; cases h⟩, rfl⟩
set_option maxRecDepth 100000 in
set_option maxHeartbeats 4000000 in
theorem contains_any (w : World) (v : Value) (l : List Int) (hv : Ints w v l) (F : Nat) (x : Value) (q : Int → Bool) (hF : ∀ y : Value, (callFunc F #[y, x]).run Try.prog w = .ok (.enter F #[y, x]) w) (hq : ∀ y, Calls Try.prog F #[.int .i64 y, x] w fun en w' => en = .returned (.bool (q y)) ∧ w' = w) :
    Calls Try.prog 42 #[v, .func (.func F) #[] #[x]] w fun en w' => en = .returned (.bool (l.any q)) ∧ w' = w := by
  have H := Lib.hid (index_any w v l hv F x q hF hq)
  obtain ⟨A, c, rfl, _, _, _⟩ := hv
  clear hq hF
  go_enter Try.func42, Try.ntmps42
  go_wp2_with fail
  refine H.out.mono ?_
  rintro e' w' ⟨r, rfl, hr, rfl⟩
  cases hb : l.any q with
  | true =>
    have h0 : 0 ≤ r := hr.2 hb
    clear hr
    go_wp2_with fail
    go_ret
    exact ⟨ret_bool hb.symm, rfl⟩
  | false =>
    have h0 : r < 0 := by
      rcases Int.lt_or_le r 0 with h | h
      · exact h
      · rw [hr.1 h] at hb; cases hb
    clear hr
    go_wp2_with fail
    go_ret
    exact ⟨ret_bool (by rw [hb]; exact decide_eq_false (by omega)), rfl⟩
/-- No register of the first k. -/
def badR (k r : Int) : Bool := decide (r < 0) || decide (k ≤ r)
theorem badr_any (w : World) (r k : Int) (b : Nat) (hc : w.cell? ⟨b, 0, none⟩ = some (.int .i64 k)) :
    Calls Try.prog 48 #[.int .i64 r, .pointer (some ⟨b, 0, none⟩)] w fun en w' => en = .returned (.bool (badR k r)) ∧ w' = w := by
  by_cases h1 : r < 0
  · have HW := Lib.hid (show badR k r = true by unfold badR; rw [decide_eq_true h1]; rfl)
    go_enter Try.func48, Try.ntmps48
    go_wp2
    go_ret
    exact ⟨ret_bool HW.out.symm, rfl⟩
  · have HW := Lib.hid (show badR k r = decide (k ≤ r) by unfold badR; rw [decide_eq_false h1]; rfl)
    by_cases h2 : k ≤ r
    · rw [decide_eq_true h2] at HW
      go_enter Try.func48, Try.ntmps48
      go_wp2
      go_ret
      exact ⟨ret_bool HW.out.symm, rfl⟩
    · rw [decide_eq_false h2] at HW
      go_enter Try.func48, Try.ntmps48
      go_wp2
      go_ret
      exact ⟨ret_bool HW.out.symm, rfl⟩
def regsB (k : Int) (l : List Int) : Bool := !(l.any (badR k))
theorem areregs_any (w : World) (v : Value) (l : List Int) (k : Int) (hv : Ints w v l) : Calls Try.prog 34 #[v, .int .i64 k] w fun en w' => en = .returned (.bool (regsB k l)) ∧ Below w.heap.size w w' := by
  obtain ⟨W1, hW1⟩ : ∃ W1, w.alloc (.cells #[.int .i64 k] 3) = W1 := ⟨_, rfl⟩
  have hb1 : Below w.heap.size w W1 := by rw [← hW1]; exact (Below.refl _ _).alloc (Nat.le_refl _) _
  have hs1 : Str W1 w.heap.size 3 [.int .i64 k] := by rw [← hW1]; exact World.alloc_heap_new w _
  have HV := Lib.hid (ints_low hv hb1)
  have HC := Lib.hid (show W1.cell? ⟨w.heap.size, 0, none⟩ = some (.int .i64 k) from hs1.cell 0)
  have HB := Lib.hid hb1
  have HW := Lib.hid (show regsB k l = !(l.any (badR k)) from rfl)
  clear hv hb1 hs1
  go_enter Try.func34, Try.ntmps34
  go_wp2_with fail
  clear hW1
  refine (contains_any W1 v l HV.out 48 (.pointer (some ⟨w.heap.size, 0, none⟩)) (badR k) (fun y => by kernel_rfl) (fun y => badr_any W1 y k _ HC.out)).mono ?_
  rintro e' w5 ⟨rfl, hw5⟩
  obtain rfl : W1 = w5 := hw5.symm
  cases hx : l.any (badR k) with
  | true =>
    rw [hx] at HW
    clear hx
    go_wp2
    go_ret
    exact ⟨ret_bool HW.out.symm, HB.out⟩
  | false =>
    rw [hx] at HW
    clear hx
    go_wp2
    go_ret
    exact ⟨ret_bool HW.out.symm, HB.out⟩
/-- Are numbers 0, 1 and so on? -/
def inOrderB (l : List Int) : Bool := (List.range l.length).all fun j => l.getD j 0 == (j : Int)
theorem inorder_no {l : List Int} {k : Nat} (hk : k < l.length) (h : l[k] ≠ (k : Int)) : inOrderB l = false := by
  unfold inOrderB
  rw [List.all_eq_false]
  refine ⟨k, List.mem_range.2 hk, ?_⟩
  rw [List.getD_eq_getElem?_getD, List.getElem?_eq_getElem hk]
  simpa using h
theorem inorder_yes {l : List Int} (h : ∀ j (hj : j < l.length), l[j] = (j : Int)) : inOrderB l = true := by
  unfold inOrderB
  rw [List.all_eq_true]
  intro j hj
  have hj := List.mem_range.1 hj
  rw [List.getD_eq_getElem?_getD, List.getElem?_eq_getElem hj]
  simpa using h j hj
set_option maxRecDepth 100000 in
theorem inorder_any (w : World) (v : Value) (l : List Int) (hv : Ints w v l) : Calls Try.prog 47 #[v] w fun en w' => en = .returned (.bool (inOrderB l)) ∧ w' = w := by
  obtain ⟨A, c, rfl, h1, h2, h3⟩ := hv
  have H3 := Lib.hid h3
  unfold maxLen at h2
  clear h3
  go_enter Try.func47, Try.ntmps47
  go_wp2_with fail
  go_loopw [7] (fun j wr => ∃ k : Nat, k ≤ l.length ∧ j = .int .i64 k ∧ (∀ j (hj : j < l.length), j < k → l[j] = (j : Int)) ∧ wr = w) (fun j _ => l.length - (intOf j).toNat)
  case atStart => exact ⟨0, Nat.zero_le _, rfl, fun j _ hj => absurd hj (by omega), rfl⟩
  case round =>
    obtain ⟨k, hk, rfl, hall, hw⟩ := hrel
    obtain rfl : w = wr := hw.symm
    have HA := Lib.hid hall
    clear hall
    by_cases hlt : k < l.length
    · obtain ⟨ad, rfl, hc⟩ := H3.out k hlt
      have HN := Lib.hid (fun h => inorder_no hlt h)
      have HY := Lib.hid (show l[k] = (k : Int) → ∀ j (hj : j < l.length), j < k + 1 → l[j] = (j : Int) from fun e j hj h => by
        by_cases e2 : j = k
        · subst e2; exact e
        · exact HA.out j hj (by omega))
      have hle1 : k + 1 ≤ l.length := hlt
      generalize l[k] = y at *
      by_cases hy : y = (k : Int)
      · have HR := Lib.hid (HY.out hy)
        have hne : (y != (k : Int)) = false := by rw [hy]; simp
        clear hy HN HY
        go_wp2_with fail
        exact ⟨⟨k + 1, hle1, by go_num, HR.out, trivial⟩, by simp [intOf]; omega⟩
      · have HR := Lib.hid (HN.out hy)
        have hne : (y != (k : Int)) = true := by simpa using hy
        clear hy HN HY
        go_wp2_with fail
        go_ret
        exact ⟨ret_bool HR.out.symm, rfl⟩
    · obtain rfl : k = l.length := by omega
      have HR := Lib.hid (inorder_yes fun j hj => HA.out j hj hj)
      go_wp2_with fail
      go_ret
      exact ⟨ret_bool HR.out.symm, rfl⟩
theorem ofslot_any (w : World) (op : Int) : Calls Try.prog 37 #[.int .i64 op] w fun en w' => en = .returned (.bool (op == 30 || op == 31)) ∧ w' = w := by
  cases h1 : op == 30 with
  | true =>
    go_enter Try.func37, Try.ntmps37
    go_wp2
    go_ret
    exact ⟨rfl, rfl⟩
  | false =>
    go_enter Try.func37, Try.ntmps37
    go_wp2
    go_ret
    exact ⟨rfl, rfl⟩
/-- The least and the greatest number that may stand in an instruction. -/
def loI (op : Int) : Int := if op = 3 then -32768 else if op = 18 ∨ op = 19 then -128 else if op = 20 ∨ op = 21 ∨ op = 22 then 0 else if op = 24 ∨ op = 26 then 0 else -2147483648
def hiI (op : Int) : Int := if op = 3 then 32767 else if op = 18 ∨ op = 19 then 127 else if op = 20 ∨ op = 21 ∨ op = 22 then 31 else if op = 24 ∨ op = 26 then 255 else 2147483647
def BndRes (op : Int) (w : World) (en : Ending) (w' : World) : Prop := en = .returned (.tuple #[.int .i32 (loI op), .int .i32 (hiI op)]) ∧ w' = w
set_option maxRecDepth 100000 in
set_option maxHeartbeats 1000000 in
theorem bounds_any (w : World) (op : Int) : Calls Try.prog 53 #[.int .i64 op] w (BndRes op w) := by
  by_cases h3 : op = 3
  · have e3 : (op == 3) = true := beq_iff_eq.2 h3
    have HL := Lib.hid (show loI op = -32768 ∧ hiI op = 32767 by unfold loI hiI; rw [if_pos (by omega), if_pos (by omega)]; exact ⟨rfl, rfl⟩)
    clear h3
    go_enter Try.func53, Try.ntmps53
    go_wp2
    go_ret2
    unfold BndRes
    rw [HL.out.1, HL.out.2]
    exact ⟨rfl, rfl⟩
  have e3 : (op == 3) = false := beq_eq_false_iff_ne.2 h3
  by_cases h18 : op = 18
  · have e18 : (op == 18) = true := beq_iff_eq.2 h18
    have HL := Lib.hid (show loI op = -128 ∧ hiI op = 127 by unfold loI hiI; rw [if_neg (by omega), if_pos (by omega), if_neg (by omega), if_pos (by omega)]; exact ⟨rfl, rfl⟩)
    clear h3 h18
    go_enter Try.func53, Try.ntmps53
    go_wp2
    go_ret2
    unfold BndRes
    rw [HL.out.1, HL.out.2]
    exact ⟨rfl, rfl⟩
  have e18 : (op == 18) = false := beq_eq_false_iff_ne.2 h18
  by_cases h19 : op = 19
  · have e19 : (op == 19) = true := beq_iff_eq.2 h19
    have HL := Lib.hid (show loI op = -128 ∧ hiI op = 127 by unfold loI hiI; rw [if_neg (by omega), if_pos (by omega), if_neg (by omega), if_pos (by omega)]; exact ⟨rfl, rfl⟩)
    clear h3 h18 h19
    go_enter Try.func53, Try.ntmps53
    go_wp2
    go_ret2
    unfold BndRes
    rw [HL.out.1, HL.out.2]
    exact ⟨rfl, rfl⟩
  have e19 : (op == 19) = false := beq_eq_false_iff_ne.2 h19
  by_cases h20 : op = 20
  · have e20 : (op == 20) = true := beq_iff_eq.2 h20
    have HL := Lib.hid (show loI op = 0 ∧ hiI op = 31 by unfold loI hiI; rw [if_neg (by omega), if_neg (by omega), if_pos (by omega), if_neg (by omega), if_neg (by omega), if_pos (by omega)]; exact ⟨rfl, rfl⟩)
    clear h3 h18 h19 h20
    go_enter Try.func53, Try.ntmps53
    go_wp2
    go_ret2
    unfold BndRes
    rw [HL.out.1, HL.out.2]
    exact ⟨rfl, rfl⟩
  have e20 : (op == 20) = false := beq_eq_false_iff_ne.2 h20
  by_cases h21 : op = 21
  · have e21 : (op == 21) = true := beq_iff_eq.2 h21
    have HL := Lib.hid (show loI op = 0 ∧ hiI op = 31 by unfold loI hiI; rw [if_neg (by omega), if_neg (by omega), if_pos (by omega), if_neg (by omega), if_neg (by omega), if_pos (by omega)]; exact ⟨rfl, rfl⟩)
    clear h3 h18 h19 h20 h21
    go_enter Try.func53, Try.ntmps53
    go_wp2
    go_ret2
    unfold BndRes
    rw [HL.out.1, HL.out.2]
    exact ⟨rfl, rfl⟩
  have e21 : (op == 21) = false := beq_eq_false_iff_ne.2 h21
  by_cases h22 : op = 22
  · have e22 : (op == 22) = true := beq_iff_eq.2 h22
    have HL := Lib.hid (show loI op = 0 ∧ hiI op = 31 by unfold loI hiI; rw [if_neg (by omega), if_neg (by omega), if_pos (by omega), if_neg (by omega), if_neg (by omega), if_pos (by omega)]; exact ⟨rfl, rfl⟩)
    clear h3 h18 h19 h20 h21 h22
    go_enter Try.func53, Try.ntmps53
    go_wp2
    go_ret2
    unfold BndRes
    rw [HL.out.1, HL.out.2]
    exact ⟨rfl, rfl⟩
  have e22 : (op == 22) = false := beq_eq_false_iff_ne.2 h22
  by_cases h24 : op = 24
  · have e24 : (op == 24) = true := beq_iff_eq.2 h24
    have HL := Lib.hid (show loI op = 0 ∧ hiI op = 255 by unfold loI hiI; rw [if_neg (by omega), if_neg (by omega), if_neg (by omega), if_pos (by omega), if_neg (by omega), if_neg (by omega), if_neg (by omega), if_pos (by omega)]; exact ⟨rfl, rfl⟩)
    clear h3 h18 h19 h20 h21 h22 h24
    go_enter Try.func53, Try.ntmps53
    go_wp2
    go_ret2
    unfold BndRes
    rw [HL.out.1, HL.out.2]
    exact ⟨rfl, rfl⟩
  have e24 : (op == 24) = false := beq_eq_false_iff_ne.2 h24
  by_cases h26 : op = 26
  · have e26 : (op == 26) = true := beq_iff_eq.2 h26
    have HL := Lib.hid (show loI op = 0 ∧ hiI op = 255 by unfold loI hiI; rw [if_neg (by omega), if_neg (by omega), if_neg (by omega), if_pos (by omega), if_neg (by omega), if_neg (by omega), if_neg (by omega), if_pos (by omega)]; exact ⟨rfl, rfl⟩)
    clear h3 h18 h19 h20 h21 h22 h24 h26
    go_enter Try.func53, Try.ntmps53
    go_wp2
    go_ret2
    unfold BndRes
    rw [HL.out.1, HL.out.2]
    exact ⟨rfl, rfl⟩
  have e26 : (op == 26) = false := beq_eq_false_iff_ne.2 h26
  have HL := Lib.hid (show loI op = -2147483648 ∧ hiI op = 2147483647 by unfold loI hiI; rw [if_neg (by omega), if_neg (by omega), if_neg (by omega), if_neg (by omega), if_neg (by omega), if_neg (by omega), if_neg (by omega), if_neg (by omega)]; exact ⟨rfl, rfl⟩)
  clear h3 h18 h19 h20 h21 h22 h24 h26
  go_enter Try.func53, Try.ntmps53
  go_wp2
  go_ret2
  unfold BndRes
  rw [HL.out.1, HL.out.2]
  exact ⟨rfl, rfl⟩
def fitsI (i : PMach) : Bool := decide (loI i.op ≤ i.imm) && decide (i.imm ≤ hiI i.op)
set_option maxRecDepth 100000 in
set_option maxHeartbeats 1000000 in
theorem fits_any (w : World) (i : PMach) (A : Option Addr) (n k : Nat) : Calls Try.prog 38 #[.agg #[.int .i64 i.op, .int .i64 i.d, .int .i64 i.e, .int .i64 i.a, .int .i64 i.b, .int .i64 i.c, .int .i32 i.imm, .slice A n k]] w fun en w' => en = .returned (.bool (fitsI i)) ∧ Below w.heap.size w w' := by
  obtain ⟨W1, hW1⟩ : ∃ W1, w.alloc (.cells #[.int .i64 i.op, .int .i64 i.d, .int .i64 i.e, .int .i64 i.a, .int .i64 i.b, .int .i64 i.c, .int .i32 i.imm, .slice A n k] 24) = W1 := ⟨_, rfl⟩
  have hb1 : Below w.heap.size w W1 := by rw [← hW1]; exact (Below.refl _ _).alloc (Nat.le_refl _) _
  have hs1 : Str W1 w.heap.size 24 [.int .i64 i.op, .int .i64 i.d, .int .i64 i.e, .int .i64 i.a, .int .i64 i.b, .int .i64 i.c, .int .i32 i.imm, .slice A n k] := by rw [← hW1]; exact World.alloc_heap_new w _
  have HB1 := Lib.hid hb1
  have HS1 := Lib.hid hs1
  have m0 : W1.cell? ⟨w.heap.size, 0, none⟩ = some (.int .i64 i.op) := hs1.cell 0
  have m1 : W1.cell? ⟨w.heap.size, 1, none⟩ = some (.int .i64 i.d) := hs1.cell 1
  have m2 : W1.cell? ⟨w.heap.size, 2, none⟩ = some (.int .i64 i.e) := hs1.cell 2
  have m3 : W1.cell? ⟨w.heap.size, 3, none⟩ = some (.int .i64 i.a) := hs1.cell 3
  have m4 : W1.cell? ⟨w.heap.size, 4, none⟩ = some (.int .i64 i.b) := hs1.cell 4
  have m5 : W1.cell? ⟨w.heap.size, 5, none⟩ = some (.int .i64 i.c) := hs1.cell 5
  have m6 : W1.cell? ⟨w.heap.size, 6, none⟩ = some (.int .i32 i.imm) := hs1.cell 6
  have m7 : W1.cell? ⟨w.heap.size, 7, none⟩ = some (.slice A n k) := hs1.cell 7
  clear hb1 hs1
  obtain ⟨lo, hlo⟩ : ∃ x, loI i.op = x := ⟨_, rfl⟩
  obtain ⟨hi, hhi⟩ : ∃ x, hiI i.op = x := ⟨_, rfl⟩
  have HF := Lib.hid (show fitsI i = (decide (lo ≤ i.imm) && decide (i.imm ≤ hi)) by unfold fitsI; rw [hlo, hhi])
  have HB := Lib.hid (fun w => bounds_any w i.op)
  unfold BndRes at HB
  rw [hlo, hhi] at HB
  clear hlo hhi
  by_cases h1 : lo ≤ i.imm
  · have HF2 := Lib.hid (show fitsI i = decide (i.imm ≤ hi) by rw [HF.out, decide_eq_true h1]; rfl)
    go_enter Try.func38, Try.ntmps38
    go_wp2_with fail
    clear hW1
    refine (HB.out W1).mono ?_
    rintro e w2 ⟨rfl, hw2⟩
    obtain rfl : W1 = w2 := hw2.symm
    go_wp2
    go_ret
    exact ⟨ret_bool HF2.out.symm, HB1.out⟩
  · have HF2 := Lib.hid (show fitsI i = false by rw [HF.out, decide_eq_false h1]; rfl)
    go_enter Try.func38, Try.ntmps38
    go_wp2_with fail
    clear hW1
    refine (HB.out W1).mono ?_
    rintro e w2 ⟨rfl, hw2⟩
    obtain rfl : W1 = w2 := hw2.symm
    go_wp2
    go_ret
    exact ⟨ret_bool HF2.out.symm, HB1.out⟩
/-- Is there such an operation, with what it has in registers of its own in those? -/
def okI (i : PMach) : Bool := if i.op = 28 then decide ((i.args.length : Int) ≤ 4) && (i.d == 0) && inOrderB i.args else if i.op = 29 then (i.d == 0) && (i.e == 1) else decide (1 ≤ i.op) && decide (i.op ≤ 31)
set_option maxRecDepth 100000 in
set_option maxHeartbeats 1000000 in
theorem isinstr_any (w : World) (i : PMach) (A : Option Addr) (k : Nat) (hv : Ints w (.slice A i.args.length k) i.args) : Calls Try.prog 33 #[.agg #[.int .i64 i.op, .int .i64 i.d, .int .i64 i.e, .int .i64 i.a, .int .i64 i.b, .int .i64 i.c, .int .i32 i.imm, .slice A i.args.length k]] w fun en w' => en = .returned (.bool (okI i)) ∧ Below w.heap.size w w' := by
  obtain ⟨W1, hW1⟩ : ∃ W1, w.alloc (.cells #[.int .i64 i.op, .int .i64 i.d, .int .i64 i.e, .int .i64 i.a, .int .i64 i.b, .int .i64 i.c, .int .i32 i.imm, .slice A i.args.length k] 24) = W1 := ⟨_, rfl⟩
  have hb1 : Below w.heap.size w W1 := by rw [← hW1]; exact (Below.refl _ _).alloc (Nat.le_refl _) _
  have hs1 : Str W1 w.heap.size 24 [.int .i64 i.op, .int .i64 i.d, .int .i64 i.e, .int .i64 i.a, .int .i64 i.b, .int .i64 i.c, .int .i32 i.imm, .slice A i.args.length k] := by rw [← hW1]; exact World.alloc_heap_new w _
  have HB1 := Lib.hid hb1
  have HS1 := Lib.hid hs1
  have m0 : W1.cell? ⟨w.heap.size, 0, none⟩ = some (.int .i64 i.op) := hs1.cell 0
  have m1 : W1.cell? ⟨w.heap.size, 1, none⟩ = some (.int .i64 i.d) := hs1.cell 1
  have m2 : W1.cell? ⟨w.heap.size, 2, none⟩ = some (.int .i64 i.e) := hs1.cell 2
  have m3 : W1.cell? ⟨w.heap.size, 3, none⟩ = some (.int .i64 i.a) := hs1.cell 3
  have m4 : W1.cell? ⟨w.heap.size, 4, none⟩ = some (.int .i64 i.b) := hs1.cell 4
  have m5 : W1.cell? ⟨w.heap.size, 5, none⟩ = some (.int .i64 i.c) := hs1.cell 5
  have m6 : W1.cell? ⟨w.heap.size, 6, none⟩ = some (.int .i32 i.imm) := hs1.cell 6
  have m7 : W1.cell? ⟨w.heap.size, 7, none⟩ = some (.slice A i.args.length k) := hs1.cell 7
  clear hb1 hs1
  have HV := Lib.hid (ints_low hv HB1.out)
  clear hv
  by_cases h28 : i.op = 28
  · have e28 : (i.op == 28) = true := beq_iff_eq.2 h28
    have HF := Lib.hid (show okI i = (decide ((i.args.length : Int) ≤ 4) && (i.d == 0) && inOrderB i.args) by unfold okI; rw [if_pos h28])
    clear h28
    by_cases h4 : (i.args.length : Int) ≤ 4
    · cases hd : i.d == 0 with
      | true =>
        have HF2 := Lib.hid (show okI i = inOrderB i.args by rw [HF.out, decide_eq_true h4, hd]; rfl)
        go_enter Try.func33, Try.ntmps33
        go_wp2_with fail
        clear hW1
        refine (inorder_any W1 _ _ HV.out).mono ?_
        rintro e w2 ⟨rfl, hw2⟩
        obtain rfl : W1 = w2 := hw2.symm
        go_wp2
        go_ret
        exact ⟨ret_bool HF2.out.symm, HB1.out⟩
      | false =>
        have HF2 := Lib.hid (show okI i = false by rw [HF.out, hd, Bool.and_false]; rfl)
        go_enter Try.func33, Try.ntmps33
        go_wp2
        go_ret
        exact ⟨ret_bool HF2.out.symm, HB1.out⟩
    · have HF2 := Lib.hid (show okI i = false by rw [HF.out, decide_eq_false h4]; rfl)
      go_enter Try.func33, Try.ntmps33
      go_wp2
      go_ret
      exact ⟨ret_bool HF2.out.symm, HB1.out⟩
  · have e28 : (i.op == 28) = false := beq_eq_false_iff_ne.2 h28
    by_cases h29 : i.op = 29
    · have e29 : (i.op == 29) = true := beq_iff_eq.2 h29
      have HF := Lib.hid (show okI i = ((i.d == 0) && (i.e == 1)) by unfold okI; rw [if_neg h28, if_pos h29])
      clear h28 h29
      cases hd : i.d == 0 with
      | true =>
        have HF2 := Lib.hid (show okI i = (i.e == 1) by rw [HF.out, hd]; rfl)
        go_enter Try.func33, Try.ntmps33
        go_wp2
        go_ret
        exact ⟨ret_bool HF2.out.symm, HB1.out⟩
      | false =>
        have HF2 := Lib.hid (show okI i = false by rw [HF.out, hd]; rfl)
        go_enter Try.func33, Try.ntmps33
        go_wp2
        go_ret
        exact ⟨ret_bool HF2.out.symm, HB1.out⟩
    · have e29 : (i.op == 29) = false := beq_eq_false_iff_ne.2 h29
      have HF := Lib.hid (show okI i = (decide (1 ≤ i.op) && decide (i.op ≤ 31)) by unfold okI; rw [if_neg h28, if_neg h29])
      clear h28 h29
      by_cases h1 : 1 ≤ i.op
      · have HF2 := Lib.hid (show okI i = decide (i.op ≤ 31) by rw [HF.out, decide_eq_true h1]; rfl)
        go_enter Try.func33, Try.ntmps33
        go_wp2
        go_ret
        exact ⟨ret_bool HF2.out.symm, HB1.out⟩
      · have HF2 := Lib.hid (show okI i = false by rw [HF.out, decide_eq_false h1]; rfl)
        go_enter Try.func33, Try.ntmps33
        go_wp2
        go_ret
        exact ⟨ret_bool HF2.out.symm, HB1.out⟩
end Go.Proofs.Ytdidacjmcafcpaa.Ph
