/- What the closure mark of package graph's Body does: it marks all from which one comes to what is marked. -/
import Derived.Test.YthanbedmiaacdaaReducC
import Derived.Test.YthanbedmiaacdaaCritC
namespace Go.Proofs.Ythanbedmiaacdaa.Gc
open Go.ChangeShapes Go.WideShapes Go.ChangeAt Go.RowKit Go.Shelf Go.Proofs.Ythanbedmiaacdaa.Mem Go.Proofs.Ythanbedmiaacdaa.Gr Go.Proofs.Ythanbedmiaacdaa.Gn Go.Proofs.Ythanbedmiaacdaa.Br Go.Proofs.Ythanbedmiaacdaa.Rp
set_option linter.unusedVariables false

def markRow (P : G) (num : List Int) (f : Nat) (l : List Nat) (m : List Bool) : List Bool := l.foldl (fun m a => markB P num f a m) m
theorem markB_in {P : G} {num : List Int} {f b : Nat} {m : List Bool} (h : m.getD b true = true ∨ num.getD b (-1) = -1) : markB P num (f + 1) b m = m := by
  unfold markB
  rw [if_pos (by rcases h with h | h <;> rw [h] <;> simp)]
theorem markB_out {P : G} {num : List Int} {f b : Nat} {m : List Bool} (h : m.getD b true = false) (hn : num.getD b (-1) ≠ -1) : markB P num (f + 1) b m = markRow P num f (P.getD b []) (m.set b true) := by
  conv => lhs; unfold markB
  rw [if_neg (by rw [h]; simpa using hn)]
  rfl
theorem count_set_true {m : List Bool} {b : Nat} (h : m.getD b true = false) : (m.set b true).count false + 1 = m.count false := by
  have hb : b < m.length := by
    rcases Nat.lt_or_ge b m.length with h1 | h1
    · exact h1
    · rw [List.getD_eq_getElem?_getD, List.getElem?_eq_none h1] at h; cases h
  have h1 : m[b] = false := by rw [getD_at hb] at h; exact h
  have h2 : 0 < m.count false := List.count_pos_iff.2 (by rw [← h1]; exact List.getElem_mem hb)
  rw [List.count_set hb, h1]
  simp
  omega
theorem markRow_of {P : G} {num : List Int} {f : Nat} (h : ∀ b m, (markB P num f b m).length = m.length ∧ (markB P num f b m).count false ≤ m.count false) : ∀ (l : List Nat) (m : List Bool), (markRow P num f l m).length = m.length ∧ (markRow P num f l m).count false ≤ m.count false
  | [], m => ⟨rfl, Nat.le_refl _⟩
  | a :: l, m => by
    have h1 := h a m
    have h2 := markRow_of h l (markB P num f a m)
    have e : markRow P num f (a :: l) m = markRow P num f l (markB P num f a m) := rfl
    rw [e]
    exact ⟨h2.1.trans h1.1, Nat.le_trans h2.2 h1.2⟩
theorem markB_len (P : G) (num : List Int) : ∀ (f b : Nat) (m : List Bool), (markB P num f b m).length = m.length ∧ (markB P num f b m).count false ≤ m.count false
  | 0, b, m => ⟨rfl, Nat.le_refl _⟩
  | f + 1, b, m => by
    by_cases h : m.getD b true = true ∨ num.getD b (-1) = -1
    · rw [markB_in h]; exact ⟨rfl, Nat.le_refl _⟩
    · have h1 : m.getD b true = false := by rcases hb : m.getD b true with _ | _ <;> simp_all
      rw [markB_out h1 (fun e => h (Or.inr e))]
      have h2 := markRow_of (fun b m => markB_len P num f b m) (P.getD b []) (m.set b true)
      have h3 := count_set_true h1
      exact ⟨h2.1.trans (List.length_set ..), by omega⟩
/-- Where mark's variables lie. -/
structure Marked (w0 : World) (n b6 b7 X : Nat) (w : World) (m : List Bool) : Prop where
  len : m.length = n
  own : OwnBools w0.heap.size w m
  box : Boxed w b6 43 (.slice (some ⟨w0.heap.size, 0, none⟩) n n)
  fn : Boxed w b7 77 (.func (.func 53) #[] #[.pointer (some ⟨b6, 0, none⟩), .pointer (some ⟨X, 0, none⟩), .pointer (some ⟨b7, 0, none⟩)])
  below : Below w0.heap.size w0 w
  low : w0.heap.size < b6 ∧ w0.heap.size < b7
theorem Marked.store {w0 : World} {n b6 b7 X : Nat} {w : World} {m : List Bool} (h : Marked w0 n b6 b7 X w m) (b : Nat) : Marked w0 n b6 b7 X (w.setCell ⟨w0.heap.size, b, none⟩ (.bool true)) (m.set b true) :=
  ⟨(List.length_set ..).trans h.len, h.own.store b true, (Below.heap_setCell _ _ _ _ (by show b6 ≠ w0.heap.size; have := h.low; omega)).trans h.box, (Below.heap_setCell _ _ _ _ (by show b7 ≠ w0.heap.size; have := h.low; omega)).trans h.fn, h.below.setCell (Nat.le_refl _) _, h.low⟩
set_option maxRecDepth 100000 in
set_option maxHeartbeats 1000000 in
theorem mark_any (w0 : World) (T : G) (X b6 b7 : Nat) (num : List Int) (hT : Neat T) (hl : T.length ≤ 1000) (hnl : num.length = T.length) (Ac : Option Addr) (nc cc : Nat) (Al : Option Addr) (nl cl : Nat) (An : Option Addr) (cn : Nat) (Ap : Option Addr) (np cp b1 b3 : Nat) (As : Option Addr) (ns cs : Nat)
    (hS : Str w0 X 70 [.slice Ac nc cc, .slice Al nl cl, .slice An T.length cn, .slice Ap np cp, .slice (some ⟨b1, 0, none⟩) T.length T.length, .slice (some ⟨b3, 0, none⟩) T.length T.length, .slice As ns cs])
    (hN : Ints w0 (.slice An T.length cn) num) (hP : Grid w0 (.slice (some ⟨b3, 0, none⟩) T.length T.length) (lii (turnN T))) : ∀ (f b : Nat) (m : List Bool) (w : World), Marked w0 T.length b6 b7 X w m → b < T.length → m.count false + 1 ≤ f →
    Calls Try.prog 53 #[.int .i64 b, .pointer (some ⟨b6, 0, none⟩), .pointer (some ⟨X, 0, none⟩), .pointer (some ⟨b7, 0, none⟩)] w fun e w' =>
      e = .returned (.tuple #[]) ∧ Marked w0 T.length b6 b7 X w' (markB (turnN T) num f b m) := by
  have HS := Lib.hid hS
  have HN := Lib.hid hN
  have HP := Lib.hid hP
  have HT := Lib.hid hT
  clear hS hN hP hT
  intro f
  induction f with
  | zero => intro b m w _ _ h; omega
  | succ f ih =>
    intro b m w hM hb hf
    have IH := Lib.hid ih
    have HM := Lib.hid hM
    have hmb : b < m.length := by rw [hM.len]; exact hb
    have k1 := hM.box.cell
    have hsW := HS.out.below hM.below
    have q2 : w.cell? ⟨X, 2, none⟩ = some (.slice An T.length cn) := hsW.cell 2
    have q5 : w.cell? ⟨X, 5, none⟩ = some (.slice (some ⟨b3, 0, none⟩) T.length T.length) := hsW.cell 5
    have hcb := OwnBools.cell hM.own hmb
    have hgd := getD_at hmb true
    obtain ⟨A', c', e', _, _, hcs⟩ := HN.out
    injection e' with e1 e2 e3
    subst e1
    clear e2 e3
    obtain ⟨ad, rfl, hcj⟩ := hcs b (by rw [hnl]; exact hb)
    have hcj := cell_keep hM.below (Nat.le_refl _) hcj
    have hnb := getD_at (l := num) (i := b) (by rw [hnl]; exact hb) (-1)
    have HGD := Lib.hid hgd
    have HNB := Lib.hid hnb
    generalize num[b]'(by rw [hnl]; exact hb) = z at *
    generalize m[b] = y at *
    have hms := HM.out.store b
    have hfz : w.frozen? ⟨w0.heap.size, b, none⟩ = false := World.ownsRow.frozenAt HM.out.own _
    clear hM hcs hgd hnb ih hsW
    cases y with
    | true =>
      have HR := Lib.hid (markB_in (P := turnN T) (num := num) (f := f) (b := b) (m := m) (Or.inl HGD.out))
      clear hms
      go_enter Try.func53, Try.ntmps53
      go_wp2
      refine bodyPost_ret (results_none rfl _ _ _) rfl ?_
      exact ⟨rfl, by rw [HR.out]; exact HM.out⟩
    | false =>
      by_cases hz : z = -1
      · have hz1 : (z == -1) = true := beq_iff_eq.2 hz
        have HR := Lib.hid (markB_in (P := turnN T) (num := num) (f := f) (b := b) (m := m) (Or.inr (by rw [HNB.out, hz])))
        clear hms hz
        go_enter Try.func53, Try.ntmps53
        go_wp2
        refine bodyPost_ret (results_none rfl _ _ _) rfl ?_
        exact ⟨rfl, by rw [HR.out]; exact HM.out⟩
      · have hz1 : (z == -1) = false := beq_eq_false_iff_ne.2 hz
        have HR := Lib.hid (markB_out (P := turnN T) (num := num) (f := f) (b := b) (m := m) HGD.out (by rw [HNB.out]; exact hz))
        have hct := count_set_true HGD.out
        clear hz
        go_enter Try.func53, Try.ntmps53
        go_upto_region 2 with (fail)
        obtain ⟨w1, hw1⟩ : ∃ w1, w.setCell ⟨w0.heap.size, b, none⟩ (.bool true) = w1 := ⟨_, rfl⟩
        rw [hw1] at hms
        rw [hw1]
        have HM1 := Lib.hid hms
        clear hw1 k1 q2 q5 hcb hcj hfz
        have hsW := HS.out.below hms.below
        have q5 : w1.cell? ⟨X, 5, none⟩ = some (.slice (some ⟨b3, 0, none⟩) T.length T.length) := hsW.cell 5
        have htl := turnN_len T
        have hg1 := HP.out
        obtain ⟨Ar, mr, ra, rl⟩ := grid_at (k := b) hg1 (by rw [htl]; exact hb)
        have hrow : ∀ x ∈ (turnN T).getD b [], x < T.length := fun x hx => by
          have := (turnN_neat HT.out).row b
          rw [htl] at this
          exact this.2 x hx
        have hints : Ints w0 (.slice Ar ((turnN T).getD b []).length mr) (li ((turnN T).getD b [])) := by
          obtain ⟨A2, c2, e2, _, _, h3⟩ := hg1
          injection e2 with e21 e22 e23
          subst e21
          obtain ⟨ad2, u2, e2, hc2, hu2⟩ := h3 b (by rw [lii_len, htl]; exact hb)
          injection e2 with e2
          subst e2
          have hb' : b < (turnN T).length := by rw [htl]; exact hb
          rw [lii_at hb'] at hu2
          have hc3 : w0.cell? ⟨b3, b, none⟩ = some u2 := by cases b <;> simpa [Addr.add] using hc2
          rw [ra] at hc3
          injection hc3 with hc3
          rw [hc3, getD_at hb']
          exact hu2
        have HIN := Lib.hid hints
        have ra := cell_keep hms.below (Nat.le_refl _) ra
        have hrl1000 : ((turnN T).getD b []).length ≤ 1000 := by
          have h1 := (turnN_small HT.out hl).2 b (by rw [lii_len, htl]; exact hb)
          have hb' : b < (turnN T).length := by rw [htl]; exact hb
          rw [lii_at hb', li_len] at h1
          rw [getD_at hb']; exact h1
        generalize (turnN T).getD b [] = row at *
        have HRW := Lib.hid hrow
        clear hms hsW htl hg1 hints hrow
        go_wp2
        clear q5 ra
        go_loopw [29] (fun i wr => ∃ j : Nat, j ≤ row.length ∧ i = .int .i64 j ∧ Marked w0 T.length b6 b7 X wr (markRow (turnN T) num f (row.take j) (m.set b true))) (fun i _ => row.length - (intOf i).toNat)
        case atStart => exact ⟨0, by omega, rfl, HM1.out⟩
        case round =>
          obtain ⟨j, hj, rfl, hMj⟩ := hrel
          obtain ⟨wo, rfl⟩ : ∃ wo : World, wo = wr := ⟨_, rfl⟩
          by_cases hlt : j < row.length
          · have HN2 := Lib.hid (show markRow (turnN T) num f (row.take (j + 1)) (m.set b true) = markB (turnN T) num f row[j] (markRow (turnN T) num f (row.take j) (m.set b true)) by
              rw [List.take_succ_eq_append_getElem hlt]; unfold markRow; rw [List.foldl_append]; rfl)
            have hcm := (markRow_of (fun b m => markB_len (turnN T) num f b m) (row.take j) (m.set b true)).2
            have hxl : row[j] < T.length := HRW.out _ (List.getElem_mem hlt)
            obtain ⟨A2, c2, e2, _, _, h3⟩ := HIN.out
            injection e2 with e21 e22 e23
            subst e21
            clear e22 e23
            obtain ⟨cd, rfl, hx⟩ := h3 j (by rw [li_len]; exact hlt)
            rw [li_at hlt] at hx
            have hx := cell_keep hMj.below (Nat.le_refl _) hx
            generalize row[j] = x at *
            generalize markRow (turnN T) num f (row.take j) (m.set b true) = m2 at *
            have kv := hMj.fn.cell
            have HMJ := Lib.hid hMj
            clear hMj h3
            go_wp2_with (go_at_call 53; refine (IH.out x m2 wo HMJ.out hxl (by omega)).mono ?_; rintro e w7 ⟨rfl, hM7⟩)
            have HM7 := Lib.hid hM7
            clear hM7
            go_wp2
            go_roundw
            case rel => exact ⟨j + 1, by omega, by go_num, by rw [HN2.out]; exact HM7.out⟩
            case measure => simp [intOf]; omega
          · obtain rfl : j = row.length := by omega
            rw [List.take_length] at hMj
            have HMJ := Lib.hid hMj
            clear hMj
            go_wp2
            go_end0
            exact ⟨rfl, by rw [HR.out]; exact HMJ.out⟩
end Go.Proofs.Ythanbedmiaacdaa.Gc
