/- Moves: After and Do of the program and of the document. -/
import Derived.Test.YtdohaoomckhbgaaVC
namespace Go.Proofs.Ytdohaoomckhbgaa.Vm
open Go.ChangeShapes Go.WideShapes Go.ChangeAt Go.RowKit Go.Proofs.Ytdohaoomckhbgaa.Mem Go.Proofs.Ytdohaoomckhbgaa.Br
set_option linter.unusedVariables false
set_option linter.unusedSimpArgs false
/-- The slice v holds the things l, each of which takes so many cells. -/
def RowAt {α : Type} (w : World) (size : Nat) (R : World → Nat → Nat → α → Prop) (v : Value) (l : List α) : Prop :=
  ∃ (A : Option Addr) (c b o : Nat), v = .slice A l.length c ∧ l.length ≤ c ∧ c ≤ maxLen ∧ (0 < l.length → A = some ⟨b, o, none⟩) ∧ ∀ k (h : k < l.length), R w b (o + k * size) l[k]
theorem RowAt.kept {α : Type} {w w' : World} {size : Nat} {R : World → Nat → Nat → α → Prop} {v : Value} {l : List α} (h : RowAt w size R v l) (hR : ∀ b o x, R w b o x → R w' b o x) : RowAt w' size R v l := by
  obtain ⟨A, c, b, o, e, h1, h2, h3, h4⟩ := h
  exact ⟨A, c, b, o, e, h1, h2, h3, fun k hk => hR _ _ _ (h4 k hk)⟩
theorem RowAt.take {α : Type} {w : World} {size : Nat} {R : World → Nat → Nat → α → Prop} {A : Option Addr} {n c : Nat} {l : List α} (h : RowAt w size R (.slice A n c) l) (m : Nat) (hm : m ≤ n) : RowAt w size R (.slice A m c) (l.take m) := by
  obtain ⟨A', c', b, o, e, h1, h2, h3, h4⟩ := h
  injection e with e1 e2 e3
  subst e1 e2 e3
  have hl : (l.take m).length = m := by rw [List.length_take]; omega
  refine ⟨A, c, b, o, by rw [hl], by omega, h2, fun h => h3 (by omega), fun k hk => ?_⟩
  rw [List.getElem_take]
  exact h4 k (by omega)
theorem rowAt_nil {α : Type} {R : World → Nat → Nat → α → Prop} {w : World} {size : Nat} : RowAt w size R (.slice none 0 0) ([] : List α) := ⟨none, 0, 0, 0, rfl, Nat.le_refl _, by unfold maxLen; omega, fun h => absurd h (by simp), fun k h => absurd h (by simp)⟩
/-- A move: To, From. -/
abbrev Mov := Int × Int
def MvAt (w : World) (b o : Nat) (m : Mov) : Prop := w.cell? ⟨b, o, none⟩ = some (.int .i64 m.1) ∧ w.cell? ⟨b, o + 1, none⟩ = some (.int .i64 m.2)
theorem MvAt.keep {w w' : World} (hb : Below w.heap.size w w') (b o : Nat) (p : Mov) (h : MvAt w b o p) : MvAt w' b o p := ⟨cell_keep hb (Nat.le_refl _) h.1, cell_keep hb (Nat.le_refl _) h.2⟩
def MovesAt (w : World) (v : Value) (l : List Mov) : Prop := RowAt w 2 MvAt v l
theorem MovesAt.keep {w w' : World} {v : Value} {l : List Mov} (h : MovesAt w v l) (hb : Below w.heap.size w w') : MovesAt w' v l := RowAt.kept h (MvAt.keep hb)
/-- An instruction; n: how many Args it has. -/
structure PM where
  op : Int
  d : Int
  e : Int
  a : Int
  b : Int
  c : Int
  imm : Int
  n : Nat
deriving DecidableEq
def PmAt (w : World) (b o : Nat) (x : PM) : Prop :=
  w.cell? ⟨b, o, none⟩ = some (.int .i64 x.op) ∧ w.cell? ⟨b, o + 1, none⟩ = some (.int .i64 x.d) ∧ w.cell? ⟨b, o + 2, none⟩ = some (.int .i64 x.e) ∧ w.cell? ⟨b, o + 3, none⟩ = some (.int .i64 x.a) ∧
  w.cell? ⟨b, o + 4, none⟩ = some (.int .i64 x.b) ∧ w.cell? ⟨b, o + 5, none⟩ = some (.int .i64 x.c) ∧ w.cell? ⟨b, o + 6, none⟩ = some (.int .i32 x.imm) ∧ (∃ A c, w.cell? ⟨b, o + 7, none⟩ = some (.slice A x.n c)) ∧
  (-2147483648 ≤ x.imm ∧ x.imm ≤ 2147483647 ∧ x.n ≤ maxLen)
theorem PmAt.keep {w w' : World} (hb : Below w.heap.size w w') (b o : Nat) (p : PM) (h : PmAt w b o p) : PmAt w' b o p := by
  obtain ⟨h0, h1, h2, h3, h4, h5, h6, ⟨A, c, h7⟩, h8⟩ := h
  exact ⟨cell_keep hb (Nat.le_refl _) h0, cell_keep hb (Nat.le_refl _) h1, cell_keep hb (Nat.le_refl _) h2, cell_keep hb (Nat.le_refl _) h3, cell_keep hb (Nat.le_refl _) h4, cell_keep hb (Nat.le_refl _) h5, cell_keep hb (Nat.le_refl _) h6, ⟨A, c, cell_keep hb (Nat.le_refl _) h7⟩, h8⟩
def PmsAt (w : World) (v : Value) (l : List PM) : Prop := RowAt w 8 PmAt v l
theorem PmsAt.keep {w w' : World} {v : Value} {l : List PM} (h : PmsAt w v l) (hb : Below w.heap.size w w') : PmsAt w' v l := RowAt.kept h (PmAt.keep hb)
theorem OwnWords.is_slice {B : Nat} {w : World} {v : Value} {l : List Int} (h : OwnWords B w v l) : ∃ A c, v = .slice A l.length c := own_form h
theorem OwnWords.own {B : Nat} {w : World} {v : Value} {l : List Int} (h : OwnWords B w v l) : ∀ k, v.ownBlock = some k → B ≤ k := fun k hk => (h.where_ hk).1
theorem below_row {B : Nat} {w w' : World} {v : Value} {l : List Int} (h : OwnWords B w v l) (hB : B ≤ w.heap.size) (hg : w.grownBy w' v.ownBlock) : Below B w w' := (Below.refl B w).grown hg hB (fun j e => h.own j e)
theorem own_ge {w : World} {B : Nat} {e : TypeId} {s g n m c : Nat} {xs : List Value} (h : w.ownsRow B e s (.slice (some ⟨g, 0, none⟩) m c) n xs) (hn : 0 < n) : B ≤ g := by
  rcases h.2 with ⟨h0, _⟩ | ⟨g', cap, cur, hv, hg, _⟩
  · cases h0
  · injection hv with e1 e2 e3; injection e1 with e1; injection e1 with e1 e2; rw [e1]; exact hg
/-- P11.2, by what the program does. -/
def stepA (p : List Int) (out : List Int) (m : Mov) : List Int := putL out m.1 (atV p m.2)
def afterN (l : List Mov) (p : List Int) : List Int := l.foldl (stepA p) p
theorem foldl_take {α β : Type} (f : β → α → β) (b : β) (l : List α) (k : Nat) (h : k < l.length) : (l.take (k + 1)).foldl f b = f ((l.take k).foldl f b) l[k] := by
  rw [List.take_succ_eq_append_getElem h, List.foldl_append]; rfl
/-- What holds while After goes: own's row, and what lay. -/
def AfS (B : Nat) (w : World) (l : List Mov) (p : List Int) (k : Nat) (v : Value) (wr : World) : Prop := OwnWords B wr v ((l.take k).foldl (stepA p) p) ∧ Below B w wr
theorem afterN_len (p : List Int) : ∀ (l : List Mov) (o : List Int), (l.foldl (stepA p) o).length = o.length
  | [], o => rfl
  | m :: l, o => by rw [List.foldl_cons, afterN_len p l]; unfold stepA; rw [putL_len]
set_option maxRecDepth 100000 in
set_option maxHeartbeats 1000000 in
theorem after_any (w : World) (v pv : Value) (l : List Mov) (p : List Int) (hv : MovesAt w v l) (hp : WordsAt w pv p) (hl : l.length ≤ 1000000) (hpl : p.length ≤ 1000000) :
    Calls Try.prog 20 #[v, pv] w (OwnPost (afterN l p) w) := by
  have HV := Lib.hid hv
  have HP := Lib.hid hp
  obtain ⟨A, c, b0, o0, rfl, h1, h2, -⟩ := hv
  obtain ⟨Ap, cp, rfl, h3, h4, -⟩ := hp
  unfold maxLen at h2 h4
  go_enter Try.func20, Try.ntmps20
  go_wp2_with fail
  refine (clone_any _ _ p HP.out hpl).mono ?_
  rintro e w1 ⟨v1, rfl, hv1, hb1⟩
  have HS := Lib.hid (show AfS w.heap.size w l p 0 v1 w1 from ⟨hv1, hb1⟩)
  clear hv1 hb1
  go_wp2_with fail
  go_loopw [8, 14] (fun _ i wr => ∃ k : Nat, k ≤ l.length ∧ i = .int .i64 k ∧ AfS w.heap.size w l p k v1 wr) (fun _ i _ => l.length - (intOf i).toNat)
  case atStart => exact ⟨0, Nat.zero_le _, rfl, HS.out⟩
  case round =>
    obtain ⟨k, hk, rfl, hS⟩ := hrel
    have HR := Lib.hid hS
    clear hS HS
    by_cases hlt : k < l.length
    · obtain ⟨A', c', gb, ob, e, -, -, hA, hc⟩ := HV.out
      injection e with e1 e2 e3
      subst e1 e3
      obtain rfl : A = some ⟨gb, ob, none⟩ := hA (by omega)
      obtain ⟨hc0, hc1⟩ := MvAt.keep (w := w) (w' := wr) HR.out.2 _ _ _ (hc k hlt)
      have HK := Lib.hid (foldl_take (stepA p) p l k hlt)
      clear hc hA
      have HM := Lib.hid (show l[k] = (l[k].1, l[k].2) from rfl)
      generalize l[k].1 = t at *
      generalize l[k].2 = f at *
      go_wp2_with fail
      obtain ⟨W1, hW1⟩ : ∃ W1, wr.alloc (.cells #[.int .i64 t, .int .i64 f] 43) = W1 := ⟨_, rfl⟩
      have hbW1 : Below wr.heap.size wr W1 := by rw [← hW1]; exact (Below.refl _ _).alloc (Nat.le_refl _) _
      have hsW1 : Str W1 wr.heap.size 43 [.int .i64 t, .int .i64 f] := by rw [← hW1]; exact World.alloc_heap_new wr _
      rw [hW1]
      clear hW1 hc0 hc1
      have m0 : W1.cell? ⟨wr.heap.size, 0, none⟩ = some (.int .i64 t) := hsW1.cell 0
      have m1 : W1.cell? ⟨wr.heap.size, 1, none⟩ = some (.int .i64 f) := hsW1.cell 1
      have HO := Lib.hid (OwnWords.below HR.out.1 hbW1)
      have HB := Lib.hid (HR.out.2.trans (hbW1.mono HR.out.2.size))
      clear hsW1 hbW1
      refine region_heldT_wp (fun w' => w'.cell? ⟨wr.heap.size, 0, none⟩ = some (.int .i64 t) ∧ w'.cell? ⟨wr.heap.size, 1, none⟩ = some (.int .i64 f)) [0, 1, 2, 3, 4, 5] [0, 1, 2, 3, 4, 5, 6, 7] 7 (by kernel_rfl) (by kernel_rfl) (by kernel_rfl) (by kernel_rfl) rfl (by intro c a d v w h; cases d <;> exact h) ⟨m0, m1⟩ ?_
      refine walkH_still _ ?v0 rfl rfl rfl ?vy0 ?_
      case vy0 => intro w hS; go_simp; first | done | with_reducible rfl
      simp only [Act.put]
      refine walkH_still _ ?v1 rfl rfl rfl ?vy1 ?_
      case vy1 => intro w hS; go_simp; first | done | with_reducible rfl
      simp only [Act.put]
      refine walkH_still _ ?v2 rfl rfl rfl ?vy2 ?_
      case vy2 => intro w hS; go_simp; first | done | with_reducible rfl
      simp only [Act.put]
      refine walkH_still _ ?v3 rfl rfl rfl ?vy3 ?_
      case vy3 => intro w hS; go_simp; first | done | with_reducible rfl
      simp only [Act.put]
      refine walkH_still _ ?v4 rfl rfl rfl ?vy4 ?_
      case vy4 => intro w hS; go_simp; first | done | with_reducible rfl
      simp only [Act.put]
      refine walkH_still _ ?v5 rfl rfl rfl ?vy5 ?_
      case vy5 => intro w hS; go_simp; first | done | with_reducible rfl
      simp only [Act.put]
      try simp only [List.setIfInBounds_toArray, List.set_cons_zero, List.set_cons_succ]
      refine walkHd _ rfl rfl ?_
      go_wp2_with fail
      refine (rat_any _ _ p f (HP.out.below HB.out.drew)).mono ?_
      rintro e w' ⟨rfl, rfl⟩
      go_wp2_with fail
      refine behindH (Or.inl ⟨m0, m1⟩) ?_
      try simp only [List.setIfInBounds_toArray, List.set_cons_zero, List.set_cons_succ]
      refine walkHd _ rfl rfl ?_
      go_wp2_with fail
      refine (rput_any W1.drew w.heap.size v1 _ t (atV p f) (show OwnWords w.heap.size W1.drew v1 _ from HO.out)).mono ?_
      rintro e w' ⟨rfl, ho, hg⟩
      have HS' := Lib.hid (show AfS w.heap.size w l p (k + 1) v1 w' from ⟨by rw [HK.out, HM.out]; exact ho, HB.out.drew.trans (below_row (w := W1.drew) HO.out (by have := HB.out.size; exact this) hg)⟩)
      clear ho hg
      go_wp2_with fail
      refine behindH (Or.inr rfl) (walkH_nil ?_)
      go_wp2
      go_roundw
      case rel => exact ⟨k + 1, by omega, by go_num, HS'.out⟩
      case measure => simp [intOf]; omega
    · obtain rfl : k = l.length := by omega
      go_wp2
      go_ret
      have := HR.out.1
      rw [List.take_length] at this
      exact ⟨_, rfl, by have e := afterN_len p l p; unfold afterN; exact this, HR.out.2⟩
set_option maxRecDepth 100000 in
set_option maxHeartbeats 1000000 in
theorem fafter_any (w : World) (v pv : Value) (l : List Mov) (p : List Int) (hv : MovesAt w v l) (hp : WordsAt w pv p) (hl : l.length ≤ 1000000) (hpl : p.length ≤ 1000000) :
    Calls Try.prog 21 #[v, pv] w (OwnPost (afterN l p) w) := by
  have HV := Lib.hid hv
  have HP := Lib.hid hp
  obtain ⟨A, c, b0, o0, rfl, h1, h2, -⟩ := hv
  obtain ⟨Ap, cp, rfl, h3, h4, -⟩ := hp
  unfold maxLen at h2 h4
  go_enter Try.func21, Try.ntmps21
  go_wp2_with (at_builtin; refine wpList_own0 rfl _ _ rfl rfl w.heap.size _ p rfl (own_empty w) (WordsAt.below HP.out ((Below.refl _ _).alloc (Nat.le_refl _) _)) hpl (by simp) ?_; intro v1 w1 hv1 hg1)
  have hb1 : Below w.heap.size w w1 := ((Below.refl _ w).alloc (Nat.le_refl _) _).grown hg1 (by simp) (fun j e => by cases e; exact Nat.le_refl _)
  have HS := Lib.hid (show AfS w.heap.size w l p 0 v1 w1 from ⟨hv1, hb1⟩)
  obtain ⟨A1, c1, rfl⟩ := hv1.is_slice
  clear hv1 hb1 hg1
  go_wp2_with fail
  go_loopw [6] (fun i wr => ∃ k : Nat, k ≤ l.length ∧ i = .int .i64 k ∧ AfS w.heap.size w l p k (.slice A1 p.length c1) wr) (fun i _ => l.length - (intOf i).toNat)
  case atStart => exact ⟨0, Nat.zero_le _, rfl, HS.out⟩
  case round =>
    obtain ⟨k, hk, rfl, hS⟩ := hrel
    have HR := Lib.hid hS
    clear hS HS
    by_cases hlt : k < l.length
    · obtain ⟨A', c', gb, ob, e, -, -, hA, hc⟩ := HV.out
      injection e with e1 e2 e3
      subst e1 e3
      obtain rfl : A = some ⟨gb, ob, none⟩ := hA (by omega)
      obtain ⟨hc0, hc1⟩ := MvAt.keep (w := w) (w' := wr) HR.out.2 _ _ _ (hc k hlt)
      have HK := Lib.hid (foldl_take (stepA p) p l k hlt)
      clear hc hA
      have HM := Lib.hid (show l[k] = (l[k].1, l[k].2) from rfl)
      generalize l[k].1 = t at *
      generalize l[k].2 = f at *
      have HRW : Hid (wr.ownsRow w.heap.size 21 1 (.slice A1 p.length c1) p.length (((l.take k).foldl (stepA p) p).map (Value.int .i32))) := Lib.hid (by
        have h := HR.out.1
        unfold OwnWords at h
        rw [afterN_len] at h
        exact h)
      have HML := Lib.hid (afterN_len p (l.take k) p)
      have HB := Lib.hid HR.out.2
      clear HR
      generalize (l.take k).foldl (stepA p) p = o at *
      by_cases hh : 0 ≤ t ∧ t < p.length
      · obtain ⟨h0, h5⟩ := hh
        obtain ⟨x, rfl⟩ : ∃ x : Nat, t = x := ⟨t.toNat, by omega⟩
        have hx : x < p.length := by omega
        obtain ⟨gv, rfl⟩ := own_at HRW.out (by omega)
        have hcx : wr.cell? ⟨gv, x, none⟩ = some (.int .i32 (o[x]'(by rw [HML.out]; exact hx))) := by
          rw [World.ownsRow.cellAt HRW.out x (by omega), List.getElem?_map, List.getElem?_eq_getElem (by rw [HML.out]; omega)]; rfl
        have hfx : wr.frozen? ⟨gv, x, none⟩ = false := World.ownsRow.frozenAt HRW.out x
        generalize (o[x]'(by rw [HML.out]; exact hx)) = z at *
        go_wp2_with fail
        refine region_heldT_wp (fun w' => w'.cell? ⟨gb, ob + k * 2, none⟩ = some (.int .i64 (x : Int)) ∧ w'.cell? ⟨gb, ob + k * 2 + 1, none⟩ = some (.int .i64 f)) [0, 1, 2, 3, 4, 5, 6, 7, 8, 9, 10, 11, 13] [0, 1, 2, 3, 4, 5, 6, 7, 8, 9, 10, 11, 12, 13, 14] 14 (by kernel_rfl) (by kernel_rfl) (by kernel_rfl) (by kernel_rfl) rfl (by intro c a d v w h; cases d <;> exact h) ⟨hc0, hc1⟩ ?_
        refine walkH_still _ ?v0 rfl rfl rfl ?vy0 ?_
        case vy0 => intro w hS; go_simp; first | done | with_reducible rfl
        simp only [Act.put]
        refine walkH_still _ ?v1 rfl rfl rfl ?vy1 ?_
        case vy1 => intro w hS; go_simp; first | done | with_reducible rfl
        simp only [Act.put]
        refine walkH_still _ ?v2 rfl rfl rfl ?vy2 ?_
        case vy2 => intro w hS; go_simp; first | done | with_reducible rfl
        simp only [Act.put]
        refine walkH_still _ ?v3 rfl rfl rfl ?vy3 ?_
        case vy3 => intro w hS; go_simp; first | done | with_reducible rfl
        simp only [Act.put]
        refine walkH_still _ ?v4 rfl rfl rfl ?vy4 ?_
        case vy4 => intro w hS; go_simp; first | done | with_reducible rfl
        simp only [Act.put]
        refine walkH_still _ ?v5 rfl rfl rfl ?vy5 ?_
        case vy5 => intro w hS; go_simp; first | done | with_reducible rfl
        simp only [Act.put]
        refine walkH_still _ ?v6 rfl rfl rfl ?vy6 ?_
        case vy6 => intro w hS; go_simp; first | done | with_reducible rfl
        simp only [Act.put]
        refine walkH_still _ ?v7 rfl rfl rfl ?vy7 ?_
        case vy7 => intro w hS; go_simp; first | done | with_reducible rfl
        simp only [Act.put]
        refine walkH_still _ ?v8 rfl rfl rfl ?vy8 ?_
        case vy8 => intro w hS; go_simp; first | done | with_reducible rfl
        simp only [Act.put]
        refine walkH_still _ ?v9 rfl rfl rfl ?vy9 ?_
        case vy9 => intro w hS; go_simp; first | done | with_reducible rfl
        simp only [Act.put]
        refine walkH_still _ ?v10 rfl rfl rfl ?vy10 ?_
        case vy10 => intro w hS; go_simp; first | done | with_reducible rfl
        simp only [Act.put]
        refine walkH_still _ ?v11 rfl rfl rfl ?vy11 ?_
        case vy11 => intro w hS; go_simp; first | done | with_reducible rfl
        simp only [Act.put]
        try simp only [List.setIfInBounds_toArray, List.set_cons_zero, List.set_cons_succ]
        refine walkHd _ rfl rfl ?_
        go_wp2_with fail
        refine (fat_any _ _ p f (HP.out.below HB.out.drew)).mono ?_
        rintro e w' ⟨rfl, rfl⟩
        go_wp2_with fail
        refine behindH (Or.inl ⟨hc0, hc1⟩) ?_
        refine walkH_still _ ?v13 rfl rfl rfl ?vy13 ?_
        case vy13 => intro w hS; go_simp; first | done | with_reducible rfl
        simp only [Act.put]
        try simp only [List.setIfInBounds_toArray, List.set_cons_zero, List.set_cons_succ]
        refine walkHd _ rfl rfl ?_
        have HS' := Lib.hid (show AfS w.heap.size w l p (k + 1) (.slice (some ⟨gv, 0, none⟩) p.length c1) (wr.drew.setCell ⟨gv, x, none⟩ (.int .i32 (atV p f))) by
          have hst := World.ownsRow.stored (w := wr.drew) HRW.out x (.int .i32 (atV p f))
          refine ⟨?_, HB.out.drew.grown hst.2 (by have := HB.out.size; exact this) (fun j e => by cases e; exact own_ge HRW.out (by omega))⟩
          rw [HK.out, HM.out]
          unfold OwnWords stepA putL
          rw [HML.out, if_pos (hasB_yes (by omega) (by omega)), Int.toNat_natCast, List.length_set, HML.out, List.map_set]
          exact hst.1)
        go_wp2_with fail
        refine behindH (Or.inr rfl) (walkH_nil ?_)
        go_wp2
        go_roundw
        case rel => exact ⟨k + 1, by omega, by go_num, HS'.out⟩
        case measure => simp [intOf]; omega
      · have HS' := Lib.hid (show AfS w.heap.size w l p (k + 1) (.slice A1 p.length c1) wr by
          refine ⟨?_, HB.out⟩
          rw [HK.out, HM.out]
          unfold OwnWords stepA putL
          rw [HML.out, if_neg (by rw [has_iff]; exact hh), HML.out]
          exact HRW.out)
        by_cases h0 : 0 ≤ t
        · have h5 : (p.length : Int) ≤ t := by omega
          clear hh
          go_wp2
          go_roundw
          case rel => exact ⟨k + 1, by omega, by go_num, HS'.out⟩
          case measure => simp [intOf]; omega
        · have h5 : t < 0 := by omega
          clear hh h0
          go_wp2
          go_roundw
          case rel => exact ⟨k + 1, by omega, by go_num, HS'.out⟩
          case measure => simp [intOf]; omega
    · obtain rfl : k = l.length := by omega
      have HR2 := HR
      go_wp2
      go_ret
      have := HR2.out.1
      rw [List.take_length] at this
      exact ⟨_, rfl, by unfold afterN; exact this, HR2.out.2⟩
end Go.Proofs.Ytdohaoomckhbgaa.Vm
