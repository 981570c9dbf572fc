/- Moves that are pending: pendingOf. -/
import Derived.Test.YtdohaoomckhbgaaVL
namespace Go.Proofs.Ytdohaoomckhbgaa.Vm
open Go.ChangeShapes Go.WideShapes Go.ChangeAt Go.RowKit Go.Maps Go.WideElems Go.ChangeMaps Go.Sort Go.Shelf Go.Proofs.Ytdohaoomckhbgaa.Mem Go.Proofs.Ytdohaoomckhbgaa.Br Go.Proofs.Ytdohaoomckhbgaa.Va Go.Proofs.Ytdohaoomckhbgaa.Vr
set_option linter.unusedVariables false
set_option linter.unusedSimpArgs false
def selfB : Lit → DataW Unit → Bool
  | .int _ a, .lit (.int _ c) => a == c
  | _, _ => false
theorem self_call (w : World) (a c : Int) : Calls Try.prog 66 #[.int .i64 a, .int .i64 c] w fun e w' => e = .returned (.bool (a == c)) ∧ w' = w := by
  go_enter Try.func66, Try.ntmps66
  go_wp2
  go_ret
  exact ⟨rfl, rfl⟩
def noSelf (L : List Mov) : List Mov := L.filter fun m => !(m.1 == m.2)
theorem strike_any (w : World) (b n : Nat) (L : List Mov) (h : FromAt w b n L) :
    Calls Try.prog 65 #[.map (some b), .func (.func 66) #[] #[]] w fun e w' => e = .returned (.tuple #[]) ∧ FromAt w' b n (noSelf L) ∧ w.grownBy w' (some b) := by
  obtain ⟨es, h1, h2, h3, h4⟩ := h
  refine (AnyDf.maps_DeleteFunc Try.delA keyedN _ selfB 66 #[] b n (.map es) w (enters_of Try.func66 (by kernel_rfl) rfl) h1 (fun W key val kl yd yp hg hk hv => ?_)).mono ?_
  · obtain ⟨a, rfl, rfl, _⟩ := keyOf_int_inv Try.underlying3 hk
    obtain ⟨c, rfl, e, _⟩ := plainElem_int_inv Try.underlying3 hv
    injection e with e1 e2
    subst e1
    refine (self_call W a c).mono ?_
    rintro e w' ⟨rfl, rfl⟩
    exact ⟨rfl, ⟨rfl, rfl, rfl, Nat.le_refl _, fun _ _ _ => rfl⟩⟩
  · rintro e w' ⟨rfl, ho, hg⟩
    exact ⟨rfl, ⟨_, ho, filter_enc h2 (q' := fun m => !(m.1 == m.2)) (fun m _ => rfl), h3.filter _, fun m hm => h4 m (List.mem_filter.1 hm).1⟩, hg⟩
theorem cnt_cons (a : Mov) (L : List Mov) (y : Int) : cnt (a :: L) y = (if a.2 = y then 1 else 0) + cnt L y := by
  unfold cnt
  by_cases h : a.2 = y
  · rw [List.filter_cons_of_pos (by simp [h]), if_pos h]; simp only [List.length_cons]; omega
  · rw [List.filter_cons_of_neg (by simp [h]), if_neg h]; omega
/-- What has been counted, by what is still to come. -/
def gone (L : List Mov) (left : Lit → Bool) : List Mov := L.filter fun m => !left (keyN m.1)
theorem gone_next {L : List Mov} (hu : Uni L) {left : Lit → Bool} {x c : Int} (hm : (x, c) ∈ L) (hl : left (keyN x) = true) : cnt (gone L (fun z => left z && !z.sameKey (keyN x))) = addT (cnt (gone L left)) c (cnt (gone L left) c + 1) := by
  have hs : ∀ m : Mov, (keyN m.1).sameKey (keyN x) = (m.1 == x) := fun m => sameKey_enc m x
  have hs0 : (keyN x).sameKey (keyN x) = true := by have := hs (x, c); simpa using this
  funext y
  unfold addT
  induction L with
  | nil => cases hm
  | cons a L ih =>
    obtain ⟨h1, h2⟩ := List.pairwise_cons.1 hu
    rcases List.mem_cons.1 hm with e | hm'
    · subst e
      have e1 : gone ((x, c) :: L) left = gone L left := by unfold gone; rw [List.filter_cons_of_neg (by simp [hl])]
      have e2 : gone ((x, c) :: L) (fun z => left z && !z.sameKey (keyN x)) = (x, c) :: gone L left := by
        unfold gone
        rw [List.filter_cons_of_pos (by simp [hs0])]
        congr 1
        refine List.filter_congr fun m hm => ?_
        have : (m.1 == x) = false := beq_eq_false_iff_ne.2 (fun e => h1 m hm e.symm)
        simp [hs, this]
      rw [e1, e2, cnt_cons]
      by_cases hy : y = c
      · subst hy; rw [if_pos rfl, if_pos rfl]; omega
      · rw [if_neg (fun e => hy e.symm), if_neg hy]; omega
    · have hax : (a.1 == x) = false := beq_eq_false_iff_ne.2 (h1 _ hm')
      have := ih h2 hm'
      cases hla : left (keyN a.1) with
      | true =>
        have e1 : gone (a :: L) left = gone L left := by unfold gone; rw [List.filter_cons_of_neg (by simp [hla])]
        have e2 : gone (a :: L) (fun z => left z && !z.sameKey (keyN x)) = gone L (fun z => left z && !z.sameKey (keyN x)) := by unfold gone; rw [List.filter_cons_of_neg (by simp [hla, hs, hax])]
        rw [e1, e2]; exact this
      | false =>
        have e1 : gone (a :: L) left = a :: gone L left := by unfold gone; rw [List.filter_cons_of_pos (by simp [hla])]
        have e2 : gone (a :: L) (fun z => left z && !z.sameKey (keyN x)) = a :: gone L (fun z => left z && !z.sameKey (keyN x)) := by unfold gone; rw [List.filter_cons_of_pos (by simp [hla])]
        rw [e1, e2, cnt_cons, cnt_cons, cnt_cons, this]
        by_cases hy : y = c
        · subst hy; rw [if_pos rfl, if_pos rfl]; omega
        · rw [if_neg hy, if_neg hy]
theorem gone_all {L : List Mov} {left : Lit → Bool} (h : ∀ k, left k = false) : gone L left = L := List.filter_eq_self.2 fun m _ => by simp [h]
theorem gone_none {L : List Mov} {left : Lit → Bool} (h : ∀ m ∈ L, left (keyN m.1) = true) : gone L left = [] := List.filter_eq_nil_iff.2 fun m hm => by simp [h m hm]
def KeepS (g bf bt bp : Nat) (w : World) (l : List Mov) (k : Nat) (wr : World) : Prop := FromAt wr bf k ((l.take k).foldl putM []) ∧ TakAt wr bt 0 (fun _ => 0) ∧ Str wr bp 74 [.map (some bf), .map (some bt)] ∧
  Str wr g 74 [.map none, .map none] ∧ Below g w wr ∧ bp < wr.heap.size
def CountS (g bf bt bp r n : Nat) (w : World) (L : List Mov) (wr : World) : Prop := ∃ (es : List (Lit × DataW Unit)) (left : Lit → Bool) (q : Nat), wr.ranges Try.prog 3 (plainElem (H := Unit) Try.prog 3) bf r n (.map es) left q ∧ es.Perm (L.map encM) ∧ TakAt wr bt (n - q) (cnt (gone L left)) ∧ q ≤ n ∧
  Str wr bp 74 [.map (some bf), .map (some bt)] ∧ Str wr g 74 [.map none, .map none] ∧ Below g w wr
def PendRes (l : List Mov) (w : World) (e : Ending) (w' : World) : Prop := ∃ bf bt, e = .returned (pendV bf bt) ∧ PendAt w' bf bt l.length (2 * l.length) (pendN l) ∧ w.heap.size ≤ bf ∧ w.heap.size ≤ bt ∧ Below w.heap.size w w'
set_option maxRecDepth 100000 in
set_option maxHeartbeats 2000000 in
theorem pending_any (w : World) (v : Value) (l : List Mov) (hv : MovesAt w v l) (hl : l.length ≤ 1000000) (hr : Rng l) :
    Calls Try.prog 42 #[v] w (PendRes l w) := by
  have HV := Lib.hid hv
  have HR := Lib.hid hr
  obtain ⟨A, c, b0, o0, rfl, h1, h2, -⟩ := hv
  unfold maxLen at h2
  clear hr
  have hmm := @run_makeMap Try.prog
  go_enter Try.func42, Try.ntmps42
  go_wp2_with fail
  obtain ⟨bp, hbp⟩ : ∃ x, w.heap.size + 1 + 1 + 1 = x := ⟨_, rfl⟩
  obtain ⟨bt, hbt⟩ : ∃ x, w.heap.size + 1 + 1 = x := ⟨_, rfl⟩
  obtain ⟨bf, hbf⟩ : ∃ x, w.heap.size + 1 = x := ⟨_, rfl⟩
  obtain ⟨W2, hW2⟩ : ∃ W2, w.alloc (.cells #[.map none, .map none] 74) = W2 := ⟨_, rfl⟩
  have b1 : Below w.heap.size w W2 := by rw [← hW2]; exact (Below.refl _ _).alloc (Nat.le_refl _) _
  have s1 : Str W2 w.heap.size 74 [.map none, .map none] := by rw [← hW2]; exact World.alloc_heap_new w _
  have z2 : W2.heap.size = bf := by rw [← hW2, ← hbf]; simp
  obtain ⟨W3, hW3⟩ : ∃ W3, W2.alloc (.map #[] 0) = W3 := ⟨_, rfl⟩
  have b2 : Below W2.heap.size W2 W3 := by rw [← hW3]; exact (Below.refl _ _).alloc (Nat.le_refl _) _
  have f3 : FromAt W3 bf 0 [] := by rw [← hW3, ← z2]; exact FromAt.made W2
  have z3 : W3.heap.size = bt := by rw [← hW3, ← hbt]; simp; omega
  obtain ⟨W4, hW4⟩ : ∃ W4, W3.alloc (.map #[] 0) = W4 := ⟨_, rfl⟩
  have b3 : Below W3.heap.size W3 W4 := by rw [← hW4]; exact (Below.refl _ _).alloc (Nat.le_refl _) _
  have t4 : TakAt W4 bt 0 (fun _ => 0) := by rw [← hW4, ← z3]; exact TakAt.made W3
  have z4 : W4.heap.size = bp := by rw [← hW4, ← hbp]; simp; omega
  obtain ⟨W5, hW5⟩ : ∃ W5, W4.alloc (.cells #[.map (some bf), .map (some bt)] 74) = W5 := ⟨_, rfl⟩
  have b4 : Below W4.heap.size W4 W5 := by rw [← hW5]; exact (Below.refl _ _).alloc (Nat.le_refl _) _
  have s5 : Str W5 bp 74 [.map (some bf), .map (some bt)] := by rw [← hW5, ← z4]; exact World.alloc_heap_new W4 _
  have HS : Hid (KeepS w.heap.size bf bt bp w l 0 W5) := Lib.hid ⟨((f3.below b3).below b4), t4.below b4, s5, ((s1.below b2).below b3).below b4, b1.trans ((b2.mono (by omega)).trans ((b3.mono (by omega)).trans (b4.mono (by omega)))), s5.lt⟩
  have hlt1 : w.heap.size < bf := by omega
  have hlt2 : bf < bt := by omega
  have hlt3 : bt < bp := by omega
  rw [hbp, hbt, hbf, hW2, hW3, hW4, hW5]
  clear hW2 hW3 hW4 hW5 z2 z3 z4 b1 b2 b3 b4 s1 s5 f3 t4 hbp hbt hbf
  clear W2 W3 W4
  go_loopw [5, 13] (fun _ i wr => ∃ k : Nat, k ≤ l.length ∧ i = .int .i64 k ∧ KeepS w.heap.size bf bt bp w l k wr) (fun _ i _ => l.length - (intOf i).toNat)
  case atStart => exact ⟨0, Nat.zero_le _, rfl, HS.out⟩
  case round =>
    obtain ⟨k, hk, rfl, hS⟩ := hrel
    have HQ := Lib.hid hS
    clear hS HS
    by_cases hlt : k < l.length
    · obtain ⟨A', c', gb, ob, e, -, -, hA, hc⟩ := HV.out
      injection e with e1 e2 e3
      subst e1 e3
      obtain rfl : A = some ⟨gb, ob, none⟩ := hA (by omega)
      obtain ⟨hc0, hc1⟩ := MvAt.keep (w := w) (w' := wr) HQ.out.2.2.2.2.1 _ _ _ (hc k hlt)
      have HK := Lib.hid (foldl_take putM [] l k hlt)
      have HI := Lib.hid (HR.out _ (List.getElem_mem hlt))
      clear hc hA
      have HM := Lib.hid (show l[k] = (l[k].1, l[k].2) from rfl)
      obtain ⟨W1, hW1⟩ : ∃ W1, wr.alloc (.cells #[.int .i64 l[k].1, .int .i64 l[k].2] 43) = W1 := ⟨_, rfl⟩
      have hbW1 : Below wr.heap.size wr W1 := by rw [← hW1]; exact (Below.refl _ _).alloc (Nat.le_refl _) _
      have hsW1 : Str W1 wr.heap.size 43 [.int .i64 l[k].1, .int .i64 l[k].2] := by rw [← hW1]; exact World.alloc_heap_new wr _
      have hbx := HQ.out.2.2.1.below hbW1
      have m0 : W1.cell? ⟨bp, 0, none⟩ = some (.map (some bf)) := hbx.cell 0
      have n0 : W1.cell? ⟨wr.heap.size, 0, none⟩ = some (.int .i64 l[k].1) := hsW1.cell 0
      have n1 : W1.cell? ⟨wr.heap.size, 1, none⟩ = some (.int .i64 l[k].2) := hsW1.cell 1
      obtain ⟨w2, r2, hf2, hg2⟩ := (HQ.out.1.below hbW1).put (by omega) (m := l[k]) HI.out.1 HI.out.2
      have HS' : Hid (KeepS w.heap.size bf bt bp w l (k + 1) w2) := Lib.hid ⟨by rw [HK.out]; exact hf2, (HQ.out.2.1.below hbW1).kept hg2 (fun e => by cases e; omega), hbx.kept hg2 (fun e => by cases e; omega), (HQ.out.2.2.2.1.below hbW1).kept hg2 (fun e => by cases e; omega),
        (HQ.out.2.2.2.2.1.trans (hbW1.mono HQ.out.2.2.2.2.1.size)).grown hg2 (by have := HQ.out.2.2.2.2.1.size; have := hbW1.size; omega) (fun j e => by cases e; omega), by have := HQ.out.2.2.2.2.2; have := hbW1.size; have := hg2.size; omega⟩
      clear hf2 hg2 hbx hsW1 hbW1
      generalize l[k].1 = t at *
      generalize l[k].2 = f at *
      go_wp2
      go_roundw
      case rel => exact ⟨k + 1, by omega, by go_num, HS'.out⟩
      case measure => simp [intOf]; omega
    · obtain rfl : k = l.length := by omega
      have hf := HQ.out.1
      rw [List.take_length] at hf
      have HF : Hid (FromAt wr bf l.length (keptN l)) := Lib.hid hf
      have m0 : wr.cell? ⟨bp, 0, none⟩ = some (.map (some bf)) := HQ.out.2.2.1.cell 0
      clear hf
      go_wp2_with fail
      refine (strike_any wr bf l.length (keptN l) HF.out).mono ?_
      rintro e w2 ⟨rfl, hf2, hg2⟩
      have HF2 : Hid (FromAt w2 bf l.length (pendN l)) := Lib.hid hf2
      have HT2 := Lib.hid (HQ.out.2.1.kept hg2 (fun e => by cases e; omega))
      have HB2 := Lib.hid (HQ.out.2.2.1.kept hg2 (fun e => by cases e; omega))
      have HG2 := Lib.hid (HQ.out.2.2.2.1.kept hg2 (fun e => by cases e; omega))
      have HL2 := Lib.hid (HQ.out.2.2.2.2.1.grown hg2 (by have := HQ.out.2.2.2.2.1.size; omega) (fun j e => by cases e; omega))
      have n0 : w2.cell? ⟨bp, 0, none⟩ = some (.map (some bf)) := HB2.out.cell 0
      clear hf2 hg2 m0
      obtain ⟨es, hown, hpe, hu, hrg⟩ := HF2.out
      have HPE := Lib.hid hpe
      clear hpe hu hrg
      go_wp2_with (first
        | (at_range; refine wpList_range_own _ rfl _ 72 rfl 3 3 keyedN Try.underlying72 _ bf l.length (.map es) rfl hown ?_; intro w3 hrg0 hg0 hs0)
        | go_in)
      have hrl := hrg0.lt
      have hz0 : Maps.size (DataW.map es) ≤ l.length := hown.size_le
      have hC : Hid (CountS w.heap.size bf bt bp w2.heap.size l.length w (pendN l) w3) := Lib.hid ⟨es, _, _, hrg0, HPE.out, by
        have h := (HT2.out.kept hg0 (by simp)).more (c' := l.length - Maps.size (DataW.map es)) (by omega)
        rw [gone_none (fun m hm => by rw [has_enc HPE.out]; exact isTo_iff.2 ⟨m, hm, rfl⟩)]
        exact h, hz0, HB2.out.kept hg0 (by simp), HG2.out.kept hg0 (by simp), HL2.out.grown hg0 (by have := HL2.out.size; omega) (fun j e => by cases e)⟩
      have hzw : bp < w2.heap.size := HB2.out.lt
      clear hrg0 hg0 hs0 hown HT2 HB2 HG2 HL2 n0 HF2 HF hz0 hrl
      go_frame
      go_loopw [7] (fun _ wr => CountS w.heap.size bf bt bp w2.heap.size l.length w (pendN l) wr) (fun _ wr => wr.rangeLeft bf w2.heap.size)
      case atStart => exact hC.out
      case round =>
        obtain ⟨es, left, q, hrg, hpe, htk, hq, hbx, hgx, hbl⟩ := hrel
        have HPE := Lib.hid hpe
        have HTK := Lib.hid htk
        have HBX := Lib.hid hbx
        have HGX := Lib.hid hgx
        have HBL := Lib.hid hbl
        have HRG := Lib.hid hrg
        have m1 : wr.cell? ⟨bp, 1, none⟩ = some (.map (some bt)) := hbx.cell 1
        clear hpe htk hbx hgx hbl
        go_wp2_with (at_next; refine wpList_next_ranges_ii _ rfl _ rfl 3 3 .i64 .i64 keyedN Try.underlying3 Try.underlying3 bf w2.heap.size l.length (.map es) left q rfl hrg ?_ ?_)
        · intro hc0 hl0
          have HPN := Lib.hid (show PendAt wr bf bt l.length (2 * l.length) (pendN l) by
            have hpl := pendN_len l
            refine ⟨⟨es, hrg.owns, HPE.out, pendN_uni l, fun m hm => HR.out m (mem_pendN hm).1⟩, ?_, by omega, by omega, fun e => by omega⟩
            have h := HTK.out
            rw [gone_all hl0] at h
            exact h.more (by omega))
          have p0 : wr.cell? ⟨bp, 0, none⟩ = some (.map (some bf)) := HBX.out.cell 0
          have p1 : wr.cell? ⟨bp, 1, none⟩ = some (.map (some bt)) := m1
          have g0 : wr.cell? ⟨w.heap.size, 0, none⟩ = some (.map none) := HGX.out.cell 0
          have g1 : wr.cell? ⟨w.heap.size, 1, none⟩ = some (.map none) := HGX.out.cell 1
          have f0 := HGX.out.frozen 0
          have f1 := HGX.out.frozen 1
          clear hrg hc0 hl0
          go_wp2
          refine ⟨rfl, pendV bf bt, ?_, bf, bt, rfl, ?_, by omega, by omega, ?_⟩
          · simp only [results]; go_simp
          · exact HPN.out.same ((Below.heap_setCell _ _ _ _ (by simp; omega)).trans (Below.heap_setCell _ _ _ _ (by simp; omega))) ((Below.heap_setCell _ _ _ _ (by simp; omega)).trans (Below.heap_setCell _ _ _ _ (by simp; omega)))
          · exact (HBL.out.setCell (p := ⟨w.heap.size, 0, none⟩) (Nat.le_refl _) _).setCell (p := ⟨w.heap.size, 1, none⟩) (Nat.le_refl _) _
        · intro x cc w4 q4 hwx hwc hlx hat hrg4 hq4 hg4 hs4 hen
          have hmem : (x, cc) ∈ pendN l := by
            have h1 := has_true_of_atKey hat
            have h2 : isTo (pendN l) x = true := by rw [← has_enc HPE.out]; exact h1
            have h3 := (at_enc HPE.out (pendN_uni l) x).symm.trans (hat _)
            injection h3 with h3
            injection h3 with h3 h4
            rw [← h4]; exact mem_src (pendN_uni l) h2
          have hri := HR.out _ (mem_pendN hmem).1
          have hne1 : bt ≠ w2.heap.size := by omega
          have hk4 := HTK.out.kept hg4 (fun e => hne1 (by cases e; rfl))
          have hx4 := HBX.out.kept hg4 (fun e => by cases e; omega)
          have hgn := cnt_nonneg (gone (pendN l) left) cc
          have hgl : cnt (gone (pendN l) left) cc ≤ 1000000 := by
            have := cnt_le (gone (pendN l) left) cc
            have h2 : (gone (pendN l) left).length ≤ (pendN l).length := List.length_filter_le _ _
            have := pendN_len l
            omega
          have k1 := hk4.get hri.2
          obtain ⟨w5, r5, hT5, hg5⟩ := hk4.put (by omega) hri.2 (v := cnt (gone (pendN l) left) cc + 1) (by unfold InI; omega)
          have p1 : w4.cell? ⟨bp, 1, none⟩ = some (.map (some bt)) := hx4.cell 1
          have hrg5 := hrg4.kept hg5 (fun e => by cases e; omega) (fun e => hne1 (by cases e; rfl))
          have HC5 : Hid (CountS w.heap.size bf bt bp w2.heap.size l.length w (pendN l) w5) := Lib.hid ⟨es, _, q4, hrg5, HPE.out, by
            rw [show (Lit.int IntKind.i64 x) = keyN x from rfl, gone_next (pendN_uni l) hmem hlx]
            exact hT5.more (by omega), by omega, hx4.kept hg5 (fun e => by cases e; omega), (HGX.out.kept hg4 (fun e => by injection e with e; omega)).kept hg5 (fun e => by cases e; omega),
            (HBL.out.grown hg4 (by have := HBL.out.size; omega) (fun j e => by cases e; omega)).grown hg5 (by have := HBL.out.size; have := hg4.size; omega) (fun j e => by cases e; omega)⟩
          have HLE := Lib.hid hrg.left_eq
          have HLE5 := Lib.hid hrg5.left_eq
          clear hwx hwc hlx hat hrg4 hg4 hs4 hmem hk4 hx4 hT5 hg5 hrg5 hrg hne1
          generalize cnt (gone (pendN l) left) cc = nn at *
          go_wp2
          go_roundw
          case rel => exact HC5.out
          case measure => rw [HLE.out, HLE5.out]; exact hq4
end Go.Proofs.Ytdohaoomckhbgaa.Vm
