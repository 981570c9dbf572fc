/- What package moves' Order tells. -/
import Derived.Test.YtdohaoomckhbgaaVB
import Derived.Test.YtdohaoomckhbgaaVS
namespace Go.Proofs.Ytdohaoomckhbgaa.Vm
open Go.ChangeShapes Go.WideShapes Go.ChangeAt Go.RowKit Go.Maps Go.WideElems Go.ChangeMaps Go.Sort Go.Shelf Go.Proofs.Ytdohaoomckhbgaa.Mem Go.Proofs.Ytdohaoomckhbgaa.Br Go.Proofs.Ytdohaoomckhbgaa.Va Go.Proofs.Ytdohaoomckhbgaa.Vr
set_option linter.unusedVariables false
set_option linter.unusedSimpArgs false
def orderN (l : List Mov) (sc sp : Int) : List PM × Int :=
  if faultN l sc sp = 0 then (match carryN sc sp (greedyN l.length (pendN l)).1 (greedyN l.length (pendN l)).2 with
    | some xs => (xs, 0)
    | none => ([], 43)) else ([], faultN l sc sp)
theorem faultN_zero {l : List Mov} {sc sp : Int} (h : faultN l sc sp = 0) : Pls l ∧ sc < 16 ∧ sp < 16383 := by
  unfold faultN at h
  cases hb : l.any badPl with
  | true => rw [if_pos hb] at h; cases h
  | false =>
    rw [if_neg (by rw [hb]; simp)] at h
    cases ht : twiceN l with
    | true => rw [if_pos ht] at h; cases h
    | false =>
      rw [if_neg (by rw [ht]; simp)] at h
      refine ⟨fun m hm => ?_, ?_, ?_⟩
      · have h1 := (List.any_eq_false.1 hb) m hm
        unfold badPl plB at h1
        unfold InPl
        simp at h1
        omega
      · rcases Int.lt_or_le sc 16 with h2 | h2
        · exact h2
        · rw [decide_eq_true h2, Bool.true_or, if_pos rfl] at h; cases h
      · rcases Int.lt_or_le sp 16383 with h2 | h2
        · exact h2
        · split at h
          · cases h
          · rw [decide_eq_true h2, Bool.true_or, if_pos rfl] at h; cases h
def OrdRes (B : Nat) (xs : List PM) (er : Int) (w : World) (e : Ending) (w' : World) : Prop := ∃ v, e = .returned (.tuple #[v, .int .i64 er]) ∧ OwnMach B w' v xs ∧ Below B w w'
set_option maxRecDepth 100000 in
set_option maxHeartbeats 4000000 in
theorem order_any (w : World) (v : Value) (l : List Mov) (sc sp : Int) (hv : MovesAt w v l) (hl : l.length ≤ 200) (hr : Rng l) :
    Calls Try.prog 22 #[v, .int .i64 sc, .int .i64 sp] w (OrdRes w.heap.size (orderN l sc sp).1 (orderN l sc sp).2 w) := by
  have HV := Lib.hid hv
  have HR := Lib.hid hr
  obtain ⟨A, c, b0, o0, rfl, h1, h2, -⟩ := hv
  unfold maxLen at h2
  clear hr
  go_enter Try.func22, Try.ntmps22
  go_wp2_with fail
  refine (fault_any w _ l sc sp HV.out (by omega) HR.out).mono ?_
  rintro e w1 ⟨rfl, hb1⟩
  have HV1 := Lib.hid (HV.out.keep hb1)
  have HB1 := Lib.hid hb1
  clear hb1
  by_cases hf : faultN l sc sp = 0
  · have hf1 : (faultN l sc sp != 0) = false := by rw [hf]; rfl
    obtain ⟨hpl, hsc, hsp⟩ := faultN_zero hf
    have HPL := Lib.hid hpl
    have hgo := goes_greedy l.length (pendN l) (pendN_len l)
    obtain ⟨es, hes⟩ : ∃ es, (greedyN l.length (pendN l)).1 = es := ⟨_, rfl⟩
    obtain ⟨R, hRe⟩ : ∃ R, (greedyN l.length (pendN l)).2 = R := ⟨_, rfl⟩
    rw [hes, hRe] at hgo
    have hsub := hgo.sub
    have HGO := Lib.hid hgo
    have HORD := Lib.hid (show orderN l sc sp = (match carryN sc sp es R with | some xs => (xs, 0) | none => ([], 43)) by unfold orderN; rw [if_pos hf, hes, hRe])
    have HRI := Lib.hid (show Rings R from fun x hx => noFree_closed hsub.2.2.2.1 (hsub.2.2.2.2 (pendN_uni l)) hx)
    have hpn := pendN_len l
    have HRL := Lib.hid (show R.length ≤ 200 by have := hsub.2.1; omega)
    have HEL := Lib.hid (show es.length ≤ 200 by have := hsub.2.2.1; omega)
    have HPP := Lib.hid (show Pls (pendN l) from fun m hm => hpl m (mem_pendN hm).1)
    have HPR := Lib.hid (show Pls R from fun m hm => hpl m (mem_pendN (hsub.1 m hm)).1)
    generalize faultN l sc sp = ft at *
    subst hf
    clear hes hRe hgo hsub hpl
    obtain ⟨W2, hW2⟩ : ∃ W2, w1.alloc (.cells #[.slice none 0 0] 30) = W2 := ⟨_, rfl⟩
    have vb2 : Below w1.heap.size w1 W2 := by rw [← hW2]; exact (Below.refl _ _).alloc (Nat.le_refl _) _
    have vs2 : Str W2 w1.heap.size 30 [.slice none 0 0] := by rw [← hW2]; exact World.alloc_heap_new w1 _
    obtain ⟨W3, hW3⟩ : ∃ W3, W2.alloc (.cells #[.func (.func 40) #[] #[.pointer (some ⟨w1.heap.size, 0, none⟩)], .int .i64 sc, .int .i64 sp] 70) = W3 := ⟨_, rfl⟩
    have vb3 : Below W2.heap.size W2 W3 := by rw [← hW3]; exact (Below.refl _ _).alloc (Nat.le_refl _) _
    have vs3 : Str W3 W2.heap.size 70 [.func (.func 40) #[] #[.pointer (some ⟨w1.heap.size, 0, none⟩)], .int .i64 sc, .int .i64 sp] := by rw [← hW3]; exact World.alloc_heap_new W2 _
    have vz2 := vs2.lt
    have vz3 := vs3.lt
    have HX2 := Lib.hid (vs2.below vb3)
    have HX3 := Lib.hid vs3
    have HB3 := Lib.hid (HB1.out.trans (((vb2.trans (vb3.mono (by omega)))).mono HB1.out.size))
    have HV3 := Lib.hid ((HV1.out.keep vb2).keep vb3)
    have c0 : W3.cell? ⟨W2.heap.size, 0, none⟩ = some (.func (.func 40) #[] #[.pointer (some ⟨w1.heap.size, 0, none⟩)]) := vs3.cell 0
    have c1 : W3.cell? ⟨W2.heap.size, 1, none⟩ = some (.int .i64 sc) := vs3.cell 1
    have c2 : W3.cell? ⟨W2.heap.size, 2, none⟩ = some (.int .i64 sp) := vs3.cell 2
    clear vb2 vs2 vb3 vs3
    go_wp2_with fail
    clear hW2 hW3
    refine region_heldT_wp (fun w' => w'.cell? ⟨W2.heap.size, 0, none⟩ = some (.func (.func 40) #[] #[.pointer (some ⟨w1.heap.size, 0, none⟩)]) ∧ w'.cell? ⟨W2.heap.size, 1, none⟩ = some (.int .i64 sc) ∧ w'.cell? ⟨W2.heap.size, 2, none⟩ = some (.int .i64 sp)) [0, 1] [0, 1, 2, 3, 4] 4 (by kernel_rfl) (by kernel_rfl) (by kernel_rfl) (by kernel_rfl) rfl (by intro c a d v w h; cases d <;> exact h) ⟨c0, c1, c2⟩ ?_
    refine walkH_still _ ?v0 rfl rfl rfl ?vy0 ?_
    case vy0 => intro w hS; go_simp; first | done | with_reducible rfl
    simp only [Act.put]
    refine walkH_still _ ?v1 rfl rfl rfl ?vy1 ?_
    case vy1 => intro w hS; go_simp; first | done | with_reducible rfl
    simp only [Act.put]
    try simp only [List.setIfInBounds_toArray, List.set_cons_zero, List.set_cons_succ]
    refine walkHd _ rfl rfl ?_
    go_wp2_with fail
    refine (pending_any W3.drew _ l (HV3.out.keep (Below.refl _ _).drew) (by omega) HR.out).mono ?_
    rintro e w4 ⟨bf, bt, rfl, hp4, hf4, ht4, hb4⟩
    have hb4' : Below W3.heap.size W3 w4 := (Below.refl _ W3).drew.trans hb4
    have hx3 := HX3.out.below hb4'
    have d0 : w4.cell? ⟨W2.heap.size, 0, none⟩ = some (.func (.func 40) #[] #[.pointer (some ⟨w1.heap.size, 0, none⟩)]) := hx3.cell 0
    have d1 : w4.cell? ⟨W2.heap.size, 1, none⟩ = some (.int .i64 sc) := hx3.cell 1
    have d2 : w4.cell? ⟨W2.heap.size, 2, none⟩ = some (.int .i64 sp) := hx3.cell 2
    have HX4 := Lib.hid hx3
    have HL4 : Hid (LayAt w4 w1.heap.size w4.heap.size []) := Lib.hid ⟨_, HX2.out.below hb4', World.ownsRow_nil _ _ _ _⟩
    have HP4 := Lib.hid hp4
    have HB4 := Lib.hid (HB3.out.trans (hb4'.mono HB3.out.size))
    have hz4 := hb4'.size
    have hf4' : W3.heap.size ≤ bf := hf4
    have ht4' : W3.heap.size ≤ bt := ht4
    have hfl := hp4.from_.lt
    have htl := hp4.tak.lt
    have hw1 := HB1.out.size
    clear hp4 hb4 hb4' hf4 ht4 hx3
    go_wp2_with fail
    refine behindH (Or.inl ⟨d0, d1, d2⟩) ?_
    try simp only [List.setIfInBounds_toArray, List.set_cons_zero, List.set_cons_succ]
    refine walkHd _ rfl rfl ?_
    go_wp2_with fail
    refine (carry_any w4 w1.heap.size w4.heap.size w1.heap.size sc sp bf bt l.length (2 * l.length) (pendN l) es R HL4.out (Nat.le_refl _) hfl htl ⟨by omega, by omega⟩ ⟨Nat.le_refl _, by omega, by omega⟩ hsc hsp HP4.out HPP.out HGO.out HRI.out (by omega) HEL.out HRL.out HPR.out).mono ?_
    rintro e w5 ⟨he, ⟨l5, hl5, hq5⟩, hb5, ho5⟩
    subst he
    have hx5 : Str w5 W2.heap.size 70 [.func (.func 40) #[] #[.pointer (some ⟨w1.heap.size, 0, none⟩)], .int .i64 sc, .int .i64 sp] := ho5 _ _ HX4.out (by omega) (by omega) (by omega) (fun cur e => by injection e with e1 e2 e3; exact absurd e2 (by decide))
    have q0 : w5.cell? ⟨W2.heap.size, 0, none⟩ = some (.func (.func 40) #[] #[.pointer (some ⟨w1.heap.size, 0, none⟩)]) := hx5.cell 0
    have q1 : w5.cell? ⟨W2.heap.size, 1, none⟩ = some (.int .i64 sc) := hx5.cell 1
    have q2 : w5.cell? ⟨W2.heap.size, 2, none⟩ = some (.int .i64 sp) := hx5.cell 2
    have HL5 := Lib.hid hl5
    have HQ5 := Lib.hid hq5
    have HB5 := Lib.hid (HB4.out.trans (hb5.mono HB1.out.size))
    clear hl5 hq5 hb5 ho5 hx5
    go_wp2_with fail
    refine behindH (Or.inl ⟨q0, q1, q2⟩) ?_
    try simp only [List.setIfInBounds_toArray, List.set_cons_zero, List.set_cons_succ]
    refine walkHd _ rfl rfl ?_
    go_wp2_with fail
    refine behindH (Or.inr rfl) (walkH_nil ?_)
    try simp only [List.setIfInBounds_toArray, List.set_cons_zero, List.set_cons_succ]
    cases hcn : carryN sc sp es R with
    | none =>
      have HE := Lib.hid (show orderN l sc sp = ([], 43) by rw [HORD.out, hcn])
      clear hcn
      go_wp2
      go_ret2
      rw [HE.out]
      exact ⟨_, rfl, World.ownsRow_nil _ _ _ _, HB5.out⟩
    | some xs =>
      have HE := Lib.hid (show orderN l sc sp = (xs, 0) by rw [HORD.out, hcn])
      obtain rfl := HQ5.out xs hcn
      obtain ⟨rv, hs5, hr5⟩ := HL5.out
      have k0 : w5.cell? ⟨w1.heap.size, 0, none⟩ = some rv := hs5.cell 0
      have HRV := Lib.hid hr5
      clear hcn hs5 hr5
      go_wp2
      go_ret2
      rw [HE.out]
      exact ⟨_, rfl, own_base HRV.out (by omega), HB5.out⟩
  · have hf1 : (faultN l sc sp != 0) = true := by simp [hf]
    have HE := Lib.hid (show orderN l sc sp = ([], faultN l sc sp) by unfold orderN; rw [if_neg hf])
    generalize faultN l sc sp = ft at *
    clear hf
    go_wp2
    go_ret2
    rw [HE.out]
    exact ⟨_, rfl, World.ownsRow_nil _ _ _ _, HB1.out⟩
end Go.Proofs.Ytdohaoomckhbgaa.Vm
