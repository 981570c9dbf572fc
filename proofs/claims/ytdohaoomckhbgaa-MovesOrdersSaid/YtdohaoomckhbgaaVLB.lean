/- Moves: a set of numbers of the law's own; After, place by place. -/
import Derived.Test.YtdohaoomckhbgaaVLW
namespace Go.Proofs.Ytdohaoomckhbgaa.Vm
open Go.ChangeShapes Go.WideShapes Go.ChangeAt Go.RowKit Go.Maps Go.WideElems Go.ChangeMaps Go.Sort Go.Shelf Go.Proofs.Ytdohaoomckhbgaa.Mem Go.Proofs.Ytdohaoomckhbgaa.Br Go.Proofs.Ytdohaoomckhbgaa.Va Go.Proofs.Ytdohaoomckhbgaa.Vr
set_option linter.unusedVariables false
set_option linter.unusedSimpArgs false
theorem plain_bool_inv {P : Program} {e : TypeId} (he : P.underlying e = some .bool) {v : Value} {z : DataW Unit × List MemPlace} (h : plainElem P e v = some z) : ∃ x, v = .bool x ∧ z = (.lit (.bool x), []) := by
  unfold plainElem at h
  rw [he] at h
  cases v <;> simp at h
  subst h
  exact ⟨_, rfl, rfl⟩
theorem zeroBool (w : World) : (zeroValue 4).run Try.prog w = .ok (.bool false) w := by kernel_rfl
/-- Block b is a map that has f's answers, and false elsewhere. -/
def BolAt (w : World) (b c : Nat) (f : Int → Bool) : Prop := ∃ D : DataW Unit, w.ownsMap Try.prog 3 (plainElem (H := Unit) Try.prog 4) b c D ∧ IsMap D ∧ ∀ x, D.atKey (keyN x) (.lit (.bool false)) = .lit (.bool (f x))
theorem BolAt.made (w : World) : BolAt (w.alloc (.map #[] 0)) w.heap.size 0 (fun _ => false) := ⟨.map [], World.ownsMap_made _ _ _ _, isMap_empty, fun x => rfl⟩
theorem BolAt.same {w w' : World} {b c : Nat} {f : Int → Bool} (h : BolAt w b c f) (hs : w'.heap[b]? = w.heap[b]?) : BolAt w' b c f := by obtain ⟨D, h1, h2⟩ := h; exact ⟨D, own_same h1 hs, h2⟩
theorem BolAt.lt {w : World} {b c : Nat} {f : Int → Bool} (h : BolAt w b c f) : b < w.heap.size := by obtain ⟨D, h1, _⟩ := h; exact h1.lt
set_option maxRecDepth 100000 in
theorem BolAt.get {w : World} {b c : Nat} {f : Int → Bool} (h : BolAt w b c f) {x : Int} (hx : InI x) :
    (Instr.lookup 41 (.map (some b)) (.int .i64 x) false).run Try.prog w = .ok (.bool (f x)) w := by
  obtain ⟨D, h1, h2, h3⟩ := h
  obtain ⟨v, ps, hrun, hv⟩ := h1.lookup keyedN Try.underlying41 (zeroBool w) (plainElem_bool Try.underlying4 false) (keyIs hx)
  obtain ⟨y, rfl, e⟩ := plain_bool_inv Try.underlying4 hv
  rw [h3] at e
  injection e with e _
  injection e with e
  injection e with e
  rw [e]; exact hrun
def addB (f : Int → Bool) (x : Int) : Int → Bool := fun y => y == x || f y
set_option maxRecDepth 100000 in
theorem BolAt.put {w : World} {b c : Nat} {f : Int → Bool} (h : BolAt w b c f) (hc : c < 1000000000000000) {x : Int} (h1 : InI x) :
    ∃ w', (Instr.mapUpdate 41 (.map (some b)) (.int .i64 x) (.bool true)).run Try.prog w = .ok () w' ∧ BolAt w' b (c + 1) (addB f x) ∧ w.grownBy w' (some b) := by
  obtain ⟨D, g1, g2, g3⟩ := h
  obtain ⟨w', hrun, r1, r2⟩ := g1.update keyedN Try.underlying41 (by unfold maxLen; omega) (keyIs h1) (plainElem_bool Try.underlying4 true)
  refine ⟨w', hrun, ⟨_, r1, g2.put _ _, fun y => ?_⟩, r2⟩
  unfold addB
  by_cases e : y = x
  · subst e; rw [beq_self_eq_true, Bool.true_or]; exact atKey_put_same g2 (by simp [keyN, WideAt.IsKeyLit]) _ _
  · rw [beq_eq_false_iff_ne.2 e, Bool.false_or, atKey_put_other (by simp [keyN]; omega), g3]
theorem atV_put {o : List Int} {a v b : Int} (ha : hasB o.length a = true) : atV (putL o a v) b = if b = a then v else atV o b := by
  obtain ⟨h0, h1⟩ := has_iff.1 ha
  unfold atV
  rw [putL_len]
  unfold putL
  rw [if_pos ha]
  by_cases e : b = a
  · subst e
    rw [if_pos ha, if_pos rfl, List.getD_eq_getElem?_getD, List.getElem?_set_self (by omega)]; rfl
  · rw [if_neg e]
    cases hb : hasB o.length b with
    | false => rfl
    | true =>
      obtain ⟨h2, h3⟩ := has_iff.1 hb
      rw [if_pos rfl, if_pos rfl, List.getD_eq_getElem?_getD, List.getElem?_set_ne (by omega), ← List.getD_eq_getElem?_getD]
theorem isTo_cons (m : Mov) (l : List Mov) (b : Int) : isTo (m :: l) b = (m.1 == b || isTo l b) := rfl
theorem after_at (p : List Int) : ∀ (l : List Mov) (o : List Int), Uni l → (∀ m ∈ l, hasB o.length m.1 = true) → ∀ b, (isTo l b = false → atV (l.foldl (stepA p) o) b = atV o b) ∧ ∀ m ∈ l, m.1 = b → atV (l.foldl (stepA p) o) b = atV p m.2
  | [], o, _, _, b => ⟨fun _ => rfl, fun m h => by cases h⟩
  | m :: l, o, hu, hb, b => by
    have hu' := List.pairwise_cons.1 hu
    obtain ⟨h1, h2⟩ := after_at p l (stepA p o m) hu'.2 (fun q hq => by unfold stepA; rw [putL_len]; exact hb q (by simp [hq])) b
    have hs : atV (stepA p o m) b = if b = m.1 then atV p m.2 else atV o b := atV_put (hb m (by simp))
    rw [List.foldl_cons]
    refine ⟨fun h => ?_, fun q hq e => ?_⟩
    · rw [isTo_cons, Bool.or_eq_false_iff] at h
      rw [h1 h.2, hs, if_neg (fun e => by have := h.1; rw [e] at this; simp at this)]
    · rcases List.mem_cons.1 hq with rfl | hq
      · rw [h1 (by
          cases hi : isTo l b with
          | false => rfl
          | true =>
            obtain ⟨z, hz, e2⟩ := isTo_iff.1 hi
            exact absurd (e.trans e2.symm) (hu'.1 z hz)), hs, if_pos e.symm]
      · exact h2 q hq e
theorem atV_get {l : List Int} {k : Nat} (h : k < l.length) : atV l k = l[k] := by
  unfold atV
  rw [hasB_yes (by omega) (by omega), if_pos rfl, Int.toNat_natCast, List.getD_eq_getElem?_getD, List.getElem?_eq_getElem h]; rfl
theorem words_at {w : World} {A : Option Addr} {n c : Nat} {l : List Int} (h : WordsAt w (.slice A n c) l) (h0 : 0 < l.length) : ∃ ad, A = some ad ∧ ∀ k (h : k < l.length), w.cell? (ad.add k) = some (.int .i32 l[k]) := by
  obtain ⟨A', c', e, _, _, hc⟩ := h
  injection e with e1 e2 e3
  subst e1
  obtain ⟨ad, rfl, _⟩ := hc 0 h0
  refine ⟨ad, rfl, fun k hk => ?_⟩
  obtain ⟨ad', e, hc⟩ := hc k hk
  injection e with e
  subst e
  exact hc
theorem isTo_take {l : List Mov} {k : Nat} (hk : k < l.length) (b : Int) : isTo (l.take (k + 1)) b = (b == l[k].1 || isTo (l.take k) b) := by
  rw [List.take_succ_eq_append_getElem hk]
  unfold isTo
  rw [List.any_append]
  simp [Bool.or_comm, BEq.comm]
end Go.Proofs.Ytdohaoomckhbgaa.Vm
