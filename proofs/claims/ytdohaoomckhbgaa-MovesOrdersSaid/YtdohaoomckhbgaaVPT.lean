/- Moves, plainly: in which order they are handed in plays no part. -/
import Derived.Test.YtdohaoomckhbgaaVLW
namespace Go.Proofs.Ytdohaoomckhbgaa.Vm
open Go.ChangeShapes Go.WideShapes Go.ChangeAt Go.RowKit Go.Maps Go.WideElems Go.ChangeMaps Go.Sort Go.Shelf Go.Proofs.Ytdohaoomckhbgaa.Mem Go.Proofs.Ytdohaoomckhbgaa.Br Go.Proofs.Ytdohaoomckhbgaa.Va Go.Proofs.Ytdohaoomckhbgaa.Vr
set_option linter.unusedVariables false
set_option linter.unusedSimpArgs false
theorem wo_self {L : List Mov} {x : Int} (h : ∀ m ∈ L, m.1 ≠ x) : wo L x = L := by
  unfold wo
  rw [List.filter_eq_self]
  intro m hm
  simpa using h m hm
theorem kept_self : ∀ (l acc : List Mov), Uni (acc ++ l) → l.foldl putM acc = acc ++ l
  | [], acc, _ => by simp
  | m :: l, acc, h => by
    have h2 : putM acc m = acc ++ [m] := by
      unfold putM
      rw [wo_self (fun q hq e => by
        have := (List.pairwise_append.1 h).2.2 q hq m (by simp)
        exact this e)]
    rw [List.foldl_cons, h2, kept_self l (acc ++ [m]) (by rw [List.append_assoc]; exact h), List.append_assoc]; rfl
theorem keptN_self {l : List Mov} (h : Uni l) : keptN l = l := by unfold keptN; rw [kept_self l [] h]; rfl
theorem uni_perm {l m : List Mov} (h : Uni l) (p : l.Perm m) : Uni m := (p.pairwise_iff (fun {_ _} hne => Ne.symm hne)).1 h
theorem isTo_perm {l m : List Mov} (p : l.Perm m) (x : Int) : isTo l x = isTo m x := by
  rw [Bool.eq_iff_iff, isTo_iff, isTo_iff]
  exact ⟨fun ⟨a, h, e⟩ => ⟨a, p.mem_iff.1 h, e⟩, fun ⟨a, h, e⟩ => ⟨a, p.mem_iff.2 h, e⟩⟩
theorem isFrom_perm {l m : List Mov} (p : l.Perm m) (x : Int) : isFrom l x = isFrom m x := by
  rw [Bool.eq_iff_iff, isFrom_iff, isFrom_iff]
  exact ⟨fun ⟨a, h, e⟩ => ⟨a, p.mem_iff.1 h, e⟩, fun ⟨a, h, e⟩ => ⟨a, p.mem_iff.2 h, e⟩⟩
theorem loose_perm {l m : List Mov} (p : l.Perm m) (x : Int) : looseB l x = looseB m x := by unfold looseB; rw [isTo_perm p, isFrom_perm p]
theorem src_perm {l m : List Mov} (p : l.Perm m) (h : Uni l) (x : Int) : srcD l x = srcD m x := by
  cases hx : isTo l x with
  | true => exact (src_of_mem (uni_perm h p) (p.mem_iff.1 (mem_src h hx))).symm
  | false => rw [src_none hx, src_none (by rw [← isTo_perm p]; exact hx)]
theorem free_perm {l m : List Mov} (p : l.Perm m) {t : Int} (h : IsFree l t) : IsFree m t := ⟨by rw [← loose_perm p]; exact h.1, fun y hy => h.2 y (by rw [loose_perm p]; exact hy)⟩
theorem goes_perm {L es R : List Mov} (h : Goes L es R) : ∀ {L' : List Mov}, L.Perm L' → Uni L → ∃ R', Goes L' es R' ∧ R.Perm R' := by
  induction h with
  | stop hn => intro L' p _; exact ⟨_, .stop (fun y => by rw [← loose_perm p]; exact hn y), p⟩
  | @step L t es R hf _ ih =>
    intro L' p hu
    obtain ⟨R', h1, h2⟩ := ih (L' := wo L' t) (by unfold wo; exact p.filter _) (hu.wo t)
    refine ⟨R', ?_, h2⟩
    rw [src_perm p hu t]
    exact .step (free_perm p hf) h1
theorem rise_perm : ∀ {l m : List Int}, l.Pairwise (· < ·) → m.Pairwise (· < ·) → (∀ x, x ∈ l ↔ x ∈ m) → l = m
  | [], [], _, _, _ => rfl
  | [], b :: m, _, _, h => absurd ((h b).2 (by simp)) (by simp)
  | a :: l, [], _, _, h => absurd ((h a).1 (by simp)) (by simp)
  | a :: l, b :: m, h1, h2, h => by
    have g1 := List.pairwise_cons.1 h1
    have g2 := List.pairwise_cons.1 h2
    have e : a = b := by
      rcases List.mem_cons.1 ((h a).1 (by simp)) with e | ha
      · exact e
      · rcases List.mem_cons.1 ((h b).2 (by simp)) with e | hb
        · exact e.symm
        · have := g2.1 a ha; have := g1.1 b hb; omega
    subst e
    congr 1
    refine rise_perm g1.2 g2.2 fun x => ⟨fun hx => ?_, fun hx => ?_⟩
    · rcases List.mem_cons.1 ((h x).1 (by simp [hx])) with e | hb
      · have := g1.1 x hx; omega
      · exact hb
    · rcases List.mem_cons.1 ((h x).2 (by simp [hx])) with e | hb
      · have := g2.1 x hx; omega
      · exact hb
theorem keys_perm {l m : List Mov} (p : l.Perm m) (h : Uni l) : keysN l = keysN m :=
  rise_perm (keysN_rise h) (keysN_rise (uni_perm h p)) fun x => by rw [keysN_mem, keysN_mem, isTo_perm p]
theorem least_perm {l m : List Mov} (p : l.Perm m) (h : Uni l) : leastN l = leastN m := by
  unfold leastN leastS
  rw [keys_perm p h, show srcD l = srcD m from funext fun x => src_perm p h x, p.length_eq]
theorem carry_perm {sc sp : Int} {es l m : List Mov} (p : l.Perm m) (h : Uni l) : carryN sc sp es l = carryN sc sp es m := by
  unfold carryN
  rw [least_perm p h, show turnG sc sp l = turnG sc sp m from funext fun x => by unfold turnG; rw [show srcD l = srcD m from funext fun x => src_perm p h x, p.length_eq]]
theorem order_perm {l m : List Mov} (p : l.Perm m) (h : Uni l) (sc sp : Int) (f1 : faultN l sc sp = 0) (f2 : faultN m sc sp = 0) : orderN l sc sp = orderN m sc sp := by
  unfold orderN
  rw [if_pos f1, if_pos f2]
  have pp : (pendN l).Perm (pendN m) := by unfold pendN; rw [keptN_self h, keptN_self (uni_perm h p)]; exact p.filter _
  have hg := goes_greedy l.length (pendN l) (pendN_len l)
  have hg2 := goes_greedy m.length (pendN m) (pendN_len m)
  obtain ⟨R', h1, h2⟩ := goes_perm hg pp (pendN_uni l)
  obtain ⟨e1, e2⟩ := hg2.one h1
  have hu := hg.sub.2.2.2.2 (pendN_uni l)
  rw [e1, e2, carry_perm h2 hu]
/-- With spare slots an order lacks nothing. -/
def SomeO (o : Option (List PM)) : Prop := ∃ xs, o = some xs
theorem some_app {a b : Option (List PM)} (ha : SomeO a) (hb : SomeO b) : SomeO (appO a b) := by
  obtain ⟨x, rfl⟩ := ha
  obtain ⟨y, rfl⟩ := hb
  exact ⟨x ++ y, rfl⟩
theorem some_foldM {α : Type} (g : α → Option (List PM)) (h : ∀ m, SomeO (g m)) : ∀ (ms : List α) (a : Option (List PM)), SomeO a → SomeO (ms.foldl (fun acc m => appO acc (g m)) a)
  | [], a, ha => ha
  | m :: ms, a, ha => some_foldM g h ms _ (some_app ha (h m))
theorem some_bring {sc sp a b : Int} (hsp : 0 ≤ sp) : SomeO (bringN sc sp a b) := by
  unfold bringN
  split
  · exact ⟨_, rfl⟩
  · split
    · exact ⟨_, rfl⟩
    · rw [if_neg (by omega)]; exact ⟨_, rfl⟩
theorem some_pass {sc sp x own : Int} {ms : List Mov} (hsp : 0 ≤ sp) : SomeO (passN sc sp x own ms) :=
  some_app (some_bring hsp) (some_foldM _ (fun m => some_bring hsp) ms _ ⟨[], rfl⟩)
theorem some_turn {sc sp : Int} {f : Int → Int} {x : Int} {N : Nat} (hsp : 0 ≤ sp) : SomeO (turnN sc sp f x N) := by
  unfold turnN
  split
  · rw [if_neg (by omega)]; exact some_pass hsp
  · split
    · exact some_pass hsp
    · exact ⟨_, rfl⟩
theorem some_carry {sc sp : Int} {es R : List Mov} (hsp : 0 ≤ sp) : SomeO (carryN sc sp es R) :=
  some_app (some_foldM _ (fun m => some_bring hsp) es _ ⟨[], rfl⟩) (some_foldM _ (fun m => some_turn hsp) (leastN R) _ ⟨[], rfl⟩)
theorem order_fine {l : List Mov} {sc sp : Int} (f : faultN l sc sp = 0) (hsp : 0 ≤ sp) : (orderN l sc sp).2 = 0 := by
  unfold orderN
  rw [if_pos f]
  obtain ⟨xs, e⟩ := some_carry (sc := sc) (es := (greedyN l.length (pendN l)).1) (R := (greedyN l.length (pendN l)).2) hsp
  rw [e]
/-- Places that the law's moves name. -/
def PlM (m : Mov) : Prop := (0 ≤ m.1 ∧ m.1 < 24 ∧ m.1 ≠ 15) ∧ 0 ≤ m.2 ∧ m.2 < 24 ∧ m.2 ≠ 15
theorem spot_pl {n : Int} (h : 0 ≤ n) (h2 : n < 20) : 0 ≤ spotN n ∧ spotN n < 24 ∧ spotN n ≠ 15 := by unfold spotN; split <;> omega
theorem made_plM {s : List Int} {m : Mov} (h : m ∈ madeM s) : PlM m := by
  obtain ⟨i, h1, h2, f, h3, h4, h5⟩ := made_mem h
  unfold PlM
  rw [h2, h5]
  exact ⟨spot_pl (by omega) (by omega), spot_pl h3 h4⟩
theorem named_no {l : List Mov} {p : Int} (h : ∀ m ∈ l, m.1 ≠ p ∧ m.2 ≠ p) : namedB l p = false := by
  unfold namedB
  rw [List.any_eq_false]
  intro m hm
  unfold hasPl
  have := h m hm
  simp [this.1, this.2]
theorem fault_none {l : List Mov} (hu : Uni l) (hp : ∀ m ∈ l, PlM m) {sc sp : Int} (hs : sc = -1 ∨ sc = 15) (hsp : sp = -1 ∨ sp = 10) : faultN l sc sp = 0 := by
  unfold faultN
  have h1 : l.any badPl = false := by
    rw [List.any_eq_false]
    intro m hm
    obtain ⟨⟨a, b, _⟩, c, d, _⟩ := hp m hm
    unfold badPl plB
    simp
    omega
  have h2 : twiceN l = false := by unfold twiceN; rw [keptN_self hu]; simp
  have n1 : ∀ p, p = 15 ∨ 24 ≤ p → namedB l p = false := fun p h => named_no fun m hm => by
    obtain ⟨⟨a, b, b'⟩, c, d, d'⟩ := hp m hm
    omega
  rw [h1, if_neg (by simp), h2, if_neg (by simp)]
  rcases hs with rfl | rfl
  · rcases hsp with rfl | rfl
    · simp
    · simp [n1]
  · rcases hsp with rfl | rfl
    · simp [n1]
    · simp [n1]
end Go.Proofs.Ytdohaoomckhbgaa.Vm
