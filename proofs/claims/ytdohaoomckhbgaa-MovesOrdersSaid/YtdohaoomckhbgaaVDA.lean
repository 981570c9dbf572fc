/- Moves: what jacquardref11.Circles tells of any moves: of those with one To the last one counts. -/
import Derived.Test.YtdohaoomckhbgaaVCU
import Derived.Test.YtdohaoomckhbgaaVCX
namespace Go.Proofs.Ytdohaoomckhbgaa.Vm
open Go.ChangeShapes Go.WideShapes Go.ChangeAt Go.RowKit Go.Maps Go.WideElems Go.ChangeMaps Go.Sort Go.Shelf Go.Proofs.Ytdohaoomckhbgaa.Mem Go.Proofs.Ytdohaoomckhbgaa.Br Go.Proofs.Ytdohaoomckhbgaa.Va Go.Proofs.Ytdohaoomckhbgaa.Vr
set_option linter.unusedVariables false
set_option linter.unusedSimpArgs false
attribute [local go_sem] Oper.semAt_some
/-- u has each To once, with what the last move of l to it takes. -/
structure SameM (l u : List Mov) : Prop where
  tak : ∀ x, takN l x = srcD u x
  to_ : ∀ x, isTo l x = isTo u x
  len : u.length ≤ l.length
theorem takN_cons (m : Mov) (l : List Mov) (x : Int) : takN (m :: l) x = if isTo l x = true then takN l x else if m.1 = x then m.2 else 0 := by
  unfold takN
  rw [List.reverse_cons, List.find?_append]
  by_cases h : isTo l x = true
  · rw [if_pos h]
    obtain ⟨q, hq, e⟩ := isTo_iff.1 h
    cases hf : l.reverse.find? fun m => m.1 == x with
    | none => exact absurd e (by have := List.find?_eq_none.1 hf q (by simpa using hq); simpa using this)
    | some y => rfl
  · rw [if_neg h, List.find?_eq_none.2 (fun q hq => by
      have h2 : ¬ q.1 = x := fun e => h (isTo_iff.2 ⟨q, by simpa using hq, e⟩)
      simpa using h2)]
    by_cases e : m.1 = x
    · simp [e]
    · simp [e]
theorem src_app (L : List Mov) (m : Mov) (x : Int) (h : isTo L x = false) : srcD (L ++ [m]) x = if m.1 = x then m.2 else 0 := by
  unfold srcD
  rw [List.find?_append, List.find?_eq_none.2 (fun q hq => by
    have h2 : ¬ q.1 = x := fun e => by rw [isTo_iff.2 ⟨q, hq, e⟩] at h; cases h
    simpa using h2)]
  by_cases e : m.1 = x
  · simp [e]
  · simp [e]
theorem src_put (L : List Mov) (m : Mov) (x : Int) : srcD (putM L m) x = if m.1 = x then m.2 else srcD L x := by
  unfold putM
  by_cases e : m.1 = x
  · rw [if_pos e, src_app _ _ _ (by
      cases h : isTo (wo L m.1) x with
      | false => rfl
      | true => obtain ⟨q, hq, e2⟩ := isTo_iff.1 h; exact absurd (e2.trans e.symm) (mem_wo.1 hq).2), if_pos e]
  · rw [if_neg e]
    unfold srcD wo
    have h : ∀ L : List Mov, ((L.filter fun q => !(q.1 == m.1)) ++ [m]).find? (fun q => q.1 == x) = L.find? fun q => q.1 == x := fun L => by
      induction L with
      | nil => simp [e]
      | cons q L ih =>
        by_cases h1 : q.1 = m.1
        · rw [List.filter_cons_of_neg (by simp [h1]), ih, List.find?_cons_of_neg (by simp [h1, e])]
        · rw [List.filter_cons_of_pos (by simp [h1]), List.cons_append]
          by_cases h2 : q.1 = x
          · rw [List.find?_cons_of_pos (by simp [h2]), List.find?_cons_of_pos (by simp [h2])]
          · rw [List.find?_cons_of_neg (by simp [h2]), List.find?_cons_of_neg (by simp [h2]), ih]
    rw [h]
theorem isTo_put (L : List Mov) (m : Mov) (x : Int) : isTo (putM L m) x = (m.1 == x || isTo L x) := by
  rw [Bool.eq_iff_iff, Bool.or_eq_true, isTo_iff, isTo_iff]
  unfold putM
  constructor
  · rintro ⟨q, hq, e⟩
    rcases List.mem_append.1 hq with hq | hq
    · exact Or.inr ⟨q, (mem_wo.1 hq).1, e⟩
    · rw [List.mem_singleton.1 hq] at e; exact Or.inl (by simpa using e)
  · rintro (h | ⟨q, hq, e⟩)
    · exact ⟨m, by simp, by simpa using h⟩
    · by_cases h : q.1 = m.1
      · exact ⟨m, by simp, h.symm.trans e⟩
      · exact ⟨q, List.mem_append_left _ (mem_wo.2 ⟨hq, h⟩), e⟩
theorem kept_tak : ∀ (l acc : List Mov) (x : Int), srcD (l.foldl putM acc) x = (if isTo l x = true then takN l x else srcD acc x) ∧ isTo (l.foldl putM acc) x = (isTo l x || isTo acc x)
  | [], acc, x => ⟨rfl, rfl⟩
  | m :: l, acc, x => by
    obtain ⟨h1, h2⟩ := kept_tak l (putM acc m) x
    rw [List.foldl_cons, h1, h2, takN_cons, src_put, isTo_put]
    refine ⟨?_, ?_⟩
    · show _ = if (m.1 == x || isTo l x) = true then _ else _
      by_cases h : isTo l x = true
      · rw [if_pos h, if_pos h, if_pos (by rw [h]; simp)]
      · rw [if_neg h, if_neg h]
        by_cases e : m.1 = x
        · rw [if_pos e, if_pos (by simp [e]), if_pos e]
        · rw [if_neg e, if_neg (by simp [e, h])]
    · show _ = (m.1 == x || isTo l x || isTo acc x)
      cases isTo l x <;> cases (m.1 == x) <;> rfl
theorem same_kept (l : List Mov) : SameM l (keptN l) := by
  refine ⟨fun x => ?_, fun x => ?_, keptN_len l⟩
  · rw [keptN, (kept_tak l [] x).1]
    by_cases h : isTo l x = true
    · rw [if_pos h]
    · rw [if_neg h]
      have := (takN_none (l := l) (x := x) (fun m hm e => h (isTo_iff.2 ⟨m, hm, e⟩))).1
      rw [this]; rfl
  · rw [keptN, (kept_tak l [] x).2]; simp [isTo]
theorem pend_kept (l : List Mov) : pendN (keptN l) = pendN l := by unfold pendN; rw [keptN_self (keptN_uni l)]
/-- The program's circles. -/
def progC (R : List Mov) : List (List Int) := (leastN R).map fun x => orb (srcD R) x (perD (srcD R) x R.length)
theorem leastS_rise {R : List Mov} : ∀ (ks : List Int) (s : List Int × List Int), ∃ r, r.Sublist ks ∧ (ks.foldl (stepG (srcD R) R.length) s).1 = s.1 ++ r
  | [], s => ⟨[], List.Sublist.refl _, by simp⟩
  | k :: ks, s => by
    obtain ⟨r, h1, h2⟩ := leastS_rise (R := R) ks (stepG (srcD R) R.length s k)
    rw [List.foldl_cons, h2]
    unfold stepG
    split
    · exact ⟨r, h1.cons k, rfl⟩
    · exact ⟨k :: r, h1.cons_cons k, by simp⟩
theorem least_rise {R : List Mov} (hu : Uni R) : (leastN R).Pairwise (· < ·) := by
  obtain ⟨r, h1, h2⟩ := leastS_rise (R := R) (keysN R) ([], [])
  unfold leastN leastS
  rw [h2, List.nil_append]
  exact (keysN_rise hu).sublist h1
/-- The document's circles are the program's. -/
theorem circs_prog {l es R : List Mov} (hu : Uni l) (hg : Goes (pendN l) es R) : circsN l = progC R := by
  have hsub := hg.sub
  have hRu := hsub.2.2.2.2 (pendN_uni l)
  have hRn := hsub.2.2.2.1
  obtain ⟨l1, l2, l3⟩ := least_props hRn hRu
  have l4 := least_least hRn hRu
  have hsame : ∀ y, isTo R y = true → srcD l y = srcD R y ∧ isTo l y = true ∧ srcD R y ≠ y := fun y hy => by
    have hm := mem_pendN (hsub.1 _ (mem_src hRu hy))
    exact ⟨src_of_mem hu hm.1, isTo_iff.2 ⟨_, hm.1, rfl⟩, fun e => hm.2 e.symm⟩
  have hlR : ∀ x, isTo R x = true → ∀ i, it (srcD l) x i = it (srcD R) x i := fun x hx i => by
    induction i with
    | zero => rfl
    | succ i ih =>
      show srcD l (it (srcD l) x i) = srcD R (it (srcD R) x i)
      rw [ih, (hsame _ (it_to hRn hRu hx i)).1]
  have hring : ∀ x ∈ leastN R, 1 < perD (srcD R) x R.length ∧ RingAt l x (perD (srcD R) x R.length) := fun x hx => by
    have hC := per_closed hRn hRu (l1 x hx)
    have htoR := it_to hRn hRu (l1 x hx)
    refine ⟨?_, ⟨⟨hC.1, by rw [hlR x (l1 x hx)]; exact hC.2.1, fun i h1 h2 => by rw [hlR x (l1 x hx)]; exact hC.2.2 i h1 h2⟩, fun j _ => by rw [hlR x (l1 x hx)]; exact (hsame _ (htoR j)).2.1, fun j h1 h2 => ?_⟩⟩
    · rcases Nat.lt_or_ge 1 (perD (srcD R) x R.length) with h | h
      · exact h
      · exfalso
        have e : perD (srcD R) x R.length = 1 := by have := hC.1; omega
        have := hC.2.1
        rw [e] at this
        exact (hsame x (l1 x hx)).2.2 this
    · rw [hlR x (l1 x hx)]
      have := l4 x hx j
      have := hC.2.2 j h1 h2
      omega
  have hks : ((keysN l).filter fun k => decide (1 < (ringL l k).length)) = leastN R := by
    refine rise_perm (List.Pairwise.filter _ (keysN_rise hu)) (least_rise hRu) fun k => ⟨fun hk => ?_, fun hx => ?_⟩
    · obtain ⟨hk1, hk2⟩ := List.mem_filter.1 hk
      by_cases hr : ∃ n, RingAt l k n
      · obtain ⟨n, hr⟩ := hr
        have hkR : isTo R k = true := (circs_iff hu hg k).1 ⟨ringL l k, by
          unfold circsN circL
          rw [List.take_length]
          exact List.mem_filter.2 ⟨List.mem_map.2 ⟨k, hk1, rfl⟩, hk2⟩, by rw [ringL_some hr]; exact mem_orb.2 ⟨0, hr.1.1, rfl⟩⟩
        obtain ⟨x, hx, q, e⟩ := l3 k hkR
        have hC := per_closed hRn hRu (l1 x hx)
        have h3 := l4 x hx q
        obtain ⟨q', e'⟩ := it_meet hC (i := 0) (y := k) (j := q) e.symm
        have h4 : k ≤ it (srcD l) k q' := by
          obtain ⟨j, hj, ej⟩ := it_orb hr.1 q'
          rw [← ej]
          by_cases hj0 : j = 0
          · rw [hj0]; exact Int.le_refl _
          · have := hr.2.2 j (by omega) hj; omega
        rw [hlR k hkR, e'] at h4
        have : k = x := by omega
        rw [this]; exact hx
      · rw [ringL_none (fun n h => hr ⟨n, h⟩)] at hk2
        simp at hk2
    · obtain ⟨hN, hr⟩ := hring k hx
      exact List.mem_filter.2 ⟨keysN_mem.2 (hsame k (l1 k hx)).2.1, by rw [ringL_some hr, orb_len]; simpa using hN⟩
  have e1 : circsN l = ((keysN l).filter fun k => decide (1 < (ringL l k).length)).map (ringL l) := by
    unfold circsN circL
    rw [List.take_length, List.filter_map]; rfl
  rw [e1, hks]
  unfold progC
  refine List.map_congr_left fun x hx => ?_
  rw [ringL_some (hring x hx).2]
  unfold orb
  exact List.map_congr_left fun i _ => hlR x (l1 x hx) i
theorem scan_endU {l u : List Mov} (hu : Uni u) (hs : SameM l u) {i : Nat} {bg : Bool} {la x : Int} {so : Bool} (hk : KeyAt u i bg la) (h : ScanI (PaB bg la) l x so) : (so = false → i = (keysN u).length) ∧ (so = true → (keysN u)[i]? = some x) := by
  have hr := List.pairwise_iff_getElem.1 (keysN_rise hu)
  have hpk : ∀ (hi : i < (keysN u).length), PaB bg la (keysN u)[i] := fun hi => by
    cases hb : bg with
    | false => exact Or.inl rfl
    | true =>
      obtain ⟨j, e, hj⟩ := hk.last hb
      obtain ⟨hj1, hj2⟩ := List.getElem?_eq_some_iff.1 hj
      right
      rw [← hj2]
      exact hr j i hj1 hi (by omega)
  refine ⟨fun e => ?_, fun e => ?_⟩
  · rcases Nat.lt_or_ge i (keysN u).length with hi | hi
    · exfalso
      obtain ⟨m, hm, em⟩ := isTo_iff.1 ((hs.to_ _).trans (keysN_mem.1 (List.getElem_mem hi)))
      rcases h with ⟨_, h⟩ | ⟨e2, _⟩
      · exact h m hm (by rw [em]; exact hpk hi)
      · rw [e] at e2; cases e2
    · have := hk.le; omega
  · rcases h with ⟨e2, _⟩ | ⟨_, h1, ⟨m, hm, em⟩, h2⟩
    · rw [e] at e2; cases e2
    · have hx : x ∈ keysN u := keysN_mem.2 ((hs.to_ _).symm.trans (isTo_iff.2 ⟨m, hm, em⟩))
      obtain ⟨j, hj, ej⟩ := List.getElem_of_mem hx
      have hij : i ≤ j := by
        rcases Nat.lt_or_ge j i with h3 | h3
        · exfalso
          cases hb : bg with
          | false => have := hk.zero hb; omega
          | true =>
            obtain ⟨j', e, hj'⟩ := hk.last hb
            obtain ⟨hj1, hj2⟩ := List.getElem?_eq_some_iff.1 hj'
            have h4 : la < x := by
              rcases h1 with h1 | h1
              · rw [hb] at h1; cases h1
              · exact h1
            rcases Nat.lt_or_ge j j' with h5 | h5
            · have := hr j j' hj hj1 h5
              rw [hj2, ej] at this; omega
            · have e6 : j = j' := by omega
              subst e6
              rw [hj2] at ej; omega
        · exact h3
      have hil : i < (keysN u).length := by omega
      obtain ⟨q, hq, eq⟩ := isTo_iff.1 ((hs.to_ _).trans (keysN_mem.1 (List.getElem_mem hil)))
      have h6 := h2 q hq (by rw [eq]; exact hpk hil)
      have : j = i := by
        rcases Nat.lt_or_ge i j with h5 | h5
        · have := hr i j hil hj h5
          rw [ej, ← eq] at this; omega
        · omega
      subst this
      rw [List.getElem?_eq_getElem hj, ej]
/-- So far one has gone. -/
structure GoneU (l u : List Mov) (x : Int) (n : Nat) : Prop where
  pos : 1 ≤ n
  le : n ≤ l.length + 1
  to : ∀ j, j + 1 < n → isTo u (it (srcD u) x j) = true
  gt : ∀ j, 0 < j → j < n → x < it (srcD u) x j
theorem GoneU.le_ring {l u : List Mov} {x : Int} {n N : Nat} (h : GoneU l u x n) (hr : RingAt u x N) : n ≤ N := by
  rcases Nat.lt_or_ge N n with h1 | h1
  · have := h.gt N hr.1.1 h1
    rw [hr.1.2.1] at this; omega
  · exact h1
theorem GoneU.not_is {l u : List Mov} {x : Int} {n : Nat} (h : GoneU l u x n) (hb : isTo u (it (srcD u) x (n - 1)) = false) : ∀ N, ¬ RingAt u x N := fun N hr => by
  have h1 := h.le_ring hr
  have h2 := hr.2.1 (n - 1) (by have := h.pos; omega)
  rw [hb] at h2; cases h2
theorem GoneU.low {l u : List Mov} {x : Int} {n : Nat} (h : GoneU l u x n) (hb : it (srcD u) x n < x) : ∀ N, ¬ RingAt u x N := fun N hr => by
  have h1 := h.le_ring hr
  have h0 := h.pos
  rcases Nat.lt_or_ge n N with h2 | h2
  · have := hr.2.2 n (by omega) h2; omega
  · have e : n = N := by omega
    have := hr.1.2.1
    rw [← e] at this; omega
theorem GoneU.far {l u : List Mov} {x : Int} {n : Nat} (h : GoneU l u x n) (hlu : u.length ≤ l.length) (hb : l.length < n) : ∀ N, ¬ RingAt u x N := fun N hr => by
  have h1 := h.le_ring hr
  have := hr.len
  omega
theorem GoneU.ring {l u : List Mov} {x : Int} {n : Nat} (h : GoneU l u x n) (hb : isTo u (it (srcD u) x (n - 1)) = true) (hx : it (srcD u) x n = x) : RingAt u x n := by
  refine ⟨⟨h.pos, hx, fun i h1 h2 e => by have := h.gt i h1 h2; omega⟩, fun j hj => ?_, h.gt⟩
  by_cases e : j = n - 1
  · rw [e]; exact hb
  · exact h.to j (by omega)
theorem GoneU.next {l u : List Mov} {x : Int} {n : Nat} (h : GoneU l u x n) (hb : isTo u (it (srcD u) x (n - 1)) = true) (hx : x < it (srcD u) x n) (hn : n ≤ l.length) : GoneU l u x (n + 1) := by
  refine ⟨by omega, by omega, fun j hj => ?_, fun j h1 h2 => ?_⟩
  · by_cases e : j = n - 1
    · rw [e]; exact hb
    · exact h.to j (by omega)
  · by_cases e : j = n
    · rw [e]; exact hx
    · exact h.gt j h1 (by omega)
def AroundResU (u : List Mov) (x : Int) (w : World) (e : Ending) (w' : World) : Prop := ∃ v c, e = .returned v ∧ w'.ownsRow w.heap.size 3 1 v c.length (c.map (Value.int .i64)) ∧ Below w.heap.size w w' ∧ ((c = [] ∧ ∀ n, ¬ RingAt u x n) ∨ ∃ n, RingAt u x n ∧ c = orb (srcD u) x n)
set_option maxRecDepth 100000 in
set_option maxHeartbeats 2000000 in
theorem aroundU_any (w : World) (v : Value) (l u : List Mov) (x : Int) (hv : MovesAt w v l) (hl : l.length ≤ 1000) (hs : SameM l u) : Calls Try.prog 43 #[v, .int .i64 x] w (AroundResU u x w) := by
  have HV := Lib.hid hv
  have HTK := Lib.hid hs.tak
  have HTO := Lib.hid hs.to_
  have hlu := hs.len
  obtain ⟨A, c, b0, o0, rfl, h1, h2, -⟩ := hv
  unfold maxLen at h2
  clear hs
  obtain ⟨i0, hi, hz0, hz1, hz2⟩ := info_parts info_int
  have HI := Lib.hid hi
  have HZ0 := Lib.hid hz0
  have HZ1 := Lib.hid hz1
  have HZ2 := Lib.hid hz2
  clear hi hz0 hz1 hz2
  obtain ⟨W0, hW0⟩ : ∃ W0, w.alloc (.cells #[.int .i64 x] 3) = W0 := ⟨_, rfl⟩
  have hb0 : Below w.heap.size w W0 := by rw [← hW0]; exact (Below.refl _ _).alloc (Nat.le_refl _) _
  have HO0 := Lib.hid (show W0.ownsRow w.heap.size 3 1 (.slice (some ⟨w.heap.size, 0, none⟩) 1 1) 1 ((orb (srcD u) x 1).map (Value.int .i64)) by
    rw [← hW0]
    exact World.ownsRow_lit (size := 1) (e := 3) (base := w.heap.size) w #[.int .i64 x] 1 (Nat.le_refl _) (by unfold maxLen; omega) (by simp))
  have HB0 := Lib.hid hb0
  clear hb0
  go_enter Try.func43, Try.ntmps43
  go_wp2_with fail
  clear hW0
  refine (takes_any W0 _ l x (MovesAt.keep HV.out HB0.out)).mono ?_
  rintro e w1 ⟨rfl, hw1⟩
  obtain rfl : W0 = w1 := hw1.symm
  rw [HTK.out x, HTO.out x]
  have HG0 := Lib.hid (show GoneU l u x 1 from ⟨Nat.le_refl _, by omega, fun j h => absurd h (by omega), fun j h1 h2 => absurd h1 (by omega)⟩)
  go_wp2_with fail
  go_loopw [5, 6, 7] (fun o p is wr => ∃ n : Nat, GoneU l u x n ∧ p = .int .i64 (it (srcD u) x n) ∧ is = .bool (isTo u (it (srcD u) x (n - 1))) ∧ wr.ownsRow w.heap.size 3 1 o n ((orb (srcD u) x n).map (Value.int .i64)) ∧ Below w.heap.size w wr ∧ ∃ A c, o = .slice A n c) (fun o _ _ _ => l.length + 1 - lenV o)
  case atStart => exact ⟨1, HG0.out, rfl, rfl, HO0.out, HB0.out, _, _, rfl⟩
  case round =>
    obtain ⟨n, hg, rfl, rfl, ho, hb, A2, c2, rfl⟩ := hrel
    have HG := Lib.hid hg
    have HO := Lib.hid ho
    have HB := Lib.hid hb
    have hn1 := hg.le
    have hn0 := hg.pos
    have hcap := own_cap ho
    unfold maxLen at hcap
    clear hg ho hb HB0 HO0 HG0
    cases hbv : isTo u (it (srcD u) x (n - 1)) with
    | false =>
      have HN := Lib.hid (HG.out.not_is hbv)
      clear hbv
      generalize it (srcD u) x n = y at *
      go_wp2_with fail
      go_ret
      exact ⟨_, [], rfl, World.ownsRow_nil _ _ _ _, HB.out, Or.inl ⟨rfl, HN.out⟩⟩
    | true =>
      obtain ⟨y, hy⟩ : ∃ y, it (srcD u) x n = y := ⟨_, rfl⟩
      have HY := Lib.hid hy
      have HBV := Lib.hid hbv
      rw [hy]
      clear hy hbv
      by_cases hyx : y = x
      · have hne : (y != x) = false := by rw [hyx]; simp
        have HR := Lib.hid (HG.out.ring HBV.out (HY.out.trans hyx))
        clear hyx
        go_wp2_with fail
        go_ret
        exact ⟨_, orb (srcD u) x n, rfl, by rw [orb_len]; exact HO.out, HB.out, Or.inr ⟨n, HR.out, rfl⟩⟩
      · have hne : (y != x) = true := by simpa using hyx
        by_cases hlt : x < y
        · by_cases hnl : n ≤ l.length
          · obtain ⟨W1, hW1⟩ : ∃ W1, wr.alloc (.cells #[.int .i64 y] 3) = W1 := ⟨_, rfl⟩
            have hb1 : Below wr.heap.size wr W1 := by rw [← hW1]; exact (Below.refl _ _).alloc (Nat.le_refl _) _
            have hs1 : Str W1 wr.heap.size 3 [.int .i64 y] := by rw [← hW1]; exact World.alloc_heap_new wr _
            have hz0 := HB.out.size
            have hz1 := hb1.size
            have HO1 := Lib.hid (show W1.ownsRow w.heap.size 3 1 (.slice A2 n c2) n ((orb (srcD u) x n).map (Value.int .i64)) from own_same_row HO.out (fun g cur hg => hb1.block g (Array.getElem?_eq_some_iff.1 hg).1))
            have HB1 := Lib.hid (HB.out.trans (hb1.mono HB.out.size))
            have HS1 := Lib.hid hs1
            clear hb1 hs1
            go_wp2_with (at_builtin; refine wpList_appendM rfl _ _ 23 rfl w.heap.size 3 i0 (.int .i64 0) 1 8 Try.underlying23 HI.out HZ0.out HZ1.out HZ2.out rfl (by decide) _ n ((orb (srcD u) x n).map (Value.int .i64)) rfl HO1.out ⟨wr.heap.size, 0, none⟩ [.int .i64 y] rfl rfl ?news ?one (by omega) (by omega) (by omega) ?_)
            case news =>
              intro j u hj
              rw [at_add0, HS1.out.cell j]
              exact hj
            case one =>
              intro u hu
              simp only [List.mem_cons, List.not_mem_nil, or_false] at hu
              rcases hu with rfl
              rfl
            intro v' w5 ho5 hg5 _
            have HO5 := Lib.hid (show w5.ownsRow w.heap.size 3 1 v' (n + 1) ((orb (srcD u) x (n + 1)).map (Value.int .i64)) by rw [orb_succ, List.map_append, HY.out]; exact ho5)
            have HB5 := Lib.hid (HB1.out.grown hg5 (by omega) (fun j e => (World.ownsRow.lt HO1.out j e).1))
            obtain ⟨A5, c5, rfl⟩ := own_form ho5
            clear ho5 hg5 hW1
            go_wp2_with fail
            refine (takes_any w5 _ l y (MovesAt.keep HV.out HB5.out)).mono ?_
            rintro e w6 ⟨rfl, hw6⟩
            obtain rfl : w5 = w6 := hw6.symm
            rw [HTK.out y, HTO.out y]
            have HG5 := Lib.hid (HG.out.next HBV.out (by rw [HY.out]; exact hlt) hnl)
            go_wp2_with fail
            refine ⟨⟨n + 1, HG5.out, ?_, ?_, HO5.out, HB5.out, _, _, rfl⟩, ?_⟩
            · show Value.int .i64 (srcD u y) = .int .i64 (srcD u (it (srcD u) x n))
              rw [HY.out]
            · show Value.bool (isTo u y) = .bool (isTo u (it (srcD u) x n))
              rw [HY.out]
            · simp [lenV]; omega
          · have HN := Lib.hid (HG.out.far hlu (by omega))
            go_wp2_with fail
            go_ret
            exact ⟨_, [], rfl, World.ownsRow_nil _ _ _ _, HB.out, Or.inl ⟨rfl, HN.out⟩⟩
        · have HN := Lib.hid (HG.out.low (by rw [HY.out]; omega))
          go_wp2_with fail
          go_ret
          exact ⟨_, [], rfl, World.ownsRow_nil _ _ _ _, HB.out, Or.inl ⟨rfl, HN.out⟩⟩
set_option maxRecDepth 100000 in
set_option maxHeartbeats 4000000 in
theorem circlesU_any (w : World) (v : Value) (l L2 : List Mov) (hv : MovesAt w v l) (hl : l.length ≤ 1000) (hu : Uni L2) (hs : SameM l L2) : Calls Try.prog 24 #[v] w (CircRes L2 w) := by
  have HV := Lib.hid hv
  have HU := Lib.hid hu
  obtain ⟨A, c, b0, o0, rfl, h1, h2, -⟩ := hv
  unfold maxLen at h2
  have HSM := Lib.hid hs
  have hlu := hs.len
  clear hu hs
  obtain ⟨i0, hi, hz0, hz1, hz2⟩ := info_parts info_rowV
  have HI := Lib.hid hi
  have HZ0 := Lib.hid hz0
  have HZ1 := Lib.hid hz1
  have HZ2 := Lib.hid hz2
  clear hi hz0 hz1 hz2
  go_enter Try.func24, Try.ntmps24
  go_wp2_with fail
  go_loopw [3, 4, 5] (fun o la bg wr => ∃ (i : Nat) (b : Bool) (y : Int), KeyAt L2 i b y ∧ la = .int .i64 y ∧ bg = .bool b ∧ OwnGrid w.heap.size wr o (circL L2 i) ∧ Below w.heap.size w wr) (fun _ la bg _ => leftK (keysN L2) bg la)
  case atStart => exact ⟨0, false, 0, ⟨Nat.zero_le _, fun _ => rfl, fun h => (by cases h)⟩, rfl, rfl, OwnGrid.none_ _ _, Below.refl _ _⟩
  case round =>
    obtain ⟨i, b, y, hk, rfl, rfl, ho, hb⟩ := hrel
    obtain ⟨wo, rfl⟩ : ∃ wo : World, wo = wr := ⟨_, rfl⟩
    have HK := Lib.hid hk
    have HO := Lib.hid ho
    have HB := Lib.hid hb
    clear hk ho hb
    go_wp2_with fail
    go_loopw [6, 7, 8] (fun xv sv iv wr => ∃ (k : Nat) (x : Int) (so : Bool), k ≤ l.length ∧ xv = .int .i64 x ∧ sv = .bool so ∧ iv = .int .i64 k ∧ ScanI (PaB b y) (l.take k) x so ∧ wr = wo) (fun _ _ iv _ => l.length - (Go.RowKit.intOf iv).toNat)
    case atStart => exact ⟨0, 0, false, Nat.zero_le _, rfl, rfl, rfl, Or.inl ⟨rfl, fun m hm => (by rw [List.take_zero] at hm; cases hm)⟩, rfl⟩
    case round =>
      obtain ⟨k, x, so, hk, rfl, rfl, rfl, hS, hw⟩ := hrel
      obtain rfl : wo = wr := hw.symm
      have HS := Lib.hid hS
      clear hS
      by_cases hlt : k < l.length
      · obtain ⟨A', c', gb, ob, e, -, -, hA, hc⟩ := HV.out
        injection e with e1 e2 e3
        subst e1 e3
        obtain rfl : A = some ⟨gb, ob, none⟩ := hA (by omega)
        obtain ⟨c0, c1⟩ := MvAt.keep (w := w) (w' := wo) HB.out _ _ _ (hc k hlt)
        have HT := Lib.hid (fun hp ht => scan_take hlt HS.out hp ht)
        have HSK := Lib.hid (fun hp => scan_skip hlt HS.out hp)
        clear hc hA
        generalize l[k].1 = z at *
        clear c1
        have hle : k + 1 ≤ l.length := hlt
        cases b
        · cases so
          · have HR := Lib.hid (HT.out (Or.inl rfl) (Or.inl rfl))
            go_wp2_with fail
            exact ⟨⟨k + 1, z, true, hle, rfl, rfl, by go_num, HR.out, trivial⟩, by simp [Go.RowKit.intOf]; omega⟩
          · by_cases hzx : z < x
            · have HR := Lib.hid (HT.out (Or.inl rfl) (Or.inr hzx))
              go_wp2_with fail
              exact ⟨⟨k + 1, z, true, hle, rfl, rfl, by go_num, HR.out, trivial⟩, by simp [Go.RowKit.intOf]; omega⟩
            · have HR := Lib.hid (HSK.out (Or.inr ⟨rfl, by omega⟩))
              go_wp2_with fail
              exact ⟨⟨k + 1, x, true, hle, rfl, rfl, by go_num, HR.out, trivial⟩, by simp [Go.RowKit.intOf]; omega⟩
        · by_cases hyz : y < z
          · cases so
            · have HR := Lib.hid (HT.out (Or.inr hyz) (Or.inl rfl))
              go_wp2_with fail
              exact ⟨⟨k + 1, z, true, hle, rfl, rfl, by go_num, HR.out, trivial⟩, by simp [Go.RowKit.intOf]; omega⟩
            · by_cases hzx : z < x
              · have HR := Lib.hid (HT.out (Or.inr hyz) (Or.inr hzx))
                go_wp2_with fail
                exact ⟨⟨k + 1, z, true, hle, rfl, rfl, by go_num, HR.out, trivial⟩, by simp [Go.RowKit.intOf]; omega⟩
              · have HR := Lib.hid (HSK.out (Or.inr ⟨rfl, by omega⟩))
                go_wp2_with fail
                exact ⟨⟨k + 1, x, true, hle, rfl, rfl, by go_num, HR.out, trivial⟩, by simp [Go.RowKit.intOf]; omega⟩
          · have HR := Lib.hid (HSK.out (Or.inl (fun h => by rcases h with h | h; cases h; omega)))
            go_wp2_with fail
            exact ⟨⟨k + 1, x, so, hle, rfl, rfl, by go_num, HR.out, trivial⟩, by simp [Go.RowKit.intOf]; omega⟩
      · obtain rfl : k = l.length := by omega
        have HE := Lib.hid (scan_endU HU.out HSM.out HK.out (by have := HS.out; rwa [List.take_length] at this))
        clear HS
        cases so with
        | false =>
          have HEE := Lib.hid (HE.out.1 rfl)
          go_wp2_with fail
          go_ret
          exact ⟨_, rfl, by unfold circsN; rw [← HEE.out]; exact HO.out, HB.out⟩
        | true =>
          have hx := HE.out.2 rfl
          have HX := Lib.hid hx
          have HN := Lib.hid (leftK_next HU.out HK.out hx)
          have HCS := Lib.hid (show circL L2 (i + 1) = circL L2 i ++ (if 1 < (ringL L2 x).length then [ringL L2 x] else []) by
            obtain ⟨h1, h2⟩ := List.getElem?_eq_some_iff.1 hx
            rw [circL_succ h1, h2])
          have hcl := circL_len L2 i
          clear hx HE
          go_wp2_with fail
          refine (aroundU_any wo _ l L2 x (MovesAt.keep HV.out HB.out) hl HSM.out).mono ?_
          rintro e w5 ⟨vc, cs, rfl, hoc, hb5, hcs⟩
          have hcs' : cs = ringL L2 x := by
            rcases hcs with ⟨e, h⟩ | ⟨n, h, e⟩
            · rw [e, ringL_none h]
            · rw [e, ringL_some h]
          have hclen : cs.length ≤ 1000 := by
            rcases hcs with ⟨e, h⟩ | ⟨n, h, e⟩
            · rw [e]; simp
            · rw [e, orb_len]; have := h.len; omega
          clear hcs
          obtain ⟨Ac, cc, rfl⟩ := own_form hoc
          have hcap := own_cap hoc
          unfold maxLen at hcap
          have HOC := Lib.hid hoc
          have HB5 := Lib.hid (HB.out.trans (hb5.mono HB.out.size))
          have HO5 := Lib.hid (HO.out.below hb5)
          have hzo := HB.out.size
          rw [← hcs'] at HCS
          clear hoc hb5 hcs'
          by_cases hc1 : 1 < cs.length
          · have HC := Lib.hid (show circL L2 (i + 1) = circL L2 i ++ [cs] by rw [HCS.out, if_pos hc1])
            obtain ⟨vs, hvs, hrows⟩ := HO5.out
            obtain ⟨W1, hW1⟩ : ∃ W1, w5.alloc (.cells #[.slice Ac cs.length cc] 23) = W1 := ⟨_, rfl⟩
            have hb1 : Below w5.heap.size w5 W1 := by rw [← hW1]; exact (Below.refl _ _).alloc (Nat.le_refl _) _
            have hs1 : Str W1 w5.heap.size 23 [.slice Ac cs.length cc] := by rw [← hW1]; exact World.alloc_heap_new w5 _
            have hz0 := HB5.out.size
            have hz1 := hb1.size
            have HV1 := Lib.hid (own_same_row hvs (fun g cur hg => hb1.block g (Array.getElem?_eq_some_iff.1 hg).1))
            have HR1 := Lib.hid (show ∀ j (h : j < (circL L2 i).length), ∃ u, vs[j]? = some u ∧ OwnInts w.heap.size W1 u (circL L2 i)[j] from fun j hj => by
              obtain ⟨u, e, hu⟩ := hrows j hj
              exact ⟨u, e, own_same_row hu (fun g cur hg => hb1.block g (Array.getElem?_eq_some_iff.1 hg).1)⟩)
            have HOC1 := Lib.hid (show OwnInts w.heap.size W1 (.slice Ac cs.length cc) cs from own_base (own_same_row HOC.out (fun g cur hg => hb1.block g (Array.getElem?_eq_some_iff.1 hg).1)) hzo)
            have HB1 := Lib.hid (HB5.out.trans (hb1.mono HB5.out.size))
            have HS1 := Lib.hid hs1
            clear hb1 hs1 hvs hrows
            go_wp2_with (at_builtin; refine wpList_appendM rfl _ _ 45 rfl w.heap.size 23 i0 (.slice none 0 0) 1 24 Try.underlying45 HI.out HZ0.out HZ1.out HZ2.out rfl (by decide) _ (circL L2 i).length vs rfl HV1.out ⟨w5.heap.size, 0, none⟩ [.slice Ac cs.length cc] rfl rfl ?news ?one (by omega) (by omega) (by omega) ?_)
            case news =>
              intro j u hj
              rw [at_add0, HS1.out.cell j]
              exact hj
            case one =>
              intro u hu
              simp only [List.mem_cons, List.not_mem_nil, or_false] at hu
              rcases hu with rfl
              rfl
            intro v' w6 ho6 hg6 _
            have HO6 := Lib.hid (show OwnGrid w.heap.size w6 v' (circL L2 (i + 1)) by rw [HC.out]; exact OwnGrid.push HR1.out HV1.out HOC1.out hg6 ho6)
            have HB6 := Lib.hid (HB1.out.grown hg6 (by omega) (fun j e => (World.ownsRow.lt HV1.out j e).1))
            clear ho6 hg6 hW1
            go_wp2_with fail
            exact ⟨⟨i + 1, true, x, HN.out.2, rfl, rfl, HO6.out, HB6.out⟩, HN.out.1⟩
          · have HC := Lib.hid (show circL L2 (i + 1) = circL L2 i by rw [HCS.out, if_neg hc1, List.append_nil])
            go_wp2_with fail
            exact ⟨⟨i + 1, true, x, HN.out.2, rfl, rfl, by rw [HC.out]; exact HO5.out, HB5.out⟩, HN.out.1⟩
end Go.Proofs.Ytdohaoomckhbgaa.Vm
