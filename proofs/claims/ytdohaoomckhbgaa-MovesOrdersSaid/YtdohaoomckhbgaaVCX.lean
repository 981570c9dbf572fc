/- Moves, plainly: how many instructions an order of registers has. -/
import Derived.Test.YtdohaoomckhbgaaVCW
namespace Go.Proofs.Ytdohaoomckhbgaa.Vm
open Go.ChangeShapes Go.WideShapes Go.ChangeAt Go.RowKit Go.Maps Go.WideElems Go.ChangeMaps Go.Sort Go.Shelf Go.Proofs.Ytdohaoomckhbgaa.Mem Go.Proofs.Ytdohaoomckhbgaa.Br Go.Proofs.Ytdohaoomckhbgaa.Va Go.Proofs.Ytdohaoomckhbgaa.Vr
set_option linter.unusedVariables false
set_option linter.unusedSimpArgs false
theorem fold_some {α : Type} (g : α → Option (List PM)) (t : α → List PM) : ∀ (ms : List α) (a : List PM), (∀ m ∈ ms, g m = some (t m)) → ms.foldl (fun acc m => appO acc (g m)) (some a) = some (a ++ ms.flatMap t)
  | [], a, _ => by simp
  | m :: ms, a, h => by
    rw [List.foldl_cons, h m (by simp)]
    show ms.foldl _ (some (a ++ t m)) = _
    rw [fold_some g t ms _ (fun q hq => h q (by simp [hq])), List.flatMap_cons, List.append_assoc]
/-- Each of leastN's is the least of its circle. -/
theorem least_fold {R : List Mov} (hn : NoFree R) (hu : Uni R) : ∀ (ks pre : List Int) (s : List Int × List Int), keysN R = pre ++ ks → LInv R s → (∀ k ∈ pre, k ∈ s.2) → (∀ x ∈ s.1, ∀ i, x ≤ it (srcD R) x i) → ∀ x ∈ (ks.foldl (stepG (srcD R) R.length) s).1, ∀ i, x ≤ it (srcD R) x i
  | [], pre, s, _, _, _, h => h
  | k :: ks, pre, s, he, hl, hp, h => by
    have hk : isTo R k = true := keysN_mem.1 (by rw [he]; simp)
    have hC := per_closed hn hu hk
    obtain ⟨g1, g2, g3⟩ := linv_step hn hu hl hk
    refine least_fold hn hu ks (pre ++ [k]) _ (by rw [he]; simp) g1 (fun q hq => ?_) (fun x hx i => ?_)
    · rcases List.mem_append.1 hq with hq | hq
      · exact g2 q (hp q hq)
      · rw [List.mem_singleton.1 hq]; exact g3
    · unfold stepG at hx
      by_cases hc : s.2.contains k = true
      · rw [if_pos hc] at hx; exact h x hx i
      · rw [if_neg hc] at hx
        rcases List.mem_append.1 hx with hx | hx
        · exact h x hx i
        · rw [List.mem_singleton.1 hx]
          rcases Int.lt_or_le (it (srcD R) k i) k with h1 | h1
          · exfalso
            have h2 : it (srcD R) k i ∈ keysN R := keysN_mem.2 (it_to hn hu hk i)
            have hr := keysN_rise hu
            rw [he] at h2 hr
            rcases List.mem_append.1 h2 with h2 | h2
            · obtain ⟨x', hx', q, e⟩ := (hl.seen _).1 (hp _ h2)
              obtain ⟨q', e'⟩ := it_meet hC e
              exact hc (by simpa using (hl.seen k).2 ⟨x', hx', q', e'⟩)
            · rcases List.mem_cons.1 h2 with h2 | h2
              · omega
              · have := (List.pairwise_cons.1 (List.pairwise_append.1 hr).2.1).1 _ h2
                omega
          · exact h1
theorem least_least {R : List Mov} (hn : NoFree R) (hu : Uni R) : ∀ x ∈ leastN R, ∀ i, x ≤ it (srcD R) x i :=
  least_fold hn hu (keysN R) [] ([], []) rfl ⟨fun x h => (by cases h), List.Pairwise.nil, fun z => ⟨fun h => (by cases h), fun ⟨x, h, _⟩ => (by cases h)⟩⟩ (fun k h => (by cases h)) (fun x h => (by cases h))
/-- As many circles. -/
theorem circs_count {l es R : List Mov} (hu : Uni l) (hg : Goes (pendN l) es R) : (circsN l).length = (leastN R).length := by
  have hsub := hg.sub
  have hRu := hsub.2.2.2.2 (pendN_uni l)
  have hRn := hsub.2.2.2.1
  obtain ⟨l1, l2, l3⟩ := least_props hRn hRu
  have l4 := least_least hRn hRu
  have hsame : ∀ y, isTo R y = true → srcD l y = srcD R y ∧ isTo l y = true ∧ srcD R y ≠ y := fun y hy => by
    have hm := mem_pendN (hsub.1 _ (mem_src hRu hy))
    exact ⟨src_of_mem hu hm.1, isTo_iff.2 ⟨_, hm.1, rfl⟩, fun e => hm.2 e.symm⟩
  have hlen : (circsN l).length = ((keysN l).filter fun k => decide (1 < (ringL l k).length)).length := by
    unfold circsN circL
    rw [List.take_length, List.filter_map, List.length_map]; rfl
  rw [hlen]
  have hlR : ∀ x, isTo R x = true → ∀ i, it (srcD l) x i = it (srcD R) x i := fun x hx i => by
    induction i with
    | zero => rfl
    | succ i ih =>
      show srcD l (it (srcD l) x i) = srcD R (it (srcD R) x i)
      rw [ih, (hsame _ (it_to hRn hRu hx i)).1]
  have hring : ∀ x ∈ leastN R, ∃ N, 1 < N ∧ RingAt l x N := fun x hx => by
    have hC := per_closed hRn hRu (l1 x hx)
    have htoR := it_to hRn hRu (l1 x hx)
    refine ⟨_, ?_, ⟨⟨hC.1, by rw [hlR x (l1 x hx)]; exact hC.2.1, fun i h1 h2 => by rw [hlR x (l1 x hx)]; exact hC.2.2 i h1 h2⟩, fun j _ => by rw [hlR x (l1 x hx)]; exact (hsame _ (htoR j)).2.1, fun j h1 h2 => ?_⟩⟩
    · rcases Nat.lt_or_ge 1 (perD (srcD R) x R.length) with h | h
      · exact h
      · exfalso
        have e : perD (srcD R) x R.length = 1 := by have := hC.1; omega
        have := hC.2.1
        rw [e] at this
        exact (hsame x (l1 x hx)).2.2 this
    · rw [hlR x (l1 x hx)]
      have := l4 x hx j
      have := hC.2.2 j h1 h2
      omega
  have n1 : (leastN R).Nodup := l2.imp fun {a b} h e => h 0 0 e
  have n2 : ((keysN l).filter fun k => decide (1 < (ringL l k).length)).Nodup := List.Pairwise.filter _ ((keysN_rise hu).imp fun {a b} h => by omega)
  have h1 := php_len n1 (F := (keysN l).filter fun k => decide (1 < (ringL l k).length)) (fun x hx => by
    obtain ⟨N, hN, hr⟩ := hring x hx
    exact List.mem_filter.2 ⟨keysN_mem.2 (hsame x (l1 x hx)).2.1, by rw [ringL_some hr, orb_len]; simpa using hN⟩)
  have h2 := php_len n2 (F := leastN R) (fun k hk => by
    obtain ⟨hk1, hk2⟩ := List.mem_filter.1 hk
    by_cases hr : ∃ n, RingAt l k n
    · obtain ⟨n, hr⟩ := hr
      have hkR : isTo R k = true := (circs_iff hu hg k).1 ⟨ringL l k, by
        unfold circsN circL
        rw [List.take_length]
        exact List.mem_filter.2 ⟨List.mem_map.2 ⟨k, hk1, rfl⟩, hk2⟩, by rw [ringL_some hr]; exact mem_orb.2 ⟨0, hr.1.1, rfl⟩⟩
      obtain ⟨x, hx, q, e⟩ := l3 k hkR
      have hC := per_closed hRn hRu (l1 x hx)
      have h3 := l4 x hx q
      obtain ⟨q', e'⟩ := it_meet hC (i := 0) (y := k) (j := q) e.symm
      have h4 : k ≤ it (srcD l) k q' := by
        obtain ⟨j, hj, ej⟩ := it_orb hr.1 q'
        rw [← ej]
        by_cases hj0 : j = 0
        · rw [hj0]; exact Int.le_refl _
        · have := hr.2.2 j (by omega) hj; omega
      rw [hlR k hkR, e'] at h4
      have : k = x := by omega
      rw [this]; exact hx
    · rw [ringL_none (fun n h => hr ⟨n, h⟩)] at hk2
      simp at hk2)
  omega
theorem flat_sum1 {t : Int → List PM} {p : Int → Nat} : ∀ X : List Int, (∀ x ∈ X, (t x).length = p x + 1) → (X.flatMap t).length = (X.map p).sum + X.length
  | [], _ => rfl
  | x :: X, h => by
    rw [List.flatMap_cons, List.length_append, h x (by simp), flat_sum1 X (fun y hy => h y (by simp [hy])), List.map_cons, List.sum_cons, List.length_cons]; omega
theorem flat_sum2 {t : Int → List PM} {p : Int → Nat} : ∀ X : List Int, (∀ x ∈ X, (t x).length + 1 = p x) → (X.flatMap t).length + X.length = (X.map p).sum
  | [], _ => rfl
  | x :: X, h => by
    have := h x (by simp)
    have := flat_sum2 X (fun y hy => h y (by simp [hy]))
    rw [List.flatMap_cons, List.length_append, List.map_cons, List.sum_cons, List.length_cons]; omega
theorem swaps_len {f : Int → Int} {x : Int} {N : Nat} (hC : Closed f x N) : (swapsN x (circ f x N)).length + 1 = N := by
  have h : ∀ i, i < N → (swapsN x (circ f x i)).length = i := by
    intro i
    induction i with
    | zero => intro _; rfl
    | succ i ih =>
      intro hi
      rw [circ_succ, swapsN_snoc, if_neg (by simpa using hC.2.2 (i + 1) (by omega) hi), List.length_append, ih (by omega)]; rfl
  obtain ⟨n, rfl⟩ : ∃ n, N = n + 1 := ⟨N - 1, by have := hC.1; omega⟩
  rw [circ_succ, swapsN_snoc, if_pos (by have := hC.2.1; simpa using this), List.append_nil, h n (by omega)]
theorem bring_reg {sc sp a b : Int} (ha : a < 16) (hb : b < 16) : bringN sc sp a b = some [mMov a b] := by
  unfold bringN bringR
  rw [if_pos (Or.inl ha), if_pos ha, if_pos hb]
/-- P11.5's sizes: of registers alone. -/
theorem order_few {l : List Mov} (hu : Uni l) (hp : ∀ m ∈ l, PlM m) (hr : ∀ m ∈ l, m.1 < 16 ∧ m.2 < 16) :
    (∃ xs, orderN l 15 (-1) = (xs, 0) ∧ xs.length = (pendN l).length + (circsN l).length ∧ ∀ x ∈ xs, x.op = 1) ∧ ∃ ys, orderN l (-1) (-1) = (ys, 0) ∧ ys.length + (circsN l).length = (pendN l).length ∧ ∀ x ∈ ys, x.op = 1 ∨ x.op = 2 := by
  have hgo := goes_greedy l.length (pendN l) (pendN_len l)
  have f1 := fault_none hu hp (Or.inr rfl : (15 : Int) = -1 ∨ (15 : Int) = 15) (Or.inl (rfl : (-1 : Int) = -1))
  have f2 := fault_none hu hp (Or.inl rfl : (-1 : Int) = -1 ∨ (-1 : Int) = 15) (Or.inl (rfl : (-1 : Int) = -1))
  unfold orderN
  rw [if_pos f1, if_pos f2]
  generalize (greedyN l.length (pendN l)).1 = es at *
  generalize (greedyN l.length (pendN l)).2 = R at *
  have hsub := hgo.sub
  have hRu := hsub.2.2.2.2 (pendN_uni l)
  have hRn := hsub.2.2.2.1
  obtain ⟨r1, _, _, _⟩ := run_goes hgo (pendN_uni l) (fun _ => 0)
  obtain ⟨l1, _, _⟩ := least_props hRn hRu
  have hgl := goes_len hgo (pendN_uni l)
  have hls := least_sum hRn hRu
  rw [circs_count hu hgo]
  have hreg : ∀ x, isTo R x = true → x < 16 := fun x hx => by
    obtain ⟨m, hm, e⟩ := isTo_iff.1 hx
    rw [← e]; exact (hr m (mem_pendN (hsub.1 m hm)).1).1
  have hno : ∀ x ∈ leastN R, ¬ anySlot (orb (srcD R) x (perD (srcD R) x R.length)) = true := fun x hx h => by
    unfold anySlot at h
    rw [List.any_eq_true] at h
    obtain ⟨z, hz, h2⟩ := h
    obtain ⟨j, _, e⟩ := mem_orb.1 hz
    have := hreg _ (it_to hRn hRu (l1 x hx) j)
    rw [e] at this
    simp at h2
    omega
  have hes : ∀ sc : Int, seqO (bringG sc (-1)) es = some (es.flatMap fun m => [mMov m.1 m.2]) := fun sc => by
    unfold seqO
    rw [fold_some (bringG sc (-1)) (fun m => [mMov m.1 m.2]) es [] (fun m hm => by have := hr m (mem_pendN (r1 m hm)).1; exact bring_reg this.1 this.2), List.nil_append]
  have hesl : (es.flatMap fun m : Mov => [mMov m.1 m.2]).length = es.length := by
    have : ∀ c : List Mov, (c.flatMap fun m : Mov => [mMov m.1 m.2]).length = c.length := fun c => by
      induction c with
      | nil => rfl
      | cons m c ih => rw [List.flatMap_cons, List.length_append, ih]; simp only [List.length_cons, List.length_nil]; omega
    exact this es
  have heso : ∀ x ∈ (es.flatMap fun m : Mov => [mMov m.1 m.2]), x.op = 1 := fun x hx => by
    obtain ⟨m, _, h⟩ := List.mem_flatMap.1 hx
    rw [List.mem_singleton.1 h]; rfl
  refine ⟨?_, ?_⟩
  · have ht : ∀ x ∈ leastN R, turnG 15 (-1) R x = some (mMov 15 x :: (circ (srcD R) x (perD (srcD R) x R.length)).flatMap fun m => [mMov m.1 (if m.2 = x then 15 else m.2)]) := fun x hx => by
      show turnN 15 (-1) (srcD R) x (perD (srcD R) x R.length) = _
      unfold turnN
      rw [if_neg (hno x hx), if_pos (by omega)]
      unfold passN
      rw [bring_reg (by omega) (hreg x (l1 x hx))]
      unfold seqO
      rw [fold_some (passG 15 (-1) x 15) (fun m => [mMov m.1 (if m.2 = x then 15 else m.2)]) _ [] (fun m hm => by
        unfold circ at hm
        obtain ⟨i, _, rfl⟩ := List.mem_map.1 hm
        have h1 := hreg _ (it_to hRn hRu (l1 x hx) i)
        have h2 := hreg _ (it_to hRn hRu (l1 x hx) (i + 1))
        exact bring_reg h1 (by show (if it (srcD R) x (i + 1) = x then (15 : Int) else it (srcD R) x (i + 1)) < 16; split <;> omega)), List.nil_append]
      rfl
    have hc : carryN 15 (-1) es R = some ((es.flatMap fun m => [mMov m.1 m.2]) ++ (leastN R).flatMap fun x => mMov 15 x :: (circ (srcD R) x (perD (srcD R) x R.length)).flatMap fun m => [mMov m.1 (if m.2 = x then 15 else m.2)]) := by
      unfold carryN
      rw [hes 15]
      unfold seqP
      rw [fold_some (turnG 15 (-1) R) _ (leastN R) [] ht, List.nil_append]; rfl
    rw [hc]
    refine ⟨_, rfl, ?_, fun x hx => ?_⟩
    · rw [List.length_append, hesl, flat_sum1 (p := fun x => perD (srcD R) x R.length) (leastN R) (fun x hx => by
        rw [List.length_cons]
        congr 1
        have : ∀ c : List Mov, (c.flatMap fun m : Mov => [mMov m.1 (if m.2 = x then 15 else m.2)]).length = c.length := fun c => by
          induction c with
          | nil => rfl
          | cons m c ih => rw [List.flatMap_cons, List.length_append, ih]; simp only [List.length_cons, List.length_nil]; omega
        rw [this, circ_len]), hls]
      omega
    · rcases List.mem_append.1 hx with hx | hx
      · exact heso x hx
      · obtain ⟨y, _, h⟩ := List.mem_flatMap.1 hx
        rcases List.mem_cons.1 h with rfl | h
        · rfl
        · obtain ⟨m, _, h⟩ := List.mem_flatMap.1 h
          rw [List.mem_singleton.1 h]; rfl
  · have ht : ∀ x ∈ leastN R, turnG (-1) (-1) R x = some (swapsN x (circ (srcD R) x (perD (srcD R) x R.length))) := fun x hx => by
      show turnN (-1) (-1) (srcD R) x (perD (srcD R) x R.length) = _
      unfold turnN
      rw [if_neg (hno x hx), if_neg (by omega)]
    have hc : carryN (-1) (-1) es R = some ((es.flatMap fun m => [mMov m.1 m.2]) ++ (leastN R).flatMap fun x => swapsN x (circ (srcD R) x (perD (srcD R) x R.length))) := by
      unfold carryN
      rw [hes (-1)]
      unfold seqP
      rw [fold_some (turnG (-1) (-1) R) _ (leastN R) [] ht, List.nil_append]; rfl
    rw [hc]
    refine ⟨_, rfl, ?_, fun x hx => ?_⟩
    · have h2 := flat_sum2 (t := fun x => swapsN x (circ (srcD R) x (perD (srcD R) x R.length))) (p := fun x => perD (srcD R) x R.length) (leastN R) (fun x hx => swaps_len (per_closed hRn hRu (l1 x hx)))
      rw [List.length_append, hesl]
      omega
    · rcases List.mem_append.1 hx with hx | hx
      · exact Or.inl (heso x hx)
      · obtain ⟨y, _, h⟩ := List.mem_flatMap.1 hx
        unfold swapsN at h
        obtain ⟨m, _, rfl⟩ := List.mem_map.1 h
        exact Or.inr rfl
end Go.Proofs.Ytdohaoomckhbgaa.Vm
