/- Stage 7: how a run of machine code begins, does an instruction, and ends. -/
import Derived.Test.YtonheiaohgbbcaaGreatMQ
import Derived.Test.YtonheiaohgbbcaaGreatHeld
namespace Go.Proofs.YtonheiaohgbbcaaGreat.Mc
open Go.ChangeShapes Go.WideShapes Go.ChangeAt Go.RowKit Go.Maps Go.Proofs.YtonheiaohgbbcaaGreat.Mem Go.Proofs.YtonheiaohgbbcaaGreat.Kc Go.Proofs.YtonheiaohgbbcaaGreat.Pl Go.Proofs.YtonheiaohgbbcaaGreat.Mw Go.Proofs.YtonheiaohgbbcaaGreat.Br
set_option linter.unusedVariables false
set_option linter.unusedSimpArgs false
section
variable {P : Program}
def planF (md : Region.Mode) (ops : Array Oper) (st : List Nat) (alts : List (Nat × List Nat)) : List Nat → Array Bool → Bool
  | [], listed => decide (Region.ready md ops listed = alts.map (·.1)) && alts.all (fun p => !st.contains p.1 && planC md ops st p.2 (listed.setIfInBounds p.1 true))
  | i :: pre, listed => (st.contains i && (Region.free md ops listed i && (Region.ready md ops listed).contains i)) && planF md ops st alts pre (listed.setIfInBounds i true)
def walkF (P : Program) (ops : Array Oper) (Q : Exit → Act → World → Prop) (S : World → Prop) (st : List Nat) (alts : List (Nat × List Nat)) : List Nat → Act → World → Prop
  | [], a, w => ∀ p ∈ alts, walkC P ops Q S st (p.1 :: p.2) a w
  | i :: pre, a, w => ∃ o v, ops[i]? = some o ∧ YieldsIf P ops S o v a ∧ walkF P ops Q S st alts pre (a.put o.dst v) w
theorem wpAnyT_planF {md : Region.Mode} {ops : Array Oper} {Q : Exit → Act → World → Prop} {S : World → Prop} {st : List Nat} {alts : List (Nat × List Nat)} (hs : Region.noSelect ops = true) (hQ : ∀ c a d v w, Q (.panic c) (Act.put a d v) w → Q (.panic c) a w)
    (n : Nat) (hn : ∀ p ∈ alts, p.2.length = n) (hne : alts ≠ []) :
    ∀ (pre : List Nat) (listed : Array Bool) (a : Act) (w : World), planF md ops st alts pre listed = true → S w → walkF P ops Q S st alts pre a w → wpAnyT P md ops Q S (pre.length + (n + 1)) listed a w
  | [], listed, a, w, hp, hS, h => by
    unfold planF at hp
    unfold walkF at h
    rw [Bool.and_eq_true] at hp
    obtain ⟨hp1, hp2⟩ := hp
    have hr := of_decide_eq_true hp1
    rw [List.all_eq_true] at hp2
    rw [show ([] : List Nat).length + (n + 1) = n + 1 by simp]
    refine ⟨fun e => ?_, fun j hj => ?_⟩
    · rw [hr] at e
      cases alts with
      | nil => exact absurd rfl hne
      | cons p l => simp at e
    · rw [hr] at hj
      obtain ⟨p, hp, rfl⟩ := List.mem_map.1 hj
      have h2 := hp2 p hp
      rw [Bool.and_eq_true] at h2
      have hc : st.contains p.1 = false := by have := h2.1; revert this; cases st.contains p.1 <;> simp
      have hw := h p hp
      unfold walkC at hw
      rw [if_neg (by rw [hc]; simp)] at hw
      have hl := hn p hp
      exact wpOp_mono (fun a' w' h' => ⟨Or.inl h'.1, by rw [← hl]; exact wpAnyT_planC hs hQ p.2 _ _ _ h2.2 h'.1 h'.2⟩) hw
  | i :: pre, listed, a, w, hp, hS, h => by
    unfold planF at hp
    unfold walkF at h
    rw [Bool.and_eq_true, Bool.and_eq_true, Bool.and_eq_true] at hp
    obtain ⟨⟨hi, hp1, hp1'⟩, hp2⟩ := hp
    obtain ⟨o, v, ho, hy, h⟩ := h
    rw [show (i :: pre).length + (n + 1) = (pre.length + (n + 1)) + 1 by simp; omega]
    exact wpAnyT_first ho (Region.noSelect_spec hs) (fun c a w => hQ c a _ v w) _ _ _ _ (Region.free_spec ho hp1) (by simpa using hp1') hy hS (wpAnyT_planF hs hQ n hn hne pre _ _ _ hp2 hS h)
theorem region_fork_wp {id : Nat} {l : List Oper} {Q : Exit → Act → World → Prop} {a : Act} {w : World} (S : World → Prop) (st pre : List Nat) (alts : List (Nat × List Nat)) (n : Nat) (hm : P.follows .mixedOrders = true)
    (hs : Region.noSelect l.toArray = true) (hB : planF .any l.toArray st alts pre (Array.replicate l.toArray.size false) = true) (hn : ∀ p ∈ alts, p.2.length = n) (hne : alts ≠ []) (hl : pre.length + (n + 1) = l.toArray.size) (hpan : ∀ c a d v w, Q (.panic c) (Act.put a d v) w → Q (.panic c) a w)
    (hS : S { w with drawn := w.drawn + 1 }) (h : walkF P l.toArray Q S st alts pre a { w with drawn := w.drawn + 1 }) : (Code.region id l.toArray true).wp P Q a w := by
  refine wp_region_any hm (wpAny_of_T (S := S) _ _ _ _ ?_)
  have h2 := wpAnyT_planF hs hpan n hn hne pre _ _ _ hB hS h
  rw [hl] at h2
  exact h2
theorem walkF_still {ops : Array Oper} {Q : Exit → Act → World → Prop} {S : World → Prop} {st pre : List Nat} {alts : List (Nat × List Nat)} {i : Nat} {a : Act} {w : World} (o : Oper) (v : Value) (ho : (ops.toList.drop i).head? = some o)
    (hw : Region.wanted o (yielded ops a.tmps) = true) (hy : ∀ w, S w → (execOp a.eval o).run P w = .ok (.value v) w) (h : walkF P ops Q S st alts pre (a.put o.dst v) w) : walkF P ops Q S st alts (i :: pre) a w := by
  unfold walkF
  exact ⟨o, v, at_drop ho, Or.inl ⟨hw, hy⟩, h⟩
theorem walkF_two {ops : Array Oper} {Q : Exit → Act → World → Prop} {S : World → Prop} {st l l' : List Nat} {i j : Nat} {a : Act} {w : World} (h : walkC P ops Q S st (i :: l) a w) (h' : walkC P ops Q S st (j :: l') a w) : walkF P ops Q S st [(i, l), (j, l')] [] a w := by
  unfold walkF
  intro p hp
  simp only [List.mem_cons, List.not_mem_nil, or_false] at hp
  rcases hp with rfl | rfl
  · exact h
  · exact h'
end
theorem make_vals (w : World) : (Instr.makeMap 83 none).run Tryz.prog w = .ok (.map (some w.heap.size)) (w.alloc (.map #[] 0)) := by kernel_rfl
/-- The words that values have when k parameters are set. -/
def parV (l : List Int) (k : Nat) : Int → Int := fun x => if 0 ≤ x ∧ x < k then l.getD x.toNat 0 else 0
theorem parV_none (l : List Int) : (fun _ => 0) = parV l 0 := by
  funext x
  unfold parV
  rw [if_neg (by omega)]
theorem parV_next (l : List Int) (k : Nat) (h : k < l.length) : upd (parV l k) k l[k] = parV l (k + 1) := by
  funext x
  unfold upd parV
  by_cases e : x = (k : Int)
  · rw [if_pos e, if_pos (by omega), e, Int.toNat_natCast, List.getD_eq_getElem?_getD, List.getElem?_eq_getElem h]; rfl
  · rw [if_neg e]
    by_cases g : 0 ≤ x ∧ x < (k : Int)
    · rw [if_pos g, if_pos (by omega)]
    · rw [if_neg g, if_neg (by omega)]
/-- What begin has made, when k parameters are set. -/
structure BegunAt (w : World) (rb mb cc : Nat) (av mv nv mm : Value) (lim : Int) (k : Nat) (al ml : List Int) (w' : World) : Prop where
  below : Below w.heap.size w w'
  box : Str w' w.heap.size 27 [av, mv, nv, .int .i64 lim]
  run : RunAt w' rb mb cc av mv nv mm (.slice none 0 0) lim (parV al k) 0
  cc : cc ≤ 2 * k
  own : OwnWords w.heap.size w' mm (ml.take 4096)
  r1 : w.heap.size < rb
  r2 : w.heap.size < mb
  m1 : mm.ownBlock ≠ some rb
  m2 : mm.ownBlock ≠ some mb
theorem BegunAt.next {w w1 w2 : World} {rb mb cc c2 : Nat} {av mv nv mm : Value} {lim : Int} {k : Nat} {al ml : List Int} (h : BegunAt w rb mb cc av mv nv mm lim k al ml w1) (hb : But mb w1 w2) (hc : c2 ≤ 2 * (k + 1)) (hv : ValsAt w2 mb c2 (parV al (k + 1))) : BegunAt w rb mb c2 av mv nv mm lim (k + 1) al ml w2 where
  below := h.below.trans (below_of_but hb (Nat.le_of_lt h.r2) (Nat.le_trans (Nat.le_refl _) h.below.size))
  box := hb.str h.box (by have := h.r2; omega)
  run := ⟨hb.str h.run.str h.run.ne, hv, h.run.ne⟩
  cc := hc
  own := World.ownsRow.kept h.own ⟨hb.os, hb.tape, hb.output, hb.size, fun i hi hn => hb.block i hi (fun e => hn (by rw [e]))⟩ (Or.inr h.m2)
  r1 := h.r1
  r2 := h.r2
  m1 := h.m1
  m2 := h.m2
def BeginPost (av mv nv : Value) (lim : Int) (params : Nat) (al ml : List Int) (w : World) (en : Ending) (w' : World) : Prop :=
  ∃ rb mb cc mm, en = .returned (.pointer (some ⟨rb, 0, none⟩)) ∧ BegunAt w rb mb cc av mv nv mm lim (min params al.length) al ml w'
set_option maxRecDepth 100000 in
set_option maxHeartbeats 4000000 in
theorem begin_any (w : World) (params : Nat) (hp : params ≤ 4) (av mv nv : Value) (lim : Int) (al ml : List Int) (ha : WordsAt w av al) (h : WordsAt w mv ml) :
    Calls Tryz.prog 35 #[.int .i64 params, .agg #[av, mv, nv, .int .i64 lim]] w (BeginPost av mv nv lim params al ml w) := by
  have H := Lib.hid h
  obtain ⟨A, ca, rfl, n1, n2, n3⟩ := ha
  unfold maxLen at n2
  have HA := Lib.hid n3
  clear h n3
  go_enter Tryz.func35, Tryz.ntmps35
  go_wp2_with fail
  obtain ⟨W1, hW1⟩ : ∃ W1, w.alloc (.cells #[(.slice A al.length ca), mv, nv, .int .i64 lim] 27) = W1 := ⟨_, rfl⟩
  rw [hW1]
  have hb1 : Below w.heap.size w W1 := by rw [← hW1]; exact (Below.refl _ _).alloc (Nat.le_refl _) _
  have hs1 : Str W1 w.heap.size 27 [(.slice A al.length ca), mv, nv, .int .i64 lim] := by rw [← hW1]; exact World.alloc_heap_new w _
  have hz1 : W1.heap.size = w.heap.size + 1 := by rw [← hW1]; simp
  have c0 : W1.cell? ⟨w.heap.size, 0, none⟩ = some (.slice A al.length ca) := hs1.cell 0
  have c1 : W1.cell? ⟨w.heap.size, 1, none⟩ = some mv := hs1.cell 1
  have c2 : W1.cell? ⟨w.heap.size, 2, none⟩ = some nv := hs1.cell 2
  have c3 : W1.cell? ⟨w.heap.size, 3, none⟩ = some (.int .i64 lim) := hs1.cell 3
  have HS1 := Lib.hid hs1
  have HB1 := Lib.hid hb1
  clear hW1 hb1 hs1
  rename_i K hK
  have J : ∀ (rb mb : Nat) (mm : Value) (wj : World), BegunAt w rb mb 0 (.slice A al.length ca) mv nv mm lim 0 al ml wj → K ⟨#[.int .i64 params, .agg #[.slice A al.length ca, mv, nv, .int .i64 lim], undef, .pointer (some ⟨w.heap.size, 0, none⟩), .pointer none, .pointer (some ⟨rb, 0, none⟩), undef, undef, .agg #[.slice A al.length ca, mv, nv, .int .i64 lim], .map (some mb), .agg #[.slice A al.length ca, mv, nv, .int .i64 lim], mm, .agg #[.slice A al.length ca, mv, nv, .int .i64 lim, .map (some mb), mm, .slice none 0 0, .int .i64 0], .pointer (some ⟨rb, 0, none⟩), undef, undef, undef, undef, undef, undef, undef, undef, undef, undef, undef, undef, undef, undef, undef, undef, undef, undef, undef, undef, undef, undef, undef], []⟩ wj := by
    intro rb mb mm wj hj
    apply hK
    have HJ := Lib.hid hj
    have b0 : wj.cell? ⟨w.heap.size, 0, none⟩ = some (.slice A al.length ca) := hj.box.cell 0
    clear hj
    clear c0 c1 c2 c3 HS1 HB1 hz1 H
    obtain ⟨n, hn⟩ : ∃ n, min params al.length = n := ⟨_, rfl⟩
    have hmn : min (params : Int) (al.length : Int) = (n : Int) := by omega
    have hnl : n ≤ al.length := by omega
    have hnp : n ≤ params := by omega
    have HN := Lib.hid hn
    clear hn
    go_wp2_with fail
    go_loopw [6, 7, 23] (fun _ _ i wr => ∃ k cc : Nat, k ≤ n ∧ i = .int .i64 k ∧ BegunAt w rb mb cc (.slice A al.length ca) mv nv mm lim k al ml wr) (fun _ _ i _ => n - (intOf i).toNat)
    case atStart => exact ⟨0, 0, Nat.zero_le _, rfl, HJ.out⟩
    case round =>
      obtain ⟨k, cc, hk, rfl, hb⟩ := hrel
      have HB := Lib.hid hb
      have hcc := hb.cc
      have hr1 := hb.r1
      have hr2 := hb.r2
      clear hb
      by_cases hlt : k < n
      · have hal : k < al.length := by omega
        obtain ⟨ad, rfl, hc⟩ := HA.out k hal
        have hc1 : wr.cell? (ad.add k) = some (.int .i32 al[k]) := cell_keep HB.out.below (Nat.le_refl _) hc
        have k4 := HB.out.run.c4
        have HP := Lib.hid (parV_next al k hal)
        clear hc b0
        generalize al[k] = x at *
        go_wp2_with fail
        refine (fileset_any wr mb cc _ HB.out.run.map k x ⟨by omega, by omega⟩ (by omega)).mono ?_
        rintro e' w2 ⟨rfl, hv, hbt⟩
        rw [HP.out] at hv
        have HNX := Lib.hid (HB.out.next hbt (c2 := cc + 1) (by omega) hv)
        clear hv hbt hc1 k4
        go_wp2_with fail
        exact ⟨⟨k + 1, cc + 1, by omega, by go_num, HNX.out⟩, by simp [intOf]; omega⟩
      · obtain rfl : k = n := by omega
        go_wp2_with fail
        go_ret
        exact ⟨rb, mb, cc, mm, rfl, by rw [HN.out]; exact HB.out⟩
  refine region_fork_wp (fun w' => w'.cell? ⟨w.heap.size, 0, none⟩ = some (.slice A al.length ca) ∧ w'.cell? ⟨w.heap.size, 1, none⟩ = some mv ∧ w'.cell? ⟨w.heap.size, 2, none⟩ = some nv ∧ w'.cell? ⟨w.heap.size, 3, none⟩ = some (.int .i64 lim)) [0, 2, 4, 6] [0, 2] [(1, [3, 4, 5, 6]), (3, [1, 4, 5, 6])] 4 (by kernel_rfl) (by kernel_rfl) (by kernel_rfl) (by decide) (by simp) rfl (by intro c a d v w h; cases d <;> exact h) ⟨c0, c1, c2, c3⟩ ?_
  refine walkF_still _ ?s0 rfl rfl ?sy0 ?_
  case sy0 => intro w hS; go_simp; first | done | with_reducible rfl
  simp only [Act.put]
  refine walkF_still _ ?s2 rfl rfl ?sy2 ?_
  case sy2 => intro w hS; go_simp; first | done | with_reducible rfl
  simp only [Act.put]
  simp only [List.setIfInBounds_toArray, List.set_cons_zero, List.set_cons_succ]
  refine walkF_two ?fst ?snd
  case fst =>
    refine walkC_does _ rfl rfl ?_
    go_wp2_with fail
    rw [make_vals]
    go_wp2
    obtain ⟨W2, hW2⟩ : ∃ W2, (W1.alloc (.map #[] 0)).drew = W2 := ⟨_, rfl⟩
    have hv2 : ValsAt W2 W1.heap.size 0 (fun _ => 0) := by rw [← hW2]; exact (ValsAt.made W1).below (Below.refl _ _).drew
    have hb2 : Below W1.heap.size W1 W2 := by rw [← hW2]; exact ((Below.refl _ _).alloc (Nat.le_refl _) _).drew
    have hz2 : W2.heap.size = W1.heap.size + 1 := by rw [← hW2]; simp
    have c0 := cell_keep hb2 (Nat.le_refl _) c0
    have c1 := cell_keep hb2 (Nat.le_refl _) c1
    have c2 := cell_keep hb2 (Nat.le_refl _) c2
    have c3 := cell_keep hb2 (Nat.le_refl _) c3
    refine behindC ⟨by rw [hW2]; exact c0, by rw [hW2]; exact c1, by rw [hW2]; exact c2, by rw [hW2]; exact c3⟩ ?_
    refine walkC_does _ rfl rfl ?_
    rw [hW2]
    go_wp2_with fail
    refine (memory_any _ _ mv nv lim ml (H.out.below (HB1.out.trans (hb2.mono HB1.out.size)))).mono ?_
    rintro e w4 ⟨mm, rfl, hm, hb4⟩
    go_wp2
    obtain ⟨mA, mn, mc, rfl⟩ := hm.slice
    have c0 := cell_keep hb4 (Nat.le_refl _) c0
    have c1 := cell_keep hb4 (Nat.le_refl _) c1
    have c2 := cell_keep hb4 (Nat.le_refl _) c2
    have c3 := cell_keep hb4 (Nat.le_refl _) c3
    refine behindC ⟨c0, c1, c2, c3⟩ ?_
    refine walkC_still _ ?p4 rfl rfl rfl ?py4 ?_
    case py4 => intro w hS; go_simp; first | done | with_reducible rfl
    simp only [Act.put]
    refine walkC_does _ rfl rfl ?_
    go_wp2
    have hb5 : Below w4.heap.size w4 (w4.alloc (.cells #[(.slice A al.length ca), mv, nv, .int .i64 lim, .map (some (w.heap.size + 1)), (.slice mA mn mc), .slice none 0 0, .int .i64 0] 85)) := (Below.refl _ _).alloc (Nat.le_refl _) _
    refine behindC ⟨cell_keep hb5 (Nat.le_refl _) c0, cell_keep hb5 (Nat.le_refl _) c1, cell_keep hb5 (Nat.le_refl _) c2, cell_keep hb5 (Nat.le_refl _) c3⟩ ?_
    refine walkC_still _ ?g6 rfl rfl rfl ?gy6 ?_
    case gy6 => intro w hS; go_simp; first | done | with_reducible rfl
    simp only [Act.put]
    refine walkC_nil ?_
    simp only [List.setIfInBounds_toArray, List.set_cons_zero, List.set_cons_succ]
    refine J w4.heap.size (w.heap.size + 1) (.slice mA mn mc) _ ?_
    rw [hz1] at hv2 hz2
    have hs4 : w.heap.size + 2 ≤ w4.heap.size := by have := hb4.size; omega
    have hb25 := hb4.trans (hb5.mono hb4.size)
    exact {
      below := (HB1.out.trans (hb2.mono HB1.out.size)).trans (hb25.mono (by omega))
      box := ((HS1.out.below hb2).below hb4).below hb5
      run := ⟨World.alloc_heap_new w4 _, by rw [← parV_none]; exact hv2.below hb25, by omega⟩
      cc := Nat.zero_le _
      own := (hm.below hb5).mono (by omega)
      r1 := by omega
      r2 := by omega
      m1 := by intro e; have := (hm.where_ e).2; omega
      m2 := by intro e; have := (hm.where_ e).1; omega }
  case snd =>
    refine walkC_does _ rfl rfl ?_
    go_wp2_with fail
    refine (memory_any _ _ mv nv lim ml (H.out.below HB1.out.drew)).mono ?_
    rintro e w3 ⟨mm, rfl, hm, hb3⟩
    go_wp2
    have hb3 : Below W1.heap.size W1 w3 := (Below.refl _ _).drew.trans hb3
    obtain ⟨mA, mn, mc, rfl⟩ := hm.slice
    have c0 := cell_keep hb3 (Nat.le_refl _) c0
    have c1 := cell_keep hb3 (Nat.le_refl _) c1
    have c2 := cell_keep hb3 (Nat.le_refl _) c2
    have c3 := cell_keep hb3 (Nat.le_refl _) c3
    refine behindC ⟨c0, c1, c2, c3⟩ ?_
    refine walkC_does _ rfl rfl ?_
    go_wp2_with fail
    rw [make_vals]
    go_wp2
    obtain ⟨W2, hW2⟩ : ∃ W2, w3.alloc (.map #[] 0) = W2 := ⟨_, rfl⟩
    have hv2 : ValsAt W2 w3.heap.size 0 (fun _ => 0) := by rw [← hW2]; exact ValsAt.made w3
    have hb2 : Below w3.heap.size w3 W2 := by rw [← hW2]; exact (Below.refl _ _).alloc (Nat.le_refl _) _
    have hz2 : W2.heap.size = w3.heap.size + 1 := by rw [← hW2]; simp
    rw [hW2]
    have c0 := cell_keep hb2 (Nat.le_refl _) c0
    have c1 := cell_keep hb2 (Nat.le_refl _) c1
    have c2 := cell_keep hb2 (Nat.le_refl _) c2
    have c3 := cell_keep hb2 (Nat.le_refl _) c3
    refine behindC ⟨c0, c1, c2, c3⟩ ?_
    refine walkC_still _ ?q4 rfl rfl rfl ?qy4 ?_
    case qy4 => intro w hS; go_simp; first | done | with_reducible rfl
    simp only [Act.put]
    refine walkC_does _ rfl rfl ?_
    go_wp2
    have hb5 : Below W2.heap.size W2 (W2.alloc (.cells #[(.slice A al.length ca), mv, nv, .int .i64 lim, .map (some w3.heap.size), (.slice mA mn mc), .slice none 0 0, .int .i64 0] 85)) := (Below.refl _ _).alloc (Nat.le_refl _) _
    refine behindC ⟨cell_keep hb5 (Nat.le_refl _) c0, cell_keep hb5 (Nat.le_refl _) c1, cell_keep hb5 (Nat.le_refl _) c2, cell_keep hb5 (Nat.le_refl _) c3⟩ ?_
    refine walkC_still _ ?h6 rfl rfl rfl ?hy6 ?_
    case hy6 => intro w hS; go_simp; first | done | with_reducible rfl
    simp only [Act.put]
    refine walkC_nil ?_
    simp only [List.setIfInBounds_toArray, List.set_cons_zero, List.set_cons_succ]
    refine J (w3.heap.size + 1) w3.heap.size (.slice mA mn mc) _ ?_
    have hs3 := hb3.size
    have hst := World.alloc_heap_new W2 (.cells #[(.slice A al.length ca), mv, nv, .int .i64 lim, .map (some w3.heap.size), (.slice mA mn mc), .slice none 0 0, .int .i64 0] 85)
    rw [hz2] at hst
    have hb35 := hb2.trans (hb5.mono hb2.size)
    exact {
      below := (HB1.out.trans (hb3.mono HB1.out.size)).trans (hb35.mono (by omega))
      box := ((HS1.out.below hb3).below hb2).below hb5
      run := ⟨hst, by rw [← parV_none]; exact hv2.below hb5, by omega⟩
      cc := Nat.zero_le _
      own := (hm.below hb35).mono (by simp; omega)
      r1 := by omega
      r2 := by omega
      m1 := by intro e; have := (hm.where_ e).2; omega
      m2 := by intro e; have := (hm.where_ e).2; omega }
end Go.Proofs.YtonheiaohgbbcaaGreat.Mc
