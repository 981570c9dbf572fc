/- Stage 4: own, Memory, begin. -/
import Derived.Test.YtcangooibfddmaaIA
import Derived.Test.YtcangooibfddmaaHeld
/- Stage 4: rows of words, and what interp's own and Memory make. -/
namespace Go.Proofs.Ytcangooibfddmaa.Ic
open Go.ChangeShapes Go.WideShapes Go.ChangeAt Go.RowKit Go.Maps Go.Proofs.Ytcangooibfddmaa.Mem Go.Proofs.Ytcangooibfddmaa.Kc Go.Proofs.Ytcangooibfddmaa.Br Go.Proofs.Ytcangooibfddmaa.Pl Go.Proofs.Ytcangooibfddmaa.Gr
set_option linter.unusedVariables false
/-- The slice v reads as the words l. -/
def WordsAt (w : World) (v : Value) (l : List Int) : Prop :=
  ∃ (A : Option Addr) (c : Nat), v = .slice A l.length c ∧ l.length ≤ c ∧ c ≤ maxLen ∧ ∀ k (h : k < l.length), ∃ ad, A = some ad ∧ w.cell? (ad.add k) = some (.int .i32 l[k])
def OwnWords (B : Nat) (w : World) (v : Value) (l : List Int) : Prop := w.ownsRow B 21 1 v l.length (l.map (Value.int .i32))
theorem OwnWords.mono {B B' : Nat} {w : World} {v : Value} {l : List Int} (h : OwnWords B w v l) (hb : B' ≤ B) : OwnWords B' w v l := by
  obtain ⟨h1, h2⟩ := h
  refine ⟨h1, ?_⟩
  rcases h2 with h2 | ⟨g, cap, cur, hv, hbg, hrest⟩
  · exact Or.inl h2
  · exact Or.inr ⟨g, cap, cur, hv, Nat.le_trans hb hbg, hrest⟩
theorem WordsAt.below {w w' : World} {v : Value} {l : List Int} (h : WordsAt w v l) (hb : Below w.heap.size w w') : WordsAt w' v l := by
  obtain ⟨A, c, e, h1, h2, h3⟩ := h
  refine ⟨A, c, e, h1, h2, fun k hk => ?_⟩
  obtain ⟨ad, e, hc⟩ := h3 k hk
  exact ⟨ad, e, cell_keep hb (Nat.le_refl _) hc⟩
theorem WordsAt.none_ (w : World) : WordsAt w (.slice none 0 0) [] := ⟨none, 0, rfl, Nat.le_refl _, by unfold maxLen; omega, fun k h => absurd h (by simp)⟩
theorem WordsAt.take {w : World} {A : Option Addr} {n c : Nat} {l : List Int} (h : WordsAt w (.slice A n c) l) (m : Nat) (hm : m ≤ n) : WordsAt w (.slice A m c) (l.take m) := by
  obtain ⟨A', c', e, h1, h2, h3⟩ := h
  injection e with e1 e2 e3
  subst e1 e2 e3
  have hl : (l.take m).length = m := by rw [List.length_take]; omega
  refine ⟨A, c, by rw [hl], by omega, h2, fun k hk => ?_⟩
  obtain ⟨ad, e, hc⟩ := h3 k (by omega)
  exact ⟨ad, e, by rw [hc, List.getElem_take]⟩
theorem info_word : (Try.prog.info? 21).map (fun i => (i.zero, i.size, i.bytes)) = some (some (.int .i32 0), 1, 4) := by kernel_rfl
theorem append_none (w : World) (c : Nat) : (Builtin.append_ #[42, 42] 42 #[.slice none 0 0, .slice none 0 c]).run Try.prog w = .ok (.slice none 0 0) w := by
  kernel_rfl
theorem below_of_grown {w w' : World} (h : w.grownBy w' none) : Below w.heap.size w w' := ⟨h.os, h.tape, h.output, h.size, fun k hk => h.block k hk (by simp)⟩
set_option maxRecDepth 100000 in
theorem run_own (w : World) (v : Value) (l : List Int) (h : WordsAt w v l) (hl : l.length ≤ 1000000) :
    ∃ v' w', (Builtin.append_ #[42, 42] 42 #[.slice none 0 0, v]).run Try.prog w = .ok v' w' ∧ OwnWords w.heap.size w' v' l ∧ Below w.heap.size w w' := by
  obtain ⟨A, c, rfl, h1, h2, h3⟩ := h
  obtain ⟨i0, hi, hz0, hz1, hz2⟩ := info_parts info_word
  cases A with
  | none =>
    cases l with
    | nil => exact ⟨_, w, append_none w c, World.ownsRow_nil _ _ _ _, Below.refl _ _⟩
    | cons x l =>
      obtain ⟨ad, e, _⟩ := h3 0 (by simp)
      cases e
  | some ad =>
    have hc : ∀ j u, (l.map (Value.int .i32))[j]? = some u → w.cell? (ad.add j) = some u := by
      intro j u hj
      rw [List.getElem?_map] at hj
      by_cases hlt : j < l.length
      · rw [List.getElem?_eq_getElem hlt] at hj
        obtain ⟨ad', e, hc⟩ := h3 j hlt
        injection e with e
        subst e
        rw [hc]; exact hj
      · rw [List.getElem?_eq_none (by omega)] at hj
        cases hj
    obtain ⟨v', w', hr, r1, r2, _⟩ := run_append_own (P := Try.prog) w w.heap.size 42 42 21 i0 (.int .i32 0) 1 4 Try.underlying42 hi hz0 hz1 hz2 rfl (by decide) (.slice none 0 0) 0 [] (World.ownsRow_nil _ _ _ _) ad l.length c (l.map (Value.int .i32)) (by rw [List.length_map, Nat.mul_one]) hc
      (by intro u hu; obtain ⟨x, _, rfl⟩ := List.mem_map.1 hu; rfl) (by unfold maxLen; omega) (by omega) (Nat.le_refl _)
    refine ⟨v', w', hr, ?_, below_of_grown r2⟩
    rw [Nat.zero_add, List.nil_append] at r1
    exact r1
theorem wpList_own {w : World} {ops : Array Oper} {rest : List Oper} {o : Oper} {a : Act} {Q : Exit → Act → World → Prop} (hgd : o.guard = none) (s x : Operand)
    (ho : o.op = .call { callee := .builtin .append, args := #[s, x], argTypes := #[42, 42] }) (ht : o.type = 42) (l : List Int) (hs : a.eval s = .slice none 0 0) (h : WordsAt w (a.eval x) l) (hl : l.length ≤ 1000000)
    (hK : ∀ v' w', OwnWords w.heap.size w' v' l → Below w.heap.size w w' → wpList Try.prog ops Q rest (a.put o.dst v') w') : wpList Try.prog ops Q (o :: rest) a w := by
  refine wpList_plain hgd fun K hK' => ?_
  obtain ⟨v', w', hr, h2, h3⟩ := run_own w _ l h hl
  unfold Oper.wp execOp
  simp only [ho, resolve, invoke, builtin, Sem.run_bind, Sem.run_pure, Result.andThen_ok, List.map_toArray, List.map_cons, List.map_nil, hs, ht, hr]
  exact hK' _ _ (hK v' w' h2 h3)
def OwnPost (l : List Int) (w : World) (en : Ending) (w' : World) : Prop := ∃ v, en = .returned v ∧ OwnWords w.heap.size w' v l ∧ Below w.heap.size w w'
set_option maxRecDepth 100000 in
theorem own_any (w : World) (v : Value) (l : List Int) (h : WordsAt w v l) (hl : l.length ≤ 1000000) :
    Calls Try.prog 119 #[v] w (OwnPost l w) := by
  have H := Lib.hid h
  clear h
  go_enter Try.func119, Try.ntmps119
  go_wp2_with (at_builtin; refine wpList_own rfl _ _ rfl rfl l rfl H.out hl ?_)
  intro v' w' h1 h2
  go_wp2
  go_ret
  exact ⟨v', rfl, h1, h2⟩
def MemPost (l : List Int) (w : World) (en : Ending) (w' : World) : Prop := ∃ v, en = .returned v ∧ OwnWords w.heap.size w' v (l.take 4096) ∧ Below w.heap.size w w'
set_option maxRecDepth 100000 in
theorem memory_any (w : World) (av mv nv : Value) (lim : Int) (l : List Int) (h : WordsAt w mv l) :
    Calls Try.prog 96 #[.agg #[av, mv, nv, .int .i64 lim]] w (MemPost l w) := by
  have H := Lib.hid h
  obtain ⟨A, c, rfl, h1, h2, h3⟩ := h
  unfold maxLen at h2
  clear h3
  have hm : (min (l.length : Int) 4096).toNat ≤ l.length := by omega
  have ht : l.take (min (l.length : Int) 4096).toNat = l.take 4096 := by
    by_cases hc : l.length ≤ 4096
    · rw [List.take_of_length_le (by omega), List.take_of_length_le hc]
    · rw [show (min (l.length : Int) 4096).toNat = 4096 by omega]
  go_enter Try.func96, Try.ntmps96
  go_wp2_with fail
  have hb : Below w.heap.size w (w.alloc (.cells #[av, .slice A l.length c, nv, .int .i64 lim] 50)) := (Below.refl _ _).alloc (Nat.le_refl _) _
  refine (own_any _ _ (l.take 4096) (by rw [← ht]; exact ((H.out.below hb).take _ hm)) (by rw [List.length_take]; omega)).mono ?_
  rintro e w2 ⟨v, rfl, hv, hb2⟩
  have hb3 := hb.trans (hb2.mono hb.size)
  have HV := Lib.hid (OwnWords.mono hv hb.size)
  clear hv hb hb2
  go_wp2
  go_ret
  exact ⟨v, rfl, HV.out, hb3⟩
end Go.Proofs.Ytcangooibfddmaa.Ic
/- A region that draws its order, where two operations may come first, one or the other: walked both ways. -/
namespace Go.Proofs.Ytcangooibfddmaa.Br
open Go Go.RowKit Go.Proofs.Ytcangooibfddmaa.Mem
set_option linter.unusedVariables false
variable {P : Program}
def planF (md : Region.Mode) (ops : Array Oper) (st : List Nat) (alts : List (Nat × List Nat)) : List Nat → Array Bool → Bool
  | [], listed => decide (Region.ready md ops listed = alts.map (·.1)) && alts.all (fun p => !st.contains p.1 && planC md ops st p.2 (listed.setIfInBounds p.1 true))
  | i :: pre, listed => (st.contains i && (Region.free md ops listed i && (Region.ready md ops listed).contains i)) && planF md ops st alts pre (listed.setIfInBounds i true)
def walkF (P : Program) (ops : Array Oper) (Q : Exit → Act → World → Prop) (S : World → Prop) (st : List Nat) (alts : List (Nat × List Nat)) : List Nat → Act → World → Prop
  | [], a, w => ∀ p ∈ alts, walkC P ops Q S st (p.1 :: p.2) a w
  | i :: pre, a, w => ∃ o v, ops[i]? = some o ∧ YieldsIf P ops S o v a ∧ walkF P ops Q S st alts pre (a.put o.dst v) w
theorem wpAnyT_planF {md : Region.Mode} {ops : Array Oper} {Q : Exit → Act → World → Prop} {S : World → Prop} {st : List Nat} {alts : List (Nat × List Nat)} (hs : Region.noSelect ops = true) (hQ : ∀ c a d v w, Q (.panic c) (Act.put a d v) w → Q (.panic c) a w)
    (n : Nat) (hn : ∀ p ∈ alts, p.2.length = n) (hne : alts ≠ []) :
    ∀ (pre : List Nat) (listed : Array Bool) (a : Act) (w : World), planF md ops st alts pre listed = true → S w → walkF P ops Q S st alts pre a w → wpAnyT P md ops Q S (pre.length + (n + 1)) listed a w
  | [], listed, a, w, hp, hS, h => by
    unfold planF at hp
    unfold walkF at h
    rw [Bool.and_eq_true] at hp
    obtain ⟨hp1, hp2⟩ := hp
    have hr := of_decide_eq_true hp1
    rw [List.all_eq_true] at hp2
    rw [show ([] : List Nat).length + (n + 1) = n + 1 by simp]
    refine ⟨fun e => ?_, fun j hj => ?_⟩
    · rw [hr] at e
      cases alts with
      | nil => exact absurd rfl hne
      | cons p l => simp at e
    · rw [hr] at hj
      obtain ⟨p, hp, rfl⟩ := List.mem_map.1 hj
      have h2 := hp2 p hp
      rw [Bool.and_eq_true] at h2
      have hc : st.contains p.1 = false := by have := h2.1; revert this; cases st.contains p.1 <;> simp
      have hw := h p hp
      unfold walkC at hw
      rw [if_neg (by rw [hc]; simp)] at hw
      have hl := hn p hp
      exact wpOp_mono (fun a' w' h' => ⟨Or.inl h'.1, by rw [← hl]; exact wpAnyT_planC hs hQ p.2 _ _ _ h2.2 h'.1 h'.2⟩) hw
  | i :: pre, listed, a, w, hp, hS, h => by
    unfold planF at hp
    unfold walkF at h
    rw [Bool.and_eq_true, Bool.and_eq_true, Bool.and_eq_true] at hp
    obtain ⟨⟨hi, hp1, hp1'⟩, hp2⟩ := hp
    obtain ⟨o, v, ho, hy, h⟩ := h
    rw [show (i :: pre).length + (n + 1) = (pre.length + (n + 1)) + 1 by simp; omega]
    exact wpAnyT_first ho (Region.noSelect_spec hs) (fun c a w => hQ c a _ v w) _ _ _ _ (Region.free_spec ho hp1) (by simpa using hp1') hy hS (wpAnyT_planF hs hQ n hn hne pre _ _ _ hp2 hS h)
theorem region_fork_wp {id : Nat} {l : List Oper} {Q : Exit → Act → World → Prop} {a : Act} {w : World} (S : World → Prop) (st pre : List Nat) (alts : List (Nat × List Nat)) (n : Nat) (hm : P.follows .mixedOrders = true)
    (hs : Region.noSelect l.toArray = true) (hB : planF .any l.toArray st alts pre (Array.replicate l.toArray.size false) = true) (hn : ∀ p ∈ alts, p.2.length = n) (hne : alts ≠ []) (hl : pre.length + (n + 1) = l.toArray.size) (hpan : ∀ c a d v w, Q (.panic c) (Act.put a d v) w → Q (.panic c) a w)
    (hS : S { w with drawn := w.drawn + 1 }) (h : walkF P l.toArray Q S st alts pre a { w with drawn := w.drawn + 1 }) : (Code.region id l.toArray true).wp P Q a w := by
  refine wp_region_any hm (wpAny_of_T (S := S) _ _ _ _ ?_)
  have h2 := wpAnyT_planF hs hpan n hn hne pre _ _ _ hB hS h
  rw [hl] at h2
  exact h2
theorem walkF_still {ops : Array Oper} {Q : Exit → Act → World → Prop} {S : World → Prop} {st pre : List Nat} {alts : List (Nat × List Nat)} {i : Nat} {a : Act} {w : World} (o : Oper) (v : Value) (ho : (ops.toList.drop i).head? = some o)
    (hw : Region.wanted o (yielded ops a.tmps) = true) (hy : ∀ w, S w → (execOp a.eval o).run P w = .ok (.value v) w) (h : walkF P ops Q S st alts pre (a.put o.dst v) w) : walkF P ops Q S st alts (i :: pre) a w := by
  unfold walkF
  exact ⟨o, v, at_drop ho, Or.inl ⟨hw, hy⟩, h⟩
theorem walkF_two {ops : Array Oper} {Q : Exit → Act → World → Prop} {S : World → Prop} {st l l' : List Nat} {i j : Nat} {a : Act} {w : World} (h : walkC P ops Q S st (i :: l) a w) (h' : walkC P ops Q S st (j :: l') a w) : walkF P ops Q S st [(i, l), (j, l')] [] a w := by
  unfold walkF
  intro p hp
  simp only [List.mem_cons, List.not_mem_nil, or_false] at hp
  rcases hp with rfl | rfl
  · exact h
  · exact h'
end Go.Proofs.Ytcangooibfddmaa.Br
/- Stage 4: what interp's begin makes. -/
namespace Go.Proofs.Ytcangooibfddmaa.Ic
open Go.ChangeShapes Go.WideShapes Go.ChangeAt Go.RowKit Go.Maps Go.Proofs.Ytcangooibfddmaa.Mem Go.Proofs.Ytcangooibfddmaa.Kc Go.Proofs.Ytcangooibfddmaa.Br Go.Proofs.Ytcangooibfddmaa.Pl Go.Proofs.Ytcangooibfddmaa.Gr
set_option linter.unusedVariables false
theorem make_vals (w : World) : (Instr.makeMap 101 none).run Try.prog w = .ok (.map (some w.heap.size)) (w.alloc (.map #[] 0)) := by kernel_rfl
theorem below_of_but {n m : Nat} {a b : World} (h : But m a b) (hm : n ≤ m) (hn : n ≤ a.heap.size) : Below n a b := ⟨h.os, h.tape, h.output, h.size, fun k hk => h.block k (by omega) (by omega)⟩
/-- The words that values have when k parameters are set. -/
def parV (l : List Int) (k : Nat) : Int → Int := fun x => if 0 ≤ x ∧ x < k then l.getD x.toNat 0 else 0
theorem parV_none (l : List Int) : (fun _ => 0) = parV l 0 := by
  funext x
  unfold parV
  rw [if_neg (by omega)]
theorem parV_there (l : List Int) (k : Nat) (h : k < l.length) : upd (upd (parV l k) k 0) k l[k] = parV l (k + 1) := by
  funext x
  unfold upd parV
  by_cases e : x = (k : Int)
  · rw [if_pos e, if_pos (by omega), e, Int.toNat_natCast, List.getD_eq_getElem?_getD, List.getElem?_eq_getElem h]; rfl
  · rw [if_neg e, if_neg e]
    by_cases g : 0 ≤ x ∧ x < (k : Int)
    · rw [if_pos g, if_pos (by omega)]
    · rw [if_neg g, if_neg (by omega)]
theorem parV_not (l : List Int) (k : Nat) (h : ¬ k < l.length) : upd (parV l k) k 0 = parV l (k + 1) := by
  funext x
  unfold upd parV
  by_cases e : x = (k : Int)
  · rw [if_pos e, if_pos (by omega), e, Int.toNat_natCast, List.getD_eq_getElem?_getD, List.getElem?_eq_none (by omega)]; rfl
  · rw [if_neg e]
    by_cases g : 0 ≤ x ∧ x < (k : Int)
    · rw [if_pos g, if_pos (by omega)]
    · rw [if_neg g, if_neg (by omega)]
/-- What begin has made, when k parameters are set. -/
structure BegunAt (w : World) (rb mb cc : Nat) (av mv nv mm : Value) (lim : Int) (k : Nat) (al ml : List Int) (w' : World) : Prop where
  below : Below w.heap.size w w'
  box : Str w' w.heap.size 50 [av, mv, nv, .int .i64 lim]
  run : RunAt w' rb mb cc av mv nv mm (.slice none 0 0) lim (parV al k) 0
  cc : cc ≤ 2 * k
  own : OwnWords w.heap.size w' mm (ml.take 4096)
  r1 : w.heap.size < rb
  r2 : w.heap.size < mb
  m1 : mm.ownBlock ≠ some rb
  m2 : mm.ownBlock ≠ some mb
theorem BegunAt.next {w w1 w2 : World} {rb mb cc c2 : Nat} {av mv nv mm : Value} {lim : Int} {k : Nat} {al ml : List Int} (h : BegunAt w rb mb cc av mv nv mm lim k al ml w1) (hb : But mb w1 w2) (hc : c2 ≤ 2 * (k + 1)) (hv : ValsAt w2 mb c2 (parV al (k + 1))) : BegunAt w rb mb c2 av mv nv mm lim (k + 1) al ml w2 where
  below := h.below.trans (below_of_but hb (Nat.le_of_lt h.r2) (Nat.le_trans (Nat.le_refl _) h.below.size))
  box := hb.str h.box (by have := h.r2; omega)
  run := ⟨hb.str h.run.str h.run.ne, hv, h.run.ne⟩
  cc := hc
  own := World.ownsRow.kept h.own ⟨hb.os, hb.tape, hb.output, hb.size, fun i hi hn => hb.block i hi (fun e => hn (by rw [e]))⟩ (Or.inr h.m2)
  r1 := h.r1
  r2 := h.r2
  m1 := h.m1
  m2 := h.m2
theorem OwnWords.below {B : Nat} {w w' : World} {v : Value} {l : List Int} (h : OwnWords B w v l) (hb : Below w.heap.size w w') : OwnWords B w' v l := by
  refine World.ownsRow.kept h (grown_of_below hb) ?_
  cases v.ownBlock with
  | none => exact Or.inl rfl
  | some g => exact Or.inr (by simp)
theorem OwnWords.slice {B : Nat} {w : World} {v : Value} {l : List Int} (h : OwnWords B w v l) : ∃ A n c, v = .slice A n c := by
  rcases h.2 with ⟨rfl, _⟩ | ⟨g', cap, cur, rfl, _⟩
  · exact ⟨_, _, _, rfl⟩
  · exact ⟨_, _, _, rfl⟩
theorem OwnWords.where_ {B g : Nat} {w : World} {v : Value} {l : List Int} (h : OwnWords B w v l) (hg : v.ownBlock = some g) : B ≤ g ∧ g < w.heap.size := by
  rcases h.2 with ⟨rfl, _⟩ | ⟨g', cap, cur, rfl, hb, hc, _⟩
  · cases hg
  · injection hg with hg
    subst hg
    exact ⟨hb, by rcases Nat.lt_or_ge g' w.heap.size with hl | hl; exact hl; rw [Array.getElem?_eq_none hl] at hc; cases hc⟩
def BeginPost (av mv nv : Value) (lim : Int) (params : Nat) (al ml : List Int) (w : World) (en : Ending) (w' : World) : Prop :=
  ∃ rb mb cc mm, en = .returned (.pointer (some ⟨rb, 0, none⟩)) ∧ BegunAt w rb mb cc av mv nv mm lim params al ml w'
set_option maxRecDepth 100000 in
set_option maxHeartbeats 1000000 in
theorem begin_any (w : World) (params : Nat) (hp : params ≤ 4) (av mv nv : Value) (lim : Int) (al ml : List Int) (ha : WordsAt w av al) (h : WordsAt w mv ml) :
    Calls Try.prog 50 #[.int .i64 params, .agg #[av, mv, nv, .int .i64 lim]] w (BeginPost av mv nv lim params al ml w) := by
  have H := Lib.hid h
  obtain ⟨A, ca, rfl, n1, n2, n3⟩ := ha
  unfold maxLen at n2
  have HA := Lib.hid n3
  clear h n3
  go_enter Try.func50, Try.ntmps50
  go_wp2_with fail
  obtain ⟨W1, hW1⟩ : ∃ W1, w.alloc (.cells #[(.slice A al.length ca), mv, nv, .int .i64 lim] 50) = W1 := ⟨_, rfl⟩
  rw [hW1]
  have hb1 : Below w.heap.size w W1 := by rw [← hW1]; exact (Below.refl _ _).alloc (Nat.le_refl _) _
  have hs1 : Str W1 w.heap.size 50 [(.slice A al.length ca), mv, nv, .int .i64 lim] := by rw [← hW1]; exact World.alloc_heap_new w _
  have hz1 : W1.heap.size = w.heap.size + 1 := by rw [← hW1]; simp
  have c0 : W1.cell? ⟨w.heap.size, 0, none⟩ = some (.slice A al.length ca) := hs1.cell 0
  have c1 : W1.cell? ⟨w.heap.size, 1, none⟩ = some mv := hs1.cell 1
  have c2 : W1.cell? ⟨w.heap.size, 2, none⟩ = some nv := hs1.cell 2
  have c3 : W1.cell? ⟨w.heap.size, 3, none⟩ = some (.int .i64 lim) := hs1.cell 3
  have HS1 := Lib.hid hs1
  have HB1 := Lib.hid hb1
  clear hW1 hb1 hs1
  rename_i K hK
  have J : ∀ (rb mb : Nat) (mm : Value) (wj : World), BegunAt w rb mb 0 (.slice A al.length ca) mv nv mm lim 0 al ml wj → K ⟨#[.int .i64 params, .agg #[(.slice A al.length ca), mv, nv, .int .i64 lim], undef, .pointer (some ⟨w.heap.size, 0, none⟩), .pointer none, .pointer (some ⟨rb, 0, none⟩), undef, .agg #[(.slice A al.length ca), mv, nv, .int .i64 lim], .map (some mb), .agg #[(.slice A al.length ca), mv, nv, .int .i64 lim], mm, .agg #[(.slice A al.length ca), mv, nv, .int .i64 lim, .map (some mb), mm, .slice none 0 0, .int .i64 0], .pointer (some ⟨rb, 0, none⟩), undef, undef, undef, undef, undef, undef, undef, undef, undef, undef, undef, undef, undef, undef, undef, undef, undef, undef, undef, undef, undef, undef, undef, undef, undef, undef], []⟩ wj := by
    intro rb mb mm wj hj
    apply hK
    have HJ := Lib.hid hj
    clear hj
    clear c0 c1 c2 c3 HS1 HB1 hz1 H
    go_wp2_with fail
    go_loopw [6, 14] (fun _ i wr => ∃ k cc : Nat, k ≤ params ∧ i = .int .i64 k ∧ BegunAt w rb mb cc (.slice A al.length ca) mv nv mm lim k al ml wr) (fun _ i _ => params - (intOf i).toNat)
    case atStart => exact ⟨0, 0, Nat.zero_le _, rfl, HJ.out⟩
    case round =>
      obtain ⟨k, cc, hk, rfl, hb⟩ := hrel
      have HB := Lib.hid hb
      have hcc := hb.cc
      have hr1 := hb.r1
      have hr2 := hb.r2
      clear hb
      by_cases hlt : k < params
      · have b0 : wr.cell? ⟨w.heap.size, 0, none⟩ = some (.slice A al.length ca) := HB.out.box.cell 0
        have k4 := HB.out.run.c4
        have hkI : InI (k : Int) := ⟨by omega, by omega⟩
        go_wp2_with (refine wpList_put rfl _ _ _ rfl mb cc _ rfl HB.out.run.map (by omega) k 0 rfl rfl hkI ?_)
        intro w1 hv1 hg1
        have hb1 := But.of_grown hg1
        have k4 := hb1.cell k4 HB.out.run.ne
        have b0 := hb1.cell b0 (by show w.heap.size ≠ mb; omega)
        have HV1 := Lib.hid hv1
        have HB1 := Lib.hid hb1
        clear hv1 hg1 hb1
        by_cases hal : k < al.length
        · obtain ⟨ad, rfl, hc⟩ := HA.out k hal
          have hc1 : w1.cell? (ad.add k) = some (.int .i32 al[k]) := by
            have h1 := cell_keep HB.out.below (Nat.le_refl _) hc
            exact HB1.out.cell h1 (by have := lt_of_cell hc; omega)
          have HP := Lib.hid (parV_there al k hal)
          clear hc
          go_wp2_with fail
          refine region_heldC_wp (fun w' => w'.cell? ⟨rb, 4, none⟩ = some (.map (some mb)) ∧ w'.cell? ⟨w.heap.size, 0, none⟩ = some (.slice (some ad) al.length ca) ∧ w'.cell? (ad.add k) = some (.int .i32 al[k])) [0, 1, 2, 3, 4, 5, 6, 7, 8, 9] [0, 1, 2, 3, 4, 5, 6, 7, 8, 9, 10] (by kernel_rfl) (by kernel_rfl) (by kernel_rfl) rfl (by intro c a d v w h; cases d <;> exact h) ⟨k4, b0, hc1⟩ ?_
          refine walkC_still _ ?u0 rfl rfl rfl ?uy0 ?_
          case uy0 => intro w hS; go_simp; first | done | with_reducible rfl
          simp only [Act.put]
          refine walkC_still _ ?u1 rfl rfl rfl ?uy1 ?_
          case uy1 => intro w hS; go_simp; first | done | with_reducible rfl
          simp only [Act.put]
          refine walkC_still _ ?u2 rfl rfl rfl ?uy2 ?_
          case uy2 => intro w hS; go_simp; first | done | with_reducible rfl
          simp only [Act.put]
          refine walkC_still _ ?u3 rfl rfl rfl ?uy3 ?_
          case uy3 => intro w hS; go_simp; first | done | with_reducible rfl
          simp only [Act.put]
          refine walkC_still _ ?u4 rfl rfl rfl ?uy4 ?_
          case uy4 => intro w hS; go_simp; first | done | with_reducible rfl
          simp only [Act.put]
          refine walkC_still _ ?u5 rfl rfl rfl ?uy5 ?_
          case uy5 => intro w hS; go_simp; first | done | with_reducible rfl
          simp only [Act.put]
          refine walkC_still _ ?u6 rfl rfl rfl ?uy6 ?_
          case uy6 => intro w hS; go_simp; first | done | with_reducible rfl
          simp only [Act.put]
          refine walkC_still _ ?u7 rfl rfl rfl ?uy7 ?_
          case uy7 => intro w hS; go_simp; first | done | with_reducible rfl
          simp only [Act.put]
          refine walkC_still _ ?u8 rfl rfl rfl ?uy8 ?_
          case uy8 => intro w hS; go_simp; first | done | with_reducible rfl
          simp only [Act.put]
          refine walkC_still _ ?u9 rfl rfl rfl ?uy9 ?_
          case uy9 => intro w hS; go_simp; first | done | with_reducible rfl
          simp only [Act.put]
          try simp only [List.setIfInBounds_toArray, List.set_cons_zero, List.set_cons_succ]
          refine walkC_does _ rfl rfl ?_
          refine wpList_put rfl _ _ _ rfl mb (cc + 1) _ rfl (HV1.out.below (Below.refl _ _).drew) (by omega) k al[k] rfl rfl hkI ?_
          intro w2 hv2 hg2
          have hb2 : But mb w1 w2 := (But.refl mb w1).drew.trans (But.of_grown hg2)
          have hadm : (ad.add k).block ≠ mb := by
            obtain ⟨ad', e, hc'⟩ := HA.out k hal
            injection e with e
            subst e
            have h1 := lt_of_cell hc'
            intro e
            rw [e] at h1
            omega
          refine wpList_nil (behindC ⟨hb2.cell k4 HB.out.run.ne, hb2.cell b0 (by show w.heap.size ≠ mb; omega), hb2.cell hc1 hadm⟩ (walkC_nil ?_))
          rw [HP.out] at hv2
          have HN := Lib.hid (HB.out.next (HB1.out.trans hb2) (by omega) hv2)
          clear hv2 hg2 hb2
          go_wp2
          exact ⟨⟨k + 1, _, by omega, by go_num, HN.out⟩, by simp [intOf]; omega⟩
        · have HP := Lib.hid (parV_not al k hal)
          have HN := Lib.hid (HB.out.next (c2 := cc + 1) HB1.out (by omega) (by rw [← HP.out]; exact HV1.out))
          go_wp2_with fail
          exact ⟨⟨k + 1, _, by omega, by go_num, HN.out⟩, by simp [intOf]; omega⟩
      · obtain rfl : k = params := by omega
        go_wp2_with fail
        go_ret
        exact ⟨rb, mb, cc, mm, rfl, HB.out⟩
  refine region_fork_wp (fun w' => w'.cell? ⟨w.heap.size, 0, none⟩ = some (.slice A al.length ca) ∧ w'.cell? ⟨w.heap.size, 1, none⟩ = some mv ∧ w'.cell? ⟨w.heap.size, 2, none⟩ = some nv ∧ w'.cell? ⟨w.heap.size, 3, none⟩ = some (.int .i64 lim)) [0, 2, 4, 6] [0, 2] [(1, [3, 4, 5, 6]), (3, [1, 4, 5, 6])] 4 (by kernel_rfl) (by kernel_rfl) (by kernel_rfl) (by decide) (by simp) rfl (by intro c a d v w h; cases d <;> exact h) ⟨c0, c1, c2, c3⟩ ?_
  refine walkF_still _ ?s0 rfl rfl ?sy0 ?_
  case sy0 => intro w hS; go_simp; first | done | with_reducible rfl
  simp only [Act.put]
  refine walkF_still _ ?s2 rfl rfl ?sy2 ?_
  case sy2 => intro w hS; go_simp; first | done | with_reducible rfl
  simp only [Act.put]
  simp only [List.setIfInBounds_toArray, List.set_cons_zero, List.set_cons_succ]
  refine walkF_two ?fst ?snd
  case fst =>
    refine walkC_does _ rfl rfl ?_
    go_wp2_with fail
    rw [make_vals]
    go_wp2
    obtain ⟨W2, hW2⟩ : ∃ W2, (W1.alloc (.map #[] 0)).drew = W2 := ⟨_, rfl⟩
    have hv2 : ValsAt W2 W1.heap.size 0 (fun _ => 0) := by rw [← hW2]; exact (ValsAt.made W1).below (Below.refl _ _).drew
    have hb2 : Below W1.heap.size W1 W2 := by rw [← hW2]; exact ((Below.refl _ _).alloc (Nat.le_refl _) _).drew
    have hz2 : W2.heap.size = W1.heap.size + 1 := by rw [← hW2]; simp
    have c0 := cell_keep hb2 (Nat.le_refl _) c0
    have c1 := cell_keep hb2 (Nat.le_refl _) c1
    have c2 := cell_keep hb2 (Nat.le_refl _) c2
    have c3 := cell_keep hb2 (Nat.le_refl _) c3
    refine behindC ⟨by rw [hW2]; exact c0, by rw [hW2]; exact c1, by rw [hW2]; exact c2, by rw [hW2]; exact c3⟩ ?_
    refine walkC_does _ rfl rfl ?_
    rw [hW2]
    go_wp2_with fail
    refine (memory_any _ _ mv nv lim ml (H.out.below (HB1.out.trans (hb2.mono HB1.out.size)))).mono ?_
    rintro e w4 ⟨mm, rfl, hm, hb4⟩
    go_wp2
    obtain ⟨mA, mn, mc, rfl⟩ := hm.slice
    have c0 := cell_keep hb4 (Nat.le_refl _) c0
    have c1 := cell_keep hb4 (Nat.le_refl _) c1
    have c2 := cell_keep hb4 (Nat.le_refl _) c2
    have c3 := cell_keep hb4 (Nat.le_refl _) c3
    refine behindC ⟨c0, c1, c2, c3⟩ ?_
    refine walkC_still _ ?p4 rfl rfl rfl ?py4 ?_
    case py4 => intro w hS; go_simp; first | done | with_reducible rfl
    simp only [Act.put]
    refine walkC_does _ rfl rfl ?_
    go_wp2
    have hb5 : Below w4.heap.size w4 (w4.alloc (.cells #[(.slice A al.length ca), mv, nv, .int .i64 lim, .map (some (w.heap.size + 1)), (.slice mA mn mc), .slice none 0 0, .int .i64 0] 103)) := (Below.refl _ _).alloc (Nat.le_refl _) _
    refine behindC ⟨cell_keep hb5 (Nat.le_refl _) c0, cell_keep hb5 (Nat.le_refl _) c1, cell_keep hb5 (Nat.le_refl _) c2, cell_keep hb5 (Nat.le_refl _) c3⟩ ?_
    refine walkC_still _ ?g6 rfl rfl rfl ?gy6 ?_
    case gy6 => intro w hS; go_simp; first | done | with_reducible rfl
    simp only [Act.put]
    refine walkC_nil ?_
    simp only [List.setIfInBounds_toArray, List.set_cons_zero, List.set_cons_succ]
    refine J w4.heap.size (w.heap.size + 1) (.slice mA mn mc) _ ?_
    rw [hz1] at hv2 hz2
    have hs4 : w.heap.size + 2 ≤ w4.heap.size := by have := hb4.size; omega
    have hb25 := hb4.trans (hb5.mono hb4.size)
    exact {
      below := (HB1.out.trans (hb2.mono HB1.out.size)).trans (hb25.mono (by omega))
      box := ((HS1.out.below hb2).below hb4).below hb5
      run := ⟨World.alloc_heap_new w4 _, by rw [← parV_none]; exact hv2.below hb25, by omega⟩
      cc := Nat.zero_le _
      own := (hm.below hb5).mono (by omega)
      r1 := by omega
      r2 := by omega
      m1 := by intro e; have := (hm.where_ e).2; omega
      m2 := by intro e; have := (hm.where_ e).1; omega }
  case snd =>
    refine walkC_does _ rfl rfl ?_
    go_wp2_with fail
    refine (memory_any _ _ mv nv lim ml (H.out.below HB1.out.drew)).mono ?_
    rintro e w3 ⟨mm, rfl, hm, hb3⟩
    go_wp2
    have hb3 : Below W1.heap.size W1 w3 := (Below.refl _ _).drew.trans hb3
    obtain ⟨mA, mn, mc, rfl⟩ := hm.slice
    have c0 := cell_keep hb3 (Nat.le_refl _) c0
    have c1 := cell_keep hb3 (Nat.le_refl _) c1
    have c2 := cell_keep hb3 (Nat.le_refl _) c2
    have c3 := cell_keep hb3 (Nat.le_refl _) c3
    refine behindC ⟨c0, c1, c2, c3⟩ ?_
    refine walkC_does _ rfl rfl ?_
    go_wp2_with fail
    rw [make_vals]
    go_wp2
    obtain ⟨W2, hW2⟩ : ∃ W2, w3.alloc (.map #[] 0) = W2 := ⟨_, rfl⟩
    have hv2 : ValsAt W2 w3.heap.size 0 (fun _ => 0) := by rw [← hW2]; exact ValsAt.made w3
    have hb2 : Below w3.heap.size w3 W2 := by rw [← hW2]; exact (Below.refl _ _).alloc (Nat.le_refl _) _
    have hz2 : W2.heap.size = w3.heap.size + 1 := by rw [← hW2]; simp
    rw [hW2]
    have c0 := cell_keep hb2 (Nat.le_refl _) c0
    have c1 := cell_keep hb2 (Nat.le_refl _) c1
    have c2 := cell_keep hb2 (Nat.le_refl _) c2
    have c3 := cell_keep hb2 (Nat.le_refl _) c3
    refine behindC ⟨c0, c1, c2, c3⟩ ?_
    refine walkC_still _ ?q4 rfl rfl rfl ?qy4 ?_
    case qy4 => intro w hS; go_simp; first | done | with_reducible rfl
    simp only [Act.put]
    refine walkC_does _ rfl rfl ?_
    go_wp2
    have hb5 : Below W2.heap.size W2 (W2.alloc (.cells #[(.slice A al.length ca), mv, nv, .int .i64 lim, .map (some w3.heap.size), (.slice mA mn mc), .slice none 0 0, .int .i64 0] 103)) := (Below.refl _ _).alloc (Nat.le_refl _) _
    refine behindC ⟨cell_keep hb5 (Nat.le_refl _) c0, cell_keep hb5 (Nat.le_refl _) c1, cell_keep hb5 (Nat.le_refl _) c2, cell_keep hb5 (Nat.le_refl _) c3⟩ ?_
    refine walkC_still _ ?h6 rfl rfl rfl ?hy6 ?_
    case hy6 => intro w hS; go_simp; first | done | with_reducible rfl
    simp only [Act.put]
    refine walkC_nil ?_
    simp only [List.setIfInBounds_toArray, List.set_cons_zero, List.set_cons_succ]
    refine J (w3.heap.size + 1) w3.heap.size (.slice mA mn mc) _ ?_
    have hs3 := hb3.size
    have hst := World.alloc_heap_new W2 (.cells #[(.slice A al.length ca), mv, nv, .int .i64 lim, .map (some w3.heap.size), (.slice mA mn mc), .slice none 0 0, .int .i64 0] 103)
    rw [hz2] at hst
    have hb35 := hb2.trans (hb5.mono hb2.size)
    exact {
      below := (HB1.out.trans (hb3.mono HB1.out.size)).trans (hb35.mono (by omega))
      box := ((HS1.out.below hb3).below hb2).below hb5
      run := ⟨hst, by rw [← parV_none]; exact hv2.below hb5, by omega⟩
      cc := Nat.zero_le _
      own := (hm.below hb35).mono (by simp; omega)
      r1 := by omega
      r2 := by omega
      m1 := by intro e; have := (hm.where_ e).2; omega
      m2 := by intro e; have := (hm.where_ e).2; omega }
end Go.Proofs.Ytcangooibfddmaa.Ic
