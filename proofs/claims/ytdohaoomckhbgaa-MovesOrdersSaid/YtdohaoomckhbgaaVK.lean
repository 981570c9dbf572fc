/- Moves that are pending: the least places of circles. -/
import Derived.Test.YtdohaoomckhbgaaVQ
import Derived.Maps.OwnSet
namespace Go.Proofs.Ytdohaoomckhbgaa.Vm
open Go.ChangeShapes Go.WideShapes Go.ChangeAt Go.RowKit Go.Maps Go.WideElems Go.ChangeMaps Go.Sort Go.Shelf Go.Proofs.Ytdohaoomckhbgaa.Mem Go.Proofs.Ytdohaoomckhbgaa.Br Go.Proofs.Ytdohaoomckhbgaa.Va Go.Proofs.Ytdohaoomckhbgaa.Vr
set_option linter.unusedVariables false
set_option linter.unusedSimpArgs false
attribute [local go_sem] Oper.semAt_some
/-- Marks of ranges over functions, in which nothing was deferred. -/
inductive Marks (lo hi : Nat) : List Deferred → World → Prop
  | nil {w} : Marks lo hi [] w
  | cons {D ds w} : lo ≤ D → D < hi → w.heap[D]? = some (.deferred (some [])) → Marks lo hi ds w → (∀ d ∈ ds, d.target ≠ .collected D) → Marks lo hi ({ target := .collected D, args := #[] } :: ds) w
theorem Marks.kept {lo hi hi' : Nat} {ds : List Deferred} {w w' : World} (h : Marks lo hi ds w) (hh : hi ≤ hi') (hk : ∀ (k : Nat), k < hi → w.heap[k]? = some (.deferred (some [])) → w'.heap[k]? = some (.deferred (some []))) : Marks lo hi' ds w' := by
  induction h with
  | nil => exact .nil
  | cons h1 h2 h3 h4 h5 ih => exact .cons h1 (by omega) (hk _ h2 h3) (ih hk) h5
theorem Marks.later {lo : Nat} {ds : List Deferred} {w w' : World} (h : Marks lo w.heap.size ds w) (hb : Below w.heap.size w w') : Marks lo w'.heap.size ds w' := h.kept hb.size fun k _ hk => (hb.block k (Array.getElem?_eq_some_iff.1 hk).1).trans hk
theorem Marks.grown {lo : Nat} {ds : List Deferred} {w w' : World} {row : Option Nat} (h : Marks lo w.heap.size ds w) (hg : w.grownBy w' row) (hr : ∀ g, row = some g → ∃ o, w.heap[g]? = some o ∧ o ≠ .deferred (some [])) : Marks lo w'.heap.size ds w' := h.kept hg.size fun k _ hk => (hg.block k (Array.getElem?_eq_some_iff.1 hk).1 (fun e => by obtain ⟨o, ho, hne⟩ := hr k e.symm; rw [hk] at ho; cases ho; exact hne rfl)).trans hk
theorem row_cells {w : World} {B : Nat} {e : TypeId} {z : Nat} {v : Value} {n : Nat} {xs : List Value} (h : w.ownsRow B e z v n xs) : ∀ g, v.ownBlock = some g → ∃ o, w.heap[g]? = some o ∧ o ≠ .deferred (some []) := fun g hg => by
  rcases h.2 with ⟨rfl, _⟩ | ⟨g', cap, cur, rfl, _, hh, _⟩
  · cases hg
  · cases hg; exact ⟨_, hh, by simp⟩
theorem Marks.ne {lo hi : Nat} {ds : List Deferred} {w : World} (h : Marks lo hi ds w) {D : Nat} (hD : hi ≤ D) : ∀ d ∈ ds, d.target ≠ .collected D := by
  induction h with
  | nil => intro d hd; cases hd
  | cons h1 h2 h3 h4 h5 ih =>
    intro d hd
    rcases List.mem_cons.1 hd with rfl | hd
    · intro e; injection e with e; omega
    · exact ih d hd
theorem Marks.put {lo hi D : Nat} {ds : List Deferred} {w : World} {o : Obj} (h : Marks lo hi ds w) (hn : ∀ d ∈ ds, d.target ≠ .collected D) : Marks lo hi ds (w.putObj D o) := by
  induction h with
  | nil => exact .nil
  | @cons E ds w h1 h2 h3 h4 h5 ih =>
    exact .cons h1 h2 ((World.putObj_heap_other (fun e => hn _ (List.mem_cons_self ..) (by rw [e]))).trans h3) (ih fun d hd => hn d (List.mem_cons_of_mem _ hd)) h5
theorem leave_marks {F : Fence} {n : Nat} {P : Program} {fn : Func} {tmps : Array Value} {R : Ending → World → Prop} {lo hi : Nat} {u : FrameMode} (hu : u ≠ .run) : ∀ {ds : List Deferred} {w : World}, Marks lo hi ds w →
    (∀ w', Tn nothing lo w w' → LeavesInM F n P fn tmps R [] u w') → LeavesInM F n P fn tmps R ds u w
  | [], w, _, h => h w ((It.refl nothing w).tn lo)
  | d :: ds, w, hm, h => by
    cases hm with
    | cons h1 h2 h3 h4 h5 =>
      rename_i D
      refine ⟨hu, Or.inl ⟨D, _, rfl, run_takeDeferred h3, leave_marks (lo := lo) (hi := hi) hu (h4.put h5) fun w' ht => ?_⟩⟩
      have h6 := tn_put (M := nothing) w _ (.deferred none) h3 h1 rfl
      exact h w' (h6.trans ht)
/-- The set in block b holds just the numbers of g. -/
def SetG (w : World) (b c : Nat) (g : List Int) : Prop := ∃ D : DataW Unit, w.ownsMap Try.prog 3 unitElem b c D ∧ IsMap D ∧ ∀ x, has D (keyN x) = g.contains x
theorem zeroUnit (w : World) : (zeroValue 101).run Try.prog w = .ok (.agg #[]) w := by kernel_rfl
theorem SetG.made (w : World) : SetG (w.alloc (.map #[] 0)) w.heap.size 0 [] := ⟨.map [], World.ownsMap_made _ _ _ _, isMap_empty, fun x => rfl⟩
theorem SetG.same {w w' : World} {b c : Nat} {g : List Int} (h : SetG w b c g) (hs : w'.heap[b]? = w.heap[b]?) : SetG w' b c g := by obtain ⟨D, h1, h2⟩ := h; exact ⟨D, own_same h1 hs, h2⟩
theorem SetG.lt {w : World} {b c : Nat} {g : List Int} (h : SetG w b c g) : b < w.heap.size := by obtain ⟨D, h1, _⟩ := h; exact h1.lt
theorem SetG.is_map {w : World} {b c : Nat} {g : List Int} (h : SetG w b c g) : ∃ es cl, w.heap[b]? = some (.map es cl) := by obtain ⟨D, ⟨e, cl, hb, _⟩, _⟩ := h; exact ⟨e, cl, hb⟩
set_option maxRecDepth 100000 in
theorem SetG.look {w : World} {b c : Nat} {g : List Int} (h : SetG w b c g) {x : Int} (hx : InI x) :
    (Instr.lookup 100 (.map (some b)) (.int .i64 x) true).run Try.prog w = .ok (.tuple #[.agg #[], .bool (g.contains x)]) w := by
  obtain ⟨D, h1, h2, h3⟩ := h
  obtain ⟨v, ps, hrun, hR⟩ := h1.look_ok keyedN Try.underlying100 (zeroUnit w) (zd := .agg []) (zp := []) unitElem_mk (keyIs hx)
  rw [h3] at hrun
  rw [hrun, (unitElem_inv (z := (D.atKey (keyN x) (.agg []), ps)) hR).1]
set_option maxRecDepth 100000 in
theorem SetG.put {w : World} {b c : Nat} {g : List Int} (h : SetG w b c g) (hc : c < 1000000000000000) {x : Int} (hx : InI x) :
    ∃ w', (Instr.mapUpdate 100 (.map (some b)) (.int .i64 x) (.agg #[])).run Try.prog w = .ok () w' ∧ SetG w' b (c + 1) (g ++ [x]) ∧ w.grownBy w' (some b) := by
  obtain ⟨D, g1, g2, g3⟩ := h
  obtain ⟨w', hrun, r1, r2⟩ := g1.update keyedN Try.underlying100 (by unfold maxLen; omega) (keyIs hx) (val := .agg #[]) (d := .agg []) (ps := []) unitElem_mk
  refine ⟨w', hrun, ⟨_, r1, g2.put _ _, fun y => ?_⟩, r2⟩
  by_cases e : y = x
  · subst e
    rw [has_put_same g2 (by simp [keyN, WideAt.IsKeyLit])]
    simp
  · rw [has_put_other (by simp [keyN]; omega), g3]
    simp [e]
def perD (f : Int → Int) (x : Int) (B : Nat) : Nat := (((List.range B).find? fun i => it f x (i + 1) == x).map (· + 1)).getD 0
theorem perD_eq {f : Int → Int} {x : Int} {N B : Nat} (h : Closed f x N) (hB : N ≤ B) : perD f x B = N := by
  have : (List.range B).find? (fun i => it f x (i + 1) == x) = some (N - 1) := by
    rw [List.find?_range_eq_some]
    have h1 := h.1
    refine ⟨by rw [show N - 1 + 1 = N by omega]; simpa using h.2.1, by simp; omega, fun j hj => ?_⟩
    have := h.2.2 (j + 1) (by omega) (by omega)
    simp [this]
  unfold perD
  rw [this]
  have h1 := h.1
  simp; omega
def stepG (f : Int → Int) (B : Nat) (s : List Int × List Int) (x : Int) : List Int × List Int := if s.2.contains x = true then s else (s.1 ++ [x], s.2 ++ orb f x (perD f x B))
def leastS (L : List Mov) (ks : List Int) : List Int × List Int := ks.foldl (stepG (srcD L) L.length) ([], [])
def leastN (L : List Mov) : List Int := (leastS L (keysN L)).1
/-- All that is left goes round. -/
def Rings (L : List Mov) : Prop := ∀ x, isTo L x = true → ∃ N, Closed (srcD L) x N ∧ N ≤ L.length
theorem leastS_len {L : List Mov} : ∀ (ks : List Int) (s : List Int × List Int), (ks.foldl (stepG (srcD L) L.length) s).2.length ≤ s.2.length + ks.length * L.length ∧ (ks.foldl (stepG (srcD L) L.length) s).1.length ≤ s.1.length + ks.length
  | [], s => by simp
  | x :: ks, s => by
    have h := leastS_len (L := L) ks (stepG (srcD L) L.length s x)
    have h1 : (stepG (srcD L) L.length s x).2.length ≤ s.2.length + L.length ∧ (stepG (srcD L) L.length s x).1.length ≤ s.1.length + 1 := by
      unfold stepG
      split
      · exact ⟨by omega, by omega⟩
      · rw [List.length_append, List.length_append, orb_len]
        refine ⟨?_, by simp⟩
        have : perD (srcD L) x L.length ≤ L.length := by
          unfold perD
          cases e : (List.range L.length).find? fun i => it (srcD L) x (i + 1) == x with
          | none => simp
          | some i => have := List.mem_of_find?_eq_some e; simp at this ⊢; omega
        omega
    rw [List.foldl_cons, List.length_cons, Nat.succ_mul]
    omega
theorem info_int : (Try.prog.info? 3).map (fun i => (i.zero, i.size, i.bytes)) = some (some (.int .i64 0), 1, 8) := by kernel_rfl
theorem circ_fst (f : Int → Int) (x : Int) (n : Nat) : (circ f x n).map (·.1) = orb f x n := by unfold circ orb; rw [List.map_map]; rfl
/-- What holds while the least places are looked for. -/
structure LeastS (bp bf bt bg b4 c K Bk BL : Nat) (L : List Mov) (kv : Value) (s : List Int × List Int) (lv : Value) (w0 w : World) : Prop where
  box : Str w bp 74 [.map (some bf), .map (some bt)]
  gbox : Str w b4 100 [.map (some bg)]
  pend : PendAt w bf bt c K L
  gone_ : SetG w bg s.2.length s.2
  keys : OwnInts Bk w kv (keysN L)
  out : OwnInts BL w lv s.1
  below : Below w0.heap.size w0 w
  base : w0.heap.size ≤ BL
  size : BL ≤ w.heap.size
  l1 : bp < BL
  l2 : b4 < BL
  l3 : bf < BL
  l4 : bt < BL
  l5 : bg < BL
  l6 : ∀ g, kv.ownBlock = some g → g < BL
  ne : bg ≠ bf ∧ bg ≠ bt
  l7 : w0.heap.size ≤ bg
section
variable {bp bf bt bg b4 c K Bk BL : Nat} {L : List Mov} {kv : Value} {s : List Int × List Int} {lv : Value} {w0 w w' : World}
theorem own_same_kv {B : Nat} {e : TypeId} {z : Nat} {v : Value} {n : Nat} {xs : List Value} (h : w.ownsRow B e z v n xs) (hs : ∀ g, v.ownBlock = some g → w'.heap[g]? = w.heap[g]?) : w'.ownsRow B e z v n xs := by
  refine ⟨h.1, ?_⟩
  rcases h.2 with h0 | ⟨g, cap, cur, hv, hg, hh, rest⟩
  · exact Or.inl h0
  · exact Or.inr ⟨g, cap, cur, hv, hg, (hs g (by rw [hv]; rfl)).trans hh, rest⟩
theorem LeastS.low (h : LeastS bp bf bt bg b4 c K Bk BL L kv s lv w0 w) (hb : Below BL w w') {l' : List Int} {lv' : Value} (ho : OwnInts BL w' lv' l') : LeastS bp bf bt bg b4 c K Bk BL L kv (l', s.2) lv' w0 w' :=
  ⟨(hb.block _ h.l1).trans h.box, (hb.block _ h.l2).trans h.gbox, h.pend.same (hb.block _ h.l3) (hb.block _ h.l4), h.gone_.same (hb.block _ h.l5), own_same_kv h.keys (fun g hg => hb.block g (h.l6 g hg)), ho,
    h.below.trans (hb.mono h.base), h.base, Nat.le_trans h.size hb.size, h.l1, h.l2, h.l3, h.l4, h.l5, h.l6, h.ne, h.l7⟩
theorem LeastS.later (h : LeastS bp bf bt bg b4 c K Bk BL L kv s lv w0 w) (hb : Below w.heap.size w w') : LeastS bp bf bt bg b4 c K Bk BL L kv s lv w0 w' :=
  h.low (hb.mono h.size) (own_same_row h.out (fun g cur hg => hb.block g (Array.getElem?_eq_some_iff.1 hg).1))
theorem LeastS.tn {B : Nat} (h : LeastS bp bf bt bg b4 c K Bk BL L kv s lv w0 w) (ht : Tn nothing B w w') (hB : BL ≤ B) : LeastS bp bf bt bg b4 c K Bk BL L kv s lv w0 w' := by
  have hk : ∀ k, k < BL → k < w.heap.size → w'.heap[k]? = w.heap[k]? := fun k h1 h2 => by
    have h3 := Array.getElem?_eq_some_iff.2 ⟨h2, rfl⟩
    exact (ht.block k _ h3 id (Or.inl (by omega))).trans h3.symm
  have hb : Below BL w w' := ⟨ht.os, ht.tape, ht.output, ht.size, fun k hk' => hk k hk' (Nat.lt_of_lt_of_le hk' h.size)⟩
  exact h.low hb (own_same_row h.out (fun g cur hg => (ht.block g _ hg id (Or.inr rfl)).trans hg.symm))
theorem LeastS.put (h : LeastS bp bf bt bg b4 c K Bk BL L kv s lv w0 w) {g' : List Int} (hs : SetG w' bg g'.length g') (hg : w.grownBy w' (some bg)) : LeastS bp bf bt bg b4 c K Bk BL L kv (s.1, g') lv w0 w' := by
  obtain ⟨es, cl, hm⟩ := h.gone_.is_map
  have hc : ∀ {k : Nat} {vs : List Value} {t : TypeId}, Str w k t vs → Str w' k t vs := fun {k vs t} hq => hq.kept hg (fun e => by injection e with e; subst e; have h1 := hm.symm.trans hq; cases h1)
  refine ⟨hc h.box, hc h.gbox, h.pend.same (hg.block _ h.pend.from_.lt (fun e => h.ne.1 (by cases e; rfl))) (hg.block _ h.pend.tak.lt (fun e => h.ne.2 (by cases e; rfl))), hs, ?_, ?_, ?_, h.base, Nat.le_trans h.size hg.size, h.l1, h.l2, h.l3, h.l4, h.l5, h.l6, h.ne, h.l7⟩
  · exact own_same_row h.keys (fun g cur hh => hg.block g (Array.getElem?_eq_some_iff.1 hh).1 (fun e => by injection e with e; subst e; rw [hm] at hh; cases hh))
  · exact own_same_row h.out (fun g cur hh => hg.block g (Array.getElem?_eq_some_iff.1 hh).1 (fun e => by injection e with e; subst e; rw [hm] at hh; cases hh))
  · exact h.below.grown hg (Nat.le_trans h.base h.size) (fun j e => by cases e; exact h.l7)
end
def LeastI (b1 bf bt bg b4 c K Bk BL : Nat) (L : List Mov) (A : Option Addr) (cv : Nat) (w : World) (a : Act) (wr : World) : Prop :=
  ∃ (i : Nat) (lv u5 u6 u7 u8 u9 u15 u16 u17 u18 u19 u20 u21 u22 u23 u24 u25 u26 u27 u28 u29 u30 u31 u32 u33 u34 u35 u36 u37 u38 : Value) (ds : List Deferred), i ≤ L.length ∧ a = { tmps := #[pendV bf bt, .pointer (some ⟨b1, 0, none⟩), .slice none 0 0, lv, .pointer (some ⟨b4, 0, none⟩), u5, u6, u7, u8, u9, .map (some bg), pendV bf bt, .slice A L.length cv, .int .i64 (L.length : Int), .int .i64 (i : Int), u15, u16, u17, u18, u19, u20, u21, u22, u23, u24, u25, u26, u27, u28, u29, u30, u31, u32, u33, u34, u35, u36, u37, u38], defers := ds } ∧ Marks w.heap.size wr.heap.size ds wr ∧ LeastS b1 bf bt bg b4 c K Bk BL L (.slice A L.length cv) (leastS L ((keysN L).take i)) lv w wr
def RowRes (l : List Int) (w : World) (e : Ending) (w' : World) : Prop := ∃ v, e = .returned v ∧ OwnInts w.heap.size w' v l ∧ Below w.heap.size w w'
set_option maxRecDepth 100000 in
set_option maxHeartbeats 4000000 in
theorem least_any (w : World) (bf bt c K : Nat) (L : List Mov) (hP : PendAt w bf bt c K L) (hR : Rings L) (hsz : L.length ≤ 1000000) : Calls Try.prog 45 #[pendV bf bt] w (RowRes (leastN L) w) := by
  refine (callsIn_wide (n := 9)).1 ?_
  refine callsIn_of_wp_marks Try.func45 rfl trivial ?_ rfl
  simp only [Try.ntmps45, List.size_toArray, List.length_cons, List.length_nil, Nat.reduceAdd, Nat.reduceSub, Array.replicate_succ, Array.replicate_zero, List.push_toArray, List.append_toArray, List.nil_append, List.cons_append]
  have hmm := @run_makeMap Try.prog
  have HP := Lib.hid hP
  have HRI := Lib.hid hR
  obtain ⟨W1, hW1⟩ : ∃ W1, w.alloc (.cells #[.map (some bf), .map (some bt)] 74) = W1 := ⟨_, rfl⟩
  have b1 : Below w.heap.size w W1 := by rw [← hW1]; exact (Below.refl _ _).alloc (Nat.le_refl _) _
  have s1 : Str W1 w.heap.size 74 [.map (some bf), .map (some bt)] := by rw [← hW1]; exact World.alloc_heap_new w _
  have z1 : w.heap.size < W1.heap.size := s1.lt
  obtain ⟨W2, hW2⟩ : ∃ W2, W1.alloc (.map #[] 0) = W2 := ⟨_, rfl⟩
  have b2 : Below W1.heap.size W1 W2 := by rw [← hW2]; exact (Below.refl _ _).alloc (Nat.le_refl _) _
  have g2 : SetG W2 W1.heap.size 0 [] := by rw [← hW2]; exact SetG.made W1
  have z2 : W1.heap.size < W2.heap.size := g2.lt
  obtain ⟨W3, hW3⟩ : ∃ W3, W2.alloc (.cells #[.map (some W1.heap.size)] 100) = W3 := ⟨_, rfl⟩
  have b3 : Below W2.heap.size W2 W3 := by rw [← hW3]; exact (Below.refl _ _).alloc (Nat.le_refl _) _
  have s3 : Str W3 W2.heap.size 100 [.map (some W1.heap.size)] := by rw [← hW3]; exact World.alloc_heap_new W2 _
  have s13 := (s1.below b2).below b3
  have m0 : W3.cell? ⟨w.heap.size, 0, none⟩ = some (.map (some bf)) := s13.cell 0
  have m1 : W3.cell? ⟨w.heap.size, 1, none⟩ = some (.map (some bt)) := s13.cell 1
  have hb03 := b1.trans ((b2.mono (by omega)).trans (b3.mono (by omega)))
  have HP3 := Lib.hid (((hP.below b1).below b2).below b3)
  have HG3 := Lib.hid (g2.same (w' := W3) (b3.block _ z2))
  have HS13 := Lib.hid s13
  have HS3 := Lib.hid s3
  have HB3 := Lib.hid hb03
  have z3 : W2.heap.size < W3.heap.size := s3.lt
  clear hP hR b1 s1 b2 g2 b3 s3 s13 hb03
  gi_wp2_with fail
  refine ⟨trivial, ?_⟩
  refine (callsIn_wide.2 (rising_any W3 bf bt c K L HP3.out)).mono ?_
  rintro e w4 ⟨kv, rfl, hk4, hb4⟩
  have hkl : (keysN L).length = L.length := keysN_len L
  obtain ⟨A, cv, rfl⟩ := OwnInts.form hk4
  rw [hkl] at hk4
  have HRG := Lib.hid HP3.out.from_.rng
  have HKR := Lib.hid (show ∀ x ∈ keysN L, isTo L x = true ∧ InI x from fun x hx => by
    obtain ⟨m, hm, e⟩ := isTo_iff.1 (keysN_mem.1 hx)
    exact ⟨keysN_mem.1 hx, by rw [← e]; exact (HRG.out m hm).1⟩)
  obtain ⟨i0, hi, hz0, hz1, hz2⟩ := info_parts info_int
  have HI := Lib.hid hi
  have HZ0 := Lib.hid hz0
  have HZ1 := Lib.hid hz1
  have HZ2 := Lib.hid hz2
  clear hi hz0 hz1 hz2
  obtain ⟨BL, hBL⟩ : ∃ BL, w4.heap.size = BL := ⟨_, rfl⟩
  have hz4 := hb4.size
  have HS : Hid (LeastS w.heap.size bf bt W1.heap.size W2.heap.size c K W3.heap.size BL L (.slice A L.length cv) (leastS L ((keysN L).take 0)) (.slice none 0 0) w w4) := Lib.hid
    ⟨HS13.out.below hb4, HS3.out.below hb4, HP3.out.below hb4, HG3.out.same (hb4.block _ HG3.out.lt), hk4, World.ownsRow_nil _ _ _ _, HB3.out.trans (hb4.mono HB3.out.size), by omega, by omega, by omega, by omega, by have := HP3.out.from_.lt; omega, by have := HP3.out.tak.lt; omega, by omega,
      fun g hg => by have h := (World.ownsRow.lt hk4 g hg); omega, ⟨fun e => by have := HP.out.from_.lt; omega, fun e => by have := HP.out.tak.lt; omega⟩, by omega⟩
  clear hk4 hb4 HP3 HG3 HS13 HS3 HB3 HP m0 m1 hW1 hW2 hW3
  gi_wp2_with fail
  refine wpIn_loop (LeastI w.heap.size bf bt W1.heap.size W2.heap.size c K W3.heap.size BL L A cv w)
    (fun a _ => L.length - (Go.RowKit.intOf (a.tmps.getD 14 undef)).toNat) ?start ?round
  case start => exact ⟨0, _, _, _, _, _, _, _, _, _, _, _, _, _, _, _, _, _, _, _, _, _, _, _, _, _, _, _, _, _, _, [], Nat.zero_le _, rfl, .nil, HS.out⟩
  case round =>
    rintro a wr ⟨i, lv, u5, u6, u7, u8, u9, u15, u16, u17, u18, u19, u20, u21, u22, u23, u24, u25, u26, u27, u28, u29, u30, u31, u32, u33, u34, u35, u36, u37, u38, ds, hi, rfl, hm, hS⟩
    have HM := Lib.hid hm
    have HS := Lib.hid hS
    clear hm hS
    by_cases hlt : i < L.length
    · have hi2 : i < (keysN L).length := by rw [hkl]; exact hlt
      obtain ⟨gk, rfl⟩ := OwnInts.block HS.out.keys (by omega)
      have hcell := (OwnInts.cell HS.out.keys hi2).1
      have HKX := Lib.hid (HKR.out _ (List.getElem_mem hi2))
      have HST := Lib.hid (show leastS L ((keysN L).take (i + 1)) = stepG (srcD L) L.length (leastS L ((keysN L).take i)) (keysN L)[i] from foldl_take _ _ _ _ hi2)
      have HLN := Lib.hid (leastS_len (L := L) ((keysN L).take i) ([], []))
      have hlook := HS.out.gone_.look HKX.out.2
      have m0 : wr.cell? ⟨W2.heap.size, 0, none⟩ = some (.map (some W1.heap.size)) := HS.out.gbox.cell 0
      generalize (keysN L)[i] = x at *
      obtain ⟨sl, hsl⟩ : ∃ sl, leastS L ((keysN L).take i) = sl := ⟨_, rfl⟩
      rw [hsl] at HS HST hlook
      have HSL := Lib.hid hsl
      clear hsl
      cases hg : sl.2.contains x with
      | true =>
        have HE := Lib.hid (show stepG (srcD L) L.length sl x = sl by unfold stepG; rw [if_pos hg])
        rw [hg] at hlook
        clear hg
        gi_wp2
        refine ⟨⟨i + 1, _, _, _, _, _, _, _, _, _, _, _, _, _, _, _, _, _, _, _, _, _, _, _, _, _, _, _, _, _, _, _, by omega, by go_num, ?_, ?_⟩, ?_⟩
        · exact HM.out.later ((Below.refl _ _).alloc (Nat.le_refl _) _)
        · rw [HST.out, HE.out]; exact HS.out.later ((Below.refl _ _).alloc (Nat.le_refl _) _)
        · show L.length - (Go.RowKit.intOf (.int .i64 ((i : Int) + 1))).toNat < L.length - (Go.RowKit.intOf (.int .i64 (i : Int))).toNat
          simp [Go.RowKit.intOf]; omega
      | false =>
        obtain ⟨N, hC, hN⟩ := HRI.out x HKX.out.1
        have HE := Lib.hid (show stepG (srcD L) L.length sl x = (sl.1 ++ [x], sl.2 ++ orb (srcD L) x N) by unfold stepG; rw [if_neg (by rw [hg]; simp), perD_eq hC hN])
        have HC := Lib.hid hC
        rw [hg] at hlook
        clear hg hC
        have hl1 : sl.1.length ≤ L.length := by
          have h1 := HLN.out.2
          rw [List.length_take] at h1
          have e : leastS L ((keysN L).take i) = sl := HSL.out
          unfold leastS at e
          rw [e] at h1
          simp at h1; omega
        have hl2 : sl.2.length ≤ L.length * L.length := by
          have h1 := HLN.out.1
          have e : leastS L ((keysN L).take i) = sl := HSL.out
          unfold leastS at e
          rw [e, List.length_take, hkl] at h1
          have h3 : min i L.length * L.length ≤ L.length * L.length := Nat.mul_le_mul_right _ (Nat.min_le_right _ _)
          simp at h1; omega
        have hl3 : L.length * L.length ≤ 1000000 * 1000000 := Nat.mul_le_mul hsz hsz
        have HL2 := Lib.hid hl2
        have HL3 := Lib.hid hl3
        clear hl2 hl3
        gi_wp2_with (gi_at_builtin; refine wpListIn_append1 rfl _ _ 23 rfl BL 3 i0 (.int .i64 0) 8 Try.underlying23 HI.out HZ0.out HZ1.out HZ2.out rfl _ _ _ rfl (World.ownsRow.alloc (World.ownsRow.alloc HS.out.out _) _) ⟨_, 0, none⟩ (.int .i64 x) rfl (cell_made (by simp)) (by rfl) (by omega) (by omega) (by have := HS.out.size; simp; omega) ?_)
        intro v5 w5 ho5 hg5 _
        have hb5 : Below wr.heap.size wr ((wr.alloc (.cells #[] 101)).alloc (.cells #[.int .i64 x] 3)) := ((Below.refl _ _).alloc (Nat.le_refl _) _).alloc (by simp) _
        have hown5 := World.ownsRow.alloc (World.ownsRow.alloc HS.out.out (.cells #[] 101)) (.cells #[.int .i64 x] 3)
        have HM5 := Lib.hid ((HM.out.later hb5).grown hg5 (row_cells hown5))
        have HS5 := Lib.hid ((HS.out.later hb5).low ((Below.refl BL _).grown hg5 (by have := HS.out.size; simp; omega) (fun j e => (World.ownsRow.lt hown5 j e).1)) (l' := sl.1 ++ [x]) (lv' := v5) (by unfold OwnInts; rw [List.length_append, List.length_singleton, List.map_append]; exact ho5))
        have p0 : w5.cell? ⟨w.heap.size, 0, none⟩ = some (.map (some bf)) := HS5.out.box.cell 0
        have p1 : w5.cell? ⟨w.heap.size, 1, none⟩ = some (.map (some bt)) := HS5.out.box.cell 1
        clear ho5 hg5 hb5 hown5 hlook m0 hcell
        gi_wp2_with fail
        refine ⟨trivial, ?_⟩
        refine (callsIn_wide.2 (circle_call w5 bf bt x)).mono ?_
        rintro e w6 ⟨rfl, hw6⟩
        have hb6 : Below w5.heap.size w5 w6 := by rw [hw6]; exact ((Below.refl _ _).alloc (Nat.le_refl _) _).alloc (by simp) _
        have hc6 : CircS (w5.heap.size + 1) w5.heap.size bf bt c L x w6 := by
          refine ⟨?_, ?_, HS5.out.pend.from_.below hb6⟩
          · rw [hw6]; exact (Below.heap_alloc _ _ _ (by simp)).trans (World.alloc_heap_new w5 _)
          · rw [hw6]; have := World.alloc_heap_new (w5.alloc (.cells #[.map (some bf), .map (some bt)] 74)) (.cells #[.int .i64 x] 3); rwa [World.size_alloc] at this
        have HM6 := Lib.hid (HM5.out.later hb6)
        have HS6 := Lib.hid (HS5.out.later hb6)
        have HC6 := Lib.hid hc6
        have hz6 : w5.heap.size + 1 < w6.heap.size := hc6.start.lt
        clear hw6 hb6 hc6 p0 p1
        gi_wp2_with fail
        refine wp_range (F := Fence.wide) rfl (by omega) (gf := 72) (lb := #[.pointer (some ⟨w5.heap.size + 1, 0, none⟩), .pointer (some ⟨w5.heap.size, 0, none⟩)]) rfl trivial (enters_of Try.func72 (by kernel_rfl) rfl)
          (circle_seq 8 (by omega) w6 (w5.heap.size + 1) w5.heap.size bf bt c L x N HC6.out HKX.out.2 HC.out) (fun k h => h.elim) (fun k o h => Or.inl (by have := HS6.out.l3; have := HS6.out.size; rcases h with h | h | h <;> omega)) (fun _ => rfl) (fun xs W l o h _ => h)
          (fun pre W => Marks w.heap.size w6.heap.size ds W ∧ LeastS w.heap.size bf bt W1.heap.size W2.heap.size c K W3.heap.size BL L (.slice (some ⟨gk, 0, none⟩) L.length cv) (sl.1 ++ [x], sl.2 ++ pre.map (·.1)) v5 w W)
          (fun _ _ _ => False)
          (fun s A B h ht => ⟨h.1.kept (Nat.le_refl _) (fun k hk hd => ht.block k _ hd id (Or.inl hk)), h.2.tn ht HS6.out.size⟩) (fun _ _ _ _ h _ => h) ⟨HM6.out, by rw [List.map_nil, List.append_nil]; exact HS6.out⟩
          (fun m => { tmps := #[pendV bf bt, .pointer (some ⟨w.heap.size, 0, none⟩), .slice none 0 0, v5, .pointer (some ⟨W2.heap.size, 0, none⟩), u5, .int .i64 x, .pointer (some ⟨wr.heap.size, 0, none⟩), .bool false, .int .i64 m.1, .map (some W1.heap.size), pendV bf bt, .slice (some ⟨gk, 0, none⟩) L.length cv, .int .i64 (L.length : Int), .int .i64 (i : Int), .bool true, .pointer (some ⟨gk, i, none⟩), .int .i64 x, .tuple #[.agg #[], .bool false], .map (some W1.heap.size), .int .i64 x, .tuple #[.agg #[], .bool false], .agg #[], .bool false, .bool false, lv, .int .i64 x, .slice (some ⟨wr.heap.size + 1, 0, none⟩) 1 1, v5, pendV bf bt, .int .i64 x, .func (.func 72) #[] #[.pointer (some ⟨w5.heap.size + 1, 0, none⟩), .pointer (some ⟨w5.heap.size, 0, none⟩)], .int .i64 m.1, .int .i64 m.2, u34, u35, u36, u37, u38], defers := [] }) ?assign ?body ?done ?stop
        case assign =>
          intro l m W K hK
          gi_wp2
          exact hK
        case body =>
          rintro l pre m W hz ⟨hmW, hsW⟩ ⟨j, hj, rfl, rfl⟩
          have m0 : W.cell? ⟨W2.heap.size, 0, none⟩ = some (.map (some W1.heap.size)) := hsW.gbox.cell 0
          have hlen : (sl.2 ++ (circ (srcD L) x j).map (·.1)).length < 1000000000000000 := by rw [List.length_append, List.length_map, circ_len]; have := HL2.out; have := HL3.out; omega
          obtain ⟨w7, r7, hp7, hg7⟩ := hsW.gone_.put hlen (x := it (srcD L) x j) (in_it HRG.out HKX.out.2 j)
          have hne : ∀ {k : Nat} {vs : List Value} {t : TypeId}, Str W k t vs → k ≠ W1.heap.size := fun {k vs t} hq e => by obtain ⟨es, cl, hm⟩ := hsW.gone_.is_map; subst e; have := hm.symm.trans hq; cases this
          have HPOST := Lib.hid (show KeepsFrom w6.heap.size W w7 ∧ Rd (rdC (w5.heap.size + 1) w5.heap.size bf) W w7 ∧ Marks w.heap.size w6.heap.size ds w7 ∧ LeastS w.heap.size bf bt W1.heap.size W2.heap.size c K W3.heap.size BL L (.slice (some ⟨gk, 0, none⟩) L.length cv) (sl.1 ++ [x], sl.2 ++ (circ (srcD L) x j ++ [(it (srcD L) x j, it (srcD L) x (j + 1))]).map (·.1)) v5 w w7 by
            have hl5 := hsW.l5
            have hs6 := HS6.out.size
            refine ⟨KeepsFrom.of_grownBy hg7 (fun k e => by cases e; omega), fun k o hk hr => (hg7.block k (Array.getElem?_eq_some_iff.1 hk).1 (fun e => ?_)).trans hk, hmW.kept (Nat.le_refl _) (fun k hk hd => (hg7.block k (Array.getElem?_eq_some_iff.1 hd).1 (fun e => ?_)).trans hd), ?_⟩
            · cases e
              have h5 := HS5.out.size
              rcases hr with h | h | h
              · omega
              · omega
              · exact hsW.ne.1 h
            · cases e
              obtain ⟨es, cl, hm⟩ := hsW.gone_.is_map
              rw [hm] at hd; cases hd
            · rw [List.map_append, ← List.append_assoc]
              exact hsW.put (by show SetG w7 _ (_ ++ [it (srcD L) x j]).length (_ ++ [it (srcD L) x j]); rw [List.length_append, List.length_singleton]; exact hp7) hg7)
          clear hmW hsW hp7 hg7 hne hlen
          gi_wp2
          exact HPOST.out
        case done =>
          rintro D xs W hD rfl ⟨hmW, hsW⟩ hK
          have HMW := Lib.hid (show Marks w.heap.size W.heap.size ({ target := .collected D, args := #[] } :: ds) W from .cons (by have := HS6.out.size; have := HS6.out.base; omega) (Array.getElem?_eq_some_iff.1 hK).1 hK (hmW.kept (by have h1 := hsW.size; have := (Array.getElem?_eq_some_iff.1 hK).1; omega) (fun k hk hd => hd)) (hmW.ne hD))
          have HSW := Lib.hid hsW
          clear hmW hsW hK
          gi_wp2
          refine ⟨⟨i + 1, _, _, _, _, _, _, _, _, _, _, _, _, _, _, _, _, _, _, _, _, _, _, _, _, _, _, _, _, _, _, _, by omega, by go_num, HMW.out, ?_⟩, ?_⟩
          · rw [HST.out, HE.out, ← circ_fst]; exact HSW.out
          · show L.length - (Go.RowKit.intOf (.int .i64 ((i : Int) + 1))).toNat < L.length - (Go.RowKit.intOf (.int .i64 (i : Int))).toNat
            simp [Go.RowKit.intOf]; omega
        case stop =>
          rintro D cc pre W _ h _
          exact h.elim
    · obtain rfl : i = L.length := by omega
      have HE := Lib.hid (show (leastS L ((keysN L).take L.length)).1 = leastN L by unfold leastN; rw [List.take_of_length_le (by rw [hkl]; exact Nat.le_refl _)])
      gi_wp2
      refine leave_marks (by simp) HM.out fun w' ht => ?_
      refine ⟨_, results_tmp rfl _ _ _, lv, rfl, ?_, ?_⟩
      · rw [← HE.out]
        exact own_base (own_same_row HS.out.out (fun g cur hg => (ht.block g _ hg id (Or.inr rfl)).trans hg.symm)) HS.out.base
      · have hb := HS.out.below
        refine hb.trans ⟨ht.os, ht.tape, ht.output, ht.size, fun k hk => ?_⟩
        have h3 := Array.getElem?_eq_some_iff.2 ⟨Nat.lt_of_lt_of_le hk hb.size, rfl⟩
        exact (ht.block k _ h3 id (Or.inl hk)).trans h3.symm
end Go.Proofs.Ytdohaoomckhbgaa.Vm
