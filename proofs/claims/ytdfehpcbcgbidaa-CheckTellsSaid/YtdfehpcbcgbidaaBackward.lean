/- A range over slices.Backward of a row of numbers: what the iterator hands over, and when it stops. -/
import Derived.Test.YtdfehpcbcgbidaaEdges
import Derived.Test.YtdfehpcbcgbidaaStruct
import Derived.RangeFuncFrom
namespace Go.Proofs.Ytdfehpcbcgbidaa.Gc
open Go.ChangeShapes Go.WideShapes Go.ChangeAt Go.RowKit Go.Shelf Go.Proofs.Ytdfehpcbcgbidaa.Mem Go.Proofs.Ytdfehpcbcgbidaa.Gr Go.Proofs.Ytdfehpcbcgbidaa.Gn
set_option linter.unusedVariables false
attribute [local go_sem] Oper.semAt_some

/-- What a round that goes on keeps: the blocks of K. -/
def KeptP (K : Nat → Prop) (W W' : World) : Prop := ∀ k, K k → W'.heap[k]? = W.heap[k]?
theorem KeptP.refl (K : Nat → Prop) (W : World) : KeptP K W W := fun _ _ => rfl
theorem KeptP.trans {K : Nat → Prop} {X Y Z : World} (h : KeptP K X Y) (k : KeptP K Y Z) : KeptP K X Z := fun i hi => (k i hi).trans (h i hi)
theorem KeptP.cell {K : Nat → Prop} {W W' : World} (h : KeptP K W W') {p : Addr} (hp : K p.block) : W'.cell? p = W.cell? p := World.cell?_of_block (h _ hp)
theorem keptP_b {K : Nat → Prop} {w : World} (hK : ∀ k, K k → k < w.heap.size) (W : World) (l : Nat) (o o' : Obj) (hl : w.heap.size ≤ l) (h : W.heap[l]? = some o) (_ : o.isCells = false) (_ : o.isWalk = false) : KeptP K W (W.putObj l o') :=
  fun k hk => World.putObj_heap_other (by have := hK k hk; omega)
theorem own_notcells {w : World} {B : Nat} {e : TypeId} {s : Nat} {v : Value} {n : Nat} {xs : List Value} (h : w.ownsRow B e s v n xs) {row : Option Nat} (hr : ∀ r, row = some r → ∃ o : Obj, w.heap[r]? = some o ∧ o.isCells = false) :
    v.ownBlock = none ∨ v.ownBlock ≠ row := by
  rcases h.2 with ⟨rfl, _⟩ | ⟨g, cap, cur, rfl, _, hg, _⟩
  · exact Or.inl rfl
  · right
    intro e
    obtain ⟨o, ho, hc⟩ := hr g e.symm
    rw [hg] at ho
    injection ho with ho
    subst ho
    cases hc
/-- Blocks of S alone have turned; others were made. -/
structure Fr (S : Nat → Prop) (w w' : World) : Prop where
  os : w'.os = w.os
  tape : w'.tape = w.tape
  output : w'.output = w.output
  size : w.heap.size ≤ w'.heap.size
  block : ∀ k, k < w.heap.size → ¬ S k → w'.heap[k]? = w.heap[k]?
theorem Fr.refl (S : Nat → Prop) (w : World) : Fr S w w := ⟨rfl, rfl, rfl, Nat.le_refl _, fun _ _ _ => rfl⟩
theorem Fr.trans {S S' : Nat → Prop} {a b c : World} (h : Fr S a b) (k : Fr S' b c) (hs : ∀ i, i < a.heap.size → S' i → S i) : Fr S a c :=
  ⟨k.os.trans h.os, k.tape.trans h.tape, k.output.trans h.output, Nat.le_trans h.size k.size, fun i hi hn => (k.block i (Nat.lt_of_lt_of_le hi h.size) (fun h' => hn (hs i hi h'))).trans (h.block i hi hn)⟩
theorem Fr.mono {S S' : Nat → Prop} {a b : World} (h : Fr S a b) (hs : ∀ k, S k → S' k) : Fr S' a b := ⟨h.os, h.tape, h.output, h.size, fun k hk hn => h.block k hk (fun e => hn (hs k e))⟩
theorem Fr.of_below {S : Nat → Prop} {a b : World} (h : Below a.heap.size a b) : Fr S a b := ⟨h.os, h.tape, h.output, h.size, fun k hk _ => h.block k hk⟩
theorem Fr.of_grown {S : Nat → Prop} {a b : World} {row : Option Nat} (h : a.grownBy b row) (hr : ∀ k, row = some k → k < a.heap.size → S k) : Fr S a b :=
  ⟨h.os, h.tape, h.output, h.size, fun k hk hn => h.block k hk (fun e => hn (hr k e.symm hk))⟩
theorem Fr.below {S : Nat → Prop} {a b : World} (h : Fr S a b) {B : Nat} (hB : B ≤ a.heap.size) (hs : ∀ k, k < B → ¬ S k) : Below B a b :=
  ⟨h.os, h.tape, h.output, h.size, fun k hk => h.block k (by omega) (hs k hk)⟩
theorem Fr.cell {S : Nat → Prop} {a b : World} (h : Fr S a b) {p : Addr} {v : Value} (hc : a.cell? p = some v) (hs : ¬ S p.block) : b.cell? p = some v := by
  rw [World.cell?_of_block (h.block _ (lt_of_cell hc) hs)]; exact hc
theorem Fr.own {S : Nat → Prop} {a b : World} (h : Fr S a b) {B : Nat} {e : TypeId} {s : Nat} {v : Value} {n : Nat} {xs : List Value} (ho : a.ownsRow B e s v n xs) (hs : ∀ k, v.ownBlock = some k → ¬ S k) : b.ownsRow B e s v n xs := by
  refine ⟨ho.1, ?_⟩
  rcases ho.2 with h0 | ⟨g, cap, cur, rfl, hg, hh, r⟩
  · exact Or.inl h0
  · exact Or.inr ⟨g, cap, cur, rfl, hg, by rw [h.block g (Array.getElem?_eq_some_iff.1 hh).1 (hs g rfl)]; exact hh, r⟩
theorem Fr.boxed {S : Nat → Prop} {a b : World} (h : Fr S a b) {x : Nat} {t : TypeId} {v : Value} (hb : Boxed a x t v) (hs : ¬ S x) : Boxed b x t v := (h.block x hb.lt hs).trans hb
theorem Fr.str {S : Nat → Prop} {a b : World} (h : Fr S a b) {x : Nat} {t : TypeId} {vs : List Value} (hb : Str a x t vs) (hs : ¬ S x) : Str b x t vs := (h.block x hb.lt hs).trans hb
theorem rowsD_fr {S : Nat → Prop} {a b : World} (h : Fr S a b) {B : Nat} {vs : List Value} {R : List (List Int)} (hr : RowsD B a vs R) (hs : ∀ k u, u ∈ vs → u.ownBlock = some k → ¬ S k) : RowsD B b vs R := by
  obtain ⟨h2, h3, h4⟩ := hr
  refine ⟨h2, fun i hi => ?_, h4⟩
  obtain ⟨x, ex, hx⟩ := h3 i hi
  exact ⟨x, ex, h.own hx (fun k hk => hs k x (List.mem_of_getElem? ex) hk)⟩
theorem rowsD_below {a b : World} {B : Nat} {vs : List Value} {R : List (List Int)} (hr : RowsD B a vs R) (h : Below a.heap.size a b) : RowsD B b vs R := hr.below h
theorem list_set_here {α : Type} {l : List α} {i : Nat} {x : α} (h : l[i]? = some x) : l.set i x = l := by
  obtain ⟨hi, e⟩ := List.getElem?_eq_some_iff.1 h
  rw [← e]; exact set_same hi
/-- A store into one of the rows. -/
theorem rowsD_put {B : Nat} {w : World} {vs : List Value} {R : List (List Int)} (h : RowsD B w vs R) {i g n c : Nat} (hu : vs[i]? = some (.slice (some ⟨g, 0, none⟩) n c)) {l : List Int} (hl : R[i]? = some l) (j : Nat) (x : Int) :
    RowsD B (w.setCell ⟨g, j, none⟩ (.int .i64 x)) vs (R.set i (l.set j x)) := by
  obtain ⟨h1, h2⟩ := (h.at hu hl).stored j x
  have hr := h.change hu h2 h1 (Or.inl rfl)
  rw [list_set_here hu] at hr
  exact hr
theorem rowsD_kept {B : Nat} {w w' : World} {vs : List Value} {R : List (List Int)} (h : RowsD B w vs R) {row : Option Nat} (hg : w.grownBy w' row) (hr : ∀ r, row = some r → ∃ o : Obj, w.heap[r]? = some o ∧ o.isCells = false) : RowsD B w' vs R :=
  h.kept hg (fun u l hu => own_notcells hu hr)
theorem ownFrom_fr {β : Type} {S : Nat → Prop} {w₀ : World} {B : Nat} (hB : w₀.heap.size ≤ B) : OwnFrom B (fun (_ : β) W => Fr S w₀ W) :=
  fun _ _ _ _ hs hg hr => hs.trans (S' := fun k => B ≤ k) (Fr.of_grown hg (fun k e _ => (hr k e).1)) (fun i hi h => by omega)
theorem str_cells {w w' : World} {b : Nat} {t : TypeId} {vs : List Value} (h : Str w b t vs) {row : Option Nat} (hg : w.grownBy w' row) (hr : ∀ r, row = some r → ∃ o : Obj, w.heap[r]? = some o ∧ o.isCells = false) : Str w' b t vs :=
  h.kept hg (fun e => by
    obtain ⟨o, ho, hc⟩ := hr b e.symm
    rw [show w.heap[b]? = _ from h] at ho
    injection ho with ho
    subst ho
    cases hc)
/-- A row of numbers whose cells lie in blocks of K. -/
def IntsK (K : Nat → Prop) (w : World) (A : Option Addr) (l : List Nat) : Prop := ∀ j (h : j < l.length), ∃ ad, A = some ad ∧ K (ad.add j).block ∧ w.cell? (ad.add j) = some (.int .i64 (l[j] : Nat))
/-- A place, and the number that stands there. -/
abbrev Bw (N : Nat) := { p : Nat × Nat // p.2 < N }
abbrev encB {N : Nat} (x : Bw N) : Array Value := #[.int .i64 (x.1.1 : Int), .int .i64 (x.1.2 : Int)]
theorem backward_any (w : World) (A : Option Addr) (n c : Nat) :
    Calls Try.prog 79 #[.slice A n c] w fun e w' => e = .returned (.func (.func 92) #[] #[.pointer (some ⟨w.heap.size, 0, none⟩)]) ∧ w' = w.alloc (.cells #[.slice A n c] 28) := by
  go_enter Try.func79, Try.ntmps79
  go_wp2
  go_ret
  exact ⟨rfl, rfl⟩
set_option maxRecDepth 100000 in
set_option maxHeartbeats 2000000 in
theorem backward_stops (F : Fence) (n : Nat) (hf : F.fn 92) (hro : F.round = none) (hn : 1 ≤ n) (K : Nat → Prop) (w : World) (A : Option Addr) (l : List Nat) (c N b : Nat) (hi : IntsK K w A l) (hl : l.length ≤ c) (hcm : c ≤ maxLen) (hN : ∀ x ∈ l, x < N)
    (hc : w.cell? ⟨b, 0, none⟩ = some (.slice A l.length c)) (hb : K b) (hK : ∀ k, K k → k < w.heap.size) (hlen : l.length ≤ 1000000) :
    SeqStopsK F n Try.prog 92 #[.pointer (some ⟨b, 0, none⟩)] (encB (N := N)) (KeptP K)
      (fun xs => xs.map (·.1.2) = l.reverse) (fun pre => pre.map (·.1.2) <+: l.reverse) l.length w := by
  intro ll J Jx W hW hJ hJx hY h0
  unfold maxLen at hcm
  have hKW : ∀ k, K k → W.heap[k]? = w.heap[k]? := fun k hk => hW.block k (hK k hk)
  have HI := Lib.hid hi
  have HK := Lib.hid hKW
  have HY := Lib.hid hY
  have HN := Lib.hid hN
  have HC := Lib.hid hc
  clear hKW hi hW hJ hJx hY hN hc
  refine callsIn_of_wp Try.func92 rfl hf ?_ hro
  simp only [Try.ntmps92, List.size_toArray, List.length_cons, List.length_nil, Nat.reduceAdd, Nat.reduceSub, Array.replicate_succ, Array.replicate_zero, List.push_toArray, List.append_toArray, List.nil_append, List.cons_append]
  have hbW : W.cell? ⟨b, 0, none⟩ = some (.slice A l.length c) := by rw [World.cell?_of_block (HK.out b hb)]; exact HC.out
  gi_wp2
  gi_loopw [3] (fun i wr => ∃ (k : Nat) (pre : List (Bw N)), k ≤ l.length ∧ i = .int .i64 ((k : Int) - 1) ∧ pre.map (·.1.2) = (l.drop k).reverse ∧ J pre wr ∧ KeptP K W wr) (fun i _ => (intOf i + 1).toNat)
  case atStart => exact ⟨l.length, [], Nat.le_refl _, rfl, by simp, h0, KeptP.refl _ _⟩
  case round =>
    obtain ⟨k, pre, hk, rfl, hpre, hJs, hkp⟩ := hrel
    obtain ⟨wo, rfl⟩ : ∃ wo : World, wo = wr := ⟨_, rfl⟩
    cases k with
    | zero =>
      have HP := Lib.hid (show pre.map (·.1.2) = l.reverse by rw [hpre, List.drop_zero])
      clear hpre
      have d0 : decide ((0 : Int) ≤ -1) = false := by decide
      gi_wp2
      go_end0
      exact ⟨⟨_, rfl⟩, .inl ⟨_, HP.out, hJs⟩⟩
    | succ k =>
      have hlt : k < l.length := by omega
      obtain ⟨ad, rfl, hka, hx⟩ := HI.out k hlt
      have hbo : wo.cell? ⟨b, 0, none⟩ = some (.slice (some ad) l.length c) := by rw [hkp.cell hb]; exact hbW
      have hx' : wo.cell? (ad.add k) = some (.int .i64 (l[k] : Nat)) := by
        rw [hkp.cell (p := ad.add k) hka, World.cell?_of_block (HK.out _ hka)]; exact hx
      have HD := Lib.hid (show (l.drop k).reverse = (l.drop (k + 1)).reverse ++ [l[k]] by rw [List.drop_eq_getElem_cons hlt, List.reverse_cons])
      have HPR := Lib.hid (show (l.drop k).reverse <+: l.reverse from List.reverse_prefix.2 (List.drop_suffix _ _))
      have hxN : l[k] < N := HN.out _ (List.getElem_mem hlt)
      have hlp : pre.length < l.length := by
        have h1 : (pre.map (·.1.2)).length = (l.drop (k + 1)).reverse.length := by rw [hpre]
        rw [List.length_map, List.length_reverse, List.length_drop] at h1
        omega
      clear hx
      generalize l[k] = x at *
      have hsn : (pre ++ [(⟨(k, x), hxN⟩ : Bw N)]).map (·.1.2) = (l.drop k).reverse := by rw [List.map_append, hpre, HD.out]; rfl
      obtain ⟨fn, tmps, assign, body, hy, hR⟩ := HY.out pre ⟨(k, x), hxN⟩ wo hJs hlp
      dsimp only [encB] at hy
      have HS := Lib.hid hsn
      have HKp := Lib.hid hkp
      clear hpre hJs hkp hsn hbW
      have e1 : (((k + 1 : Nat) : Int) - 1) = (k : Int) := by omega
      rw [e1]
      clear e1
      gi_wp2
      refine hR.mono ?_
      rintro e W3 (⟨rfl, hJ3, hk3⟩ | ⟨rfl, hJx3⟩)
      · gi_wp2
        go_roundw
        case rel => exact ⟨k, _, by omega, rfl, HS.out, hJ3, HKp.out.trans hk3⟩
        case measure => simp [intOf]
      · gi_wp2
        refine bodyPost_ret (results_none rfl _ _ _) rfl ?_
        exact ⟨⟨_, rfl⟩, .inr ⟨_, by rw [HS.out]; exact HPR.out, hJx3⟩⟩
end Go.Proofs.Ytdfehpcbcgbidaa.Gc
