/- Moves: all that is carried. -/
import Derived.Test.YtdohaoomckhbgaaVT
namespace Go.Proofs.Ytdohaoomckhbgaa.Vm
open Go.ChangeShapes Go.WideShapes Go.ChangeAt Go.RowKit Go.Maps Go.WideElems Go.ChangeMaps Go.Sort Go.Shelf Go.Proofs.Ytdohaoomckhbgaa.Mem Go.Proofs.Ytdohaoomckhbgaa.Br Go.Proofs.Ytdohaoomckhbgaa.Va Go.Proofs.Ytdohaoomckhbgaa.Vr
set_option linter.unusedVariables false
set_option linter.unusedSimpArgs false
attribute [local go_sem] Oper.semAt_some
def seqP (g : Int → Option (List PM)) (xs : List Int) : Option (List PM) := xs.foldl (fun acc x => appO acc (g x)) (some [])
theorem seqP_none {g : Int → Option (List PM)} {pre xs : List Int} (h : pre <+: xs) (hn : seqP g pre = none) : seqP g xs = none := by
  obtain ⟨r, rfl⟩ := h
  unfold seqP at hn ⊢
  rw [List.foldl_append, hn]
  clear hn
  induction r with
  | nil => rfl
  | cons m r ih => rw [List.foldl_cons, appO_none_l]; exact ih
theorem seqP_take (g : Int → Option (List PM)) (xs : List Int) (k : Nat) (h : k < xs.length) : seqP g (xs.take (k + 1)) = appO (seqP g (xs.take k)) (g xs[k]) := foldl_take _ _ _ _ h
theorem appO_len {a b : Option (List PM)} {xs : List PM} {n m : Nat} (ha : ∀ ys, a = some ys → ys.length ≤ n) (hb : ∀ ys, b = some ys → ys.length ≤ m) (h : appO a b = some xs) : xs.length ≤ n + m := by
  cases a with
  | none => rw [appO_none_l] at h; cases h
  | some y =>
    cases b with
    | none => rw [appO_none_r] at h; cases h
    | some z =>
      have e : y ++ z = xs := by injection h
      rw [← e, List.length_append]
      have := ha y rfl
      have := hb z rfl
      omega
theorem passN_len {sc sp x own : Int} {ms : List Mov} {xs : List PM} (h : passN sc sp x own ms = some xs) : xs.length ≤ 4 + 4 * ms.length :=
  appO_len (fun ys h => bringN_len h) (fun ys h => by have := seqO_len (g := passG sc sp x own) (fun m xs h => bringN_len h) ms [] ys h; simpa using this) h
theorem turnN_len {sc sp : Int} {f : Int → Int} {x : Int} {N : Nat} {xs : List PM} (h : turnN sc sp f x N = some xs) : xs.length ≤ 4 + 4 * N := by
  unfold turnN at h
  split at h
  · split at h
    · cases h
    · have := passN_len h; rwa [circ_len] at this
  · split at h
    · have := passN_len h; rwa [circ_len] at this
    · injection h with h
      have := swapsN_len x (circ f x N)
      rw [circ_len, h] at this
      omega
theorem seqP_len {g : Int → Option (List PM)} {n : Nat} (hg : ∀ m xs, g m = some xs → xs.length ≤ n) (ms : List Int) : ∀ k ys, k ≤ ms.length → seqP g (ms.take k) = some ys → ys.length ≤ k * n := by
  intro k
  induction k with
  | zero => intro ys _ h; simp [seqP] at h; rw [h]; simp
  | succ k ih =>
    intro ys hk h
    rw [seqP_take g ms k (by omega)] at h
    have := appO_len (n := k * n) (m := n) (fun zs hz => ih zs (by omega) hz) (fun zs hz => hg _ _ hz) h
    rw [Nat.succ_mul]; exact this
def turnG (sc sp : Int) (R : List Mov) (x : Int) : Option (List PM) := turnN sc sp (srcD R) x (perD (srcD R) x R.length)
def bringG (sc sp : Int) (m : Mov) : Option (List PM) := bringN sc sp m.1 m.2
def carryN (sc sp : Int) (es R : List Mov) : Option (List PM) := appO (seqO (bringG sc sp) es) (seqP (turnG sc sp R) (leastN R))
theorem leastS_sub {L : List Mov} : ∀ (ks : List Int) (s : List Int × List Int), ∀ x ∈ (ks.foldl (stepG (srcD L) L.length) s).1, x ∈ s.1 ∨ x ∈ ks
  | [], s, x, h => Or.inl h
  | k :: ks, s, x, h => by
    rcases leastS_sub (L := L) ks _ x h with h | h
    · unfold stepG at h
      split at h
      · exact Or.inl h
      · rcases List.mem_append.1 h with h | h
        · exact Or.inl h
        · exact Or.inr (by rw [List.mem_singleton.1 h]; simp)
    · exact Or.inr (List.mem_cons_of_mem _ h)
theorem leastN_to {L : List Mov} {x : Int} (h : x ∈ leastN L) : isTo L x = true := by
  rcases leastS_sub (L := L) (keysN L) ([], []) x h with h | h
  · cases h
  · exact keysN_mem.1 h
theorem leastN_len (L : List Mov) : (leastN L).length ≤ L.length := by
  have h := (leastS_len (L := L) (keysN L) ([], [])).2
  rw [keysN_len] at h
  have e : (leastN L).length = (List.foldl (stepG (srcD L) L.length) ([], []) (keysN L)).1.length := rfl
  rw [e]
  exact Nat.le_trans h (by simp)
def Oth (ba bf bt : Nat) (w w' : World) : Prop := ∀ (k : Nat) (o : Obj), w.heap[k]? = some o → k ≠ ba → k ≠ bf → k ≠ bt → (∀ cur : Array Value, o ≠ Obj.cells cur 48 (0, 0)) → w'.heap[k]? = some o
structure CarS (E : Nat) (ba : Nat) (sc sp : Int) (a1 a2 a3 a4 bf bt : Nat) (w0 w : World) : Prop where
  b1 : Str w a1 70 [.func (.func 40) #[] #[.pointer (some ⟨ba, 0, none⟩)], .int .i64 sc, .int .i64 sp]
  b2 : Str w a2 74 [.map (some bf), .map (some bt)]
  b3 : Str w a3 74 [.map (some bf), .map (some bt)]
  b4 : Str w a4 4 [.bool false]
  nf : ∃ o, w.heap[bf]? = some o ∧ o.isCells = false
  nt : ∃ o, w.heap[bt]? = some o ∧ o.isCells = false
  below : Below E w0 w
  oth : Oth ba bf bt w0 w
section
variable {E ba : Nat} {sc sp : Int} {a1 a2 a3 a4 bf bt : Nat} {w0 w w' : World}
theorem nc_lay {k : Nat} (h : ∃ o : Obj, w.heap[k]? = some o ∧ o.isCells = false) (hl : Lay ba w w') (hk : k ≠ ba) : ∃ o, w'.heap[k]? = some o ∧ o.isCells = false := by
  obtain ⟨o, h1, h2⟩ := h
  exact ⟨o, hl.block k o h1 hk (fun cur e => by subst e; cases h2), h2⟩
theorem nc_tn {M : Nat → Prop} {lo k : Nat} (h : ∃ o : Obj, w.heap[k]? = some o ∧ o.isCells = false) (ht : Tn M lo w w') : ∃ o, w'.heap[k]? = some o ∧ o.isCells = false := by
  obtain ⟨o, h1, h2⟩ := h
  exact ht.kind k o h1 h2
theorem CarS.laid (h : CarS E ba sc sp a1 a2 a3 a4 bf bt w0 w) (hl : Lay ba w w') (hb : Below E w w') (h1 : a1 ≠ ba) (h2 : a2 ≠ ba) (h3 : a3 ≠ ba) (h4 : a4 ≠ ba) (h5 : bf ≠ ba) (h6 : bt ≠ ba) : CarS E ba sc sp a1 a2 a3 a4 bf bt w0 w' :=
  ⟨hl.str h.b1 h1 (by decide), hl.str h.b2 h2 (by decide), hl.str h.b3 h3 (by decide), hl.str h.b4 h4 (by decide), nc_lay h.nf hl h5, nc_lay h.nt hl h6, h.below.trans hb, fun k o hk g1 g2 g3 g4 => hl.block k o (h.oth k o hk g1 g2 g3 g4) g1 g4⟩
theorem CarS.tn {lo : Nat} (h : CarS E ba sc sp a1 a2 a3 a4 bf bt w0 w) (ht : Tn (mvL bf bt) lo w w') (hE : E ≤ lo) (hz : E ≤ w.heap.size) (hw0 : w0.heap.size ≤ lo) (hm : ∀ k, k < E → ¬ mvL bf bt k) (h1 : ¬ mvL bf bt a1) (h2 : ¬ mvL bf bt a2) (h3 : ¬ mvL bf bt a3) (h4 : ¬ mvL bf bt a4) : CarS E ba sc sp a1 a2 a3 a4 bf bt w0 w' :=
  ⟨Str.tn h.b1 ht h1, Str.tn h.b2 ht h2, Str.tn h.b3 ht h3, Str.tn h.b4 ht h4, nc_tn h.nf ht, nc_tn h.nt ht, h.below.trans ⟨ht.os, ht.tape, ht.output, ht.size, fun k hk => by
    have h9 := Array.getElem?_eq_some_iff.2 ⟨Nat.lt_of_lt_of_le hk hz, rfl⟩
    exact (ht.block k _ h9 (hm k hk) (Or.inl (by omega))).trans h9.symm⟩, fun k o hk g1 g2 g3 g4 => ht.block k o (h.oth k o hk g1 g2 g3 g4) (fun h => by rcases h with h | h; exact g2 h; exact g3 h) (Or.inl (by have := (Array.getElem?_eq_some_iff.1 hk).1; omega))⟩
theorem rdL_lay {bp C : Nat} {l : List PM} (hl : LayAt w ba C l) (h : Lay ba w w') (hb : Str w bp 74 [.map (some bf), .map (some bt)]) (nf : ∃ o : Obj, w.heap[bf]? = some o ∧ o.isCells = false) (nt : ∃ o : Obj, w.heap[bt]? = some o ∧ o.isCells = false) (h1 : bp ≠ ba) (h2 : bf ≠ ba) (h3 : bt ≠ ba) : Rd (rdL bp bf bt) w w' := fun k o hk hr => by
  rcases hr with rfl | rfl | rfl | ⟨cur, rfl⟩
  · exact h.block _ o hk h1 (fun cur e => by have := hk.symm.trans hb; cases this; cases e)
  · obtain ⟨o', h4, h5⟩ := nf
    rw [hk] at h4; cases h4
    exact h.block _ o hk h2 (fun cur e => by subst e; cases h5)
  · obtain ⟨o', h4, h5⟩ := nt
    rw [hk] at h4; cases h4
    exact h.block _ o hk h3 (fun cur e => by subst e; cases h5)
  · obtain ⟨v, h4, _⟩ := hl
    exact h.block _ _ hk (fun e => by subst e; have := hk.symm.trans h4; cases this) (fun cur e => by cases e)
end
theorem LayAt.tnM {w w' : World} {M : Nat → Prop} {C ba B : Nat} {l : List PM} (h : LayAt w ba B l) (ht : Tn M C w w') (h1 : ¬ M ba) (hM : ∀ k, B ≤ k → ¬ M k) : LayAt w' ba B l := by
  obtain ⟨v, h2, h3⟩ := h
  refine ⟨v, Str.tn h2 ht h1, own_same_kv h3 (fun g hg => ?_)⟩
  rcases h3.2 with ⟨rfl, _⟩ | ⟨g', cap, cur, rfl, hb, hh, _⟩
  · cases hg
  · cases hg
    exact (ht.block g' _ hh (hM g' hb) (Or.inr rfl)).trans hh.symm
theorem oth_set {ba bf bt k i : Nat} {w0 w : World} (h : Oth ba bf bt w0 w) (hk : w0.heap.size ≤ k) (u : Value) : Oth ba bf bt w0 (w.setCell ⟨k, i, none⟩ u) := fun j o hj g1 g2 g3 g4 =>
  (Below.heap_setCell _ _ _ _ (fun e => by have := (Array.getElem?_eq_some_iff.1 hj).1; have e : j = k := e; omega)).trans (h j o hj g1 g2 g3 g4)
theorem oth_tn {ba bf bt lo : Nat} {w0 w w' : World} (h : Oth ba bf bt w0 w) (hlo : w0.heap.size ≤ lo) (ht : Tn nothing lo w w') : Oth ba bf bt w0 w' := fun k o hk g1 g2 g3 g4 =>
  ht.block k o (h k o hk g1 g2 g3 g4) id (Or.inl (by have := (Array.getElem?_eq_some_iff.1 hk).1; omega))
structure CarT (E ba B : Nat) (sc sp : Int) (a1 a2 a3 a4 bf bt c K D Bv : Nat) (R : List Mov) (v : Value) (ys : List PM) (w0 : World) (i : Nat) (w : World) : Prop where
  car : CarS E ba sc sp a1 a2 a3 a4 bf bt w0 w
  pend : PendAt w bf bt c K R
  row : OwnInts Bv w v (leastN R)
  mark : w.heap[D]? = some (.deferred (some []))
  laid : ∃ zs, seqP (turnG sc sp R) ((leastN R).take i) = some zs ∧ LayAt w ba B (ys ++ zs)
theorem row_lay {ba B Bv : Nat} {w w' : World} {l : List PM} {v : Value} {xs : List Int} (h : OwnInts Bv w v xs) (hl : LayAt w ba B l) (hy : Lay ba w w') : OwnInts Bv w' v xs :=
  own_same_row h (fun g cur hg => (hy.block g _ hg (fun e => by obtain ⟨u, h4, _⟩ := hl; subst e; have := hg.symm.trans h4; cases this) (fun cur e => by cases e)).trans hg.symm)
def CarryRes (ba B E bf bt : Nat) (o : Option (List PM)) (w : World) (e : Ending) (w' : World) : Prop := e = .returned (.bool o.isSome) ∧ (∃ l', LayAt w' ba B l' ∧ ∀ xs, o = some xs → l' = xs) ∧ Below E w w' ∧ Oth ba bf bt w w'
set_option maxRecDepth 100000 in
set_option maxHeartbeats 4000000 in
theorem carry_any (w : World) (ba B E : Nat) (sc sp : Int) (bf bt c K : Nat) (L es R : List Mov) (hL : LayAt w ba B []) (hB : B ≤ w.heap.size) (hbf : bf < B) (hbt : bt < B) (hba : ba ≠ bf ∧ ba ≠ bt) (hE : E ≤ ba ∧ E ≤ bf ∧ E ≤ bt) (hsc : sc < 16) (hsp : sp < 16383) (hP : PendAt w bf bt c K L) (hpl : Pls L) (hG : Goes L es R) (hR : Rings R) (hln : L.length ≤ 200) (hel : es.length ≤ 200) (hrl : R.length ≤ 200) (hpr : Pls R) :
    Calls Try.prog 41 #[carV ba sc sp, pendV bf bt] w (CarryRes ba B E bf bt (carryN sc sp es R) w) := by
  refine (callsIn_wide (n := 9)).1 ?_
  refine callsIn_of_wp_marks Try.func41 rfl trivial ?_ rfl
  simp only [Try.ntmps41, List.size_toArray, List.length_cons, List.length_nil, Nat.reduceAdd, Nat.reduceSub, Array.replicate_succ, Array.replicate_zero, List.push_toArray, List.append_toArray, List.nil_append, List.cons_append]
  obtain ⟨V1, hV1⟩ : ∃ V, w.alloc (.cells #[.func (.func 40) #[] #[.pointer (some ⟨ba, 0, none⟩)], .int .i64 sc, .int .i64 sp] 70) = V := ⟨_, rfl⟩
  have vb1 : Below w.heap.size w V1 := by rw [← hV1]; exact (Below.refl _ _).alloc (Nat.le_refl _) _
  have vs1 : Str V1 w.heap.size 70 [.func (.func 40) #[] #[.pointer (some ⟨ba, 0, none⟩)], .int .i64 sc, .int .i64 sp] := by rw [← hV1]; exact World.alloc_heap_new w _
  have vz1 : w.heap.size < V1.heap.size := vs1.lt
  obtain ⟨V2, hV2⟩ : ∃ V, V1.alloc (.cells #[.map (some bf), .map (some bt)] 74) = V := ⟨_, rfl⟩
  have vb2 : Below V1.heap.size V1 V2 := by rw [← hV2]; exact (Below.refl _ _).alloc (Nat.le_refl _) _
  have vs2 : Str V2 V1.heap.size 74 [.map (some bf), .map (some bt)] := by rw [← hV2]; exact World.alloc_heap_new V1 _
  have vz2 : V1.heap.size < V2.heap.size := vs2.lt
  obtain ⟨V3, hV3⟩ : ∃ V, V2.alloc (.cells #[.bool false] 4) = V := ⟨_, rfl⟩
  have vb3 : Below V2.heap.size V2 V3 := by rw [← hV3]; exact (Below.refl _ _).alloc (Nat.le_refl _) _
  have vs3 : Str V3 V2.heap.size 4 [.bool false] := by rw [← hV3]; exact World.alloc_heap_new V2 _
  have vz3 : V2.heap.size < V3.heap.size := vs3.lt
  have HX1 := Lib.hid ((vs1.below vb2).below vb3)
  have HX2 := Lib.hid (vs2.below vb3)
  have HX3 := Lib.hid vs3
  have HBV := Lib.hid ((vb1.trans (vb2.mono (by omega))).trans (vb3.mono (by omega)))
  have HLT : Hid (∀ (k : Nat) , k < w.heap.size → V3.heap[k]? = w.heap[k]?) := Lib.hid (fun k hk => HBV.out.block k hk)
  clear vb1 vs1 vb2 vs2 vb3 vs3
  have hlw := hL.lt
  have hE1 := hE.1
  have hE2 := hE.2.1
  have hE3 := hE.2.2
  have hba1 := hba.1
  have hba2 := hba.2
  have HL0 := Lib.hid (hL.below HBV.out)
  have HP0 := Lib.hid (hP.below HBV.out)
  have HPL := Lib.hid hpl
  have HPR := Lib.hid hpr
  have HG := Lib.hid hG
  have HRI := Lib.hid hR
  clear hE hba
  have d0 : V3.cell? ⟨V1.heap.size, 0, none⟩ = some (.map (some bf)) := (HX2.out).cell 0
  have d1 : V3.cell? ⟨V1.heap.size, 1, none⟩ = some (.map (some bt)) := (HX2.out).cell 1
  clear hL hP hpl hpr hG hR
  gi_wp2_with fail
  refine ⟨trivial, ?_⟩
  refine (callsIn_wide.2 (loose_call V3 bf bt)).mono ?_
  rintro e w6 ⟨rfl, hw6⟩
  have hb6 : Below V3.heap.size V3 w6 := by rw [hw6]; exact (Below.refl _ _).alloc (Nat.le_refl _) _
  have hs6 : Str w6 V3.heap.size 74 [.map (some bf), .map (some bt)] := by rw [hw6]; exact World.alloc_heap_new V3 _
  have HP6 := Lib.hid (HP0.out.below hb6)
  have HL6 := Lib.hid (HL0.out.below hb6)
  have HS6 : Hid (CarS E ba sc sp w.heap.size V1.heap.size V3.heap.size V2.heap.size bf bt w w6) := Lib.hid ⟨HX1.out.below hb6, HX2.out.below hb6, hs6, HX3.out.below hb6, from_nc HP6.out.from_, tak_nc HP6.out.tak, (HBV.out.trans (hb6.mono (by omega))).mono (by omega), fun k o hk _ _ _ _ => ((HBV.out.trans (hb6.mono (by omega))).block k (Array.getElem?_eq_some_iff.1 hk).1).trans hk⟩
  have HN6 := Lib.hid hs6
  have hz6 : V3.heap.size < w6.heap.size := hs6.lt
  clear hw6 hb6 hs6 d0 d1 hV1 hV2 hV3
  gi_wp2_with fail
  refine wp_range (F := Fence.wide) rfl (by omega) (gf := 68) (lb := #[.pointer (some ⟨V3.heap.size, 0, none⟩)]) rfl trivial (enters_of Try.func68 (by kernel_rfl) rfl)
    (loose_seq 8 (by omega) w6 V3.heap.size bf bt c K L HN6.out HP6.out) (fun k h => by rcases h with h | h <;> omega) (fun k o h => by
      rcases h with h | h | h | ⟨cur, h⟩
      · exact Or.inl (by omega)
      · exact Or.inl (by omega)
      · exact Or.inl (by omega)
      · exact Or.inr (by rw [h]; rfl)) (fun _ => rfl)
    (fun xs W l o h hl => by
      obtain ⟨R', h1, h2⟩ := h
      exact ⟨R', h1, h2.same (World.putObj_heap_other (by omega)) (World.putObj_heap_other (by omega))⟩)
    (fun pre W => CarS E ba sc sp w.heap.size V1.heap.size V3.heap.size V2.heap.size bf bt w W ∧ ∃ ys, seqO (bringG sc sp) pre = some ys ∧ LayAt W ba B ys)
    (fun cc pre W => cc = .ret ∧ Str W V2.heap.size 4 [.bool false] ∧ (∃ l', LayAt W ba B l') ∧ Below E w W ∧ seqO (bringG sc sp) es = none ∧ Oth ba bf bt w W)
    (fun s A C h ht => by
      obtain ⟨h1, ys, h2, h3⟩ := h
      exact ⟨h1.tn ht (by omega) (by have := h1.b1.lt; omega) (by omega) (fun k hk h => by rcases h with h | h <;> omega) (fun h => by rcases h with h | h <;> omega) (fun h => by rcases h with h | h <;> omega) (fun h => by rcases h with h | h <;> omega) (fun h => by rcases h with h | h <;> omega), ys, h2, h3.tnM ht (fun h => by rcases h with h | h; exact hba1 h; exact hba2 h) (fun k hk h => by rcases h with h | h <;> omega)⟩)
    (fun cc s A C h ht => by
      obtain ⟨h1, h2, ⟨l', h3⟩, h4, h5, h6⟩ := h
      refine ⟨h1, Str.tn h2 ht (fun h => by rcases h with h | h <;> omega), ⟨l', h3.tnM ht (fun h => by rcases h with h | h; exact hba1 h; exact hba2 h) (fun k hk h => by rcases h with h | h <;> omega)⟩, h4.trans ⟨ht.os, ht.tape, ht.output, ht.size, fun k hk => ?_⟩, h5, fun k o hk g1 g2 g3 g4 => ht.block k o (h6 k o hk g1 g2 g3 g4) (fun h => by rcases h with h | h; exact g2 h; exact g3 h) (Or.inl (by have := (Array.getElem?_eq_some_iff.1 hk).1; omega))⟩
      have h9 := Array.getElem?_eq_some_iff.2 ⟨show k < A.heap.size by have := h2.lt; omega, rfl⟩
      exact (ht.block k _ h9 (fun h => by rcases h with h | h <;> omega) (Or.inl (by omega))).trans h9.symm)
    ⟨HS6.out, [], rfl, HL6.out⟩
    (fun m => { tmps := #[carV ba sc sp, pendV bf bt, .pointer (some ⟨w.heap.size, 0, none⟩), .pointer (some ⟨V1.heap.size, 0, none⟩), .pointer (some ⟨V2.heap.size, 0, none⟩), .int .i64 m.1, .int .i64 m.2, undef, undef, pendV bf bt, .func (.func 68) #[] #[.pointer (some ⟨V3.heap.size, 0, none⟩)], .int .i64 m.1, .int .i64 m.2, undef, undef, undef, undef, undef, undef, undef, undef, undef, undef, undef, undef, undef, undef, undef, undef, undef, undef], defers := [] }) ?assign ?body ?done ?stop
  case assign =>
    intro lp m W K hK
    gi_wp2
    exact hK
  case body =>
    rintro lp pre m W hz ⟨hcs, ys, hys, hly⟩ ⟨hm, hpl, hpre⟩
    have HCS := Lib.hid hcs
    have HYS := Lib.hid hys
    have HLY := Lib.hid hly
    have HPRE := Lib.hid (hpre es R HG.out)
    have hyl : ys.length ≤ 800 := by
      have h := seqO_len (g := bringG sc sp) (fun m xs h => bringN_len h) pre [] ys hys
      simp at h; omega
    have HM1 := Lib.hid (HPL.out m hm)
    have HSN := Lib.hid ((seqO_snoc (bringG sc sp) pre m).trans (by rw [hys]))
    have q0 := hcs.b1.cell 0
    have q1 := hcs.b1.cell 1
    have q2 := hcs.b1.cell 2
    simp only [List.getElem?_cons_zero, List.getElem?_cons_succ] at q0 q1 q2
    have hzw := hcs.b1.lt
    obtain ⟨mt, mf⟩ := m
    dsimp only at *
    clear hcs hys hly hpre
    gi_wp2_with fail
    refine ⟨trivial, ?_⟩
    refine (CallsIn.inRound lp (callsIn_wide.2 (bring_any W ba B ys sc sp mt mf HLY.out (by omega) (by omega) HM1.out.1 HM1.out.2 hsc hsp))).mono ?_
    rintro e W3 ⟨he, ⟨l3, hl3, hq3⟩, hy3, hb3⟩
    subst he
    have HKF := Lib.hid (keepsF_lay (B := w6.heap.size) HLY.out hy3)
    have HRD := Lib.hid (rdL_lay HLY.out hy3 HCS.out.b3 HCS.out.nf HCS.out.nt (by omega) (fun e => hba1 e.symm) (fun e => hba2 e.symm))
    have hcs3 := HCS.out.laid hy3 (hb3.mono (by omega)) (by omega) (by omega) (by omega) (by omega) (fun e => hba1 e.symm) (fun e => hba2 e.symm)
    have HCS3 := Lib.hid hcs3
    have HL3 := Lib.hid hl3
    have HQ3 := Lib.hid hq3
    have g0 : W3.cell? ⟨V2.heap.size, 0, none⟩ = some (.bool false) := hcs3.b4.cell 0
    have gf := hcs3.b4.frozen 0
    have HBG := Lib.hid (show bringG sc sp (mt, mf) = bringN sc sp mt mf from rfl)
    clear hl3 hy3 hb3 hq3 hcs3 q0 q1 q2
    cases hbn : bringN sc sp mt mf with
    | none =>
      have HNO := Lib.hid (seqO_none HPRE.out (HSN.out.trans (by rw [HBG.out, hbn, appO_none_r])))
      clear hbn
      gi_wp2
      exact ⟨HKF.out.trans ((KeepsOthers.setCell _ _ _).from _), rfl, HCS3.out.b4.set 0 _, ⟨l3, HL3.out.other HCS3.out.b4 (by omega) (by decide) _⟩, HCS3.out.below.setCell (p := ⟨V2.heap.size, 0, none⟩) (by show E ≤ V2.heap.size; omega) _, HNO.out, oth_set HCS3.out.oth (by omega) _⟩
    | some zs =>
      obtain rfl := HQ3.out zs hbn
      have HYZ := Lib.hid (HSN.out.trans (show _ = some (ys ++ zs) by rw [HBG.out, hbn]; rfl))
      clear hbn
      gi_wp2
      exact ⟨HKF.out, HRD.out, HCS3.out, ys ++ zs, HYZ.out, HL3.out⟩
  case stop =>
    rintro D cc pre W hD ⟨rfl, hsW, ⟨l', hlW⟩, hbW, hno, hoW⟩ hK
    have HM := Lib.hid (marks_one (lo := w.heap.size) (by omega) hK)
    have HSW := Lib.hid hsW
    have HBW := Lib.hid hbW
    have HLW := Lib.hid hlW
    have HOW := Lib.hid hoW
    have HE := Lib.hid (show carryN sc sp es R = none by unfold carryN; rw [hno, appO_none_l])
    clear hsW hbW hlW hno hoW hK
    gi_wp2
    refine leave_marks (by simp) HM.out fun w' ht => ?_
    have c0 : w'.cell? ⟨V2.heap.size, 0, none⟩ = some (.bool false) := (Str.tn HSW.out ht id).cell 0
    refine ⟨.bool false, ?_, by rw [HE.out]; rfl, ⟨l', HLW.out.tn0 ht, fun zs e => by rw [HE.out] at e; cases e⟩, below_tn HBW.out (by omega) (by have := HSW.out.lt; omega) ht, oth_tn HOW.out (Nat.le_refl _) ht⟩
    simp only [results]; go_simp
  case done =>
    rintro D ms W hD ⟨R', hg, hpW⟩ ⟨hcs, ys, hys, hly⟩ hK
    obtain ⟨rfl, rfl⟩ := hg.one HG.out
    have HM := Lib.hid (marks_one (lo := w.heap.size) (by omega) hK)
    have HCS := Lib.hid hcs
    have HYS := Lib.hid hys
    have HLY := Lib.hid hly
    have HPW := Lib.hid hpW
    have d0 : W.cell? ⟨V1.heap.size, 0, none⟩ = some (.map (some bf)) := hcs.b2.cell 0
    have d1 : W.cell? ⟨V1.heap.size, 1, none⟩ = some (.map (some bt)) := hcs.b2.cell 1
    have hyl : ys.length ≤ 800 := by
      have h := seqO_len (g := bringG sc sp) (fun m xs h => bringN_len h) ms [] ys hys
      simp at h; omega
    clear hcs hys hly hpW hg hK
    gi_wp2_with fail
    refine ⟨trivial, ?_⟩
    refine (callsIn_wide.2 (least_any W bf bt c K R' HPW.out HRI.out (by omega))).mono ?_
    rintro e w7 ⟨v, rfl, hv, hb7⟩
    have hvl : (leastN R').length = (leastN R').length := rfl
    obtain ⟨A, cv, rfl⟩ := OwnInts.form hv
    have hln2 := leastN_len R'
    have HT : Hid (CarT E ba B sc sp w.heap.size V1.heap.size V3.heap.size V2.heap.size bf bt c K D W.heap.size R' (.slice A (leastN R').length cv) ys w 0 w7) := Lib.hid
      ⟨HCS.out.laid (Lay.of_below hb7) (hb7.mono (by have := HCS.out.b1.lt; omega)) (by omega) (by omega) (by omega) (by omega) (fun e => hba1 e.symm) (fun e => hba2 e.symm), HPW.out.below hb7, hv, (hb7.block D (by have := HM.out; cases this; assumption)).trans (by have := HM.out; cases this; assumption), [], rfl, by rw [List.append_nil]; exact HLY.out.below hb7⟩
    have HLT := Lib.hid (fun x (h : x ∈ leastN R') => leastN_to h)
    have hDw : w.heap.size ≤ D := by omega
    clear hv hb7 hvl d0 d1
    clear HM HCS HLY HPW
    have hvl : (leastN R').length ≤ 200 := by omega
    gi_wp2_with fail
    gi_loopw [8, 21] (fun _ i wr => ∃ k : Nat, k ≤ (leastN R').length ∧ i = .int .i64 k ∧ CarT E ba B sc sp w.heap.size V1.heap.size V3.heap.size V2.heap.size bf bt c K D W.heap.size R' (.slice A (leastN R').length cv) ys w k wr) (fun _ i _ => (leastN R').length - (Go.RowKit.intOf i).toNat)
    case atStart => exact ⟨0, Nat.zero_le _, rfl, HT.out⟩
    case round =>
      obtain ⟨k, hk, rfl, hT⟩ := hrel
      have HQ := Lib.hid hT
      obtain ⟨zs, hzs, hlz⟩ := hT.laid
      have HZS := Lib.hid hzs
      have HLZ := Lib.hid hlz
      clear hT hzs hlz HT
      have g0 : wr.cell? ⟨V2.heap.size, 0, none⟩ = some (.bool false) := HQ.out.car.b4.cell 0
      have gf := HQ.out.car.b4.frozen 0
      have HMK := Lib.hid (marks_one (lo := w.heap.size) hDw HQ.out.mark)
      by_cases hlt : k < (leastN R').length
      · obtain ⟨gk, rfl⟩ := OwnInts.block HQ.out.row (by omega)
        have hcell := (OwnInts.cell HQ.out.row hlt).1
        have hto := HLT.out _ (List.getElem_mem hlt)
        have HTK := Lib.hid (seqP_take (turnG sc sp R') (leastN R') k hlt)
        have HPT := Lib.hid (show (leastN R').take (k + 1) <+: leastN R' from List.take_prefix _ _)
        obtain ⟨N, hC, hN⟩ := HRI.out _ hto
        have HTG := Lib.hid (show turnG sc sp R' (leastN R')[k] = turnN sc sp (srcD R') (leastN R')[k] N by unfold turnG; rw [perD_eq hC hN])
        have HC := Lib.hid hC
        have HXP := Lib.hid (show InPl (leastN R')[k] by
          obtain ⟨m, hm, e⟩ := isTo_iff.1 hto
          rw [← e]; exact (HPR.out m hm).1)
        have hzl : zs.length ≤ 200 * 804 := by
          have h := seqP_len (g := turnG sc sp R') (n := 804) (fun x xs h => by
            have h2 := turnN_len h
            have h3 : perD (srcD R') x R'.length ≤ R'.length := by
              unfold perD
              cases e : (List.range R'.length).find? fun i => it (srcD R') x (i + 1) == x with
              | none => simp
              | some i => have := List.mem_of_find?_eq_some e; simp at this ⊢; omega
            omega) (leastN R') k zs hk HZS.out
          have h4 : k * 804 ≤ 200 * 804 := Nat.mul_le_mul_right _ (by omega)
          omega
        have q0 := HQ.out.car.b1.cell 0
        have q1 := HQ.out.car.b1.cell 1
        have q2 := HQ.out.car.b1.cell 2
        simp only [List.getElem?_cons_zero, List.getElem?_cons_succ] at q0 q1 q2
        have d0 : wr.cell? ⟨V1.heap.size, 0, none⟩ = some (.map (some bf)) := HQ.out.car.b2.cell 0
        have d1 : wr.cell? ⟨V1.heap.size, 1, none⟩ = some (.map (some bt)) := HQ.out.car.b2.cell 1
        have hzr := HQ.out.car.b1.lt
        generalize (leastN R')[k] = x at *
        clear hto hC
        gi_wp2_with fail
        refine ⟨trivial, ?_⟩
        refine (callsIn_wide.2 (turn_any wr ba B (ys ++ zs) sc sp x bf bt c K R' N HLZ.out (by omega) (by rw [List.length_append]; omega) hsc hsp HQ.out.pend HPR.out HXP.out HC.out (by omega))).mono ?_
        rintro e W3 ⟨he, ⟨l3, hl3, hq3⟩, hy3, hb3⟩
        subst he
        have hcar3 := HQ.out.car.laid hy3 (hb3.mono (by omega)) (by omega) (by omega) (by omega) (by omega) (fun e => hba1 e.symm) (fun e => hba2 e.symm)
        have hD3 : W3.heap[D]? = some (.deferred (some [])) := hy3.block D _ HQ.out.mark (fun e => by obtain ⟨u, h4, _⟩ := HLZ.out; subst e; have := HQ.out.mark.symm.trans h4; cases this) (fun cur e => by cases e)
        have HCAR := Lib.hid hcar3
        have HPE := Lib.hid (HQ.out.pend.lay hy3 HLZ.out)
        have HROW := Lib.hid (row_lay HQ.out.row HLZ.out hy3)
        have HD3 := Lib.hid hD3
        have HL3 := Lib.hid hl3
        have HQ3 := Lib.hid hq3
        have k0 : W3.cell? ⟨V2.heap.size, 0, none⟩ = some (.bool false) := hcar3.b4.cell 0
        have kf := hcar3.b4.frozen 0
        clear hcar3 hD3 hl3 hq3 hy3 hb3 q0 q1 q2 d0 d1 g0 gf hcell
        have HTT := Lib.hid (HTK.out.trans (by rw [HZS.out, HTG.out]))
        cases htn : turnN sc sp (srcD R') x N with
        | none =>
          have HE := Lib.hid (show carryN sc sp ms R' = none by unfold carryN; rw [seqP_none HPT.out (HTT.out.trans (by rw [htn, appO_none_r])), appO_none_r])
          have HM3 := Lib.hid (marks_one (lo := w.heap.size) hDw HD3.out)
          clear htn
          gi_wp2
          refine leave_marks (by simp) (HM3.out.kept (Nat.le_refl _) (fun k hk hd => (KeepsOthers.setCell W3 ⟨V2.heap.size, 0, none⟩ (.bool false)).same k _ hd rfl)) fun w' ht => ?_
          have c0 : w'.cell? ⟨V2.heap.size, 0, none⟩ = some (.bool false) := (Str.tn (HCAR.out.b4.set 0 (.bool false)) ht id).cell 0
          refine ⟨.bool false, ?_, by rw [HE.out]; rfl, ⟨l3, (HL3.out.other HCAR.out.b4 (by omega) (by decide) _).tn0 ht, fun zs e => by rw [HE.out] at e; cases e⟩, below_tn (HCAR.out.below.setCell (p := ⟨V2.heap.size, 0, none⟩) (by show E ≤ V2.heap.size; omega) _) (by omega) (by rw [size_set]; have := HCAR.out.b1.lt; omega) ht, oth_tn (oth_set HCAR.out.oth (by omega) _) (Nat.le_refl _) ht⟩
          simp only [results]; go_simp
        | some us =>
          obtain rfl := HQ3.out us htn
          have HNX := Lib.hid (HTT.out.trans (show _ = some (zs ++ us) by rw [htn]; rfl))
          clear htn
          gi_wp2
          go_roundw
          case rel => exact ⟨k + 1, by omega, by go_num, HCAR.out, HPE.out, HROW.out, HD3.out, zs ++ us, HNX.out, by rw [← List.append_assoc]; exact HL3.out⟩
          case measure => simp [Go.RowKit.intOf]; omega
      · obtain rfl : k = (leastN R').length := by omega
        have HE := Lib.hid (show carryN sc sp ms R' = some (ys ++ zs) by
          have h := HZS.out
          rw [List.take_length] at h
          unfold carryN; rw [HYS.out, h]; rfl)
        gi_wp2
        refine leave_marks (by simp) (HMK.out.kept (Nat.le_refl _) (fun k hk hd => (KeepsOthers.setCell wr ⟨V2.heap.size, 0, none⟩ (.bool true)).same k _ hd rfl)) fun w' ht => ?_
        have c0 : w'.cell? ⟨V2.heap.size, 0, none⟩ = some (.bool true) := (Str.tn (HQ.out.car.b4.set 0 (.bool true)) ht id).cell 0
        refine ⟨.bool true, ?_, by rw [HE.out]; rfl, ⟨_, (HLZ.out.other HQ.out.car.b4 (by omega) (by decide) _).tn0 ht, fun zs e => by rw [HE.out] at e; injection e with e⟩, below_tn (HQ.out.car.below.setCell (p := ⟨V2.heap.size, 0, none⟩) (by show E ≤ V2.heap.size; omega) _) (by omega) (by rw [size_set]; have := HQ.out.car.b1.lt; omega) ht, oth_tn (oth_set HQ.out.car.oth (by omega) _) (Nat.le_refl _) ht⟩
        simp only [results]; go_simp
end Go.Proofs.Ytdohaoomckhbgaa.Vm
