/- Moves: what package moves' Circles tells. -/
import Derived.Test.YtdohaoomckhbgaaVDA
import Derived.Test.YtdohaoomckhbgaaVB
namespace Go.Proofs.Ytdohaoomckhbgaa.Vm
open Go.ChangeShapes Go.WideShapes Go.ChangeAt Go.RowKit Go.Maps Go.WideElems Go.ChangeMaps Go.Sort Go.Shelf Go.Proofs.Ytdohaoomckhbgaa.Mem Go.Proofs.Ytdohaoomckhbgaa.Br Go.Proofs.Ytdohaoomckhbgaa.Va Go.Proofs.Ytdohaoomckhbgaa.Vr
set_option linter.unusedVariables false
set_option linter.unusedSimpArgs false
attribute [local go_sem] Oper.semAt_some
theorem progC_len (R : List Mov) : (progC R).length = (leastN R).length := by unfold progC; rw [List.length_map]
theorem progC_take {R : List Mov} {i : Nat} (h : i < (leastN R).length) : (progC R).take (i + 1) = (progC R).take i ++ [orb (srcD R) (leastN R)[i] (perD (srcD R) (leastN R)[i] R.length)] := by
  rw [List.take_succ_eq_append_getElem (by rw [progC_len]; exact h)]
  congr 2
  unfold progC
  rw [List.getElem_map]
/-- What holds while circles are gathered. -/
structure CirS (bp bf bt c K Bk : Nat) (R : List Mov) (kv lv : Value) (g : List (List Int)) (w0 w : World) : Prop where
  box : Str w bp 74 [.map (some bf), .map (some bt)]
  pend : PendAt w bf bt c K R
  keys : OwnInts Bk w kv (leastN R)
  out : OwnGrid w0.heap.size w lv g
  below : Below w0.heap.size w0 w
section
variable {bp bf bt c K Bk : Nat} {R : List Mov} {kv lv : Value} {g : List (List Int)} {w0 w w' : World}
theorem CirS.later (h : CirS bp bf bt c K Bk R kv lv g w0 w) (hb : Below w.heap.size w w') : CirS bp bf bt c K Bk R kv lv g w0 w' :=
  ⟨h.box.below hb, h.pend.below hb, own_same_row h.keys (fun g cur hg => hb.block g (Array.getElem?_eq_some_iff.1 hg).1), h.out.below hb, h.below.trans (hb.mono h.below.size)⟩
theorem pend_grown {row : Option Nat} (h : PendAt w bf bt c K R) (hg : w.grownBy w' row) (hr : ∀ j, row = some j → ∃ cur t z, w.heap[j]? = some (.cells cur t z)) : PendAt w' bf bt c K R := by
  obtain ⟨o1, ho1, hc1⟩ := from_nc h.from_
  obtain ⟨o2, ho2, hc2⟩ := tak_nc h.tak
  refine h.same (hg.block _ h.from_.lt fun e => ?_) (hg.block _ h.tak.lt fun e => ?_)
  · obtain ⟨cur, t, z, hh⟩ := hr bf e.symm
    rw [ho1] at hh; injection hh with hh; subst hh; cases hc1
  · obtain ⟨cur, t, z, hh⟩ := hr bt e.symm
    rw [ho2] at hh; injection hh with hh; subst hh; cases hc2
theorem own_row_cells {B : Nat} {e : TypeId} {z : Nat} {v : Value} {n : Nat} {xs : List Value} (h : w.ownsRow B e z v n xs) : ∀ j, v.ownBlock = some j → ∃ cur, w.heap[j]? = some (Obj.cells cur e (0, 0)) := fun j hj => by
  rcases h.2 with ⟨rfl, _⟩ | ⟨g', cap, cur, rfl, hb, hh, _⟩
  · cases hj
  · cases hj; exact ⟨cur, hh⟩
end
def CirI (v fv : Value) (b1 bf bt c K Bk n : Nat) (R : List Mov) (A : Option Addr) (cv : Nat) (w : World) (a : Act) (wr : World) : Prop :=
  ∃ (i : Nat) (lv u6 u7 u8 u19 u20 u21 u22 u23 u24 u25 u26 u27 u28 u29 u30 u31 u32 u33 u34 u35 u36 : Value) (ds : List Deferred), i ≤ n ∧ a = { tmps := #[v, undef, .slice none 0 0, .pointer (some ⟨b1, 0, none⟩), lv, undef, u6, u7, u8, v, pendV bf bt, pendV bf bt, fv, undef, undef, pendV bf bt, .slice A n cv, .int .i64 (n : Int), .int .i64 (i : Int), u19, u20, u21, u22, u23, u24, u25, u26, u27, u28, u29, u30, u31, u32, u33, u34, u35, u36], defers := ds } ∧ Marks w.heap.size wr.heap.size ds wr ∧ CirS b1 bf bt c K Bk R (.slice A n cv) lv ((progC R).take i) w wr
theorem CirS.push {bp bf bt c K Bk : Nat} {R : List Mov} {kv lv lv' : Value} {g g' : List (List Int)} {w0 w w' : World} {n : Nat} {vs : List Value} (h : CirS bp bf bt c K Bk R kv lv g w0 w) (hvs : w.ownsRow w0.heap.size 23 1 lv n vs) (hg : w.grownBy w' lv.ownBlock) (ho : OwnGrid w0.heap.size w' lv' g') : CirS bp bf bt c K Bk R kv lv' g' w0 w' :=
  ⟨h.box.kept hg (h.box.not_row (by decide) hvs), pend_grown h.pend hg (fun j e => by obtain ⟨cur, hc⟩ := own_row_cells hvs j e; exact ⟨cur, _, _, hc⟩), World.ownsRow.kept h.keys hg (own_apart h.keys hvs (by decide)), ho, h.below.grown hg h.below.size (fun j e => (World.ownsRow.lt hvs j e).1)⟩
def PlAt (pb B : Nat) (c : List Int) (W : World) : Prop := ∃ pv, Str W pb 23 [pv] ∧ OwnInts B W pv c
/-- One place more. -/
theorem places_push {W wA w5 : World} {pb B : Nat} {pv : Value} {c : List Int} {y : Int} {A5 : Option Addr} {n5 c5 : Nat} (hB : pb < B) (hBW : B ≤ W.heap.size) (hpb : Str W pb 23 [pv]) (ho : OwnInts B W pv c) (hbA : Below W.heap.size W wA) (hg5 : wA.grownBy w5 pv.ownBlock)
    (ho5 : w5.ownsRow B 3 1 (.slice A5 n5 c5) (c.length + 1) (c.map (Value.int .i64) ++ [.int .i64 y])) :
    Str w5 pb 23 [pv] ∧ PlAt pb B (c ++ [y]) (w5.setCell ⟨pb, 0, none⟩ (.slice A5 n5 c5)) ∧ Below pb W (w5.setCell ⟨pb, 0, none⟩ (.slice A5 n5 c5)) ∧ KeepsFrom B W (w5.setCell ⟨pb, 0, none⟩ (.slice A5 n5 c5)) ∧ W.heap.size ≤ (w5.setCell ⟨pb, 0, none⟩ (.slice A5 n5 c5)).heap.size ∧ ∀ k, k < B → k ≠ pb → (w5.setCell ⟨pb, 0, none⟩ (.slice A5 n5 c5)).heap[k]? = W.heap[k]? := by
  have hoA : OwnInts B wA pv c := own_same_row ho (fun g cur hg => hbA.block g (Array.getElem?_eq_some_iff.1 hg).1)
  have hzA := hbA.size
  have hb5 : Below B W w5 := (hbA.mono hBW).grown hg5 (by omega) (fun j e => (World.ownsRow.lt hoA j e).1)
  have hx5 : Str w5 pb 23 [pv] := (hb5.block pb hB).trans hpb
  have hz5 := hb5.size
  refine ⟨hx5, ⟨_, hx5.set 0 _, ?_⟩, (show Below pb W w5 from hb5.mono (by omega)).setCell (p := ⟨pb, 0, none⟩) (Nat.le_refl _) _, ⟨by rw [size_set]; exact hz5, fun k o hk ho2 hc => ?_⟩, by rw [size_set]; exact hz5, fun k hk hne => (Below.heap_setCell _ _ _ _ (fun e => hne e)).trans (hb5.block k hk)⟩
  · unfold OwnInts
    rw [List.length_append, List.length_singleton, List.map_append]
    refine own_same_kv ho5 (fun g hg => Below.heap_setCell _ _ _ _ (fun e => ?_))
    have h1 := (World.ownsRow.lt ho5 g hg).1
    have e : g = pb := e
    omega
  · refine (Below.heap_setCell _ _ _ _ (fun e => ?_)).trans ?_
    · have e : k = pb := e
      omega
    · have hkW := (Array.getElem?_eq_some_iff.1 ho2).1
      have h3 := (hbA.block k hkW).trans ho2
      refine (hg5.block k (by omega) (fun e => ?_)).trans h3
      obtain ⟨cur, hcur⟩ := own_row_cells hoA k e.symm
      rw [h3] at hcur; injection hcur with hcur; subst hcur; cases hc
def CirRes (g : List (List Int)) (w : World) (e : Ending) (w' : World) : Prop := ∃ v, e = .returned v ∧ OwnGrid w.heap.size w' v g ∧ Below w.heap.size w w'
theorem info_rowV2 : (Try.prog.info? 23).map (fun i => (i.zero, i.size, i.bytes)) = some (some (.slice none 0 0), 1, 24) := by kernel_rfl
set_option maxRecDepth 100000 in
set_option maxHeartbeats 4000000 in
theorem circC_any (w : World) (v : Value) (l es R : List Mov) (hv : MovesAt w v l) (hl : l.length ≤ 1000) (hr : Rng l) (hg : Goes (pendN l) es R) :
    Calls Try.prog 26 #[v] w (CirRes (progC R) w) := by
  refine (callsIn_wide (n := 9)).1 ?_
  refine callsIn_of_wp_marks Try.func26 rfl trivial ?_ rfl
  simp only [Try.ntmps26, List.size_toArray, List.length_cons, List.length_nil, Nat.reduceAdd, Nat.reduceSub, Array.replicate_succ, Array.replicate_zero, List.push_toArray, List.append_toArray, List.nil_append, List.cons_append]
  have hsub := hg.sub
  have hRu := hsub.2.2.2.2 (pendN_uni l)
  have hpn := pendN_len l
  have HRI := Lib.hid (show Rings R from fun x hx => noFree_closed hsub.2.2.2.1 hRu hx)
  have hrl : R.length ≤ 1000 := by have := hsub.2.1; omega
  have HRR := Lib.hid (show Rng R from fun m hm => hr m (mem_pendN (hsub.1 m hm)).1)
  have HPC := Lib.hid (fun x hx => per_closed (R := R) hsub.2.2.2.1 hRu (x := x) hx)
  have HG := Lib.hid hg
  clear hsub hRu hg
  obtain ⟨i0, hi, hz0, hz1, hz2⟩ := info_parts info_int
  have HI := Lib.hid hi
  have HZ0 := Lib.hid hz0
  have HZ1 := Lib.hid hz1
  have HZ2 := Lib.hid hz2
  clear hi hz0 hz1 hz2
  obtain ⟨i1, hi, hz0, hz1, hz2⟩ := info_parts info_rowV2
  have HJ := Lib.hid hi
  have HY0 := Lib.hid hz0
  have HY1 := Lib.hid hz1
  have HY2 := Lib.hid hz2
  clear hi hz0 hz1 hz2
  gi_wp2_with fail
  refine ⟨trivial, ?_⟩
  refine (callsIn_wide.2 (pending_any w v l hv (by omega) hr)).mono ?_
  rintro e w1 ⟨bf, bt, rfl, hp, hbf, hbt, hb⟩
  clear hv
  have HP1 := Lib.hid hp
  have HB1 := Lib.hid hb
  have hz1 := hb.size
  have hfl := hp.from_.lt
  have htl := hp.tak.lt
  clear hp hb
  obtain ⟨W1, hW1⟩ : ∃ V, w1.alloc (.cells #[.map (some bf), .map (some bt)] 74) = V := ⟨_, rfl⟩
  have vb1 : Below w1.heap.size w1 W1 := by rw [← hW1]; exact (Below.refl _ _).alloc (Nat.le_refl _) _
  have vs1 : Str W1 w1.heap.size 74 [.map (some bf), .map (some bt)] := by rw [← hW1]; exact World.alloc_heap_new w1 _
  have vz1 : w1.heap.size < W1.heap.size := vs1.lt
  have d0 : W1.cell? ⟨w1.heap.size, 0, none⟩ = some (.map (some bf)) := vs1.cell 0
  have d1 : W1.cell? ⟨w1.heap.size, 1, none⟩ = some (.map (some bt)) := vs1.cell 1
  have HS1 := Lib.hid vs1
  have HP2 := Lib.hid (HP1.out.below vb1)
  have HB2 := Lib.hid (HB1.out.trans (vb1.mono HB1.out.size))
  clear vb1 vs1
  gi_wp2_with fail
  refine ⟨trivial, ?_⟩
  refine (callsIn_wide.2 (loose_call W1 bf bt)).mono ?_
  rintro e w6 ⟨rfl, hw6⟩
  have hb6 : Below W1.heap.size W1 w6 := by rw [hw6]; exact (Below.refl _ _).alloc (Nat.le_refl _) _
  have hs6 : Str w6 W1.heap.size 74 [.map (some bf), .map (some bt)] := by rw [hw6]; exact World.alloc_heap_new W1 _
  have HP6 := Lib.hid (HP2.out.below hb6)
  have HS6 := Lib.hid (HS1.out.below hb6)
  have HN6 := Lib.hid hs6
  have HB6 := Lib.hid (HB2.out.trans (hb6.mono HB2.out.size))
  have hz6 : W1.heap.size < w6.heap.size := hs6.lt
  clear hw6 hb6 hs6 d0 d1 hW1 HP2 HS1 HB2 HP1 HB1
  gi_wp2_with fail
  refine wp_range (F := Fence.wide) rfl (by omega) (gf := 68) (lb := #[.pointer (some ⟨W1.heap.size, 0, none⟩)]) rfl trivial (enters_of Try.func68 (by kernel_rfl) rfl)
    (loose_seq 8 (by omega) w6 W1.heap.size bf bt l.length (2 * l.length) (pendN l) HN6.out HP6.out) (fun k h => by rcases h with h | h <;> omega) (fun k o h => by
      rcases h with h | h | h | ⟨cur, h⟩
      · exact Or.inl (by omega)
      · exact Or.inl (by omega)
      · exact Or.inl (by omega)
      · exact Or.inr (by rw [h]; rfl)) (fun _ => rfl)
    (fun xs W l o h hl => by
      obtain ⟨R', h1, h2⟩ := h
      exact ⟨R', h1, h2.same (World.putObj_heap_other (by omega)) (World.putObj_heap_other (by omega))⟩)
    (fun pre W => Str W w1.heap.size 74 [.map (some bf), .map (some bt)] ∧ Below w.heap.size w W ∧ w6.heap.size ≤ W.heap.size)
    (fun _ _ _ => False)
    (fun s A C h ht => by
      refine ⟨Str.tn h.1 ht (fun h => by rcases h with h | h <;> omega), h.2.1.trans ⟨ht.os, ht.tape, ht.output, ht.size, fun k hk => ?_⟩, Nat.le_trans h.2.2 ht.size⟩
      have h9 := Array.getElem?_eq_some_iff.2 ⟨show k < A.heap.size by have := h.2.2; omega, rfl⟩
      exact (ht.block k _ h9 (fun h => by rcases h with h | h <;> omega) (Or.inl (by omega))).trans h9.symm)
    (fun _ _ _ _ h _ => h) ⟨HS6.out, HB6.out, Nat.le_refl _⟩
    (fun m => { tmps := #[v, undef, .slice none 0 0, .pointer (some ⟨w1.heap.size, 0, none⟩), undef, undef, undef, undef, undef, v, pendV bf bt, pendV bf bt, .func (.func 68) #[] #[.pointer (some ⟨W1.heap.size, 0, none⟩)], .int .i64 m.1, .int .i64 m.2, undef, undef, undef, undef, undef, undef, undef, undef, undef, undef, undef, undef, undef, undef, undef, undef, undef, undef, undef, undef, undef, undef], defers := [] }) ?assign ?body ?done ?stop
  case assign =>
    intro lp m W K hK
    gi_wp2
    exact hK
  case body =>
    rintro lp pre m W hz ⟨h1, h2, h3⟩ _
    have HX := Lib.hid (show KeepsFrom w6.heap.size W W ∧ Rd (rdL W1.heap.size bf bt) W W ∧ Str W w1.heap.size 74 [.map (some bf), .map (some bt)] ∧ Below w.heap.size w W ∧ w6.heap.size ≤ W.heap.size from ⟨KeepsFrom.refl _ _, Rd.refl _ _, h1, h2, h3⟩)
    clear h1 h2 h3
    gi_wp2
    exact HX.out
  case stop =>
    rintro D cc pre W _ h _
    exact h.elim
  case done =>
    rintro D ms W hD ⟨R', hgo, hpW⟩ ⟨hs, hbw, hzW⟩ hK
    obtain ⟨rfl, rfl⟩ := hgo.one HG.out
    have HM := Lib.hid (marks_one (lo := w.heap.size) (by omega) hK)
    have HPW := Lib.hid hpW
    have HSW := Lib.hid hs
    have HBW := Lib.hid hbw
    have d0 : W.cell? ⟨w1.heap.size, 0, none⟩ = some (.map (some bf)) := hs.cell 0
    have d1 : W.cell? ⟨w1.heap.size, 1, none⟩ = some (.map (some bt)) := hs.cell 1
    clear hpW hs hbw hK hgo
    gi_wp2_with fail
    refine ⟨trivial, ?_⟩
    refine (callsIn_wide.2 (least_any W bf bt l.length (2 * l.length) R' HPW.out HRI.out (by omega))).mono ?_
    rintro e w7 ⟨kv, rfl, hk, hb7⟩
    obtain ⟨n, hn⟩ : ∃ n, (leastN R').length = n := ⟨_, rfl⟩
    have hnl : n ≤ 1000 := by rw [← hn]; exact Nat.le_trans (leastN_len R') hrl
    have hk2 := hk
    obtain ⟨A, cv, rfl⟩ := OwnInts.form hk
    rw [hn] at hk
    have HN := Lib.hid hn
    have HS7 : Hid (CirS w1.heap.size bf bt l.length (2 * l.length) W.heap.size R' (.slice A n cv) (.slice none 0 0) ((progC R').take 0) w w7) := Lib.hid
      ⟨HSW.out.below hb7, HPW.out.below hb7, hk, OwnGrid.none_ _ _, HBW.out.trans (hb7.mono HBW.out.size)⟩
    have HM7 := Lib.hid (HM.out.later hb7)
    rw [hn]
    clear hn hk hk2 hb7 d0 d1 HPW HSW HBW HM
    gi_wp2_with fail
    refine wpIn_loop (CirI v (.func (.func 68) #[] #[.pointer (some ⟨W1.heap.size, 0, none⟩)]) w1.heap.size bf bt l.length (2 * l.length) W.heap.size n R' A cv w)
      (fun a _ => n - (Go.RowKit.intOf (a.tmps.getD 18 undef)).toNat) ?start ?round
    case start => exact ⟨0, _, _, _, _, _, _, _, _, _, _, _, _, _, _, _, _, _, _, _, _, _, _, _, Nat.zero_le _, rfl, HM7.out, HS7.out⟩
    case round =>
      rintro a wr ⟨i, lv, u6, u7, u8, u19, u20, u21, u22, u23, u24, u25, u26, u27, u28, u29, u30, u31, u32, u33, u34, u35, u36, ds, hi, rfl, hm, hS⟩
      have HM := Lib.hid hm
      have HS := Lib.hid hS
      have hbr := hS.below.size
      clear hm hS HS7 HM7
      by_cases hlt : i < n
      · have hi2 : i < (leastN R').length := by rw [HN.out]; exact hlt
        have hks := HS.out.keys
        obtain ⟨gk, rfl⟩ := OwnInts.block hks (by omega)
        have hcell := (OwnInts.cell hks hi2).1
        have hto := leastN_to (List.getElem_mem hi2)
        have HC := Lib.hid (HPC.out _ hto)
        have HTK := Lib.hid (progC_take hi2)
        have hpl := perD_le (srcD R') (leastN R')[i] R'.length
        have HXI := Lib.hid (show InI (leastN R')[i] by
          obtain ⟨m, hm, e⟩ := isTo_iff.1 hto
          rw [← e]; exact (HRR.out m hm).1)
        generalize (leastN R')[i] = x at *
        generalize perD (srcD R') x R'.length = N at *
        clear hks hto
        obtain ⟨W5, hW5⟩ : ∃ V, wr.alloc (.cells #[.slice none 0 0] 23) = V := ⟨_, rfl⟩
        have vb5 : Below wr.heap.size wr W5 := by rw [← hW5]; exact (Below.refl _ _).alloc (Nat.le_refl _) _
        have vs5 : Str W5 wr.heap.size 23 [.slice none 0 0] := by rw [← hW5]; exact World.alloc_heap_new wr _
        have vz5 : wr.heap.size < W5.heap.size := vs5.lt
        have HS5 := Lib.hid (HS.out.later vb5)
        have HX5 := Lib.hid vs5
        have HB5 := Lib.hid vb5
        have d0 : W5.cell? ⟨w1.heap.size, 0, none⟩ = some (.map (some bf)) := HS5.out.box.cell 0
        have d1 : W5.cell? ⟨w1.heap.size, 1, none⟩ = some (.map (some bt)) := HS5.out.box.cell 1
        clear vb5 vs5
        gi_wp2_with fail
        clear hW5
        refine ⟨trivial, ?_⟩
        refine (callsIn_wide.2 (circle_call W5 bf bt x)).mono ?_
        rintro e w6' ⟨rfl, hw6⟩
        have hb6 : Below W5.heap.size W5 w6' := by rw [hw6]; exact ((Below.refl _ _).alloc (Nat.le_refl _) _).alloc (by simp) _
        have hc6 : CircS (W5.heap.size + 1) W5.heap.size bf bt l.length R' x w6' := by
          refine ⟨?_, ?_, HS5.out.pend.from_.below hb6⟩
          · rw [hw6]; exact (Below.heap_alloc _ _ _ (by simp)).trans (World.alloc_heap_new W5 _)
          · rw [hw6]; have := World.alloc_heap_new (W5.alloc (.cells #[.map (some bf), .map (some bt)] 74)) (.cells #[.int .i64 x] 3); rwa [World.size_alloc] at this
        have HX6 := Lib.hid (HX5.out.below hb6)
        have HB6 := Lib.hid (HB5.out.trans (hb6.mono HB5.out.size))
        have HC6 := Lib.hid hc6
        have hz6' : W5.heap.size + 1 < w6'.heap.size := hc6.start.lt
        have hflr := HS.out.pend.from_.lt
        clear hw6 hb6 hc6 d0 d1 hcell
        gi_wp2_with fail
        refine wp_range (F := Fence.wide) rfl (by omega) (gf := 72) (lb := #[.pointer (some ⟨W5.heap.size + 1, 0, none⟩), .pointer (some ⟨W5.heap.size, 0, none⟩)]) rfl trivial (enters_of Try.func72 (by kernel_rfl) rfl)
          (circle_seq 8 (by omega) w6' (W5.heap.size + 1) W5.heap.size bf bt l.length R' x N HC6.out HXI.out HC.out) (fun k h => h.elim) (fun k o h => Or.inl (by rcases h with h | h | h <;> omega)) (fun _ => rfl) (fun xs W l o h _ => h)
          (fun pre W => Below wr.heap.size wr W ∧ PlAt wr.heap.size w6'.heap.size (pre.map (·.1)) W ∧ w6'.heap.size ≤ W.heap.size)
          (fun _ _ _ => False)
          (fun s A B h ht => by
            obtain ⟨h1, ⟨pv, h2, h3⟩, h4⟩ := h
            refine ⟨below_tn h1 (by omega) (by omega) ht, ⟨pv, Str.tn h2 ht id, own_same_row h3 (fun g cur hg => (ht.block g _ hg id (Or.inr rfl)).trans hg.symm)⟩, Nat.le_trans h4 ht.size⟩)
          (fun _ _ _ _ h _ => h) ⟨HB6.out, ⟨_, HX6.out, World.ownsRow_nil _ _ _ _⟩, Nat.le_refl _⟩
          (fun m => { tmps := #[v, undef, .slice none 0 0, .pointer (some ⟨w1.heap.size, 0, none⟩), lv, undef, .int .i64 x, .pointer (some ⟨wr.heap.size, 0, none⟩), .int .i64 m.1, v, pendV bf bt, pendV bf bt, .func (.func 68) #[] #[.pointer (some ⟨W1.heap.size, 0, none⟩)], undef, undef, pendV bf bt, .slice (some ⟨gk, 0, none⟩) n cv, .int .i64 (n : Int), .int .i64 (i : Int), .bool true, .pointer (some ⟨gk, i, none⟩), .int .i64 x, pendV bf bt, .int .i64 x, .func (.func 72) #[] #[.pointer (some ⟨W5.heap.size + 1, 0, none⟩), .pointer (some ⟨W5.heap.size, 0, none⟩)], .int .i64 m.1, .int .i64 m.2, u27, u28, u29, u30, u31, u32, u33, u34, u35, u36], defers := [] }) ?assign ?body ?done ?stop
        case assign =>
          intro l m W K hK
          gi_wp2
          exact hK
        case body =>
          rintro lp pre m W hz ⟨hbW, ⟨pv, hpb, hpo⟩, hzW⟩ ⟨j, hj, rfl, rfl⟩
          have k0 : W.cell? ⟨wr.heap.size, 0, none⟩ = some pv := hpb.cell 0
          have hjl : ((circ (srcD R') x j).map (·.1)).length = j := by rw [List.length_map, circ_len]
          have HPB := Lib.hid hpb
          have HPO := Lib.hid hpo
          have HBW := Lib.hid hbW
          have hzb := hbW.size
          clear hpb hpo hbW
          gi_wp2_with (gi_at_builtin; refine wpListIn_append1 rfl _ _ 23 rfl w6'.heap.size 3 i0 (.int .i64 0) 8 Try.underlying23 HI.out HZ0.out HZ1.out HZ2.out rfl _ _ _ rfl (World.ownsRow.alloc HPO.out _) ⟨_, 0, none⟩ (.int .i64 (it (srcD R') x j)) rfl (cell_made (by simp)) (by rfl) (Nat.le_trans (Nat.le_of_eq hjl) (by omega)) (by omega) (by simp; omega) ?_)
          intro v5 w5 ho5 hg5 _
          obtain ⟨A5, c5, rfl⟩ := own_form ho5
          obtain ⟨r1, r2, r3, r4, r5, r6⟩ := places_push (by omega) hzW HPB.out HPO.out ((Below.refl _ _).alloc (Nat.le_refl _) _) hg5 (c := (circ (srcD R') x j).map (·.1)) (by rw [hjl, List.map_map]; exact ho5)
          have q0 : w5.cell? ⟨wr.heap.size, 0, none⟩ = some pv := r1.cell 0
          have f0 := r1.frozen 0
          have HPOST := Lib.hid (And.intro r4 (And.intro (show Rd (rdC (W5.heap.size + 1) W5.heap.size bf) W _ from fun k o hk hr => (r6 k (by rcases hr with h | h | h <;> omega) (by rcases hr with h | h | h <;> omega)).trans hk) (And.intro (HBW.out.trans r3) (And.intro (show PlAt wr.heap.size w6'.heap.size ((circ (srcD R') x j ++ [(it (srcD R') x j, it (srcD R') x (j + 1))]).map (·.1)) _ by rw [List.map_append]; exact r2) (Nat.le_trans hzW r5)))))
          clear ho5 hg5 r1 r2 r3 r4 r5 r6 k0
          gi_wp2
          exact HPOST.out
        case stop =>
          rintro D cc pre W _ h _
          exact h.elim
        case done =>
          rintro D xs W hD rfl ⟨hbW, ⟨pv, hpb, hpo⟩, hzW⟩ hK
          have HMW := Lib.hid (show Marks w.heap.size W.heap.size ({ target := .collected D, args := #[] } :: ds) W from .cons (by omega) (Array.getElem?_eq_some_iff.1 hK).1 hK (HM.out.later hbW) (HM.out.ne (by omega)))
          have HSW := Lib.hid (HS.out.later hbW)
          have hcl : ((circ (srcD R') x N).map (·.1)).length = N := by rw [List.length_map, circ_len]
          obtain ⟨Ap, cp, hpe⟩ := own_form hpo
          rw [hcl] at hpe
          subst hpe
          have k0 : W.cell? ⟨wr.heap.size, 0, none⟩ = some _ := hpb.cell 0
          have HPO := Lib.hid hpo
          have hzb := hbW.size
          obtain ⟨vs, hvs, hrows⟩ := HSW.out.out
          have hgl : ((progC R').take i).length = i := by rw [List.length_take, progC_len, HN.out]; omega
          obtain ⟨W8, hW8⟩ : ∃ V, W.alloc (.cells #[.slice Ap N cp] 23) = V := ⟨_, rfl⟩
          have vb8 : Below W.heap.size W W8 := by rw [← hW8]; exact (Below.refl _ _).alloc (Nat.le_refl _) _
          have vs8 : Str W8 W.heap.size 23 [.slice Ap N cp] := by rw [← hW8]; exact World.alloc_heap_new W _
          have hV8 := own_same_row hvs (fun g cur hg => vb8.block g (Array.getElem?_eq_some_iff.1 hg).1)
          have HV8 := Lib.hid hV8
          have HR8 := Lib.hid (show ∀ j (h : j < ((progC R').take i).length), ∃ u, vs[j]? = some u ∧ OwnInts w.heap.size W8 u ((progC R').take i)[j] from fun j hj => by
            obtain ⟨u, e, hu⟩ := hrows j hj
            exact ⟨u, e, own_same_row hu (fun g cur hg => vb8.block g (Array.getElem?_eq_some_iff.1 hg).1)⟩)
          have HO8 := Lib.hid (show OwnInts w.heap.size W8 (.slice Ap N cp) (orb (srcD R') x N) by
            rw [← circ_fst]
            exact own_base (own_same_row HPO.out (fun g cur hg => vb8.block g (Array.getElem?_eq_some_iff.1 hg).1)) (by omega))
          have HS8 := Lib.hid (HSW.out.later vb8)
          have HM8 := Lib.hid (HMW.out.later vb8)
          have hz8 := vb8.size
          have kc : W8.cell? ⟨W.heap.size, 0, none⟩ = some (.slice Ap N cp) := vs8.cell 0
          clear hbW hpb hpo hK hvs hrows vb8 vs8 hV8
          gi_wp2_with (gi_at_builtin; refine wpListIn_append1 rfl _ _ 45 rfl w.heap.size 23 i1 (.slice none 0 0) 24 Try.underlying45 HJ.out HY0.out HY1.out HY2.out rfl lv _ _ rfl HV8.out ⟨W.heap.size, 0, none⟩ (.slice Ap N cp) rfl kc (by rfl) (Nat.le_trans (Nat.le_of_eq hgl) (by omega)) (by omega) (by omega) ?_)
          intro v9 w9 ho9 hg9 _
          have HO9 := Lib.hid (show OwnGrid w.heap.size w9 v9 ((progC R').take (i + 1)) by rw [HTK.out]; exact OwnGrid.push HR8.out HV8.out HO8.out hg9 (by rw [hgl]; exact ho9))
          have HS9 := Lib.hid (HS8.out.push HV8.out hg9 HO9.out)
          have HM9 := Lib.hid (HM8.out.grown hg9 (row_cells HV8.out))
          clear ho9 hg9 k0 kc hW8
          gi_wp2
          refine ⟨⟨i + 1, _, _, _, _, _, _, _, _, _, _, _, _, _, _, _, _, _, _, _, _, _, _, _, by omega, by go_num, HM9.out, HS9.out⟩, ?_⟩
          show n - (Go.RowKit.intOf (.int .i64 ((i : Int) + 1))).toNat < n - (Go.RowKit.intOf (.int .i64 (i : Int))).toNat
          simp [Go.RowKit.intOf]; omega
      · obtain rfl : i = n := by omega
        have HE := Lib.hid (show (progC R').take i = progC R' by rw [List.take_of_length_le (by rw [progC_len, HN.out]; exact Nat.le_refl _)])
        gi_wp2
        refine leave_marks (by simp) HM.out fun w' ht => ?_
        have hout := HS.out.out
        rw [HE.out] at hout
        obtain ⟨vs, hvs, hrows⟩ := hout
        refine ⟨_, results_tmp rfl _ _ _, lv, rfl, ⟨vs, own_same_row hvs (fun g cur hg => (ht.block g _ hg id (Or.inr rfl)).trans hg.symm), fun j hj => ?_⟩, below_tn HS.out.below (Nat.le_refl _) hbr ht⟩
        obtain ⟨u, e, hu⟩ := hrows j hj
        exact ⟨u, e, own_same_row hu (fun g cur hg => (ht.block g _ hg id (Or.inr rfl)).trans hg.symm)⟩
end Go.Proofs.Ytdohaoomckhbgaa.Vm
