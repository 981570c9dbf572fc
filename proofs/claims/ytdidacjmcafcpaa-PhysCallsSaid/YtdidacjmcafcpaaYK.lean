/- Stage 12: the law PhysCalls, as a call. -/
import Derived.Test.YtdidacjmcafcpaaYW
import Derived.Test.YtdidacjmcafcpaaYJ
import Derived.Test.YtdidacjmcafcpaaQU
import Derived.Test.YtdidacjmcafcpaaAnd16
import Derived.Laws.CopyOwn
import Derived.Laws.Tables
namespace Go.Proofs.Ytdidacjmcafcpaa.Ph
open Go.ChangeShapes Go.WideShapes Go.ChangeAt Go.RowKit Go.Maps Go.Proofs.Ytdidacjmcafcpaa.Mem Go.Proofs.Ytdidacjmcafcpaa.Kc Go.Proofs.Ytdidacjmcafcpaa.Br Go.Proofs.Ytdidacjmcafcpaa.Pl Go.Proofs.Ytdidacjmcafcpaa.Mw Go.Proofs.Ytdidacjmcafcpaa.Mc Go.Proofs.Ytdidacjmcafcpaa.Gr
set_option linter.unusedVariables false
set_option linter.unusedSimpArgs false
def PlRow (B : Nat) (w : World) (v : Value) (l : List PlIn) : Prop := RowsOwn B w 47 9 (plC B) v l
theorem PlRow.below {B : Nat} {w w' : World} {v : Value} {l : List PlIn} (h : PlRow B w v l) (hb : Below w.heap.size w w') : PlRow B w' v l := RowsOwn.below h hb (plC.below hb)
theorem PlRow.noRow {B : Nat} {w : World} {v : Value} {l : List PlIn} (h : PlRow B w v l) {e : TypeId} (hne : e ≠ 47) : NoRow w v.ownBlock e := by
  obtain ⟨cs, _, h2, _⟩ := h
  exact noRow_own h2 hne
theorem PlRow.str {B : Nat} {w w' : World} {v : Value} {l : List PlIn} (h : PlRow B w v l) (hg : w.grownBy w' v.ownBlock) {x : Nat} {t : TypeId} {vs : List Value} (hs : Str w x t vs) (hne : t ≠ 47) : Str w' x t vs := by
  obtain ⟨cs, _, h2, _⟩ := h
  exact hs.kept hg (Str.not_row hs hne h2)
theorem PlRow.grown {B : Nat} {w w' : World} {v : Value} {l : List PlIn} (h : PlRow B w v l) (hg : w.grownBy w' v.ownBlock) (hB : B ≤ w.heap.size) : Below B w w' := by
  obtain ⟨cs, _, h2, _⟩ := h
  exact ⟨hg.os, hg.tape, hg.output, hg.size, fun k hk => hg.block k (by omega) (fun e => by have := (h2.lt _ e.symm).1; omega)⟩
theorem PlRow.form {B : Nat} {w : World} {v : Value} {l : List PlIn} (h : PlRow B w v l) : ∃ A c, v = .slice A l.length c := RowsOwn.form h
def nilC (B : Nat) (w : World) (c : List Value) (x : PlIn) : Prop := c = plL x (.slice none 0 0) ∧ x.i.args = []
def NilRow (B : Nat) (w : World) (v : Value) (l : List PlIn) : Prop := RowsOwn B w 47 9 (nilC B) v l
theorem NilRow.below {B : Nat} {w w' : World} {v : Value} {l : List PlIn} (h : NilRow B w v l) (hb : Below w.heap.size w w') : NilRow B w' v l := RowsOwn.below h hb fun _ _ h => h
theorem NilRow.noRow {B : Nat} {w : World} {v : Value} {l : List PlIn} (h : NilRow B w v l) {e : TypeId} (hne : e ≠ 47) : NoRow w v.ownBlock e := by
  obtain ⟨cs, _, h2, _⟩ := h
  exact noRow_own h2 hne
theorem NilRow.str {B : Nat} {w w' : World} {v : Value} {l : List PlIn} (h : NilRow B w v l) (hg : w.grownBy w' v.ownBlock) {x : Nat} {t : TypeId} {vs : List Value} (hs : Str w x t vs) (hne : t ≠ 47) : Str w' x t vs := by
  obtain ⟨cs, _, h2, _⟩ := h
  exact hs.kept hg (Str.not_row hs hne h2)
theorem NilRow.grown {B : Nat} {w w' : World} {v : Value} {l : List PlIn} (h : NilRow B w v l) (hg : w.grownBy w' v.ownBlock) (hB : B ≤ w.heap.size) : Below B w w' := by
  obtain ⟨cs, _, h2, _⟩ := h
  exact ⟨hg.os, hg.tape, hg.output, hg.size, fun k hk => hg.block k (by omega) (fun e => by have := (h2.lt _ e.symm).1; omega)⟩
theorem NilRow.form {B : Nat} {w : World} {v : Value} {l : List PlIn} (h : NilRow B w v l) : ∃ A c, v = .slice A l.length c := RowsOwn.form h
theorem NilRow.kept {B : Nat} {w w' : World} {v : Value} {l : List PlIn} {row : Option Nat} (h : NilRow B w v l) (hn : NoRow w row 47) (hg : w.grownBy w' row) : NilRow B w' v l := by
  obtain ⟨cs, a1, a2, a3⟩ := h
  exact RowsOwn.kept ⟨cs, a1, a2, a3⟩ hg (hn _ _ _ _ _ a2) fun _ _ h => h
theorem NilRow.full {B : Nat} {w : World} {v : Value} {l : List PlIn} (h : NilRow B w v l) : PlRow B w v l := by
  obtain ⟨cs, a1, a2, a3⟩ := h
  refine ⟨cs, a1, a2, fun i hi => ?_⟩
  obtain ⟨c, b1, b2, b3, b4⟩ := a3 i hi
  exact ⟨c, b1, b2, .slice none 0 0, b3, by rw [b4]; exact nil_ints _ _⟩
theorem but_setRow (g : Nat) (w : World) (cs : Array Value) : But g w (w.setRow g cs) := ⟨rfl, rfl, rfl, by simp [World.setRow], fun k _ hn => setRow_other w g k cs hn⟩
theorem str_setRow {g : Nat} {w : World} {t : TypeId} {vs cs : List Value} (h : Str w g t vs) : Str (w.setRow g cs.toArray) g t cs := setRow_heap w g vs.toArray cs.toArray t (0, 0) h
theorem five_one (a b e : Int) (A B : Option Addr) (m n c d : Nat) : (#[Value.int .i64 a, .int .i32 b, .slice A m c, .slice B n d, .int .i64 e] : Array Value).all (·.oneCell') = true := by
  rw [Array.all_eq_true_iff_forall_mem]
  intro v hv
  simp only [List.mem_toArray, List.mem_cons, List.not_mem_nil, or_false] at hv
  rcases hv with rfl | rfl | rfl | rfl | rfl <;> rfl
/-- What the law's run tells. -/
def CallsOut (rv rst : Int) (CL : List (Int × List Int)) (w : World) (e : Ending) (w' : World) : Prop :=
  ∃ mA mn mc eA ek, e = .returned (.agg #[.int .i64 1, .int .i32 rv, .slice mA mn mc, .slice eA 3 ek, .int .i64 rst]) ∧ EventsAt w.heap.size w' (.slice eA 3 ek) CL (fun _ => False) ∧ Below w.heap.size w w'
/-- A box was written. -/
theorem PlRow.box {B R : Nat} {w w' : World} {v : Value} {l : List PlIn} {t : TypeId} {vs : List Value} (h : PlRow B w v l) (hs : Str w R t vs) (h1 : t ≠ 47) (h2 : t ≠ 3) (hg : w.grownBy w' (some R)) : PlRow B w' v l := by
  obtain ⟨cs, a1, a2, a3⟩ := h
  exact RowsOwn.kept ⟨cs, a1, a2, a3⟩ hg (noRow_str hs h1 _ _ _ _ _ a2) (plC.kept hg (noRow_str hs h2))
theorem ints_box {B R : Nat} {w w' : World} {v : Value} {l : List Int} {t : TypeId} {vs : List Value} (h : OwnInts B w v l) (hs : Str w R t vs) (h2 : t ≠ 3) (hg : w.grownBy w' (some R)) : OwnInts B w' v l := World.ownsRow.kept h hg (noRow_str hs h2 _ _ _ _ _ h)
theorem ints_row {B : Nat} {w w' : World} {v u : Value} {l : List Int} {m : List PlIn} (h : OwnInts B w v l) (hm : PlRow B w u m) (hg : w.grownBy w' u.ownBlock) : OwnInts B w' v l := World.ownsRow.kept h hg (hm.noRow (by decide) _ _ _ _ _ h)
theorem splice_words {l : List Int} : splice (List.replicate 16 (Value.int .i32 0)) 0 ((l.take 16).map (Value.int .i32)) = (parQ 16 l).map (Value.int .i32) := by
  unfold splice parQ
  rw [List.take_zero, List.nil_append, Nat.zero_add, List.map_append, List.map_replicate, List.length_map, List.drop_replicate]
theorem str_words {w : World} {g n : Nat} {l : List Int} (h : Str w g 21 (l.map (Value.int .i32))) (hl : l.length = n) (hm : n ≤ 1000000) : WordsAt w (.slice (some ⟨g, 0, none⟩) n n) l :=
  ⟨some ⟨g, 0, none⟩, n, by rw [hl], by omega, by unfold maxLen; omega, fun k hk => ⟨_, rfl, by rw [at_add0, h.cell k, List.getElem?_map, List.getElem?_eq_getElem hk]; rfl⟩⟩
theorem str_drop {w : World} {g : Nat} {l : List Int} (h : Str w g 21 (l.map (Value.int .i32))) (hl : l.length = 16) : WordsAt w (.slice (some ⟨g, 12, none⟩) 4 4) (l.drop 12) :=
  ⟨some ⟨g, 12, none⟩, 4, by rw [List.length_drop, hl], by rw [List.length_drop, hl]; omega, by unfold maxLen; omega, fun k hk => ⟨_, rfl, by
    rw [List.length_drop] at hk
    rw [show (⟨g, 12, none⟩ : Addr).add k = ⟨g, 12 + k, none⟩ by simp [Addr.add], h.cell (12 + k), List.getElem?_map, List.getElem_drop, List.getElem?_eq_getElem (by omega)]; rfl⟩⟩
theorem lisL_succ (ws : List Int) (p : Nat) : lisL ws (p + 1) = lisL ws p ++ [liwI p (ws.getD p 0)] := by unfold lisL; rw [List.range_succ, List.map_append]; rfl
theorem natsL_succ (p : Nat) : natsL (p + 1) = natsL p ++ [(p : Int)] := by unfold natsL; rw [List.range_succ, List.map_append]; rfl
theorem movL_succ (p : Nat) : movL (p + 1) = movL p ++ [movI p] := by unfold movL; rw [List.range_succ, List.map_append]; rfl
set_option maxRecDepth 100000 in
set_option maxHeartbeats 8000000 in
theorem callsL_any (w : World) (n0 : Int) (wA aA : Option Addr) (wc ac : Nat) (wl al : List Int) (hw : WordsAt w (.slice wA wl.length wc) wl) (ha : WordsAt w (.slice aA al.length ac) al) (hwi : ∀ x ∈ wl, InW x) (hai : ∀ x ∈ al, InW x) :
    Calls Try.prog 5 #[.int .i64 n0, .slice wA wl.length wc, .slice aA al.length ac] w fun e w' => e = .returned (.bool true) ∧ Below w.heap.size w w' := by
  obtain ⟨i0, hi, hz0, hz1, hz2⟩ := info_parts info_placed
  have HI0 := Lib.hid hi
  have HZ0 := Lib.hid hz0
  have HZ1 := Lib.hid hz1
  have HZ2 := Lib.hid hz2
  obtain ⟨i1, hi, hz0, hz1, hz2⟩ := info_parts info_int
  have HJ0 := Lib.hid hi
  have HY0 := Lib.hid hz0
  have HY1 := Lib.hid hz1
  have HY2 := Lib.hid hz2
  have HW := Lib.hid hw
  have HA := Lib.hid ha
  have HWI := Lib.hid hwi
  have HAI := Lib.hid hai
  have hlw : wl.length ≤ wc ∧ wc ≤ 9223372036854775807 := by obtain ⟨_, _, e, h1, h2, _⟩ := hw; injection e with _ _ e; unfold maxLen at h2; omega
  have hla : al.length ≤ ac ∧ ac ≤ 9223372036854775807 := by obtain ⟨_, _, e, h1, h2, _⟩ := ha; injection e with _ _ e; unfold maxLen at h2; omega
  obtain ⟨hlw1, hlw2⟩ := hlw
  obtain ⟨hla1, hla2⟩ := hla
  clear hi hz0 hz1 hz2 hw ha hwi hai
  go_enter Try.func5, Try.ntmps5
  go_wp2_with fail
  refine (shown_any w).mono ?_
  rintro e w2 ⟨rfl, hb⟩
  have HB := Lib.hid hb
  clear hb
  go_upto_region 3 with (fail)
  rw [and16]
  obtain ⟨n, hn⟩ : ∃ m : Nat, n0 % 65536 % 5 = m := ⟨(n0 % 65536 % 5).toNat, by omega⟩
  rw [show (n0 % 65536).tmod 5 = (n : Int) by rw [← hn]; exact Int.tmod_eq_emod_of_nonneg (by omega)]
  have hn4 : n ≤ 4 := by omega
  clear hn
  have hmk : ∀ w : World, (Instr.makeSlice 36 (.int .i64 16) (.int .i64 16)).run Try.prog w = .ok (.slice (some ⟨w.heap.size, 0, none⟩) 16 16) (w.alloc (.cells (madeCells #[Value.int .i32 0] 16) 21)) := fun w => run_zeros w 16 (by omega)
  go_upto_region 4 with (fail)
  obtain ⟨W3, hW3⟩ : ∃ V, w2.alloc (.cells (madeCells #[Value.int .i32 0] 16) 21) = V := ⟨_, rfl⟩
  have hb3 : Below w2.heap.size w2 W3 := by rw [← hW3]; exact (Below.refl _ _).alloc (Nat.le_refl _) _
  have hs3 : Str W3 w2.heap.size 21 (List.replicate 16 (.int .i32 0)) := by rw [← hW3, show madeCells #[Value.int .i32 0] 16 = (List.replicate 16 (Value.int .i32 0)).toArray from by kernel_rfl]; exact World.alloc_heap_new w2 _
  rw [hW3]
  clear hW3 hmk
  obtain ⟨wb, hwb⟩ : ∃ b, w2.heap.size = b := ⟨_, rfl⟩
  rw [hwb] at hs3
  rw [hwb]
  have HB3 := Lib.hid (HB.out.trans (hb3.mono HB.out.size))
  have hwbw : w.heap.size ≤ wb := by have := HB.out.size; omega
  have HS3 := Lib.hid hs3
  obtain ⟨X, hX⟩ : ∃ X, X = (wl.take 16).map (Value.int .i32) := ⟨_, rfl⟩
  have HX := Lib.hid hX
  have HWA := Lib.hid (HW.out.below (HB3.out))
  clear hb3 hs3 hwb hX
  go_wp2_with (refine wpList_copy_splice rfl _ _ 36 36 rfl 21 Try.underlying36 (by kernel_rfl) (some ⟨wb, 0, none⟩) wA 16 16 wl.length wc rfl rfl wb 0 (List.replicate 16 (.int .i32 0)) 21 HS3.out X ?c1 ?c2 ?c3 ?c4 w.heap.size w HB3.out hwbw ?_)
  case c1 => rw [HX.out, List.length_map, List.length_take]; exact Nat.min_comm _ _
  case c2 =>
    intro hpos
    obtain ⟨A', c', e, _, _, hall⟩ := HWA.out
    injection e with e1 _ e3
    have hl0 : 0 < wl.length := by
      rw [HX.out, List.length_map, List.length_take] at hpos
      omega
    obtain ⟨ad, hA, _⟩ := hall 0 hl0
    refine ⟨ad, e1.trans hA, fun j v hj => ?_⟩
    rw [HX.out, List.getElem?_map] at hj
    cases h9 : (wl.take 16)[j]? with
    | none => rw [h9] at hj; cases hj
    | some u =>
      rw [h9] at hj
      injection hj with hj
      subst hj
      obtain ⟨h7, h8⟩ := List.getElem?_eq_some_iff.1 h9
      rw [List.length_take] at h7
      rw [List.getElem_take] at h8
      obtain ⟨ad', e', hx⟩ := hall j (by omega)
      rw [hA] at e'
      injection e' with e'
      subst e'
      rw [hx, h8]
  case c3 => rw [HX.out]; simp; omega
  case c4 => intro v hv; rw [HX.out] at hv; obtain ⟨x, _, rfl⟩ := List.mem_map.1 hv; rfl
  intro w4 hg4 hb4
  have hws0 : Str w4 wb 21 ((parQ 16 wl).map (Value.int .i32)) := by
    have h9 : w4.heap[wb]? = some (.cells (splice (List.replicate 16 (Value.int .i32 0)) 0 X).toArray 21 (0, 0)) := hg4.out
    rw [HX.out, splice_words] at h9
    exact h9
  have hws1 : (parQ 16 wl).length = 16 := by unfold parQ; rw [List.length_append, List.length_replicate, List.length_take]; omega
  have hws2 : ∀ x ∈ parQ 16 wl, InW x := by
    intro x hx
    unfold parQ at hx
    rcases List.mem_append.1 hx with h | h
    · exact HWI.out x (List.mem_of_mem_take h)
    · rw [List.eq_of_mem_replicate h]; exact inW_zero
  obtain ⟨ws, hws⟩ : ∃ ws, parQ 16 wl = ws := ⟨_, rfl⟩
  rw [hws] at hws0 hws1 hws2
  have HWS := Lib.hid hws0
  have HWL := Lib.hid hws1
  have HWW := Lib.hid hws2
  have HB4 := Lib.hid hb4
  clear hg4 hb4 hws0 hws1 hws2 hws HX HS3
  go_upto_region 6 with (fail)
  obtain ⟨W5, hW5⟩ : ∃ V, w4.alloc (.cells #[.slice none 0 0, .int .i64 7, .int .i64 0, .int .i64 0, .slice none 0 0, .int .i32 0] 45) = V := ⟨_, rfl⟩
  have hb5 : Below w4.heap.size w4 W5 := by rw [← hW5]; exact (Below.refl _ _).alloc (Nat.le_refl _) _
  have hs5 : Str W5 w4.heap.size 45 [.slice none 0 0, .int .i64 7, .int .i64 0, .int .i64 0, .slice none 0 0, .int .i32 0] := by rw [← hW5]; exact World.alloc_heap_new w4 _
  rw [hW5]
  clear hW5
  obtain ⟨bb, hbb⟩ : ∃ b, w4.heap.size = b := ⟨_, rfl⟩
  rw [hbb] at hs5
  rw [hbb]
  have hwbb : wb ≠ bb := by have := HWS.out.lt; omega
  have hbbw : w.heap.size ≤ bb := by have := HB4.out.size; omega
  have HS5 := Lib.hid hs5
  have HW5 := Lib.hid (HWS.out.below hb5)
  have HB5 := Lib.hid (HB4.out.trans (hb5.mono HB4.out.size))
  clear hb5 hs5 hbb HWS
  go_wp2_with fail
  go_loopw [10] (fun j wr => ∃ p : Nat, p ≤ 16 ∧ j = .int .i64 p ∧ ∃ vA vc, NilRow w.heap.size wr (.slice vA p vc) (lisL ws p) ∧ Str wr bb 45 [.slice vA p vc, .int .i64 7, .int .i64 0, .int .i64 0, .slice none 0 0, .int .i32 0] ∧ Str wr wb 21 (ws.map (Value.int .i32)) ∧ Below w.heap.size w wr) (fun j _ => 16 - (intOf j).toNat)
  case atStart => exact ⟨0, Nat.zero_le _, rfl, none, 0, RowsOwn.nil _ _ _ _ _, HS5.out, HW5.out, HB5.out⟩
  case round =>
    obtain ⟨p, hp, rfl, vA, vc, hl, hs, hw, hb⟩ := hrel
    have HL := Lib.hid hl
    have HS := Lib.hid hs
    have HV := Lib.hid hw
    have HB := Lib.hid hb
    clear hl hs hw hb
    by_cases hlt : p < 16
    · have hdp : decide ((p : Int) < 16) = true := decide_eq_true (by omega)
      have hlen : p < ws.length := by rw [HWL.out]; exact hlt
      have k0 : wr.cell? ⟨bb, 0, none⟩ = some (.slice vA p vc) := HS.out.cell 0
      have kw : wr.cell? ⟨wb, p, none⟩ = some (.int .i32 (ws.getD p 0)) := by
        rw [HV.out.cell p, List.getElem?_map, List.getElem?_eq_getElem hlen, List.getD_eq_getElem?_getD, List.getElem?_eq_getElem hlen]
        rfl
      have HSUC := Lib.hid (lisL_succ ws p)
      have HIN := Lib.hid (inW_getD HWW.out p)
      obtain ⟨z, hz⟩ : ∃ z, ws.getD p 0 = z := ⟨_, rfl⟩
      rw [hz] at kw HSUC HIN
      clear hz hlen
      go_upto_region 9 with (fail)
      refine region_heldT_wp (fun w' => w'.cell? ⟨bb, 0, none⟩ = some (.slice vA p vc) ∧ w'.cell? ⟨wb, p, none⟩ = some (.int .i32 z)) [0, 1, 2, 3, 4, 5, 6, 7, 8, 11] [0, 1, 2, 3, 4, 5, 6, 7, 8, 9, 10, 11, 12] 12 (by kernel_rfl) (by kernel_rfl) (by kernel_rfl) (by kernel_rfl) rfl (by intro c a d v w h; cases d <;> exact h) ⟨k0, kw⟩ ?_
      refine walkH_still _ ?sa0 rfl rfl rfl ?say0 ?_
      case say0 => intro w hS; obtain ⟨k0, kw⟩ := hS; go_simp; first | done | with_reducible rfl | (rw [if_pos (show (p : Int) < 16 by omega)])
      simp only [Act.put]
      try simp only [List.setIfInBounds_toArray, List.set_cons_zero, List.set_cons_succ]
      refine walkH_still _ ?sa1 rfl rfl rfl ?say1 ?_
      case say1 => intro w hS; obtain ⟨k0, kw⟩ := hS; go_simp; first | done | with_reducible rfl | (rw [if_pos (show (p : Int) < 16 by omega)])
      simp only [Act.put]
      try simp only [List.setIfInBounds_toArray, List.set_cons_zero, List.set_cons_succ]
      refine walkH_still _ ?sa2 rfl rfl rfl ?say2 ?_
      case say2 => intro w hS; obtain ⟨k0, kw⟩ := hS; go_simp; first | done | with_reducible rfl | (rw [if_pos (show (p : Int) < 16 by omega)])
      simp only [Act.put]
      try simp only [List.setIfInBounds_toArray, List.set_cons_zero, List.set_cons_succ]
      refine walkH_still _ ?sa3 rfl rfl rfl ?say3 ?_
      case say3 => intro w hS; obtain ⟨k0, kw⟩ := hS; go_simp; first | done | with_reducible rfl | (rw [if_pos (show (p : Int) < 16 by omega)])
      simp only [Act.put]
      try simp only [List.setIfInBounds_toArray, List.set_cons_zero, List.set_cons_succ]
      refine walkH_still _ ?sa4 rfl rfl rfl ?say4 ?_
      case say4 => intro w hS; obtain ⟨k0, kw⟩ := hS; go_simp; first | done | with_reducible rfl | (rw [if_pos (show (p : Int) < 16 by omega)])
      simp only [Act.put]
      try simp only [List.setIfInBounds_toArray, List.set_cons_zero, List.set_cons_succ]
      refine walkH_still _ ?sa5 rfl rfl rfl ?say5 ?_
      case say5 => intro w hS; obtain ⟨k0, kw⟩ := hS; go_simp; first | done | with_reducible rfl | (rw [if_pos (show (p : Int) < 16 by omega)])
      simp only [Act.put]
      try simp only [List.setIfInBounds_toArray, List.set_cons_zero, List.set_cons_succ]
      refine walkH_still _ ?sa6 rfl rfl rfl ?say6 ?_
      case say6 => intro w hS; obtain ⟨k0, kw⟩ := hS; go_simp; first | done | with_reducible rfl | (rw [if_pos (show (p : Int) < 16 by omega)])
      simp only [Act.put]
      try simp only [List.setIfInBounds_toArray, List.set_cons_zero, List.set_cons_succ]
      refine walkH_still _ ?sa7 rfl rfl rfl ?say7 ?_
      case say7 => intro w hS; obtain ⟨k0, kw⟩ := hS; go_simp; first | done | with_reducible rfl | (rw [if_pos (show (p : Int) < 16 by omega)])
      simp only [Act.put]
      try simp only [List.setIfInBounds_toArray, List.set_cons_zero, List.set_cons_succ]
      refine walkH_still _ ?sa8 rfl rfl rfl ?say8 ?_
      case say8 => intro w hS; obtain ⟨k0, kw⟩ := hS; go_simp; first | done | with_reducible rfl | (rw [if_pos (show (p : Int) < 16 by omega)])
      simp only [Act.put]
      try simp only [List.setIfInBounds_toArray, List.set_cons_zero, List.set_cons_succ]
      refine walkHd _ rfl rfl ?_
      go_wp2
      obtain ⟨W3, hW3⟩ : ∃ V, (wr.alloc (.cells #[.int .i64 4, .int .i64 (p : Int), .int .i64 0, .int .i64 0, .int .i64 0, .int .i64 0, .int .i32 z, .slice none 0 0, .int .i64 0] 47)).drew = V := ⟨_, rfl⟩
      have hb3 : Below wr.heap.size wr W3 := by rw [← hW3]; exact ((Below.refl _ _).alloc (Nat.le_refl _) _).drew
      have hs3 : Str W3 wr.heap.size 47 [.int .i64 4, .int .i64 (p : Int), .int .i64 0, .int .i64 0, .int .i64 0, .int .i64 0, .int .i32 z, .slice none 0 0, .int .i64 0] := by rw [← hW3]; exact World.alloc_heap_new wr _
      rw [hW3]
      clear hW3
      have HC3 := Lib.hid hs3
      have HL3 := Lib.hid (HL.out.below hb3)
      have HS3 := Lib.hid (HS.out.below hb3)
      have HV3 := Lib.hid (HV.out.below hb3)
      have HB3 := Lib.hid (HB.out.trans (hb3.mono HB.out.size))
      refine behindH (Or.inl ⟨cell_keep hb3 (Nat.le_refl _) k0, cell_keep hb3 (Nat.le_refl _) kw⟩) ?_
      clear hb3 hs3
      try simp only [List.setIfInBounds_toArray, List.set_cons_zero, List.set_cons_succ]
      refine walkHd _ rfl rfl ?_
      refine wpList_push rfl _ _ _ rfl rfl w.heap.size 47 i0 (.agg #[.int .i64 0, .int .i64 0, .int .i64 0, .int .i64 0, .int .i64 0, .int .i64 0, .int .i32 0, .slice none 0 0, .int .i64 0]) 9 88 Try.underlying43 HI0.out HZ0.out HZ1.out HZ2.out rfl (by decide) (nilC w.heap.size) (nilC w.heap.size) (.slice vA p vc) (lisL ws p) rfl HL3.out ⟨wr.heap.size, 0, none⟩ 1 rfl (liwI p z) [.int .i64 4, .int .i64 (p : Int), .int .i64 0, .int .i64 0, .int .i64 0, .int .i64 0, .int .i32 z, .slice none 0 0, .int .i64 0] rfl ?sc1 ?sc2 ?sc3 (by omega) HB3.out.size ?sc5 ?sc6 ?_
      case sc1 => intro j u hj; rw [at_add0, HC3.out.cell j]; exact hj
      case sc2 => intro u hu; simp only [List.mem_cons, List.not_mem_nil, or_false] at hu; rcases hu with rfl | rfl | rfl | rfl | rfl | rfl | rfl | rfl | rfl <;> rfl
      case sc3 => simp [lisL]; omega
      case sc5 => exact fun w' hg c x h => h
      case sc6 => exact fun w' hg => ⟨rfl, rfl⟩
      intro v4 w4 hr4 hg4 _
      have hl4 : NilRow w.heap.size w4 v4 (lisL ws (p + 1)) := by rw [HSUC.out]; exact hr4
      obtain ⟨zA, zc, hv4⟩ := NilRow.form hl4
      rw [show (lisL ws (p + 1)).length = p + 1 by simp [lisL]] at hv4
      subst hv4
      have HL4 := Lib.hid hl4
      have HS4 := Lib.hid (NilRow.str HL3.out hg4 HS3.out (by decide))
      have HV4 := Lib.hid (NilRow.str HL3.out hg4 HV3.out (by decide))
      have HB4 := Lib.hid (HB3.out.trans (NilRow.grown HL3.out hg4 HB3.out.size))
      have k04 : w4.cell? ⟨bb, 0, none⟩ = some (.slice vA p vc) := HS4.out.cell 0
      have kf4 := HS4.out.frozen 0
      have kw4 : w4.cell? ⟨wb, p, none⟩ = some (.int .i32 z) := by
        have hx3 := cell_keep (show Below wr.heap.size wr wr from Below.refl _ _) (Nat.le_refl _) kw
        rw [HV4.out.cell p, ← HV.out.cell p]
        exact kw
      clear hr4 hg4 hl4
      refine wpList_nil (behindH (Or.inl ⟨k04, kw4⟩) ?_)
      refine walkH_still _ ?sb11 rfl rfl rfl ?sby11 ?_
      case sby11 => intro w hS; go_simp; first | done | with_reducible rfl
      simp only [Act.put]
      try simp only [List.setIfInBounds_toArray, List.set_cons_zero, List.set_cons_succ]
      refine walkHd _ rfl rfl ?_
      go_wp2
      refine behindH (Or.inr rfl) (walkH_nil ?_)
      have HBT := Lib.hid (but_set bb 0 (.slice zA (p + 1) zc) w4)
      have HG := Lib.hid (setCell_grownBy w4 ⟨bb, 0, none⟩ (.slice zA (p + 1) zc))
      have HS5 := Lib.hid (show Str _ bb 45 [.slice zA (p + 1) zc, .int .i64 7, .int .i64 0, .int .i64 0, .slice none 0 0, .int .i32 0] from HS4.out.set 0 (.slice zA (p + 1) zc))
      have HL5 := Lib.hid (NilRow.kept HL4.out (noRow_str HS4.out (by decide)) HG.out)
      have HV5 := Lib.hid (HBT.out.str HV4.out (by omega))
      have HB5 := Lib.hid (HB4.out.trans (below_of_but HBT.out hbbw HB4.out.size))
      clear k04 kf4 kw4
      go_wp2_with fail
      exact ⟨⟨p + 1, by omega, by go_num, zA, zc, HL5.out, HS5.out, HV5.out, HB5.out⟩, by simp [intOf]; omega⟩
    · have HP16 := Lib.hid (show p = 16 by omega)
      have hdp : decide ((p : Int) < 16) = false := decide_eq_false (by omega)
      skip
      obtain ⟨wo, hwo⟩ : ∃ wo : World, wo = wr := ⟨_, rfl⟩
      rw [← hwo] at HL HS HV HB
      rw [← hwo]
      clear hwo
      clear wr
      go_upto_region 11 with (fail)
      obtain ⟨W6, hW6⟩ : ∃ V, wo.alloc (.cells #[.int .i64 28, .int .i64 0, .int .i64 0, .int .i64 0, .int .i64 0, .int .i64 0, .int .i32 9, .slice none 0 0] 24) = V := ⟨_, rfl⟩
      have hb6 : Below wo.heap.size wo W6 := by rw [← hW6]; exact (Below.refl _ _).alloc (Nat.le_refl _) _
      have hs6 : Str W6 wo.heap.size 24 [.int .i64 28, .int .i64 0, .int .i64 0, .int .i64 0, .int .i64 0, .int .i64 0, .int .i32 9, .slice none 0 0] := by rw [← hW6]; exact World.alloc_heap_new wo _
      rw [hW6]
      clear hW6
      obtain ⟨cb, hcb⟩ : ∃ b, wo.heap.size = b := ⟨_, rfl⟩
      have hwcb : wb ≠ cb ∧ bb ≠ cb := by have h1 := HV.out.lt; have h2 := HS.out.lt; omega
      have hcbw : w.heap.size ≤ cb := by have := HB.out.size; omega
      rw [hcb] at hs6
      rw [hcb]
      have HC := Lib.hid hs6
      have HL := Lib.hid (HL.out.below hb6)
      have HS := Lib.hid (HS.out.below hb6)
      have HV := Lib.hid (HV.out.below hb6)
      have HB := Lib.hid (HB.out.trans (hb6.mono HB.out.size))
      clear hb6 hs6 hcb
      obtain ⟨hwcb1, hwcb2⟩ := hwcb
      go_wp2_with fail
      go_loopw [12] (fun j wr => ∃ q : Nat, q ≤ n ∧ j = .int .i64 q ∧ ∃ uA uc, OwnInts w.heap.size wr (.slice uA q uc) (natsL q) ∧ Str wr cb 24 [.int .i64 28, .int .i64 0, .int .i64 0, .int .i64 0, .int .i64 0, .int .i64 0, .int .i32 9, .slice uA q uc] ∧ NilRow w.heap.size wr (.slice vA p vc) (lisL ws p) ∧ Str wr bb 45 [.slice vA p vc, .int .i64 7, .int .i64 0, .int .i64 0, .slice none 0 0, .int .i32 0] ∧ Str wr wb 21 (ws.map (Value.int .i32)) ∧ Below w.heap.size w wr) (fun j _ => n - (intOf j).toNat)
      case atStart => exact ⟨0, Nat.zero_le _, rfl, none, 0, nil_ints _ _, HC.out, HL.out, HS.out, HV.out, HB.out⟩
      case round =>
        obtain ⟨q, hq, rfl, uA, uc, ho, hc, hl, hs, hw, hb⟩ := hrel
        have HO := Lib.hid ho
        have HC := Lib.hid hc
        have HL := Lib.hid hl
        have HS := Lib.hid hs
        have HV := Lib.hid hw
        have HB := Lib.hid hb
        clear ho hc hl hs hw hb
        by_cases hlt : q < n
        · have k7 : wr.cell? ⟨cb, 7, none⟩ = some (.slice uA q uc) := HC.out.cell 7
          go_upto_region 14 with (fail)
          obtain ⟨W3, hW3⟩ : ∃ V, wr.alloc (.cells #[.int .i64 (q : Int)] 3) = V := ⟨_, rfl⟩
          have hb3 : Below wr.heap.size wr W3 := by rw [← hW3]; exact (Below.refl _ _).alloc (Nat.le_refl _) _
          have hs3 : Str W3 wr.heap.size 3 [.int .i64 (q : Int)] := by rw [← hW3]; exact World.alloc_heap_new wr _
          have HO3 := Lib.hid (show W3.ownsRow w.heap.size 3 1 (.slice uA q uc) q ((natsL q).map (Value.int .i64)) by have h9 := own_below HO.out hb3; rw [show (natsL q).length = q by simp [natsL]] at h9; exact h9)
          have HC3 := Lib.hid (HC.out.below hb3)
          have HL3 := Lib.hid (HL.out.below hb3)
          have HS3 := Lib.hid (HS.out.below hb3)
          have HV3 := Lib.hid (HV.out.below hb3)
          have HB3 := Lib.hid (HB.out.trans (hb3.mono HB.out.size))
          have HE3 := Lib.hid hs3
          clear hb3 hs3
          go_wp2_with (at_builtin; refine wpList_append1 rfl _ _ _ rfl w.heap.size 3 i1 (.int .i64 0) 8 Try.underlying22 HJ0.out HY0.out HY1.out HY2.out rfl (.slice uA q uc) q ((natsL q).map (Value.int .i64)) rfl HO3.out ⟨wr.heap.size, 0, none⟩ (.int .i64 (q : Int)) rfl (HE3.out.cell 0) rfl (by omega) (by omega) HB3.out.size ?_)
          intro v4 w4 hr4 hg4 _
          have ho4 : OwnInts w.heap.size w4 v4 (natsL (q + 1)) := by
            unfold OwnInts
            rw [natsL_succ, List.map_append, List.length_append, show (natsL q).length = q by simp [natsL]]
            exact hr4
          obtain ⟨zA, zc, hv4⟩ := own_form hr4
          subst hv4
          have HO4 := Lib.hid ho4
          have HC4 := Lib.hid (HC3.out.kept hg4 (Str.not_row HC3.out (by decide) HO3.out))
          have HS4 := Lib.hid (HS3.out.kept hg4 (Str.not_row HS3.out (by decide) HO3.out))
          have HV4 := Lib.hid (HV3.out.kept hg4 (Str.not_row HV3.out (by decide) HO3.out))
          have HL4 := Lib.hid (NilRow.kept HL3.out (noRow_own HO3.out (by decide)) hg4)
          have HB4 := Lib.hid (HB3.out.trans ⟨hg4.os, hg4.tape, hg4.output, hg4.size, fun k hk => hg4.block k (Nat.lt_of_lt_of_le hk HB3.out.size) (fun e => by have := (HO3.out.lt _ e.symm).1; omega)⟩)
          have k74 : w4.cell? ⟨cb, 7, none⟩ = some (.slice uA q uc) := HC4.out.cell 7
          have f74 := HC4.out.frozen 7
          clear hr4 hg4 ho4 k7
          go_wp2_with fail
          have HBT := Lib.hid (but_set cb 7 (.slice zA (q + 1) zc) w4)
          have HG := Lib.hid (setCell_grownBy w4 ⟨cb, 7, none⟩ (.slice zA (q + 1) zc))
          have HC5 := Lib.hid (show Str _ cb 24 [.int .i64 28, .int .i64 0, .int .i64 0, .int .i64 0, .int .i64 0, .int .i64 0, .int .i32 9, .slice zA (q + 1) zc] from HC4.out.set 7 (.slice zA (q + 1) zc))
          have HO5 := Lib.hid (ints_box HO4.out HC4.out (by decide) HG.out)
          have HL5 := Lib.hid (NilRow.kept HL4.out (noRow_str HC4.out (by decide)) HG.out)
          have HS5 := Lib.hid (HBT.out.str HS4.out hwcb2)
          have HV5 := Lib.hid (HBT.out.str HV4.out hwcb1)
          have HB5 := Lib.hid (HB4.out.trans (below_of_but HBT.out hcbw HB4.out.size))
          exact ⟨⟨q + 1, by omega, by go_num, zA, zc, HO5.out, HC5.out, HL5.out, HS5.out, HV5.out, HB5.out⟩, by simp [intOf]; omega⟩
        · obtain rfl : n = q := by omega
          obtain ⟨wo2, hwo⟩ : ∃ wo : World, wo = wr := ⟨_, rfl⟩
          rw [← hwo] at HO HC HL HS HV HB
          rw [← hwo]
          clear hwo
          clear wr
          go_upto_region 16 with (fail)
          obtain ⟨W7, hW7⟩ : ∃ V, wo2.alloc (.cells #[.int .i64 0, .int .i64 1, .int .i64 2, .int .i64 3] 3) = V := ⟨_, rfl⟩
          have hb7 : Below wo2.heap.size wo2 W7 := by rw [← hW7]; exact (Below.refl _ _).alloc (Nat.le_refl _) _
          have hz7 : W7.heap.size = wo2.heap.size + 1 := by rw [← hW7, World.size_alloc]
          have hlit : OwnInts w.heap.size W7 (.slice (some ⟨wo2.heap.size, 0, none⟩) 4 4) (natsL 4) := by
            rw [← hW7]
            exact World.ownsRow_lit (size := 1) (e := 3) (base := w.heap.size) wo2 #[.int .i64 0, .int .i64 1, .int .i64 2, .int .i64 3] 4 HB.out.size (by unfold maxLen; omega) (by simp)
          rw [hW7]
          obtain ⟨lb, hlb⟩ : ∃ b, wo2.heap.size = b := ⟨_, rfl⟩
          obtain ⟨db, hdb⟩ : ∃ b, wo2.heap.size + 1 = b := ⟨_, rfl⟩
          have hdbb : bb ≠ db := by have h1 := HS.out.lt; omega
          have hdbw : wb ≠ db := by have h1 := HV.out.lt; omega
          have hcdb : cb ≠ db := by have h1 := HC.out.lt; omega
          have hdww : w.heap.size ≤ db := by have h1 := HB.out.size; omega
          rw [hlb] at hlit
          rw [hdb] at hz7
          rw [hdb, hlb]
          clear hW7
          obtain ⟨W8, hW8⟩ : ∃ V, W7.alloc (.cells #[.int .i64 28, .int .i64 0, .int .i64 0, .int .i64 0, .int .i64 0, .int .i64 0, .int .i32 10, .slice (some ⟨lb, 0, none⟩) 4 4] 24) = V := ⟨_, rfl⟩
          have hb8 : Below W7.heap.size W7 W8 := by rw [← hW8]; exact (Below.refl _ _).alloc (Nat.le_refl _) _
          have hs8 : Str W8 db 24 [.int .i64 28, .int .i64 0, .int .i64 0, .int .i64 0, .int .i64 0, .int .i64 0, .int .i32 10, .slice (some ⟨lb, 0, none⟩) 4 4] := by rw [← hW8, ← hz7]; exact World.alloc_heap_new W7 _
          rw [hW8]
          clear hW8
          have hb8' : Below wo2.heap.size wo2 W8 := hb7.trans (hb8.mono hb7.size)
          have HD := Lib.hid hs8
          have HLI := Lib.hid (show OwnInts w.heap.size W8 (.slice (some ⟨lb, 0, none⟩) 4 4) (natsL 4) from own_below hlit hb8)
          have HO := Lib.hid (show OwnInts w.heap.size W8 (.slice uA n uc) (natsL n) from own_below HO.out hb8')
          have HC := Lib.hid (HC.out.below hb8')
          have HL := Lib.hid (HL.out.below hb8').full
          have HS := Lib.hid (HS.out.below hb8')
          have HV := Lib.hid (HV.out.below hb8')
          have HB := Lib.hid (HB.out.trans (hb8'.mono HB.out.size))
          clear hb7 hb8 hb8' hs8 hlit hz7 hlb hdb
          have b0 : W8.cell? ⟨bb, 0, none⟩ = some (.slice vA p vc) := HS.out.cell 0
          have c0 := HC.out.cell 0
          have c1 := HC.out.cell 1
          have c2 := HC.out.cell 2
          have c3 := HC.out.cell 3
          have c4 := HC.out.cell 4
          have c5 := HC.out.cell 5
          have c6 := HC.out.cell 6
          have c7 := HC.out.cell 7
          simp only [List.getElem?_cons_zero, List.getElem?_cons_succ] at c0 c1 c2 c3 c4 c5 c6 c7
          have d0 := HD.out.cell 0
          have d1 := HD.out.cell 1
          have d2 := HD.out.cell 2
          have d3 := HD.out.cell 3
          have d4 := HD.out.cell 4
          have d5 := HD.out.cell 5
          have d6 := HD.out.cell 6
          have d7 := HD.out.cell 7
          simp only [List.getElem?_cons_zero, List.getElem?_cons_succ] at d0 d1 d2 d3 d4 d5 d6 d7
          obtain ⟨W9, hW9⟩ : ∃ V, W8.alloc (.cells #[.int .i64 28, .int .i64 0, .int .i64 0, .int .i64 0, .int .i64 0, .int .i64 0, .int .i32 9, .slice uA n uc, .int .i64 0, .int .i64 28, .int .i64 0, .int .i64 0, .int .i64 0, .int .i64 0, .int .i64 0, .int .i32 10, .slice (some ⟨lb, 0, none⟩) 4 4, .int .i64 0] 47) = V := ⟨_, rfl⟩
          have hb9 : Below W8.heap.size W8 W9 := by rw [← hW9]; exact (Below.refl _ _).alloc (Nat.le_refl _) _
          have hs9 : Str W9 W8.heap.size 47 [.int .i64 28, .int .i64 0, .int .i64 0, .int .i64 0, .int .i64 0, .int .i64 0, .int .i32 9, .slice uA n uc, .int .i64 0, .int .i64 28, .int .i64 0, .int .i64 0, .int .i64 0, .int .i64 0, .int .i64 0, .int .i32 10, .slice (some ⟨lb, 0, none⟩) 4 4, .int .i64 0] := by rw [← hW9]; exact World.alloc_heap_new W8 _
          have HE9 := Lib.hid hs9
          have HD9 := Lib.hid (HD.out.below hb9)
          have HLI9 := Lib.hid (show OwnInts w.heap.size W9 (.slice (some ⟨lb, 0, none⟩) 4 4) (natsL 4) from own_below HLI.out hb9)
          have HO9 := Lib.hid (show OwnInts w.heap.size W9 (.slice uA n uc) (natsL n) from own_below HO.out hb9)
          have HC9 := Lib.hid (HC.out.below hb9)
          have HL9 := Lib.hid (HL.out.below hb9)
          have HS9 := Lib.hid (HS.out.below hb9)
          have HV9 := Lib.hid (HV.out.below hb9)
          have HB9 := Lib.hid (HB.out.trans (hb9.mono HB.out.size))
          clear hb9 hs9
          go_wp2_with (at_builtin; refine wpList_push2 rfl _ _ _ rfl rfl w.heap.size 47 i0 (.agg #[.int .i64 0, .int .i64 0, .int .i64 0, .int .i64 0, .int .i64 0, .int .i64 0, .int .i32 0, .slice none 0 0, .int .i64 0]) 9 88 Try.underlying43 HI0.out HZ0.out HZ1.out HZ2.out rfl (by decide) (plC w.heap.size) (plC w.heap.size) (.slice vA p vc) (lisL ws p) rfl HL9.out ⟨W8.heap.size, 0, none⟩ 2 rfl (callI 9 (natsL n)) (callI 10 (natsL 4)) [.int .i64 28, .int .i64 0, .int .i64 0, .int .i64 0, .int .i64 0, .int .i64 0, .int .i32 9, .slice uA n uc, .int .i64 0] [.int .i64 28, .int .i64 0, .int .i64 0, .int .i64 0, .int .i64 0, .int .i64 0, .int .i32 10, .slice (some ⟨lb, 0, none⟩) 4 4, .int .i64 0] rfl rfl ?tc1 ?tc2 ?tc3 (by omega) HB9.out.size ?tc5 ?tc6 ?_)
          case tc1 =>
            intro j u hj
            rw [at_add0, HE9.out.cell j]
            exact hj
          case tc2 => intro u hu; simp only [List.mem_append, List.mem_cons, List.not_mem_nil, or_false] at hu; rcases hu with (rfl | rfl | rfl | rfl | rfl | rfl | rfl | rfl | rfl) | (rfl | rfl | rfl | rfl | rfl | rfl | rfl | rfl | rfl) <;> rfl
          case tc3 => simp [lisL]; omega
          case tc5 => exact fun w' hg => plC.kept hg (PlRow.noRow HL9.out (by decide))
          case tc6 => exact fun w' hg => ⟨⟨.slice uA n uc, rfl, ints_row HO9.out HL9.out hg⟩, ⟨.slice (some ⟨lb, 0, none⟩) 4 4, rfl, ints_row HLI9.out HL9.out hg⟩⟩
          intro v10 w10 hr10 hg10
          obtain ⟨L2, hL2⟩ : ∃ L, lisL ws p ++ [callI 9 (natsL n), callI 10 (natsL 4)] = L := ⟨_, rfl⟩
          have HL2 := Lib.hid hL2
          have HLN := Lib.hid (show L2.length ≤ 18 by rw [← hL2]; simp [lisL]; omega)
          have hl10 : PlRow w.heap.size w10 v10 L2 := by rw [← hL2]; exact hr10
          obtain ⟨zA, zc, hv10⟩ := PlRow.form hl10
          obtain ⟨ln, hln⟩ : ∃ m, L2.length = m := ⟨_, rfl⟩
          rw [hln] at hv10
          subst hv10
          have HL10 := Lib.hid hl10
          have HS10 := Lib.hid (PlRow.str HL9.out hg10 HS9.out (by decide))
          have HV10 := Lib.hid (PlRow.str HL9.out hg10 HV9.out (by decide))
          have HD10 := Lib.hid (PlRow.str HL9.out hg10 HD9.out (by decide))
          have HLI10 := Lib.hid (ints_row HLI9.out HL9.out hg10)
          have HB10 := Lib.hid (HB9.out.trans (PlRow.grown HL9.out hg10 HB9.out.size))
          have k010 : w10.cell? ⟨bb, 0, none⟩ = some (.slice vA p vc) := HS10.out.cell 0
          have kf10 := HS10.out.frozen 0
          clear hr10 hg10 hl10 hln hL2 b0 c0 c1 c2 c3 c4 c5 c6 c7 d0 d1 d2 d3 d4 d5 d6 d7
          go_upto_region 17 with (fail)
          obtain ⟨W11, hW11⟩ : ∃ V, w10.setCell ⟨bb, 0, none⟩ (.slice zA ln zc) = V := ⟨_, rfl⟩
          have HBT := Lib.hid (show But bb w10 W11 by rw [← hW11]; exact but_set bb 0 (.slice zA ln zc) w10)
          have HG := Lib.hid (show w10.grownBy W11 (some bb) by rw [← hW11]; exact setCell_grownBy w10 ⟨bb, 0, none⟩ (.slice zA ln zc))
          have HS := Lib.hid (show Str W11 bb 45 [.slice zA ln zc, .int .i64 7, .int .i64 0, .int .i64 0, .slice none 0 0, .int .i32 0] by rw [← hW11]; exact HS10.out.set 0 (.slice zA ln zc))
          rw [hW11]
          have HL := Lib.hid (PlRow.box HL10.out HS10.out (by decide) (by decide) HG.out)
          have HLI := Lib.hid (ints_box HLI10.out HS10.out (by decide) HG.out)
          have HD := Lib.hid (HBT.out.str HD10.out (fun e => hdbb e.symm))
          have HV := Lib.hid (HBT.out.str HV10.out hwbb)
          have HB := Lib.hid (HB10.out.trans (below_of_but HBT.out hbbw HB10.out.size))
          clear hW11 k010 kf10
          go_wp2_with fail
          go_loopw [14] (fun j wr => ∃ q : Nat, q ≤ 4 ∧ j = .int .i64 q ∧ ∃ vA ln vc, PlRow w.heap.size wr (.slice vA ln vc) (L2 ++ movL q) ∧ Str wr bb 45 [.slice vA ln vc, .int .i64 7, .int .i64 0, .int .i64 0, .slice none 0 0, .int .i32 0] ∧ Str wr wb 21 (ws.map (Value.int .i32)) ∧ OwnInts w.heap.size wr (.slice (some ⟨lb, 0, none⟩) 4 4) (natsL 4) ∧ Str wr db 24 [.int .i64 28, .int .i64 0, .int .i64 0, .int .i64 0, .int .i64 0, .int .i64 0, .int .i32 10, .slice (some ⟨lb, 0, none⟩) 4 4] ∧ Below w.heap.size w wr) (fun j _ => 4 - (intOf j).toNat)
          case atStart => exact ⟨0, Nat.zero_le _, rfl, zA, ln, zc, by show PlRow _ _ _ (L2 ++ []); rw [List.append_nil]; exact HL.out, HS.out, HV.out, HLI.out, HD.out, HB.out⟩
          case round =>
            obtain ⟨q, hq, rfl, vA, ln, vc, hl, hs, hw, hli, hd, hb⟩ := hrel
            have HL := Lib.hid hl
            have HS := Lib.hid hs
            have HV := Lib.hid hw
            have HLI := Lib.hid hli
            have HD := Lib.hid hd
            have HB := Lib.hid hb
            clear hl hs hw hli hd hb
            have b0 : wr.cell? ⟨bb, 0, none⟩ = some (.slice vA ln vc) := HS.out.cell 0
            by_cases hlt : q < 4
            · have hdq : decide ((q : Int) < 4) = true := decide_eq_true (by omega)
              obtain ⟨W3, hW3⟩ : ∃ V, wr.alloc (.cells #[.int .i64 1, .int .i64 (q : Int), .int .i64 0, .int .i64 (12 + (q : Int)), .int .i64 0, .int .i64 0, .int .i32 0, .slice none 0 0, .int .i64 0] 47) = V := ⟨_, rfl⟩
              have hb3 : Below wr.heap.size wr W3 := by rw [← hW3]; exact (Below.refl _ _).alloc (Nat.le_refl _) _
              have hs3 : Str W3 wr.heap.size 47 [.int .i64 1, .int .i64 (q : Int), .int .i64 0, .int .i64 (12 + (q : Int)), .int .i64 0, .int .i64 0, .int .i32 0, .slice none 0 0, .int .i64 0] := by rw [← hW3]; exact World.alloc_heap_new wr _
              have HE3 := Lib.hid hs3
              have HL3 := Lib.hid (HL.out.below hb3)
              have HS3 := Lib.hid (HS.out.below hb3)
              have HV3 := Lib.hid (HV.out.below hb3)
              have HD3 := Lib.hid (HD.out.below hb3)
              have HLI3 := Lib.hid (show OwnInts w.heap.size W3 (.slice (some ⟨lb, 0, none⟩) 4 4) (natsL 4) from own_below HLI.out hb3)
              have HB3 := Lib.hid (HB.out.trans (hb3.mono HB.out.size))
              clear hb3 hs3
              go_wp2_with (at_builtin; refine wpList_push rfl _ _ _ rfl rfl w.heap.size 47 i0 (.agg #[.int .i64 0, .int .i64 0, .int .i64 0, .int .i64 0, .int .i64 0, .int .i64 0, .int .i32 0, .slice none 0 0, .int .i64 0]) 9 88 Try.underlying43 HI0.out HZ0.out HZ1.out HZ2.out rfl (by decide) (plC w.heap.size) (plC w.heap.size) (.slice vA ln vc) (L2 ++ movL q) rfl HL3.out ⟨wr.heap.size, 0, none⟩ 1 rfl (movI q) [.int .i64 1, .int .i64 (q : Int), .int .i64 0, .int .i64 (12 + (q : Int)), .int .i64 0, .int .i64 0, .int .i32 0, .slice none 0 0, .int .i64 0] rfl ?ta1 ?ta2 ?ta3 (by omega) HB3.out.size ?ta5 ?ta6 ?_)
              case ta1 => intro j u hj; rw [at_add0, HE3.out.cell j]; exact hj
              case ta2 => intro u hu; simp only [List.mem_cons, List.not_mem_nil, or_false] at hu; rcases hu with rfl | rfl | rfl | rfl | rfl | rfl | rfl | rfl | rfl <;> rfl
              case ta3 => have h9 := HLN.out; simp [movL]; omega
              case ta5 => exact fun w' hg => plC.kept hg (PlRow.noRow HL3.out (by decide))
              case ta6 => exact fun w' hg => ⟨.slice none 0 0, rfl, nil_ints _ _⟩
              intro v4 w4 hr4 hg4 _
              have hl4 : PlRow w.heap.size w4 v4 (L2 ++ movL (q + 1)) := by rw [movL_succ]; exact hr4
              obtain ⟨zA, zc, hv4⟩ := PlRow.form hl4
              obtain ⟨zn, hzn⟩ : ∃ m, (L2 ++ movL (q + 1)).length = m := ⟨_, rfl⟩
              rw [hzn] at hv4
              subst hv4
              have HL4 := Lib.hid hl4
              have HS4 := Lib.hid (PlRow.str HL3.out hg4 HS3.out (by decide))
              have HV4 := Lib.hid (PlRow.str HL3.out hg4 HV3.out (by decide))
              have HD4 := Lib.hid (PlRow.str HL3.out hg4 HD3.out (by decide))
              have HLI4 := Lib.hid (ints_row HLI3.out HL3.out hg4)
              have HB4 := Lib.hid (HB3.out.trans (PlRow.grown HL3.out hg4 HB3.out.size))
              have k04 : w4.cell? ⟨bb, 0, none⟩ = some (.slice vA ln vc) := HS4.out.cell 0
              have kf4 := HS4.out.frozen 0
              clear hr4 hg4 hl4 hzn
              go_wp2_with fail
              obtain ⟨W11, hW11⟩ : ∃ V, w4.setCell ⟨bb, 0, none⟩ (.slice zA zn zc) = V := ⟨_, rfl⟩
              have HBT := Lib.hid (show But bb w4 W11 by rw [← hW11]; exact but_set bb 0 (.slice zA zn zc) w4)
              have HG := Lib.hid (show w4.grownBy W11 (some bb) by rw [← hW11]; exact setCell_grownBy w4 ⟨bb, 0, none⟩ (.slice zA zn zc))
              have HS := Lib.hid (show Str W11 bb 45 [.slice zA zn zc, .int .i64 7, .int .i64 0, .int .i64 0, .slice none 0 0, .int .i32 0] by rw [← hW11]; exact HS4.out.set 0 (.slice zA zn zc))
              rw [hW11]
              have HL := Lib.hid (PlRow.box HL4.out HS4.out (by decide) (by decide) HG.out)
              have HLI := Lib.hid (ints_box HLI4.out HS4.out (by decide) HG.out)
              have HD := Lib.hid (HBT.out.str HD4.out (fun e => hdbb e.symm))
              have HV := Lib.hid (HBT.out.str HV4.out hwbb)
              have HB := Lib.hid (HB4.out.trans (below_of_but HBT.out hbbw HB4.out.size))
              clear hW11 k04 kf4
              exact ⟨⟨q + 1, by omega, by go_num, zA, zn, zc, HL.out, HS.out, HV.out, HLI.out, HD.out, HB.out⟩, by simp [intOf]; omega⟩
            · have HQ4 := Lib.hid (show q = 4 by omega)
              have hdq : decide ((q : Int) < 4) = false := decide_eq_false (by omega)
              obtain ⟨wo3, hwo⟩ : ∃ wo : World, wo = wr := ⟨_, rfl⟩
              rw [← hwo] at HL HS HV HLI HD HB b0
              rw [← hwo]
              clear hwo
              clear wr
              have d0 := HD.out.cell 0
              have d1 := HD.out.cell 1
              have d2 := HD.out.cell 2
              have d3 := HD.out.cell 3
              have d4 := HD.out.cell 4
              have d5 := HD.out.cell 5
              have d6 := HD.out.cell 6
              have d7 := HD.out.cell 7
              simp only [List.getElem?_cons_zero, List.getElem?_cons_succ] at d0 d1 d2 d3 d4 d5 d6 d7
              obtain ⟨W3, hW3⟩ : ∃ V, wo3.alloc (.cells #[.int .i64 28, .int .i64 0, .int .i64 0, .int .i64 0, .int .i64 0, .int .i64 0, .int .i32 10, .slice (some ⟨lb, 0, none⟩) 4 4, .int .i64 0] 47) = V := ⟨_, rfl⟩
              have hb3 : Below wo3.heap.size wo3 W3 := by rw [← hW3]; exact (Below.refl _ _).alloc (Nat.le_refl _) _
              have hs3 : Str W3 wo3.heap.size 47 [.int .i64 28, .int .i64 0, .int .i64 0, .int .i64 0, .int .i64 0, .int .i64 0, .int .i32 10, .slice (some ⟨lb, 0, none⟩) 4 4, .int .i64 0] := by rw [← hW3]; exact World.alloc_heap_new wo3 _
              have HE3 := Lib.hid hs3
              have HL3 := Lib.hid (HL.out.below hb3)
              have HS3 := Lib.hid (HS.out.below hb3)
              have HV3 := Lib.hid (HV.out.below hb3)
              have HD3 := Lib.hid (HD.out.below hb3)
              have HLI3 := Lib.hid (show OwnInts w.heap.size W3 (.slice (some ⟨lb, 0, none⟩) 4 4) (natsL 4) from own_below HLI.out hb3)
              have HB3 := Lib.hid (HB.out.trans (hb3.mono HB.out.size))
              clear hb3 hs3
              go_wp2_with (at_builtin; refine wpList_push rfl _ _ _ rfl rfl w.heap.size 47 i0 (.agg #[.int .i64 0, .int .i64 0, .int .i64 0, .int .i64 0, .int .i64 0, .int .i64 0, .int .i32 0, .slice none 0 0, .int .i64 0]) 9 88 Try.underlying43 HI0.out HZ0.out HZ1.out HZ2.out rfl (by decide) (plC w.heap.size) (plC w.heap.size) (.slice vA ln vc) (L2 ++ movL q) rfl HL3.out ⟨wo3.heap.size, 0, none⟩ 1 rfl (callI 10 (natsL 4)) [.int .i64 28, .int .i64 0, .int .i64 0, .int .i64 0, .int .i64 0, .int .i64 0, .int .i32 10, .slice (some ⟨lb, 0, none⟩) 4 4, .int .i64 0] rfl ?tb1 ?tb2 ?tb3 (by omega) HB3.out.size ?tb5 ?tb6 ?_)
              case tb1 => intro j u hj; rw [at_add0, HE3.out.cell j]; exact hj
              case tb2 => intro u hu; simp only [List.mem_cons, List.not_mem_nil, or_false] at hu; rcases hu with rfl | rfl | rfl | rfl | rfl | rfl | rfl | rfl | rfl <;> rfl
              case tb3 => have h9 := HLN.out; simp [movL]; omega
              case tb5 => exact fun w' hg => plC.kept hg (PlRow.noRow HL3.out (by decide))
              case tb6 => exact fun w' hg => ⟨.slice (some ⟨lb, 0, none⟩) 4 4, rfl, ints_row HLI3.out HL3.out hg⟩
              intro v4 w4 hr4 hg4 _
              have hl4 : PlRow w.heap.size w4 v4 (L2 ++ movL q ++ [callI 10 (natsL 4)]) := by rw [List.append_assoc]; exact hr4
              obtain ⟨zA, zc, hv4⟩ := PlRow.form hl4
              obtain ⟨zn, hzn⟩ : ∃ m, (L2 ++ movL q ++ [callI 10 (natsL 4)]).length = m := ⟨_, rfl⟩
              rw [hzn] at hv4
              subst hv4
              have HL4 := Lib.hid hl4
              have HS4 := Lib.hid (PlRow.str HL3.out hg4 HS3.out (by decide))
              have HV4 := Lib.hid (PlRow.str HL3.out hg4 HV3.out (by decide))
              have HD4 := Lib.hid (PlRow.str HL3.out hg4 HD3.out (by decide))
              have HLI4 := Lib.hid (ints_row HLI3.out HL3.out hg4)
              have HB4 := Lib.hid (HB3.out.trans (PlRow.grown HL3.out hg4 HB3.out.size))
              have k04 : w4.cell? ⟨bb, 0, none⟩ = some (.slice vA ln vc) := HS4.out.cell 0
              have kf4 := HS4.out.frozen 0
              clear hr4 hg4 hl4 hzn
              clear d0 d1 d2 d3 d4 d5 d6 d7 b0
              go_upto_region 22 with (fail)
              obtain ⟨W11, hW11⟩ : ∃ V, w4.setCell ⟨bb, 0, none⟩ (.slice zA zn zc) = V := ⟨_, rfl⟩
              have HBT := Lib.hid (show But bb w4 W11 by rw [← hW11]; exact but_set bb 0 (.slice zA zn zc) w4)
              have HG := Lib.hid (show w4.grownBy W11 (some bb) by rw [← hW11]; exact setCell_grownBy w4 ⟨bb, 0, none⟩ (.slice zA zn zc))
              have HS := Lib.hid (show Str W11 bb 45 [.slice zA zn zc, .int .i64 7, .int .i64 0, .int .i64 0, .slice none 0 0, .int .i32 0] by rw [← hW11]; exact HS4.out.set 0 (.slice zA zn zc))
              rw [hW11]
              have HL := Lib.hid (PlRow.box HL4.out HS4.out (by decide) (by decide) HG.out)
              have HLI := Lib.hid (ints_box HLI4.out HS4.out (by decide) HG.out)
              have HD := Lib.hid (HBT.out.str HD4.out (fun e => hdbb e.symm))
              have HV := Lib.hid (HBT.out.str HV4.out hwbb)
              have HB := Lib.hid (HB4.out.trans (below_of_but HBT.out hbbw HB4.out.size))
              clear hW11 k04 kf4
              have HCL := Lib.hid (show L2 ++ movL q ++ [callI 10 (natsL 4)] = callsL ws n by rw [← HL2.out, HP16.out, HQ4.out]; rfl)
              have HPL := Lib.hid (show RowAt W11 9 PlacedAt (.slice zA zn zc) (callsL ws n) by rw [← HCL.out]; exact (RowsOwn.row HL.out pl_at).1)
              obtain ⟨qa, hqa⟩ : ∃ m : Nat, min al.length 9 = m := ⟨_, rfl⟩
              have hma : min (al.length : Int) 9 = (qa : Int) := by omega
              have hqa1 : qa ≤ al.length := by omega
              have hqa9 : qa ≤ 9 := by omega
              obtain ⟨R, hR⟩ : ∃ R, runQ 0 0 [callsB ws n] [] [] (al.take qa) 100 = R := ⟨_, rfl⟩
              have hRt := calls_tell (nl := al.take qa) hn4 HWL.out
              rw [hR, show (al.take qa).getD 2 0 = al.getD 2 0 by rw [← hqa]; exact getD_few (by omega), show (al.take qa).getD 0 0 = al.getD 0 0 by rw [← hqa]; exact getD_few (by omega)] at hRt
              obtain ⟨rv, hrv⟩ : ∃ z, al.getD 2 0 = z := ⟨_, rfl⟩
              obtain ⟨rf, hrf⟩ : ∃ z, al.getD 0 0 = z := ⟨_, rfl⟩
              rw [hrv, hrf] at hRt
              obtain ⟨CL, hCL⟩ : ∃ C : List (Int × List Int), C = [((9 : Int), ws.take n), ((10 : Int), [rf, 24302, 24303, 24304]), ((10 : Int), ws.drop 12)] := ⟨_, rfl⟩
              rw [← hCL] at hRt
              have HCX := Lib.hid hCL
              have HRV := Lib.hid hrv
              have HRF := Lib.hid hrf
              have HT1 := Lib.hid hRt.1
              have HT2 := Lib.hid hRt.2.1
              have HT3 := Lib.hid hRt.2.2
              have HRR := Lib.hid hR
              obtain ⟨rst, hrst⟩ : ∃ z, R.1.steps = z := ⟨_, rfl⟩
              have HST9 := Lib.hid hrst
              have HQA := Lib.hid hqa
              have HBW := Lib.hid HB.out
              have HRUN := Lib.hid (show ∀ (W' : World) (pb : Nat), Below W11.heap.size W11 W' → Str W' pb 45 [.slice zA zn zc, .int .i64 7, .int .i64 0, .int .i64 0, .slice none 0 0, .int .i32 0] → Calls Try.prog 23 #[.agg #[.int .i64 0, .int .i64 16, .int .i64 0, .slice (some ⟨pb, 0, none⟩) 1 1], .agg #[.slice none 0 0, .slice none 0 0, .slice aA qa ac, .int .i64 100]] W' (CallsOut rv rst CL W') by
                intro W' pb hb hs
                have hpb : PBlocksAt W' (.slice (some ⟨pb, 0, none⟩) ([callsB ws n] : List PPB).length 1) [callsB ws n] := ⟨some ⟨pb, 0, none⟩, 1, pb, 0, rfl, by simp, by unfold maxLen; omega, fun _ => rfl, fun k hk => by
                  have hk0 : k = 0 := by simp at hk; omega
                  subst hk0
                  exact ⟨⟨_, hs.cell 0, RowAt.kept HPL.out (PlacedAt.keep hb)⟩, hs.cell 1, hs.cell 2, hs.cell 3, ⟨_, hs.cell 4, ints_none _⟩, hs.cell 5⟩⟩
                have hwa : WordsAt W' (.slice aA (al.take qa).length ac) (al.take qa) := by rw [List.length_take, Nat.min_eq_left hqa1]; exact WordsAt.take (HA.out.below (HBW.out.trans (hb.mono HBW.out.size))) qa hqa1
                rw [List.length_take, Nat.min_eq_left hqa1] at hwa
                have h9 := run_any W' 0 0 16 (some ⟨pb, 0, none⟩) 1 [callsB ws n] hpb (calls_wf hn4 HWW.out) (calls_fine hn4 HWW.out) (.slice none 0 0) (.slice none 0 0) (.slice aA qa ac) 100 [] [] (al.take qa) (WordsAt.none_ _) (WordsAt.none_ _) hwa (fun x hx => by cases hx) (fun x hx => by cases hx) ⟨by rw [List.length_take]; omega, fun x hx => HAI.out x (List.mem_of_mem_take hx)⟩ ⟨⟨by decide, by decide⟩, by decide⟩
                rw [HRR.out] at h9
                refine h9.mono ?_
                rintro e w9 ⟨mA, mn, mc, eA, ek, rfl, _, hev, hb9⟩
                rw [HT3.out] at hev
                rw [HT1.out, HT2.out, HT3.out, HST9.out]
                rw [show CL.length = 3 by rw [HCX.out]; rfl] at hev ⊢
                exact ⟨mA, mn, mc, eA, ek, rfl, hev, hb9⟩)
              clear hR hRt hqa hCL hrv hrf hrst
              have HBX := Lib.hid (Below.refl W11.heap.size W11)
              have HSX := Lib.hid HS.out
              go_cut [15] (fun s15 wx => ∃ ob mA mn mc eA ek, s15 = .pointer (some ⟨ob, 0, none⟩) ∧ Str wx ob 39 [.int .i64 1, .int .i32 rv, .slice mA mn mc, .slice eA 3 ek, .int .i64 rst] ∧ EventsAt w.heap.size wx (.slice eA 3 ek) CL (fun _ => False) ∧ Below W11.heap.size W11 wx)
              case first =>
                refine region_heldR_wp (fun w' => Str w' bb 45 [.slice zA zn zc, .int .i64 7, .int .i64 0, .int .i64 0, .slice none 0 0, .int .i32 0]) [0, 2, 3, 4, 5, 6, 7, 8] (.step 0 (.step 3 (.step 4 (.step 5 (.step 6 (.step 7 (.step 8 (.fork 1 10 (.step 2 (.fork 9 10 (.step 10 (.step 11 .done)) (.step 9 (.step 11 .done)))) (.step 1 (.step 2 (.step 9 (.step 11 .done)))))))))))) (by kernel_rfl) (by kernel_rfl) (by kernel_rfl) rfl (by intro c a d v w h; cases d <;> exact h) HS.out ?_
                refine walkR_still _ ?ra0 rfl rfl rfl ?ray0 ?_
                case ray0 => intro w hS; have b0 := hS.cell 0; have b1 := hS.cell 1; have b2 := hS.cell 2; have b3 := hS.cell 3; have b4 := hS.cell 4; have b5 := hS.cell 5; simp only [List.getElem?_cons_zero, List.getElem?_cons_succ] at b0 b1 b2 b3 b4 b5; go_simp; first | done | with_reducible rfl | (rw [if_pos (show qa ≤ ac by omega)]) | (rw [hma])
                simp only [Act.put]
                try simp only [List.setIfInBounds_toArray, List.set_cons_zero, List.set_cons_succ]
                refine walkR_still _ ?ra3 rfl rfl rfl ?ray3 ?_
                case ray3 => intro w hS; go_simp; first | done | with_reducible rfl | (rw [if_pos (show qa ≤ ac by omega)]) | (rw [hma])
                simp only [Act.put]
                try simp only [List.setIfInBounds_toArray, List.set_cons_zero, List.set_cons_succ]
                refine walkR_still _ ?ra4 rfl rfl rfl ?ray4 ?_
                case ray4 => intro w hS; go_simp; first | done | with_reducible rfl | (rw [if_pos (show qa ≤ ac by omega)]) | (rw [hma])
                simp only [Act.put]
                try simp only [List.setIfInBounds_toArray, List.set_cons_zero, List.set_cons_succ]
                refine walkR_still _ ?ra5 rfl rfl rfl ?ray5 ?_
                case ray5 => intro w hS; go_simp; first | done | with_reducible rfl | (rw [if_pos (show qa ≤ ac by omega)]) | (rw [hma])
                simp only [Act.put]
                try simp only [List.setIfInBounds_toArray, List.set_cons_zero, List.set_cons_succ]
                refine walkR_still _ ?ra6 rfl rfl rfl ?ray6 ?_
                case ray6 => intro w hS; go_simp; first | done | with_reducible rfl | (rw [if_pos (show qa ≤ ac by omega)]) | (rw [hma])
                simp only [Act.put]
                try simp only [List.setIfInBounds_toArray, List.set_cons_zero, List.set_cons_succ]
                refine walkR_still _ ?ra7 rfl rfl rfl ?ray7 ?_
                case ray7 => intro w hS; go_simp; first | done | with_reducible rfl | (rw [if_pos (show qa ≤ ac by omega)]) | (rw [hma])
                simp only [Act.put]
                try simp only [List.setIfInBounds_toArray, List.set_cons_zero, List.set_cons_succ]
                refine walkR_still _ ?ra8 rfl rfl rfl ?ray8 ?_
                case ray8 => intro w hS; go_simp; first | done | with_reducible rfl | (rw [if_pos (show qa ≤ ac by omega)]) | (rw [hma])
                simp only [Act.put]
                try simp only [List.setIfInBounds_toArray, List.set_cons_zero, List.set_cons_succ]
                refine walkR_fork _ _ rfl rfl ?fa ?fb
                case fa =>
                  go_wp2
                  obtain ⟨W12, hW9⟩ : ∃ V, (W11.alloc (.cells #[.slice zA zn zc, .int .i64 7, .int .i64 0, .int .i64 0, .slice none 0 0, .int .i32 0] 45)).drew = V := ⟨_, rfl⟩
                  have hb9 : Below W11.heap.size W11 W12 := by rw [← hW9]; exact ((Below.refl _ _).alloc (Nat.le_refl _) _).drew
                  have hs9 : Str W12 W11.heap.size 45 [.slice zA zn zc, .int .i64 7, .int .i64 0, .int .i64 0, .slice none 0 0, .int .i32 0] := by rw [← hW9]; exact World.alloc_heap_new W11 _
                  rw [hW9]
                  clear hW9
                  have HPB := Lib.hid hs9
                  have HBX := Lib.hid (HBX.out.trans (hb9.mono HBX.out.size))
                  have HSX := Lib.hid (HSX.out.below hb9)
                  clear hb9 hs9
                  refine behindR HSX.out ?_
                  try simp only [List.setIfInBounds_toArray, List.set_cons_zero, List.set_cons_succ]
                  refine walkR_still _ ?rb2 rfl rfl rfl ?rby2 ?_
                  case rby2 => intro w hS; go_simp; first | done | with_reducible rfl | (rw [if_pos (show qa ≤ ac by omega)]) | (rw [hma])
                  simp only [Act.put]
                  try simp only [List.setIfInBounds_toArray, List.set_cons_zero, List.set_cons_succ]
                  refine walkR_fork _ _ rfl rfl ?fc ?fd
                  case fc =>
                    go_wp2_with fail
                    refine (HRUN.out W12 _ HBX.out HPB.out).mono ?_
                    rintro e W13 ⟨mA, mn, mc, eA, ek, rfl, hev, hb9⟩
                    have HEV := Lib.hid (hev.base (B' := w.heap.size) (Nat.le_trans HBW.out.size HBX.out.size))
                    have HBX := Lib.hid (HBX.out.trans (hb9.mono HBX.out.size))
                    have HSX := Lib.hid (HSX.out.below hb9)
                    clear hev hb9
                    go_wp2_with fail
                    refine behindR HSX.out ?_
                    try simp only [List.setIfInBounds_toArray, List.set_cons_zero, List.set_cons_succ]
                    refine walkR_does _ rfl rfl ?_
                    go_wp2
                    obtain ⟨W14, hW9⟩ : ∃ V, W13.alloc (.cells #[.int .i64 0, .int .i32 0, .slice none 0 0, .slice none 0 0, .int .i64 0] 39) = V := ⟨_, rfl⟩
                    have hb9 : Below W13.heap.size W13 W14 := by rw [← hW9]; exact (Below.refl _ _).alloc (Nat.le_refl _) _
                    have hs9 : Str W14 W13.heap.size 39 [.int .i64 0, .int .i32 0, .slice none 0 0, .slice none 0 0, .int .i64 0] := by rw [← hW9]; exact World.alloc_heap_new W13 _
                    rw [hW9]
                    obtain ⟨ob, hob⟩ : ∃ b, W13.heap.size = b := ⟨_, rfl⟩
                    have hbo : bb ≠ ob := by have h1 := HSX.out.lt; omega
                    have hbw9 : W11.heap.size ≤ ob := by have h1 := HBX.out.size; omega
                    rw [hob] at hs9
                    rw [hob]
                    clear hob
                    clear hW9
                    have HEV := Lib.hid (HEV.out.below hb9)
                    have HOB := Lib.hid hs9
                    have HBX := Lib.hid (HBX.out.trans (hb9.mono HBX.out.size))
                    have HSX := Lib.hid (HSX.out.below hb9)
                    clear hb9 hs9
                    refine behindR HSX.out ?_
                    try simp only [List.setIfInBounds_toArray, List.set_cons_zero, List.set_cons_succ]
                    refine walkR_does _ rfl rfl ?_
                    refine wpList_store_row rfl 39 (.tmp 15) (.tmp 97) rfl ob #[.int .i64 1, .int .i32 rv, .slice mA mn mc, .slice eA 3 ek, .int .i64 rst] rfl rfl 39 #[.int .i64 0, .int .i32 0, .slice none 0 0, .slice none 0 0, .int .i64 0] HOB.out (by kernel_rfl) rfl (five_one _ _ _ _ _ _ _ _ _) ?_
                    obtain ⟨W15, hW15⟩ : ∃ V, W14.setRow ob #[.int .i64 1, .int .i32 rv, .slice mA mn mc, .slice eA 3 ek, .int .i64 rst] = V := ⟨_, rfl⟩
                    have hfb : But ob W14 W15 := by rw [← hW15]; exact but_setRow _ _ _
                    have hfs : Str W15 ob 39 [.int .i64 1, .int .i32 rv, .slice mA mn mc, .slice eA 3 ek, .int .i64 rst] := by rw [← hW15]; exact str_setRow HOB.out
                    rw [hW15]
                    clear hW15
                    have hev := HEV.out.box HOB.out (by decide) (by decide) hfb
                    have hbx := HBX.out.trans (below_of_but hfb hbw9 HBX.out.size)
                    refine wpList_nil (behindR (hfb.str HSX.out hbo) (walkR_done ?_))
                    clear HRUN HPL HCL HPB HL HLI HD HV HS HB
                    go_wp2_with fail
                    go_meet
                    exact ⟨ob, mA, mn, mc, eA, ek, rfl, hfs, hev, hbx⟩
                  case fd =>
                    go_wp2
                    obtain ⟨W13, hW9⟩ : ∃ V, W12.alloc (.cells #[.int .i64 0, .int .i32 0, .slice none 0 0, .slice none 0 0, .int .i64 0] 39) = V := ⟨_, rfl⟩
                    have hb9 : Below W12.heap.size W12 W13 := by rw [← hW9]; exact (Below.refl _ _).alloc (Nat.le_refl _) _
                    have hs9 : Str W13 W12.heap.size 39 [.int .i64 0, .int .i32 0, .slice none 0 0, .slice none 0 0, .int .i64 0] := by rw [← hW9]; exact World.alloc_heap_new W12 _
                    rw [hW9]
                    obtain ⟨ob, hob⟩ : ∃ b, W12.heap.size = b := ⟨_, rfl⟩
                    have hbo : bb ≠ ob := by have h1 := HSX.out.lt; omega
                    have hbw9 : W11.heap.size ≤ ob := by have h1 := HBX.out.size; omega
                    rw [hob] at hs9
                    rw [hob]
                    clear hob
                    clear hW9
                    have HPB := Lib.hid (HPB.out.below hb9)
                    have HOB := Lib.hid hs9
                    have HBX := Lib.hid (HBX.out.trans (hb9.mono HBX.out.size))
                    have HSX := Lib.hid (HSX.out.below hb9)
                    clear hb9 hs9
                    refine behindR HSX.out ?_
                    try simp only [List.setIfInBounds_toArray, List.set_cons_zero, List.set_cons_succ]
                    refine walkR_does _ rfl rfl ?_
                    go_wp2_with fail
                    refine (HRUN.out W13 _ HBX.out HPB.out).mono ?_
                    rintro e W14 ⟨mA, mn, mc, eA, ek, rfl, hev, hb9⟩
                    have HOB := Lib.hid (HOB.out.below hb9)
                    have HEV := Lib.hid (hev.base (B' := w.heap.size) (Nat.le_trans HBW.out.size HBX.out.size))
                    have HBX := Lib.hid (HBX.out.trans (hb9.mono HBX.out.size))
                    have HSX := Lib.hid (HSX.out.below hb9)
                    clear hev hb9
                    go_wp2_with fail
                    refine behindR HSX.out ?_
                    try simp only [List.setIfInBounds_toArray, List.set_cons_zero, List.set_cons_succ]
                    refine walkR_does _ rfl rfl ?_
                    refine wpList_store_row rfl 39 (.tmp 15) (.tmp 97) rfl ob #[.int .i64 1, .int .i32 rv, .slice mA mn mc, .slice eA 3 ek, .int .i64 rst] rfl rfl 39 #[.int .i64 0, .int .i32 0, .slice none 0 0, .slice none 0 0, .int .i64 0] HOB.out (by kernel_rfl) rfl (five_one _ _ _ _ _ _ _ _ _) ?_
                    obtain ⟨W15, hW15⟩ : ∃ V, W14.setRow ob #[.int .i64 1, .int .i32 rv, .slice mA mn mc, .slice eA 3 ek, .int .i64 rst] = V := ⟨_, rfl⟩
                    have hfb : But ob W14 W15 := by rw [← hW15]; exact but_setRow _ _ _
                    have hfs : Str W15 ob 39 [.int .i64 1, .int .i32 rv, .slice mA mn mc, .slice eA 3 ek, .int .i64 rst] := by rw [← hW15]; exact str_setRow HOB.out
                    rw [hW15]
                    clear hW15
                    have hev := HEV.out.box HOB.out (by decide) (by decide) hfb
                    have hbx := HBX.out.trans (below_of_but hfb hbw9 HBX.out.size)
                    refine wpList_nil (behindR (hfb.str HSX.out hbo) (walkR_done ?_))
                    clear HRUN HPL HCL HPB HL HLI HD HV HS HB
                    go_wp2_with fail
                    go_meet
                    exact ⟨ob, mA, mn, mc, eA, ek, rfl, hfs, hev, hbx⟩
                case fb =>
                  go_wp2
                  obtain ⟨W12, hW9⟩ : ∃ V, (W11.alloc (.cells #[.int .i64 0, .int .i32 0, .slice none 0 0, .slice none 0 0, .int .i64 0] 39)).drew = V := ⟨_, rfl⟩
                  have hb9 : Below W11.heap.size W11 W12 := by rw [← hW9]; exact ((Below.refl _ _).alloc (Nat.le_refl _) _).drew
                  have hs9 : Str W12 W11.heap.size 39 [.int .i64 0, .int .i32 0, .slice none 0 0, .slice none 0 0, .int .i64 0] := by rw [← hW9]; exact World.alloc_heap_new W11 _
                  rw [hW9]
                  obtain ⟨ob, hob⟩ : ∃ b, W11.heap.size = b := ⟨_, rfl⟩
                  have hbo : bb ≠ ob := by have h1 := HSX.out.lt; omega
                  have hbw9 : W11.heap.size ≤ ob := by have h1 := HBX.out.size; omega
                  rw [hob] at hs9
                  rw [hob]
                  clear hob
                  clear hW9
                  have HOB := Lib.hid hs9
                  have HBX := Lib.hid (HBX.out.trans (hb9.mono HBX.out.size))
                  have HSX := Lib.hid (HSX.out.below hb9)
                  clear hb9 hs9
                  refine behindR HSX.out ?_
                  try simp only [List.setIfInBounds_toArray, List.set_cons_zero, List.set_cons_succ]
                  refine walkR_does _ rfl rfl ?_
                  go_wp2
                  obtain ⟨W13, hW9⟩ : ∃ V, W12.alloc (.cells #[.slice zA zn zc, .int .i64 7, .int .i64 0, .int .i64 0, .slice none 0 0, .int .i32 0] 45) = V := ⟨_, rfl⟩
                  have hb9 : Below W12.heap.size W12 W13 := by rw [← hW9]; exact (Below.refl _ _).alloc (Nat.le_refl _) _
                  have hs9 : Str W13 W12.heap.size 45 [.slice zA zn zc, .int .i64 7, .int .i64 0, .int .i64 0, .slice none 0 0, .int .i32 0] := by rw [← hW9]; exact World.alloc_heap_new W12 _
                  rw [hW9]
                  clear hW9
                  have HOB := Lib.hid (HOB.out.below hb9)
                  have HPB := Lib.hid hs9
                  have HBX := Lib.hid (HBX.out.trans (hb9.mono HBX.out.size))
                  have HSX := Lib.hid (HSX.out.below hb9)
                  clear hb9 hs9
                  refine behindR HSX.out ?_
                  try simp only [List.setIfInBounds_toArray, List.set_cons_zero, List.set_cons_succ]
                  refine walkR_still _ ?rc2 rfl rfl rfl ?rcy2 ?_
                  case rcy2 => intro w hS; go_simp; first | done | with_reducible rfl | (rw [if_pos (show qa ≤ ac by omega)]) | (rw [hma])
                  simp only [Act.put]
                  try simp only [List.setIfInBounds_toArray, List.set_cons_zero, List.set_cons_succ]
                  refine walkR_does _ rfl rfl ?_
                  go_wp2_with fail
                  refine (HRUN.out W13 _ HBX.out HPB.out).mono ?_
                  rintro e W14 ⟨mA, mn, mc, eA, ek, rfl, hev, hb9⟩
                  have HOB := Lib.hid (HOB.out.below hb9)
                  have HEV := Lib.hid (hev.base (B' := w.heap.size) (Nat.le_trans HBW.out.size HBX.out.size))
                  have HBX := Lib.hid (HBX.out.trans (hb9.mono HBX.out.size))
                  have HSX := Lib.hid (HSX.out.below hb9)
                  clear hev hb9
                  go_wp2_with fail
                  refine behindR HSX.out ?_
                  try simp only [List.setIfInBounds_toArray, List.set_cons_zero, List.set_cons_succ]
                  refine walkR_does _ rfl rfl ?_
                  refine wpList_store_row rfl 39 (.tmp 15) (.tmp 97) rfl ob #[.int .i64 1, .int .i32 rv, .slice mA mn mc, .slice eA 3 ek, .int .i64 rst] rfl rfl 39 #[.int .i64 0, .int .i32 0, .slice none 0 0, .slice none 0 0, .int .i64 0] HOB.out (by kernel_rfl) rfl (five_one _ _ _ _ _ _ _ _ _) ?_
                  obtain ⟨W15, hW15⟩ : ∃ V, W14.setRow ob #[.int .i64 1, .int .i32 rv, .slice mA mn mc, .slice eA 3 ek, .int .i64 rst] = V := ⟨_, rfl⟩
                  have hfb : But ob W14 W15 := by rw [← hW15]; exact but_setRow _ _ _
                  have hfs : Str W15 ob 39 [.int .i64 1, .int .i32 rv, .slice mA mn mc, .slice eA 3 ek, .int .i64 rst] := by rw [← hW15]; exact str_setRow HOB.out
                  rw [hW15]
                  clear hW15
                  have hev := HEV.out.box HOB.out (by decide) (by decide) hfb
                  have hbx := HBX.out.trans (below_of_but hfb hbw9 HBX.out.size)
                  refine wpList_nil (behindR (hfb.str HSX.out hbo) (walkR_done ?_))
                  clear HRUN HPL HCL HPB HL HLI HD HV HS HB
                  go_wp2_with fail
                  go_meet
                  exact ⟨ob, mA, mn, mc, eA, ek, rfl, hfs, hev, hbx⟩
              case rest =>
                obtain ⟨ob, mA, mn, mc, eA, ek, rfl, hob, hev, hbx⟩ := hcut
                have hcx := HCX.out
                subst hcx
                obtain ⟨_, hek1, hek2, hrd⟩ := EventsAt.reads hev
                obtain ⟨eg, rfl, hall⟩ := hrd (by simp)
                unfold maxLen at hek2
                obtain ⟨e00, A0, m0, c0, e01, hw0⟩ := hall 0 (by simp)
                obtain ⟨e10, A1, n1, c1, e11, hw1⟩ := hall 1 (by simp)
                obtain ⟨e20, A2, n2, c2, e21, hw2⟩ := hall 2 (by simp)
                simp only [List.getElem_cons_zero, List.getElem_cons_succ, Nat.zero_mul, Nat.zero_add, Nat.one_mul] at e00 e01 hw0 e10 e11 hw1 e20 e21 hw2
                have e11 : wc.cell? ⟨eg, 3, none⟩ = some (.slice A1 n1 c1) := e11
                have e21 : wc.cell? ⟨eg, 5, none⟩ = some (.slice A2 n2 c2) := e21
                have HW0 := Lib.hid hw0
                have HW1 := Lib.hid hw1
                have HW2 := Lib.hid hw2
                have HOB := Lib.hid hob
                have HVX := Lib.hid (HV.out.below hbx)
                have HBX := Lib.hid (HBW.out.trans (hbx.mono HBW.out.size))
                have HAX := Lib.hid (HA.out.below HBX.out)
                have o0 := hob.cell 0
                have o1 := hob.cell 1
                have o3 := hob.cell 3
                simp only [List.getElem?_cons_zero, List.getElem?_cons_succ] at o0 o1 o3
                clear hob hev hbx hrd hall hw0 hw1 hw2 e10 e20 HRUN HPL HCL HL HLI HD HV HS HB HSX
                have HV0 := Lib.hid (WordsAt.take (str_words HVX.out HWL.out (by omega)) n (by omega))
                go_upto_region 23 with (fail)
                go_quiet ((go_at_call 24; exact Calls.quiet_of (words_same _ _ _ (ws.take n) (HW0.out.below (below_drewQ (Below.refl _ _) _)) (HV0.out.below (below_drewQ (Below.refl _ _) _)))))
                obtain ⟨W20, hW20⟩ : ∃ V, wc.drewN nq = V := ⟨_, rfl⟩
                have hb20 : Below wc.heap.size wc W20 := by rw [← hW20]; exact below_drewQ (Below.refl _ _) _
                have HW1 := Lib.hid (HW1.out.below hb20)
                have HW2 := Lib.hid (HW2.out.below hb20)
                have HVX := Lib.hid (HVX.out.below hb20)
                have HAX := Lib.hid (HAX.out.below hb20)
                have HBX := Lib.hid (HBX.out.trans (hb20.mono HBX.out.size))
                have o1 := cell_keep hb20 (Nat.le_refl _) o1
                have o3 := cell_keep hb20 (Nat.le_refl _) o3
                have e00 := cell_keep hb20 (Nat.le_refl _) e00
                have e11 := cell_keep hb20 (Nat.le_refl _) e11
                have e21 := cell_keep hb20 (Nat.le_refl _) e21
                clear hb20 o0 e01
                go_upto_region 26 with (fail)
                rw [hW20]
                clear hW20
                go_upto_if 121 with (fail)
                go_cut [16] (fun s1 wx => s1 = .int .i32 rf ∧ wx = W20)
                case first =>
                  by_cases h0 : 0 < al.length
                  · obtain ⟨A', c', e, _, _, hall⟩ := HAX.out
                    injection e with e1 _ e3
                    subst e1 e3
                    obtain ⟨ad, rfl, hai⟩ := hall 0 h0
                    have hai : W20.cell? (ad.add 0) = some (.int .i32 rf) := by
                      have h9 : al[0] = rf := by rw [← HRF.out, List.getD_eq_getElem?_getD, List.getElem?_eq_getElem h0]; rfl
                      rw [h9] at hai
                      exact hai
                    have hai0 := hai
                    simp [Addr.add] at hai0
                    have hd9 : decide (0 < al.length) = true := decide_eq_true (by omega)
                    have hd8 : decide ((0 : Int) < (al.length : Int)) = true := decide_eq_true (by omega)
                    first | rw [hd9] | rw [hd8]
                    clear hall
                    go_wp2_with fail
                    go_meet
                    exact ⟨rfl, rfl⟩
                  · have h9 : rf = 0 := by rw [← HRF.out, List.getD_eq_getElem?_getD, List.getElem?_eq_none (by omega)]; rfl
                    have hd9 : decide (0 < al.length) = false := decide_eq_false (by omega)
                    have hd8 : decide ((0 : Int) < (al.length : Int)) = false := decide_eq_false (by omega)
                    first | rw [hd9] | rw [hd8]
                    go_wp2_with fail
                    go_meet
                    exact ⟨by rw [h9], rfl⟩
                case rest =>
                obtain ⟨rfl, hwx⟩ := hcut
                rw [hwx]
                clear hwx
                go_upto_region 29 with (fail)
                go_upto_if 127 with (fail)
                go_cut [17] (fun s1 wx => s1 = .int .i32 rv ∧ wx = W20)
                case first =>
                  by_cases h0 : 2 < al.length
                  · obtain ⟨A', c', e, _, _, hall⟩ := HAX.out
                    injection e with e1 _ e3
                    subst e1 e3
                    obtain ⟨ad, rfl, hai⟩ := hall 2 h0
                    have hai : W20.cell? (ad.add 2) = some (.int .i32 rv) := by
                      have h9 : al[2] = rv := by rw [← HRV.out, List.getD_eq_getElem?_getD, List.getElem?_eq_getElem h0]; rfl
                      rw [h9] at hai
                      exact hai
                    have hai0 := hai
                    simp [Addr.add] at hai0
                    have hd9 : decide (2 < al.length) = true := decide_eq_true (by omega)
                    have hd8 : decide ((2 : Int) < (al.length : Int)) = true := decide_eq_true (by omega)
                    first | rw [hd9] | rw [hd8]
                    clear hall
                    go_wp2_with fail
                    go_meet
                    exact ⟨rfl, rfl⟩
                  · have h9 : rv = 0 := by rw [← HRV.out, List.getD_eq_getElem?_getD, List.getElem?_eq_none (by omega)]; rfl
                    have hd9 : decide (2 < al.length) = false := decide_eq_false (by omega)
                    have hd8 : decide ((2 : Int) < (al.length : Int)) = false := decide_eq_false (by omega)
                    first | rw [hd9] | rw [hd8]
                    go_wp2_with fail
                    go_meet
                    exact ⟨by rw [h9], rfl⟩
                case rest =>
                obtain ⟨rfl, hwx⟩ := hcut
                rw [hwx]
                clear hwx
                go_upto_region 31 with (fail)
                refine region_heldC_wp (fun w' => w'.cell? ⟨ob, 1, none⟩ = some (.int .i32 rv) ∧ w'.cell? ⟨ob, 3, none⟩ = some (.slice (some ⟨eg, 0, none⟩) 3 ek) ∧ w'.cell? ⟨eg, 0, none⟩ = some (.int .i32 9) ∧ w'.cell? ⟨eg, 3, none⟩ = some (.slice A1 n1 c1) ∧ w'.cell? ⟨eg, 5, none⟩ = some (.slice A2 n2 c2)) [0, 1, 2, 3, 4, 5, 6, 7, 8, 9, 10, 11, 12, 13, 14, 15, 18, 19, 20, 21, 22, 23, 24, 25, 26, 28, 29, 30, 31, 32, 33, 34, 35] [0, 1, 2, 3, 4, 5, 6, 7, 8, 9, 10, 11, 12, 13, 14, 15, 16, 17, 18, 19, 20, 21, 22, 23, 24, 25, 26, 27, 28, 29, 30, 31, 32, 33, 34, 35] (by kernel_rfl) (by kernel_rfl) (by kernel_rfl) rfl (by intro c a d v w h; cases d <;> exact h) ⟨o1, o3, e00, e11, e21⟩ ?_
                refine walkC_still _ ?z0 rfl rfl (by kernel_rfl) ?zy0 ?_
                case zy0 => intro w hS; obtain ⟨o1, o3, e00, e11, e21⟩ := hS; go_simp; first | done | with_reducible rfl
                simp only [Act.put]
                try simp only [List.setIfInBounds_toArray, List.set_cons_zero, List.set_cons_succ]
                refine walkC_still _ ?z1 rfl rfl (by kernel_rfl) ?zy1 ?_
                case zy1 => intro w hS; obtain ⟨o1, o3, e00, e11, e21⟩ := hS; go_simp; first | done | with_reducible rfl
                simp only [Act.put]
                try simp only [List.setIfInBounds_toArray, List.set_cons_zero, List.set_cons_succ]
                refine walkC_still _ ?z2 rfl rfl (by kernel_rfl) ?zy2 ?_
                case zy2 => intro w hS; obtain ⟨o1, o3, e00, e11, e21⟩ := hS; go_simp; first | done | with_reducible rfl
                simp only [Act.put]
                try simp only [List.setIfInBounds_toArray, List.set_cons_zero, List.set_cons_succ]
                refine walkC_still _ ?z3 rfl rfl (by kernel_rfl) ?zy3 ?_
                case zy3 => intro w hS; obtain ⟨o1, o3, e00, e11, e21⟩ := hS; go_simp; first | done | with_reducible rfl
                simp only [Act.put]
                try simp only [List.setIfInBounds_toArray, List.set_cons_zero, List.set_cons_succ]
                refine walkC_still _ ?z4 rfl rfl (by kernel_rfl) ?zy4 ?_
                case zy4 => intro w hS; obtain ⟨o1, o3, e00, e11, e21⟩ := hS; go_simp; first | done | with_reducible rfl
                simp only [Act.put]
                try simp only [List.setIfInBounds_toArray, List.set_cons_zero, List.set_cons_succ]
                refine walkC_still _ ?z5 rfl rfl (by kernel_rfl) ?zy5 ?_
                case zy5 => intro w hS; obtain ⟨o1, o3, e00, e11, e21⟩ := hS; go_simp; first | done | with_reducible rfl
                simp only [Act.put]
                try simp only [List.setIfInBounds_toArray, List.set_cons_zero, List.set_cons_succ]
                refine walkC_still _ ?z6 rfl rfl (by kernel_rfl) ?zy6 ?_
                case zy6 => intro w hS; obtain ⟨o1, o3, e00, e11, e21⟩ := hS; go_simp; first | done | with_reducible rfl
                simp only [Act.put]
                try simp only [List.setIfInBounds_toArray, List.set_cons_zero, List.set_cons_succ]
                refine walkC_still _ ?z7 rfl rfl (by kernel_rfl) ?zy7 ?_
                case zy7 => intro w hS; obtain ⟨o1, o3, e00, e11, e21⟩ := hS; go_simp; first | done | with_reducible rfl
                simp only [Act.put]
                try simp only [List.setIfInBounds_toArray, List.set_cons_zero, List.set_cons_succ]
                refine walkC_still _ ?z8 rfl rfl (by kernel_rfl) ?zy8 ?_
                case zy8 => intro w hS; obtain ⟨o1, o3, e00, e11, e21⟩ := hS; go_simp; first | done | with_reducible rfl
                simp only [Act.put]
                try simp only [List.setIfInBounds_toArray, List.set_cons_zero, List.set_cons_succ]
                refine walkC_still _ ?z9 rfl rfl (by kernel_rfl) ?zy9 ?_
                case zy9 => intro w hS; obtain ⟨o1, o3, e00, e11, e21⟩ := hS; go_simp; first | done | with_reducible rfl
                simp only [Act.put]
                try simp only [List.setIfInBounds_toArray, List.set_cons_zero, List.set_cons_succ]
                refine walkC_still _ ?z10 rfl rfl (by kernel_rfl) ?zy10 ?_
                case zy10 => intro w hS; obtain ⟨o1, o3, e00, e11, e21⟩ := hS; go_simp; first | done | with_reducible rfl
                simp only [Act.put]
                try simp only [List.setIfInBounds_toArray, List.set_cons_zero, List.set_cons_succ]
                refine walkC_still _ ?z11 rfl rfl (by kernel_rfl) ?zy11 ?_
                case zy11 => intro w hS; obtain ⟨o1, o3, e00, e11, e21⟩ := hS; go_simp; first | done | with_reducible rfl
                simp only [Act.put]
                try simp only [List.setIfInBounds_toArray, List.set_cons_zero, List.set_cons_succ]
                refine walkC_still _ ?z12 rfl rfl (by kernel_rfl) ?zy12 ?_
                case zy12 => intro w hS; obtain ⟨o1, o3, e00, e11, e21⟩ := hS; go_simp; first | done | with_reducible rfl
                simp only [Act.put]
                try simp only [List.setIfInBounds_toArray, List.set_cons_zero, List.set_cons_succ]
                refine walkC_still _ ?z13 rfl rfl (by kernel_rfl) ?zy13 ?_
                case zy13 => intro w hS; obtain ⟨o1, o3, e00, e11, e21⟩ := hS; go_simp; first | done | with_reducible rfl
                simp only [Act.put]
                try simp only [List.setIfInBounds_toArray, List.set_cons_zero, List.set_cons_succ]
                refine walkC_still _ ?z14 rfl rfl (by kernel_rfl) ?zy14 ?_
                case zy14 => intro w hS; obtain ⟨o1, o3, e00, e11, e21⟩ := hS; go_simp; first | done | with_reducible rfl
                simp only [Act.put]
                try simp only [List.setIfInBounds_toArray, List.set_cons_zero, List.set_cons_succ]
                refine walkC_still _ ?z15 rfl rfl (by kernel_rfl) ?zy15 ?_
                case zy15 => intro w hS; obtain ⟨o1, o3, e00, e11, e21⟩ := hS; go_simp; first | done | with_reducible rfl
                simp only [Act.put]
                try simp only [List.setIfInBounds_toArray, List.set_cons_zero, List.set_cons_succ]
                refine walkC_does _ rfl rfl ?_
                go_wp2
                obtain ⟨W21, hW21⟩ : ∃ V, (W20.alloc (.cells #[.int .i32 rf, .int .i32 24302, .int .i32 24303, .int .i32 24304] 21)).drew = V := ⟨_, rfl⟩
                have hb21 : Below W20.heap.size W20 W21 := by rw [← hW21]; exact ((Below.refl _ _).alloc (Nat.le_refl _) _).drew
                have hs21 : Str W21 W20.heap.size 21 ([rf, 24302, 24303, 24304].map (Value.int .i32)) := by rw [← hW21]; exact World.alloc_heap_new W20 _
                rw [hW21]
                clear hW21
                have HLW := Lib.hid (str_words hs21 (n := 4) rfl (by omega))
                have HW1 := Lib.hid (HW1.out.below hb21)
                have HW2 := Lib.hid (HW2.out.below hb21)
                have HVX := Lib.hid (HVX.out.below hb21)
                have HBX := Lib.hid (HBX.out.trans (hb21.mono HBX.out.size))
                have o1 := cell_keep hb21 (Nat.le_refl _) o1
                have o3 := cell_keep hb21 (Nat.le_refl _) o3
                have e00 := cell_keep hb21 (Nat.le_refl _) e00
                have e11 := cell_keep hb21 (Nat.le_refl _) e11
                have e21 := cell_keep hb21 (Nat.le_refl _) e21
                clear hb21 hs21
                refine behindC ⟨o1, o3, e00, e11, e21⟩ ?_
                try simp only [List.setIfInBounds_toArray, List.set_cons_zero, List.set_cons_succ]
                refine walkC_does _ rfl rfl ?_
                go_wp2_with fail
                refine (words_same W21 _ _ [rf, 24302, 24303, 24304] HW1.out HLW.out).mono ?_
                rintro e w22 ⟨rfl, m22, hw22⟩
                have hb22 : Below W21.heap.size W21 w22 := by rw [hw22]; exact below_drewQ (Below.refl _ _) _
                have HW2 := Lib.hid (HW2.out.below hb22)
                have HVX := Lib.hid (HVX.out.below hb22)
                have HBX := Lib.hid (HBX.out.trans (hb22.mono HBX.out.size))
                have o1 := cell_keep hb22 (Nat.le_refl _) o1
                have o3 := cell_keep hb22 (Nat.le_refl _) o3
                have e00 := cell_keep hb22 (Nat.le_refl _) e00
                have e11 := cell_keep hb22 (Nat.le_refl _) e11
                have e21 := cell_keep hb22 (Nat.le_refl _) e21
                clear hb22 hw22
                go_wp2_with fail
                refine behindC ⟨o1, o3, e00, e11, e21⟩ ?_
                try simp only [List.setIfInBounds_toArray, List.set_cons_zero, List.set_cons_succ]
                refine walkC_still _ ?z18 rfl rfl (by kernel_rfl) ?zy18 ?_
                case zy18 => intro w hS; obtain ⟨o1, o3, e00, e11, e21⟩ := hS; go_simp; first | done | with_reducible rfl
                simp only [Act.put]
                try simp only [List.setIfInBounds_toArray, List.set_cons_zero, List.set_cons_succ]
                refine walkC_still _ ?z19 rfl rfl (by kernel_rfl) ?zy19 ?_
                case zy19 => intro w hS; obtain ⟨o1, o3, e00, e11, e21⟩ := hS; go_simp; first | done | with_reducible rfl
                simp only [Act.put]
                try simp only [List.setIfInBounds_toArray, List.set_cons_zero, List.set_cons_succ]
                refine walkC_still _ ?z20 rfl rfl (by kernel_rfl) ?zy20 ?_
                case zy20 => intro w hS; obtain ⟨o1, o3, e00, e11, e21⟩ := hS; go_simp; first | done | with_reducible rfl
                simp only [Act.put]
                try simp only [List.setIfInBounds_toArray, List.set_cons_zero, List.set_cons_succ]
                refine walkC_still _ ?z21 rfl rfl (by kernel_rfl) ?zy21 ?_
                case zy21 => intro w hS; obtain ⟨o1, o3, e00, e11, e21⟩ := hS; go_simp; first | done | with_reducible rfl
                simp only [Act.put]
                try simp only [List.setIfInBounds_toArray, List.set_cons_zero, List.set_cons_succ]
                refine walkC_still _ ?z22 rfl rfl (by kernel_rfl) ?zy22 ?_
                case zy22 => intro w hS; obtain ⟨o1, o3, e00, e11, e21⟩ := hS; go_simp; first | done | with_reducible rfl
                simp only [Act.put]
                try simp only [List.setIfInBounds_toArray, List.set_cons_zero, List.set_cons_succ]
                refine walkC_still _ ?z23 rfl rfl (by kernel_rfl) ?zy23 ?_
                case zy23 => intro w hS; obtain ⟨o1, o3, e00, e11, e21⟩ := hS; go_simp; first | done | with_reducible rfl
                simp only [Act.put]
                try simp only [List.setIfInBounds_toArray, List.set_cons_zero, List.set_cons_succ]
                refine walkC_still _ ?z24 rfl rfl (by kernel_rfl) ?zy24 ?_
                case zy24 => intro w hS; obtain ⟨o1, o3, e00, e11, e21⟩ := hS; go_simp; first | done | with_reducible rfl
                simp only [Act.put]
                try simp only [List.setIfInBounds_toArray, List.set_cons_zero, List.set_cons_succ]
                refine walkC_still _ ?z25 rfl rfl (by kernel_rfl) ?zy25 ?_
                case zy25 => intro w hS; obtain ⟨o1, o3, e00, e11, e21⟩ := hS; go_simp; first | done | with_reducible rfl
                simp only [Act.put]
                try simp only [List.setIfInBounds_toArray, List.set_cons_zero, List.set_cons_succ]
                refine walkC_still _ ?z26 rfl rfl (by kernel_rfl) ?zy26 ?_
                case zy26 => intro w hS; obtain ⟨o1, o3, e00, e11, e21⟩ := hS; go_simp; first | done | with_reducible rfl
                simp only [Act.put]
                try simp only [List.setIfInBounds_toArray, List.set_cons_zero, List.set_cons_succ]
                refine walkC_does _ rfl rfl ?_
                go_wp2_with fail
                refine (words_same w22 _ _ (ws.drop 12) HW2.out (str_drop HVX.out HWL.out)).mono ?_
                rintro e w23 ⟨rfl, m23, hw23⟩
                have hb23 : Below w22.heap.size w22 w23 := by rw [hw23]; exact below_drewQ (Below.refl _ _) _
                have HBX := Lib.hid (HBX.out.trans (hb23.mono HBX.out.size))
                have o1 := cell_keep hb23 (Nat.le_refl _) o1
                have o3 := cell_keep hb23 (Nat.le_refl _) o3
                have e00 := cell_keep hb23 (Nat.le_refl _) e00
                have e11 := cell_keep hb23 (Nat.le_refl _) e11
                have e21 := cell_keep hb23 (Nat.le_refl _) e21
                clear hb23 hw23
                go_wp2_with fail
                refine behindC ⟨o1, o3, e00, e11, e21⟩ ?_
                try simp only [List.setIfInBounds_toArray, List.set_cons_zero, List.set_cons_succ]
                refine walkC_still _ ?z28 rfl rfl (by kernel_rfl) ?zy28 ?_
                case zy28 => intro w hS; obtain ⟨o1, o3, e00, e11, e21⟩ := hS; go_simp; first | done | with_reducible rfl
                simp only [Act.put]
                try simp only [List.setIfInBounds_toArray, List.set_cons_zero, List.set_cons_succ]
                refine walkC_still _ ?z29 rfl rfl (by kernel_rfl) ?zy29 ?_
                case zy29 => intro w hS; obtain ⟨o1, o3, e00, e11, e21⟩ := hS; go_simp; first | done | with_reducible rfl
                simp only [Act.put]
                try simp only [List.setIfInBounds_toArray, List.set_cons_zero, List.set_cons_succ]
                refine walkC_still _ ?z30 rfl rfl (by kernel_rfl) ?zy30 ?_
                case zy30 => intro w hS; obtain ⟨o1, o3, e00, e11, e21⟩ := hS; go_simp; first | done | with_reducible rfl
                simp only [Act.put]
                try simp only [List.setIfInBounds_toArray, List.set_cons_zero, List.set_cons_succ]
                refine walkC_still _ ?z31 rfl rfl (by kernel_rfl) ?zy31 ?_
                case zy31 => intro w hS; obtain ⟨o1, o3, e00, e11, e21⟩ := hS; go_simp; first | done | with_reducible rfl
                simp only [Act.put]
                try simp only [List.setIfInBounds_toArray, List.set_cons_zero, List.set_cons_succ]
                refine walkC_still _ ?z32 rfl rfl (by kernel_rfl) ?zy32 ?_
                case zy32 => intro w hS; obtain ⟨o1, o3, e00, e11, e21⟩ := hS; go_simp; first | done | with_reducible rfl
                simp only [Act.put]
                try simp only [List.setIfInBounds_toArray, List.set_cons_zero, List.set_cons_succ]
                refine walkC_still _ ?z33 rfl rfl (by kernel_rfl) ?zy33 ?_
                case zy33 => intro w hS; obtain ⟨o1, o3, e00, e11, e21⟩ := hS; go_simp; first | done | with_reducible rfl
                simp only [Act.put]
                try simp only [List.setIfInBounds_toArray, List.set_cons_zero, List.set_cons_succ]
                refine walkC_still _ ?z34 rfl rfl (by kernel_rfl) ?zy34 ?_
                case zy34 => intro w hS; obtain ⟨o1, o3, e00, e11, e21⟩ := hS; go_simp; first | done | with_reducible rfl
                simp only [Act.put]
                try simp only [List.setIfInBounds_toArray, List.set_cons_zero, List.set_cons_succ]
                refine walkC_still _ ?z35 rfl rfl (by kernel_rfl) ?zy35 ?_
                case zy35 => intro w hS; obtain ⟨o1, o3, e00, e11, e21⟩ := hS; go_simp; first | done | with_reducible rfl
                simp only [Act.put]
                try simp only [List.setIfInBounds_toArray, List.set_cons_zero, List.set_cons_succ]
                refine walkC_nil ?_
                go_wp2_with fail
                go_ret
                exact ⟨rfl, HBX.out⟩
end Go.Proofs.Ytdidacjmcafcpaa.Ph
