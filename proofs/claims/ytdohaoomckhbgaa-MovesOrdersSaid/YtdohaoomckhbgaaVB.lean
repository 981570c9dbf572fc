/- Moves: what is wrong first with them. -/
import Derived.Test.YtdohaoomckhbgaaVY
namespace Go.Proofs.Ytdohaoomckhbgaa.Vm
open Go.ChangeShapes Go.WideShapes Go.ChangeAt Go.RowKit Go.Maps Go.WideElems Go.ChangeMaps Go.Sort Go.Shelf Go.Proofs.Ytdohaoomckhbgaa.Mem Go.Proofs.Ytdohaoomckhbgaa.Br Go.Proofs.Ytdohaoomckhbgaa.Va Go.Proofs.Ytdohaoomckhbgaa.Vr
set_option linter.unusedVariables false
set_option linter.unusedSimpArgs false
attribute [local go_sem] Oper.semAt_some
theorem any_stepP {l : List (Int × Int)} {q : Int × Int → Bool} {k : Nat} (hk : k < l.length) (h : (l.take k).any q = false) : (l.take (k + 1)).any q = q l[k] := by
  rw [List.take_succ_eq_append_getElem hk, List.any_append, h]; simp
theorem any_yesP {l : List (Int × Int)} {q : Int × Int → Bool} {k : Nat} (hk : k < l.length) (h : q l[k] = true) : l.any q = true := by
  rw [List.any_eq_true]
  exact ⟨l[k], List.getElem_mem hk, h⟩
theorem ret_boolV {a b : Bool} (h : a = b) : Ending.returned (.bool a) = .returned (.bool b) := by rw [h]
def plB (p : Int) : Bool := decide (0 ≤ p) && decide (p < 16400)
def badPl (m : Mov) : Bool := !plB m.1 || !plB m.2
def hasPl (p : Int) (m : Mov) : Bool := m.1 == p || m.2 == p
def namedB (l : List Mov) (p : Int) : Bool := l.any (hasPl p)
def twiceN (l : List Mov) : Bool := decide ((keptN l).length < l.length)
def faultN (l : List Mov) (sc sp : Int) : Int :=
  if l.any badPl = true then 41 else if twiceN l = true then 12 else if (decide (16 ≤ sc) || (decide (0 ≤ sc) && namedB l sc)) = true then 31
  else if (decide (16383 ≤ sp) || (decide (0 ≤ sp) && (namedB l (16 + sp) || namedB l (16 + sp + 1)))) = true then 43 else 0
set_option maxRecDepth 100000 in
set_option maxHeartbeats 1000000 in
theorem indexIn_any (w : World) (v : Value) (l : List (Int × Int)) (hv : MovesAt w v l) (F : Nat) (lb : Array Value) (q : Int × Int → Bool) (hF : ∀ (a : Array Value) (w : World), (callFunc F a).run Try.prog w = .ok (.enter F a) w) (hq : ∀ (y : Int × Int) (W : World), Below w.heap.size w W → Calls Try.prog F (#[.agg #[.int .i64 y.1, .int .i64 y.2]] ++ lb) W fun en w' => en = .returned (.bool (q y)) ∧ Below W.heap.size W w') :
    Calls Try.prog 76 #[v, .func (.func F) #[] lb] w fun en w' => ∃ r : Int, en = .returned (.int .i64 r) ∧ (0 ≤ r ↔ l.any q = true) ∧ Below w.heap.size w w' := by
  have HV := Lib.hid hv
  obtain ⟨A, c, b, o, rfl, h1, h2, h3, h4⟩ := hv
  have HQ := Lib.hid hq
  unfold maxLen at h2
  obtain ⟨n, hn⟩ : ∃ n, l.length = n := ⟨_, rfl⟩
  have HN := Lib.hid hn
  rw [hn] at h1 h3
  rw [hn]
  clear h4 hn hq
  go_enter Try.func76, Try.ntmps76
  go_wp2_with fail
  go_loopw [5, 8] (fun _ j wr => ∃ k : Nat, k ≤ n ∧ j = .int .i64 k ∧ (l.take k).any q = false ∧ Below w.heap.size w wr) (fun _ j _ => n - (intOf j).toNat)
  case atStart => exact ⟨0, Nat.zero_le _, rfl, by rw [List.take_zero]; rfl, Below.refl _ _⟩
  case round =>
    obtain ⟨k, hk, rfl, hall, hb⟩ := hrel
    have HA := Lib.hid hall
    have HB := Lib.hid hb
    clear hall hb
    by_cases hlt : k < n
    · have hkl : k < l.length := by rw [HN.out]; exact hlt
      obtain ⟨A', c', b', o', e, g1, g2, g3, g4⟩ := HV.out.kept (w' := wr) (fun b o x (hx : MvAt w b o x) => show MvAt wr b o x from ⟨cell_keep HB.out (Nat.le_refl _) hx.1, cell_keep HB.out (Nat.le_refl _) hx.2⟩)
      injection e with e1 e2 e3
      have ea := g3 (by omega)
      rw [← e1] at ea
      subst ea
      have hc := g4 k hkl
      have HX := Lib.hid (any_stepP hkl HA.out)
      have HY := Lib.hid (fun h => any_yesP (q := q) hkl h)
      generalize l[k] = y at *
      obtain ⟨y1, y2⟩ := y
      obtain ⟨c0, c1⟩ := hc
      simp only at c0 c1
      clear hkl g1 g2 g3 g4 e1 e2 e3 h3
      go_wp2_with fail
      refine (HQ.out (y1, y2) wr HB.out).mono ?_
      rintro e' w3 ⟨rfl, hb3⟩
      have HB3 := Lib.hid (HB.out.trans (hb3.mono HB.out.size))
      clear hb3
      cases hx : q (y1, y2) with
      | false =>
        have HXX := Lib.hid hx
        clear hx c0 c1
        go_wp2_with fail
        exact ⟨⟨k + 1, by omega, by go_num, by rw [HX.out]; exact HXX.out, HB3.out⟩, by simp [intOf]; omega⟩
      | true =>
        have HXX := Lib.hid hx
        clear hx c0 c1
        go_wp2_with fail
        go_ret
        exact ⟨_, rfl, ⟨fun _ => HY.out HXX.out, fun _ => by omega⟩, HB3.out⟩
    · obtain rfl : k = n := by omega
      have HZ := Lib.hid (show l.any q = false by have := HA.out; rw [← HN.out, List.take_length] at this; exact this)
      go_wp2_with fail
      go_ret
      exact ⟨_, rfl, ⟨fun h => absurd h (by omega), fun h => by rw [HZ.out] at h; cases h⟩, HB.out⟩
set_option maxRecDepth 100000 in
theorem containsIn_any (w : World) (v : Value) (l : List (Int × Int)) (hv : MovesAt w v l) (F : Nat) (lb : Array Value) (q : Int × Int → Bool) (hF : ∀ (a : Array Value) (w : World), (callFunc F a).run Try.prog w = .ok (.enter F a) w) (hq : ∀ (y : Int × Int) (W : World), Below w.heap.size w W → Calls Try.prog F (#[.agg #[.int .i64 y.1, .int .i64 y.2]] ++ lb) W fun en w' => en = .returned (.bool (q y)) ∧ Below W.heap.size W w') :
    Calls Try.prog 58 #[v, .func (.func F) #[] lb] w fun en w' => en = .returned (.bool (l.any q)) ∧ Below w.heap.size w w' := by
  have H := Lib.hid (indexIn_any w v l hv F lb q hF hq)
  obtain ⟨A, c, _, _, rfl, _, _, _, _⟩ := hv
  clear hq hF
  go_enter Try.func58, Try.ntmps58
  go_wp2_with fail
  refine H.out.mono ?_
  rintro e' w' ⟨r, rfl, hr, hb'⟩
  have HB := Lib.hid hb'
  clear hb'
  cases hb : l.any q with
  | true =>
    have h0 : 0 ≤ r := hr.2 hb
    clear hr
    go_wp2_with fail
    go_ret
    exact ⟨ret_boolV hb.symm, HB.out⟩
  | false =>
    have h0 : r < 0 := by
      rcases Int.lt_or_le r 0 with h | h
      · exact h
      · rw [hr.1 h] at hb; cases hb
    clear hr
    go_wp2_with fail
    go_ret
    exact ⟨ret_boolV (by rw [hb]; exact decide_eq_false (by omega)), HB.out⟩
set_option maxRecDepth 100000 in
theorem isPlace_any (w : World) (p : Int) : Calls Try.prog 61 #[.int .i64 p] w fun e w' => e = .returned (.bool (plB p)) ∧ w' = w := by
  have HQ := Lib.hid (show plB p = (decide (0 ≤ p) && decide (p < 16400)) from rfl)
  by_cases h0 : 0 ≤ p
  · by_cases h1 : p < 16400
    · go_enter Try.func61, Try.ntmps61
      go_wp2
      go_ret
      rw [HQ.out]; exact ⟨by simp [h0, h1], rfl⟩
    · go_enter Try.func61, Try.ntmps61
      go_wp2
      go_ret
      rw [HQ.out]; exact ⟨by simp [h0, h1], rfl⟩
  · go_enter Try.func61, Try.ntmps61
    go_wp2
    go_ret
    rw [HQ.out]; exact ⟨by rw [decide_eq_false (show ¬ 0 ≤ p by omega)]; rfl, rfl⟩
set_option maxRecDepth 100000 in
set_option maxHeartbeats 1000000 in
theorem bad_any (w : World) (y : Mov) : Calls Try.prog 60 #[.agg #[.int .i64 y.1, .int .i64 y.2]] w fun e w' => e = .returned (.bool (badPl y)) ∧ Below w.heap.size w w' := by
  obtain ⟨a, b⟩ := y
  have HQ := Lib.hid (show badPl (a, b) = (!plB a || !plB b) from rfl)
  obtain ⟨W1, hW1⟩ : ∃ W1, w.alloc (.cells #[.int .i64 a, .int .i64 b] 43) = W1 := ⟨_, rfl⟩
  have hb1 : Below w.heap.size w W1 := by rw [← hW1]; exact (Below.refl _ _).alloc (Nat.le_refl _) _
  have hs1 : Str W1 w.heap.size 43 [.int .i64 a, .int .i64 b] := by rw [← hW1]; exact World.alloc_heap_new w _
  have m0 : W1.cell? ⟨w.heap.size, 0, none⟩ = some (.int .i64 a) := hs1.cell 0
  have m1 : W1.cell? ⟨w.heap.size, 1, none⟩ = some (.int .i64 b) := hs1.cell 1
  have HB := Lib.hid hb1
  clear hb1 hs1
  dsimp only
  go_enter Try.func60, Try.ntmps60
  go_wp2_with fail
  refine (isPlace_any W1 a).mono ?_
  rintro e w' ⟨rfl, hw'⟩
  obtain rfl : W1 = w' := hw'.symm
  generalize plB a = p at *
  cases p
  · go_wp2
    go_ret
    rw [HQ.out]; exact ⟨rfl, HB.out⟩
  · go_wp2_with fail
    refine (isPlace_any W1 b).mono ?_
    rintro e w' ⟨rfl, hw'⟩
    obtain rfl : W1 = w' := hw'.symm
    generalize plB b = q at *
    cases q
    all_goals
      go_wp2
      go_ret
      rw [HQ.out]; exact ⟨rfl, HB.out⟩
set_option maxRecDepth 100000 in
set_option maxHeartbeats 1000000 in
theorem hasPl_any (w : World) (y : Mov) (bp : Nat) (p : Int) (h : w.cell? ⟨bp, 0, none⟩ = some (.int .i64 p)) : Calls Try.prog 59 #[.agg #[.int .i64 y.1, .int .i64 y.2], .pointer (some ⟨bp, 0, none⟩)] w fun e w' => e = .returned (.bool (hasPl p y)) ∧ Below w.heap.size w w' := by
  obtain ⟨a, b⟩ := y
  have HQ := Lib.hid (show hasPl p (a, b) = (a == p || b == p) from rfl)
  obtain ⟨W1, hW1⟩ : ∃ W1, w.alloc (.cells #[.int .i64 a, .int .i64 b] 43) = W1 := ⟨_, rfl⟩
  have hb1 : Below w.heap.size w W1 := by rw [← hW1]; exact (Below.refl _ _).alloc (Nat.le_refl _) _
  have hs1 : Str W1 w.heap.size 43 [.int .i64 a, .int .i64 b] := by rw [← hW1]; exact World.alloc_heap_new w _
  have m0 : W1.cell? ⟨w.heap.size, 0, none⟩ = some (.int .i64 a) := hs1.cell 0
  have m1 : W1.cell? ⟨w.heap.size, 1, none⟩ = some (.int .i64 b) := hs1.cell 1
  have k0 : W1.cell? ⟨bp, 0, none⟩ = some (.int .i64 p) := cell_keep hb1 (Nat.le_refl _) h
  have HB := Lib.hid hb1
  have hlt : bp < w.heap.size := lt_of_cell h
  clear hb1 hs1 h
  dsimp only
  cases ha : a == p <;> cases hbb : b == p
  all_goals
    rw [ha, hbb] at HQ
    go_enter Try.func59, Try.ntmps59
    go_wp2
    go_ret
    rw [HQ.out]; exact ⟨rfl, HB.out⟩
set_option maxRecDepth 100000 in
set_option maxHeartbeats 1000000 in
theorem named_any (w : World) (v : Value) (l : List Mov) (bl : Nat) (p : Int) (hs : Str w bl 22 [v]) (hv : MovesAt w v l) : Calls Try.prog 57 #[.int .i64 p, .pointer (some ⟨bl, 0, none⟩)] w fun e w' => e = .returned (.bool (namedB l p)) ∧ Below w.heap.size w w' := by
  obtain ⟨W1, hW1⟩ : ∃ W1, w.alloc (.cells #[.int .i64 p] 3) = W1 := ⟨_, rfl⟩
  have hb1 : Below w.heap.size w W1 := by rw [← hW1]; exact (Below.refl _ _).alloc (Nat.le_refl _) _
  have hs1 : Str W1 w.heap.size 3 [.int .i64 p] := by rw [← hW1]; exact World.alloc_heap_new w _
  have m0 : W1.cell? ⟨w.heap.size, 0, none⟩ = some (.int .i64 p) := hs1.cell 0
  have k0 : W1.cell? ⟨bl, 0, none⟩ = some v := (hs.below hb1).cell 0
  have HV := Lib.hid (hv.keep hb1)
  have HB := Lib.hid hb1
  have HM := Lib.hid m0
  obtain ⟨A, c, b0, o0, rfl, -⟩ := hv
  clear hs hb1 hs1
  go_enter Try.func57, Try.ntmps57
  go_wp2_with fail
  refine (containsIn_any W1 _ l HV.out 59 #[.pointer (some ⟨w.heap.size, 0, none⟩)] (hasPl p) (enters_of Try.func59 (by kernel_rfl) rfl) (fun y W hb => hasPl_any W y w.heap.size p (cell_keep hb (Nat.le_refl _) HM.out))).mono ?_
  rintro e w' ⟨rfl, hb⟩
  have HB2 := Lib.hid (HB.out.trans (hb.mono HB.out.size))
  clear hb
  have HQ := Lib.hid (show namedB l p = l.any (hasPl p) from rfl)
  generalize l.any (hasPl p) = q at *
  go_wp2
  go_ret
  rw [HQ.out]; exact ⟨rfl, HB2.out⟩
/-- A set of numbers: those of the Tos of L. -/
def encT (m : Mov) : Lit × DataW Unit := (.int .i64 m.1, .agg [])
def SetT (w : World) (b c : Nat) (L : List Mov) : Prop := ∃ es : List (Lit × DataW Unit), w.ownsMap Try.prog 3 unitElem b c (.map es) ∧ es.Perm (L.map encT)
theorem SetT.made (w : World) : SetT (w.alloc (.map #[] 0)) w.heap.size 0 [] := ⟨[], World.ownsMap_made _ _ _ _, List.Perm.nil⟩
theorem SetT.same {w w' : World} {b c : Nat} {L : List Mov} (h : SetT w b c L) (hs : w'.heap[b]? = w.heap[b]?) : SetT w' b c L := by obtain ⟨D, h1, h2⟩ := h; exact ⟨D, own_same h1 hs, h2⟩
theorem SetT.lt {w : World} {b c : Nat} {L : List Mov} (h : SetT w b c L) : b < w.heap.size := by obtain ⟨D, h1, _⟩ := h; exact h1.lt
set_option maxRecDepth 100000 in
theorem SetT.put {w : World} {b c : Nat} {L : List Mov} (h : SetT w b c L) (hc : c < 1000000000000000) {m : Mov} (hx : InI m.1) :
    ∃ w', (Instr.mapUpdate 100 (.map (some b)) (.int .i64 m.1) (.agg #[])).run Try.prog w = .ok () w' ∧ SetT w' b (c + 1) (putM L m) ∧ w.grownBy w' (some b) := by
  obtain ⟨es, g1, g2⟩ := h
  obtain ⟨w', hrun, r1, r2⟩ := g1.update keyedN Try.underlying100 (by unfold maxLen; omega) (keyIs hx) (val := .agg #[]) (d := .agg []) (ps := []) unitElem_mk
  refine ⟨w', hrun, ⟨_, r1, (insert_perm _ _).trans ?_⟩, r2⟩
  unfold putM
  rw [List.map_append]
  refine List.Perm.trans (List.Perm.cons _ ?_) (List.perm_append_comm (l₁ := [encT m]))
  refine (g2.filter _).trans ?_
  rw [List.filter_map]
  rw [List.filter_congr (q := fun a : Mov => !(a.1 == m.1)) (fun a _ => by
    show (!(encT a).1.sameKey (keyN m.1)) = _
    cases h : (a.1 == m.1) <;> simp_all [encT, keyN, Lit.sameKey])]
  exact List.Perm.refl _
theorem SetT.len {w : World} {b c : Nat} {L : List Mov} (h : SetT w b c L) (ty : TypeId) : (Builtin.len_ #[100] ty #[.map (some b)]).run Try.prog w = .ok (.int .i64 (L.length : Nat)) w := by
  obtain ⟨es, g1, g2⟩ := h
  rw [g1.len Try.underlying100 ty, size_eq, g2.length_eq, List.length_map]
def TwS (w : World) (g : Nat) (l : List Mov) (k : Nat) (wr : World) : Prop := SetT wr g k ((l.take k).foldl putM []) ∧ Below w.heap.size w wr
set_option maxRecDepth 100000 in
set_option maxHeartbeats 1000000 in
theorem twice_any (w : World) (v : Value) (l : List Mov) (hv : MovesAt w v l) (hl : l.length ≤ 1000000) (hr : Rng l) : Calls Try.prog 62 #[v] w fun e w' => e = .returned (.bool (twiceN l)) ∧ Below w.heap.size w w' := by
  have HV := Lib.hid hv
  have HR := Lib.hid hr
  obtain ⟨A, c, b0, o0, rfl, h1, h2, -⟩ := hv
  unfold maxLen at h2
  clear hr
  have hmm := @run_makeMap Try.prog
  obtain ⟨W0, hW0⟩ : ∃ W0, w.alloc (.map #[] 0) = W0 := ⟨_, rfl⟩
  have hb0 : Below w.heap.size w W0 := by rw [← hW0]; exact (Below.refl _ _).alloc (Nat.le_refl _) _
  have hs0 : SetT W0 w.heap.size 0 [] := by rw [← hW0]; exact SetT.made w
  have HS := Lib.hid (show TwS w w.heap.size l 0 W0 from ⟨hs0, hb0⟩)
  clear hb0 hs0
  go_enter Try.func62, Try.ntmps62
  go_wp2_with fail
  clear hW0
  go_loopw [5, 9] (fun _ i wr => ∃ k : Nat, k ≤ l.length ∧ i = .int .i64 k ∧ TwS w w.heap.size l k wr) (fun _ i _ => l.length - (Go.RowKit.intOf i).toNat)
  case atStart => exact ⟨0, Nat.zero_le _, rfl, HS.out⟩
  case round =>
    obtain ⟨k, hk, rfl, hS⟩ := hrel
    have HQ := Lib.hid hS
    clear hS HS
    by_cases hlt : k < l.length
    · obtain ⟨A', c', gb, ob, e, -, -, hA, hc⟩ := HV.out
      injection e with e1 e2 e3
      subst e1 e3
      obtain rfl : A = some ⟨gb, ob, none⟩ := hA (by omega)
      obtain ⟨hc0, hc1⟩ := MvAt.keep (w := w) (w' := wr) HQ.out.2 _ _ _ (hc k hlt)
      have HK := Lib.hid (foldl_take putM [] l k hlt)
      have HI := Lib.hid (HR.out _ (List.getElem_mem hlt))
      clear hc hA
      obtain ⟨W1, hW1⟩ : ∃ W1, wr.alloc (.cells #[.int .i64 l[k].1, .int .i64 l[k].2] 43) = W1 := ⟨_, rfl⟩
      have hbW1 : Below wr.heap.size wr W1 := by rw [← hW1]; exact (Below.refl _ _).alloc (Nat.le_refl _) _
      have hsW1 : Str W1 wr.heap.size 43 [.int .i64 l[k].1, .int .i64 l[k].2] := by rw [← hW1]; exact World.alloc_heap_new wr _
      have n0 : W1.cell? ⟨wr.heap.size, 0, none⟩ = some (.int .i64 l[k].1) := hsW1.cell 0
      have n1 : W1.cell? ⟨wr.heap.size, 1, none⟩ = some (.int .i64 l[k].2) := hsW1.cell 1
      obtain ⟨w2, r2, hf2, hg2⟩ := (HQ.out.1.same (w' := W1) (hbW1.block _ HQ.out.1.lt)).put (by omega) (m := l[k]) HI.out.1
      have HS' : Hid (TwS w w.heap.size l (k + 1) w2) := Lib.hid ⟨by rw [HK.out]; exact hf2, (HQ.out.2.trans (hbW1.mono HQ.out.2.size)).grown hg2 (by have := HQ.out.2.size; have := hbW1.size; omega) (fun j e => by cases e; exact Nat.le_refl _)⟩
      clear hf2 hg2 hsW1 hbW1
      generalize l[k].1 = t at *
      generalize l[k].2 = f at *
      go_wp2
      go_roundw
      case rel => exact ⟨k + 1, by omega, by go_num, HS'.out⟩
      case measure => simp [Go.RowKit.intOf]; omega
    · obtain rfl : k = l.length := by omega
      have hs := HQ.out.1
      rw [List.take_length] at hs
      have hlen := fun ty => hs.len ty
      have HE := Lib.hid (show twiceN l = decide (((l.foldl putM []).length : Int) < (l.length : Int)) by unfold twiceN keptN; simp)
      have hkl : (l.foldl putM []).length ≤ l.length := keptN_len l
      generalize (l.foldl putM []).length = q at *
      clear hs
      go_wp2
      go_ret
      rw [HE.out]
      exact ⟨by simp, HQ.out.2⟩
def FaultRes (l : List Mov) (sc sp : Int) (w : World) (e : Ending) (w' : World) : Prop := e = .returned (.int .i64 (faultN l sc sp)) ∧ Below w.heap.size w w'
theorem faultN_plus {sp : Int} (h : sp < 16383) (h0 : 0 ≤ sp) : IntKind.i64.wrap (16 + sp) = 16 + sp := IntWalk.i64_in _ (by omega)
set_option maxRecDepth 100000 in
set_option maxHeartbeats 4000000 in
theorem fault_any (w : World) (v : Value) (l : List Mov) (sc sp : Int) (hv : MovesAt w v l) (hl : l.length ≤ 1000000) (hr : Rng l) :
    Calls Try.prog 39 #[v, .int .i64 sc, .int .i64 sp] w fun e w' => e = .returned (.int .i64 (faultN l sc sp)) ∧ Below w.heap.size w w' := by
  have HV0 := Lib.hid hv
  have HR := Lib.hid hr
  obtain ⟨A, c, b0, o0, rfl, h1, h2, -⟩ := hv
  unfold maxLen at h2
  clear hr
  obtain ⟨W1, hW1⟩ : ∃ W1, w.alloc (.cells #[.slice A l.length c] 22) = W1 := ⟨_, rfl⟩
  have hb1 : Below w.heap.size w W1 := by rw [← hW1]; exact (Below.refl _ _).alloc (Nat.le_refl _) _
  have hs1 : Str W1 w.heap.size 22 [.slice A l.length c] := by rw [← hW1]; exact World.alloc_heap_new w _
  have k1 : W1.cell? ⟨w.heap.size, 0, none⟩ = some (.slice A l.length c) := hs1.cell 0
  have HV1 := Lib.hid (HV0.out.keep hb1)
  have HS1 := Lib.hid hs1
  have HB1 := Lib.hid hb1
  have HF := Lib.hid (show faultN l sc sp = (if l.any badPl = true then 41 else if twiceN l = true then 12 else if (decide (16 ≤ sc) || (decide (0 ≤ sc) && namedB l sc)) = true then 31
    else if (decide (16383 ≤ sp) || (decide (0 ≤ sp) && (namedB l (16 + sp) || namedB l (16 + sp + 1)))) = true then 43 else 0) from rfl)
  clear hb1 hs1
  go_enter Try.func39, Try.ntmps39
  go_wp2_with fail
  refine (containsIn_any W1 _ l HV1.out 60 #[] badPl (enters_of Try.func60 (by kernel_rfl) rfl) (fun y W _ => bad_any W y)).mono ?_
  rintro e w2 ⟨rfl, hb⟩
  have HV2 := Lib.hid (HV1.out.keep hb)
  have HS2 := Lib.hid (HS1.out.below hb)
  have HB2 := Lib.hid (HB1.out.trans (hb.mono HB1.out.size))
  have k2 : w2.cell? ⟨w.heap.size, 0, none⟩ = some (.slice A l.length c) := (HS2.out).cell 0
  clear hb k1
  clear hW1
  cases hbad : l.any badPl with
  | true =>
    have HE := Lib.hid (show faultN l sc sp = 41 by rw [HF.out, if_pos hbad])
    go_wp2
    go_ret
    rw [HE.out]
    exact ⟨rfl, HB2.out⟩
  | false =>
    go_wp2_with fail
    refine (twice_any w2 _ l HV2.out hl HR.out).mono ?_
    rintro e w3 ⟨rfl, hb⟩
    have HV3 := Lib.hid (HV2.out.keep hb)
    have HS3 := Lib.hid (HS2.out.below hb)
    have HB3 := Lib.hid (HB2.out.trans (hb.mono HB2.out.size))
    have k3 : w3.cell? ⟨w.heap.size, 0, none⟩ = some (.slice A l.length c) := (HS3.out).cell 0
    clear hb k2
    cases htw : twiceN l with
    | true =>
      have HE := Lib.hid (show faultN l sc sp = 12 by rw [HF.out, if_neg (by rw [hbad]; simp), if_pos htw])
      go_wp2
      go_ret
      rw [HE.out]
      exact ⟨rfl, HB3.out⟩
    | false =>
      have HF2 := Lib.hid (HF.out.trans (show _ = (if (decide (16 ≤ sc) || (decide (0 ≤ sc) && namedB l sc)) = true then (31 : Int)
        else if (decide (16383 ≤ sp) || (decide (0 ≤ sp) && (namedB l (16 + sp) || namedB l (16 + sp + 1)))) = true then 43 else 0) by rw [if_neg (by rw [hbad]; simp), if_neg (by rw [htw]; simp)]))
      clear HF hbad htw
      have HN := Lib.hid (show ∀ p, namedB l p = namedB l p from fun _ => rfl)
      by_cases hs : 16 ≤ sc
      · have ds : decide (16 ≤ sc) = true := by simp; omega
        have HE := Lib.hid (show faultN l sc sp = 31 by rw [HF2.out, ds]; rfl)
        go_wp2
        go_ret
        rw [HE.out]
        exact ⟨rfl, HB3.out⟩
      · have ds : decide (16 ≤ sc) = false := by simp; omega
        by_cases hs0 : 0 ≤ sc
        · have ds0 : decide (0 ≤ sc) = true := by simp; omega
          have hsu : sc < 16 := by omega
          clear hs
          go_wp2_with fail
          refine (named_any w3 _ l w.heap.size sc HS3.out HV3.out).mono ?_
          rintro e w4 ⟨rfl, hb⟩
          have HV4 := Lib.hid (HV3.out.keep hb)
          have HS4 := Lib.hid (HS3.out.below hb)
          have HB4 := Lib.hid (HB3.out.trans (hb.mono HB3.out.size))
          have k4 : w4.cell? ⟨w.heap.size, 0, none⟩ = some (.slice A l.length c) := (HS4.out).cell 0
          clear hb k3
          cases hn : namedB l sc with
          | true =>
            have HE := Lib.hid (show faultN l sc sp = 31 by rw [HF2.out, ds, ds0, hn]; rfl)
            go_wp2
            go_ret
            rw [HE.out]
            exact ⟨rfl, HB4.out⟩
          | false =>
            have HF3 := Lib.hid (show faultN l sc sp = (if (decide (16383 ≤ sp) || (decide (0 ≤ sp) && (namedB l (16 + sp) || namedB l (16 + sp + 1)))) = true then (43 : Int) else 0) by rw [HF2.out, ds, ds0, hn]; rfl)
            clear HF2 hn
            by_cases hp : 16383 ≤ sp
            · have dp : decide (16383 ≤ sp) = true := by simp; omega
              have HE := Lib.hid (show faultN l sc sp = 43 by rw [HF3.out, dp]; rfl)
              go_wp2
              go_ret
              rw [HE.out]
              exact ⟨rfl, HB4.out⟩
            · have dp : decide (16383 ≤ sp) = false := by simp; omega
              by_cases hp0 : 0 ≤ sp
              · have dp0 : decide (0 ≤ sp) = true := by simp; omega
                have hpu : sp < 16383 := by omega
                clear hp
                go_wp2_with fail
                refine (named_any w4 _ l w.heap.size (16 + sp) HS4.out HV4.out).mono ?_
                rintro e w5 ⟨rfl, hb⟩
                have HV5 := Lib.hid (HV4.out.keep hb)
                have HS5 := Lib.hid (HS4.out.below hb)
                have HB5 := Lib.hid (HB4.out.trans (hb.mono HB4.out.size))
                have k5 : w5.cell? ⟨w.heap.size, 0, none⟩ = some (.slice A l.length c) := (HS5.out).cell 0
                clear hb k4
                cases hn1 : namedB l (16 + sp) with
                | true =>
                  have HE := Lib.hid (show faultN l sc sp = 43 by rw [HF3.out, dp, dp0, hn1]; rfl)
                  go_wp2
                  go_ret
                  rw [HE.out]
                  exact ⟨rfl, HB5.out⟩
                | false =>
                  go_wp2_with fail
                  refine (named_any w5 _ l w.heap.size (16 + sp + 1) HS5.out HV5.out).mono ?_
                  rintro e w6 ⟨rfl, hb⟩
                  have HV6 := Lib.hid (HV5.out.keep hb)
                  have HS6 := Lib.hid (HS5.out.below hb)
                  have HB6 := Lib.hid (HB5.out.trans (hb.mono HB5.out.size))
                  have k6 : w6.cell? ⟨w.heap.size, 0, none⟩ = some (.slice A l.length c) := (HS6.out).cell 0
                  clear hb k5
                  cases hn2 : namedB l (16 + sp + 1) with
                  | true =>
                    have HE := Lib.hid (show faultN l sc sp = 43 by rw [HF3.out, dp, dp0, hn1, hn2]; rfl)
                    go_wp2
                    go_ret
                    rw [HE.out]
                    exact ⟨rfl, HB6.out⟩
                  | false =>
                    have HE := Lib.hid (show faultN l sc sp = 0 by rw [HF3.out, dp, dp0, hn1, hn2]; rfl)
                    go_wp2
                    go_ret
                    rw [HE.out]
                    exact ⟨rfl, HB6.out⟩
              · have dp0 : decide (0 ≤ sp) = false := by simp; omega
                have hpu : sp < 0 := by omega
                have HE := Lib.hid (show faultN l sc sp = 0 by rw [HF3.out, dp, dp0]; rfl)
                go_wp2
                go_ret
                rw [HE.out]
                exact ⟨rfl, HB4.out⟩
        · have ds0 : decide (0 ≤ sc) = false := by simp; omega
          have hsu : sc < 0 := by omega
          have HF3 := Lib.hid (show faultN l sc sp = (if (decide (16383 ≤ sp) || (decide (0 ≤ sp) && (namedB l (16 + sp) || namedB l (16 + sp + 1)))) = true then (43 : Int) else 0) by rw [HF2.out, ds, ds0]; rfl)
          clear HF2 hs hs0
          by_cases hp : 16383 ≤ sp
          · have dp : decide (16383 ≤ sp) = true := by simp; omega
            have HE := Lib.hid (show faultN l sc sp = 43 by rw [HF3.out, dp]; rfl)
            go_wp2
            go_ret
            rw [HE.out]
            exact ⟨rfl, HB3.out⟩
          · have dp : decide (16383 ≤ sp) = false := by simp; omega
            by_cases hp0 : 0 ≤ sp
            · have dp0 : decide (0 ≤ sp) = true := by simp; omega
              have hpu : sp < 16383 := by omega
              clear hp
              go_wp2_with fail
              refine (named_any w3 _ l w.heap.size (16 + sp) HS3.out HV3.out).mono ?_
              rintro e w4 ⟨rfl, hb⟩
              have HV4 := Lib.hid (HV3.out.keep hb)
              have HS4 := Lib.hid (HS3.out.below hb)
              have HB4 := Lib.hid (HB3.out.trans (hb.mono HB3.out.size))
              have k4 : w4.cell? ⟨w.heap.size, 0, none⟩ = some (.slice A l.length c) := (HS4.out).cell 0
              clear hb k3
              cases hn1 : namedB l (16 + sp) with
              | true =>
                have HE := Lib.hid (show faultN l sc sp = 43 by rw [HF3.out, dp, dp0, hn1]; rfl)
                go_wp2
                go_ret
                rw [HE.out]
                exact ⟨rfl, HB4.out⟩
              | false =>
                go_wp2_with fail
                refine (named_any w4 _ l w.heap.size (16 + sp + 1) HS4.out HV4.out).mono ?_
                rintro e w5 ⟨rfl, hb⟩
                have HV5 := Lib.hid (HV4.out.keep hb)
                have HS5 := Lib.hid (HS4.out.below hb)
                have HB5 := Lib.hid (HB4.out.trans (hb.mono HB4.out.size))
                have k5 : w5.cell? ⟨w.heap.size, 0, none⟩ = some (.slice A l.length c) := (HS5.out).cell 0
                clear hb k4
                cases hn2 : namedB l (16 + sp + 1) with
                | true =>
                  have HE := Lib.hid (show faultN l sc sp = 43 by rw [HF3.out, dp, dp0, hn1, hn2]; rfl)
                  go_wp2
                  go_ret
                  rw [HE.out]
                  exact ⟨rfl, HB5.out⟩
                | false =>
                  have HE := Lib.hid (show faultN l sc sp = 0 by rw [HF3.out, dp, dp0, hn1, hn2]; rfl)
                  go_wp2
                  go_ret
                  rw [HE.out]
                  exact ⟨rfl, HB5.out⟩
            · have dp0 : decide (0 ≤ sp) = false := by simp; omega
              have hpu : sp < 0 := by omega
              have HE := Lib.hid (show faultN l sc sp = 0 by rw [HF3.out, dp, dp0]; rfl)
              go_wp2
              go_ret
              rw [HE.out]
              exact ⟨rfl, HB3.out⟩
end Go.Proofs.Ytdohaoomckhbgaa.Vm
