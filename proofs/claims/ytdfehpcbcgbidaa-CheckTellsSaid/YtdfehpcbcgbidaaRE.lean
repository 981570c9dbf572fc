/- The document's answer of layer 3: where each number is made, and whether that stands on all ways to a place. -/
import Derived.Test.YtdfehpcbcgbidaaRD
import Derived.Test.YtdfehpcbcgbidaaRB
namespace Go.Proofs.Ytdfehpcbcgbidaa.Rf
open Go.ChangeShapes Go.WideShapes Go.ChangeAt Go.RowKit Go.Maps Go.Proofs.Ytdfehpcbcgbidaa.Mem Go.Proofs.Ytdfehpcbcgbidaa.Br Go.Proofs.Ytdfehpcbcgbidaa.Gr Go.Proofs.Ytdfehpcbcgbidaa.Kc
set_option linter.unusedVariables false
/-- All that a thing makes is noted down at its place. -/
def siteT (f : Spots) (t : PThing) : Spots := t.makes.foldl (fun f n => if 0 ≤ n ∧ n < 8192 then noted f n (t.block, t.place) else f) f
def sitesF (l : List PThing) : Spots := l.foldl siteT fun _ => none
def SiteV (es : List Value) (n : Nat) : Option (Int × Int) → Prop
  | none => es[4 * n]? = some (.int .i64 (-1))
  | some s => es[4 * n]? = some (.int .i64 s.1) ∧ es[4 * n + 1]? = some (.int .i64 s.2)
/-- The rows' places hold rows. -/
def SlicesIn (es : List Value) : Prop := ∀ n : Nat, n < 8192 → (∃ A m c, es[4 * n + 2]? = some (.slice A m c)) ∧ ∃ A m c, es[4 * n + 3]? = some (.slice A m c)
theorem slices_made : SlicesIn (madeCells #[.int .i64 0, .int .i64 0, .slice none 0 0, .slice none 0 0] (8192 * 4)).toList := fun n hn => by
  have h2 : (4 * n + 2) % 4 = 2 := by omega
  have h3 : (4 * n + 3) % 4 = 3 := by omega
  refine ⟨⟨none, 0, 0, ?_⟩, none, 0, 0, ?_⟩
  · have hj : 4 * n + 2 < 32768 := by omega
    simp [madeCells, hj, h2]
  · have hj : 4 * n + 3 < 32768 := by omega
    simp [madeCells, hj, h3]
theorem SlicesIn.head {es : List Value} (h : SlicesIn es) (k i : Nat) (hi : i < 2) (u : Value) : SlicesIn (es.set (k * 4 + i) u) := fun n hn => by
  obtain ⟨⟨A, m, c, h1⟩, A', m', c', h2⟩ := h n hn
  exact ⟨⟨A, m, c, by rw [List.getElem?_set_ne (by omega)]; exact h1⟩, A', m', c', by rw [List.getElem?_set_ne (by omega)]; exact h2⟩
theorem SlicesIn.tail {es : List Value} (h : SlicesIn es) (k i : Nat) (A : Option Addr) (m c : Nat) : SlicesIn (es.set (k * 4 + i) (.slice A m c)) := fun n hn => by
  obtain ⟨⟨A1, m1, c1, h1⟩, A2, m2, c2, h2⟩ := h n hn
  refine ⟨?_, ?_⟩
  · by_cases e : k * 4 + i = 4 * n + 2
    · exact ⟨A, m, c, by rw [← e, List.getElem?_set_self (by have := (List.getElem?_eq_some_iff.1 h1).1; omega)]⟩
    · exact ⟨A1, m1, c1, by rw [List.getElem?_set_ne e]; exact h1⟩
  · by_cases e : k * 4 + i = 4 * n + 3
    · exact ⟨A, m, c, by rw [← e, List.getElem?_set_self (by have := (List.getElem?_eq_some_iff.1 h2).1; omega)]⟩
    · exact ⟨A2, m2, c2, by rw [List.getElem?_set_ne e]; exact h2⟩
/-- Where numbers are made, as it lies there. -/
def SitesAt (B g : Nat) (w : World) (f : Spots) : Prop := ∃ es, w.ownsRow B 87 4 (.slice (some ⟨g, 0, none⟩) 8192 8192) 8192 es ∧ SlicesIn es ∧ ∀ n : Nat, n < 8192 → SiteV es n (f n)
theorem SiteV.other {es : List Value} {n m i : Nat} {u : Value} {o : Option (Int × Int)} (h : SiteV es n o) (hm : m ≠ n) (hi : i < 4) : SiteV (es.set (4 * m + i) u) n o := by
  cases o with
  | none => unfold SiteV at h ⊢; rw [List.getElem?_set_ne (by omega)]; exact h
  | some s => unfold SiteV at h ⊢; rw [List.getElem?_set_ne (by omega), List.getElem?_set_ne (by omega)]; exact h
theorem sites_store {B g m : Nat} {w : World} {f : Spots} {es : List Value} (hr : w.ownsRow B 87 4 (.slice (some ⟨g, 0, none⟩) 8192 8192) 8192 es) (hsl : SlicesIn es) (hv : ∀ n : Nat, n < 8192 → SiteV es n (f n)) (hm : m < 8192) (b p : Int) (A2 A3 : Option Addr) (n2 c2 n3 c3 : Nat) :
    SitesAt B g ((((w.setCell ⟨g, m * 4, none⟩ (.int .i64 b)).setCell ⟨g, m * 4 + 1, none⟩ (.int .i64 p)).setCell ⟨g, m * 4 + 2, none⟩ (.slice A2 n2 c2)).setCell ⟨g, m * 4 + 3, none⟩ (.slice A3 n3 c3)) (noted f (m : Int) (b, p)) := by
  have hl : es.length = 8192 * 4 := hr.1
  have r1 := (World.ownsRow.stored hr (m * 4) (.int .i64 b)).1
  have r2 := (World.ownsRow.stored r1 (m * 4 + 1) (.int .i64 p)).1
  have r3 := (World.ownsRow.stored r2 (m * 4 + 2) (.slice A2 n2 c2)).1
  have r4 := (World.ownsRow.stored r3 (m * 4 + 3) (.slice A3 n3 c3)).1
  refine ⟨_, r4, (((hsl.head m 0 (by omega) _).head m 1 (by omega) _).tail m 2 A2 n2 c2).tail m 3 A3 n3 c3, fun n hn => ?_⟩
  by_cases hnm : n = m
  · subst hnm
    have e : noted f (n : Int) (b, p) (n : Int) = some (b, p) := by unfold noted; rw [if_pos rfl]
    rw [e]
    refine ⟨?_, ?_⟩
    · rw [List.getElem?_set_ne (by omega), List.getElem?_set_ne (by omega), List.getElem?_set_ne (by omega), Nat.mul_comm 4 n, List.getElem?_set_self (by omega)]
    · rw [List.getElem?_set_ne (by omega), List.getElem?_set_ne (by omega), Nat.mul_comm 4 n, List.getElem?_set_self (by rw [List.length_set]; omega)]
  · have e : noted f (m : Int) (b, p) (n : Int) = f n := by unfold noted; rw [if_neg (by omega)]
    rw [e]
    have h0 := hv n hn
    have h1 := h0.other (m := m) (i := 0) (u := .int .i64 b) (fun e => hnm e.symm) (by omega)
    have h2 := h1.other (m := m) (i := 1) (u := .int .i64 p) (fun e => hnm e.symm) (by omega)
    have h3 := h2.other (m := m) (i := 2) (u := .slice A2 n2 c2) (fun e => hnm e.symm) (by omega)
    have h4 := h3.other (m := m) (i := 3) (u := .slice A3 n3 c3) (fun e => hnm e.symm) (by omega)
    rw [Nat.mul_comm m 4]
    exact h4
set_option maxRecDepth 100000 in
set_option maxHeartbeats 8000000 in
theorem sites_any (w : World) (A : Option Addr) (c : Nat) (l : List PThing) (hl : RowAt w 4 ThingAt (.slice A l.length c) l) (hi : ∀ t ∈ l, ∀ n ∈ t.makes, InI n) :
    Calls Try.prog 44 #[.slice A l.length c] w (fun e w' => ∃ g, e = .returned (.slice (some ⟨g, 0, none⟩) 8192 8192) ∧ SitesAt w.heap.size g w' (sitesF l) ∧ Below w.heap.size w w') := by
  obtain ⟨A', c', gL, oL, e, hl1, hl2, hl3, hl4⟩ := hl
  injection e with e1 _ e3
  subst e1 e3
  unfold maxLen at hl2
  have HLA := Lib.hid hl3
  have HLL := Lib.hid hl4
  have HII := Lib.hid hi
  obtain ⟨i0, hi0, hz0, hz1, hz2⟩ := info_parts info_thing
  have HI0 := Lib.hid hi0
  have HZ0 := Lib.hid hz0
  have HZ1 := Lib.hid hz1
  have HZ2 := Lib.hid hz2
  clear hi0 hz0 hz1 hz2 hl3 hl4 hi
  go_enter Try.func44, Try.ntmps44
  go_wp2_with (at_make; refine wpList_make_full _ rfl _ _ 83 rfl w.heap.size 87 i0 (.agg #[.int .i64 0, .int .i64 0, .slice none 0 0, .slice none 0 0]) 4 Try.underlying83 HI0.out HZ0.out HZ1.out .i64 .i64 _ _ 8192 rfl rfl rfl rfl (by rw [HZ2.out]; omega) (by unfold maxLen; omega) (Nat.le_refl _) ?_)
  intro w1 hown hgr
  obtain ⟨es0, hes0, hsl0⟩ : ∃ es, w1.ownsRow w.heap.size 87 4 (.slice (some ⟨w.heap.size, 0, none⟩) 8192 8192) 8192 es ∧ SlicesIn es := ⟨_, hown, slices_made⟩
  have HSL0 := Lib.hid hsl0
  have hb1 : Below w.heap.size w w1 := (Below.refl _ _).grown hgr (Nat.le_refl _) (fun j hj => by cases hj)
  have HE0 := Lib.hid hes0
  have HB1 := Lib.hid hb1
  clear hown hgr hes0 hb1 hsl0
  go_wp2_with fail
  go_loopw [4] (fun i wr => ∃ (k : Nat) (es : List Value), k ≤ 8192 ∧ i = .int .i64 k ∧ wr.ownsRow w.heap.size 87 4 (.slice (some ⟨w.heap.size, 0, none⟩) 8192 8192) 8192 es ∧ (∀ n, n < k → es[4 * n]? = some (.int .i64 (-1))) ∧ SlicesIn es ∧ Below w.heap.size w wr) (fun i _ => 8192 - (intOf i).toNat)
  case atStart => exact ⟨0, es0, by omega, rfl, HE0.out, fun n hn => absurd hn (by omega), HSL0.out, HB1.out⟩
  case round =>
    obtain ⟨k, es, hk, rfl, hr, hn, hsl, hb⟩ := hrel
    have HSLk := Lib.hid hsl
    clear hsl
    obtain ⟨wo, rfl⟩ : ∃ wo : World, wo = wr := ⟨_, rfl⟩
    have HR := Lib.hid hr
    have HN := Lib.hid hn
    have HB := Lib.hid hb
    have hes : es.length = 8192 * 4 := hr.1
    clear hr hn hb
    by_cases hlt : k < 8192
    · have c0 := World.ownsRow.frozenAt HR.out (k * 4)
      obtain ⟨u, hu⟩ : ∃ u, es[k * 4]? = some u := ⟨_, List.getElem?_eq_getElem (by omega)⟩
      have c1 := World.ownsRow.cellAt HR.out (k * 4) (by omega)
      rw [hu] at c1
      clear hu
      go_wp2_with fail
      exact ⟨⟨k + 1, es.set (k * 4) (.int .i64 (-1)), by omega, by go_num, (World.ownsRow.stored HR.out (k * 4) (.int .i64 (-1))).1, fun n hn => by
        by_cases hnk : n = k
        · subst hnk
          rw [Nat.mul_comm 4 n, List.getElem?_set_self (by omega)]
        · rw [List.getElem?_set_ne (by omega)]
          exact HN.out n (by omega), by have := HSLk.out.head k 0 (by omega) (.int .i64 (-1)); exact this, HB.out.setCell (p := ⟨w.heap.size, k * 4, none⟩) (Nat.le_refl _) _⟩, by simp [intOf]; omega⟩
    · have HSI := Lib.hid (show SitesAt w.heap.size w.heap.size wo (sitesF (l.take 0)) from ⟨es, HR.out, HSLk.out, fun n hn => HN.out n (by omega)⟩)
      clear HR HN hes
      go_wp2_with fail
      go_loopw [5, 6, 7] (fun i _ _ wr => ∃ k : Nat, k ≤ l.length ∧ i = .int .i64 k ∧ SitesAt w.heap.size w.heap.size wr (sitesF (l.take k)) ∧ Below w.heap.size w wr) (fun i _ _ _ => l.length - (intOf i).toNat)
      case atStart => exact ⟨0, by omega, rfl, HSI.out, HB.out⟩
      case round =>
        obtain ⟨k, hk, rfl, hsi, hb⟩ := hrel
        obtain ⟨wi, rfl⟩ : ∃ wi : World, wi = wr := ⟨_, rfl⟩
        have HSk := Lib.hid hsi
        have HBk := Lib.hid hb
        clear hsi hb
        by_cases hlt : k < l.length
        · have e1 := HLA.out (by omega)
          subst e1
          have HFS := Lib.hid (show sitesF (l.take (k + 1)) = siteT (sitesF (l.take k)) l[k] by
            unfold sitesF
            rw [List.take_succ_eq_append_getElem hlt, List.foldl_append]; rfl)
          obtain ⟨a0, a1, ⟨vm, a2, hm⟩, ⟨vt, a3, ht⟩⟩ := HLL.out k hlt
          obtain ⟨mA, mc, rfl, m1, m2, m3⟩ := hm
          obtain ⟨tA, tc, rfl, _⟩ := ht
          unfold maxLen at m2
          have HA := Lib.hid (And.intro a0 (And.intro a1 (And.intro a2 a3)))
          have HM3 := Lib.hid m3
          have HIT := Lib.hid (HII.out _ (List.getElem_mem hlt))
          unfold siteT at HFS
          clear m3 a0 a1 a2 a3
          generalize sitesF (l.take k) = f0 at *
          generalize l[k] = th at *
          go_wp2_with fail
          go_loopw [6, 7] (fun j _ wr => ∃ q : Nat, q ≤ th.makes.length ∧ j = .int .i64 q ∧ SitesAt w.heap.size w.heap.size wr ((th.makes.take q).foldl (fun f n => if 0 ≤ n ∧ n < 8192 then noted f n (th.block, th.place) else f) f0) ∧ Below w.heap.size w wr) (fun j _ _ => th.makes.length - (intOf j).toNat)
          case atStart => exact ⟨0, by omega, rfl, HSk.out, HBk.out⟩
          case round =>
            obtain ⟨q, hq, rfl, hsi, hb⟩ := hrel
            obtain ⟨wj, rfl⟩ : ∃ wj : World, wj = wr := ⟨_, rfl⟩
            obtain ⟨b0, b1, b2, b3⟩ := HA.out
            have b0 := cell_keep hb (Nat.le_refl _) b0
            have b1 := cell_keep hb (Nat.le_refl _) b1
            have b2 := cell_keep hb (Nat.le_refl _) b2
            have b3 := cell_keep hb (Nat.le_refl _) b3
            have HSq := Lib.hid hsi
            have HBq := Lib.hid hb
            clear hsi
            by_cases hltq : q < th.makes.length
            · obtain ⟨ad, rfl, hx⟩ := HM3.out q hltq
              have hx := cell_keep hb (Nat.le_refl _) hx
              have hxi := HIT.out _ (List.getElem_mem hltq)
              have HFQ := Lib.hid (show (th.makes.take (q + 1)).foldl (fun f n => if 0 ≤ n ∧ n < 8192 then noted f n (th.block, th.place) else f) f0 = (fun f n => if 0 ≤ n ∧ n < 8192 then noted f n (th.block, th.place) else f) ((th.makes.take q).foldl (fun f n => if 0 ≤ n ∧ n < 8192 then noted f n (th.block, th.place) else f) f0) th.makes[q] by
                rw [List.take_succ_eq_append_getElem hltq, List.foldl_append]; rfl)
              dsimp only at HFQ
              generalize th.makes[q] = n at *
              generalize (th.makes.take q).foldl (fun f n => if 0 ≤ n ∧ n < 8192 then noted f n (th.block, th.place) else f) f0 = f1 at *
              clear hb
              by_cases hn0 : 0 ≤ n
              · by_cases hn1 : n < 8192
                · obtain ⟨m, rfl⟩ : ∃ m : Nat, n = m := ⟨n.toNat, by omega⟩
                  have hm8 : m < 8192 := by omega
                  rw [if_pos ⟨hn0, hn1⟩] at HFQ
                  obtain ⟨es, hr, hsl, hv⟩ := HSq.out
                  have HSL := Lib.hid hsl
                  clear hsl
                  have hesl : es.length = 8192 * 4 := hr.1
                  have z0 := World.ownsRow.frozenAt hr (m * 4)
                  have z1 := World.ownsRow.frozenAt hr (m * 4 + 1)
                  have z2 := World.ownsRow.frozenAt hr (m * 4 + 2)
                  have z3 := World.ownsRow.frozenAt hr (m * 4 + 3)
                  obtain ⟨u0, hu0⟩ : ∃ u, es[m * 4]? = some u := ⟨_, List.getElem?_eq_getElem (by omega)⟩
                  obtain ⟨u1, hu1⟩ : ∃ u, es[m * 4 + 1]? = some u := ⟨_, List.getElem?_eq_getElem (by omega)⟩
                  obtain ⟨u2, hu2⟩ : ∃ u, es[m * 4 + 2]? = some u := ⟨_, List.getElem?_eq_getElem (by omega)⟩
                  obtain ⟨u3, hu3⟩ : ∃ u, es[m * 4 + 3]? = some u := ⟨_, List.getElem?_eq_getElem (by omega)⟩
                  have y0 := World.ownsRow.cellAt hr (m * 4) (by omega)
                  have y1 := World.ownsRow.cellAt hr (m * 4 + 1) (by omega)
                  have y2 := World.ownsRow.cellAt hr (m * 4 + 2) (by omega)
                  have y3 := World.ownsRow.cellAt hr (m * 4 + 3) (by omega)
                  rw [hu0] at y0
                  rw [hu1] at y1
                  rw [hu2] at y2
                  rw [hu3] at y3
                  have HES := Lib.hid hesl
                  have HV := Lib.hid hv
                  have HRR := Lib.hid hr
                  clear hu0 hu1 hu2 hu3 hesl hv hr
                  have HST := Lib.hid (sites_store HRR.out HSL.out HV.out hm8 th.block th.place (some ad) tA th.makes.length mc th.takes.length tc)
                  have HSB := Lib.hid (show Below w.heap.size w ((((wj.setCell ⟨w.heap.size, m * 4, none⟩ (.int .i64 th.block)).setCell ⟨w.heap.size, m * 4 + 1, none⟩ (.int .i64 th.place)).setCell ⟨w.heap.size, m * 4 + 2, none⟩ (.slice (some ad) th.makes.length mc)).setCell ⟨w.heap.size, m * 4 + 3, none⟩ (.slice tA th.takes.length tc)) from
                    (((HBq.out.setCell (p := ⟨w.heap.size, m * 4, none⟩) (Nat.le_refl _) _).setCell (p := ⟨w.heap.size, m * 4 + 1, none⟩) (Nat.le_refl _) _).setCell (p := ⟨w.heap.size, m * 4 + 2, none⟩) (Nat.le_refl _) _).setCell (p := ⟨w.heap.size, m * 4 + 3, none⟩) (Nat.le_refl _) _)
                  go_wp2_with fail
                  exact ⟨⟨q + 1, by omega, by go_num, by rw [HFQ.out]; exact HST.out, HSB.out⟩, by simp [intOf]; omega⟩
                · rw [if_neg (fun h => hn1 h.2)] at HFQ
                  go_wp2_with fail
                  go_roundw
                  case rel => exact ⟨q + 1, by omega, by go_num, by rw [HFQ.out]; exact HSq.out, HBq.out⟩
                  case measure => simp [intOf]; omega
              · rw [if_neg (fun h => hn0 h.1)] at HFQ
                go_wp2_with fail
                go_roundw
                case rel => exact ⟨q + 1, by omega, by go_num, by rw [HFQ.out]; exact HSq.out, HBq.out⟩
                case measure => simp [intOf]; omega
            · obtain rfl : q = th.makes.length := by omega
              have HFE := Lib.hid (show SitesAt w.heap.size w.heap.size wj (sitesF (l.take (k + 1))) by have h := HSq.out; rw [List.take_length] at h; rw [HFS.out]; exact h)
              clear hb
              go_wp2_with fail
              go_roundw
              case rel => exact ⟨k + 1, by omega, by go_num, HFE.out, HBq.out⟩
              case measure => simp [intOf]; omega
        · obtain rfl : k = l.length := by omega
          have HFE := Lib.hid (show SitesAt w.heap.size w.heap.size wi (sitesF l) by have h := HSk.out; rwa [List.take_length] at h)
          go_wp2_with fail
          go_ret
          exact ⟨_, rfl, HFE.out, HBk.out⟩
/-- Which blocks are reached without going through one: a row for each. -/
def AwayAt (w : World) (gA n : Nat) (away : Nat → Nat → Bool) : Prop := ∀ b, b < n → ∃ g, w.cell? ⟨gA, b, none⟩ = some (.slice (some ⟨g, 0, none⟩) n n) ∧ ∀ x, x < n → w.cell? ⟨g, x, none⟩ = some (.bool (away b x))
theorem AwayAt.below {w w' : World} {gA n : Nat} {away : Nat → Nat → Bool} (h : AwayAt w gA n away) (hb : Below w.heap.size w w') : AwayAt w' gA n away := fun b hb' => by
  obtain ⟨g, h1, h2⟩ := h b hb'
  exact ⟨g, cell_keep hb (Nat.le_refl _) h1, fun x hx => cell_keep hb (Nat.le_refl _) (h2 x hx)⟩
def standB (params : Int) (f : Spots) (away : Nat → Nat → Bool) (v : Int) (b : Nat) (p : Int) : Bool :=
  if 0 ≤ v ∧ v < params then true else if 0 ≤ v ∧ v < 8192 then (match f v with
    | none => false
    | some s => if s.1 = (b : Int) then decide (s.2 < 0) || decide (s.2 < p) else !(away s.1.toNat b)) else false
set_option maxRecDepth 100000 in
set_option maxHeartbeats 8000000 in
theorem stands_any (w : World) (B g gA n cA cB : Nat) (params v p : Int) (bv : Value) (b : Nat) (f : Spots) (away : Nat → Nat → Bool) (hs : SitesAt B g w f) (ha : AwayAt w gA n away) (hb : b < n) (hn : n ≤ 4096) (hf : ∀ v s, f v = some s → ∃ a : Nat, s.1 = (a : Int) ∧ a < n) :
    Calls Try.prog 45 #[.agg #[.int .i64 params, bv], .slice (some ⟨g, 0, none⟩) 8192 8192, .slice (some ⟨gA, 0, none⟩) n cA, .int .i64 v, .int .i64 (b : Int), .int .i64 p] w (fun e w' => e = .returned (.bool (standB params f away v b p)) ∧ Below w.heap.size w w') := by
  have HS := Lib.hid hs
  have HA := Lib.hid ha
  have HF := Lib.hid hf
  clear hs ha hf
  have HST := Lib.hid (show standB params f away v b p = standB params f away v b p from rfl)
  generalize hR : standB params f away v b p = R at HST ⊢
  have HR := Lib.hid hR
  clear hR HST
  go_enter Try.func45, Try.ntmps45
  go_upto_region 1 with (fail)
  obtain ⟨W, hW⟩ : ∃ W, w.alloc (.cells #[.int .i64 params, bv] 24) = W := ⟨_, rfl⟩
  rw [hW]
  have hb1 : Below w.heap.size w W := by rw [← hW]; exact (Below.refl _ _).alloc (Nat.le_refl _) _
  have hs1 : Str W w.heap.size 24 [.int .i64 params, bv] := by rw [← hW]; exact World.alloc_heap_new w _
  have hzW : W.heap.size = w.heap.size + 1 := by rw [← hW]; simp
  clear hW
  have f0 : W.cell? ⟨w.heap.size, 0, none⟩ = some (.int .i64 params) := hs1.cell 0
  have HB := Lib.hid hb1
  clear hs1
  by_cases h1 : 0 ≤ v
  · by_cases h2 : v < params
    · have HT := Lib.hid (show R = true by rw [← HR.out]; unfold standB; rw [if_pos ⟨h1, h2⟩])
      clear hb1
      go_wp2
      go_ret
      exact ⟨by rw [HT.out]; rfl, HB.out⟩
    · have HR1 := Lib.hid (show R = if 0 ≤ v ∧ v < 8192 then (match f v with
        | none => false
        | some s => if s.1 = (b : Int) then decide (s.2 < 0) || decide (s.2 < p) else !(away s.1.toNat b)) else false by rw [← HR.out]; unfold standB; rw [if_neg (fun h => h2 h.2)])
      by_cases h3 : v < 8192
      · obtain ⟨m, rfl⟩ : ∃ m : Nat, v = m := ⟨v.toNat, by omega⟩
        have hm8 : m < 8192 := by omega
        have HR2 := Lib.hid (HR1.out.trans (if_pos ⟨h1, h3⟩))
        obtain ⟨es, hr, hsl, hv⟩ := HS.out
        have hv := hv m hm8
        obtain ⟨⟨uA2, un2, uc2, hu2⟩, uA3, un3, uc3, hu3⟩ := hsl m hm8
        rw [Nat.mul_comm 4 m] at hu2 hu3
        have hesl : es.length = 8192 * 4 := hr.1
        obtain ⟨u0, hu0⟩ : ∃ u, es[m * 4]? = some u := ⟨_, List.getElem?_eq_getElem (by omega)⟩
        obtain ⟨u1, hu1⟩ : ∃ u, es[m * 4 + 1]? = some u := ⟨_, List.getElem?_eq_getElem (by omega)⟩
        have y0 := World.ownsRow.cellAt hr (m * 4) (by omega)
        have y1 := World.ownsRow.cellAt hr (m * 4 + 1) (by omega)
        have y2 := World.ownsRow.cellAt hr (m * 4 + 2) (by omega)
        have y3 := World.ownsRow.cellAt hr (m * 4 + 3) (by omega)
        rw [hu0] at y0
        rw [hu1] at y1
        rw [hu2] at y2
        rw [hu3] at y3
        have y0 := cell_keep hb1 (Nat.le_refl _) y0
        have y1 := cell_keep hb1 (Nat.le_refl _) y1
        have y2 := cell_keep hb1 (Nat.le_refl _) y2
        have y3 := cell_keep hb1 (Nat.le_refl _) y3
        rw [Nat.mul_comm m 4] at hu0 hu1
        cases hfm : f (m : Int) with
        | none =>
          rw [hfm] at hv HR2
          unfold SiteV at hv
          rw [hu0] at hv
          injection hv with hv
          subst hv
          clear hb1 hu0 hu1 hu2 hu3 hr hesl hfm
          go_wp2
          go_ret
          exact ⟨by rw [HR2.out]; rfl, HB.out⟩
        | some s =>
          rw [hfm] at hv HR2
          obtain ⟨sb, sp⟩ := s
          obtain ⟨v0, v1⟩ := hv
          rw [hu0] at v0
          rw [hu1] at v1
          injection v0 with v0
          injection v1 with v1
          subst v0 v1
          obtain ⟨a, ha1, ha2⟩ := HF.out _ _ hfm
          change sb = (a : Int) at ha1
          subst ha1
          have HR3 := Lib.hid (show R = if (a : Int) = (b : Int) then decide (sp < 0) || decide (sp < p) else !(away a b) from HR2.out)
          obtain ⟨gr, r0, r1⟩ := HA.out a ha2
          have r0 := cell_keep hb1 (Nat.le_refl _) r0
          have r1 := cell_keep hb1 (Nat.le_refl _) (r1 b hb)
          clear hb1 hu0 hu1 hu2 hu3 hr hesl hfm
          dsimp only at y0 y1
          go_upto_region 6 with (fail)
          obtain ⟨W2, hW2⟩ : ∃ W2, W.alloc (.cells #[.int .i64 (a : Int), .int .i64 sp, .slice uA2 un2 uc2, .slice uA3 un3 uc3] 87) = W2 := ⟨_, rfl⟩
          rw [hW2]
          have hb2 : Below W.heap.size W W2 := by rw [← hW2]; exact (Below.refl _ _).alloc (Nat.le_refl _) _
          have hs2 : Str W2 W.heap.size 87 [.int .i64 (a : Int), .int .i64 sp, .slice uA2 un2 uc2, .slice uA3 un3 uc3] := by rw [← hW2]; exact World.alloc_heap_new W _
          rw [hzW] at hs2
          have t0 : W2.cell? ⟨w.heap.size + 1, 0, none⟩ = some (.int .i64 (a : Int)) := hs2.cell 0
          have t1 : W2.cell? ⟨w.heap.size + 1, 1, none⟩ = some (.int .i64 sp) := hs2.cell 1
          have r0 := cell_keep hb2 (Nat.le_refl _) r0
          have r1 := cell_keep hb2 (Nat.le_refl _) r1
          have HB2 := Lib.hid (HB.out.trans (hb2.mono HB.out.size))
          clear hW2 hb2 hs2 y0 y1 y2 y3
          cases hab : ((a : Int) == (b : Int)) with
          | true =>
            have HR4 := Lib.hid (HR3.out.trans (if_pos (beq_iff_eq.1 hab)))
            by_cases h5 : sp < 0
            · have HT := Lib.hid (show R = true by rw [HR4.out, decide_eq_true h5, Bool.true_or])
              go_wp2
              go_ret
              exact ⟨by rw [HT.out]; rfl, HB2.out⟩
            · have HT := Lib.hid (show R = decide (sp < p) by rw [HR4.out, decide_eq_false h5, Bool.false_or])
              go_wp2
              go_ret
              exact ⟨by rw [HT.out]; rfl, HB2.out⟩
          | false =>
            have HT := Lib.hid (HR3.out.trans (if_neg (beq_eq_false_iff_ne.1 hab)))
            go_wp2
            go_ret
            exact ⟨by rw [HT.out]; rfl, HB2.out⟩
      · have HT := Lib.hid (HR1.out.trans (if_neg (fun h => h3 h.2)))
        have h4 : 8191 < v := by omega
        clear hb1
        go_wp2
        go_ret
        exact ⟨by rw [HT.out]; rfl, HB.out⟩
  · have HT := Lib.hid (show R = false by rw [← HR.out]; unfold standB; rw [if_neg (fun h => h1 h.1), if_neg (fun h => h1 h.1)])
    clear hb1
    go_wp2
    go_ret
    exact ⟨by rw [HT.out]; rfl, HB.out⟩
end Go.Proofs.Ytdfehpcbcgbidaa.Rf
