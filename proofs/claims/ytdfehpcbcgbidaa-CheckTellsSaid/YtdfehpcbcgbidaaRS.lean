/- The document's answer of layer 3 and the program's are the same, plainly; what jacquardref03.Func's walk goes by. -/
import Derived.Test.YtdfehpcbcgbidaaRF
import Derived.Test.YtdfehpcbcgbidaaKD
import Derived.Test.YtdfehpcbcgbidaaRG
import Derived.Test.YtdfehpcbcgbidaaRC
/- The document's answer of layer 3 and the program's are the same: plain lists and numbers. -/
namespace Go.Proofs.Ytdfehpcbcgbidaa.Rf
open Go.ChangeShapes Go.WideShapes Go.ChangeAt Go.RowKit Go.Maps Go.Proofs.Ytdfehpcbcgbidaa.Mem Go.Proofs.Ytdfehpcbcgbidaa.Br Go.Proofs.Ytdfehpcbcgbidaa.Gr Go.Proofs.Ytdfehpcbcgbidaa.Kc Go.Proofs.Ytdfehpcbcgbidaa.Gn Go.Proofs.Ytdfehpcbcgbidaa.Gc Go.Proofs.Ytdfehpcbcgbidaa.Gl
set_option linter.unusedVariables false
/-- Blocks from which one comes to a block: the program's rows. -/
theorem rows_at {bs : List PBlock} {a : Nat} (ha : a < bs.length) : (rowsP bs).getD a [] = bs[a].term.to := by
  unfold rowsP
  rw [List.getD_eq_getElem?_getD, List.getElem?_map, List.getElem?_eq_getElem ha]; rfl
theorem come_same {bs : List PBlock} {b : Nat} (hb : b < bs.length) : (lii (turnN (tidyN (rowsP bs)))).getD b [] = comeL bs b bs.length := by
  rw [preds_same]
  unfold predsL predsTo
  rw [List.getD_eq_getElem?_getD, List.getElem?_map, List.getElem?_range (by rw [rowsP_len]; exact hb)]
  show fromTo (rowsP bs) (b : Int) (rowsP bs).length = _
  unfold fromTo comeL
  rw [rowsP_len]
  congr 1
  refine List.filter_congr fun a ha => ?_
  have ha := List.mem_range.1 ha
  rw [edgeB_nat, rowsP_len, decide_eq_true (⟨ha, hb⟩ : a < bs.length ∧ b < bs.length), Bool.true_and, rows_at ha, List.getElem?_eq_getElem ha]
  rfl
/-- Where numbers are made. -/
def Within (f : Spots) : Prop := ∀ v s, f v = some s → 0 ≤ v ∧ v < 8192
theorem putE_fold {b p : Int} : ∀ {vs : List Int} {f g : Spots}, putE b p vs f = .ok g → vs.foldl (fun f v => noted f v (b, p)) f = g
  | [], f, g, e => by injection e
  | v :: vs, f, g, e => by
    unfold putE at e
    split at e
    · cases e
    · exact putE_fold (vs := vs) e
theorem site_fold {b p : Int} : ∀ {vs : List Int} {f : Spots}, (∀ v ∈ vs, 0 ≤ v ∧ v < 8192) → vs.foldl (fun f n => if 0 ≤ n ∧ n < 8192 then noted f n (b, p) else f) f = vs.foldl (fun f v => noted f v (b, p)) f
  | [], f, _ => rfl
  | v :: vs, f, h => by
    rw [List.foldl_cons, List.foldl_cons, if_pos (h v (List.mem_cons_self ..))]
    exact site_fold fun v hv => h v (List.mem_cons_of_mem _ hv)
theorem fold_within {b p : Int} : ∀ {vs : List Int} {f : Spots}, (∀ v ∈ vs, 0 ≤ v ∧ v < 8192) → Within f → Within (vs.foldl (fun f v => noted f v (b, p)) f)
  | [], f, _, hf => hf
  | v :: vs, f, h, hf => by
    rw [List.foldl_cons]
    refine fold_within (fun v hv => h v (List.mem_cons_of_mem _ hv)) fun x s hx => ?_
    unfold noted at hx
    split at hx
    · rename_i e
      subst e; exact h _ (List.mem_cons_self ..)
    · exact hf x s hx
theorem thing_of (it : Item) : it.thing.block = (it.blk : Int) ∧ it.thing.place = it.plc ∧ it.thing.makes = it.mks := by cases it <;> exact ⟨rfl, rfl, rfl⟩
theorem step_site {params : Int} {n : Nat} {it : Item} {f g : Spots} (hp : 0 ≤ params) (hf : Within f) (e : stepG params n it f = .ok g) : siteT f it.thing = g ∧ Within g := by
  unfold stepG at e
  split at e
  · cases e
  split at e
  · cases e
  rename_i _ ho
  have hm : ∀ v ∈ it.mks, 0 ≤ v ∧ v < 8192 := fun v hv => by
    have h1 : ¬ outB params v = true := fun h => ho (List.any_eq_true.2 ⟨v, hv, h⟩)
    unfold outB at h1
    rw [Bool.or_eq_true, decide_eq_true_eq, decide_eq_true_eq] at h1
    omega
  cases hq : putE it.blk it.plc it.mks f with
  | error x => rw [hq] at e; cases e
  | ok f' =>
    rw [hq] at e
    dsimp only at e
    split at e
    · cases e
    · have : f' = g := by injection e
      subst this
      obtain ⟨t1, t2, t3⟩ := thing_of it
      have h := putE_fold hq
      unfold siteT
      rw [t1, t2, t3, site_fold hm, h]
      exact ⟨rfl, h ▸ fold_within hm hf⟩
theorem run_site {params : Int} {n : Nat} (hp : 0 ≤ params) : ∀ {l : List Item} {f g : Spots}, Within f → runI (lookI (look1 params n)) l f = .ok g → (l.map Item.thing).foldl siteT f = g ∧ Within g
  | [], f, g, hf, e => by
    have : f = g := by injection e
    subst this; exact ⟨rfl, hf⟩
  | it :: l, f, g, hf, e => by
    unfold runI at e
    rw [step_eq] at e
    cases hs : stepG params n it f with
    | error x => rw [hs] at e; cases e
    | ok f' =>
      rw [hs] at e
      obtain ⟨h1, h2⟩ := step_site hp hf hs
      rw [List.map_cons, List.foldl_cons, h1]
      exact run_site hp h2 e
theorem sites_same {params : Int} {n : Nat} {bs : List PBlock} {f : Spots} (hp : 0 ≤ params) (e : overE (look1 params n) bs (fun _ => none) = .ok f) : sitesF (thingsL bs) = f ∧ Within f := by
  rw [over_items] at e
  have := run_site hp (fun _ _ h => by cases h) e
  rw [items_things] at this
  exact this
/-- Does a value stand on all ways to a place: both ways to ask it. -/
theorem stand_same {params : Int} {bs : List PBlock} {f : Spots} {away : Nat → Nat → Bool} (h0 : 0 < bs.length) (hw : Within f) (hi : InB bs.length f) (hall : ∀ b, b < bs.length → Gl.Way (rowsP bs) (-1) b) (haw : ∀ a b, a < bs.length → (away a b = true ↔ Gl.Way (rowsP bs) a b))
    (v : Int) {a : Nat} (ha : a < bs.length) {p : Int} (hp : 0 ≤ p) :
    knownB params f (fun b => (spansZ (orderN (tidyN (rowsP bs))) (idomN (tidyN (rowsP bs)))).getD b (0, 0)) v a p = standB params f away v a p := by
  have hg : 0 < (rowsP bs).length := by rw [rowsP_len]; exact h0
  unfold knownB standB
  by_cases h1 : 0 ≤ v ∧ v < params
  · rw [if_pos h1, if_pos h1]
  · rw [if_neg h1, if_neg h1]
    cases hs : f v with
    | none => dsimp only; split <;> rfl
    | some s =>
      rw [if_pos (hw v s hs)]
      dsimp only
      by_cases he : s.1 = (a : Int)
      · rw [if_pos he, if_pos he]
        by_cases hn : s.2 < 0
        · rw [decide_eq_true hn, Bool.true_or, decide_eq_true (show s.2 < p by omega)]
        · rw [decide_eq_false hn, Bool.false_or]
      · rw [if_neg he, if_neg he]
        obtain ⟨b, hb, hbl⟩ := hi v s hs
        rw [hb, Int.toNat_natCast]
        have hmb := (mem_order hg).2 (hall b hbl)
        have hma := (mem_order hg).2 (hall a ha)
        have hlt : ∀ x ∈ orderN (tidyN (rowsP bs)), x < (idomN (tidyN (rowsP bs))).length := fun x hx => by
          have := ((mem_order hg).1 hx).lt
          rw [idom_len]
          exact this
        rw [spansZ_same hlt hmb, spansZ_same hlt hma]
        have hsd := span_dom hg hma hmb
        have e1 : holds ((spansN (orderN (tidyN (rowsP bs))) (idomN (tidyN (rowsP bs)))).getD b (0, 0)) ((spansN (orderN (tidyN (rowsP bs))) (idomN (tidyN (rowsP bs)))).getD a (0, 0)) = backS (spansN (orderN (tidyN (rowsP bs))) (idomN (tidyN (rowsP bs)))) a b := rfl
        rw [e1, hsd]
        have hne : ¬ b = a := fun e => he (by rw [hb, e])
        cases hx : away b a with
        | true =>
          have hy := (haw b a hbl).1 hx
          cases hd : domB (rowsP bs) (b : Nat) (a : Nat) with
          | false => rfl
          | true => exact absurd hy ((domB_iff.1 hd).2.2.resolve_left hne)
        | false =>
          refine domB_iff.2 ⟨hall b hbl, hall a ha, Or.inr fun hy => ?_⟩
          rw [(haw b a hbl).2 hy] at hx; cases hx
theorem preds_come (bs : List PBlock) : lii (turnN (tidyN (rowsP bs))) = (List.range bs.length).map fun b : Nat => comeL bs b bs.length := by
  have hl : (lii (turnN (tidyN (rowsP bs)))).length = bs.length := by unfold lii; rw [List.length_map, turnN_len, tidyN_len, rowsP_len]
  refine List.ext_getElem (by rw [hl, List.length_map, List.length_range]) fun b h1 h2 => ?_
  have hb : b < bs.length := by rw [hl] at h1; exact h1
  have := come_same hb
  rw [List.getD_eq_getElem?_getD, List.getElem?_eq_getElem h1, Option.getD_some] at this
  rw [this, List.getElem_map, List.getElem_range]
theorem runI_congr {σ α : Type} {h h' : α → σ → Except Fault σ} : ∀ (l : List α) (s : σ), (∀ x ∈ l, ∀ s, h x s = h' x s) → runI h l s = runI h' l s
  | [], s, _ => rfl
  | x :: l, s, e => by
    unfold runI
    rw [e x (List.mem_cons_self ..) s]
    cases h' x s with
    | error f => rfl
    | ok s' => exact runI_congr l s' fun y hy => e y (List.mem_cons_of_mem _ hy)
theorem all_congr {α : Type} {p q : α → Bool} : ∀ {l : List α}, (∀ x ∈ l, p x = q x) → l.all p = l.all q
  | [], _ => rfl
  | x :: l, h => by
    rw [List.all_cons, List.all_cons, h x (List.mem_cons_self ..), all_congr fun y hy => h y (List.mem_cons_of_mem _ hy)]
theorem ins_of_nonneg (bs : List PBlock) (b : Int) : 0 ≤ insOf bs b := by
  unfold insOf
  cases bs[b.toNat]? with
  | none => exact Int.le_refl _
  | some x => exact Int.natCast_nonneg _
theorem second_same {bs : List PBlock} {preds : List (List Int)} {K K' : Int → Nat → Int → Bool} (hpr : ∀ b, ∀ x ∈ preds.getD b [], 0 ≤ x ∧ x < bs.length) (hK : ∀ v a p, a < bs.length → 0 ≤ p → K v a p = K' v a p) :
    overE (look2 bs preds K) bs () = overE (look2 bs preds K') bs () := by
  rw [over_items, over_items]
  refine runI_congr _ _ fun it hit s => ?_
  have hf := items_fit bs it hit
  cases it with
  | phi b n p =>
    show (if (b : Int) = 0 ∨ p.ins.map (·.1) ≠ preds.getD (b : Int).toNat [] then (Except.error (16, (b : Int), -1 - (n : Int)) : Except Fault Unit) else if p.ins.all (fun i => K i.2 i.1.toNat (insOf bs i.1)) = true then .ok () else .error (13, (b : Int), -1 - (n : Int))) =
      if (b : Int) = 0 ∨ p.ins.map (·.1) ≠ preds.getD (b : Int).toNat [] then (Except.error (16, (b : Int), -1 - (n : Int)) : Except Fault Unit) else if p.ins.all (fun i => K' i.2 i.1.toNat (insOf bs i.1)) = true then .ok () else .error (13, (b : Int), -1 - (n : Int))
    split
    · rfl
    · rename_i hn
      have he : p.ins.map (·.1) = preds.getD (b : Int).toNat [] := Classical.byContradiction fun h => hn (Or.inr h)
      rw [all_congr (q := fun i => K' i.2 i.1.toNat (insOf bs i.1)) fun i hi => ?_]
      have hm : i.1 ∈ preds.getD (b : Int).toNat [] := by rw [← he]; exact List.mem_map.2 ⟨i, hi, rfl⟩
      have := hpr _ _ hm
      exact hK _ _ _ (by omega) (ins_of_nonneg bs i.1)
  | ins b n i =>
    obtain ⟨hb, _⟩ := hf
    show takeE K (b : Int) (n : Int) i.args = takeE K' (b : Int) (n : Int) i.args
    unfold takeE
    rw [all_congr (q := fun v => K' v (b : Int).toNat (n : Int)) fun v _ => hK _ _ _ (by rw [Int.toNat_natCast]; exact hb) (Int.natCast_nonneg _)]
  | term b x =>
    obtain ⟨hb, _⟩ := hf
    show takeE K (b : Int) (x.ins.length : Int) x.term.args = takeE K' (b : Int) (x.ins.length : Int) x.term.args
    unfold takeE
    rw [all_congr (q := fun v => K' v (b : Int).toNat (x.ins.length : Int)) fun v _ => hK _ _ _ (by rw [Int.toNat_natCast]; exact hb) (Int.natCast_nonneg _)]
/-- The first block that is not reached. -/
def missF (n : Nat) (all : Nat → Bool) : Option Fault := ((List.range n).find? fun (b : Nat) => !all b).map fun (b : Nat) => ((15 : Int), (b : Int), (0 : Int))
/-- What the document says is wrong first. -/
def refE (params : Int) (bs : List PBlock) (all : Nat → Bool) (away : Nat → Nat → Bool) : Except Fault Unit :=
  match limitsF params bs with
  | some e => .error e
  | none => match overE (look1 params bs.length) bs fun _ => none with
    | .error e => .error e
    | .ok f => match missF bs.length all with
      | some e => .error e
      | none => overE (look2 bs ((List.range bs.length).map fun b : Nat => comeL bs b bs.length) (standB params f away)) bs ()
theorem find_same {n m : Nat} {p q : Nat → Bool} (hn : n = m) (h : ∀ b, b < n → p b = q b) : (List.range n).find? p = (List.range m).find? q := by
  subst hn
  have : ∀ l : List Nat, (∀ b ∈ l, p b = q b) → l.find? p = l.find? q := by
    intro l
    induction l with
    | nil => intro _; rfl
    | cons x l ih =>
      intro hl
      rw [List.find?_cons, List.find?_cons, hl x (List.mem_cons_self ..), ih fun b hb => hl b (List.mem_cons_of_mem _ hb)]
  exact this _ fun b hb => h b (List.mem_range.1 hb)
theorem miss_same {bs : List PBlock} {all : Nat → Bool} (h0 : 0 < bs.length) (hal : ∀ b, all b = true ↔ Gl.Way (rowsP bs) (-1) b) : reachF (idomN (tidyN (rowsP bs))) = missF bs.length all := by
  have hg : 0 < (rowsP bs).length := by rw [rowsP_len]; exact h0
  have hl : (idomN (tidyN (rowsP bs))).length = bs.length := by rw [idom_len, rowsP_len]
  have key : ∀ b, b < (idomN (tidyN (rowsP bs))).length → (decide (0 < b) && decide ((idomN (tidyN (rowsP bs))).getD b 0 < 0)) = !all b := fun b hb => by
    rw [hl] at hb
    have hi := idom_neg hg (b := b) (by rw [rowsP_len]; exact hb)
    cases hx : all b with
    | true =>
      have hw := (hal b).1 hx
      show _ = false
      rw [Bool.and_eq_false_iff, decide_eq_false_iff_not, decide_eq_false_iff_not]
      by_cases hb0 : b = 0
      · exact Or.inl (by omega)
      · exact Or.inr fun h => (hi.1 h).elim hb0 fun h => h hw
    | false =>
      have hw : ¬ Gl.Way (rowsP bs) (-1) b := fun h => by rw [(hal b).2 h] at hx; cases hx
      show _ = true
      rw [Bool.and_eq_true, decide_eq_true_eq, decide_eq_true_eq]
      refine ⟨?_, hi.2 (Or.inr hw)⟩
      rcases Nat.eq_zero_or_pos b with rfl | h
      · exact absurd (Gl.Way.root hg (by decide)) hw
      · exact h
  unfold reachF missF
  rw [find_same hl key]
  cases (List.range bs.length).find? (fun (b : Nat) => !all b) <;> rfl
/-- What is wrong first is what the document says. -/
theorem ref_same {params : Int} {bs : List PBlock} {all : Nat → Bool} {away : Nat → Nat → Bool} (hal : ∀ b, all b = true ↔ Gl.Way (rowsP bs) (-1) b) (haw : ∀ a b, a < bs.length → (away a b = true ↔ Gl.Way (rowsP bs) a b)) :
    refE params bs all away = checkE params bs := by
  unfold refE checkE funcE
  cases hlim : limitsF params bs with
  | some e => rfl
  | none =>
    dsimp only
    have hp : 0 ≤ params ∧ 0 < bs.length := by
      unfold limitsF at hlim
      split at hlim
      · cases hlim
      split at hlim
      · cases hlim
      omega
    cases hm : overE (look1 params bs.length) bs (fun _ => none) with
    | error e => rfl
    | ok f =>
      dsimp only
      rw [miss_same hp.2 hal]
      cases hx : missF bs.length all with
      | some e => rfl
      | none =>
        dsimp only
        have hall : ∀ b, b < bs.length → Gl.Way (rowsP bs) (-1) b := fun b hb => by
          unfold missF at hx
          rw [Option.map_eq_none_iff, List.find?_range_eq_none] at hx
          have := hx b hb
          rw [Bool.not_not] at this
          exact (hal b).1 this
        rw [← preds_come]
        refine second_same (fun b => preds_in) fun v a p ha hp' => ?_
        exact (stand_same hp.2 (sites_same hp.1 hm).2 (made_in (fun _ _ h => by cases h) hm) hall haw v ha hp').symm
end Go.Proofs.Ytdfehpcbcgbidaa.Rf
/- The document's answer of layer 3: what jacquardref03.Func's walk goes by, and functions of no blocks. -/
namespace Go.Proofs.Ytdfehpcbcgbidaa.Rf
open Go.ChangeShapes Go.WideShapes Go.ChangeAt Go.RowKit Go.Maps Go.Proofs.Ytdfehpcbcgbidaa.Mem Go.Proofs.Ytdfehpcbcgbidaa.Br Go.Proofs.Ytdfehpcbcgbidaa.Gr Go.Proofs.Ytdfehpcbcgbidaa.Kc Go.Proofs.Ytdfehpcbcgbidaa.Gn Go.Proofs.Ytdfehpcbcgbidaa.Gc Go.Proofs.Ytdfehpcbcgbidaa.Gl
set_option linter.unusedVariables false
/-- What is wrong with a shape has a number. -/
theorem putE_code {b p : Int} : ∀ {vs : List Int} {f : Spots} {e : Fault}, putE b p vs f = .error e → e.1 = 12
  | [], f, e, h => by cases h
  | v :: vs, f, e, h => by
    unfold putE at h
    split at h
    · injection h with h; subst h; rfl
    · exact putE_code (vs := vs) h
theorem step_code {params : Int} {n : Nat} {it : Item} {f : Spots} {e : Fault} (h : stepG params n it f = .error e) : e.1 ≠ 0 := by
  unfold stepG at h
  split at h
  · injection h with h; subst h; exact (by decide : (10 : Int) ≠ 0)
  split at h
  · injection h with h; subst h; exact (by decide : (11 : Int) ≠ 0)
  cases hq : putE it.blk it.plc it.mks f with
  | error x =>
    rw [hq] at h
    have : x = e := by injection h
    subst this
    rw [putE_code hq]; decide
  | ok f' =>
    rw [hq] at h
    dsimp only at h
    split at h
    · injection h with h; subst h; exact (by decide : (14 : Int) ≠ 0)
    · cases h
theorem first_code {params : Int} {n : Nat} {bs : List PBlock} {f : Spots} {e : Fault} (h : overE (look1 params n) bs f = .error e) : e.1 ≠ 0 := by
  rw [over_items] at h
  generalize itemsL bs = l at h
  induction l generalizing f with
  | nil => cases h
  | cons it l ih =>
    unfold runI at h
    rw [step_eq] at h
    cases hs : stepG params n it f with
    | error x =>
      rw [hs] at h
      have : x = e := by injection h
      subst this
      exact step_code hs
    | ok f' => rw [hs] at h; exact ih h
section
variable {params : Int} {bs : List PBlock}
theorem check_limits {e : Fault} (h : limitsF params bs = some e) : checkE params bs = .error e := by
  unfold checkE funcE; rw [h]
theorem check_shape {e : Fault} (h : limitsF params bs = none) (h1 : overE (look1 params bs.length) bs (fun _ => none) = .error e) : checkE params bs = .error e := by
  unfold checkE funcE; rw [h]; dsimp only; rw [h1]
/-- Is there a way from block 0 that leaves one out? -/
noncomputable def wayB (bs : List PBlock) (gone : Int) (b : Nat) : Bool := @decide (Gl.Way (rowsP bs) gone b) (Classical.propDecidable _)
theorem wayB_iff {gone : Int} {b : Nat} : wayB bs gone b = true ↔ Gl.Way (rowsP bs) gone b := by
  unfold wayB; exact @decide_eq_true_iff _ (Classical.propDecidable _)
theorem wayB_of {gone : Int} {l : List Bool} (h : ∀ b, l.getD b false = true ↔ Gl.Way (rowsP bs) gone b) (b : Nat) : l.getD b false = wayB bs gone b := by
  cases hx : l.getD b false with
  | true => exact (wayB_iff.2 ((h b).1 hx)).symm
  | false =>
    cases hy : wayB bs gone b with
    | false => rfl
    | true => rw [(h b).2 (wayB_iff.1 hy)] at hx; cases hx
theorem check_refE : refE params bs (wayB bs (-1)) (fun a => wayB bs (a : Int)) = checkE params bs := ref_same (fun b => wayB_iff) (fun a b _ => wayB_iff)
theorem check_miss {f : Spots} {e : Fault} (h : limitsF params bs = none) (h1 : overE (look1 params bs.length) bs (fun _ => none) = .ok f) (h2 : missF bs.length (wayB bs (-1)) = some e) : checkE params bs = .error e := by
  rw [← check_refE]; unfold refE; rw [h]; dsimp only; rw [h1]; dsimp only; rw [h2]
theorem check_second {f : Spots} (h : limitsF params bs = none) (h1 : overE (look1 params bs.length) bs (fun _ => none) = .ok f) (h2 : missF bs.length (wayB bs (-1)) = none) :
    checkE params bs = runI (lookI (look2 bs ((List.range bs.length).map fun b : Nat => comeL bs b bs.length) (standB params (sitesF (thingsL bs)) fun a => wayB bs (a : Int)))) (itemsL bs) () := by
  have hp : 0 ≤ params := by
    unfold limitsF at h
    split at h
    · cases h
    · omega
  rw [← check_refE, ← over_items, (sites_same hp h1).1]; unfold refE; rw [h]; dsimp only; rw [h1]; dsimp only; rw [h2]
theorem miss_some {n : Nat} {all : Nat → Bool} {k : Nat} (hk : k < n) (hb : all k = false) (hpre : ∀ j, j < k → all j = true) : missF n all = some (15, (k : Int), 0) := by
  have : (List.range n).find? (fun b => !all b) = some k := by
    rw [List.find?_range_eq_some]
    exact ⟨by rw [hb]; rfl, List.mem_range.2 hk, fun j hj => by rw [hpre j hj]; rfl⟩
  unfold missF; rw [this]; rfl
theorem miss_none {n : Nat} {all : Nat → Bool} (hpre : ∀ j, j < n → all j = true) : missF n all = none := by
  have : (List.range n).find? (fun b => !all b) = none := by
    rw [List.find?_range_eq_none]
    intro j hj
    rw [hpre j hj]; rfl
  unfold missF; rw [this]; rfl
end
/-- The blocks' rows of what is reached without each, as the call lays them. -/
def AwayOwn (B : Nat) (w : World) (bs : List PBlock) (v : Value) (k : Nat) : Prop :=
  ∃ gs : List Nat, gs.length = k ∧ w.ownsRow B 80 1 v k (gs.map fun g => Value.slice (some ⟨g, 0, none⟩) bs.length bs.length) ∧
    ∀ i (h : i < gs.length), ∃ l : List Bool, l.length = bs.length ∧ Bools B gs[i] w l ∧ ∀ x, l.getD x false = wayB bs (i : Int) x
theorem AwayOwn.below {B : Nat} {w w' : World} {bs : List PBlock} {v : Value} {k : Nat} (h : AwayOwn B w bs v k) (hb : Below w.heap.size w w') : AwayOwn B w' bs v k := by
  obtain ⟨gs, h1, h2, h3⟩ := h
  exact ⟨gs, h1, own_below h2 hb, fun i hi => by obtain ⟨l, a, b, c⟩ := h3 i hi; exact ⟨l, a, own_below b hb, c⟩⟩
theorem AwayOwn.at {B : Nat} {w : World} {bs : List PBlock} {gA c : Nat} (h : AwayOwn B w bs (.slice (some ⟨gA, 0, none⟩) bs.length c) bs.length) : AwayAt w gA bs.length fun a => wayB bs (a : Int) := fun b hb => by
  obtain ⟨gs, h1, h2, h3⟩ := h
  have hbg : b < gs.length := by omega
  obtain ⟨l, a1, a2, a3⟩ := h3 b hbg
  refine ⟨gs[b], ?_, fun x hx => ?_⟩
  · have hc := World.ownsRow.cellAt h2 b (show b < bs.length * 1 by omega)
    rw [List.getElem?_map, List.getElem?_eq_getElem hbg] at hc
    exact hc
  · have hxl : x < l.length := by omega
    have hx3 := a3 x
    rw [List.getD_eq_getElem?_getD, List.getElem?_eq_getElem hxl, Option.getD_some] at hx3
    show _ = some (Value.bool (wayB bs (b : Int) x))
    rw [← hx3]
    exact a2.cell hxl
theorem AwayOwn.form {B : Nat} {w : World} {bs : List PBlock} {v : Value} {k : Nat} (h : AwayOwn B w bs v k) : ∃ A c, v = .slice A k c ∧ (0 < k → ∃ g, A = some ⟨g, 0, none⟩) := by
  obtain ⟨gs, h1, h2, h3⟩ := h
  rcases h2.2 with ⟨rfl, h0⟩ | ⟨g, c, cur, rfl, _⟩
  · exact ⟨none, 0, by rw [h0], fun hk => by omega⟩
  · exact ⟨some ⟨g, 0, none⟩, c, rfl, fun _ => ⟨g, rfl⟩⟩
theorem AwayOwn.push {B : Nat} {w w' : World} {bs : List PBlock} {v v' : Value} {gs : List Nat} {g k : Nat} {l : List Bool} (hk : gs.length = k)
    (h2 : w.ownsRow B 80 1 v k (gs.map fun g => Value.slice (some ⟨g, 0, none⟩) bs.length bs.length))
    (h3 : ∀ i (h : i < gs.length), ∃ l : List Bool, l.length = bs.length ∧ Bools B gs[i] w l ∧ ∀ x, l.getD x false = wayB bs (i : Int) x)
    (hl : l.length = bs.length) (hbl : Bools B g w l) (hs : ∀ x, l.getD x false = wayB bs (k : Int) x)
    (hr : w'.ownsRow B 80 1 v' (k + 1) ((gs.map fun g => Value.slice (some ⟨g, 0, none⟩) bs.length bs.length) ++ [Value.slice (some ⟨g, 0, none⟩) bs.length bs.length])) (hg : w.grownBy w' v.ownBlock) :
    AwayOwn B w' bs v' (k + 1) := by
  subst hk
  refine ⟨gs ++ [g], by simp, by rw [List.map_append]; exact hr, fun i hi => ?_⟩
  rcases Nat.lt_or_ge i gs.length with h | h
  · obtain ⟨l', a1, a2, a3⟩ := h3 i h
    rw [List.getElem_append_left h]
    exact ⟨l', a1, World.ownsRow.kept a2 hg (own_apart a2 h2 (by decide)), a3⟩
  · rw [List.length_append] at hi
    have : i = gs.length := by simp at hi; omega
    subst this
    rw [List.getElem_append_right (Nat.le_refl _)]
    simp only [Nat.sub_self, List.getElem_cons_zero]
    exact ⟨l, hl, World.ownsRow.kept hbl hg (own_apart hbl h2 (by decide)), hs⟩
/-- All that things make are ints. -/
theorem things_int {bs : List PBlock} (h : WfP bs) : ∀ t ∈ thingsL bs, ∀ n ∈ t.makes, InI n := by
  intro t ht n hn
  rw [← items_things] at ht
  obtain ⟨it, hit, rfl⟩ := List.mem_map.1 ht
  have hf := items_fit bs it hit
  cases it with
  | phi b k p =>
    obtain ⟨hb, hk, e⟩ := hf
    have hn' : n = p.dst := by simpa [Item.thing, phiT] using hn
    subst hn'
    exact (h.phi _ (List.getElem_mem hb) p (e ▸ List.getElem_mem hk)).1
  | ins b k i =>
    obtain ⟨hb, hk, e⟩ := hf
    have hi := h.ins _ (List.getElem_mem hb) i (e ▸ List.getElem_mem hk)
    have hn' : n ∈ prodL i.op i.dst i.two := hn
    unfold prodL at hn'
    split at hn'
    · cases hn'
    · split at hn'
      · rcases List.mem_cons.1 hn' with e | e
        · subst e; exact hi.1
        · rw [List.mem_singleton] at e; subst e; exact hi.2.1
      · rw [List.mem_singleton] at hn'; subst hn'; exact hi.1
  | term b x => cases hn
/-- What lies there all along. -/
def Fs (w : World) (params : Int) (fv : Value) (wr : World) : Prop := Below w.heap.size w wr ∧ Str wr w.heap.size 24 [.int .i64 params, fv] ∧ Str wr (w.heap.size + 1) 50 [.int .i64 0, .int .i64 0, .int .i64 0]
theorem Fs.below {w : World} {params : Int} {fv : Value} {wr wr' : World} (h : Fs w params fv wr) (hb : Below wr.heap.size wr wr') : Fs w params fv wr' := ⟨h.1.trans (hb.mono h.1.size), h.2.1.below hb, h.2.2.below hb⟩
theorem kinds2 {preds : List (List Int)} {K : Int → Nat → Int → Bool} (bs : List PBlock) (it : Item) (h : Fits bs it) (hb : it.blk < bs.length) :
    (∃ n : Nat, ∃ hn : n < bs[it.blk].phis.length, it.plc = -1 - (n : Int) ∧ lookI (look2 bs preds K) it () = (look2 bs preds K).phi (it.blk : Int) it.plc bs[it.blk].phis[n] ()) ∨
    (0 ≤ it.plc ∧ lookI (look2 bs preds K) it () = takeE K (it.blk : Int) it.plc it.thing.takes) := by
  cases it with
  | phi b n p =>
    obtain ⟨_, hn, e⟩ := h
    refine Or.inl ⟨n, hn, rfl, ?_⟩
    show (look2 bs preds K).phi (b : Int) (-1 - (n : Int)) p () = (look2 bs preds K).phi (b : Int) (-1 - (n : Int)) bs[b].phis[n] ()
    rw [e]
  | ins b n i => exact Or.inr ⟨Int.natCast_nonneg _, rfl⟩
  | term b x => exact Or.inr ⟨Int.natCast_nonneg _, rfl⟩
theorem all_take_succ {α : Type} {p : α → Bool} {l : List α} {q : Nat} (hq : q < l.length) (h : (l.take q).all p = true) : (l.take (q + 1)).all p = p l[q] := by
  rw [List.take_succ_eq_append_getElem hq, List.all_append, h]; simp
theorem all_of_take {α : Type} {p : α → Bool} {l : List α} {q : Nat} (h : (l.take q).all p = false) : l.all p = false := by
  rw [← List.take_append_drop q l, List.all_append, h]; rfl
theorem SitesAt.below {B g : Nat} {w w' : World} {f : Spots} (h : SitesAt B g w f) (hb : Below w.heap.size w w') : SitesAt B g w' f := by
  obtain ⟨es, a, b, c⟩ := h
  exact ⟨es, own_below a hb, b, c⟩
/-- What lies there while one thing's operands are looked at. -/
structure Sv (w : World) (params : Int) (fv : Value) (B gS gW n : Nat) (F : Spots) (away : Nat → Nat → Bool) (tb xb : Nat) (tv xv : List Value) (kv : Value) (ks : List Int) (wr : World) : Prop where
  fs : Fs w params fv wr
  sites : SitesAt B gS wr F
  away : AwayAt wr gW n away
  thing : Str wr tb 87 tv
  block : Str wr xb 34 xv
  ints : Ints wr kv ks
theorem Sv.keep {w : World} {params : Int} {fv : Value} {B gS gW n : Nat} {F : Spots} {away : Nat → Nat → Bool} {tb xb : Nat} {tv xv : List Value} {kv : Value} {ks : List Int} {wr wr' : World} (h : Sv w params fv B gS gW n F away tb xb tv xv kv ks wr) (hb : Below wr.heap.size wr wr') : Sv w params fv B gS gW n F away tb xb tv xv kv ks wr' :=
  ⟨h.fs.below hb, h.sites.below hb, h.away.below hb, h.thing.below hb, h.block.below hb, h.ints.keep hb⟩
theorem phi_cases {bs : List PBlock} {preds : List (List Int)} {K : Int → Nat → Int → Bool} {b pl : Int} {ph : PPhi} {r : Unit → Except Fault Unit} {C : Except Fault Unit} {cl : List Int} (hc : preds.getD b.toNat [] = cl) (h : bindE r ((look2 bs preds K).phi b pl ph ()) = C) :
    ((b = 0 ∨ ph.ins.map (·.1) ≠ cl) → toldS C = (16, b, pl)) ∧ (¬ (b = 0 ∨ ph.ins.map (·.1) ≠ cl) → (ph.ins.all fun i => K i.2 i.1.toNat (insOf bs i.1)) = false → toldS C = (13, b, pl)) ∧
      (¬ (b = 0 ∨ ph.ins.map (·.1) ≠ cl) → (ph.ins.all fun i => K i.2 i.1.toNat (insOf bs i.1)) = true → r () = C) := by
  have h : bindE r (if b = 0 ∨ ph.ins.map (·.1) ≠ preds.getD b.toNat [] then .error (16, b, pl) else if (ph.ins.all fun i => K i.2 i.1.toNat (insOf bs i.1)) = true then .ok () else .error (13, b, pl)) = C := h
  rw [hc] at h
  refine ⟨fun hb => ?_, fun hb ha => ?_, fun hb ha => ?_⟩
  · rw [if_pos hb] at h; rw [← h]; rfl
  · rw [if_neg hb, if_neg (by rw [ha]; simp)] at h; rw [← h]; rfl
  · rw [if_neg hb, if_pos ha] at h; exact h
theorem come_get {bs : List PBlock} {b : Nat} (hb : b < bs.length) : ((List.range bs.length).map fun b : Nat => comeL bs b bs.length).getD (b : Int).toNat [] = comeL bs b bs.length := by
  rw [Int.toNat_natCast, List.getD_eq_getElem?_getD, List.getElem?_map, List.getElem?_range hb]; rfl
theorem come_in {bs : List PBlock} {b : Int} {x : Int} (h : x ∈ comeL bs b bs.length) : ∃ a : Nat, x = (a : Int) ∧ a < bs.length := by
  unfold comeL at h
  obtain ⟨a, ha, rfl⟩ := List.mem_map.1 h
  exact ⟨a, rfl, List.mem_range.1 (List.mem_filter.1 ha).1⟩
theorem ins_of_at {bs : List PBlock} {a : Nat} (ha : a < bs.length) : insOf bs (a : Int) = (bs[a].ins.length : Int) := by
  unfold insOf
  rw [Int.toNat_natCast, List.getElem?_eq_getElem ha]; rfl
theorem take_next {l : List (Int × Int)} {r : List Int} {q : Nat} (h : (l.map (·.1)).take q = r.take q) (hl : q < l.length) (hr : q < r.length) (e : l[q].1 = r[q]) : (l.map (·.1)).take (q + 1) = r.take (q + 1) := by
  rw [List.take_succ_eq_append_getElem (by rw [List.length_map]; exact hl), List.take_succ_eq_append_getElem hr, h, List.getElem_map, e]
theorem take_ne {l : List (Int × Int)} {r : List Int} {q : Nat} (hl : q < l.length) (hr : q < r.length) (e : l[q].1 ≠ r[q]) : l.map (·.1) ≠ r := fun h => by
  subst h
  exact e (by rw [List.getElem_map])
theorem gotF_ret {a : Act} {wr w : World} {g : Nat} {x y z : Int} (h : Str wr g 50 [.int .i64 x, .int .i64 y, .int .i64 z]) (hb : Below w.heap.size w wr) (ha : a.tmps[2]? = some (.pointer (some ⟨g, 0, none⟩))) (hd : a.defers = []) :
    bodyPost Try.prog Try.f18 (fun e w' => e = .returned (gotV (x, y, z)) ∧ Below w.heap.size w w') Exit.ret a wr := by
  have c0 : wr.cell? ⟨g, 0, none⟩ = some (.int .i64 x) := h.cell 0
  have c1 : wr.cell? ⟨g, 1, none⟩ = some (.int .i64 y) := h.cell 1
  have c2 : wr.cell? ⟨g, 2, none⟩ = some (.int .i64 z) := h.cell 2
  obtain ⟨tm, df⟩ := a
  have hd' : df = [] := hd
  subst hd'
  have ha' : tm[2]? = some (.pointer (some ⟨g, 0, none⟩)) := ha
  refine ⟨rfl, gotV (x, y, z), ?_, rfl, hb⟩
  simp only [results]
  go_simp
  rfl
end Go.Proofs.Ytdfehpcbcgbidaa.Rf
