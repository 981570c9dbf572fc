/- Moves, plainly: what an order's instructions look like; orders of made moves lack nothing. -/
import Derived.Test.YtdohaoomckhbgaaVS2
namespace Go.Proofs.Ytdohaoomckhbgaa.Vm
open Go.ChangeShapes Go.WideShapes Go.ChangeAt Go.RowKit Go.Maps Go.WideElems Go.ChangeMaps Go.Sort Go.Shelf Go.Proofs.Ytdohaoomckhbgaa.Mem Go.Proofs.Ytdohaoomckhbgaa.Br Go.Proofs.Ytdohaoomckhbgaa.Va Go.Proofs.Ytdohaoomckhbgaa.Vr
set_option linter.unusedVariables false
set_option linter.unusedSimpArgs false
def AllO (P : PM → Prop) (o : Option (List PM)) : Prop := ∀ xs, o = some xs → ∀ x ∈ xs, P x
theorem allO_app {P : PM → Prop} {a b : Option (List PM)} (ha : AllO P a) (hb : AllO P b) : AllO P (appO a b) := by
  intro xs h x hx
  cases a with
  | none => rw [appO_none_l] at h; cases h
  | some y =>
    cases b with
    | none => rw [appO_none_r] at h; cases h
    | some z =>
      have e : y ++ z = xs := by injection h
      rw [← e] at hx
      rcases List.mem_append.1 hx with h | h
      · exact ha _ rfl x h
      · exact hb _ rfl x h
theorem allO_foldM {α : Type} {P : PM → Prop} (g : α → Option (List PM)) : ∀ (ms : List α) (a : Option (List PM)), AllO P a → (∀ m ∈ ms, AllO P (g m)) → AllO P (ms.foldl (fun acc m => appO acc (g m)) a)
  | [], a, ha, _ => ha
  | m :: ms, a, ha, h => allO_foldM g ms _ (allO_app ha (h m (by simp))) (fun q hq => h q (by simp [hq]))
theorem allO_seq {P : PM → Prop} {g : Mov → Option (List PM)} {ms : List Mov} (h : ∀ m ∈ ms, AllO P (g m)) : AllO P (seqO g ms) :=
  allO_foldM g ms _ (fun xs e x hx => by cases e; cases hx) h
theorem allO_seqP {P : PM → Prop} {g : Int → Option (List PM)} {ms : List Int} (h : ∀ m ∈ ms, AllO P (g m)) : AllO P (seqP g ms) :=
  allO_foldM g ms _ (fun xs e x hx => by cases e; cases hx) h
/-- No Args; Imm is a word. -/
def OkM (x : PM) : Prop := x.n = 0 ∧ -2147483648 ≤ x.imm ∧ x.imm ≤ 2147483647
def Bd (x : Int) : Prop := -100000 ≤ x ∧ x ≤ 100000
theorem ok_sld {r p : Int} (h : Bd p) : OkM (mSld r p) := ⟨rfl, by show -2147483648 ≤ p - 16; unfold Bd at h; omega, by show p - 16 ≤ 2147483647; unfold Bd at h; omega⟩
theorem ok_sst {r p : Int} (h : Bd p) : OkM (mSst r p) := ⟨rfl, by show -2147483648 ≤ p - 16; unfold Bd at h; omega, by show p - 16 ≤ 2147483647; unfold Bd at h; omega⟩
theorem ok_mov (a b : Int) : OkM (mMov a b) := ⟨rfl, by show (-2147483648 : Int) ≤ 0; omega, by show (0 : Int) ≤ 2147483647; omega⟩
theorem ok_swap (a b : Int) : OkM (mSwap a b) := ⟨rfl, by show (-2147483648 : Int) ≤ 0; omega, by show (0 : Int) ≤ 2147483647; omega⟩
theorem allO_bring {sc sp a b : Int} (hsp : sp < 16383) (ha : Bd a) (hb : Bd b) : AllO OkM (bringN sc sp a b) := by
  intro xs h x hx
  unfold bringN at h
  split at h
  · injection h with h; subst h
    rw [List.mem_singleton.1 hx]
    unfold bringR
    split
    · split
      · exact ok_mov _ _
      · exact ok_sld hb
    · exact ok_sst ha
  · split at h
    · injection h with h; subst h
      simp only [List.mem_cons, List.not_mem_nil, or_false] at hx
      rcases hx with rfl | rfl
      · exact ok_sld hb
      · exact ok_sst ha
    · split at h
      · cases h
      · have hq : Bd (16 + sp + 1) := by unfold Bd; omega
        injection h with h; subst h
        simp only [List.mem_cons, List.not_mem_nil, or_false] at hx
        rcases hx with rfl | rfl | rfl | rfl
        · exact ok_sst hq
        · exact ok_sld hb
        · exact ok_sst ha
        · exact ok_sld hq
theorem it_bd {f : Int → Int} (hf : ∀ y, Bd (f y)) {x : Int} (hx : Bd x) : ∀ i, Bd (it f x i)
  | 0 => hx
  | i + 1 => hf _
theorem allO_pass {sc sp x own : Int} {f : Int → Int} {N : Nat} (hsp : sp < 16383) (hx : Bd x) (ho : Bd own) (hf : ∀ y, Bd (f y)) : AllO OkM (passN sc sp x own (circ f x N)) := by
  refine allO_app (allO_bring hsp ho hx) (allO_seq fun m hm => ?_)
  unfold circ at hm
  obtain ⟨i, _, rfl⟩ := List.mem_map.1 hm
  unfold passG
  refine allO_bring hsp (it_bd hf hx i) ?_
  show Bd (if it f x (i + 1) = x then own else it f x (i + 1))
  split
  · exact ho
  · exact it_bd hf hx (i + 1)
theorem allO_turn {sc sp : Int} {f : Int → Int} {x : Int} {N : Nat} (hsc : sc < 16) (hsp : sp < 16383) (hx : Bd x) (hf : ∀ y, Bd (f y)) : AllO OkM (turnN sc sp f x N) := by
  unfold turnN
  split
  · split
    · intro xs h; cases h
    · exact allO_pass hsp hx (by unfold Bd; omega) hf
  · split
    · exact allO_pass hsp hx (by unfold Bd; omega) hf
    · intro xs h y hy
      injection h with h
      subst h
      unfold swapsN at hy
      obtain ⟨m, _, rfl⟩ := List.mem_map.1 hy
      exact ok_swap _ _
theorem pl_bd {x : Int} (h : InPl x) : Bd x := by unfold InPl at h; unfold Bd; omega
theorem es_sub {L es R : List Mov} (h : Goes L es R) : ∀ m ∈ es, ∃ t L', m = (t, srcD L' t) ∧ isTo L t = true ∧ ∀ q ∈ L', q ∈ L := by
  induction h with
  | stop hn => intro m hm; cases hm
  | @step L t es R hf _ ih =>
    intro m hm
    rcases List.mem_cons.1 hm with rfl | hm
    · exact ⟨t, L, rfl, loose_to hf.1, fun q hq => hq⟩
    · obtain ⟨t', L', e, h1, h2⟩ := ih m hm
      refine ⟨t', L', e, ?_, fun q hq => (mem_wo.1 (h2 q hq)).1⟩
      obtain ⟨q, hq, e2⟩ := isTo_iff.1 h1
      exact isTo_iff.2 ⟨q, (mem_wo.1 hq).1, e2⟩
theorem order_ok (l : List Mov) (sc sp : Int) : ∀ x ∈ (orderN l sc sp).1, OkM x := by
  unfold orderN
  by_cases hf : faultN l sc sp = 0
  · rw [if_pos hf]
    obtain ⟨hpl, hsc, hsp⟩ := faultN_zero hf
    have hgo := goes_greedy l.length (pendN l) (pendN_len l)
    have hsub := hgo.sub
    have hes := es_sub hgo
    generalize (greedyN l.length (pendN l)).1 = es at *
    generalize (greedyN l.length (pendN l)).2 = R at *
    have hP : Pls (pendN l) := fun m hm => hpl m (mem_pendN hm).1
    have hR : Pls R := fun m hm => hP m (hsub.1 m hm)
    have h : AllO OkM (carryN sc sp es R) := by
      refine allO_app (allO_seq fun m hm => ?_) (allO_seqP fun x hx => ?_)
      · obtain ⟨t, L', rfl, h1, h2⟩ := hes m hm
        obtain ⟨q, hq, e⟩ := isTo_iff.1 h1
        exact allO_bring hsp (pl_bd (e ▸ (hP q hq).1)) (pl_bd (srcD_pl (fun m hm => hP m (h2 m hm)) t))
      · obtain ⟨q, hq, e⟩ := isTo_iff.1 (leastN_to hx)
        exact allO_turn hsc hsp (pl_bd (e ▸ (hR q hq).1)) (fun y => pl_bd (srcD_pl hR y))
    cases hc : carryN sc sp es R with
    | none => intro x hx; cases hx
    | some xs => exact h xs hc
  · rw [if_neg hf]
    intro x hx; cases hx
theorem perD_le (f : Int → Int) (x : Int) (B : Nat) : perD f x B ≤ B := by
  unfold perD
  cases h : (List.range B).find? fun i => it f x (i + 1) == x with
  | none => exact Nat.zero_le _
  | some i =>
    have := List.mem_range.1 (List.mem_of_find?_eq_some h)
    simp; omega
theorem order_len {l : List Mov} (hl : l.length ≤ 200) (sc sp : Int) : (orderN l sc sp).1.length ≤ 300000 := by
  unfold orderN
  by_cases hf : faultN l sc sp = 0
  · rw [if_pos hf]
    have hgo := goes_greedy l.length (pendN l) (pendN_len l)
    have hsub := hgo.sub
    have hpl := pendN_len l
    generalize (greedyN l.length (pendN l)).1 = es at *
    generalize (greedyN l.length (pendN l)).2 = R at *
    cases hc : carryN sc sp es R with
    | none => exact Nat.zero_le _
    | some xs =>
      have h1 := appO_len (n := 4 * es.length) (m := (leastN R).length * 804) (fun ys h => by have := seqO_len (g := bringG sc sp) (fun m xs h => bringN_len h) es [] ys h; simpa using this) (fun ys h => by
        have h2 := seqP_len (g := turnG sc sp R) (n := 804) (fun x xs h => by
          have := turnN_len h
          have := perD_le (srcD R) x R.length
          omega) (leastN R) (leastN R).length ys (Nat.le_refl _) (by rw [List.take_length]; exact h)
        exact h2) hc
      have h3 := leastN_len R
      show xs.length ≤ 300000
      have h4 : (leastN R).length * 804 ≤ 200 * 804 := Nat.mul_le_mul_right _ (by omega)
      omega
  · rw [if_neg hf]; exact Nat.zero_le _
theorem pms_of_own {B : Nat} {w : World} {v : Value} {l : List PM} (h : OwnMach B w v l) (hk : ∀ x ∈ l, OkM x) : PmsAt w v l := by
  rcases h.2 with ⟨rfl, h0⟩ | ⟨g, cap, cur, rfl, _, hg, hn, hm, _⟩
  · have : l = [] := List.length_eq_zero_iff.1 h0
    subst this; exact rowAt_nil
  · have hj : ∀ (k : Nat) (hk : k < l.length) (j : Nat) (u : Value), j < 8 → (cellsM l[k])[j]? = some u → w.cell? ⟨g, 0 + k * 8 + j, none⟩ = some u := by
      intro k hk j u hj hu
      rw [Nat.zero_add]
      have h2 := World.ownsRow.cells h (g := g) rfl (k * 8 + j) u (by rw [flat_get l k j hk hj]; exact hu)
      rw [at_add0] at h2
      exact h2
    refine ⟨some ⟨g, 0, none⟩, cap, g, 0, rfl, hn, hm, fun _ => rfl, fun k h1 => ?_⟩
    obtain ⟨o1, o2, o3⟩ := hk l[k] (List.getElem_mem h1)
    exact ⟨hj k h1 0 _ (by omega) rfl, hj k h1 1 _ (by omega) rfl, hj k h1 2 _ (by omega) rfl, hj k h1 3 _ (by omega) rfl, hj k h1 4 _ (by omega) rfl, hj k h1 5 _ (by omega) rfl, hj k h1 6 _ (by omega) rfl, ⟨none, 0, by rw [o1]; exact hj k h1 7 _ (by omega) rfl⟩, o2, o3, by rw [o1]; unfold maxLen; omega⟩
end Go.Proofs.Ytdohaoomckhbgaa.Vm
