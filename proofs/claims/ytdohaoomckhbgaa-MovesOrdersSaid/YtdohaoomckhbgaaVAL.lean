/- Moves, plainly: what an order's instructions do to places, one by one. -/
import Derived.Test.YtdohaoomckhbgaaVPT
import Derived.Test.YtdohaoomckhbgaaVLB
import Derived.Test.YtdohaoomckhbgaaVE
namespace Go.Proofs.Ytdohaoomckhbgaa.Vm
open Go.ChangeShapes Go.WideShapes Go.ChangeAt Go.RowKit Go.Maps Go.WideElems Go.ChangeMaps Go.Sort Go.Shelf Go.Proofs.Ytdohaoomckhbgaa.Mem Go.Proofs.Ytdohaoomckhbgaa.Br Go.Proofs.Ytdohaoomckhbgaa.Va Go.Proofs.Ytdohaoomckhbgaa.Vr
set_option linter.unusedVariables false
set_option linter.unusedSimpArgs false
theorem doN_app (xs ys : List PM) (p : List Int) : doN (xs ++ ys) p = doN ys (doN xs p) := List.foldl_append
theorem doN_cons (x : PM) (ys : List PM) (p : List Int) : doN (x :: ys) p = doN ys (doI p x) := rfl
theorem regP_in {n : Int} (h : 0 ≤ n) (h2 : n < 16) : regP n = n := by unfold regP; rw [if_neg (by omega)]
theorem slotP_in {n : Int} (h : 16 ≤ n) : slotP (n - 16) = n := by unfold slotP; rw [if_neg (by omega)]; omega
theorem put40 {p : List Int} (hp : p.length = 40) {a : Int} (h : 0 ≤ a) (h2 : a < 40) (v b : Int) : atV (putL p a v) b = if b = a then v else atV p b := atV_put (by rw [hp]; exact hasB_yes h (by omega))
theorem mov_eff {p : List Int} (hp : p.length = 40) {d a : Int} (h : 0 ≤ d) (h2 : d < 16) (h3 : 0 ≤ a) (h4 : a < 16) (c : Int) : atV (doI p (mMov d a)) c = if c = d then atV p a else atV p c := by
  show atV (putL p (regP d) (atV p (regP a))) c = _
  rw [regP_in h h2, regP_in h3 h4, put40 hp h (by omega)]
theorem sld_eff {p : List Int} (hp : p.length = 40) {d a : Int} (h : 0 ≤ d) (h2 : d < 16) (h3 : 16 ≤ a) (h4 : a < 40) (c : Int) : atV (doI p (mSld d a)) c = if c = d then atV p a else atV p c := by
  show atV (putL p (regP d) (atV p (slotP (a - 16)))) c = _
  rw [regP_in h h2, slotP_in h3, put40 hp h (by omega)]
theorem sst_eff {p : List Int} (hp : p.length = 40) {a d : Int} (h : 16 ≤ d) (h2 : d < 40) (h3 : 0 ≤ a) (h4 : a < 16) (c : Int) : atV (doI p (mSst a d)) c = if c = d then atV p a else atV p c := by
  show atV (putL p (slotP (d - 16)) (atV p (regP a))) c = _
  rw [regP_in h3 h4, slotP_in h, put40 hp (by omega) h2]
theorem swap_eff {p : List Int} (hp : p.length = 40) {a b : Int} (h : 0 ≤ a) (h2 : a < 16) (h3 : 0 ≤ b) (h4 : b < 16) (c : Int) : atV (doI p (mSwap a b)) c = if c = b then atV p a else if c = a then atV p b else atV p c := by
  show atV (putL (putL p (regP a) (atV p (regP b))) (regP b) (atV p (regP a))) c = _
  rw [regP_in h h2, regP_in h3 h4, put40 (by rw [putL_len]; exact hp) h3 (by omega), put40 hp h (by omega)]
/-- The place that a move between slots goes through. -/
def thruT (sc : Int) : Int := if 0 ≤ sc then 15 else 27
theorem bring_eff {sc : Int} (hs : sc = -1 ∨ sc = 15) {a b : Int} (ha : 0 ≤ a ∧ a < 27) (hb : 0 ≤ b ∧ b < 27) : ∃ xs, bringN sc 10 a b = some xs ∧ ∀ p : List Int, p.length = 40 → ∀ c, (c ≠ thruT sc ∨ a < 16 ∨ b < 16) → atV (doN xs p) c = if c = a then atV p b else atV p c := by
  unfold bringN
  by_cases h : a < 16 ∨ b < 16
  · rw [if_pos h]
    refine ⟨_, rfl, fun p hp c _ => ?_⟩
    rw [doN_cons]
    show atV (doI p (bringR a b)) c = _
    unfold bringR
    by_cases h1 : a < 16
    · rw [if_pos h1]
      by_cases h2 : b < 16
      · rw [if_pos h2]; exact mov_eff hp ha.1 h1 hb.1 h2 c
      · rw [if_neg h2]; exact sld_eff hp ha.1 h1 (by omega) (by omega) c
    · rw [if_neg h1]; exact sst_eff hp (by omega) (by omega) hb.1 (by omega) c
  · rw [if_neg h]
    rcases hs with rfl | rfl
    · rw [if_neg (by omega), if_neg (by omega)]
      refine ⟨_, rfl, fun p hp c hc => ?_⟩
      have hc27 : c ≠ 27 := by unfold thruT at hc; rw [if_neg (by omega)] at hc; omega
      have l1 : (doI p (mSst 0 (16 + 10 + 1))).length = 40 := by rw [doI_len, hp]
      have l2 : (doI (doI p (mSst 0 (16 + 10 + 1))) (mSld 0 b)).length = 40 := by rw [doI_len, l1]
      have l3 : (doI (doI (doI p (mSst 0 (16 + 10 + 1))) (mSld 0 b)) (mSst 0 a)).length = 40 := by rw [doI_len, l2]
      show atV (doI (doI (doI (doI p (mSst 0 (16 + 10 + 1))) (mSld 0 b)) (mSst 0 a)) (mSld 0 (16 + 10 + 1))) c = _
      simp only [sld_eff l3 (d := 0) (a := 16 + 10 + 1) (by omega) (by omega) (by omega) (by omega), sst_eff l2 (a := 0) (d := a) (by omega) (by omega) (by omega) (by omega), sld_eff l1 (d := 0) (a := b) (by omega) (by omega) (by omega) (by omega), sst_eff hp (a := 0) (d := 16 + 10 + 1) (by omega) (by omega) (by omega) (by omega)]
      by_cases c0 : c = 0
      · subst c0
        rw [if_pos rfl, if_neg (by omega), if_neg (by omega), if_pos trivial, if_neg (by omega)]
      · rw [if_neg c0]
        by_cases ca : c = a
        · rw [if_pos ca, if_pos trivial, if_neg (by omega), if_pos ca]
        · rw [if_neg ca, if_neg c0, if_neg (by omega), if_neg ca]
    · rw [if_pos (by omega)]
      refine ⟨_, rfl, fun p hp c hc => ?_⟩
      have hc15 : c ≠ 15 := by unfold thruT at hc; rw [if_pos (by omega)] at hc; omega
      have l1 : (doI p (mSld 15 b)).length = 40 := by rw [doI_len, hp]
      show atV (doI (doI p (mSld 15 b)) (mSst 15 a)) c = _
      simp only [sst_eff l1 (a := 15) (d := a) (by omega) (by omega) (by omega) (by omega), sld_eff hp (d := 15) (a := b) (by omega) (by omega) (by omega) (by omega)]
      by_cases ca : c = a
      · rw [if_pos ca, if_pos trivial, if_pos ca]
      · rw [if_neg ca, if_neg hc15, if_neg ca]
/-- Moves one by one, on places as such. -/
def run1 (σ : Int → Int) (m : Mov) : Int → Int := fun c => if c = m.1 then σ m.2 else σ c
def runM (ms : List Mov) (σ : Int → Int) : Int → Int := ms.foldl run1 σ
theorem runM_snoc (ms : List Mov) (m : Mov) (σ : Int → Int) : runM (ms ++ [m]) σ = run1 (runM ms σ) m := by unfold runM; rw [List.foldl_append]; rfl
theorem snoc_ind {α : Type} {P : List α → Prop} (h0 : P []) (hs : ∀ l x, P l → P (l ++ [x])) (l : List α) : P l := by
  rw [← List.reverse_reverse l]
  induction l.reverse with
  | nil => exact h0
  | cons x l ih => rw [List.reverse_cons]; exact hs _ _ ih
/-- Moves brought one behind the other: what the places have that one cares for. -/
theorem seq_eff {sc : Int} (hs : sc = -1 ∨ sc = 15) (G : Int → Prop) (f : Mov → Int) (hT : (∀ c, G c → c ≠ thruT sc) ∨ False) :
    ∀ ms : List Mov, (∀ m ∈ ms, (0 ≤ m.1 ∧ m.1 < 27) ∧ (0 ≤ f m ∧ f m < 27) ∧ G (f m)) → ∃ xs, seqO (fun m => bringN sc 10 m.1 (f m)) ms = some xs ∧ ∀ p : List Int, p.length = 40 → ∀ c, G c → atV (doN xs p) c = runM (ms.map fun m => (m.1, f m)) (atV p) c := by
  intro ms
  induction ms using snoc_ind with
  | h0 => intro _; exact ⟨[], rfl, fun p _ c _ => rfl⟩
  | hs ms m ih =>
    intro h
    obtain ⟨xs, e1, h1⟩ := ih (fun q hq => h q (by simp [hq]))
    obtain ⟨⟨a1, a2⟩, ⟨b1, b2⟩, hg⟩ := h m (by simp)
    obtain ⟨ys, e2, h2⟩ := bring_eff hs ⟨a1, a2⟩ ⟨b1, b2⟩
    refine ⟨xs ++ ys, by rw [seqO_snoc, e1, e2]; rfl, fun p hp c hc => ?_⟩
    have hT' : c ≠ thruT sc := by rcases hT with hT | hT; exact hT c hc; cases hT
    rw [doN_app, h2 _ (by rw [doN_len]; exact hp) c (Or.inl hT'), List.map_append, List.map_singleton, runM_snoc]
    unfold run1
    rw [h1 p hp _ hg, h1 p hp c hc]
/-- .. where no two slots meet: all places. -/
theorem seq_effR {sc : Int} (hs : sc = -1 ∨ sc = 15) (f : Mov → Int) :
    ∀ ms : List Mov, (∀ m ∈ ms, (0 ≤ m.1 ∧ m.1 < 27) ∧ (0 ≤ f m ∧ f m < 27) ∧ (m.1 < 16 ∨ f m < 16)) → ∃ xs, seqO (fun m => bringN sc 10 m.1 (f m)) ms = some xs ∧ ∀ p : List Int, p.length = 40 → ∀ c, atV (doN xs p) c = runM (ms.map fun m => (m.1, f m)) (atV p) c := by
  intro ms
  induction ms using snoc_ind with
  | h0 => intro _; exact ⟨[], rfl, fun p _ c => rfl⟩
  | hs ms m ih =>
    intro h
    obtain ⟨xs, e1, h1⟩ := ih (fun q hq => h q (by simp [hq]))
    obtain ⟨⟨a1, a2⟩, ⟨b1, b2⟩, hg⟩ := h m (by simp)
    obtain ⟨ys, e2, h2⟩ := bring_eff hs ⟨a1, a2⟩ ⟨b1, b2⟩
    refine ⟨xs ++ ys, by rw [seqO_snoc, e1, e2]; rfl, fun p hp c => ?_⟩
    rw [doN_app, h2 _ (by rw [doN_len]; exact hp) c (Or.inr hg), List.map_append, List.map_singleton, runM_snoc]
    unfold run1
    rw [h1 p hp _, h1 p hp c]
/-- The moves that go, one by one, are all at once. -/
theorem run_goes {L es R : List Mov} (h : Goes L es R) : Uni L → ∀ σ : Int → Int, (∀ m ∈ es, m ∈ L) ∧ (∀ m ∈ L, m ∈ es ∨ m ∈ R) ∧ (∀ m ∈ es, ∀ q ∈ R, m.1 ≠ q.1 ∧ m.1 ≠ q.2) ∧ ∀ c, (∀ m ∈ es, m.1 = c → runM es σ c = σ m.2) ∧ ((∀ m ∈ es, m.1 ≠ c) → runM es σ c = σ c) := by
  induction h with
  | stop hn => intro _ σ; exact ⟨fun m h => (by cases h), fun m h => Or.inr h, fun m h => (by cases h), fun c => ⟨fun m h => (by cases h), fun _ => rfl⟩⟩
  | @step L t es R hf hg ih =>
    intro hu σ
    have ht := loose_to hf.1
    have hfr : isFrom L t = false := by have := hf.1; unfold looseB at this; simp at this; exact this.2
    have hms := mem_src hu ht
    obtain ⟨i1, i2, i3, i4⟩ := ih (hu.wo t) (run1 σ (t, srcD L t))
    have hsub := hg.sub.1
    have hnf : ∀ m ∈ L, m.2 ≠ t := fun m hm e => by
      have := isFrom_iff.2 ⟨m, hm, e⟩
      rw [hfr] at this; cases this
    refine ⟨fun m hm => ?_, fun m hm => ?_, fun m hm q hq => ?_, fun c => ⟨fun m hm e => ?_, fun hn => ?_⟩⟩
    · rcases List.mem_cons.1 hm with rfl | hm
      · exact hms
      · exact (mem_wo.1 (i1 m hm)).1
    · by_cases e : m.1 = t
      · left
        have : m.2 = srcD L t := by rw [← e]; exact (src_of_mem hu hm).symm
        rw [show m = (t, srcD L t) from Prod.ext e this]; simp
      · rcases i2 m (mem_wo.2 ⟨hm, e⟩) with h | h
        · left; simp [h]
        · right; exact h
    · rcases List.mem_cons.1 hm with rfl | hm
      · have hq' := mem_wo.1 (hsub q hq)
        exact ⟨fun e => hq'.2 e.symm, fun e => hnf q hq'.1 e.symm⟩
      · exact i3 m hm q hq
    · show runM es (run1 σ (t, srcD L t)) c = _
      rcases List.mem_cons.1 hm with rfl | hm
      · rw [(i4 c).2 (fun q hq e2 => (mem_wo.1 (i1 q hq)).2 (by rw [e2, ← e]))]
        unfold run1
        rw [if_pos e.symm]
      · rw [(i4 c).1 m hm e]
        unfold run1
        rw [if_neg (hnf m (mem_wo.1 (i1 m hm)).1)]
    · show runM es (run1 σ (t, srcD L t)) c = _
      rw [(i4 c).2 (fun q hq => hn q (by simp [hq]))]
      unfold run1
      rw [if_neg (fun e => hn (t, srcD L t) (by simp) e.symm)]
end Go.Proofs.Ytdohaoomckhbgaa.Vm
