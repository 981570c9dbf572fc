/- Moves, plainly: where nothing is loose, all goes round. -/
import Derived.Test.YtdohaoomckhbgaaVJ
namespace Go.Proofs.Ytdohaoomckhbgaa.Va
set_option linter.unusedVariables false
set_option linter.unusedSimpArgs false
theorem php : ∀ {K F : List Int}, K.Nodup → (∀ x ∈ K, x ∈ F) → F.length ≤ K.length → (∀ x ∈ F, x ∈ K) ∧ F.Nodup
  | [], F, _, _, hl => by
    have : F = [] := List.length_eq_zero_iff.1 (by simpa using hl)
    subst this
    exact ⟨fun x h => (by cases h), List.nodup_nil⟩
  | a :: K, F, hn, hs, hl => by
    obtain ⟨ha, hn'⟩ := List.nodup_cons.1 hn
    have hp : F.Perm (a :: F.erase a) := List.perm_cons_erase (hs a (by simp))
    have hlen := hp.length_eq
    simp only [List.length_cons] at hlen hl
    obtain ⟨h1, h2⟩ := php (F := F.erase a) hn' (fun x hx => by
      have := hp.mem_iff.1 (hs x (List.mem_cons_of_mem _ hx))
      rcases List.mem_cons.1 this with e | e
      · subst e; exact absurd hx ha
      · exact e) (by omega)
    refine ⟨fun x hx => ?_, hp.nodup_iff.2 (List.nodup_cons.2 ⟨fun h => ha (h1 a h), h2⟩)⟩
    rcases List.mem_cons.1 (hp.mem_iff.1 hx) with e | e
    · subst e; simp
    · exact List.mem_cons_of_mem _ (h1 x e)
theorem php_len : ∀ {K F : List Int}, K.Nodup → (∀ x ∈ K, x ∈ F) → K.length ≤ F.length
  | [], F, _, _ => by simp
  | a :: K, F, hn, hs => by
    obtain ⟨ha, hn'⟩ := List.nodup_cons.1 hn
    have hp : F.Perm (a :: F.erase a) := List.perm_cons_erase (hs a (by simp))
    have hlen := hp.length_eq
    simp only [List.length_cons] at hlen ⊢
    have := php_len (F := F.erase a) hn' (fun x hx => by
      have := hp.mem_iff.1 (hs x (List.mem_cons_of_mem _ hx))
      rcases List.mem_cons.1 this with e | e
      · subst e; exact absurd hx ha
      · exact e)
    omega
theorem Uni.nodup {L : List Mov} (h : Uni L) : (L.map (·.1)).Nodup := List.pairwise_map.2 h
theorem noFree_map {L : List Mov} (hn : NoFree L) (hu : Uni L) : (∀ m ∈ L, isTo L m.2 = true) ∧ (L.map (·.2)).Nodup := by
  obtain ⟨h1, h2⟩ := php (K := L.map (·.1)) (F := L.map (·.2)) hu.nodup (fun x hx => by
    obtain ⟨m, hm, e⟩ := List.mem_map.1 hx
    have h3 := hn x
    unfold looseB at h3
    rw [isTo_iff.2 ⟨m, hm, e⟩, Bool.true_and, Bool.not_eq_false'] at h3
    obtain ⟨q, hq, e⟩ := isFrom_iff.1 h3
    exact List.mem_map.2 ⟨q, hq, e⟩) (by simp)
  refine ⟨fun m hm => ?_, h2⟩
  obtain ⟨q, hq, e⟩ := List.mem_map.1 (h1 m.2 (List.mem_map_of_mem hm))
  exact isTo_iff.2 ⟨q, hq, e⟩
theorem src_inj {L : List Mov} (hn : NoFree L) (hu : Uni L) {x y : Int} (hx : isTo L x = true) (hy : isTo L y = true) (h : srcD L x = srcD L y) : x = y := by
  have h1 := mem_src hu hx
  have h2 := mem_src hu hy
  rw [h] at h1
  have hnd := (noFree_map hn hu).2
  have : ∀ {l : List Mov}, (l.map (·.2)).Nodup → ∀ {a b : Mov}, a ∈ l → b ∈ l → a.2 = b.2 → a = b := by
    intro l
    induction l with
    | nil => intro _ a b ha; cases ha
    | cons c l ih =>
      intro hnd a b ha hb e
      obtain ⟨h3, h4⟩ := List.nodup_cons.1 hnd
      rcases List.mem_cons.1 ha with rfl | ha'
      · rcases List.mem_cons.1 hb with rfl | hb
        · rfl
        · exact absurd (List.mem_map.2 ⟨b, hb, e.symm⟩) h3
      · rcases List.mem_cons.1 hb with rfl | hb
        · exact absurd (List.mem_map.2 ⟨a, ha', e⟩) h3
        · exact ih h4 ha' hb e
  have e := this hnd h1 h2 rfl
  injection e
theorem src_to {L : List Mov} (hn : NoFree L) (hu : Uni L) {x : Int} (hx : isTo L x = true) : isTo L (srcD L x) = true := (noFree_map hn hu).1 _ (mem_src hu hx)
theorem it_to {L : List Mov} (hn : NoFree L) (hu : Uni L) {x : Int} (hx : isTo L x = true) : ∀ i, isTo L (it (srcD L) x i) = true
  | 0 => hx
  | i + 1 => src_to hn hu (it_to hn hu hx i)
theorem it_back {L : List Mov} (hn : NoFree L) (hu : Uni L) {x : Int} (hx : isTo L x = true) : ∀ i j, it (srcD L) x i = it (srcD L) x (i + j) → it (srcD L) x j = x
  | 0, j, h => by rw [Nat.zero_add] at h; exact h.symm
  | i + 1, j, h => by
    rw [show i + 1 + j = (i + j) + 1 by omega] at h
    exact it_back hn hu hx i j (src_inj hn hu (it_to hn hu hx i) (it_to hn hu hx (i + j)) h)
theorem exists_first {p : Nat → Prop} (h : ∃ n, 1 ≤ n ∧ p n) : ∃ n, 1 ≤ n ∧ p n ∧ ∀ i, 0 < i → i < n → ¬ p i := by
  obtain ⟨n, h1, h2⟩ := h
  induction n using Nat.strongRecOn with
  | _ n ih =>
    by_cases hm : ∃ m, 0 < m ∧ m < n ∧ p m
    · obtain ⟨m, h3, h4, h5⟩ := hm
      exact ih m h4 (by omega) h5
    · exact ⟨n, h1, h2, fun i h3 h4 h5 => hm ⟨i, h3, h4, h5⟩⟩
theorem not_nodup {α : Type} : ∀ {l : List α}, ¬ l.Nodup → ∃ i j, i < j ∧ ∃ (h : j < l.length) (h' : i < l.length), l[i] = l[j]
  | [], h => absurd List.nodup_nil h
  | a :: l, h => by
    by_cases ha : a ∈ l
    · obtain ⟨k, hk, e⟩ := List.mem_iff_getElem.1 ha
      exact ⟨0, k + 1, by omega, by simp; omega, by simp, by simpa using e.symm⟩
    · obtain ⟨i, j, h1, h2, h3, e⟩ := not_nodup (l := l) (fun hn => h (List.nodup_cons.2 ⟨ha, hn⟩))
      exact ⟨i + 1, j + 1, by omega, by simp; omega, by simp; omega, by simpa using e⟩
theorem noFree_closed {L : List Mov} (hn : NoFree L) (hu : Uni L) {x : Int} (hx : isTo L x = true) : ∃ N, Closed (srcD L) x N ∧ N ≤ L.length := by
  have hnd : ¬ (orb (srcD L) x (L.length + 1)).Nodup := fun h => by
    have h1 := php_len (F := L.map (·.1)) h (fun y hy => by
      obtain ⟨i, _, rfl⟩ := mem_orb.1 hy
      obtain ⟨m, hm, e⟩ := isTo_iff.1 (it_to hn hu hx i)
      exact List.mem_map.2 ⟨m, hm, e⟩)
    rw [orb_len, List.length_map] at h1
    omega
  obtain ⟨i, j, hij, hj, hi, e⟩ := not_nodup hnd
  have e : it (srcD L) x i = it (srcD L) x j := by simpa [orb] using e
  rw [orb_len] at hj hi
  have h1 := it_back hn hu hx i (j - i) (by rw [show i + (j - i) = j by omega]; exact e)
  obtain ⟨N, h2, h3, h4⟩ := exists_first (p := fun n => it (srcD L) x n = x ∧ n ≤ L.length) ⟨j - i, by omega, h1, by omega⟩
  exact ⟨N, ⟨h2, h3.1, fun k hk hkn hk' => h4 k hk hkn ⟨hk', by omega⟩⟩, h3.2⟩
end Go.Proofs.Ytdohaoomckhbgaa.Va
