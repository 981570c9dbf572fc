/- Moves kept in a map, and how many take from a place, in memory. -/
import Derived.Test.YtdohaoomckhbgaaVA
import Derived.Test.YtdohaoomckhbgaaVD
import Derived.Test.YtdohaoomckhbgaaVR
import Derived.Test.YtdohaoomckhbgaaKeys
import Derived.Maps.Own
import Derived.Maps.OwnSet
import Derived.Maps.RangeWalk
import Derived.Lib.SlKeysI
namespace Go.Proofs.Ytdohaoomckhbgaa.Vm
open Go.ChangeShapes Go.WideShapes Go.ChangeAt Go.RowKit Go.Maps Go.WideElems Go.ChangeMaps Go.Proofs.Ytdohaoomckhbgaa.Mem Go.Proofs.Ytdohaoomckhbgaa.Br Go.Proofs.Ytdohaoomckhbgaa.Va Go.Proofs.Ytdohaoomckhbgaa.Vr
set_option linter.unusedVariables false
set_option linter.unusedSimpArgs false
def InI (x : Int) : Prop := -9223372036854775808 ≤ x ∧ x ≤ 9223372036854775807
def keyN (x : Int) : Lit := .int .i64 x
def encM (m : Mov) : Lit × DataW Unit := (.int .i64 m.1, .lit (.int .i64 m.2))
theorem keyedN : Keyed Try.prog 3 := int_keyed Try.underlying3
theorem keyIs {x : Int} (h : InI x) : keyOf Try.prog 3 (.int .i64 x) = some (keyN x) := keyOf_int_mk Try.underlying3 (WalkArith.wf_i64 h)
theorem zeroInt (w : World) : (zeroValue 3).run Try.prog w = .ok (.int .i64 0) w := by kernel_rfl
theorem rdI_mk {x : Int} (h : InI x) : (plainElem (H := Unit) Try.prog 3) (.int .i64 x) = some (.lit (.int .i64 x), []) := plainElem_int Try.underlying3 (WalkArith.wf_i64 h)
def Rng (L : List Mov) : Prop := ∀ m ∈ L, InI m.1 ∧ InI m.2
/-- Block b is a map that holds the moves L, each by its To. -/
def FromAt (w : World) (b c : Nat) (L : List Mov) : Prop := ∃ es : List (Lit × DataW Unit), w.ownsMap Try.prog 3 (plainElem (H := Unit) Try.prog 3) b c (.map es) ∧ es.Perm (L.map encM) ∧ Uni L ∧ Rng L
/-- Block b is a map that has f's numbers, and 0 elsewhere. -/
def TakAt (w : World) (b c : Nat) (f : Int → Int) : Prop := ∃ D : DataW Unit, w.ownsMap Try.prog 3 (plainElem (H := Unit) Try.prog 3) b c D ∧ IsMap D ∧ ∀ x, D.atKey (keyN x) (.lit (.int .i64 0)) = .lit (.int .i64 (f x))
theorem FromAt.lt {w : World} {b c : Nat} {L : List Mov} (h : FromAt w b c L) : b < w.heap.size := by obtain ⟨es, h1, _⟩ := h; exact h1.lt
theorem TakAt.lt {w : World} {b c : Nat} {f : Int → Int} (h : TakAt w b c f) : b < w.heap.size := by obtain ⟨D, h1, _⟩ := h; exact h1.lt
theorem FromAt.kept {w w' : World} {b c : Nat} {L : List Mov} {row : Option Nat} (h : FromAt w b c L) (hg : w.grownBy w' row) (hne : some b ≠ row) : FromAt w' b c L := by obtain ⟨es, h1, h2⟩ := h; exact ⟨es, h1.kept hg hne, h2⟩
theorem TakAt.kept {w w' : World} {b c : Nat} {f : Int → Int} {row : Option Nat} (h : TakAt w b c f) (hg : w.grownBy w' row) (hne : some b ≠ row) : TakAt w' b c f := by obtain ⟨D, h1, h2⟩ := h; exact ⟨D, h1.kept hg hne, h2⟩
theorem own_same {w w' : World} {P : Program} {k : TypeId} {R : Value → Option (DataW Unit × List MemPlace)} {b n : Nat} {D : DataW Unit} (h : w.ownsMap P k R b n D) (hs : w'.heap[b]? = w.heap[b]?) : w'.ownsMap P k R b n D := by
  obtain ⟨es, clock, hb, rest⟩ := h
  exact ⟨es, clock, hs.trans hb, rest⟩
theorem FromAt.same {w w' : World} {b c : Nat} {L : List Mov} (h : FromAt w b c L) (hs : w'.heap[b]? = w.heap[b]?) : FromAt w' b c L := by obtain ⟨es, h1, h2⟩ := h; exact ⟨es, own_same h1 hs, h2⟩
theorem TakAt.same {w w' : World} {b c : Nat} {f : Int → Int} (h : TakAt w b c f) (hs : w'.heap[b]? = w.heap[b]?) : TakAt w' b c f := by obtain ⟨D, h1, h2⟩ := h; exact ⟨D, own_same h1 hs, h2⟩
theorem FromAt.below {w w' : World} {b c : Nat} {L : List Mov} (h : FromAt w b c L) (hb : Below w.heap.size w w') : FromAt w' b c L := h.same (hb.block b h.lt)
theorem TakAt.below {w w' : World} {b c : Nat} {f : Int → Int} (h : TakAt w b c f) (hb : Below w.heap.size w w') : TakAt w' b c f := h.same (hb.block b h.lt)
theorem FromAt.made (w : World) : FromAt (w.alloc (.map #[] 0)) w.heap.size 0 [] := ⟨[], World.ownsMap_made _ _ _ _, List.Perm.nil, List.Pairwise.nil, fun m h => by cases h⟩
theorem TakAt.made (w : World) : TakAt (w.alloc (.map #[] 0)) w.heap.size 0 (fun _ => 0) := ⟨.map [], World.ownsMap_made _ _ _ _, isMap_empty, fun x => rfl⟩
theorem FromAt.more {w : World} {b c c' : Nat} {L : List Mov} (h : FromAt w b c L) (hc : c ≤ c') : FromAt w b c' L := by obtain ⟨es, h1, h2⟩ := h; exact ⟨es, h1.mono hc, h2⟩
theorem TakAt.more {w : World} {b c c' : Nat} {f : Int → Int} (h : TakAt w b c f) (hc : c ≤ c') : TakAt w b c' f := by obtain ⟨es, h1, h2⟩ := h; exact ⟨es, h1.mono hc, h2⟩
theorem sameKey_enc (m : Mov) (x : Int) : (encM m).1.sameKey (keyN x) = (m.1 == x) := by cases h : (m.1 == x) <;> simp_all [encM, keyN, Lit.sameKey]
theorem has_enc {es : List (Lit × DataW Unit)} {L : List Mov} (h : es.Perm (L.map encM)) (x : Int) : has (.map es) (keyN x) = isTo L x := by
  rw [has_eq, Bool.eq_iff_iff, List.any_eq_true, isTo_iff]
  constructor
  · rintro ⟨p, hp, hs⟩
    obtain ⟨m, hm, rfl⟩ := List.mem_map.1 (h.mem_iff.1 hp)
    rw [sameKey_enc] at hs
    exact ⟨m, hm, by simpa using hs⟩
  · rintro ⟨m, hm, rfl⟩
    exact ⟨encM m, h.mem_iff.2 (List.mem_map_of_mem hm), by rw [sameKey_enc]; simp⟩
theorem at_enc {es : List (Lit × DataW Unit)} {L : List Mov} (h : es.Perm (L.map encM)) (hu : Uni L) (x : Int) : (DataW.map es).atKey (keyN x) (.lit (.int .i64 0)) = .lit (.int .i64 (srcD L x)) := by
  have hap : es.Pairwise (fun p q => p.1 ≠ q.1) := by
    refine (h.pairwise_iff (fun {_ _} hne => Ne.symm hne)).2 (List.pairwise_map.2 (hu.imp fun {a b} hne e => hne ?_))
    simpa [encM] using e
  cases hx : isTo L x with
  | true => exact WideAt.atKey_mem _ (by simp [keyN, WideAt.IsKeyLit]) hap (h.mem_iff.2 (List.mem_map.2 ⟨_, mem_src hu hx, rfl⟩))
  | false => rw [atKey_of_not_has (by rw [has_enc h]; exact hx), src_none hx]
theorem filter_enc {es : List (Lit × DataW Unit)} {L : List Mov} (h : es.Perm (L.map encM)) {q : Lit × DataW Unit → Bool} {q' : Mov → Bool} (hq : ∀ m ∈ L, q (encM m) = q' m) : (es.filter q).Perm ((L.filter q').map encM) := by
  refine (h.filter q).trans ?_
  rw [List.filter_map]
  rw [List.filter_congr (p := q ∘ encM) (q := q') (fun m hm => hq m hm)]
set_option maxRecDepth 100000 in
theorem FromAt.look {w : World} {b c : Nat} {L : List Mov} (h : FromAt w b c L) {x : Int} (hx : InI x) :
    (Instr.lookup 72 (.map (some b)) (.int .i64 x) true).run Try.prog w = .ok (.tuple #[.int .i64 (srcD L x), .bool (isTo L x)]) w := by
  obtain ⟨es, h1, h2, h3, h4⟩ := h
  obtain ⟨v, ps, hrun, hR⟩ := h1.look_ok keyedN Try.underlying72 (zeroInt w) (zd := .lit (.int .i64 0)) (zp := []) (rdI_mk (by unfold InI; omega)) (keyIs hx)
  rw [has_enc h2] at hrun
  obtain ⟨a, rfl, e, _⟩ := plainElem_int_inv Try.underlying3 hR
  rw [at_enc h2 h3] at e
  injection e with e _
  injection e with e
  injection e with e1 e2
  rw [e2]; exact hrun
set_option maxRecDepth 100000 in
theorem FromAt.get {w : World} {b c : Nat} {L : List Mov} (h : FromAt w b c L) {x : Int} (hx : InI x) :
    (Instr.lookup 72 (.map (some b)) (.int .i64 x) false).run Try.prog w = .ok (.int .i64 (srcD L x)) w := by
  obtain ⟨es, h1, h2, h3, h4⟩ := h
  obtain ⟨a, hrun, e, _⟩ := h1.lookup_int keyedN Try.underlying72 Try.underlying3 (zeroInt w) (keyIs hx)
  rw [at_enc h2 h3] at e
  injection e with e
  injection e with e1 e2
  rw [e2]; exact hrun
set_option maxRecDepth 100000 in
theorem TakAt.get {w : World} {b c : Nat} {f : Int → Int} (h : TakAt w b c f) {x : Int} (hx : InI x) :
    (Instr.lookup 72 (.map (some b)) (.int .i64 x) false).run Try.prog w = .ok (.int .i64 (f x)) w := by
  obtain ⟨D, h1, h2, h3⟩ := h
  obtain ⟨a, hrun, e, _⟩ := h1.lookup_int keyedN Try.underlying72 Try.underlying3 (zeroInt w) (keyIs hx)
  rw [h3] at e
  injection e with e
  injection e with e1 e2
  rw [e2]; exact hrun
theorem put_enc {es : List (Lit × DataW Unit)} {L : List Mov} (h : es.Perm (L.map encM)) (m : Mov) : ∃ es', (DataW.map es).put (keyN m.1) (.lit (.int .i64 m.2)) = .map es' ∧ es'.Perm ((putM L m).map encM) := by
  refine ⟨_, rfl, (insert_perm _ _).trans ?_⟩
  unfold putM
  rw [List.map_append]
  refine ((filter_enc h (q' := fun a => !(a.1 == m.1)) fun a _ => by rw [sameKey_enc]).cons _).trans ?_
  exact (List.perm_append_comm (l₁ := [encM m]))
theorem rng_putM {L : List Mov} (h : Rng L) {m : Mov} (h1 : InI m.1) (h2 : InI m.2) : Rng (putM L m) := fun x hx => by
  rcases mem_putM hx with e | rfl
  · exact h x e
  · exact ⟨h1, h2⟩
set_option maxRecDepth 100000 in
theorem FromAt.put {w : World} {b c : Nat} {L : List Mov} (h : FromAt w b c L) (hc : c < 1000000000000000) {m : Mov} (h1 : InI m.1) (h2 : InI m.2) :
    ∃ w', (Instr.mapUpdate 72 (.map (some b)) (.int .i64 m.1) (.int .i64 m.2)).run Try.prog w = .ok () w' ∧ FromAt w' b (c + 1) (putM L m) ∧ w.grownBy w' (some b) := by
  obtain ⟨es, g1, g2, g3, g4⟩ := h
  obtain ⟨w', hrun, r1, r2⟩ := g1.update keyedN Try.underlying72 (by unfold maxLen; omega) (keyIs h1) (rdI_mk h2)
  obtain ⟨es', e, hp⟩ := put_enc g2 m
  rw [e] at r1
  exact ⟨w', hrun, ⟨es', r1, hp, g3.putM m, rng_putM g4 h1 h2⟩, r2⟩
def addT (f : Int → Int) (x v : Int) : Int → Int := fun y => if y = x then v else f y
set_option maxRecDepth 100000 in
theorem TakAt.put {w : World} {b c : Nat} {f : Int → Int} (h : TakAt w b c f) (hc : c < 1000000000000000) {x v : Int} (h1 : InI x) (h2 : InI v) :
    ∃ w', (Instr.mapUpdate 72 (.map (some b)) (.int .i64 x) (.int .i64 v)).run Try.prog w = .ok () w' ∧ TakAt w' b (c + 1) (addT f x v) ∧ w.grownBy w' (some b) := by
  obtain ⟨D, g1, g2, g3⟩ := h
  obtain ⟨w', hrun, r1, r2⟩ := g1.update keyedN Try.underlying72 (by unfold maxLen; omega) (keyIs h1) (rdI_mk h2)
  refine ⟨w', hrun, ⟨_, r1, g2.put _ _, fun y => ?_⟩, r2⟩
  unfold addT
  by_cases e : y = x
  · subst e; rw [if_pos rfl]; exact atKey_put_same g2 (by simp [keyN, WideAt.IsKeyLit]) _ _
  · rw [if_neg e, atKey_put_other (by simp [keyN]; omega), g3]
set_option maxRecDepth 100000 in
theorem FromAt.del {w : World} {b c : Nat} {L : List Mov} (h : FromAt w b c L) {x : Int} (hx : InI x) (ty : TypeId) :
    ∃ w', (Builtin.delete_ #[72, 3] ty #[.map (some b), .int .i64 x]).run Try.prog w = .ok (.tuple #[]) w' ∧ FromAt w' b c (wo L x) ∧ w.grownBy w' (some b) := by
  obtain ⟨es, g1, g2, g3, g4⟩ := h
  obtain ⟨w', hrun, r1, r2⟩ := g1.drop keyedN Try.underlying72 (keyIs hx) ty
  exact ⟨w', hrun, ⟨_, r1, filter_enc g2 (q' := fun a => !(a.1 == x)) (fun a _ => by rw [sameKey_enc]), g3.wo x, fun m hm => g4 m (mem_wo.1 hm).1⟩, r2.grown⟩
theorem FromAt.rng {w : World} {b c : Nat} {L : List Mov} (h : FromAt w b c L) : Rng L := by obtain ⟨_, _, _, _, h⟩ := h; exact h
theorem FromAt.uni {w : World} {b c : Nat} {L : List Mov} (h : FromAt w b c L) : Uni L := by obtain ⟨_, _, _, h, _⟩ := h; exact h
theorem FromAt.len {w : World} {b c : Nat} {L : List Mov} (h : FromAt w b c L) : L.length ≤ c := by
  obtain ⟨es, h1, h2, _⟩ := h
  have := h1.size_le
  rw [size_eq] at this
  have e := h2.length_eq
  rw [List.length_map] at e
  omega
theorem srcD_in {L : List Mov} (h : Rng L) (x : Int) : InI (srcD L x) := by
  unfold srcD
  cases e : L.find? fun m => m.1 == x with
  | none => unfold InI; simp
  | some m => exact (h m (List.mem_of_find?_eq_some e)).2
end Go.Proofs.Ytdohaoomckhbgaa.Vm
