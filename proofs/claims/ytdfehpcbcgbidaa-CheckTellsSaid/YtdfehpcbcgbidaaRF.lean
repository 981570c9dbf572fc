/- The document's answer of layer 3: what is wrong with a function's shape first: jacquardref03.shape. -/
import Derived.Test.YtdfehpcbcgbidaaRE
namespace Go.Proofs.Ytdfehpcbcgbidaa.Rf
open Go.ChangeShapes Go.WideShapes Go.ChangeAt Go.RowKit Go.Maps Go.Proofs.Ytdfehpcbcgbidaa.Mem Go.Proofs.Ytdfehpcbcgbidaa.Br Go.Proofs.Ytdfehpcbcgbidaa.Gr Go.Proofs.Ytdfehpcbcgbidaa.Kc
set_option linter.unusedVariables false
/-- A phi, instruction or term, with where it stands. -/
inductive Item where
  | phi (b n : Nat) (p : PPhi)
  | ins (b n : Nat) (i : PIns)
  | term (b : Nat) (x : PBlock)
def Item.thing : Item → PThing
  | .phi b n p => phiT b n p
  | .ins b n i => insT b n i
  | .term b x => termT b x
section
variable {σ α : Type}
def runI (h : α → σ → Except Fault σ) : List α → σ → Except Fault σ
  | [], s => .ok s
  | x :: l, s => match h x s with
    | .error e => .error e
    | .ok s' => runI h l s'
theorem runI_cons {h : α → σ → Except Fault σ} (x : α) (l : List α) (s : σ) : runI h (x :: l) s = bindE (runI h l) (h x s) := by
  unfold runI
  cases h x s <;> rfl
theorem runI_two {h : α → σ → Except Fault σ} : ∀ (l r : List α) (s : σ), runI h (l ++ r) s = bindE (runI h r) (runI h l s)
  | [], r, s => rfl
  | x :: l, r, s => by
    show runI h (x :: (l ++ r)) s = bindE _ (runI h (x :: l) s)
    unfold runI
    cases h x s with
    | error e => rfl
    | ok s' => exact runI_two l r s'
theorem runI_drop {h : α → σ → Except Fault σ} {l : List α} {k : Nat} (hk : k < l.length) (s : σ) : runI h (l.drop k) s = bindE (runI h (l.drop (k + 1))) (h l[k] s) := by
  rw [List.drop_eq_getElem_cons hk]
  exact runI_cons _ _ _
def lookI (L : Looks σ) : Item → σ → Except Fault σ
  | .phi b n p, s => L.phi b (-1 - (n : Int)) p s
  | .ins b n i, s => L.ins b n i s
  | .term b x, s => L.term b x.ins.length x.term s
def itemsB (b : Nat) (x : PBlock) : List Item := (x.phis.zipIdx.map fun y => Item.phi b y.2 y.1) ++ (x.ins.zipIdx.map fun y => Item.ins b y.2 y.1) ++ [Item.term b x]
def itemsL (bs : List PBlock) : List Item := bs.zipIdx.flatMap fun x => itemsB x.2 x.1
theorem runI_map {β : Type} {h : α → σ → Except Fault σ} {g : Nat → β → σ → Except Fault σ} {f : β × Nat → α} : ∀ (l : List β) (k : Nat) (s : σ), (∀ x j s, h (f (x, j)) s = g j x s) → runI h ((l.zipIdx k).map f) s = seqE g k l s
  | [], k, s, _ => rfl
  | x :: l, k, s, he => by
    rw [List.zipIdx_cons, List.map_cons, runI_cons, he x k s]
    unfold seqE
    cases g k x s with
    | error e => rfl
    | ok s' => exact runI_map l (k + 1) s' he
theorem runI_block (L : Looks σ) (b : Nat) (x : PBlock) (s : σ) : runI (lookI L) (itemsB b x) s = blockE L b x s := by
  rw [blockE_bind]
  unfold itemsB
  rw [runI_two, runI_two, runI_map (g := fun n p => L.phi b (-1 - (n : Int)) p) x.phis 0 s (fun _ _ _ => rfl)]
  cases seqE (fun n p => L.phi b (-1 - (n : Int)) p) 0 x.phis s with
  | error e => rfl
  | ok s1 =>
    dsimp only [bindE]
    rw [runI_map (g := fun n i => L.ins b n i) x.ins 0 s1 (fun _ _ _ => rfl)]
    cases seqE (fun n i => L.ins b n i) 0 x.ins s1 with
    | error e => rfl
    | ok s2 =>
      show runI (lookI L) [Item.term b x] s2 = L.term b x.ins.length x.term s2
      rw [runI_cons]
      show bindE (runI (lookI L) []) (L.term b x.ins.length x.term s2) = L.term b x.ins.length x.term s2
      cases L.term b x.ins.length x.term s2 <;> rfl
theorem runI_over (L : Looks σ) : ∀ (l : List PBlock) (k : Nat) (s : σ), runI (lookI L) ((l.zipIdx k).flatMap fun x => itemsB x.2 x.1) s = seqE (blockE L) k l s
  | [], k, s => rfl
  | x :: l, k, s => by
    rw [List.zipIdx_cons, List.flatMap_cons, runI_two, runI_block]
    unfold seqE
    cases blockE L k x s with
    | error e => rfl
    | ok s' => exact runI_over L l (k + 1) s'
theorem over_items (L : Looks σ) (bs : List PBlock) (s : σ) : overE L bs s = runI (lookI L) (itemsL bs) s := (runI_over L bs 0 s).symm
end
theorem items_things (bs : List PBlock) : (itemsL bs).map Item.thing = thingsL bs := by
  unfold itemsL thingsL
  rw [List.map_flatMap]
  congr 1
  funext x
  unfold itemsB thingsB phisT inssT
  rw [List.map_append, List.map_append, List.map_map, List.map_map]
  rfl
/-- What is known of an item. -/
def Fits (bs : List PBlock) : Item → Prop
  | .phi b n p => ∃ hb : b < bs.length, ∃ hn : n < bs[b].phis.length, bs[b].phis[n] = p
  | .ins b n i => ∃ hb : b < bs.length, ∃ hn : n < bs[b].ins.length, bs[b].ins[n] = i
  | .term b x => ∃ hb : b < bs.length, bs[b] = x
theorem items_fit (bs : List PBlock) : ∀ it ∈ itemsL bs, Fits bs it := by
  intro it h
  unfold itemsL at h
  obtain ⟨⟨x, b⟩, h1, h2⟩ := List.mem_flatMap.1 h
  have h3 := List.mem_zipIdx_iff_getElem?.1 h1
  obtain ⟨hb, e⟩ := List.getElem?_eq_some_iff.1 h3
  change b < bs.length at hb
  change bs[b] = x at e
  subst e
  unfold itemsB at h2
  rcases List.mem_append.1 h2 with h2 | h2
  · rcases List.mem_append.1 h2 with h2 | h2
    · obtain ⟨⟨p, n⟩, h4, rfl⟩ := List.mem_map.1 h2
      obtain ⟨hn, e⟩ := List.getElem?_eq_some_iff.1 (List.mem_zipIdx_iff_getElem?.1 h4)
      exact ⟨hb, hn, e⟩
    · obtain ⟨⟨p, n⟩, h4, rfl⟩ := List.mem_map.1 h2
      obtain ⟨hn, e⟩ := List.getElem?_eq_some_iff.1 (List.mem_zipIdx_iff_getElem?.1 h4)
      exact ⟨hb, hn, e⟩
  · rw [List.mem_singleton] at h2
    subst h2
    exact ⟨hb, rfl⟩
theorem Bools.kind {B g : Nat} {w : World} {l : List Bool} (h : Bools B g w l) {p : Addr} {u : Value} (hp : p.block = g) (hc : w.cell? p = some u) : ∃ x, u = .bool x := by
  rcases h.2 with ⟨e, _⟩ | ⟨g', cap, cur, e, _, hg, hn, _, hs, ht⟩
  · cases e
  · injection e with e1 _ e3
    injection e1 with e1
    injection e1 with e1
    subst e1 e3
    subst hp
    unfold World.cell? at hc
    rw [hg] at hc
    dsimp only at hc
    by_cases hsp : p.spot.isSome = true
    · rw [if_pos hsp] at hc; cases hc
    · rw [if_neg hsp] at hc
      have h1 := (Array.getElem?_eq_some_iff.1 hc).1
      rw [hs] at h1
      have h2 : cur.toList[p.off]? = some u := by rw [Array.getElem?_toList]; exact hc
      have h3 : (l.map Value.bool)[p.off]? = some u := by rw [← ht, List.getElem?_take_of_lt (by omega)]; exact h2
      rw [List.getElem?_map] at h3
      cases hx : l[p.off]? with
      | none => rw [hx] at h3; cases h3
      | some x => rw [hx] at h3; injection h3 with h3; exact ⟨x, h3.symm⟩
theorem Bools.other {B g b : Nat} {w : World} {l : List Bool} (h : Bools B g w l) {p : Addr} {u : Value} (hc : w.cell? p = some u) (hu : ∀ x, u ≠ .bool x) (v : Value) : (w.setCell ⟨g, b, none⟩ v).cell? p = some u := by
  have hne : p.block ≠ g := fun e => by
    obtain ⟨x, hx⟩ := h.kind e hc
    exact hu x hx
  rw [World.cell?_of_block (Below.heap_setCell w ⟨g, b, none⟩ v p.block hne)]
  exact hc
theorem Bools.ints {B g b : Nat} {w : World} {l : List Bool} (h : Bools B g w l) {u : Value} {z : List Int} (hi : Ints w u z) (v : Value) : Ints (w.setCell ⟨g, b, none⟩ v) u z := by
  obtain ⟨A, c, rfl, h1, h2, h3⟩ := hi
  refine ⟨A, c, rfl, h1, h2, fun k hk => ?_⟩
  obtain ⟨ad, e, hc⟩ := h3 k hk
  exact ⟨ad, e, h.other hc (fun x e => by cases e) v⟩
theorem Bools.thing {B g b : Nat} {w : World} {l : List Bool} (h : Bools B g w l) {x o : Nat} {t : PThing} (ht : ThingAt w x o t) (v : Value) : ThingAt (w.setCell ⟨g, b, none⟩ v) x o t := by
  obtain ⟨a, c, ⟨vm, d1, d2⟩, vt, e1, e2⟩ := ht
  refine ⟨h.other a (fun x e => by cases e) v, h.other c (fun x e => by cases e) v, ⟨vm, h.other d1 (fun x e => ?_) v, h.ints d2 v⟩, ⟨vt, h.other e1 (fun x e => ?_) v, h.ints e2 v⟩⟩
  · obtain ⟨A, c, rfl, _⟩ := d2; cases e
  · obtain ⟨A, c, rfl, _⟩ := e2; cases e
/-- Which numbers are made: what is known of them is where. -/
def MarkOf (m : List Bool) (f : Spots) : Prop := m.length = 8192 ∧ ∀ n : Nat, n < 8192 → m.getD n false = (f n).isSome
def Item.blk : Item → Nat
  | .phi b _ _ => b
  | .ins b _ _ => b
  | .term b _ => b
def Item.plc : Item → Int
  | .phi _ n _ => -1 - (n : Int)
  | .ins _ n _ => n
  | .term _ x => x.ins.length
def Item.mks : Item → List Int
  | .phi _ _ p => [p.dst]
  | .ins _ _ i => prodL i.op i.dst i.two
  | .term _ _ => []
def bad10 : Item → Bool
  | .phi _ _ _ => false
  | .ins _ _ i => !mayB i.op i.args.length
  | .term _ x => !endB x.term.kind x.term.args.length x.term.to.length
def bad14 (n : Nat) : Item → Bool
  | .term _ x => x.term.to.any (toB n)
  | _ => false
def stepG (params : Int) (n : Nat) (it : Item) (f : Spots) : Except Fault Spots :=
  if bad10 it = true then .error (10, it.blk, it.plc) else if it.mks.any (outB params) = true then .error (11, it.blk, it.plc) else
    match putE it.blk it.plc it.mks f with
    | .error e => .error e
    | .ok f' => if bad14 n it = true then .error (14, it.blk, it.plc) else .ok f'
theorem step_eq (params : Int) (n : Nat) (it : Item) (f : Spots) : lookI (look1 params n) it f = stepG params n it f := by
  cases it with
  | phi b k p =>
    show noteE params b (-1 - (k : Int)) [p.dst] f = _
    unfold stepG noteE
    rw [if_neg (show ¬ bad10 (Item.phi b k p) = true by simp [bad10])]
    show _ = if ([p.dst].any (outB params)) = true then _ else _
    split
    · rfl
    · show _ = (match putE b (-1 - (k : Int)) [p.dst] f with | Except.error e => Except.error e | Except.ok f' => if bad14 n (Item.phi b k p) = true then _ else Except.ok f')
      cases putE b (-1 - (k : Int)) [p.dst] f <;> rfl
  | ins b k i =>
    show insE params b k i.op i.dst i.two i.args.length f = _
    unfold stepG insE
    cases hm : mayB i.op i.args.length with
    | false => rw [if_neg (by simp), if_pos (show bad10 (Item.ins b k i) = true by simp [bad10, hm])]; rfl
    | true =>
      rw [if_pos rfl, if_neg (show ¬ bad10 (Item.ins b k i) = true by simp [bad10, hm])]
      unfold noteE
      show _ = if ((prodL i.op i.dst i.two).any (outB params)) = true then _ else _
      split
      · rfl
      · show _ = (match putE b k (prodL i.op i.dst i.two) f with | Except.error e => Except.error e | Except.ok f' => if bad14 n (Item.ins b k i) = true then _ else Except.ok f')
        cases putE b k (prodL i.op i.dst i.two) f <;> rfl
  | term b x =>
    show termE n b x.ins.length x.term.kind x.term.args.length x.term.to f = _
    unfold stepG termE
    cases hm : endB x.term.kind x.term.args.length x.term.to.length with
    | false => rw [if_neg (by simp), if_pos (show bad10 (Item.term b x) = true by simp [bad10, hm])]; rfl
    | true =>
      rw [if_pos rfl, if_neg (show ¬ bad10 (Item.term b x) = true by simp [bad10, hm])]
      rfl
def toldS {σ : Type} : Except Fault σ → Fault
  | .error e => e
  | .ok _ => (0, 0, 0)
def gotV (f : Fault) : Value := .agg #[.int .i64 f.1, .int .i64 f.2.1, .int .i64 f.2.2]
end Go.Proofs.Ytdfehpcbcgbidaa.Rf
