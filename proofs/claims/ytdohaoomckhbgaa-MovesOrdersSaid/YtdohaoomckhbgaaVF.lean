/- Moves: what is laid, instruction by instruction. -/
import Derived.Test.YtdohaoomckhbgaaVK
import Derived.Laws.EntriesVeiled
namespace Go.Proofs.Ytdohaoomckhbgaa.Vm
open Go.ChangeShapes Go.WideShapes Go.ChangeAt Go.RowKit Go.Maps Go.WideElems Go.ChangeMaps Go.Sort Go.Shelf Go.Proofs.Ytdohaoomckhbgaa.Mem Go.Proofs.Ytdohaoomckhbgaa.Br Go.Proofs.Ytdohaoomckhbgaa.Va Go.Proofs.Ytdohaoomckhbgaa.Vr
set_option linter.unusedVariables false
set_option linter.unusedSimpArgs false
attribute [local go_sem] Oper.semAt_some
def cellsM (x : PM) : List Value := [.int .i64 x.op, .int .i64 x.d, .int .i64 x.e, .int .i64 x.a, .int .i64 x.b, .int .i64 x.c, .int .i32 x.imm, .slice none 0 0]
abbrev machV (x : PM) : Value := .agg #[.int .i64 x.op, .int .i64 x.d, .int .i64 x.e, .int .i64 x.a, .int .i64 x.b, .int .i64 x.c, .int .i32 x.imm, .slice none 0 0]
/-- A row of instructions without Args, of the call's own. -/
def OwnMach (B : Nat) (w : World) (v : Value) (l : List PM) : Prop := w.ownsRow B 48 8 v l.length (l.flatMap cellsM)
/-- The box ba has a row of instructions of its own. -/
def LayAt (w : World) (ba B : Nat) (l : List PM) : Prop := ∃ v, Str w ba 30 [v] ∧ OwnMach B w v l
/-- All but the box, and rows of instructions, is as it was. -/
structure Lay (ba : Nat) (w w' : World) : Prop where
  os : w'.os = w.os
  tape : w'.tape = w.tape
  output : w'.output = w.output
  size : w.heap.size ≤ w'.heap.size
  block : ∀ (k : Nat) (o : Obj), w.heap[k]? = some o → k ≠ ba → (∀ cur : Array Value, o ≠ Obj.cells cur 48 (0, 0)) → w'.heap[k]? = some o
theorem Lay.refl (ba : Nat) (w : World) : Lay ba w w := ⟨rfl, rfl, rfl, Nat.le_refl _, fun _ _ h _ _ => h⟩
theorem Lay.trans {ba : Nat} {a b c : World} (h : Lay ba a b) (k : Lay ba b c) : Lay ba a c :=
  ⟨k.os.trans h.os, k.tape.trans h.tape, k.output.trans h.output, Nat.le_trans h.size k.size, fun i o hi h1 h2 => k.block i o (h.block i o hi h1 h2) h1 h2⟩
theorem Lay.of_below {ba : Nat} {a b : World} (h : Below a.heap.size a b) : Lay ba a b := ⟨h.os, h.tape, h.output, h.size, fun k o hk _ _ => (h.block k (Array.getElem?_eq_some_iff.1 hk).1).trans hk⟩
theorem Lay.of_row {ba : Nat} {a b : World} {B : Nat} {v : Value} {l : List PM} (ho : OwnMach B a v l) (h : a.grownBy b v.ownBlock) : Lay ba a b :=
  ⟨h.os, h.tape, h.output, h.size, fun k o hk _ hn => (h.block k (Array.getElem?_eq_some_iff.1 hk).1 (fun e => by
    rcases ho.2 with ⟨rfl, _⟩ | ⟨g, cap, cur, rfl, _, hh, _⟩
    · cases e
    · cases e; rw [hh] at hk; cases hk; exact hn cur rfl)).trans hk⟩
theorem Lay.of_box {ba : Nat} {a : World} (k : Nat) (v : Value) : Lay ba a (a.setCell ⟨ba, k, none⟩ v) :=
  ⟨rfl, rfl, rfl, by rw [size_set]; exact Nat.le_refl _, fun i o hi h1 _ => (Below.heap_setCell _ _ _ _ h1).trans hi⟩
theorem Lay.drew {ba : Nat} {a b : World} (h : Lay ba a b) : Lay ba a b.drew := ⟨h.os, h.tape, h.output, h.size, h.block⟩
theorem Lay.str {ba : Nat} {a b : World} (h : Lay ba a b) {k : Nat} {t : TypeId} {vs : List Value} (hs : Str a k t vs) (hk : k ≠ ba) (ht : t ≠ 48) : Str b k t vs := h.block k _ hs hk (fun cur e => by injection e with e1 e2 e3; exact ht e2)
theorem LayAt.lt {w : World} {ba B : Nat} {l : List PM} (h : LayAt w ba B l) : ba < w.heap.size := by obtain ⟨v, h1, _⟩ := h; exact h1.lt
theorem LayAt.below {w w' : World} {ba B : Nat} {l : List PM} (h : LayAt w ba B l) (hb : Below w.heap.size w w') : LayAt w' ba B l := by
  obtain ⟨v, h1, h2⟩ := h
  exact ⟨v, h1.below hb, own_same_row h2 (fun g cur hg => hb.block g (Array.getElem?_eq_some_iff.1 hg).1)⟩
theorem LayAt.tn {w w' : World} {M : Nat → Prop} {C ba B : Nat} {l : List PM} (h : LayAt w ba B l) (ht : Tn M C w w') (hM : ∀ (k : Nat) (o : Obj), w.heap[k]? = some o → o.isCells = true → ¬ M k) : LayAt w' ba B l := by
  obtain ⟨v, h1, h2⟩ := h
  exact ⟨v, ht.block _ _ h1 (hM _ _ h1 rfl) (Or.inr rfl), own_same_row h2 (fun g cur hg => (ht.block g _ hg (hM _ _ hg rfl) (Or.inr rfl)).trans hg.symm)⟩
theorem info_mach : (Try.prog.info? 48).map (fun i => (i.zero, i.size, i.bytes)) = some (some (.agg #[.int .i64 0, .int .i64 0, .int .i64 0, .int .i64 0, .int .i64 0, .int .i64 0, .int .i32 0, .slice none 0 0]), 8, 80) := by kernel_rfl
theorem flat_snoc (l : List PM) (x : PM) : (l ++ [x]).flatMap cellsM = l.flatMap cellsM ++ cellsM x := by rw [List.flatMap_append]; simp
def LayRes (ba B : Nat) (l : List PM) (w : World) (e : Ending) (w' : World) : Prop := e = .returned (.tuple #[]) ∧ LayAt w' ba B l ∧ Lay ba w w' ∧ Below (min B ba) w w'
set_option maxRecDepth 100000 in
set_option maxHeartbeats 1000000 in
theorem lay_any (w : World) (ba B : Nat) (l : List PM) (x : PM) (h : LayAt w ba B l) (hB : B ≤ w.heap.size) (hl : l.length ≤ 900000) :
    Calls Try.prog 40 #[machV x, .pointer (some ⟨ba, 0, none⟩)] w (LayRes ba B (l ++ [x]) w) := by
  obtain ⟨v, hs, ho⟩ := h
  obtain ⟨W1, hW1⟩ : ∃ W1, w.alloc (.cells (cellsM x).toArray 48) = W1 := ⟨_, rfl⟩
  have hb1 : Below w.heap.size w W1 := by rw [← hW1]; exact (Below.refl _ _).alloc (Nat.le_refl _) _
  have hs1 : Str W1 w.heap.size 48 (cellsM x) := by rw [← hW1]; exact World.alloc_heap_new w _
  obtain ⟨W2, hW2⟩ : ∃ W2, W1.alloc (.cells (cellsM x).toArray 48) = W2 := ⟨_, rfl⟩
  have hb2 : Below W1.heap.size W1 W2 := by rw [← hW2]; exact (Below.refl _ _).alloc (Nat.le_refl _) _
  have hs2 : Str W2 W1.heap.size 48 (cellsM x) := by rw [← hW2]; exact World.alloc_heap_new W1 _
  have hbox := hs.below hb1
  have hlt := hs.lt
  have hz1 := hb1.size
  have hz2 := hb2.size
  have k0 : W1.cell? ⟨ba, 0, none⟩ = some v := hbox.cell 0
  have HO := Lib.hid (show OwnMach B W2 v l from own_same_row (own_same_row ho (fun g cur hg => hb1.block g (Array.getElem?_eq_some_iff.1 hg).1)) (fun g cur hg => hb2.block g (Array.getElem?_eq_some_iff.1 hg).1))
  have HBX := Lib.hid (hbox.below hb2)
  have HB := Lib.hid (hb1.trans (hb2.mono hb1.size))
  obtain ⟨i0, hi, hz0, hzs, hzb⟩ := info_parts info_mach
  have HI := Lib.hid hi
  have HZ0 := Lib.hid hz0
  have HZ1 := Lib.hid hzs
  have HZ2 := Lib.hid hzb
  have HS2 := Lib.hid hs2
  obtain ⟨o0, o1, o2, o3, o4, o5, o6, o7⟩ := x
  dsimp only [machV, cellsM] at *
  have c0 := hs1.cell 0
  have c1 := hs1.cell 1
  have c2 := hs1.cell 2
  have c3 := hs1.cell 3
  have c4 := hs1.cell 4
  have c5 := hs1.cell 5
  have c6 := hs1.cell 6
  have c7 := hs1.cell 7
  simp only [List.getElem?_cons_zero, List.getElem?_cons_succ] at c0 c1 c2 c3 c4 c5 c6 c7
  clear hs ho hb1 hs1 hb2 hs2 hbox hi hz0 hzs hzb
  go_enter Try.func40, Try.ntmps40
  go_wp2_with (at_builtin; refine wpList_appendM rfl _ _ 30 rfl B 48 i0 (.agg #[.int .i64 0, .int .i64 0, .int .i64 0, .int .i64 0, .int .i64 0, .int .i64 0, .int .i32 0, .slice none 0 0]) 8 80 Try.underlying30 HI.out HZ0.out HZ1.out HZ2.out rfl (by decide) v l.length (l.flatMap cellsM) rfl HO.out ⟨W1.heap.size, 0, none⟩ (cellsM ⟨o0, o1, o2, o3, o4, o5, o6, o7⟩) rfl rfl ?news ?one (by omega) (by omega) (by omega) ?_)
  case news =>
    intro j u hj
    rw [at_add0, HS2.out.cell j]
    exact hj
  case one =>
    intro u hu
    simp only [cellsM, List.mem_cons, List.not_mem_nil, or_false] at hu
    rcases hu with rfl | rfl | rfl | rfl | rfl | rfl | rfl | rfl <;> rfl
  intro v' w5 ho5 hg5 _
  obtain ⟨A5, q5, rfl⟩ := own_form ho5
  have hx5 : Str w5 ba 30 [v] := HBX.out.kept hg5 (HBX.out.not_row (by decide) HO.out)
  have q0 : w5.cell? ⟨ba, 0, none⟩ = some v := hx5.cell 0
  have f0 := hx5.frozen 0
  have HR := Lib.hid (show LayRes ba B (l ++ [⟨o0, o1, o2, o3, o4, o5, o6, o7⟩]) w (.returned (.tuple #[])) (w5.setCell ⟨ba, 0, none⟩ (.slice A5 (l.length + 1) q5)) by
    have hb5 : Below (min B ba) w w5 := (HB.out.mono (by omega)).grown hg5 (by omega) (fun j e => Nat.le_trans (Nat.min_le_left _ _) (World.ownsRow.lt HO.out j e).1)
    refine ⟨rfl, ⟨_, hx5.set 0 _, ?_⟩, ((Lay.of_below HB.out).trans (Lay.of_row HO.out hg5)).trans (Lay.of_box 0 _), hb5.setCell (p := ⟨ba, 0, none⟩) (show min B ba ≤ ba by omega) _⟩
    unfold OwnMach
    rw [List.length_append, List.length_singleton, flat_snoc]
    refine own_same_kv ho5 (fun g hg => Below.heap_setCell _ _ _ _ (fun e => ?_))
    have e : g = ba := e
    subst e
    exact hx5.not_row (by decide) ho5 hg.symm)
  clear ho5 hg5 hx5
  go_wp2
  refine ⟨rfl, .tuple #[], by simp only [results]; go_simp, ?_⟩
  exact HR.out
end Go.Proofs.Ytdohaoomckhbgaa.Vm
