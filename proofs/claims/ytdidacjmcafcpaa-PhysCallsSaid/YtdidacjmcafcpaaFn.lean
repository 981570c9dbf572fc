/- How a function lies in memory: its blocks, their phis, instructions and terms. -/
import Derived.Test.YtdidacjmcafcpaaMem
import Derived.Test.YtdidacjmcafcpaaKPure
namespace Go.Proofs.Ytdidacjmcafcpaa.Kc
open Go.RowKit Go.Proofs.Ytdidacjmcafcpaa.Mem
set_option linter.unusedVariables false
/-- The slice v holds the things l, each of which takes so many cells. -/
def RowAt {α : Type} (w : World) (size : Nat) (R : World → Nat → Nat → α → Prop) (v : Value) (l : List α) : Prop :=
  ∃ (A : Option Addr) (c b o : Nat), v = .slice A l.length c ∧ l.length ≤ c ∧ c ≤ maxLen ∧ (0 < l.length → A = some ⟨b, o, none⟩) ∧ ∀ k (h : k < l.length), R w b (o + k * size) l[k]
theorem RowAt.kept {α : Type} {w w' : World} {size : Nat} {R : World → Nat → Nat → α → Prop} {v : Value} {l : List α} (h : RowAt w size R v l) (hR : ∀ b o x, R w b o x → R w' b o x) : RowAt w' size R v l := by
  obtain ⟨A, c, b, o, e, h1, h2, h3, h4⟩ := h
  exact ⟨A, c, b, o, e, h1, h2, h3, fun k hk => hR _ _ _ (h4 k hk)⟩
def CellAt (w : World) (b o : Nat) (P : Value → Prop) : Prop := ∃ v, w.cell? ⟨b, o, none⟩ = some v ∧ P v
theorem CellAt.kept {w w' : World} {b o : Nat} {P P' : Value → Prop} (hb : Below w.heap.size w w') (hP : ∀ v, P v → P' v) (h : CellAt w b o P) : CellAt w' b o P' := by
  obtain ⟨v, h1, h2⟩ := h
  exact ⟨v, cell_keep hb (Nat.le_refl _) h1, hP v h2⟩
def InAt (w : World) (b o : Nat) (p : Int × Int) : Prop := w.cell? ⟨b, o, none⟩ = some (.int .i64 p.1) ∧ w.cell? ⟨b, o + 1, none⟩ = some (.int .i64 p.2)
def PhiAt (w : World) (b o : Nat) (p : PPhi) : Prop := w.cell? ⟨b, o, none⟩ = some (.int .i64 p.dst) ∧ CellAt w b (o + 1) fun s => RowAt w 2 InAt s p.ins
def InsAt (w : World) (b o : Nat) (i : PIns) : Prop :=
  w.cell? ⟨b, o, none⟩ = some (.int .i64 i.op) ∧ w.cell? ⟨b, o + 1, none⟩ = some (.int .i64 i.dst) ∧ w.cell? ⟨b, o + 2, none⟩ = some (.int .i64 i.two) ∧ (CellAt w b (o + 3) fun s => Ints w s i.args) ∧ w.cell? ⟨b, o + 4, none⟩ = some (.int .i32 i.imm)
def BlockAt (w : World) (b o : Nat) (x : PBlock) : Prop :=
  (CellAt w b o fun s => RowAt w 2 PhiAt s x.phis) ∧ (CellAt w b (o + 1) fun s => RowAt w 5 InsAt s x.ins) ∧ w.cell? ⟨b, o + 2, none⟩ = some (.int .i64 x.term.kind) ∧
  (CellAt w b (o + 3) fun s => Ints w s x.term.args) ∧ (CellAt w b (o + 4) fun s => Ints w s x.term.to) ∧ w.cell? ⟨b, o + 5, none⟩ = some (.int .i32 x.term.imm)
def BlocksAt (w : World) (v : Value) (l : List PBlock) : Prop := RowAt w 6 BlockAt v l
theorem InAt.keep {w w' : World} (hb : Below w.heap.size w w') (b o : Nat) (p : Int × Int) (h : InAt w b o p) : InAt w' b o p := ⟨cell_keep hb (Nat.le_refl _) h.1, cell_keep hb (Nat.le_refl _) h.2⟩
theorem PhiAt.keep {w w' : World} (hb : Below w.heap.size w w') (b o : Nat) (p : PPhi) (h : PhiAt w b o p) : PhiAt w' b o p :=
  ⟨cell_keep hb (Nat.le_refl _) h.1, h.2.kept hb fun v hv => hv.kept (InAt.keep hb)⟩
theorem InsAt.keep {w w' : World} (hb : Below w.heap.size w w') (b o : Nat) (p : PIns) (h : InsAt w b o p) : InsAt w' b o p :=
  ⟨cell_keep hb (Nat.le_refl _) h.1, cell_keep hb (Nat.le_refl _) h.2.1, cell_keep hb (Nat.le_refl _) h.2.2.1, h.2.2.2.1.kept hb fun v hv => hv.keep hb, cell_keep hb (Nat.le_refl _) h.2.2.2.2⟩
theorem BlockAt.keep {w w' : World} (hb : Below w.heap.size w w') (b o : Nat) (p : PBlock) (h : BlockAt w b o p) : BlockAt w' b o p :=
  ⟨h.1.kept hb fun v hv => hv.kept (PhiAt.keep hb), h.2.1.kept hb fun v hv => hv.kept (InsAt.keep hb), cell_keep hb (Nat.le_refl _) h.2.2.1, h.2.2.2.1.kept hb fun v hv => hv.keep hb,
    h.2.2.2.2.1.kept hb fun v hv => hv.keep hb, cell_keep hb (Nat.le_refl _) h.2.2.2.2.2⟩
theorem BlocksAt.keep {w w' : World} {v : Value} {l : List PBlock} (h : BlocksAt w v l) (hb : Below w.heap.size w w') : BlocksAt w' v l := RowAt.kept h (BlockAt.keep hb)
theorem rowAt_nil {α : Type} {R : World → Nat → Nat → α → Prop} {w : World} {size : Nat} : RowAt w size R (.slice none 0 0) ([] : List α) := ⟨none, 0, 0, 0, rfl, Nat.le_refl _, by unfold maxLen; omega, fun h => absurd h (by simp), fun k h => absurd h (by simp)⟩
end Go.Proofs.Ytdidacjmcafcpaa.Kc
