/-
  No cell of these rows narrows 'for every input' (looked for: loops, veiled, ifaces, maps, wideKeys, modest, calm, conditions, laid).
  DERIVED. THE GIVEN ROWS OF THIS SEAT. 4 by the template 'for every input the law returns true; each argument reads behind the call as it read before'; 0 by the template 'total and deterministic' (their statements: YtdidacjmcafcpaaTotals.lean).
  GIVEN WITH THE SEED: the statements are not yours to turn. If you find one false, say at which input.
  Laid BY PROGRAM, IN A SANDBOX (cutbox-rows.mjs): the forced cells as the released guide's own fill.sh prints them over the translation ee04ddc4c5360427… (all of the seat's roots in one cut). By AI agents, Wed Nov 11 2026. No macro, syntax, notation, axiom, sorry.
-/
import Derived.Test.YtdidacjmcafcpaaChecked
import GoSem.Claim
import GoSem.ClaimJoined
import GoSem.ClaimMapViews
import Derived.JoinedTies
import Derived.KernelRfl
namespace Go.Proofs.Ytdidacjmcafcpaa
/- THE CELL 'sum', in the pinned program and in every row, IS THE sha256 OF THE DUMP (.gsa) THAT YtdidacjmcafcpaaProg.lean LOADS. Nothing in Lean hashes anything: it is a label: what it is worth is what the hold of that sum in a sandbox is worth. -/
noncomputable def Try.pinned : Pinned := { name := "ytdidacjmcafcpaa", sum := "ee04ddc4c5360427941c64a8c9d2cd36dc4d96a85f5e94f16425f6de3b27d0d0", checked := Try.checked }
namespace Rows
def none {H : Type} : Left H := { results := [], args := [] }

/-- 'jacquardlaw12.PhysPieces': WHATEVER THE INPUT: true; the input reads as it did. -/
def physPiecesSpec : ChangeSpec := { name := "physPieces", fn := fun _ => fun
  | [d1, d2, d3] => { results := [.lit (.bool true)], args := [d1, d2, d3] }
  | _ => none }
def physPiecesRow : OpenClaim := { program := "ytdidacjmcafcpaa", sum := "ee04ddc4c5360427941c64a8c9d2cd36dc4d96a85f5e94f16425f6de3b27d0d0", func := "jacquard/jacquardlaw12.PhysPieces", spec := "physPieces", unfollowed := true, recurses := true, apart := false }
def PhysPiecesSaid : Prop := physPiecesRow.holds Try.pinned (OpenSpec.ofChange physPiecesSpec)

/-- ITS FALSE NEIGHBOUR: 'it returns false'. Refute it at one input. -/
def physPiecesWrong : ChangeSpec := { name := "physPieces", fn := fun _ => fun
  | [d1, d2, d3] => { results := [.lit (.bool false)], args := [d1, d2, d3] }
  | _ => none }
def PhysPiecesWrongFalsely : Prop := physPiecesRow.holds Try.pinned (OpenSpec.ofChange physPiecesWrong)

/-- 'jacquardlaw12.PhysKeeps': WHATEVER THE INPUT: true; the input reads as it did. -/
def physKeepsSpec : ChangeSpec := { name := "physKeeps", fn := fun _ => fun
  | [d1, d2, d3] => { results := [.lit (.bool true)], args := [d1, d2, d3] }
  | _ => none }
def physKeepsRow : OpenClaim := { program := "ytdidacjmcafcpaa", sum := "ee04ddc4c5360427941c64a8c9d2cd36dc4d96a85f5e94f16425f6de3b27d0d0", func := "jacquard/jacquardlaw12.PhysKeeps", spec := "physKeeps", unfollowed := true, recurses := true, apart := false }
def PhysKeepsSaid : Prop := physKeepsRow.holds Try.pinned (OpenSpec.ofChange physKeepsSpec)

/-- ITS FALSE NEIGHBOUR: 'it returns false'. Refute it at one input. -/
def physKeepsWrong : ChangeSpec := { name := "physKeeps", fn := fun _ => fun
  | [d1, d2, d3] => { results := [.lit (.bool false)], args := [d1, d2, d3] }
  | _ => none }
def PhysKeepsWrongFalsely : Prop := physKeepsRow.holds Try.pinned (OpenSpec.ofChange physKeepsWrong)

/-- 'jacquardlaw12.PhysCalls': WHATEVER THE INPUT: true; the input reads as it did. -/
def physCallsSpec : ChangeSpec := { name := "physCalls", fn := fun _ => fun
  | [d1, d2, d3] => { results := [.lit (.bool true)], args := [d1, d2, d3] }
  | _ => none }
def physCallsRow : OpenClaim := { program := "ytdidacjmcafcpaa", sum := "ee04ddc4c5360427941c64a8c9d2cd36dc4d96a85f5e94f16425f6de3b27d0d0", func := "jacquard/jacquardlaw12.PhysCalls", spec := "physCalls", unfollowed := true, recurses := true, apart := false }
def PhysCallsSaid : Prop := physCallsRow.holds Try.pinned (OpenSpec.ofChange physCallsSpec)

/-- ITS FALSE NEIGHBOUR: 'it returns false'. Refute it at one input. -/
def physCallsWrong : ChangeSpec := { name := "physCalls", fn := fun _ => fun
  | [d1, d2, d3] => { results := [.lit (.bool false)], args := [d1, d2, d3] }
  | _ => none }
def PhysCallsWrongFalsely : Prop := physCallsRow.holds Try.pinned (OpenSpec.ofChange physCallsWrong)

/-- 'jacquardlaw12.PhysBounds': WHATEVER THE INPUT: true; the input reads as it did. -/
def physBoundsSpec : ChangeSpec := { name := "physBounds", fn := fun _ => fun
  | [d1, d2, d3] => { results := [.lit (.bool true)], args := [d1, d2, d3] }
  | _ => none }
def physBoundsRow : OpenClaim := { program := "ytdidacjmcafcpaa", sum := "ee04ddc4c5360427941c64a8c9d2cd36dc4d96a85f5e94f16425f6de3b27d0d0", func := "jacquard/jacquardlaw12.PhysBounds", spec := "physBounds", unfollowed := true, recurses := true, apart := false }
def PhysBoundsSaid : Prop := physBoundsRow.holds Try.pinned (OpenSpec.ofChange physBoundsSpec)

/-- ITS FALSE NEIGHBOUR: 'it returns false'. Refute it at one input. -/
def physBoundsWrong : ChangeSpec := { name := "physBounds", fn := fun _ => fun
  | [d1, d2, d3] => { results := [.lit (.bool false)], args := [d1, d2, d3] }
  | _ => none }
def PhysBoundsWrongFalsely : Prop := physBoundsRow.holds Try.pinned (OpenSpec.ofChange physBoundsWrong)

/- THE SECOND FORM. 'bulk': how many values and letters a reading holds, each counted each time it is reached (what is shared counts as often as it is met; a slice's spare places count too). A statement '..UptoSaid' is the law's where the arguments, and the package variables that the reading takes, are together of bulk at most 1048576: NARROWER than '..Said'. Prove '..Said' where nothing that the law and all that it calls make is longer than what came in: it says more and counts as full. Else prove '..UptoSaid'. A law counts once. -/
mutual
def uptoBulk {H : Type} : DataW H → Nat
  | .lit (.string bytes) => bytes.length + 1
  | .lit _ => 1
  | .nil => 1
  | .ptr d => uptoBulk d + 1
  | .slice elems spare => uptoBulkAll elems + uptoBulkAll spare + 1
  | .agg parts => uptoBulkAll parts + 1
  | .iface _ d => uptoBulk d + 1
  | .map entries => uptoBulkEntries entries + 1
  | .held _ => 1
def uptoBulkAll {H : Type} : List (DataW H) → Nat
  | [] => 0
  | d :: r => uptoBulk d + uptoBulkAll r
def uptoBulkEntries {H : Type} : List (Lit × DataW H) → Nat
  | [] => 0
  | x :: r => uptoBulkEntry x + uptoBulkEntries r
def uptoBulkEntry {H : Type} : Lit × DataW H → Nat
  | (.string bytes, d) => bytes.length + uptoBulk d + 1
  | (_, d) => uptoBulk d + 1
 end
def uptoSmall : (H : Type) → List (DataW H) → Bool := fun _ ds => decide (uptoBulkAll ds ≤ 1048576)
def OpenSpec.upto (s : _root_.Go.ChangeSpec) : _root_.Go.OpenSpec := { _root_.Go.OpenSpec.ofChange s with cond := some uptoSmall }

/-- 'jacquardlaw12.PhysPieces', WHERE WHAT IT READS IS OF BULK AT MOST 1048576: true; the input reads as it did. -/
def physPiecesUptoRow : OpenClaim := { program := "ytdidacjmcafcpaa", sum := "ee04ddc4c5360427941c64a8c9d2cd36dc4d96a85f5e94f16425f6de3b27d0d0", func := "jacquard/jacquardlaw12.PhysPieces", spec := "physPieces", unfollowed := true, recurses := true, apart := false, narrowed := true }
def PhysPiecesUptoSaid : Prop := physPiecesUptoRow.holds Try.pinned (OpenSpec.upto physPiecesSpec)

/-- 'jacquardlaw12.PhysKeeps', WHERE WHAT IT READS IS OF BULK AT MOST 1048576: true; the input reads as it did. -/
def physKeepsUptoRow : OpenClaim := { program := "ytdidacjmcafcpaa", sum := "ee04ddc4c5360427941c64a8c9d2cd36dc4d96a85f5e94f16425f6de3b27d0d0", func := "jacquard/jacquardlaw12.PhysKeeps", spec := "physKeeps", unfollowed := true, recurses := true, apart := false, narrowed := true }
def PhysKeepsUptoSaid : Prop := physKeepsUptoRow.holds Try.pinned (OpenSpec.upto physKeepsSpec)

/-- 'jacquardlaw12.PhysCalls', WHERE WHAT IT READS IS OF BULK AT MOST 1048576: true; the input reads as it did. -/
def physCallsUptoRow : OpenClaim := { program := "ytdidacjmcafcpaa", sum := "ee04ddc4c5360427941c64a8c9d2cd36dc4d96a85f5e94f16425f6de3b27d0d0", func := "jacquard/jacquardlaw12.PhysCalls", spec := "physCalls", unfollowed := true, recurses := true, apart := false, narrowed := true }
def PhysCallsUptoSaid : Prop := physCallsUptoRow.holds Try.pinned (OpenSpec.upto physCallsSpec)

/-- 'jacquardlaw12.PhysBounds', WHERE WHAT IT READS IS OF BULK AT MOST 1048576: true; the input reads as it did. -/
def physBoundsUptoRow : OpenClaim := { program := "ytdidacjmcafcpaa", sum := "ee04ddc4c5360427941c64a8c9d2cd36dc4d96a85f5e94f16425f6de3b27d0d0", func := "jacquard/jacquardlaw12.PhysBounds", spec := "physBounds", unfollowed := true, recurses := true, apart := false, narrowed := true }
def PhysBoundsUptoSaid : Prop := physBoundsUptoRow.holds Try.pinned (OpenSpec.upto physBoundsSpec)

end Rows
end Go.Proofs.Ytdidacjmcafcpaa
