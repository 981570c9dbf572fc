/- Stage 12: one struct more behind a row of the call's own; rows of placed instructions and of blocks as such rows. -/
import Derived.Test.YtdidacjmcafcpaaQX
import Derived.Maps.AppendAt
namespace Go.Proofs.Ytdidacjmcafcpaa.Ph
open Go.ChangeShapes Go.WideShapes Go.ChangeAt Go.RowKit Go.Proofs.Ytdidacjmcafcpaa.Mem Go.Proofs.Ytdidacjmcafcpaa.Kc Go.Proofs.Ytdidacjmcafcpaa.Pl Go.Proofs.Ytdidacjmcafcpaa.Mw Go.Proofs.Ytdidacjmcafcpaa.Mc Go.Proofs.Ytdidacjmcafcpaa.Br
set_option linter.unusedVariables false
set_option linter.unusedSimpArgs false
theorem wpList_app {P : Program} {w : World} {ops : Array Oper} {rest : List Oper} {o : Oper} {a : Act} {Q : Exit → Act → World → Prop} (hgd : o.guard = none) (s x : Operand) (t : TypeId)
    (ho : o.op = .call { callee := .builtin .append, args := #[s, x], argTypes := #[t, t] }) (hty : o.type = t) (B : Nat) (e : TypeId) (i : TypeInfo) (z : Value) (size bytes : Nat) (ht : P.underlying t = some (.slice e)) (hi : P.info? e = some i) (hz : i.zero = some z)
    (hsize : i.size = size) (hby : i.bytes = bytes) (hzs : z.cells.size = size) (hsz : 0 < size) (v0 : Value) (n : Nat) (xs : List Value) (hs : a.eval s = v0) (h0 : w.ownsRow B e size v0 n xs) (ad : Addr) (c : Nat) (hx : a.eval x = .slice (some ad) 1 c) (news : List Value)
    (hl : news.length = size) (hc : ∀ j u, news[j]? = some u → w.cell? (ad.add j) = some u) (h1 : ∀ u ∈ news, u.oneCell' = true) (hn : n ≤ 1000000) (hb : bytes ≤ 1000) (hB : B ≤ w.heap.size)
    (hK : ∀ v' w', w'.ownsRow B e size v' (n + 1) (xs ++ news) → w.grownBy w' v0.ownBlock → (v'.ownBlock = v0.ownBlock ∨ v'.ownBlock = some w.heap.size) → wpList P ops Q rest (a.put o.dst v') w') : wpList P ops Q (o :: rest) a w := by
  refine wpList_plain hgd fun K hK' => ?_
  have hbt : (n + 1) * bytes ≤ 140737488355328 := Nat.le_trans (Nat.mul_le_mul (show n + 1 ≤ 1000001 by omega) hb) (by decide)
  obtain ⟨v', w', hr, h2, h3, _, h4⟩ := run_append_own_at (P := P) (w := w) B t o.type e i z size bytes ht hi hz hsize hby hzs hsz v0 n xs h0 ad 1 c news (by omega) hc h1 (by unfold maxLen; omega) hbt hB
  unfold Oper.wp execOp
  simp only [ho, resolve, invoke, builtin, Sem.run_bind, Sem.run_pure, Result.andThen_ok, List.map_toArray, List.map_cons, List.map_nil, hs, hx, hr]
  exact hK' _ _ (hK v' w' h2 h3 h4)
end Go.Proofs.Ytdidacjmcafcpaa.Ph
