/- A range over slices.Backward, of numbers of which something is known. -/
import Derived.Test.YtdfehpcbcgbidaaBackward
namespace Go.Proofs.Ytdfehpcbcgbidaa.Gc
open Go.ChangeShapes Go.WideShapes Go.ChangeAt Go.RowKit Go.Shelf Go.Proofs.Ytdfehpcbcgbidaa.Mem Go.Proofs.Ytdfehpcbcgbidaa.Gr Go.Proofs.Ytdfehpcbcgbidaa.Gn
set_option linter.unusedVariables false
attribute [local go_sem] Oper.semAt_some

/-- A place, and the number that stands there. -/
abbrev BwQ (Q : Nat → Prop) := { p : Nat × Nat // Q p.2 }
abbrev encQ {Q : Nat → Prop} (x : BwQ Q) : Array Value := #[.int .i64 (x.1.1 : Int), .int .i64 (x.1.2 : Int)]
set_option maxRecDepth 100000 in
set_option maxHeartbeats 2000000 in
theorem backward_stopsQ (F : Fence) (n : Nat) (hf : F.fn 92) (hro : F.round = none) (hn : 1 ≤ n) (K : Nat → Prop) (w : World) (A : Option Addr) (l : List Nat) (c b : Nat) (Q : Nat → Prop) (hi : IntsK K w A l) (hl : l.length ≤ c) (hcm : c ≤ maxLen) (hN : ∀ x ∈ l, Q x)
    (hc : w.cell? ⟨b, 0, none⟩ = some (.slice A l.length c)) (hb : K b) (hK : ∀ k, K k → k < w.heap.size) (hlen : l.length ≤ 1000000) :
    SeqStopsK F n Try.prog 92 #[.pointer (some ⟨b, 0, none⟩)] (encQ (Q := Q)) (KeptP K)
      (fun xs => xs.map (·.1.2) = l.reverse) (fun pre => pre.map (·.1.2) <+: l.reverse) l.length w := by
  intro ll J Jx W hW hJ hJx hY h0
  unfold maxLen at hcm
  have hKW : ∀ k, K k → W.heap[k]? = w.heap[k]? := fun k hk => hW.block k (hK k hk)
  have HI := Lib.hid hi
  have HK := Lib.hid hKW
  have HY := Lib.hid hY
  have HN := Lib.hid hN
  have HC := Lib.hid hc
  clear hKW hi hW hJ hJx hY hN hc
  refine callsIn_of_wp Try.func92 rfl hf ?_ hro
  simp only [Try.ntmps92, List.size_toArray, List.length_cons, List.length_nil, Nat.reduceAdd, Nat.reduceSub, Array.replicate_succ, Array.replicate_zero, List.push_toArray, List.append_toArray, List.nil_append, List.cons_append]
  have hbW : W.cell? ⟨b, 0, none⟩ = some (.slice A l.length c) := by rw [World.cell?_of_block (HK.out b hb)]; exact HC.out
  gi_wp2
  gi_loopw [3] (fun i wr => ∃ (k : Nat) (pre : List (BwQ Q)), k ≤ l.length ∧ i = .int .i64 ((k : Int) - 1) ∧ pre.map (·.1.2) = (l.drop k).reverse ∧ J pre wr ∧ KeptP K W wr) (fun i _ => (intOf i + 1).toNat)
  case atStart => exact ⟨l.length, [], Nat.le_refl _, rfl, by simp, h0, KeptP.refl _ _⟩
  case round =>
    obtain ⟨k, pre, hk, rfl, hpre, hJs, hkp⟩ := hrel
    obtain ⟨wo, rfl⟩ : ∃ wo : World, wo = wr := ⟨_, rfl⟩
    cases k with
    | zero =>
      have HP := Lib.hid (show pre.map (·.1.2) = l.reverse by rw [hpre, List.drop_zero])
      clear hpre
      have d0 : decide ((0 : Int) ≤ -1) = false := by decide
      gi_wp2
      go_end0
      exact ⟨⟨_, rfl⟩, .inl ⟨_, HP.out, hJs⟩⟩
    | succ k =>
      have hlt : k < l.length := by omega
      obtain ⟨ad, rfl, hka, hx⟩ := HI.out k hlt
      have hbo : wo.cell? ⟨b, 0, none⟩ = some (.slice (some ad) l.length c) := by rw [hkp.cell hb]; exact hbW
      have hx' : wo.cell? (ad.add k) = some (.int .i64 (l[k] : Nat)) := by
        rw [hkp.cell (p := ad.add k) hka, World.cell?_of_block (HK.out _ hka)]; exact hx
      have HD := Lib.hid (show (l.drop k).reverse = (l.drop (k + 1)).reverse ++ [l[k]] by rw [List.drop_eq_getElem_cons hlt, List.reverse_cons])
      have HPR := Lib.hid (show (l.drop k).reverse <+: l.reverse from List.reverse_prefix.2 (List.drop_suffix _ _))
      have hxN : Q l[k] := HN.out _ (List.getElem_mem hlt)
      have hlp : pre.length < l.length := by
        have h1 : (pre.map (·.1.2)).length = (l.drop (k + 1)).reverse.length := by rw [hpre]
        rw [List.length_map, List.length_reverse, List.length_drop] at h1
        omega
      clear hx
      generalize l[k] = x at *
      have hsn : (pre ++ [(⟨(k, x), hxN⟩ : BwQ Q)]).map (·.1.2) = (l.drop k).reverse := by rw [List.map_append, hpre, HD.out]; rfl
      obtain ⟨fn, tmps, assign, body, hy, hR⟩ := HY.out pre ⟨(k, x), hxN⟩ wo hJs hlp
      dsimp only [encQ] at hy
      have HS := Lib.hid hsn
      have HKp := Lib.hid hkp
      clear hpre hJs hkp hsn hbW
      have e1 : (((k + 1 : Nat) : Int) - 1) = (k : Int) := by omega
      rw [e1]
      clear e1
      gi_wp2
      refine hR.mono ?_
      rintro e W3 (⟨rfl, hJ3, hk3⟩ | ⟨rfl, hJx3⟩)
      · gi_wp2
        go_roundw
        case rel => exact ⟨k, _, by omega, rfl, HS.out, hJ3, HKp.out.trans hk3⟩
        case measure => simp [intOf]
      · gi_wp2
        refine bodyPost_ret (results_none rfl _ _ _) rfl ?_
        exact ⟨⟨_, rfl⟩, .inr ⟨_, by rw [HS.out]; exact HPR.out, hJx3⟩⟩
end Go.Proofs.Ytdfehpcbcgbidaa.Gc
