/- Stage 12: for PhysCalls, plainly: what its program tells. -/
import Derived.Test.YtdidacjmcafcpaaYG
namespace Go.Proofs.Ytdidacjmcafcpaa.Ph
open Go.ChangeShapes Go.WideShapes Go.ChangeAt Go.RowKit Go.Proofs.Ytdidacjmcafcpaa.Mem Go.Proofs.Ytdidacjmcafcpaa.Kc Go.Proofs.Ytdidacjmcafcpaa.Pl Go.Proofs.Ytdidacjmcafcpaa.Mw Go.Proofs.Ytdidacjmcafcpaa.Mc
set_option linter.unusedVariables false
def liwI (r : Nat) (x : Int) : PlIn := ⟨⟨4, r, 0, 0, 0, 0, x, []⟩, 0⟩
def lisL (ws : List Int) (p : Nat) : List PlIn := (List.range p).map fun r => liwI r (ws.getD r 0)
def natsL (p : Nat) : List Int := (List.range p).map fun r : Nat => (r : Int)
def callI (imm : Int) (args : List Int) : PlIn := ⟨⟨28, 0, 0, 0, 0, 0, imm, args⟩, 0⟩
def movI (r : Nat) : PlIn := ⟨⟨1, r, 0, 12 + r, 0, 0, 0, []⟩, 0⟩
def movL (p : Nat) : List PlIn := (List.range p).map movI
def callsL (ws : List Int) (n : Nat) : List PlIn := lisL ws 16 ++ [callI 9 (natsL n), callI 10 [0, 1, 2, 3]] ++ movL 4 ++ [callI 10 [0, 1, 2, 3]]
def callsB (ws : List Int) (n : Nat) : PPB := ⟨callsL ws n, ⟨7, 0, 0, [], 0⟩⟩
set_option maxRecDepth 100000 in
set_option maxHeartbeats 4000000 in
theorem calls_run (nl : List Int) (n : Nat) (hn : n ≤ 4) (w0 w1 w2 w3 w4 w5 w6 w7 w8 w9 wa wb wc wd we wf : Int) :
    (runQ 0 0 [callsB [w0, w1, w2, w3, w4, w5, w6, w7, w8, w9, wa, wb, wc, wd, we, wf] n] [] [] nl 100).2.1 = 1 ∧
    (runQ 0 0 [callsB [w0, w1, w2, w3, w4, w5, w6, w7, w8, w9, wa, wb, wc, wd, we, wf] n] [] [] nl 100).2.2 = nl.getD 2 0 ∧
    (runQ 0 0 [callsB [w0, w1, w2, w3, w4, w5, w6, w7, w8, w9, wa, wb, wc, wd, we, wf] n] [] [] nl 100).1.calls = [(9, [w0, w1, w2, w3].take n), (10, [nl.getD 0 0, 24302, 24303, 24304]), (10, [wc, wd, we, wf])] := by
  have h : n = 0 ∨ n = 1 ∨ n = 2 ∨ n = 3 ∨ n = 4 := by omega
  rcases h with rfl | rfl | rfl | rfl | rfl
  all_goals exact ⟨by kernel_rfl, by kernel_rfl, by kernel_rfl⟩
theorem tailQ_fine {r sl blocks : Int} {f : PEnd} (he : endQ f r blocks = 0) : ∀ (l : List PlIn) (k : Nat), (∀ y ∈ l, insQ y.i r sl = 0) → (tailQ r sl blocks f k l).1 = 0
  | [], k, _ => he
  | x :: l, k, h => by
    unfold tailQ
    rw [if_pos (h x (List.mem_cons_self ..))]
    exact tailQ_fine he l (k + 1) (fun y hy => h y (List.mem_cons_of_mem _ hy))
theorem oneQ_fine {r : Int} {sl : Nat} {x : PPB} (hr : 4 ≤ r ∧ r ≤ 16) (hs : sl ≤ 16384) (hl : x.ins.length ≤ 65000) (hi : ∀ y ∈ x.ins, insQ y.i r sl = 0) (he : endQ x.fin r 1 = 0) : (funcQ 0 r sl [x]).1 = 0 := by
  have hlim : limQ 0 r sl [x] = 0 := by
    unfold limQ
    have e : uptoQ [x] [x].length = x.ins.length + 1 := by simp [uptoQ, sizeQ]
    rw [e, if_neg (by omega), if_neg (by simp), if_neg (by simp), if_neg (by omega)]
  unfold funcQ
  rw [if_pos hlim]
  show (if (tailQ r sl ([x] : List PPB).length x.fin 0 x.ins).1 = 0 then firstQ r sl ([x] : List PPB).length 1 [] else _).1 = 0
  rw [if_pos (show (tailQ r sl ([x] : List PPB).length x.fin 0 x.ins).1 = 0 from tailQ_fine he x.ins 0 hi)]
  rfl
theorem liw_fine {r : Nat} {x : Int} (hr : r < 16) (hx : InW x) : insQ (liwI r x).i 16 0 = 0 := by
  obtain ⟨h1, h2⟩ := hx
  have hm : makesL (liwI r x).i = [(r : Int)] := rfl
  have ht : takesL (liwI r x).i = [] := rfl
  unfold insQ
  rw [if_neg (by rw [show okI (liwI r x).i = true from rfl]; decide), hm, ht, if_neg (by simp [regsB, badR]; omega), if_neg (by simp [liwI]), if_neg (by simp [fitsI, liwI, loI, hiI]; omega)]
theorem liw_wf {r : Nat} {x : Int} (hr : r < 16) (hx : InW x) : (liwI r x).i.args.length ≤ 100000 ∧ InI (liwI r x).i.a ∧ InI (liwI r x).i.b ∧ InI (liwI r x).i.c ∧ InI (liwI r x).i.d ∧ InI (liwI r x).i.e ∧ InW (liwI r x).i.imm := by
  refine ⟨by simp [liwI], ?_, ?_, ?_, ?_, ?_, hx⟩ <;> (unfold InI; simp [liwI]; try omega)
theorem mov_fine {r : Nat} (hr : r < 4) : insQ (movI r).i 16 0 = 0 := by
  have h : r = 0 ∨ r = 1 ∨ r = 2 ∨ r = 3 := by omega
  rcases h with rfl | rfl | rfl | rfl <;> decide +kernel
theorem call_fine {n : Nat} (hn : n ≤ 4) : insQ (callI 9 (natsL n)).i 16 0 = 0 ∧ insQ (callI 10 (natsL n)).i 16 0 = 0 := by
  have h : n = 0 ∨ n = 1 ∨ n = 2 ∨ n = 3 ∨ n = 4 := by omega
  rcases h with rfl | rfl | rfl | rfl | rfl <;> decide +kernel
theorem zI : InI 0 := ⟨by decide, by decide⟩
theorem mem_calls {ws : List Int} {n : Nat} {y : PlIn} (h : y ∈ callsL ws n) : (∃ r, r < 16 ∧ y = liwI r (ws.getD r 0)) ∨ y = callI 9 (natsL n) ∨ y = callI 10 (natsL 4) ∨ ∃ r, r < 4 ∧ y = movI r := by
  unfold callsL lisL movL at h
  simp only [List.mem_append, List.mem_map, List.mem_range, List.mem_cons, List.not_mem_nil, or_false] at h
  rcases h with ((⟨r, hr, e⟩ | e | e) | ⟨r, hr, e⟩) | e
  · exact Or.inl ⟨r, hr, e.symm⟩
  · exact Or.inr (Or.inl e)
  · exact Or.inr (Or.inr (Or.inl e))
  · exact Or.inr (Or.inr (Or.inr ⟨r, hr, e.symm⟩))
  · exact Or.inr (Or.inr (Or.inl e))
theorem calls_fine {ws : List Int} {n : Nat} (hn : n ≤ 4) (hw : ∀ x ∈ ws, InW x) : (funcQ 0 16 0 [callsB ws n]).1 = 0 := by
  refine oneQ_fine (sl := 0) ⟨by decide, by decide⟩ (by decide) (by simp [callsB, callsL, lisL, movL]) (fun y hy => ?_) (show endQ ⟨7, 0, 0, [], 0⟩ 16 1 = 0 by decide +kernel)
  rcases mem_calls hy with ⟨r, hr, rfl⟩ | rfl | rfl | ⟨r, hr, rfl⟩
  · exact liw_fine hr (inW_getD hw r)
  · exact (call_fine hn).1
  · exact (call_fine (n := 4) (by decide)).2
  · exact mov_fine hr
theorem calls_wf {ws : List Int} {n : Nat} (hn : n ≤ 4) (hw : ∀ x ∈ ws, InW x) : WfQ [callsB ws n] where
  few := by simp
  sizes := fun x hx => by
    rw [List.mem_singleton.1 hx]
    exact ⟨by simp [callsB, callsL, lisL, movL], by simp [callsB]⟩
  ins := fun x hx y hy => by
    rw [List.mem_singleton.1 hx] at hy
    rcases mem_calls hy with ⟨r, hr, rfl⟩ | rfl | rfl | ⟨r, hr, rfl⟩
    · exact liw_wf hr (inW_getD hw r)
    · exact ⟨by simp [callI, natsL]; omega, zI, zI, zI, zI, zI, (⟨by decide, by decide⟩ : InW 9)⟩
    · exact ⟨by simp [callI, natsL], zI, zI, zI, zI, zI, (⟨by decide, by decide⟩ : InW 10)⟩
    · exact ⟨by simp [movI], ⟨by simp [movI] <;> omega, by simp [movI] <;> omega⟩, zI, zI, ⟨by simp [movI] <;> omega, by simp [movI] <;> omega⟩, zI, (inW_zero : InW 0)⟩
theorem list16 {l : List Int} (h : l.length = 16) : ∃ w0 w1 w2 w3 w4 w5 w6 w7 w8 w9 wa wb wc wd we wf, l = [w0, w1, w2, w3, w4, w5, w6, w7, w8, w9, wa, wb, wc, wd, we, wf] := by
  match l, h with
  | [w0, w1, w2, w3, w4, w5, w6, w7, w8, w9, wa, wb, wc, wd, we, wf], _ => exact ⟨w0, w1, w2, w3, w4, w5, w6, w7, w8, w9, wa, wb, wc, wd, we, wf, rfl⟩
theorem calls_tell {nl ws : List Int} {n : Nat} (hn : n ≤ 4) (h : ws.length = 16) : (runQ 0 0 [callsB ws n] [] [] nl 100).2.1 = 1 ∧ (runQ 0 0 [callsB ws n] [] [] nl 100).2.2 = nl.getD 2 0 ∧ (runQ 0 0 [callsB ws n] [] [] nl 100).1.calls = [(9, ws.take n), (10, [nl.getD 0 0, 24302, 24303, 24304]), (10, ws.drop 12)] := by
  obtain ⟨w0, w1, w2, w3, w4, w5, w6, w7, w8, w9, wa, wb, wc, wd, we, wf, rfl⟩ := list16 h
  obtain ⟨h1, h2, h3⟩ := calls_run nl n hn w0 w1 w2 w3 w4 w5 w6 w7 w8 w9 wa wb wc wd we wf
  refine ⟨h1, h2, h3.trans ?_⟩
  have h4 : n = 0 ∨ n = 1 ∨ n = 2 ∨ n = 3 ∨ n = 4 := by omega
  rcases h4 with rfl | rfl | rfl | rfl | rfl <;> rfl
theorem getD_few {l : List Int} {i : Nat} (hi : i < 9) : (l.take (min l.length 9)).getD i 0 = l.getD i 0 := by
  rw [List.getD_eq_getElem?_getD, List.getD_eq_getElem?_getD, List.getElem?_take]
  by_cases h : i < min l.length 9
  · rw [if_pos h]
  · rw [if_neg h, List.getElem?_eq_none (by omega)]
end Go.Proofs.Ytdidacjmcafcpaa.Ph
