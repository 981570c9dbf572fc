/- What is proved: a block put on an edge changes nothing of who dominates whom among the others (law GraphPut). -/
import Derived.Test.YthanbedmiaacdaaRows
import Derived.Test.YthanbedmiaacdaaSameAll
import Derived.Test.YthanbedmiaacdaaMade
import Derived.Test.YthanbedmiaacdaaIdomC
import Derived.Test.YthanbedmiaacdaaCritC
import Derived.Test.YthanbedmiaacdaaReducC
import Derived.Test.YthanbedmiaacdaaDominates
import Derived.WalkKit
import Derived.ProofKit
import Derived.OpenShut
import Derived.ShutString
import Derived.ChangeOld
import Derived.Below
namespace Go.Proofs.Ythanbedmiaacdaa.graphPut
open Go.ChangeShapes Go.WideShapes Go.ChangeAt Go.RowKit
open Go.ChangeMaps (open_string shut_string)
set_option linter.unusedVariables false
set_option linter.constructorNameAsVariable false

theorem own : ownKnob Try.prog.godebug = none := by kernel_rfl
theorem laidOut : laidOutB Try.prog = true := by kernel_rfl

/-- WHAT THE WALK IS TOLD OF A SLICE OF INTEGERS THAT CAME IN: it is nil; or it leads to a row of 'cap' cells, the numbers 'zs' (the first 'len' are its elements, the rest its spare room), each fitting its kind. -/
def IsRow (k : IntKind) (w : World) (a : Option Addr) (len cap : Nat) (zs : List Int) : Prop :=
  (a = none ∧ len = 0 ∧ cap = 0 ∧ zs = []) ∨
  ∃ x, a = some x ∧ len ≤ cap ∧ cap ≤ maxLen ∧ zs.length = cap ∧ (∀ i, i < zs.length → w.cell? (x.add i) = some (.int k (zs.getD i 0))) ∧ ∀ n ∈ zs, (Lit.int k n).wf = true

open Go.Proofs.Ythanbedmiaacdaa.Gl Go.Proofs.Ythanbedmiaacdaa.Mem Go.Proofs.Ythanbedmiaacdaa.Gr Go.Proofs.Ythanbedmiaacdaa.Gn Go.Proofs.Ythanbedmiaacdaa.Gc
open Go.Proofs.Ythanbedmiaacdaa.Gl Go.Proofs.Ythanbedmiaacdaa.Mem Go.Proofs.Ythanbedmiaacdaa.Gr Go.Proofs.Ythanbedmiaacdaa.Gn Go.Proofs.Ythanbedmiaacdaa.Gc
/-- What is made goes nowhere but to its blocks. -/
theorem madeOne_out {s : List Int} {n i k : Nat} : ∀ x ∈ madeOne s n i k, 0 ≤ x ∧ x < (n : Int) := by
  intro x hx
  unfold madeOne at hx
  split at hx
  · split at hx
    · rename_i h
      rw [List.mem_singleton] at hx
      subst hx
      exact ⟨Int.emod_nonneg _ (by omega), h⟩
    · cases hx
  · cases hx
theorem madeRow_out {s : List Int} {n i : Nat} : ∀ j, ∀ x ∈ madeRow s n i j, 0 ≤ x ∧ x < (n : Int)
  | 0, x, hx => by cases hx
  | j + 1, x, hx => by
    rw [madeRow] at hx
    rcases List.mem_append.1 hx with h | h
    · exact madeRow_out j x h
    · exact madeOne_out x h
theorem made_out (s : List Int) : ∀ (i : Nat), ∀ x ∈ (madeL s).getD i [], 0 ≤ x ∧ x < ((madeL s).length : Int) := by
  intro i x hx
  rw [madeL_len]
  rcases Nat.lt_or_ge i (madeN s) with h | h
  · rw [List.getD_eq_getElem?_getD] at hx
    unfold madeL madeTo at hx
    rw [List.getElem?_map, List.getElem?_range h] at hx
    exact madeRow_out 3 x hx
  · rw [List.getD_eq_getElem?_getD, List.getElem?_eq_none (by rw [madeL_len]; exact h)] at hx
    cases hx
theorem putL_small {g : List (List Int)} (h : Small g) (hl : g.length < 1000) (a b : Nat) : Small (putL g a b) := by
  refine ⟨by rw [putL_len]; omega, fun i hi => ?_⟩
  have e : (putL g a b)[i] = (putL g a b).getD i [] := by rw [List.getD_eq_getElem?_getD, List.getElem?_eq_getElem hi]; rfl
  rw [e]
  rw [putL_len] at hi
  rcases Nat.lt_or_ge i g.length with k | k
  · rw [putL_row k]
    unfold putRow
    rw [List.length_map, List.getD_eq_getElem?_getD, List.getElem?_eq_getElem k]
    exact h.2 i k
  · obtain rfl : i = g.length := by omega
    rw [putL_last]
    exact (by decide : (1 : Nat) ≤ 1000)
/-- What becomes of a number of a row. -/
def putE (n a b k : Nat) (x : Int) : Int := if k = a ∧ x = (b : Int) then (n : Int) else x
theorem put_take {g : List (List Int)} (a b : Nat) {k m : Nat} (hk : k < g.length) (hm : m < g[k].length) :
    (putRow g a b k).take (m + 1) = (putRow g a b k).take m ++ [putE g.length a b k g[k][m]] := by
  have e : putRow g a b k = g[k].map (putE g.length a b k) := by
    unfold putRow
    rw [List.getD_eq_getElem?_getD, List.getElem?_eq_getElem hk]; rfl
  rw [e, List.take_succ_eq_append_getElem (by rw [List.length_map]; exact hm), List.getElem_map]
structure Cut (P : Prop) : Prop where
  out : P
theorem Cut.cut {P Q : Prop} (h : Cut P → Q) (p : Cut P) : Q := h p
theorem cells52 : Try.prog.cellsOf 52 = 2 := by kernel_rfl
theorem cells3 : Try.prog.cellsOf 3 = 1 := by kernel_rfl
/-- An array of two numbers that came in. -/
theorem open_two {H : Type} {enc : TypeId × Value → H} {W : World} {base : Nat} {sp : Nat → Bool} {held : Bool} {r : Reach} {b0 : Nat} {v : Value} {d : DataW H} {ps : List MemPlace}
    (hv : Value.okWide Try.prog W r b0 52 v) (hd : DataW.Trod enc Try.prog W base sp held 52 v d ps) : ∃ x y : Int, v = .agg #[.int .i64 x, .int .i64 y] := by
  simp only [Value.okWide, Try.underlying52] at hv
  obtain ⟨xs, rfl, hn, _⟩ := hv
  rw [cells52] at hn
  obtain ⟨fuel, hf⟩ := hd
  cases fuel with
  | zero => simp [DataW.trod] at hf
  | succ m =>
    rw [DataW.trod_step] at hf
    unfold DataW.trodStep at hf
    simp only [Try.underlying52, Value.cells, cells52, cells3] at hf
    obtain ⟨l⟩ := xs
    match l, hn with
    | [p, q], _ =>
      simp [List.range_succ, List.mapM_cons] at hf
      rcases e1 : DataW.trod enc Try.prog W base sp held m 3 [p] with _ | y1
      · rw [e1] at hf; simp at hf
      · rcases e2 : DataW.trod enc Try.prog W base sp held m 3 [q] with _ | y2
        · rw [e1, e2] at hf; simp at hf
        · obtain ⟨x, hx, _⟩ := DataW.trod_int Try.underlying3 e1
          obtain ⟨y, hy, _⟩ := DataW.trod_int Try.underlying3 e2
          injection hx with hx
          injection hy with hy
          exact ⟨x, y, by rw [hx, hy]⟩
set_option maxRecDepth 100000 in
set_option maxHeartbeats 1000000 in
theorem walk (a0 : Option Addr) (len0 cap0 : Nat) (z0 : List Int) (x1 y1 : Int) (w : World) (w0 : IsRow .i64 w a0 len0 cap0 z0) :
    Calls Try.prog 10 #[.slice a0 len0 cap0, .agg #[.int .i64 x1, .int .i64 y1]] w fun e w' => e = .returned (.bool true) ∧ Below w.heap.size w w' := by
  obtain ⟨hl0, hi0⟩ := row_ints w0 (Nat.le_refl len0)
  clear w0
  have HI0 := Lib.hid hi0
  generalize z0.take len0 = s at *
  clear hl0 hi0
  go_enter Try.func10, Try.ntmps10
  go_wp2_with fail
  have hbw : Below w.heap.size w (w.alloc (.cells #[.int .i64 x1, .int .i64 y1] 52)) := (Below.refl _ _).alloc (Nat.le_refl _) _
  have hst : Str (w.alloc (.cells #[.int .i64 x1, .int .i64 y1] 52)) w.heap.size 52 [.int .i64 x1, .int .i64 y1] := Str.new_ _ rfl
  generalize w.alloc (.cells #[.int .i64 x1, .int .i64 y1] 52) = W at *
  have HBW := Lib.hid hbw
  have HST := Lib.hid hst
  have HIW := Lib.hid (HI0.out.keep hbw)
  clear hbw hst HI0
  refine (awake_any _).mono ?_
  rintro e v1 ⟨rfl, hb1⟩
  have HB1 := Lib.hid (HBW.out.trans (hb1.mono HBW.out.size))
  have HI1 := Lib.hid (HIW.out.keep hb1)
  have HST1 := Lib.hid (HST.out.below hb1)
  clear hb1 HIW HST HBW
  go_wp2_with fail
  refine (made_any v1 _ s HI1.out).mono ?_
  rintro e v2 ⟨vg, rfl, hog, hb2⟩
  have hg2 := hog.grid
  have HST2 := Lib.hid (HST1.out.below hb2)
  have HG2 := Lib.hid hg2
  have HB2 := Lib.hid (HB1.out.trans (hb2.mono HB1.out.size))
  have hS := madeL_small s
  have HS := Lib.hid hS
  have hgl := hS.1
  have hg0 : 0 < (madeL s).length := by rw [madeL_len]; have := madeN_bd s; omega
  have hg9 : (madeL s).length ≤ 10 := by rw [madeL_len]; have := madeN_bd s; omega
  have HOUT := Lib.hid (made_out s)
  obtain ⟨Ag, cg, rfl, hgs, hgm, hrest⟩ := hg2
  have HR := Lib.hid hrest
  generalize madeL s = g at *
  clear hog hb2 hS HB1 HI1 hrest HST1
  have hq0 : v2.cell? ⟨w.heap.size, 0, none⟩ = some (.int .i64 x1) := HST2.out.cell 0
  have hq1 : v2.cell? ⟨w.heap.size, 1, none⟩ = some (.int .i64 y1) := HST2.out.cell 1
  go_wp2_with fail
  refine (rest_any x1 (g.length : Int) (by omega) (by omega) _).mono ?_
  rintro e v3 ⟨rfl, hv3⟩
  have hv4 := hv3.symm
  subst hv4
  clear hv3
  have hx0 := Int.emod_nonneg x1 (show (g.length : Int) ≠ 0 by omega)
  have hx1 := Int.emod_lt_of_pos x1 (show (0 : Int) < (g.length : Int) by omega)
  obtain ⟨a, ha⟩ := Int.eq_ofNat_of_zero_le hx0
  rw [ha] at hx1 ⊢
  have hal : a < g.length := by omega
  clear hx0 hx1
  obtain ⟨bg, ra, ebg, hca, hra⟩ := HR.out a hal
  obtain ⟨Aa, ca, rfl, ha1, ha2, ha3⟩ := hra
  subst ebg
  have HRA := Lib.hid ha3
  clear ha3
  by_cases hz : g[a].length = 0
  · have hz2 : g[a].length ≤ 0 := by omega
    go_wp2
    go_ret
    exact ⟨rfl, HB2.out⟩
  have hy0 := Int.emod_nonneg y1 (show ((g[a]).length : Int) ≠ 0 by omega)
  have hy1 := Int.emod_lt_of_pos y1 (show (0 : Int) < ((g[a]).length : Int) by omega)
  obtain ⟨c, hc⟩ := Int.eq_ofNat_of_zero_le hy0
  have hcl : c < g[a].length := by omega
  obtain ⟨ra, ebr, hcc⟩ := HRA.out c hcl
  subst ebr
  have hrs := (HS.out.2 a hal)
  have HREST := Lib.hid (fun (W' : World) => (rest_any y1 ((g[a]).length : Int) (by omega) (by omega) W').mono (R' := fun e w' => e = .returned (.int .i64 (c : Int)) ∧ w' = W') (fun e w' h => by rw [hc] at h; exact h))
  clear hy0 hy1
  go_wp2_with fail
  apply Cut.cut
  case h =>
    intro key
    go_region_with (go_at_call 24; refine (HREST.out _).mono ?_; rintro e v5 ⟨rfl, hv5⟩; have hv6 := hv5.symm; subst hv6; clear hv5)
    all_goals
      rename_i K ak
      refine ak _ _ ?_
      exact key.out
  case p =>
    constructor
    have hbm : g[a][c] ∈ g.getD a [] := by rw [List.getD_eq_getElem?_getD, List.getElem?_eq_getElem hal]; exact List.getElem_mem hcl
    have hbo := HOUT.out a _ hbm
    obtain ⟨b, hb⟩ := Int.eq_ofNat_of_zero_le hbo.1
    have hed : edgeB g a b = true := edge_row.2 ⟨hal, by omega, by rw [← hb]; exact hbm⟩
    have HP := Lib.hid (Put.mk hed (fun i x hx => (HOUT.out i x hx).2))
    rw [hb]
    have hbl : b < g.length := by omega
    have HG := Lib.hid (show Grid v2.drew (.slice (some bg) g.length cg) g from HG2.out)
    have HR' := Lib.hid (show ∀ (k : Nat) (h : k < g.length), ∃ ad u, some bg = some ad ∧ v2.drew.cell? (ad.add k) = some u ∧ Ints v2.drew u g[k] from HR.out)
    have HBV := Lib.hid (show Below w.heap.size w v2.drew from below_drewN HB2.out 1)
    generalize v2.drew = V at *
    clear hbm hbo hb hed HG2 HR HB2 HST2 hq0 hq1 hcc hca HRA hrs HREST HOUT ha1 ha2 hz hc hcl ha
    obtain ⟨i0, hi, hz0, hz1, hz2⟩ := info_parts info_int
    obtain ⟨i1, hj, hy0, hy1, hy2⟩ := info_parts Go.Proofs.Ythanbedmiaacdaa.Gr.info_row
    have HI := Lib.hid hi
    have HZ0 := Lib.hid hz0
    have HZ1 := Lib.hid hz1
    have HZ2 := Lib.hid hz2
    have HJ := Lib.hid hj
    have HY0 := Lib.hid hy0
    have HY1 := Lib.hid hy1
    have HY2 := Lib.hid hy2
    clear hi hz0 hz1 hz2 hj hy0 hy1 hy2
    go_wp2_with fail
    go_loopw [10, 11] (fun o i wr => ∃ k : Nat, k ≤ g.length ∧ i = .int .i64 k ∧ OwnGrid V.heap.size wr o (putTo g a b k) ∧ Below V.heap.size V wr) (fun _ i _ => g.length - (intOf i).toNat)
    case atStart => exact ⟨0, by omega, rfl, OwnGrid.none_ _ _, Below.refl _ _⟩
    case round =>
      obtain ⟨k, hk, rfl, hown, hb⟩ := hrel
      obtain ⟨wo, rfl⟩ : ∃ wo : World, wo = wr := ⟨_, rfl⟩
      have hkc := putTo_len g a b k
      have HO := Lib.hid hown
      have HB := Lib.hid hb
      by_cases hlt : k < g.length
      · obtain ⟨Ao, co, rfl⟩ := own_form hown.choose_spec.1
        rw [hkc]
        obtain ⟨bk, rk, ebk, hck, hrk⟩ := HR'.out k hlt
        injection ebk with ebk
        subst ebk
        obtain ⟨Ak, ck, rfl, hk1, hk2, hk3⟩ := hrk
        have HCK := Lib.hid (cell_keep hb (Nat.le_refl _) hck)
        have HPL := Lib.hid (show (putRow g a b k).length = g[k].length by
          unfold putRow; rw [List.length_map, List.getD_eq_getElem?_getD, List.getElem?_eq_getElem hlt]; rfl)
        have HTS := Lib.hid (fun m (h : m < g[k].length) => put_take a b hlt h)
        have HRK := Lib.hid (show ∀ m (h : m < g[k].length), ∃ ad, Ak = some ad ∧ wo.cell? (ad.add m) = some (.int .i64 g[k][m]) from fun m h => by
          obtain ⟨ad, e, hc⟩ := hk3 m h
          exact ⟨ad, e, cell_keep hb (Nat.le_refl _) hc⟩)
        have hgk := HS.out.2 k hlt
        generalize g[k] = l at *
        obtain ⟨L, hL⟩ : ∃ L, l.length = L := ⟨_, rfl⟩
        have HL := Lib.hid hL
        have HCK2 := HCK.out
        rw [hL] at HCK2 hk1 hgk HPL
        have HCK := Lib.hid HCK2
        clear hL hown hb hck hk3 hk2 HCK2
        go_wp2_with fail
        go_loopw [12, 13] (fun r j wr => ∃ m : Nat, m ≤ L ∧ j = .int .i64 m ∧ OwnInts wo.heap.size wr r ((putRow g a b k).take m) ∧ Below wo.heap.size wo wr) (fun _ j _ => L - (intOf j).toNat)
        case atStart => exact ⟨0, by omega, rfl, World.ownsRow_nil _ _ _ _, Below.refl _ _⟩
        case round =>
          obtain ⟨m, hm, rfl, hoi, hbi⟩ := hrel
          obtain ⟨wi, rfl⟩ : ∃ wi : World, wi = wr := ⟨_, rfl⟩
          have hrl : ((putRow g a b k).take m).length ≤ 1000 := by rw [List.length_take, HPL.out]; omega
          obtain ⟨t, ht⟩ : ∃ t, (putRow g a b k).take m = t := ⟨_, rfl⟩
          rw [ht] at hoi hrl
          have HTT := Lib.hid ht
          clear ht
          obtain ⟨Ar, cr, rfl⟩ := own_form hoi
          have HOI := Lib.hid hoi
          have HBI := Lib.hid hbi
          have hci := cell_keep hbi (Nat.le_refl _) HCK.out
          clear hoi hbi
          by_cases hml : m < L
          · have hm2 : m < l.length := by rw [HL.out]; exact hml
            obtain ⟨am, eam, hcm⟩ := HRK.out m hm2
            subst eam
            have hcm := cell_keep HBI.out (Nat.le_refl _) hcm
            obtain ⟨x, hx⟩ : ∃ x, l[m] = x := ⟨_, rfl⟩
            rw [hx] at hcm
            have HX := Lib.hid hx
            clear hx
            by_cases hka : k = a
            · have HKA := Lib.hid hka
              have hkb : ((k : Int) == (a : Int)) = true := beq_iff_eq.2 (by omega)
              clear hka
              by_cases hxb : x = (b : Int)
              · have HXB := Lib.hid hxb
                have hxc : (x == (b : Int)) = true := beq_iff_eq.2 hxb
                clear hxb
                have HT := Lib.hid (show (putRow g a b k).take (m + 1) = t ++ [(g.length : Int)] by
                  rw [HTS.out m hm2, HTT.out]; exact congrArg (fun x => t ++ [x]) (by rw [HX.out]; unfold putE; rw [if_pos ⟨HKA.out, HXB.out⟩]))
                go_wp2_with (at_builtin; refine wpList_append_own _ rfl _ _ 23 rfl wo.heap.size 3 i0 (.int .i64 0) 1 8 Try.underlying23 HI.out HZ0.out HZ1.out HZ2.out rfl (by decide) _ _ _ rfl (HOI.out.alloc _) ⟨_, 0, none⟩ 1 1 [.int .i64 (g.length : Int)] rfl rfl ?c1 ?c2 ?c3 ?c4 ?c5 ?_)
                case c1 =>
                  intro i u hj
                  match i, hj with
                  | 0, hj => simp at hj; subst hj; simp [Addr.add]
                case c2 => intro u hu; simp at hu; subst hu; rfl
                case c3 => unfold maxLen; omega
                case c4 => omega
                case c5 => have := HBI.out.size; simp <;> omega
                intro vn w6 hown' hgrow _
                have hown2 : OwnInts wo.heap.size w6 vn ((putRow g a b k).take (m + 1)) := by
                  rw [HT.out]
                  unfold OwnInts
                  rw [List.length_append, List.map_append]; exact hown'
                have HO2 := Lib.hid hown2
                have HB2' := Lib.hid ((HBI.out.alloc HBI.out.size _).grown hgrow (by rw [World.size_alloc]; have := HBI.out.size; omega) (fun j hj => (HOI.out.lt j hj).1))
                clear hown' hgrow hown2
                go_wp2
                go_roundw
                case rel => exact ⟨m + 1, by omega, by go_num, HO2.out, HB2'.out⟩
                case measure => simp [intOf]; omega
              · have HXB := Lib.hid hxb
                have hxc : (x == (b : Int)) = false := beq_eq_false_iff_ne.2 hxb
                clear hxb
                have HT := Lib.hid (show (putRow g a b k).take (m + 1) = t ++ [x] by
                  rw [HTS.out m hm2, HTT.out]; exact congrArg (fun x => t ++ [x]) (by rw [HX.out]; unfold putE; rw [if_neg (fun h => HXB.out h.2)]))
                go_wp2_with (at_builtin; refine wpList_append_own _ rfl _ _ 23 rfl wo.heap.size 3 i0 (.int .i64 0) 1 8 Try.underlying23 HI.out HZ0.out HZ1.out HZ2.out rfl (by decide) _ _ _ rfl (HOI.out.alloc _) ⟨_, 0, none⟩ 1 1 [.int .i64 x] rfl rfl ?c1 ?c2 ?c3 ?c4 ?c5 ?_)
                case c1 =>
                  intro i u hj
                  match i, hj with
                  | 0, hj => simp at hj; subst hj; simp [Addr.add]
                case c2 => intro u hu; simp at hu; subst hu; rfl
                case c3 => unfold maxLen; omega
                case c4 => omega
                case c5 => have := HBI.out.size; simp <;> omega
                intro vn w6 hown' hgrow _
                have hown2 : OwnInts wo.heap.size w6 vn ((putRow g a b k).take (m + 1)) := by
                  rw [HT.out]
                  unfold OwnInts
                  rw [List.length_append, List.map_append]; exact hown'
                have HO2 := Lib.hid hown2
                have HB2' := Lib.hid ((HBI.out.alloc HBI.out.size _).grown hgrow (by rw [World.size_alloc]; have := HBI.out.size; omega) (fun j hj => (HOI.out.lt j hj).1))
                clear hown' hgrow hown2
                go_wp2
                go_roundw
                case rel => exact ⟨m + 1, by omega, by go_num, HO2.out, HB2'.out⟩
                case measure => simp [intOf]; omega
            · have HKA := Lib.hid hka
              have hkb : ((k : Int) == (a : Int)) = false := beq_eq_false_iff_ne.2 (by omega)
              clear hka
              have HT := Lib.hid (show (putRow g a b k).take (m + 1) = t ++ [x] by
                rw [HTS.out m hm2, HTT.out]; exact congrArg (fun x => t ++ [x]) (by rw [HX.out]; unfold putE; rw [if_neg (fun h => HKA.out h.1)]))
              go_wp2_with (at_builtin; refine wpList_append_own _ rfl _ _ 23 rfl wo.heap.size 3 i0 (.int .i64 0) 1 8 Try.underlying23 HI.out HZ0.out HZ1.out HZ2.out rfl (by decide) _ _ _ rfl (HOI.out.alloc _) ⟨_, 0, none⟩ 1 1 [.int .i64 x] rfl rfl ?c1 ?c2 ?c3 ?c4 ?c5 ?_)
              case c1 =>
                intro i u hj
                match i, hj with
                | 0, hj => simp at hj; subst hj; simp [Addr.add]
              case c2 => intro u hu; simp at hu; subst hu; rfl
              case c3 => unfold maxLen; omega
              case c4 => omega
              case c5 => have := HBI.out.size; simp <;> omega
              intro vn w6 hown' hgrow _
              have hown2 : OwnInts wo.heap.size w6 vn ((putRow g a b k).take (m + 1)) := by
                rw [HT.out]
                unfold OwnInts
                rw [List.length_append, List.map_append]; exact hown'
              have HO2 := Lib.hid hown2
              have HB2' := Lib.hid ((HBI.out.alloc HBI.out.size _).grown hgrow (by rw [World.size_alloc]; have := HBI.out.size; omega) (fun j hj => (HOI.out.lt j hj).1))
              clear hown' hgrow hown2
              go_wp2
              go_roundw
              case rel => exact ⟨m + 1, by omega, by go_num, HO2.out, HB2'.out⟩
              case measure => simp [intOf]; omega
          · obtain rfl : m = L := by omega
            have HOX := Lib.hid (show OwnInts wo.heap.size wi (.slice Ar t.length cr) (putRow g a b k) by
              have e : putRow g a b k = t := by rw [← HTT.out]; exact (List.take_of_length_le (by rw [HPL.out]; exact Nat.le_refl _)).symm
              rw [e]; exact HOI.out)
            obtain ⟨vs, hvs, hrows⟩ := HO.out
            have hvs2 := own_below hvs HBI.out
            have hpl := putTo_len g a b k
            rw [hpl] at hvs2
            have HV := Lib.hid hvs2
            have HRX := Lib.hid hrows
            clear hvs hvs2 hrows
            go_wp2_with (at_builtin; refine wpList_append_own _ rfl _ _ 22 rfl V.heap.size 23 i1 (.slice none 0 0) 1 24 Try.underlying22 HJ.out HY0.out HY1.out HY2.out rfl (by decide) _ _ _ rfl (HV.out.alloc _) ⟨_, 0, none⟩ 1 1 [.slice Ar t.length cr] rfl rfl ?c1 ?c2 ?c3 ?c4 ?c5 ?_)
            case c1 =>
              intro i u hj
              match i, hj with
              | 0, hj => simp at hj; subst hj; simp [Addr.add]
            case c2 => intro u hu; simp at hu; subst hu; rfl
            case c3 => unfold maxLen; omega
            case c4 => omega
            case c5 => have := HB.out.size; have := HBI.out.size; simp; omega
            intro v' w9 hown' hgrow _
            have hgr2 : OwnGrid V.heap.size w9 v' (putTo g a b (k + 1)) := by
              rw [putTo_succ]
              refine OwnGrid.push (fun i hi => ?_) (by rw [hpl]; exact HV.out.alloc _) (World.ownsRow.alloc (own_base HOX.out HB.out.size) _) hgrow (by rw [hpl]; exact hown')
              obtain ⟨u, e, hu⟩ := HRX.out i hi
              exact ⟨u, e, World.ownsRow.alloc (own_below hu HBI.out) _⟩
            have HO4 := Lib.hid hgr2
            have HB4 := Lib.hid (((HB.out.trans (HBI.out.mono HB.out.size)).alloc (Nat.le_trans HB.out.size HBI.out.size) _).grown hgrow (by rw [World.size_alloc]; have := HB.out.size; have := HBI.out.size; omega) (fun j hj => (HV.out.lt j hj).1))
            clear hown' hgrow hgr2 hpl
            go_wp2
            go_roundw
            case rel => exact ⟨k + 1, by omega, by go_num, HO4.out, HB4.out⟩
            case measure => simp [intOf]; omega
      · clear hown hb
        obtain rfl : k = g.length := by omega
        obtain ⟨vs, hvs, hrows⟩ := HO.out
        have hpl := putTo_len g a b g.length
        rw [hpl] at hvs
        obtain ⟨Ah, ch, rfl⟩ := own_form hvs
        have HV := Lib.hid hvs
        have HRX := Lib.hid hrows
        clear hvs hrows HO
        go_wp2_with (at_builtin; refine wpList_append_own _ rfl _ _ 22 rfl V.heap.size 23 i1 (.slice none 0 0) 1 24 Try.underlying22 HJ.out HY0.out HY1.out HY2.out rfl (by decide) _ _ _ rfl ((HV.out.alloc _).alloc _) ⟨_, 0, none⟩ 1 1 [.slice (some ⟨wo.heap.size, 0, none⟩) 1 1] rfl rfl ?c1 ?c2 ?c3 ?c4 ?c5 ?_)
        case c1 =>
          intro i u hj
          match i, hj with
          | 0, hj => simp at hj; subst hj; simp [Addr.add]
        case c2 => intro u hu; simp at hu; subst hu; rfl
        case c3 => unfold maxLen; omega
        case c4 => omega
        case c5 => have := HB.out.size; simp; omega
        intro v' w9 hown' hgrow _
        have hnew : OwnInts V.heap.size (wo.alloc (.cells #[.int .i64 (b : Int)] 3)) (.slice (some ⟨wo.heap.size, 0, none⟩) 1 1) [(b : Int)] :=
          ⟨rfl, Or.inr ⟨wo.heap.size, 1, #[.int .i64 (b : Int)], rfl, HB.out.size, heap_alloc_new wo _, Nat.le_refl _, by decide, rfl, rfl⟩⟩
        have hgr2 : OwnGrid V.heap.size w9 v' (putL g a b) := by
          refine OwnGrid.push (fun i hi => ?_) (by rw [hpl]; exact (HV.out.alloc _).alloc _) (World.ownsRow.alloc hnew _) hgrow (by rw [hpl]; exact hown')
          obtain ⟨u, e, hu⟩ := HRX.out i hi
          exact ⟨u, e, World.ownsRow.alloc (World.ownsRow.alloc hu _) _⟩
        have HH := Lib.hid hgr2.grid
        have hb9 := (((HB.out.alloc HB.out.size _).alloc (by rw [World.size_alloc]; have := HB.out.size; omega) _).grown hgrow (by rw [World.size_alloc, World.size_alloc]; have := HB.out.size; omega) (fun j hj => (HV.out.lt j hj).1))
        have HG9 := Lib.hid (HG.out.keep hb9)
        have HB9 := Lib.hid (HBV.out.trans (hb9.mono HBV.out.size))
        have HSH := Lib.hid (putL_small HS.out (show g.length < 1000 by omega) a b)
        have HSP := Lib.hid (spans_all (g := g) hgl)
        have HSPH := Lib.hid (spans_all (g := putL g a b) (by rw [putL_len]; omega))
        have hll := putL_len g a b
        obtain ⟨Ah2, ch2, e, hq⟩ := HH.out
        rw [hll] at e
        subst e
        clear hq hown' hgrow hgr2 hpl hnew hb9 HV HRX HB
        go_wp2_with fail
        refine (idom_code w9 _ g HG9.out HS.out).mono ?_
        rintro e w10 ⟨vi, rfl, hoi, hb⟩
        have HG10 := Lib.hid (HG9.out.keep hb)
        have HH10 := Lib.hid (HH.out.keep hb)
        have HB10 := Lib.hid (HB9.out.trans (hb.mono HB9.out.size))
        have HI10 := Lib.hid hoi.ints
        clear hoi hb HG9 HB9 HH
        go_wp2_with fail
        refine (idom_code w10 _ (putL g a b) HH10.out HSH.out).mono ?_
        rintro e w11 ⟨vj, rfl, hoj, hb⟩
        have HG11 := Lib.hid (HG10.out.keep hb)
        have HH11 := Lib.hid (HH10.out.keep hb)
        have HB11 := Lib.hid (HB10.out.trans (hb.mono HB10.out.size))
        have HI11 := Lib.hid (HI10.out.keep hb)
        have HJ11 := Lib.hid hoj.ints
        clear hoj hb HG10 HB10 HH10 HI10
        have HDP := Lib.hid (fun x y (hx : x < g.length) (hy : y < g.length) => dominates_put HP.out hx hy)
        have hil := idom_len g
        have hjl := idom_len (putL g a b)
        rw [hll] at hjl
        obtain ⟨Ai, ci, rfl, hi4⟩ := HI11.out
        obtain ⟨Aj, cj, rfl, hj4⟩ := HJ11.out
        clear hi4 hj4
        have HIL := Lib.hid hil
        have HJL := Lib.hid hjl
        generalize idomN (tidyN g) = li1 at *
        generalize idomN (tidyN (putL g a b)) = li2 at *
        rw [hil, hjl]
        clear hil hjl
        have hne1 : (((g.length + 1 : Nat) : Int) != (g.length : Int) + 1) = false := by rw [bne_eq_false_iff_eq]; omega
        have hne2 : ((g.length : Int) != (g.length : Int)) = false := by simp
        go_wp2_with fail
        go_loopw [16] (fun i wr => ∃ x : Nat, x ≤ g.length ∧ i = .int .i64 x ∧ Below w11.heap.size w11 wr) (fun i _ => g.length - (intOf i).toNat)
        case atStart => exact ⟨0, by omega, rfl, Below.refl _ _⟩
        case round =>
          obtain ⟨x, hx, rfl, hbx⟩ := hrel
          obtain ⟨wx, rfl⟩ : ∃ wx : World, wx = wr := ⟨_, rfl⟩
          have HBX := Lib.hid hbx
          clear hbx
          by_cases hxl : x < g.length
          · go_wp2_with fail
            go_loopw [17] (fun i wr => ∃ y : Nat, y ≤ g.length ∧ i = .int .i64 y ∧ Below w11.heap.size w11 wr) (fun i _ => g.length - (intOf i).toNat)
            case atStart => exact ⟨0, by omega, rfl, HBX.out⟩
            case round =>
              obtain ⟨y, hy, rfl, hby⟩ := hrel
              obtain ⟨wy, rfl⟩ : ∃ wy : World, wy = wr := ⟨_, rfl⟩
              have HBY := Lib.hid hby
              clear hby
              by_cases hyl : y < g.length
              · have HDD := Lib.hid (HDP.out x y hxl hyl)
                have hI1 := HI11.out.keep HBY.out
                rw [HIL.out] at hI1
                have HI1 := Lib.hid hI1
                have hJ1 := HJ11.out.keep HBY.out
                rw [HJL.out] at hJ1
                have HJ1 := Lib.hid hJ1
                clear hI1 hJ1
                go_wp2_with fail
                refine (dominates_code wy _ li1 (x : Int) (y : Int) HI1.out (by rw [HIL.out]; omega)).mono ?_
                rintro e wz ⟨rfl, hbz⟩
                have HBZ := Lib.hid (HBY.out.trans (hbz.mono HBY.out.size))
                have HJ2 := Lib.hid (HJ1.out.keep hbz)
                clear hbz
                go_wp2_with fail
                refine (dominates_code wz _ li2 (x : Int) (y : Int) HJ2.out (by rw [HJL.out]; omega)).mono ?_
                rintro e wu ⟨rfl, hbu⟩
                have HBU := Lib.hid (HBZ.out.trans (hbu.mono HBZ.out.size))
                clear hbu
                rw [← HDD.out]
                generalize dominatesN li1 (x : Int) (y : Int) = d at *
                cases d <;> go_wp2
                all_goals
                  go_roundw
                  case rel => exact ⟨y + 1, by omega, by go_num, HBU.out⟩
                  case measure => simp [intOf]; omega
              · obtain rfl : y = g.length := by omega
                go_wp2
                go_roundw
                case rel => exact ⟨x + 1, by omega, by go_num, HBY.out⟩
                case measure => simp [intOf]; omega
          · obtain rfl : x = g.length := by omega
            have HG12 := Lib.hid (HG11.out.keep HBX.out)
            have HH12 := Lib.hid (HH11.out.keep HBX.out)
            have HB12 := Lib.hid (HB11.out.trans (HBX.out.mono HB11.out.size))
            clear HI11 HJ11 HDP HG11 HH11 HB11 HBX
            go_wp2_with fail
            refine (critical_code wx _ (putL g a b) HH12.out HSH.out).mono ?_
            rintro e w13 ⟨vc, rfl, hop, hb⟩
            have HG13 := Lib.hid (HG12.out.keep hb)
            have HH13 := Lib.hid (HH12.out.keep hb)
            have HB13 := Lib.hid (HB12.out.trans (hb.mono HB12.out.size))
            obtain ⟨Ac, cc, rfl, hc1, hc2, hc3⟩ := hop.ranges
            unfold maxLen at hc2
            have HC := Lib.hid hc3
            have HCP := Lib.hid (fun e he => crit_put HP.out (e := e) he)
            have HRP := Lib.hid (red_put HP.out)
            clear hop hb hc3 HG12 HH12 HB12
            generalize criticalN (tidyN (putL g a b)) = cl at *
            obtain ⟨C, hC⟩ : ∃ C, (cl.map pr).length = C := ⟨_, rfl⟩
            rw [hC] at hc1 ⊢
            have HCL := Lib.hid hC
            clear hC
            go_wp2_with fail
            go_loopw [19] (fun i wr => ∃ j : Nat, j ≤ C ∧ i = .int .i64 j ∧ wr = w13) (fun i _ => C - (intOf i).toNat)
            case atStart => exact ⟨0, by omega, rfl, rfl⟩
            case round =>
              obtain ⟨j, hj, rfl, hwr⟩ := hrel
              obtain rfl : w13 = wr := hwr.symm
              by_cases hjl : j < C
              · have hj2 : j < (cl.map pr).length := by rw [HCL.out]; exact hjl
                obtain ⟨gc, egc, hc4, hc5⟩ := HC.out j hj2
                subst egc
                have hj3 : j < cl.length := by rw [List.length_map] at hj2; exact hj2
                have hcp := HCP.out cl[j] (List.getElem_mem hj3)
                have hpe : (cl.map pr)[j] = pr cl[j] := List.getElem_map _
                rw [hpe] at hc4 hc5
                replace hc4 : w13.cell? ⟨gc, j * 2, none⟩ = some (.int .i64 (cl[j].1 : Nat)) := hc4
                replace hc5 : w13.cell? ⟨gc, j * 2 + 1, none⟩ = some (.int .i64 (cl[j].2 : Nat)) := hc5
                obtain ⟨e1, he1⟩ : ∃ x, cl[j].1 = x := ⟨_, rfl⟩
                obtain ⟨e2, he2⟩ : ∃ x, cl[j].2 = x := ⟨_, rfl⟩
                rw [he1] at hc4 hcp
                rw [he2] at hc5 hcp
                have hn1 : ((e1 : Int) == (g.length : Int)) = false := beq_eq_false_iff_ne.2 (by have := hcp.1; omega)
                have hn2 : ((e2 : Int) == (g.length : Int)) = false := beq_eq_false_iff_ne.2 (by have := hcp.2; omega)
                clear hcp hpe he1 he2 hj2 hj3
                go_wp2
                go_roundw
                case rel => exact ⟨j + 1, by omega, by go_num, trivial⟩
                case measure => simp [intOf]; omega
              · obtain rfl : j = C := by omega
                go_wp2_with fail
                refine (reducible_code w13 _ g HG13.out HS.out HSP.out).mono ?_
                rintro e w14 ⟨rfl, hb⟩
                have HH14 := Lib.hid (HH13.out.keep hb)
                have HB14 := Lib.hid (HB13.out.trans (hb.mono HB13.out.size))
                clear hb
                go_wp2_with fail
                refine (reducible_code w14 _ (putL g a b) HH14.out HSH.out HSPH.out).mono ?_
                rintro e w15 ⟨rfl, hb⟩
                have HB15 := Lib.hid (HB14.out.trans (hb.mono HB14.out.size))
                clear hb
                rw [← HRP.out]
                generalize reducibleN (tidyN g) = d at *
                cases d <;> go_wp2
                all_goals
                  go_ret
                  exact ⟨rfl, HB15.out⟩

/-! ### THE ROW's STEP: WRITTEN OUT: LEAVE IT -/
set_option maxRecDepth 100000 in
theorem lifted (os : Os) (started : os.Started) (H : Type) (enc : TypeId × Value → H) :
    ReturnsInHanded {} Try.checked os 10 .any (Rows.graphPutSpec.pre6 enc Try.prog Try.f10 Rows.graphPutRow.domain false) (Rows.graphPutSpec.post enc Try.prog Try.f10 false true false false) := by
  refine returnsInHanded_of_change (C := Try.checked) own started (by kernel_rfl) Try.func10
    (ChangeSpec.witness6 (enc := enc) (C := Try.checked) false ⟨#[], #[.slice none 0 0, .agg #[.int .i64 0, .int .i64 0]], []⟩ 8 (by kernel_rfl) (by kernel_rfl) (by kernel_rfl) (by kernel_rfl)) ?_
  intro W base args ds gs before hval0 hW hcnd _
  have hval : ∀ (j : Nat) t v, Try.f10.params[j]? = some t → args[j]? = some v → Value.okWide Try.prog W .any base t v := hval0
  have hW' := hW
  obtain ⟨p, q, hA0, hV, rfl, hfz, hnd⟩ := hW
  have hA : DataW.TrodAll enc Try.prog W 0 (fun _ => true) true Try.f10.params.toList args.toList ds p := hA0
  rw [Try.params10] at hA hval
  obtain ⟨v0, vs0, d0, ds0, p0, q0, hargs, rfl, rfl, h0, r0⟩ := trodAll_cons hA
  obtain ⟨v1, vs1, d1, ds1, p1, q1, rfl, rfl, rfl, h1, r1⟩ := trodAll_cons r0
  obtain ⟨rfl, rfl, rfl⟩ := trodAll_nil r1
  obtain rfl : args = #[v0, v1] := by cases args; simp_all
  obtain ⟨rfl, rfl⟩ := trodVars_none hV
  obtain ⟨a0, len0, cap0, rfl⟩ := okWide_slice Try.underlying23 (hval 0 23 v0 rfl rfl)
  have k0 := h0
  have lt0 : ∀ x ∈ p0, x.block < W.heap.size := by obtain ⟨m, hm⟩ := k0; exact DataW.trod_lt m _ _ _ hm
  obtain ⟨z0, w0⟩ : ∃ zs, IsRow .i64 W a0 len0 cap0 zs := by
    obtain ⟨fuel, hf⟩ := h0
    rcases open_ints Try.underlying23 Try.underlying3 (by kernel_rfl) hf with ⟨hcs, _⟩ | ⟨x, l, c, zs, hcs, _, hl, hm, hz, _, hcell, hwz⟩
    · simp [Value.cells] at hcs
      obtain ⟨rfl, rfl, rfl⟩ := hcs
      exact ⟨[], .inl ⟨rfl, rfl, rfl, rfl⟩⟩
    · simp [Value.cells] at hcs
      obtain ⟨rfl, rfl, rfl⟩ := hcs
      exact ⟨zs, .inr ⟨_, rfl, hl, hm, by simpa using hz, hcell, hwz⟩⟩
  obtain ⟨x1, y1, rfl⟩ := open_two (hval 1 52 v1 rfl rfl) h1
  have k1 := h1
  have lt1 : ∀ x ∈ p1, x.block < W.heap.size := by obtain ⟨m, hm⟩ := k1; exact DataW.trod_lt m _ _ _ hm
  clear hA0 hval0
  refine (walk a0 len0 cap0 z0 x1 y1 W w0).mono fun e W' ⟨he, bel⟩ => ?_
  subst he
  exact ⟨_, rfl, _, _, _, [], _, [], hW', trodAll_mk1 (shut_bool Try.underlying4 _), (trodAll_cons_mk (Below.trod laidOut (by kernel_rfl) (of_decide_eq_true (by kernel_rfl)) k0 bel lt0) (trodAll_cons_mk (Below.trod laidOut (by kernel_rfl) (of_decide_eq_true (by kernel_rfl)) k1 bel lt1) trodAll_mk0)), rfl, bel.frame _, fun h => by cases h⟩

theorem over : Rows.graphPutRow.holds Try.pinned (OpenSpec.ofChange Rows.graphPutSpec) :=
  OpenClaim.holds_of_wide 10 Try.f10 rfl rfl rfl rfl rfl rfl rfl ⟨rfl, rfl, rfl, rfl, rfl⟩ rfl rfl rfl rfl rfl (by kernel_rfl) Try.func10 (by kernel_rfl)
    (of_decide_eq_true (by kernel_rfl)) (by unfold Func.isWrapper; first | (rw [if_pos (by decide +kernel)]; kernel_rfl) | (rw [if_neg (by decide +kernel)]; exact ⟨rfl, rfl⟩))
    (fun os started H enc _ => lifted os started H enc)

/-- ████ THE STATEMENT ████ -/
theorem proved : Rows.GraphPutSaid := over
#print axioms proved
end Go.Proofs.Ythanbedmiaacdaa.graphPut
