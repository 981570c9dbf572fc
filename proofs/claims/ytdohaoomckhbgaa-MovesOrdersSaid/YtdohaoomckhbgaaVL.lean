/- Moves that are pending: the range over those that get loose. -/
import Derived.Test.YtdohaoomckhbgaaVN
import Derived.Test.YtdohaoomckhbgaaVJ
namespace Go.Proofs.Ytdohaoomckhbgaa.Vm
open Go.ChangeShapes Go.WideShapes Go.ChangeAt Go.RowKit Go.Maps Go.WideElems Go.ChangeMaps Go.Sort Go.Shelf Go.Proofs.Ytdohaoomckhbgaa.Mem Go.Proofs.Ytdohaoomckhbgaa.Br Go.Proofs.Ytdohaoomckhbgaa.Va Go.Proofs.Ytdohaoomckhbgaa.Vr
set_option linter.unusedVariables false
set_option linter.unusedSimpArgs false
attribute [local go_sem] Oper.semAt_some
def mapSize (w : World) (b : Nat) : Nat := match w.heap[b]? with | some (.map es _) => es.size | _ => 0
theorem FromAt.size {w : World} {b c : Nat} {L : List Mov} (h : FromAt w b c L) : mapSize w b = L.length := by
  obtain ⟨es, ⟨e, clock, hb, _, _, hD⟩, h2, _⟩ := h
  have h3 := h2.length_eq
  injection hD with hD
  rw [hD, length_sorted, List.length_map, List.length_map] at h3
  unfold mapSize
  rw [hb]
  simpa using h3
/-- A row of whole numbers lies on where its block does. -/
theorem own_same_row {w w' : World} {B : Nat} {e : TypeId} {s : Nat} {v : Value} {n : Nat} {xs : List Value} (h : w.ownsRow B e s v n xs) (hs : ∀ (g : Nat) (cur : Array Value), w.heap[g]? = some (Obj.cells cur e (0, 0)) → w'.heap[g]? = w.heap[g]?) : w'.ownsRow B e s v n xs := by
  refine ⟨h.1, ?_⟩
  rcases h.2 with h0 | ⟨g, cap, cur, hv, hg, hh, rest⟩
  · exact Or.inl h0
  · exact Or.inr ⟨g, cap, cur, hv, hg, (hs g cur hh).trans hh, rest⟩
/-- What the range over loose moves leans on: its box, the maps, and rows of whole numbers. -/
def rdL (bp bf bt : Nat) (k : Nat) (o : Obj) : Prop := k = bp ∨ k = bf ∨ k = bt ∨ ∃ cur : Array Value, o = Obj.cells cur 3 (0, 0)
def mvL (bf bt : Nat) (k : Nat) : Prop := k = bf ∨ k = bt
structure LooseS (bp bf bt c K B : Nat) (L0 : List Mov) (v : Value) (ks : List Int) (pre L : List Mov) (w : World) : Prop where
  box : Str w bp 74 [.map (some bf), .map (some bt)]
  pend : PendAt w bf bt c K L
  row : OwnInts B w v ks
  went : Went L0 pre L
  keys : ∀ y, isTo L y = true → y ∈ ks
  sub : ∀ m ∈ L, m ∈ L0
  num : pre.length + L.length ≤ L0.length
section
variable {bp bf bt c K B : Nat} {L0 : List Mov} {v : Value} {ks : List Int} {pre L : List Mov} {w w' : World}
theorem LooseS.below (h : LooseS bp bf bt c K B L0 v ks pre L w) (hb : Below w.heap.size w w') : LooseS bp bf bt c K B L0 v ks pre L w' :=
  ⟨h.box.below hb, h.pend.below hb, own_same_row h.row (fun g cur hg => hb.block g (Array.getElem?_eq_some_iff.1 hg).1), h.went, h.keys, h.sub, h.num⟩
theorem LooseS.rd (h : LooseS bp bf bt c K B L0 v ks pre L w) (hr : Rd (rdL bp bf bt) w w') : LooseS bp bf bt c K B L0 v ks pre L w' := by
  have hf := Array.getElem?_eq_some_iff.2 ⟨h.pend.from_.lt, rfl⟩
  have ht := Array.getElem?_eq_some_iff.2 ⟨h.pend.tak.lt, rfl⟩
  exact ⟨hr _ _ h.box (Or.inl rfl), h.pend.same ((hr _ _ hf (Or.inr (Or.inl rfl))).trans hf.symm) ((hr _ _ ht (Or.inr (Or.inr (Or.inl rfl)))).trans ht.symm),
    own_same_row h.row (fun g cur hg => (hr _ _ hg (Or.inr (Or.inr (Or.inr ⟨cur, rfl⟩)))).trans hg.symm), h.went, h.keys, h.sub, h.num⟩
theorem from_map (h : FromAt w bf c L) : ∃ es cl, w.heap[bf]? = some (.map es cl) := by obtain ⟨es, ⟨e, cl, hb, _⟩, _⟩ := h; exact ⟨e, cl, hb⟩
theorem tak_map {f : Int → Int} (h : TakAt w bt c f) : ∃ es cl, w.heap[bt]? = some (.map es cl) := by obtain ⟨D, ⟨e, cl, hb, _⟩, _⟩ := h; exact ⟨e, cl, hb⟩
theorem cells_not_m {cs : Array Value} {t : TypeId} {k : Nat} {z : Nat × Nat} (hp : PendAt w bf bt c K L) (hk : w.heap[k]? = some (.cells cs t z)) : ¬ mvL bf bt k := by
  rintro (rfl | rfl)
  · obtain ⟨es, cl, h⟩ := from_map hp.from_; rw [h] at hk; cases hk
  · obtain ⟨es, cl, h⟩ := tak_map hp.tak; rw [h] at hk; cases hk
theorem LooseS.done (h : LooseS bp bf bt c K B L0 v ks pre L w) {t : Int} (hf : IsFree L t) (hp : PendAt w' bf bt c K (wo L t)) (hi : It (mvL bf bt) w w') : LooseS bp bf bt c K B L0 v ks (pre ++ [(t, srcD L t)]) (wo L t) w' :=
  ⟨(hi.block bp h.box.lt (cells_not_m h.pend h.box)).trans h.box, hp, own_same_row h.row (fun g cur hg => hi.block g (Array.getElem?_eq_some_iff.1 hg).1 (cells_not_m h.pend hg)), h.went.next hf, fun y hy => h.keys y (isTo_wo hy), fun m hm => h.sub m (mem_wo.1 hm).1, by have := wo_lt (loose_to hf.1); have := h.num; simp only [List.length_append, List.length_singleton]; omega⟩
end
theorem loose_call (w : World) (bf bt : Nat) : Calls Try.prog 44 #[pendV bf bt] w fun e w' => e = .returned (.func (.func 68) #[] #[.pointer (some ⟨w.heap.size, 0, none⟩)]) ∧ w' = w.alloc (.cells #[.map (some bf), .map (some bt)] 74) := by
  go_enter Try.func44, Try.ntmps44
  go_wp2
  go_ret
  exact ⟨rfl, rfl⟩
set_option maxRecDepth 100000 in
set_option maxHeartbeats 4000000 in
theorem loose_seq (n : Nat) (hn : 1 ≤ n) (w : World) (bp bf bt c K : Nat) (L0 : List Mov) (hbox : Str w bp 74 [.map (some bf), .map (some bt)]) (hP : PendAt w bf bt c K L0) :
    Seq Fence.wide n Try.prog 68 #[.pointer (some ⟨bp, 0, none⟩)] (fun m : Mov => #[.int .i64 m.1, .int .i64 m.2]) (mvL bf bt) (rdL bp bf bt) (fun pre m => m ∈ L0 ∧ pre.length < L0.length ∧ ∀ es R, Goes L0 es R → pre ++ [m] <+: es)
      (fun xs W => ∃ R, Goes L0 xs R ∧ PendAt W bf bt c K R) w := by
  intro l J Jx W hW hJ hY h0
  have HJ := Lib.hid hJ
  have HY := Lib.hid hY
  have hbW := hbox.below hW
  have hPW := hP.below hW
  have hw0 : W.cell? ⟨bp, 0, none⟩ = some (.map (some bf)) := hbW.cell 0
  have hw1 : W.cell? ⟨bp, 1, none⟩ = some (.map (some bt)) := hbW.cell 1
  have HBX := Lib.hid hbW
  have HPW := Lib.hid hPW
  have HJ0 := Lib.hid h0
  clear hJ hY hW hbox hP hbW hPW h0
  refine callsIn_of_wp Try.func68 rfl trivial ?_ rfl
  simp only [Try.ntmps68, List.size_toArray, List.length_cons, List.length_nil, Nat.reduceAdd, Nat.reduceSub, Array.replicate_succ, Array.replicate_zero, List.push_toArray, List.append_toArray, List.nil_append, List.cons_append]
  gi_wp2_with fail
  refine ⟨trivial, ?_⟩
  refine (callsIn_wide.2 (rising_any W bf bt c K L0 HPW.out)).mono ?_
  rintro e w1 ⟨v, rfl, hr, hb⟩
  have hks := keysN_rise HPW.out.from_.uni
  have HS : Hid (LooseS bp bf bt c K W.heap.size L0 v (keysN L0) [] L0 w1 ∧ J [] w1) := Lib.hid ⟨⟨HBX.out.below hb, HPW.out.below hb, hr, Went.start _, fun y hy => keysN_mem.2 hy, fun m hm => hm, by simp⟩, HJ.out _ _ _ HJ0.out (It.of_below hb)⟩
  have hkm : ∀ x ∈ keysN L0, InI x := fun x hx => by
    obtain ⟨m, hm, e⟩ := isTo_iff.1 (keysN_mem.1 hx)
    rw [← e]; exact (HPW.out.from_.rng m hm).1
  have hkl : (keysN L0).length ≤ 1000000000 := by rw [keysN_len]; have := HPW.out.le; have := HPW.out.small; omega
  obtain ⟨A, cv, rfl⟩ := OwnInts.form hr
  have HKR := Lib.hid hks
  have HKM := Lib.hid hkm
  clear hr hb HBX HPW HJ0 hw0 hw1 hks hkm
  generalize keysN L0 = ks at *
  gi_wp2_with fail
  gi_loopw [4, 5, 6, 10] (fun _ _ _ i wr => ∃ (k : Nat) (pre L : List Mov), k ≤ ks.length ∧ i = .int .i64 k ∧ LooseS bp bf bt c K W.heap.size L0 (.slice A ks.length cv) ks pre L wr ∧ J pre wr ∧ Upto L ks k) (fun _ _ _ i _ => ks.length - (intOf i).toNat)
  case atStart => exact ⟨0, [], L0, by omega, rfl, HS.out.1, HS.out.2, HS.out.1.keys, fun y hy j hj => absurd hj (by omega)⟩
  case round =>
    obtain ⟨k, pre, L, hk, rfl, hS, hJs, hU⟩ := hrel
    obtain ⟨wq, rfl⟩ : ∃ wq : World, wq = wr := ⟨_, rfl⟩
    have HSo := Lib.hid hS
    have HJo := Lib.hid hJs
    have HU := Lib.hid hU
    clear hS hJs hU HS
    by_cases hlt : k < ks.length
    · obtain ⟨gk, rfl⟩ := OwnInts.block HSo.out.row (by omega)
      have hcell := (OwnInts.cell HSo.out.row hlt).1
      have HAB := Lib.hid (upto_above HKR.out HU.out hlt)
      have hix : InI ks[k] := HKM.out _ (List.getElem_mem hlt)
      have HNX := Lib.hid (fun (L : List Mov) h1 h2 => upto_next (L := L) HKR.out h1 hlt h2)
      have HX := Lib.hid hix
      clear hix
      generalize ks[k] = x at *
      gi_wp2_with fail
      gi_loopw [5, 6] (fun t f wr => ∃ (pre L : List Mov) (y : Int), t = .int .i64 y ∧ InI y ∧ LooseS bp bf bt c K W.heap.size L0 (.slice (some ⟨gk, 0, none⟩) ks.length cv) ks pre L wr ∧ J pre wr ∧ Above L x y) (fun _ _ wr => mapSize wr bf)
      case atStart => exact ⟨pre, L, x, rfl, HX.out, HSo.out, HJo.out, HAB.out⟩
      case round =>
        obtain ⟨pre2, L2, y, rfl, hiy, hS, hJs, hA⟩ := hrel
        have HS2 := Lib.hid hS
        have HJ2 := Lib.hid hJs
        have HA := Lib.hid hA
        have HIY := Lib.hid hiy
        have hp0 : wr.cell? ⟨bp, 0, none⟩ = some (.map (some bf)) := hS.box.cell 0
        have hp1 : wr.cell? ⟨bp, 1, none⟩ = some (.map (some bt)) := hS.box.cell 1
        clear hS hJs hA hiy hcell
        by_cases hyx : y ≤ x
        · gi_wp2_with fail
          refine ⟨trivial, ?_⟩
          refine (callsIn_wide.2 (isLoose_any wr bf bt c K L2 y HS2.out.pend HIY.out)).mono ?_
          rintro e w3 ⟨rfl, hb3⟩
          have HS3 := Lib.hid (HS2.out.below hb3)
          have HJ3 := Lib.hid (HJ.out _ _ _ HJ2.out (It.of_below hb3))
          cases hlo : looseB L2 y with
          | false =>
            have HE := Lib.hid (above_end HA.out (by rw [hlo, Bool.and_false]))
            have HR := Lib.hid (HNX.out L2 HS3.out.keys HE.out)
            clear hlo hb3
            gi_wp2
            go_roundw
            case rel => exact ⟨k + 1, pre2, L2, by omega, by go_num, HS3.out, HJ3.out, HR.out⟩
            case measure => simp [intOf]; omega
          | true =>
            have hto : isTo L2 y = true := by unfold looseB at hlo; rw [Bool.and_eq_true] at hlo; exact hlo.1
            have HF := Lib.hid (above_free HA.out hyx hlo)
            have HN := Lib.hid (above_next HS3.out.pend.from_.uni HA.out hyx hlo)
            have HM := Lib.hid (HS3.out.sub _ (mem_src HS3.out.pend.from_.uni hto))
            have HIS := Lib.hid (srcD_in HS3.out.pend.from_.rng y)
            have HTO := Lib.hid hto
            have HLT := Lib.hid (wo_lt hto)
            have g1 := HS3.out.pend.from_.get HIY.out
            have q0 : w3.cell? ⟨bp, 0, none⟩ = some (.map (some bf)) := HS3.out.box.cell 0
            have q1 : w3.cell? ⟨bp, 1, none⟩ = some (.map (some bt)) := HS3.out.box.cell 1
            have HMS := Lib.hid HS2.out.pend.from_.size
            clear hlo hto hb3 hp0 hp1
            gi_wp2_with fail
            refine ⟨trivial, ?_⟩
            refine (callsIn_wide.2 (done_any w3 bf bt c K L2 y HS3.out.pend HIY.out HTO.out)).mono ?_
            rintro e w4 ⟨rfl, hp4, hi4⟩
            have HS4 := Lib.hid (HS3.out.done HF.out hp4 hi4)
            have HJ4 := Lib.hid (HJ.out _ _ _ HJ3.out hi4)
            clear hp4 hi4 g1 q0 q1
            obtain ⟨fn, tmps, assign, body, hy, hR⟩ := HY.out pre2 (y, srcD L2 y) w4 HJ4.out ⟨HM.out, by have h1 := HS2.out.num; have h2 := HLT.out; omega, fun es R hg => HS4.out.went.prefix hg⟩
            dsimp only at hy
            gi_wp2
            refine hR.mono ?_
            rintro e W3 (⟨rfl, hJ5, hz5, hr5⟩ | ⟨rfl, hJx5⟩)
            · have HS5 := Lib.hid (HS4.out.rd hr5)
              have HMS5 := Lib.hid HS5.out.pend.from_.size
              clear hr5 hz5
              gi_wp2
              go_roundw
              case rel => exact ⟨_, wo L2 y, srcD L2 y, rfl, HIS.out, HS5.out, hJ5, HN.out⟩
              case measure => rw [HMS5.out, HMS.out]; exact HLT.out
            · gi_wp2
              refine bodyPost_ret (results_none rfl _ _ _) rfl ?_
              exact ⟨⟨_, rfl⟩, .inr ⟨_, hJx5⟩⟩
        · have HE := Lib.hid (above_end HA.out (by rw [decide_eq_false hyx, Bool.false_and]))
          have HR := Lib.hid (HNX.out L2 HS2.out.keys HE.out)
          have hyx' : x < y := by omega
          clear hyx
          gi_wp2
          refine ⟨trivial, ?_⟩
          gi_wp2
          go_roundw
          case rel => exact ⟨k + 1, pre2, L2, by omega, by go_num, HS2.out, HJ2.out, HR.out⟩
          case measure => simp [intOf]; omega
    · obtain rfl : k = ks.length := by omega
      gi_wp2
      go_end0
      exact ⟨⟨_, rfl⟩, .inl ⟨pre, ⟨L, HSo.out.went.done (upto_end HU.out), HSo.out.pend⟩, HJo.out⟩⟩
end Go.Proofs.Ytdohaoomckhbgaa.Vm
