/- Stage 12: the law PhysBounds, as a call. -/
import Derived.Test.YtdidacjmcafcpaaYR
import Derived.Test.YtdidacjmcafcpaaQW
import Derived.Test.YtdidacjmcafcpaaQX
import Derived.Test.YtdidacjmcafcpaaQU
import Derived.Test.YtdidacjmcafcpaaAnd16
import Derived.Test.YtdidacjmcafcpaaHeld
namespace Go.Proofs.Ytdidacjmcafcpaa.Ph
open Go.ChangeShapes Go.WideShapes Go.ChangeAt Go.RowKit Go.Proofs.Ytdidacjmcafcpaa.Mem Go.Proofs.Ytdidacjmcafcpaa.Kc Go.Proofs.Ytdidacjmcafcpaa.Pl Go.Proofs.Ytdidacjmcafcpaa.Mw Go.Proofs.Ytdidacjmcafcpaa.Mc Go.Proofs.Ytdidacjmcafcpaa.Br Go.Proofs.Ytdidacjmcafcpaa.Wd Go.Proofs.Ytdidacjmcafcpaa.Gr
set_option linter.unusedVariables false
set_option linter.unusedSimpArgs false
theorem like_plC (B : Nat) (w : World) : plC B w [.int .i64 1, .int .i64 1, .int .i64 0, .int .i64 2, .int .i64 0, .int .i64 0, .int .i32 0, .slice none 0 0, .int .i64 0] likeI := ⟨.slice none 0 0, rfl, nil_ints _ _⟩
def LikeAt (B : Nat) (w : World) (v : Value) (q : Nat) : Prop := RowsOwn B w 47 9 (plC B) v (List.replicate q likeI)
def LikesAt (B : Nat) (w : World) (v : Value) (many q : Nat) : Prop := RowsOwn B w 45 6 (pbC B) v (List.replicate q (likeB many))
theorem LikeAt.below {B : Nat} {w w' : World} {v : Value} {q : Nat} (h : LikeAt B w v q) (hb : Below w.heap.size w w') : LikeAt B w' v q := RowsOwn.below h hb (plC.below hb)
theorem LikesAt.below {B : Nat} {w w' : World} {v : Value} {m q : Nat} (h : LikesAt B w v m q) (hb : Below w.heap.size w w') : LikesAt B w' v m q := RowsOwn.below h hb (pbC.below hb)
theorem LikeAt.noRow {B : Nat} {w : World} {v : Value} {q : Nat} (h : LikeAt B w v q) {e : TypeId} (hne : e ≠ 47) : NoRow w v.ownBlock e := by
  obtain ⟨cs, _, h2, _⟩ := h
  exact noRow_own h2 hne
theorem LikesAt.noRow {B : Nat} {w : World} {v : Value} {m q : Nat} (h : LikesAt B w v m q) {e : TypeId} (hne : e ≠ 45) : NoRow w v.ownBlock e := by
  obtain ⟨cs, _, h2, _⟩ := h
  exact noRow_own h2 hne
theorem LikeAt.str {B : Nat} {w w' : World} {v : Value} {q : Nat} (h : LikeAt B w v q) (hg : w.grownBy w' v.ownBlock) {x : Nat} {t : TypeId} {vs : List Value} (hs : Str w x t vs) (hne : t ≠ 47) : Str w' x t vs := by
  obtain ⟨cs, _, h2, _⟩ := h
  exact hs.kept hg (Str.not_row hs hne h2)
theorem LikesAt.str {B : Nat} {w w' : World} {v : Value} {m q : Nat} (h : LikesAt B w v m q) (hg : w.grownBy w' v.ownBlock) {x : Nat} {t : TypeId} {vs : List Value} (hs : Str w x t vs) (hne : t ≠ 45) : Str w' x t vs := by
  obtain ⟨cs, _, h2, _⟩ := h
  exact hs.kept hg (Str.not_row hs hne h2)
theorem LikeAt.grown {B : Nat} {w w' : World} {v : Value} {q : Nat} (h : LikeAt B w v q) (hg : w.grownBy w' v.ownBlock) (hB : B ≤ w.heap.size) : Below B w w' := by
  obtain ⟨cs, _, h2, _⟩ := h
  exact ⟨hg.os, hg.tape, hg.output, hg.size, fun k hk => hg.block k (by omega) (fun e => by have := (h2.lt _ e.symm).1; omega)⟩
theorem LikesAt.grown {B : Nat} {w w' : World} {v : Value} {m q : Nat} (h : LikesAt B w v m q) (hg : w.grownBy w' v.ownBlock) (hB : B ≤ w.heap.size) : Below B w w' := by
  obtain ⟨cs, _, h2, _⟩ := h
  exact ⟨hg.os, hg.tape, hg.output, hg.size, fun k hk => hg.block k (by omega) (fun e => by have := (h2.lt _ e.symm).1; omega)⟩
theorem LikeAt.none_ {B : Nat} {w : World} (hB : B ≤ w.heap.size) : LikeAt B (w.alloc (.cells #[] 47)) (.slice (some ⟨w.heap.size, 0, none⟩) 0 0) 0 :=
  ⟨[], rfl, own_base (World.ownsRow_made w #[] 0 (Nat.le_refl _) (Nat.zero_le _) (by simp)) hB, fun i h => absurd h (by simp)⟩
theorem LikesAt.none_ (B : Nat) (w : World) (many : Nat) : LikesAt B w (.slice none 0 0) many 0 := RowsOwn.nil _ _ _ _ _
theorem LikeAt.form {B : Nat} {w : World} {v : Value} {q : Nat} (h : LikeAt B w v q) : ∃ A c, v = .slice A q c := by
  obtain ⟨A, c, e⟩ := RowsOwn.form h
  rw [List.length_replicate] at e
  exact ⟨A, c, e⟩
theorem LikesAt.form {B : Nat} {w : World} {v : Value} {m q : Nat} (h : LikesAt B w v m q) : ∃ A c, v = .slice A q c := by
  obtain ⟨A, c, e⟩ := RowsOwn.form h
  rw [List.length_replicate] at e
  exact ⟨A, c, e⟩
set_option maxRecDepth 100000 in
set_option maxHeartbeats 8000000 in
theorem boundsL_any (w : World) (k slots n0 n1 n2 : Int) :
    Calls Try.prog 6 #[.int .i64 k, .int .i64 slots, .agg #[.int .i64 n0, .int .i64 n1, .int .i64 n2]] w fun e w' => e = .returned (.bool true) ∧ Below w.heap.size w w' := by
  obtain ⟨i0, hi, hz0, hz1, hz2⟩ := info_parts info_placed
  have HI0 := Lib.hid hi
  have HZ0 := Lib.hid hz0
  have HZ1 := Lib.hid hz1
  have HZ2 := Lib.hid hz2
  obtain ⟨i1, hi, hz0, hz1, hz2⟩ := info_parts info_pblock
  have HJ0 := Lib.hid hi
  have HY0 := Lib.hid hz0
  have HY1 := Lib.hid hz1
  have HY2 := Lib.hid hz2
  clear hi hz0 hz1 hz2
  have hfd : ∀ (a b c : Value) (w : World), (Instr.field 61 (.agg #[a, b, c]) 0).run Try.prog w = .ok a w := fun a b c w => by kernel_rfl
  go_enter Try.func6, Try.ntmps6
  go_upto_region 1 with (fail)
  obtain ⟨W1, hW1⟩ : ∃ V, w.alloc (.cells #[.int .i64 n0, .int .i64 n1, .int .i64 n2] 27) = V := ⟨_, rfl⟩
  have hb1 : Below w.heap.size w W1 := by rw [← hW1]; exact (Below.refl _ _).alloc (Nat.le_refl _) _
  have hx1 : Str W1 w.heap.size 27 [.int .i64 n0, .int .i64 n1, .int .i64 n2] := by rw [← hW1]; exact World.alloc_heap_new w _
  rw [hW1]
  clear hW1
  have HB := Lib.hid hb1
  have HX := Lib.hid hx1
  clear hb1 hx1
  go_wp2_with fail
  refine (shown_any W1).mono ?_
  rintro e w2 ⟨rfl, hb⟩
  have HB := Lib.hid (HB.out.trans (hb.mono HB.out.size))
  have HX := Lib.hid (HX.out.below hb)
  clear hb
  have m0 := HX.out.cell 0
  have m1 := HX.out.cell 1
  have m2 := HX.out.cell 2
  simp only [List.getElem?_cons_zero, List.getElem?_cons_succ] at m0 m1 m2
  go_upto_region 5 with (fail)
  rw [and16, and16]
  obtain ⟨n, hn⟩ : ∃ m : Nat, n1 % 65536 % 531 = m := ⟨(n1 % 65536 % 531).toNat, by omega⟩
  obtain ⟨many, hmo⟩ : ∃ m : Nat, n2 % 65536 % 201 = m := ⟨(n2 % 65536 % 201).toNat, by omega⟩
  rw [show (n1 % 65536).tmod 531 = (n : Int) by rw [← hn]; exact Int.tmod_eq_emod_of_nonneg (by omega), show (n2 % 65536).tmod 201 = (many : Int) by rw [← hmo]; exact Int.tmod_eq_emod_of_nonneg (by omega)]
  have hn5 : n ≤ 530 := by omega
  have hm2 : many ≤ 200 := by omega
  clear hn hmo
  obtain ⟨W3, hW3⟩ : ∃ V, w2.alloc (.cells #[.int .i64 n0, .int .i64 k, .int .i64 slots, .slice none 0 0] 51) = V := ⟨_, rfl⟩
  have hb3 : Below w2.heap.size w2 W3 := by rw [← hW3]; exact (Below.refl _ _).alloc (Nat.le_refl _) _
  have hp3 : Str W3 w2.heap.size 51 [.int .i64 n0, .int .i64 k, .int .i64 slots, .slice none 0 0] := by rw [← hW3]; exact World.alloc_heap_new w2 _
  rw [hW3]
  clear hW3 m0 m1 m2
  obtain ⟨fb, hfb⟩ : ∃ fb, w2.heap.size = fb := ⟨_, rfl⟩
  have hfw : w.heap.size < fb := by have := HX.out.lt; omega
  rw [hfb] at hp3
  rw [hfb]
  have HB := Lib.hid (HB.out.trans (hb3.mono HB.out.size))
  have HX := Lib.hid (HX.out.below hb3)
  have HP := Lib.hid hp3
  have hfw : w.heap.size < fb := hfw
  clear hb3 hp3 hfb
  go_upto_region 6 with (fail)
  have HL0 := Lib.hid (LikeAt.none_ HB.out.size)
  have hb4 : Below W3.heap.size W3 (W3.alloc (.cells #[] 47)) := (Below.refl _ _).alloc (Nat.le_refl _) _
  have HB := Lib.hid (HB.out.trans (hb4.mono HB.out.size))
  have HX := Lib.hid (HX.out.below hb4)
  have HP := Lib.hid (HP.out.below hb4)
  clear hb4
  obtain ⟨v3, hv3⟩ : ∃ v, Value.slice (some ⟨W3.heap.size, 0, none⟩) 0 0 = v := ⟨_, rfl⟩
  obtain ⟨W4, hW4⟩ : ∃ V, W3.alloc (.cells #[] 47) = V := ⟨_, rfl⟩
  rw [hv3, hW4] at HL0
  rw [hW4] at HB HX HP
  rw [hv3, hW4]
  clear hv3 hW4
  go_wp2_with fail
  go_loopw [11, 12] (fun v j wr => ∃ q : Nat, q ≤ many ∧ j = .int .i64 q ∧ LikeAt w.heap.size wr v q ∧ Below w.heap.size w wr ∧ Str wr w.heap.size 27 [.int .i64 n0, .int .i64 n1, .int .i64 n2] ∧ Str wr fb 51 [.int .i64 n0, .int .i64 k, .int .i64 slots, .slice none 0 0]) (fun _ j _ => many - (intOf j).toNat)
  case atStart => exact ⟨0, Nat.zero_le _, rfl, HL0.out, HB.out, HX.out, HP.out⟩
  case round =>
    obtain ⟨q, hq, rfl, hl, hb, hx, hp⟩ := hrel
    have HL := Lib.hid hl
    have HB := Lib.hid hb
    have HX := Lib.hid hx
    have HP := Lib.hid hp
    clear hl hb hx hp
    by_cases hlt : q < many
    · go_upto_region 9 with (fail)
      have hb5 : Below wr.heap.size wr (wr.alloc (.cells #[.int .i64 1, .int .i64 1, .int .i64 0, .int .i64 2, .int .i64 0, .int .i64 0, .int .i32 0, .slice none 0 0, .int .i64 0] 47)) := (Below.refl _ _).alloc (Nat.le_refl _) _
      have HS5 := Lib.hid (show Str (wr.alloc (.cells #[.int .i64 1, .int .i64 1, .int .i64 0, .int .i64 2, .int .i64 0, .int .i64 0, .int .i32 0, .slice none 0 0, .int .i64 0] 47)) wr.heap.size 47 [.int .i64 1, .int .i64 1, .int .i64 0, .int .i64 2, .int .i64 0, .int .i64 0, .int .i32 0, .slice none 0 0, .int .i64 0] from World.alloc_heap_new wr _)
      have HL5 := Lib.hid (HL.out.below hb5)
      have HB5 := Lib.hid (HB.out.trans (hb5.mono HB.out.size))
      have HX5 := Lib.hid (HX.out.below hb5)
      have HP5 := Lib.hid (HP.out.below hb5)
      clear hb5
      go_wp2_with (at_builtin; refine wpList_push rfl _ _ _ rfl rfl w.heap.size 47 i0 (.agg #[.int .i64 0, .int .i64 0, .int .i64 0, .int .i64 0, .int .i64 0, .int .i64 0, .int .i32 0, .slice none 0 0, .int .i64 0]) 9 88 Try.underlying43 HI0.out HZ0.out HZ1.out HZ2.out rfl (by decide) (plC w.heap.size) (plC w.heap.size) u11 (List.replicate q likeI) rfl HL5.out ⟨wr.heap.size, 0, none⟩ 1 rfl likeI [.int .i64 1, .int .i64 1, .int .i64 0, .int .i64 2, .int .i64 0, .int .i64 0, .int .i32 0, .slice none 0 0, .int .i64 0] rfl ?c1 ?c2 ?c3 (by omega) HB5.out.size ?c5 ?c6 ?_)
      case c1 => intro j u hj; rw [at_add0, HS5.out.cell j]; exact hj
      case c2 => intro u hu; simp only [List.mem_cons, List.not_mem_nil, or_false] at hu; rcases hu with rfl | rfl | rfl | rfl | rfl | rfl | rfl | rfl | rfl <;> rfl
      case c3 => rw [List.length_replicate]; omega
      case c5 => exact fun w' hg => plC.kept hg (LikeAt.noRow HL5.out (by decide))
      case c6 => exact fun w' hg => like_plC _ _
      intro v' w6 h6 hg6 _
      have HL6 := Lib.hid (show LikeAt w.heap.size w6 v' (q + 1) by unfold LikeAt; rw [List.replicate_succ']; exact h6)
      have HX6 := Lib.hid (LikeAt.str HL5.out hg6 HX5.out (by decide))
      have HP6 := Lib.hid (LikeAt.str HL5.out hg6 HP5.out (by decide))
      have HB6 := Lib.hid (HB5.out.trans (LikeAt.grown HL5.out hg6 HB5.out.size))
      clear h6 hg6
      go_wp2_with fail
      exact ⟨⟨q + 1, by omega, by go_num, HL6.out, HB6.out, HX6.out, HP6.out⟩, by simp [intOf]; omega⟩
    · obtain rfl : many = q := by omega
      obtain ⟨lA, lc, rfl⟩ := LikeAt.form HL.out
      obtain ⟨wo, hwo⟩ : ∃ wo : World, wo = wr := ⟨_, rfl⟩
      rw [← hwo] at HL HB HX HP
      rw [← hwo]
      clear hwo
      clear wr
      go_wp2_with fail
      go_loopw [13] (fun j wr => ∃ q : Nat, q ≤ n ∧ j = .int .i64 q ∧ LikeAt w.heap.size wr (.slice lA many lc) many ∧ Below w.heap.size w wr ∧ Str wr w.heap.size 27 [.int .i64 n0, .int .i64 n1, .int .i64 n2] ∧ ∃ vA vc, LikesAt w.heap.size wr (.slice vA q vc) many q ∧ Str wr fb 51 [.int .i64 n0, .int .i64 k, .int .i64 slots, .slice vA q vc]) (fun j _ => n - (intOf j).toNat)
      case atStart => exact ⟨0, Nat.zero_le _, rfl, HL.out, HB.out, HX.out, none, 0, LikesAt.none_ _ _ _, HP.out⟩
      case round =>
        obtain ⟨q, hq, rfl, hl, hb, hx, vA, vc, hk, hp⟩ := hrel
        have HL := Lib.hid hl
        have HB := Lib.hid hb
        have HX := Lib.hid hx
        have HP := Lib.hid hp
        have HK := Lib.hid hk
        clear hl hb hx hp hk
        by_cases hlt : q < n
        · go_upto_region 13 with (fail)
          have hb5 : Below wr.heap.size wr (wr.alloc (.cells #[.slice lA many lc, .int .i64 7, .int .i64 (-1), .int .i64 0, .slice none 0 0, .int .i32 0] 45)) := (Below.refl _ _).alloc (Nat.le_refl _) _
          have HS5 := Lib.hid (show Str (wr.alloc (.cells #[.slice lA many lc, .int .i64 7, .int .i64 (-1), .int .i64 0, .slice none 0 0, .int .i32 0] 45)) wr.heap.size 45 [.slice lA many lc, .int .i64 7, .int .i64 (-1), .int .i64 0, .slice none 0 0, .int .i32 0] from World.alloc_heap_new wr _)
          have HL5 := Lib.hid (HL.out.below hb5)
          have HK5 := Lib.hid (HK.out.below hb5)
          have HB5 := Lib.hid (HB.out.trans (hb5.mono HB.out.size))
          have HX5 := Lib.hid (HX.out.below hb5)
          have HP5 := Lib.hid (HP.out.below hb5)
          have k3 : wr.cell? ⟨fb, 3, none⟩ = some (.slice vA q vc) := HP.out.cell 3
          clear hb5
          go_wp2_with (at_builtin; refine wpList_push rfl _ _ _ rfl rfl w.heap.size 45 i1 (.agg #[.slice none 0 0, .int .i64 0, .int .i64 0, .int .i64 0, .slice none 0 0, .int .i32 0]) 6 80 Try.underlying49 HJ0.out HY0.out HY1.out HY2.out rfl (by decide) (pbC w.heap.size) (pbC w.heap.size) (.slice vA q vc) (List.replicate q (likeB many)) rfl HK5.out ⟨wr.heap.size, 0, none⟩ 1 rfl (likeB many) [.slice lA many lc, .int .i64 7, .int .i64 (-1), .int .i64 0, .slice none 0 0, .int .i32 0] rfl ?c1 ?c2 ?c3 (by omega) HB5.out.size ?c5 ?c6 ?_)
          case c1 => intro j u hj; rw [at_add0, HS5.out.cell j]; exact hj
          case c2 => intro u hu; simp only [List.mem_cons, List.not_mem_nil, or_false] at hu; rcases hu with rfl | rfl | rfl | rfl | rfl | rfl <;> rfl
          case c3 => rw [List.length_replicate]; omega
          case c5 => exact fun w' hg => pbC.kept hg (LikesAt.noRow HK5.out (by decide)) (LikesAt.noRow HK5.out (by decide))
          case c6 => exact fun w' hg => ⟨.slice lA many lc, .slice none 0 0, rfl, RowsOwn.kept HL5.out hg (by obtain ⟨cs, _, h9, _⟩ := HL5.out; exact LikesAt.noRow HK5.out (by decide) _ _ _ _ _ h9) (plC.kept hg (LikesAt.noRow HK5.out (by decide))), nil_ints _ _⟩
          intro v' w6 h6 hg6 _
          have hk6 : LikesAt w.heap.size w6 v' many (q + 1) := by unfold LikesAt; rw [List.replicate_succ']; exact h6
          obtain ⟨zA, zc, rfl⟩ := LikesAt.form hk6
          have HK6 := Lib.hid hk6
          have HL6 := Lib.hid (show LikeAt w.heap.size w6 (.slice lA many lc) many from RowsOwn.kept HL5.out hg6 (by obtain ⟨cs, _, h9, _⟩ := HL5.out; exact LikesAt.noRow HK5.out (by decide) _ _ _ _ _ h9) (plC.kept hg6 (LikesAt.noRow HK5.out (by decide))))
          have HX6 := Lib.hid (LikesAt.str HK5.out hg6 HX5.out (by decide))
          have HP6 := Lib.hid (LikesAt.str HK5.out hg6 HP5.out (by decide))
          have HB6 := Lib.hid (HB5.out.trans (LikesAt.grown HK5.out hg6 HB5.out.size))
          have k36 : w6.cell? ⟨fb, 3, none⟩ = some (.slice vA q vc) := HP6.out.cell 3
          have f36 := HP6.out.frozen 3
          clear h6 hg6 hk6 k3
          go_wp2_with fail
          have HBT := Lib.hid (but_set fb 3 (.slice zA (q + 1) zc) w6)
          have HP7 := Lib.hid (show Str _ fb 51 [.int .i64 n0, .int .i64 k, .int .i64 slots, .slice zA (q + 1) zc] from HP6.out.set 3 (.slice zA (q + 1) zc))
          have HX7 := Lib.hid (HBT.out.str HX6.out (by omega))
          have HB7 := Lib.hid (HB6.out.trans (below_of_but HBT.out (by omega) HB6.out.size))
          have HG7 := Lib.hid (setCell_grownBy w6 ⟨fb, 3, none⟩ (.slice zA (q + 1) zc))
          have HL7 := Lib.hid (show LikeAt w.heap.size _ (.slice lA many lc) many from RowsOwn.kept HL6.out HG7.out (by obtain ⟨cs, _, h9, _⟩ := HL6.out; exact noRow_str HP6.out (by decide) _ _ _ _ _ h9) (plC.kept HG7.out (noRow_str HP6.out (by decide))))
          have HK7 := Lib.hid (show LikesAt w.heap.size _ (.slice zA (q + 1) zc) many (q + 1) from RowsOwn.kept HK6.out HG7.out (by obtain ⟨cs, _, h9, _⟩ := HK6.out; exact noRow_str HP6.out (by decide) _ _ _ _ _ h9) (pbC.kept HG7.out (noRow_str HP6.out (by decide)) (noRow_str HP6.out (by decide))))
          exact ⟨⟨q + 1, by omega, by go_num, HL7.out, HB7.out, HX7.out, zA, zc, HK7.out, HP7.out⟩, by simp [intOf]; omega⟩
        · obtain rfl : n = q := by omega
          have p0 := HP.out.cell 0
          have p1 := HP.out.cell 1
          have p2 := HP.out.cell 2
          have p3 := HP.out.cell 3
          simp only [List.getElem?_cons_zero, List.getElem?_cons_succ] at p0 p1 p2 p3
          have HWF := Lib.hid (like_wf n many hn5 hm2)
          have HPB := Lib.hid (show PBlocksAt wr (.slice vA (List.replicate n (likeB many)).length vc) (List.replicate n (likeB many)) by rw [List.length_replicate]; have h9 := (RowsOwn.row HK.out pb_at).1; exact h9)
          have hfn := funcQ_any wr n0 k slots vA vc (List.replicate n (likeB many)) HPB.out HWF.out
          have hrf := fun (w' : World) (hb : Below wr.heap.size wr w') => rfuncQ_any w' n0 k slots vA vc (List.replicate n (likeB many)) (PBlocksAt.keep HPB.out hb) HWF.out (fun x hx y hy => by have h9 := (HWF.out.ins x hx y hy).1; omega)
          rw [List.length_replicate, like_func] at hfn hrf
          have HFN := Lib.hid hfn
          have HRF := Lib.hid hrf
          obtain ⟨lim, hlim⟩ : ∃ l, limQ n0 k slots (List.replicate n (likeB many)) = l := ⟨_, rfl⟩
          have hlm := like_lim n0 k slots n many
          rw [hlim] at hlm
          have HLM := Lib.hid hlm
          rw [hlim] at HFN HRF
          clear hfn hrf hlm hlim
          go_wp2_with fail
          refine HFN.out.mono ?_
          rintro e w7 ⟨rfl, hb⟩
          have HB := Lib.hid (HB.out.trans (hb.mono HB.out.size))
          have HB7 := Lib.hid hb
          have HX := Lib.hid (HX.out.below hb)
          have HP := Lib.hid (HP.out.below hb)
          clear hb p0 p1 p2 p3
          have m0 := HX.out.cell 0
          have p0 := HP.out.cell 0
          have p1 := HP.out.cell 1
          have p2 := HP.out.cell 2
          have p3 := HP.out.cell 3
          simp only [List.getElem?_cons_zero, List.getElem?_cons_succ] at m0 p0 p1 p2 p3
          obtain ⟨pr, hpr⟩ : ∃ pr : Nat, n * (many + 1) = pr := ⟨_, rfl⟩
          have hpr9 : pr ≤ 106530 := by rw [← hpr]; exact Nat.mul_le_mul hn5 (show many + 1 ≤ 201 by omega)
          have hprz : wrap64 ((n : Int) * ((many : Int) + 1)) = pr := by
            rw [show (many : Int) + 1 = ((many + 1 : Nat) : Int) by omega, ← Int.natCast_mul, hpr]
            unfold RowKit.wrap64; omega
          have hlv := HLM.out
          rw [hpr] at hlv
          have hc : ((n0 < 0 ∧ lim = 1) ∨ (0 ≤ n0 ∧ 4 < n0 ∧ lim = 1) ∨ (0 ≤ n0 ∧ n0 ≤ 4 ∧ k < 4 ∧ lim = 1) ∨ (0 ≤ n0 ∧ n0 ≤ 4 ∧ 4 ≤ k ∧ 16 < k ∧ lim = 1) ∨ (0 ≤ n0 ∧ n0 ≤ 4 ∧ 4 ≤ k ∧ k ≤ 16 ∧ slots < 0 ∧ lim = 1) ∨ (0 ≤ n0 ∧ n0 ≤ 4 ∧ 4 ≤ k ∧ k ≤ 16 ∧ 0 ≤ slots ∧ 16384 < slots ∧ lim = 1)) ∨
              ((0 ≤ n0 ∧ n0 ≤ 4 ∧ 4 ≤ k ∧ k ≤ 16 ∧ 0 ≤ slots ∧ slots ≤ 16384) ∧ ((((n : Int) == 0) = true ∧ lim = 14) ∨ ((((n : Int) == 0) = false) ∧ 512 < n ∧ lim = 2) ∨ ((((n : Int) == 0) = false) ∧ n ≤ 512 ∧ 65536 < pr ∧ lim = 2) ∨ ((((n : Int) == 0) = false) ∧ n ≤ 512 ∧ pr ≤ 65536 ∧ lim = 0))) := by
            by_cases h1 : (n0 < 0 ∨ 4 < n0) ∨ (k < 4 ∨ 16 < k) ∨ (slots < 0 ∨ 16384 < slots)
            · rw [if_pos h1] at hlv
              left
              omega
            · rw [if_neg h1] at hlv
              right
              refine ⟨by omega, ?_⟩
              by_cases h2 : n = 0
              · rw [if_pos h2] at hlv
                left
                exact ⟨by rw [h2]; rfl, hlv⟩
              · rw [if_neg h2] at hlv
                right
                have h3 : ((n : Int) == 0) = false := by simp; omega
                by_cases h4 : 512 < n ∨ 65536 < pr
                · rw [if_pos h4] at hlv
                  by_cases h5 : 512 < n
                  · exact Or.inl ⟨h3, h5, hlv⟩
                  · exact Or.inr (Or.inl ⟨h3, by omega, by omega, hlv⟩)
                · rw [if_neg h4] at hlv
                  exact Or.inr (Or.inr ⟨h3, by omega, by omega, hlv⟩)
          clear hlv HLM HFN hpr
          rcases hc with (⟨c1, rfl⟩ | ⟨c1, c2, rfl⟩ | ⟨c1, c2, c3, rfl⟩ | ⟨c1, c2, c3, c4, rfl⟩ | ⟨c1, c2, c3, c4, c5, rfl⟩ | ⟨c1, c2, c3, c4, c5, c6, rfl⟩) | ⟨⟨c1, c2, c3, c4, c5, c6⟩, ⟨c7, rfl⟩ | ⟨c7, c8, rfl⟩ | ⟨c7, c8, c9, rfl⟩ | ⟨c7, c8, c9, rfl⟩⟩
          all_goals
            go_wp2_with fail
            refine (HRF.out w7 HB7.out).mono ?_
            rintro e w8 ⟨rfl, hb8⟩
            have HB8 := Lib.hid (HB.out.trans (hb8.mono HB.out.size))
            clear hb8
            go_wp2_with fail
            go_ret
            exact ⟨rfl, HB8.out⟩
end Go.Proofs.Ytdidacjmcafcpaa.Ph
