/- Stage 7: law MachDoes as a call. -/
import Derived.Test.YtonheiaohgbbcaaGreatOB
namespace Go.Proofs.YtonheiaohgbbcaaGreat.Mc
open Go.ChangeShapes Go.WideShapes Go.ChangeAt Go.RowKit Go.Maps Go.Proofs.YtonheiaohgbbcaaGreat.Mem Go.Proofs.YtonheiaohgbbcaaGreat.Kc Go.Proofs.YtonheiaohgbbcaaGreat.Br Go.Proofs.YtonheiaohgbbcaaGreat.Pl Go.Proofs.YtonheiaohgbbcaaGreat.Mw Go.Proofs.YtonheiaohgbbcaaGreat.Gr
set_option linter.unusedVariables false
set_option linter.unusedSimpArgs false
theorem in16 (x : Int) : InI (x % 16) := by unfold InI; omega
set_option maxRecDepth 100000 in
set_option maxHeartbeats 16000000 in
theorem does_any (w : World) (i : PMach) (A : Option Addr) (k : Nat) (e : PEnd) (E : Option Addr) (n ek : Nat) (rv mv : Value) (ra m : List Int)
    (hv : Ints w (.slice A i.args.length k) i.args) (hI : InI i.a ∧ InI i.b ∧ InI i.c ∧ InI i.d ∧ InI i.e) (hi : InW i.imm) (hn : n ≤ ek) (hek : ek ≤ maxLen) (hrv : WordsAt w rv ra) (hra : ∀ x ∈ ra, InW x) (hm : WordsAt w mv m) :
    Calls Tryz.prog 4 #[.agg #[.int .i64 i.op, .int .i64 i.d, .int .i64 i.e, .int .i64 i.a, .int .i64 i.b, .int .i64 i.c, .int .i32 i.imm, .slice A i.args.length k], .agg #[.int .i64 e.op, .int .i64 e.a, .int .i64 e.b, .slice E n ek, .int .i32 e.imm], .agg #[rv, mv]] w (Says true w) := by
  have HV := Lib.hid hv
  have HRV := Lib.hid hrv
  have HMV := Lib.hid hm
  have HRA := Lib.hid hra
  have HII := Lib.hid hI
  have HIW := Lib.hid hi
  obtain ⟨rA, rc, er, _, _, _⟩ := hrv
  obtain ⟨mA, mc, em, _, _, _⟩ := hm
  obtain ⟨rn, hrn⟩ : ∃ rn, ra.length = rn := ⟨_, rfl⟩
  obtain ⟨mn, hmn⟩ : ∃ mn, m.length = mn := ⟨_, rfl⟩
  rw [hrn] at er
  rw [hmn] at em
  subst er em
  unfold maxLen at hek
  clear hv hra hI hi hrn hmn
  go_enter Tryz.func4, Tryz.ntmps4
  go_upto_region 1 with (fail)
  obtain ⟨W1, hW1⟩ : ∃ W1, ((w.alloc (.cells #[.int .i64 i.op, .int .i64 i.d, .int .i64 i.e, .int .i64 i.a, .int .i64 i.b, .int .i64 i.c, .int .i32 i.imm, .slice A i.args.length k] 40)).alloc (.cells #[.int .i64 e.op, .int .i64 e.a, .int .i64 e.b, .slice E n ek, .int .i32 e.imm] 42)).alloc (.cells #[.slice rA rn rc, .slice mA mn mc] 43) = W1 := ⟨_, rfl⟩
  have hb1 : Below w.heap.size w W1 := by rw [← hW1]; exact (((Below.refl _ _).alloc (Nat.le_refl _) _).alloc (by simp) _).alloc (by simp; omega) _
  have hs1 : Str W1 w.heap.size 40 [.int .i64 i.op, .int .i64 i.d, .int .i64 i.e, .int .i64 i.a, .int .i64 i.b, .int .i64 i.c, .int .i32 i.imm, .slice A i.args.length k] := by
    rw [← hW1]
    exact Str.below (Str.below (World.alloc_heap_new w _) ((Below.refl _ _).alloc (Nat.le_refl _) _)) ((Below.refl _ _).alloc (Nat.le_refl _) _)
  have he1 : Str W1 (w.heap.size + 1) 42 [.int .i64 e.op, .int .i64 e.a, .int .i64 e.b, .slice E n ek, .int .i32 e.imm] := by
    have h := World.alloc_heap_new (w.alloc (.cells #[.int .i64 i.op, .int .i64 i.d, .int .i64 i.e, .int .i64 i.a, .int .i64 i.b, .int .i64 i.c, .int .i32 i.imm, .slice A i.args.length k] 40)) (.cells #[.int .i64 e.op, .int .i64 e.a, .int .i64 e.b, .slice E n ek, .int .i32 e.imm] 42)
    simp only [World.size_alloc] at h
    rw [← hW1]
    exact Str.below h ((Below.refl _ _).alloc (Nat.le_refl _) _)
  have hl1 : Str W1 (w.heap.size + 2) 43 [.slice rA rn rc, .slice mA mn mc] := by
    have h := World.alloc_heap_new ((w.alloc (.cells #[.int .i64 i.op, .int .i64 i.d, .int .i64 i.e, .int .i64 i.a, .int .i64 i.b, .int .i64 i.c, .int .i32 i.imm, .slice A i.args.length k] 40)).alloc (.cells #[.int .i64 e.op, .int .i64 e.a, .int .i64 e.b, .slice E n ek, .int .i32 e.imm] 42)) (.cells #[.slice rA rn rc, .slice mA mn mc] 43)
    simp only [World.size_alloc] at h
    rw [← hW1]
    exact h
  rw [hW1]
  have HB1 := Lib.hid hb1
  have HS1 := Lib.hid hs1
  have HE1 := Lib.hid he1
  have HL1 := Lib.hid hl1
  clear hW1 hb1 hs1 he1 hl1
  go_wp2_with fail
  refine (shown_any W1).mono ?_
  rintro en ws ⟨rfl, hs⟩
  have HBS := Lib.hid (HB1.out.trans (hs.mono HB1.out.size))
  have hs2 := HS1.out.below hs
  have HSS := Lib.hid hs2
  have HES := Lib.hid (HE1.out.below hs)
  have HLS := Lib.hid (HL1.out.below hs)
  have q0 := hs2.cell 0
  have q1 := hs2.cell 1
  have q2 := hs2.cell 2
  have q3 := hs2.cell 3
  have q4 := hs2.cell 4
  have q5 := hs2.cell 5
  have q6 := hs2.cell 6
  have q7 := hs2.cell 7
  clear hs hs2
  go_upto_region 2 with (fail)
  go_wp2_with fail
  refine (few_any ws i A i.args.length k (HV.out.keep HBS.out)).mono ?_
  rintro en w2 ⟨fA, fk, rfl, hof, hb2⟩
  obtain ⟨l7, hl7⟩ : ∃ l7, i.args.take 7 = l7 := ⟨_, rfl⟩
  have h77 : l7.length ≤ 7 := by rw [← hl7, List.length_take]; omega
  rw [hl7] at hof ⊢
  have HL7 := Lib.hid hl7
  clear hl7
  have HF2 := Lib.hid hof
  have HB2 := Lib.hid (HBS.out.trans (hb2.mono HBS.out.size))
  have HS2 := Lib.hid (HSS.out.below hb2)
  have HE2 := Lib.hid (HES.out.below hb2)
  have HL2 := Lib.hid (HLS.out.below hb2)
  clear hof hb2 q0 q1 q2 q3 q4 q5 q6 q7
  go_upto_region 3 with (fail)
  obtain ⟨W3, hW3⟩ : ∃ W3, w2.alloc (.cells #[.int .i64 i.op, .int .i64 i.d, .int .i64 i.e, .int .i64 i.a, .int .i64 i.b, .int .i64 i.c, .int .i32 i.imm, .slice fA l7.length fk] 40) = W3 := ⟨_, rfl⟩
  have hb3 : Below w2.heap.size w2 W3 := by rw [← hW3]; exact (Below.refl _ _).alloc (Nat.le_refl _) _
  have hx3 : Str W3 w2.heap.size 40 [.int .i64 i.op, .int .i64 i.d, .int .i64 i.e, .int .i64 i.a, .int .i64 i.b, .int .i64 i.c, .int .i32 i.imm, .slice fA l7.length fk] := by rw [← hW3]; exact World.alloc_heap_new w2 _
  rw [hW3]
  have HB3 := Lib.hid (HB2.out.trans (hb3.mono HB2.out.size))
  have HF3 := Lib.hid (own_below HF2.out hb3)
  have HX3 := Lib.hid hx3
  have hs3 := HS2.out.below hb3
  have HE3 := Lib.hid (HE2.out.below hb3)
  have HL3 := Lib.hid (HL2.out.below hb3)
  have q0 := hs3.cell 0
  have q1 := hs3.cell 1
  have q2 := hs3.cell 2
  have q3 := hs3.cell 3
  have q4 := hs3.cell 4
  have q5 := hs3.cell 5
  have q6 := hs3.cell 6
  have q7 := hs3.cell 7
  clear hW3 hb3 hx3 hs3
  obtain ⟨g8, hg8⟩ : ∃ g8, w2.heap.size = g8 := ⟨_, rfl⟩
  rw [hg8] at HX3
  rw [hg8]
  have H8 := Lib.hid hg8
  clear hg8
  go_wp2_with fail
  refine (few_any W3 i A i.args.length k (HV.out.keep HB3.out)).mono ?_
  rintro en w4 ⟨gA, gk, rfl, hof, hb4⟩
  rw [HL7.out] at hof ⊢
  have HG4 := Lib.hid hof
  have HB4 := Lib.hid (HB3.out.trans (hb4.mono HB3.out.size))
  have HF4 := Lib.hid (own_below HF3.out hb4)
  have HX4 := Lib.hid (HX3.out.below hb4)
  have HE4 := Lib.hid (HE3.out.below hb4)
  have HL4 := Lib.hid (HL3.out.below hb4)
  clear hof hb4 q0 q1 q2 q3 q4 q5 q6 q7
  go_upto_region 4 with (fail)
  obtain ⟨W5, hW5⟩ : ∃ W5, w4.alloc (.cells #[.int .i64 i.op, .int .i64 i.d, .int .i64 i.e, .int .i64 i.a, .int .i64 i.b, .int .i64 i.c, .int .i32 i.imm, .slice gA l7.length gk] 40) = W5 := ⟨_, rfl⟩
  have hb5 : Below w4.heap.size w4 W5 := by rw [← hW5]; exact (Below.refl _ _).alloc (Nat.le_refl _) _
  have hy5 : Str W5 w4.heap.size 40 [.int .i64 i.op, .int .i64 i.d, .int .i64 i.e, .int .i64 i.a, .int .i64 i.b, .int .i64 i.c, .int .i32 i.imm, .slice gA l7.length gk] := by rw [← hW5]; exact World.alloc_heap_new w4 _
  rw [hW5]
  have HB5 := Lib.hid (HB4.out.trans (hb5.mono HB4.out.size))
  have HF5 := Lib.hid (own_below HF4.out hb5)
  have HG5 := Lib.hid (own_below HG4.out hb5)
  have HX5 := Lib.hid (HX4.out.below hb5)
  have HE5 := Lib.hid (HE4.out.below hb5)
  have HL5 := Lib.hid (HL4.out.below hb5)
  have HY5 := Lib.hid hy5
  have q0 := hy5.cell 0
  have q1 := hy5.cell 1
  have q2 := hy5.cell 2
  have q3 := hy5.cell 3
  have q4 := hy5.cell 4
  have q5 := hy5.cell 5
  have q6 := hy5.cell 6
  have q7 := hy5.cell 7
  have v1 := hy5.frozen 1
  have v2 := hy5.frozen 2
  have v3 := hy5.frozen 3
  have v4 := hy5.frozen 4
  have v5 := hy5.frozen 5
  have an1 := and15 i.d
  have an2 := and15 i.e
  have an3 := and15 i.a
  have an4 := and15 i.b
  have an5 := and15 i.c
  clear hW5 hb5 hy5
  go_upto_region 9 with (fail)
  obtain ⟨W6, hW6⟩ : ∃ W6, (((((W5.setCell ⟨w4.heap.size, 1, none⟩ (.int .i64 (i.d % 16))).setCell ⟨w4.heap.size, 2, none⟩ (.int .i64 (i.e % 16))).setCell ⟨w4.heap.size, 3, none⟩ (.int .i64 (i.a % 16))).setCell ⟨w4.heap.size, 4, none⟩ (.int .i64 (i.b % 16))).setCell ⟨w4.heap.size, 5, none⟩ (.int .i64 (i.c % 16))) = W6 := ⟨_, rfl⟩
  rw [hW6]
  have hB6 : But w4.heap.size W5 W6 := by rw [← hW6]; exact (((((but_set w4.heap.size 1 _ W5).trans (but_set w4.heap.size 2 _ _)).trans (but_set w4.heap.size 3 _ _)).trans (but_set w4.heap.size 4 _ _)).trans (but_set w4.heap.size 5 _ _))
  have hy6 : Str W6 w4.heap.size 40 [.int .i64 i.op, .int .i64 (i.d % 16), .int .i64 (i.e % 16), .int .i64 (i.a % 16), .int .i64 (i.b % 16), .int .i64 (i.c % 16), .int .i32 i.imm, .slice gA l7.length gk] := by rw [← hW6]; have h := (((((HY5.out.set 1 (.int .i64 (i.d % 16))).set 2 (.int .i64 (i.e % 16))).set 3 (.int .i64 (i.a % 16))).set 4 (.int .i64 (i.b % 16))).set 5 (.int .i64 (i.c % 16))); simpa using h
  have HB6 := Lib.hid (HB5.out.trans (below_of_but hB6 HB4.out.size HB5.out.size))
  have hlt8 : g8 < w4.heap.size := HX4.out.lt
  have HG6 := Lib.hid (show Ints W6 (.slice gA l7.length gk) l7 from OwnInts.ints (own_but HG5.out hB6 (fun g hg => by have := (World.ownsRow.lt HG4.out g hg).2; omega)))
  have HE6 := Lib.hid (hB6.str HE5.out (by have := HE4.out.lt; omega))
  have HL6 := Lib.hid (hB6.str HL5.out (by have := HL4.out.lt; omega))
  have HF6 := Lib.hid (show Ints W6 (.slice fA l7.length fk) l7 from OwnInts.ints (own_but HF5.out hB6 (fun g hg => by have := (World.ownsRow.lt HF4.out g hg).2; omega)))
  have hx6 := hB6.str HX5.out (by omega)
  clear q0 q1 q2 q3 q4 q5 q6 q7 v1 v2 v3 v4 v5 an1 an2 an3 an4 an5 hB6 hW6
  have q0 := hx6.cell 0
  have q1 := hx6.cell 1
  have q2 := hx6.cell 2
  have q3 := hx6.cell 3
  have q4 := hx6.cell 4
  have q5 := hx6.cell 5
  have q6 := hx6.cell 6
  have q7 := hx6.cell 7
  have y0 := hy6.cell 0
  have y1 := hy6.cell 1
  have y2 := hy6.cell 2
  have y3 := hy6.cell 3
  have y4 := hy6.cell 4
  have y5 := hy6.cell 5
  have y6 := hy6.cell 6
  have y7 := hy6.cell 7
  have HX6 := Lib.hid hx6
  have HY6 := Lib.hid hy6
  clear hx6 hy6
  go_upto_region 10 with (fail)
  obtain ⟨W7, hW7⟩ : ∃ W7, W6.alloc (.cells #[.int .i64 i.op, .int .i64 i.d, .int .i64 i.e, .int .i64 i.a, .int .i64 i.b, .int .i64 i.c, .int .i32 i.imm, .slice fA l7.length fk, .int .i64 i.op, .int .i64 (i.d % 16), .int .i64 (i.e % 16), .int .i64 (i.a % 16), .int .i64 (i.b % 16), .int .i64 (i.c % 16), .int .i32 i.imm, .slice gA l7.length gk] 45) = W7 := ⟨_, rfl⟩
  have hb7 : Below W6.heap.size W6 W7 := by rw [← hW7]; exact (Below.refl _ _).alloc (Nat.le_refl _) _
  have hz7 : Str W7 W6.heap.size 45 [.int .i64 i.op, .int .i64 i.d, .int .i64 i.e, .int .i64 i.a, .int .i64 i.b, .int .i64 i.c, .int .i32 i.imm, .slice fA l7.length fk, .int .i64 i.op, .int .i64 (i.d % 16), .int .i64 (i.e % 16), .int .i64 (i.a % 16), .int .i64 (i.b % 16), .int .i64 (i.c % 16), .int .i32 i.imm, .slice gA l7.length gk] := by rw [← hW7]; exact World.alloc_heap_new W6 _
  rw [hW7]
  have HB7 := Lib.hid (HB6.out.trans (hb7.mono HB6.out.size))
  have HF7 := Lib.hid (HF6.out.keep hb7)
  have HG7 := Lib.hid (HG6.out.keep hb7)
  have HE7 := Lib.hid (HE6.out.below hb7)
  have HL7b := Lib.hid (HL6.out.below hb7)
  have HZ7 := Lib.hid hz7
  have HR7 := Lib.hid (HRV.out.below HB7.out)
  have HM7 := Lib.hid (HMV.out.below HB7.out)
  clear hW7 hb7 hz7 q0 q1 q2 q3 q4 q5 q6 q7 y0 y1 y2 y3 y4 y5 y6 y7 hlt8
  obtain ⟨gb, hgb⟩ : ∃ gb, W6.heap.size = gb := ⟨_, rfl⟩
  rw [hgb] at HZ7
  rw [hgb]
  clear hgb
  generalize w4.heap.size = g9 at *
  go_wp2
  go_loopw [11, 12, 13, 14, 15, 16, 17, 18, 19] (fun j _ _ _ _ _ _ _ _ wr => ∃ q : Int, (q = 0 ∨ q = 1 ∨ q = 2) ∧ j = .int .i64 q ∧ Below W7.heap.size W7 wr) (fun j _ _ _ _ _ _ _ _ _ => 2 - (intOf j).toNat)
  case atStart => exact ⟨0, Or.inl rfl, rfl, Below.refl _ _⟩
  case round =>
    obtain ⟨q, hq, rfl, hbel⟩ := hrel
    obtain ⟨wo, rfl⟩ : ∃ wo : World, wo = wr := ⟨_, rfl⟩
    have HBL := Lib.hid hbel
    clear hbel
    rcases hq with rfl | rfl | rfl
    · have hlo := HL7b.out.below HBL.out
      have p0 := hlo.cell 0
      have p1 := hlo.cell 1
      clear hlo
      go_wp2_with fail
      refine (some_any wo _ ra (HR7.out.below HBL.out)).mono ?_
      rintro en wa ⟨av, rfl, ho, hb⟩
      obtain ⟨aA, an, ac, rfl⟩ := OwnWords.slice ho
      have HOa := Lib.hid ho
      have HBa := Lib.hid (HBL.out.trans (hb.mono HBL.out.size))
      have HZa := Lib.hid hb.size
      have HQa := Lib.hid hb
      clear ho hb p0 p1
      have hlo := HL7b.out.below HBa.out
      have p0 := hlo.cell 0
      have p1 := hlo.cell 1
      clear hlo
      go_wp2_with fail
      refine (some_any wa _ m (HM7.out.below HBa.out)).mono ?_
      rintro en wb ⟨bv, rfl, ho, hb⟩
      obtain ⟨bA, bn, bc, rfl⟩ := OwnWords.slice ho
      have HOb := Lib.hid ho
      have HBb := Lib.hid (HBa.out.trans (hb.mono HBa.out.size))
      have HZb := Lib.hid hb.size
      have HQb := Lib.hid hb
      have HOab := Lib.hid (OwnWords.below HOa.out hb)
      clear ho hb p0 p1
      have hlo := HL7b.out.below HBb.out
      have p0 := hlo.cell 0
      have p1 := hlo.cell 1
      clear hlo
      go_wp2_with fail
      refine (some_any wb _ ra (HR7.out.below HBb.out)).mono ?_
      rintro en wc ⟨cv, rfl, ho, hb⟩
      obtain ⟨cA, cn, cc, rfl⟩ := OwnWords.slice ho
      have HOc := Lib.hid ho
      have HBc := Lib.hid (HBb.out.trans (hb.mono HBb.out.size))
      have HZc := Lib.hid hb.size
      have HQc := Lib.hid hb
      have HOac := Lib.hid (OwnWords.below HOab.out hb)
      have HObc := Lib.hid (OwnWords.below HOb.out hb)
      clear ho hb p0 p1
      have hlo := HL7b.out.below HBc.out
      have p0 := hlo.cell 0
      have p1 := hlo.cell 1
      clear hlo
      go_wp2_with fail
      refine (some_any wc _ m (HM7.out.below HBc.out)).mono ?_
      rintro en wd ⟨dv, rfl, ho, hb⟩
      obtain ⟨dA, dn, dc, rfl⟩ := OwnWords.slice ho
      have HOd := Lib.hid ho
      have HBd := Lib.hid (HBc.out.trans (hb.mono HBc.out.size))
      have HZd := Lib.hid hb.size
      have HQd := Lib.hid hb
      have HOad := Lib.hid (OwnWords.below HOac.out hb)
      have HObd := Lib.hid (OwnWords.below HObc.out hb)
      have HOcd := Lib.hid (OwnWords.below HOc.out hb)
      clear ho hb p0 p1
      have hlo := HL7b.out.below HBd.out
      have p0 := hlo.cell 0
      have p1 := hlo.cell 1
      clear hlo
      clear p0 p1
      have HWo := Lib.hid (show wo.heap.size ≤ wa.heap.size ∧ wa.heap.size ≤ wb.heap.size ∧ wb.heap.size ≤ wc.heap.size ∧ wc.heap.size ≤ wd.heap.size from ⟨HZa.out, HZb.out, HZc.out, HZd.out⟩)
      have hab := own_apart HOa.out HOb.out (Nat.le_refl _)
      have hac := own_apart HOa.out HOc.out HZb.out
      have had := own_apart HOa.out HOd.out (Nat.le_trans HZb.out HZc.out)
      have hbc := own_apart HOb.out HOc.out (Nat.le_refl _)
      have hbd := own_apart HOb.out HOd.out HZc.out
      have hcd := own_apart HOc.out HOd.out (Nat.le_refl _)
      have HAB := Lib.hid hab
      have HAC := Lib.hid hac
      have HAD := Lib.hid had
      have HBC := Lib.hid hbc
      have HBD := Lib.hid hbd
      have HCD := Lib.hid hcd
      clear hab hac had hbc hbd hcd
      have HA1 := Lib.hid (show OwnWords wo.heap.size wd _ _ from HOad.out)
      have HB1' := Lib.hid (OwnWords.mono HObd.out HWo.out.1)
      have HC1 := Lib.hid (OwnWords.mono HOcd.out (Nat.le_trans HWo.out.1 HWo.out.2.1))
      have HD1 := Lib.hid (OwnWords.mono HOd.out (Nat.le_trans HWo.out.1 (Nat.le_trans HWo.out.2.1 HWo.out.2.2.1)))
      have HFA := Lib.hid (fun g (hg : g < wo.heap.size) => show some g ≠ (Value.slice aA an ac).ownBlock ∧ some g ≠ (Value.slice bA bn bc).ownBlock from ⟨fun e => by have := (OwnWords.where_ HA1.out e.symm).1; omega, fun e => by have := (OwnWords.where_ HB1'.out e.symm).1; omega⟩)
      have HFC := Lib.hid (fun g (hg : g < wo.heap.size) => show some g ≠ (Value.slice cA cn cc).ownBlock ∧ some g ≠ (Value.slice dA dn dc).ownBlock from ⟨fun e => by have := (OwnWords.where_ HC1.out e.symm).1; omega, fun e => by have := (OwnWords.where_ HD1.out e.symm).1; omega⟩)
      have hzd := HZ7.out.below HBd.out
      have c0 := hzd.cell 0
      have c1 := hzd.cell 1
      have c2 := hzd.cell 2
      have c3 := hzd.cell 3
      have c4 := hzd.cell 4
      have c5 := hzd.cell 5
      have c6 := hzd.cell 6
      have c7 := hzd.cell 7
      clear hzd
      have HGP := Lib.hid (fun r => inW_getP (fun x hx => HRA.out x (List.mem_of_mem_take hx)) r : ∀ r, InW (getP (ra.take 20) r))
      have HML := Lib.hid (show (m.take 20).length ≤ 1000000 by rw [List.length_take]; omega)
      go_wp2_with fail
      refine (mdo_any wd (⟨i.op, i.d, i.e, i.a, i.b, i.c, i.imm, l7⟩ : PMach) fA l7.length fk _ _ wo.heap.size (ra.take 20) (m.take 20) HA1.out HB1'.out HML.out HAB.out HII.out HIW.out HGP.out).mono ?_
      rintro en we ⟨rfl, hoa, hob, htw⟩
      have HC2 := Lib.hid (OwnWords.two HC1.out htw (apart_symm HAC.out) (apart_symm HBC.out))
      have HD2 := Lib.hid (OwnWords.two HD1.out htw (apart_symm HAD.out) (apart_symm HBD.out))
      have hwe : wo.heap.size ≤ wd.heap.size := by have := HWo.out; omega
      have hbe := below_two htw hwe HFA.out
      have HBWD := Lib.hid (show Below wo.heap.size wo wd from (Below.trans (Below.trans (Below.trans HQa.out (HQb.out.mono HZa.out)) (HQc.out.mono (Nat.le_trans HZa.out HZb.out))) (HQd.out.mono (Nat.le_trans HZa.out (Nat.le_trans HZb.out HZc.out)))))
      have HBe := Lib.hid (HBL.out.trans ((HBWD.out.trans hbe).mono HBL.out.size))
      have HSe := Lib.hid (show wo.heap.size ≤ we.heap.size from Nat.le_trans hwe htw.size)
      have HA2 := Lib.hid hoa
      have HB2' := Lib.hid hob
      have HBWE := Lib.hid (HBWD.out.trans hbe)
      clear hoa hob htw hbe hwe c0 c1 c2 c3 c4 c5 c6 c7
      obtain ⟨f, hf⟩ : ∃ f, fxM (⟨i.op, i.d, i.e, i.a, i.b, i.c, i.imm, l7⟩ : PMach) (ra.take 20) (m.take 20) = f := ⟨_, rfl⟩
      obtain ⟨l2, hl2⟩ : ∃ l2, regsM (⟨i.op, i.d, i.e, i.a, i.b, i.c, i.imm, l7⟩ : PMach) (ra.take 20) (m.take 20) = l2 := ⟨_, rfl⟩
      rw [hf] at HB2'
      rw [hl2] at HA2
      rw [hf]
      have HFF := Lib.hid hf
      have HL2 := Lib.hid hl2
      clear hf hl2
      have hze := HZ7.out.below HBe.out
      have c0 := hze.cell 0
      have c1 := hze.cell 1
      have c2 := hze.cell 2
      have c3 := hze.cell 3
      have c4 := hze.cell 4
      have c5 := hze.cell 5
      have c6 := hze.cell 6
      have c7 := hze.cell 7
      clear hze
      go_wp2_with fail
      refine (rdoM_any we (⟨i.op, i.d, i.e, i.a, i.b, i.c, i.imm, l7⟩ : PMach) fA l7.length fk _ _ wo.heap.size (ra.take 20) (m.take 20) HC2.out HD2.out HML.out HCD.out HII.out HIW.out HGP.out).mono ?_
      rw [HFF.out, HL2.out]
      rintro en wf ⟨rfl, hoc, hod, htw⟩
      have HA3 := Lib.hid (OwnWords.two HA2.out htw HAC.out HAD.out)
      have HB3' := Lib.hid (OwnWords.two HB2'.out htw HBC.out HBD.out)
      have hbe := below_two htw HSe.out HFC.out
      have HBWF := Lib.hid (HBWE.out.trans hbe)
      have HBf := Lib.hid (HBL.out.trans (HBWF.out.mono HBL.out.size))
      have HC3 := Lib.hid hoc
      have HD3 := Lib.hid hod
      clear hoc hod htw hbe c0 c1 c2 c3 c4 c5 c6 c7
      have HZf := Lib.hid (HZ7.out.below HBf.out)
      have HIx := Lib.hid (HF7.out.keep HBf.out)
      go_upto_region 19 with (fail)
      have hdr : Below wf.heap.size wf wf.drew := (Below.refl _ _).drew
      have HK0 := Lib.hid hdr
      clear hdr
      refine region_abs _ (fun a0 ha0 => ?_)
      have e10 : a0.eval (.tmp 10) = .pointer (some ⟨gb, 0, none⟩) := by rw [ha0]; rfl
      have e11 : a0.eval (.tmp 11) = .int .i64 0 := by rw [ha0]; rfl
      have e12 : a0.eval (.tmp 12) = .slice aA an ac := by rw [ha0]; rfl
      have e13 : a0.eval (.tmp 13) = .slice bA bn bc := by rw [ha0]; rfl
      have e14 : a0.eval (.tmp 14) = .slice cA cn cc := by rw [ha0]; rfl
      have e15 : a0.eval (.tmp 15) = .slice dA dn dc := by rw [ha0]; rfl
      have e16 : a0.eval (.tmp 16) = .int .i32 f.trap := by rw [ha0]; rfl
      have e17 : a0.eval (.tmp 17) = .bool (f.trap == 0) := by rw [ha0]; rfl
      have e18 : a0.eval (.tmp 18) = .int .i32 f.trap := by rw [ha0]; rfl
      have e19 : a0.eval (.tmp 19) = .bool (f.trap == 0) := by rw [ha0]; rfl
      have hsz : 170 < a0.tmps.size := by rw [ha0]; exact of_decide_eq_true rfl
      refine region_held_wp (fun w' => Str w' gb 45 [.int .i64 i.op, .int .i64 i.d, .int .i64 i.e, .int .i64 i.a, .int .i64 i.b, .int .i64 i.c, .int .i32 i.imm, .slice fA l7.length fk, .int .i64 i.op, .int .i64 (i.d % 16), .int .i64 (i.e % 16), .int .i64 (i.a % 16), .int .i64 (i.b % 16), .int .i64 (i.c % 16), .int .i32 i.imm, .slice gA l7.length gk]) [0, 1, 2, 3, 4, 5, 6, 7, 8, 9, 10, 12, 13, 14, 15, 16, 18, 19, 20, 21, 22, 23, 25, 26, 27, 30, 31, 32, 33, 34, 35, 37, 38, 39, 42, 43] [0, 1, 2, 3, 4, 5, 6, 7, 8, 9, 10, 11, 12, 13, 14, 15, 16, 17, 18, 19, 20, 21, 22, 23, 25, 26, 27, 24, 28, 29, 30, 31, 32, 33, 34, 35, 37, 38, 39, 36, 40, 41, 42, 43] (by kernel_rfl) (by kernel_rfl) (by kernel_rfl) rfl (by intro c a d v w h; cases d <;> exact h) HZf.out ?_
      refine walkA_still _ (.int .i32 f.trap) rfl rfl rfl rfl (fun w hS => still_move _ _ _ _ w rfl e16) (by omega) ?_
      intro b1 hz he hk hb1
      have hsz : 170 < b1.tmps.size := by rw [hz]; exact hsz
      replace e10 := (hk 10 (by decide)).trans e10
      replace e11 := (hk 11 (by decide)).trans e11
      replace e12 := (hk 12 (by decide)).trans e12
      replace e13 := (hk 13 (by decide)).trans e13
      replace e14 := (hk 14 (by decide)).trans e14
      replace e15 := (hk 15 (by decide)).trans e15
      replace e17 := (hk 17 (by decide)).trans e17
      replace e18 := (hk 18 (by decide)).trans e18
      replace e19 := (hk 19 (by decide)).trans e19
      clear e16
      have e83 := he
      clear hz hk he
      refine walkA_still _ (.int .i32 f.trap) rfl rfl rfl rfl (fun w hS => still_move _ _ _ _ w rfl e18) (by omega) ?_
      intro b2 hz he hk hb2
      have hsz : 170 < b2.tmps.size := by rw [hz]; exact hsz
      replace e10 := (hk 10 (by decide)).trans e10
      replace e11 := (hk 11 (by decide)).trans e11
      replace e12 := (hk 12 (by decide)).trans e12
      replace e13 := (hk 13 (by decide)).trans e13
      replace e14 := (hk 14 (by decide)).trans e14
      replace e15 := (hk 15 (by decide)).trans e15
      replace e17 := (hk 17 (by decide)).trans e17
      replace e19 := (hk 19 (by decide)).trans e19
      replace e83 := (hk 83 (by decide)).trans e83
      clear e18
      have e84 := he
      clear hz hk he
      refine walkA_still _ (.bool false) rfl rfl rfl rfl (fun w hS => run_neqI rfl e83 e84) (by omega) ?_
      intro b3 hz he hk hb3
      have hsz : 170 < b3.tmps.size := by rw [hz]; exact hsz
      replace e10 := (hk 10 (by decide)).trans e10
      replace e11 := (hk 11 (by decide)).trans e11
      replace e12 := (hk 12 (by decide)).trans e12
      replace e13 := (hk 13 (by decide)).trans e13
      replace e14 := (hk 14 (by decide)).trans e14
      replace e15 := (hk 15 (by decide)).trans e15
      replace e17 := (hk 17 (by decide)).trans e17
      replace e19 := (hk 19 (by decide)).trans e19
      clear e83
      clear e84
      have e85 := he
      clear hz hk he
      refine walkA_still _ (.bool false) rfl rfl rfl rfl (fun w hS => still_move _ _ _ _ w rfl e85) (by omega) ?_
      intro b4 hz he hk hb4
      have hsz : 170 < b4.tmps.size := by rw [hz]; exact hsz
      replace e10 := (hk 10 (by decide)).trans e10
      replace e11 := (hk 11 (by decide)).trans e11
      replace e12 := (hk 12 (by decide)).trans e12
      replace e13 := (hk 13 (by decide)).trans e13
      replace e14 := (hk 14 (by decide)).trans e14
      replace e15 := (hk 15 (by decide)).trans e15
      replace e17 := (hk 17 (by decide)).trans e17
      replace e19 := (hk 19 (by decide)).trans e19
      clear e85
      have e86 := he
      clear hz hk he
      refine walkA_still _ (.bool (f.trap == 0)) rfl rfl rfl (wanted_at (j := 3) (s := 86) (b := false) rfl (by kernel_rfl) e86) (fun w hS => still_move _ _ _ _ w rfl e17) (by omega) ?_
      intro b5 hz he hk hb5
      have hsz : 170 < b5.tmps.size := by rw [hz]; exact hsz
      replace e10 := (hk 10 (by decide)).trans e10
      replace e11 := (hk 11 (by decide)).trans e11
      replace e12 := (hk 12 (by decide)).trans e12
      replace e13 := (hk 13 (by decide)).trans e13
      replace e14 := (hk 14 (by decide)).trans e14
      replace e15 := (hk 15 (by decide)).trans e15
      replace e19 := (hk 19 (by decide)).trans e19
      replace e86 := (hk 86 (by decide)).trans e86
      clear e17
      have e87 := he
      clear hz hk he
      refine walkA_still _ (.bool (f.trap == 0)) rfl rfl rfl (wanted_at (j := 3) (s := 86) (b := false) rfl (by kernel_rfl) e86) (fun w hS => still_move _ _ _ _ w rfl e19) (by omega) ?_
      intro b6 hz he hk hb6
      have hsz : 170 < b6.tmps.size := by rw [hz]; exact hsz
      replace e10 := (hk 10 (by decide)).trans e10
      replace e11 := (hk 11 (by decide)).trans e11
      replace e12 := (hk 12 (by decide)).trans e12
      replace e13 := (hk 13 (by decide)).trans e13
      replace e14 := (hk 14 (by decide)).trans e14
      replace e15 := (hk 15 (by decide)).trans e15
      replace e86 := (hk 86 (by decide)).trans e86
      replace e87 := (hk 87 (by decide)).trans e87
      clear e19
      have e88 := he
      clear hz hk he
      refine walkA_still _ (.bool false) rfl rfl rfl (wanted_at (j := 3) (s := 86) (b := false) rfl (by kernel_rfl) e86) (fun w hS => run_neqB rfl e87 e88) (by omega) ?_
      intro b7 hz he hk hb7
      have hsz : 170 < b7.tmps.size := by rw [hz]; exact hsz
      replace e10 := (hk 10 (by decide)).trans e10
      replace e11 := (hk 11 (by decide)).trans e11
      replace e12 := (hk 12 (by decide)).trans e12
      replace e13 := (hk 13 (by decide)).trans e13
      replace e14 := (hk 14 (by decide)).trans e14
      replace e15 := (hk 15 (by decide)).trans e15
      replace e86 := (hk 86 (by decide)).trans e86
      clear e87
      clear e88
      have e89 := he
      clear hz hk he
      refine walkA_still _ (.bool false) rfl rfl rfl rfl (fun w hS => run_pickF rfl e86 e89) (by omega) ?_
      intro b8 hz he hk hb8
      have hsz : 170 < b8.tmps.size := by rw [hz]; exact hsz
      replace e10 := (hk 10 (by decide)).trans e10
      replace e11 := (hk 11 (by decide)).trans e11
      replace e12 := (hk 12 (by decide)).trans e12
      replace e13 := (hk 13 (by decide)).trans e13
      replace e14 := (hk 14 (by decide)).trans e14
      replace e15 := (hk 15 (by decide)).trans e15
      clear e86
      clear e89
      have e90 := he
      clear hz hk he
      refine walkA_still _ (.bool false) rfl rfl rfl rfl (fun w hS => still_move _ _ _ _ w rfl e90) (by omega) ?_
      intro b9 hz he hk hb9
      have hsz : 170 < b9.tmps.size := by rw [hz]; exact hsz
      replace e10 := (hk 10 (by decide)).trans e10
      replace e11 := (hk 11 (by decide)).trans e11
      replace e12 := (hk 12 (by decide)).trans e12
      replace e13 := (hk 13 (by decide)).trans e13
      replace e14 := (hk 14 (by decide)).trans e14
      replace e15 := (hk 15 (by decide)).trans e15
      clear e90
      have e91 := he
      clear hz hk he
      refine walkA_still _ (.slice aA an ac) rfl rfl rfl (wanted_at (j := 8) (s := 91) (b := false) rfl (by kernel_rfl) e91) (fun w hS => still_move _ _ _ _ w rfl e12) (by omega) ?_
      intro b10 hz he hk hb10
      have hsz : 170 < b10.tmps.size := by rw [hz]; exact hsz
      replace e10 := (hk 10 (by decide)).trans e10
      replace e11 := (hk 11 (by decide)).trans e11
      replace e13 := (hk 13 (by decide)).trans e13
      replace e14 := (hk 14 (by decide)).trans e14
      replace e15 := (hk 15 (by decide)).trans e15
      replace e91 := (hk 91 (by decide)).trans e91
      clear e12
      have e92 := he
      clear hz hk he
      refine walkA_still _ (.slice cA cn cc) rfl rfl rfl (wanted_at (j := 8) (s := 91) (b := false) rfl (by kernel_rfl) e91) (fun w hS => still_move _ _ _ _ w rfl e14) (by omega) ?_
      intro b11 hz he hk hb11
      have hsz : 170 < b11.tmps.size := by rw [hz]; exact hsz
      replace e10 := (hk 10 (by decide)).trans e10
      replace e11 := (hk 11 (by decide)).trans e11
      replace e13 := (hk 13 (by decide)).trans e13
      replace e15 := (hk 15 (by decide)).trans e15
      replace e91 := (hk 91 (by decide)).trans e91
      replace e92 := (hk 92 (by decide)).trans e92
      clear e14
      have e93 := he
      clear hz hk he
      refine walkH_does _ rfl rfl ?_
      refine does_call (wanted_at (j := 8) (s := 91) (b := false) rfl (by kernel_rfl) e91) (run_call2 (by kernel_rfl) rfl e92 e93) ?_
      refine (words_any wf.drew _ _ l2 l2 (words_of_own (OwnWords.below HA3.out HK0.out)) (words_of_own (OwnWords.below HC3.out HK0.out))).mono ?_
      rintro en wg1 ⟨rfl, ng, hwg⟩
      rw [show decide (l2 = l2) = true from decide_eq_true rfl]
      have HK1 := Lib.hid (show Below wf.heap.size wf wg1 from by rw [hwg]; exact below_drewK HK0.out ng)
      clear hwg
      refine ⟨_, rfl, Or.inl (HZf.out.below HK1.out), ?_⟩
      refine walkA_put (by omega) ?_
      intro b12 hz he hk hb12
      have hsz : 170 < b12.tmps.size := by rw [hz]; exact hsz
      replace e10 := (hk 10 (by decide)).trans e10
      replace e11 := (hk 11 (by decide)).trans e11
      replace e13 := (hk 13 (by decide)).trans e13
      replace e15 := (hk 15 (by decide)).trans e15
      replace e91 := (hk 91 (by decide)).trans e91
      clear e92
      clear e93
      have e94 := he
      clear hz hk he
      refine walkA_still _ (.bool false) rfl rfl rfl (wanted_at (j := 8) (s := 91) (b := false) rfl (by kernel_rfl) e91) (fun w hS => run_not rfl e94) (by omega) ?_
      intro b13 hz he hk hb13
      have hsz : 170 < b13.tmps.size := by rw [hz]; exact hsz
      replace e10 := (hk 10 (by decide)).trans e10
      replace e11 := (hk 11 (by decide)).trans e11
      replace e13 := (hk 13 (by decide)).trans e13
      replace e15 := (hk 15 (by decide)).trans e15
      replace e91 := (hk 91 (by decide)).trans e91
      clear e94
      have e95 := he
      clear hz hk he
      refine walkA_still _ (.bool false) rfl rfl rfl rfl (fun w hS => run_pickF rfl e91 e95) (by omega) ?_
      intro b14 hz he hk hb14
      have hsz : 170 < b14.tmps.size := by rw [hz]; exact hsz
      replace e10 := (hk 10 (by decide)).trans e10
      replace e11 := (hk 11 (by decide)).trans e11
      replace e13 := (hk 13 (by decide)).trans e13
      replace e15 := (hk 15 (by decide)).trans e15
      clear e91
      clear e95
      have e96 := he
      clear hz hk he
      refine walkA_still _ (.bool false) rfl rfl rfl rfl (fun w hS => still_move _ _ _ _ w rfl e96) (by omega) ?_
      intro b15 hz he hk hb15
      have hsz : 170 < b15.tmps.size := by rw [hz]; exact hsz
      replace e10 := (hk 10 (by decide)).trans e10
      replace e11 := (hk 11 (by decide)).trans e11
      replace e13 := (hk 13 (by decide)).trans e13
      replace e15 := (hk 15 (by decide)).trans e15
      clear e96
      have e97 := he
      clear hz hk he
      refine walkA_still _ (.slice bA bn bc) rfl rfl rfl (wanted_at (j := 14) (s := 97) (b := false) rfl (by kernel_rfl) e97) (fun w hS => still_move _ _ _ _ w rfl e13) (by omega) ?_
      intro b16 hz he hk hb16
      have hsz : 170 < b16.tmps.size := by rw [hz]; exact hsz
      replace e10 := (hk 10 (by decide)).trans e10
      replace e11 := (hk 11 (by decide)).trans e11
      replace e15 := (hk 15 (by decide)).trans e15
      replace e97 := (hk 97 (by decide)).trans e97
      clear e13
      have e98 := he
      clear hz hk he
      refine walkA_still _ (.slice dA dn dc) rfl rfl rfl (wanted_at (j := 14) (s := 97) (b := false) rfl (by kernel_rfl) e97) (fun w hS => still_move _ _ _ _ w rfl e15) (by omega) ?_
      intro b17 hz he hk hb17
      have hsz : 170 < b17.tmps.size := by rw [hz]; exact hsz
      replace e10 := (hk 10 (by decide)).trans e10
      replace e11 := (hk 11 (by decide)).trans e11
      replace e97 := (hk 97 (by decide)).trans e97
      replace e98 := (hk 98 (by decide)).trans e98
      clear e15
      have e99 := he
      clear hz hk he
      refine walkH_does _ rfl rfl ?_
      refine does_call (wanted_at (j := 14) (s := 97) (b := false) rfl (by kernel_rfl) e97) (run_call2 (by kernel_rfl) rfl e98 e99) ?_
      refine (words_any wg1 _ _ f.mem f.mem (words_of_own (OwnWords.below HB3'.out HK1.out)) (words_of_own (OwnWords.below HD3.out HK1.out))).mono ?_
      rintro en wg2 ⟨rfl, ng, hwg⟩
      rw [show decide (f.mem = f.mem) = true from decide_eq_true rfl]
      have HK2 := Lib.hid (show Below wf.heap.size wf wg2 from by rw [hwg]; exact below_drewK HK1.out ng)
      clear hwg
      refine ⟨_, rfl, Or.inl (HZf.out.below HK2.out), ?_⟩
      refine walkA_put (by omega) ?_
      intro b18 hz he hk hb18
      have hsz : 170 < b18.tmps.size := by rw [hz]; exact hsz
      replace e10 := (hk 10 (by decide)).trans e10
      replace e11 := (hk 11 (by decide)).trans e11
      replace e97 := (hk 97 (by decide)).trans e97
      clear e98
      clear e99
      have e100 := he
      clear hz hk he
      refine walkA_still _ (.bool false) rfl rfl rfl (wanted_at (j := 14) (s := 97) (b := false) rfl (by kernel_rfl) e97) (fun w hS => run_not rfl e100) (by omega) ?_
      intro b19 hz he hk hb19
      have hsz : 170 < b19.tmps.size := by rw [hz]; exact hsz
      replace e10 := (hk 10 (by decide)).trans e10
      replace e11 := (hk 11 (by decide)).trans e11
      replace e97 := (hk 97 (by decide)).trans e97
      clear e100
      have e101 := he
      clear hz hk he
      refine walkA_still _ (.bool false) rfl rfl rfl rfl (fun w hS => run_pickF rfl e97 e101) (by omega) ?_
      intro b20 hz he hk hb20
      have hsz : 170 < b20.tmps.size := by rw [hz]; exact hsz
      replace e10 := (hk 10 (by decide)).trans e10
      replace e11 := (hk 11 (by decide)).trans e11
      clear e97
      clear e101
      have e102 := he
      clear hz hk he
      refine walkA_still _ (.bool false) rfl rfl rfl rfl (fun w hS => still_move _ _ _ _ w rfl e102) (by omega) ?_
      intro b21 hz he hk hb21
      have hsz : 170 < b21.tmps.size := by rw [hz]; exact hsz
      replace e10 := (hk 10 (by decide)).trans e10
      replace e11 := (hk 11 (by decide)).trans e11
      clear e102
      have e103 := he
      clear hz hk he
      refine walkA_still _ (.int .i64 0) rfl rfl rfl (wanted_at (j := 20) (s := 103) (b := false) rfl (by kernel_rfl) e103) (fun w hS => still_move _ _ _ _ w rfl e11) (by omega) ?_
      intro b22 hz he hk hb22
      have hsz : 170 < b22.tmps.size := by rw [hz]; exact hsz
      replace e10 := (hk 10 (by decide)).trans e10
      replace e11 := (hk 11 (by decide)).trans e11
      replace e103 := (hk 103 (by decide)).trans e103
      have e104 := he
      clear hz hk he
      refine walkA_still _ (.pointer (some ⟨gb, 0, none⟩)) rfl rfl rfl (wanted_at (j := 20) (s := 103) (b := false) rfl (by kernel_rfl) e103) (fun w hS => run_idxB rfl e10 e104 (Or.inl rfl)) (by omega) ?_
      intro b23 hz he hk hb23
      have hsz : 170 < b23.tmps.size := by rw [hz]; exact hsz
      replace e10 := (hk 10 (by decide)).trans e10
      replace e11 := (hk 11 (by decide)).trans e11
      replace e103 := (hk 103 (by decide)).trans e103
      clear e104
      have e105 := he
      clear hz hk he
      refine walkA_still _ (.agg #[.int .i64 i.op, .int .i64 i.d, .int .i64 i.e, .int .i64 i.a, .int .i64 i.b, .int .i64 i.c, .int .i32 i.imm, .slice fA l7.length fk]) rfl rfl rfl (wanted_at (j := 20) (s := 103) (b := false) rfl (by kernel_rfl) e103) (fun w hS => run_loadM (f := 0) rfl e105 (hS.cell 0) (hS.cell 1) (hS.cell 2) (hS.cell 3) (hS.cell 4) (hS.cell 5) (hS.cell 6) (hS.cell 7)) (by omega) ?_
      intro b24 hz he hk hb24
      have hsz : 170 < b24.tmps.size := by rw [hz]; exact hsz
      replace e10 := (hk 10 (by decide)).trans e10
      replace e11 := (hk 11 (by decide)).trans e11
      replace e103 := (hk 103 (by decide)).trans e103
      clear e105
      have e106 := he
      clear hz hk he
      refine walkA_still _ (.int .i64 0) rfl rfl rfl (wanted_at (j := 20) (s := 103) (b := false) rfl (by kernel_rfl) e103) (fun w hS => still_move _ _ _ _ w rfl e11) (by omega) ?_
      intro b25 hz he hk hb25
      have hsz : 170 < b25.tmps.size := by rw [hz]; exact hsz
      replace e10 := (hk 10 (by decide)).trans e10
      replace e11 := (hk 11 (by decide)).trans e11
      replace e103 := (hk 103 (by decide)).trans e103
      replace e106 := (hk 106 (by decide)).trans e106
      have e108 := he
      clear hz hk he
      refine walkA_still _ (.pointer (some ⟨gb, 0, none⟩)) rfl rfl rfl (wanted_at (j := 20) (s := 103) (b := false) rfl (by kernel_rfl) e103) (fun w hS => run_idxB rfl e10 e108 (Or.inl rfl)) (by omega) ?_
      intro b26 hz he hk hb26
      have hsz : 170 < b26.tmps.size := by rw [hz]; exact hsz
      replace e10 := (hk 10 (by decide)).trans e10
      replace e11 := (hk 11 (by decide)).trans e11
      replace e103 := (hk 103 (by decide)).trans e103
      replace e106 := (hk 106 (by decide)).trans e106
      clear e108
      have e109 := he
      clear hz hk he
      refine walkA_still _ (.agg #[.int .i64 i.op, .int .i64 i.d, .int .i64 i.e, .int .i64 i.a, .int .i64 i.b, .int .i64 i.c, .int .i32 i.imm, .slice fA l7.length fk]) rfl rfl rfl (wanted_at (j := 20) (s := 103) (b := false) rfl (by kernel_rfl) e103) (fun w hS => run_loadM (f := 0) rfl e109 (hS.cell 0) (hS.cell 1) (hS.cell 2) (hS.cell 3) (hS.cell 4) (hS.cell 5) (hS.cell 6) (hS.cell 7)) (by omega) ?_
      intro b27 hz he hk hb27
      have hsz : 170 < b27.tmps.size := by rw [hz]; exact hsz
      replace e10 := (hk 10 (by decide)).trans e10
      replace e11 := (hk 11 (by decide)).trans e11
      replace e103 := (hk 103 (by decide)).trans e103
      replace e106 := (hk 106 (by decide)).trans e106
      clear e109
      have e110 := he
      clear hz hk he
      refine walkH_does _ rfl rfl ?_
      refine does_call (wanted_at (j := 20) (s := 103) (b := false) rfl (by kernel_rfl) e103) (run_call1 (by kernel_rfl) rfl e106) ?_
      refine (takes_any wg2 (⟨i.op, i.d, i.e, i.a, i.b, i.c, i.imm, l7⟩ : PMach) fA l7.length fk (HIx.out.keep HK2.out) (by show l7.length ≤ _; omega)).mono ?_
      rintro en wg3 ⟨v, rfl, ho, hb⟩
      obtain ⟨t24A, t24k, rfl⟩ := ho.form
      have HK3 := Lib.hid (HK2.out.trans (hb.mono HK2.out.size))
      have HO24 := Lib.hid ho
      have HP24 := Lib.hid hb
      clear ho hb
      refine ⟨_, rfl, Or.inl (HZf.out.below HK3.out), ?_⟩
      refine walkA_put (by omega) ?_
      intro b28 hz he hk hb28
      have hsz : 170 < b28.tmps.size := by rw [hz]; exact hsz
      replace e10 := (hk 10 (by decide)).trans e10
      replace e11 := (hk 11 (by decide)).trans e11
      replace e103 := (hk 103 (by decide)).trans e103
      replace e110 := (hk 110 (by decide)).trans e110
      clear e106
      have e107 := he
      clear hz hk he
      refine walkH_does _ rfl rfl ?_
      refine does_call (wanted_at (j := 20) (s := 103) (b := false) rfl (by kernel_rfl) e103) (run_call1 (by kernel_rfl) rfl e110) ?_
      refine (rtakes_any wg3 (⟨i.op, i.d, i.e, i.a, i.b, i.c, i.imm, l7⟩ : PMach) fA l7.length fk (HIx.out.keep HK3.out) (by show l7.length ≤ _; omega)).mono ?_
      rintro en wg4 ⟨v, rfl, ho, hb⟩
      obtain ⟨t28A, t28k, rfl⟩ := ho.form
      have HK4 := Lib.hid (HK3.out.trans (hb.mono HK3.out.size))
      have HO28 := Lib.hid ho
      have HP28 := Lib.hid hb
      clear ho hb
      refine ⟨_, rfl, Or.inl (HZf.out.below HK4.out), ?_⟩
      refine walkA_put (by omega) ?_
      intro b29 hz he hk hb29
      have hsz : 170 < b29.tmps.size := by rw [hz]; exact hsz
      replace e10 := (hk 10 (by decide)).trans e10
      replace e11 := (hk 11 (by decide)).trans e11
      replace e103 := (hk 103 (by decide)).trans e103
      replace e107 := (hk 107 (by decide)).trans e107
      clear e110
      have e111 := he
      clear hz hk he
      refine walkH_does _ rfl rfl ?_
      refine does_call (wanted_at (j := 20) (s := 103) (b := false) rfl (by kernel_rfl) e103) (run_call2 (by kernel_rfl) rfl e107 e111) ?_
      refine (row_any2 wg4 _ _ (takesL (⟨i.op, i.d, i.e, i.a, i.b, i.c, i.imm, l7⟩ : PMach)) (takesL (⟨i.op, i.d, i.e, i.a, i.b, i.c, i.imm, l7⟩ : PMach)) (OwnInts.ints (own_below HO24.out HP28.out)) (OwnInts.ints HO28.out)).mono ?_
      rintro en wg5 ⟨rfl, ng, hwg⟩
      rw [show decide ((takesL (⟨i.op, i.d, i.e, i.a, i.b, i.c, i.imm, l7⟩ : PMach)) = (takesL (⟨i.op, i.d, i.e, i.a, i.b, i.c, i.imm, l7⟩ : PMach))) = true from decide_eq_true rfl]
      have HK5 := Lib.hid (show Below wf.heap.size wf wg5 from by rw [hwg]; exact below_drewK HK4.out ng)
      clear hwg
      refine ⟨_, rfl, Or.inl (HZf.out.below HK5.out), ?_⟩
      refine walkA_put (by omega) ?_
      intro b30 hz he hk hb30
      have hsz : 170 < b30.tmps.size := by rw [hz]; exact hsz
      replace e10 := (hk 10 (by decide)).trans e10
      replace e11 := (hk 11 (by decide)).trans e11
      replace e103 := (hk 103 (by decide)).trans e103
      clear e107
      clear e111
      have e112 := he
      clear hz hk he
      refine walkA_still _ (.bool false) rfl rfl rfl (wanted_at (j := 20) (s := 103) (b := false) rfl (by kernel_rfl) e103) (fun w hS => run_not rfl e112) (by omega) ?_
      intro b31 hz he hk hb31
      have hsz : 170 < b31.tmps.size := by rw [hz]; exact hsz
      replace e10 := (hk 10 (by decide)).trans e10
      replace e11 := (hk 11 (by decide)).trans e11
      replace e103 := (hk 103 (by decide)).trans e103
      clear e112
      have e113 := he
      clear hz hk he
      refine walkA_still _ (.bool false) rfl rfl rfl rfl (fun w hS => run_pickF rfl e103 e113) (by omega) ?_
      intro b32 hz he hk hb32
      have hsz : 170 < b32.tmps.size := by rw [hz]; exact hsz
      replace e10 := (hk 10 (by decide)).trans e10
      replace e11 := (hk 11 (by decide)).trans e11
      clear e103
      clear e113
      have e114 := he
      clear hz hk he
      refine walkA_still _ (.bool false) rfl rfl rfl rfl (fun w hS => still_move _ _ _ _ w rfl e114) (by omega) ?_
      intro b33 hz he hk hb33
      have hsz : 170 < b33.tmps.size := by rw [hz]; exact hsz
      replace e10 := (hk 10 (by decide)).trans e10
      replace e11 := (hk 11 (by decide)).trans e11
      clear e114
      have e115 := he
      clear hz hk he
      refine walkA_still _ (.int .i64 0) rfl rfl rfl (wanted_at (j := 32) (s := 115) (b := false) rfl (by kernel_rfl) e115) (fun w hS => still_move _ _ _ _ w rfl e11) (by omega) ?_
      intro b34 hz he hk hb34
      have hsz : 170 < b34.tmps.size := by rw [hz]; exact hsz
      replace e10 := (hk 10 (by decide)).trans e10
      replace e11 := (hk 11 (by decide)).trans e11
      replace e115 := (hk 115 (by decide)).trans e115
      have e116 := he
      clear hz hk he
      refine walkA_still _ (.pointer (some ⟨gb, 0, none⟩)) rfl rfl rfl (wanted_at (j := 32) (s := 115) (b := false) rfl (by kernel_rfl) e115) (fun w hS => run_idxB rfl e10 e116 (Or.inl rfl)) (by omega) ?_
      intro b35 hz he hk hb35
      have hsz : 170 < b35.tmps.size := by rw [hz]; exact hsz
      replace e10 := (hk 10 (by decide)).trans e10
      replace e11 := (hk 11 (by decide)).trans e11
      replace e115 := (hk 115 (by decide)).trans e115
      clear e116
      have e117 := he
      clear hz hk he
      refine walkA_still _ (.agg #[.int .i64 i.op, .int .i64 i.d, .int .i64 i.e, .int .i64 i.a, .int .i64 i.b, .int .i64 i.c, .int .i32 i.imm, .slice fA l7.length fk]) rfl rfl rfl (wanted_at (j := 32) (s := 115) (b := false) rfl (by kernel_rfl) e115) (fun w hS => run_loadM (f := 0) rfl e117 (hS.cell 0) (hS.cell 1) (hS.cell 2) (hS.cell 3) (hS.cell 4) (hS.cell 5) (hS.cell 6) (hS.cell 7)) (by omega) ?_
      intro b36 hz he hk hb36
      have hsz : 170 < b36.tmps.size := by rw [hz]; exact hsz
      replace e10 := (hk 10 (by decide)).trans e10
      replace e11 := (hk 11 (by decide)).trans e11
      replace e115 := (hk 115 (by decide)).trans e115
      clear e117
      have e118 := he
      clear hz hk he
      refine walkA_still _ (.int .i64 0) rfl rfl rfl (wanted_at (j := 32) (s := 115) (b := false) rfl (by kernel_rfl) e115) (fun w hS => still_move _ _ _ _ w rfl e11) (by omega) ?_
      intro b37 hz he hk hb37
      have hsz : 170 < b37.tmps.size := by rw [hz]; exact hsz
      replace e10 := (hk 10 (by decide)).trans e10
      replace e115 := (hk 115 (by decide)).trans e115
      replace e118 := (hk 118 (by decide)).trans e118
      clear e11
      have e120 := he
      clear hz hk he
      refine walkA_still _ (.pointer (some ⟨gb, 0, none⟩)) rfl rfl rfl (wanted_at (j := 32) (s := 115) (b := false) rfl (by kernel_rfl) e115) (fun w hS => run_idxB rfl e10 e120 (Or.inl rfl)) (by omega) ?_
      intro b38 hz he hk hb38
      have hsz : 170 < b38.tmps.size := by rw [hz]; exact hsz
      replace e115 := (hk 115 (by decide)).trans e115
      replace e118 := (hk 118 (by decide)).trans e118
      clear e10
      clear e120
      have e121 := he
      clear hz hk he
      refine walkA_still _ (.agg #[.int .i64 i.op, .int .i64 i.d, .int .i64 i.e, .int .i64 i.a, .int .i64 i.b, .int .i64 i.c, .int .i32 i.imm, .slice fA l7.length fk]) rfl rfl rfl (wanted_at (j := 32) (s := 115) (b := false) rfl (by kernel_rfl) e115) (fun w hS => run_loadM (f := 0) rfl e121 (hS.cell 0) (hS.cell 1) (hS.cell 2) (hS.cell 3) (hS.cell 4) (hS.cell 5) (hS.cell 6) (hS.cell 7)) (by omega) ?_
      intro b39 hz he hk hb39
      have hsz : 170 < b39.tmps.size := by rw [hz]; exact hsz
      replace e115 := (hk 115 (by decide)).trans e115
      replace e118 := (hk 118 (by decide)).trans e118
      clear e121
      have e122 := he
      clear hz hk he
      refine walkH_does _ rfl rfl ?_
      refine does_call (wanted_at (j := 32) (s := 115) (b := false) rfl (by kernel_rfl) e115) (run_call1 (by kernel_rfl) rfl e118) ?_
      refine (makes_any wg5 (⟨i.op, i.d, i.e, i.a, i.b, i.c, i.imm, l7⟩ : PMach) fA l7.length fk).mono ?_
      rintro en wg6 ⟨v, rfl, ho, hb⟩
      obtain ⟨t36A, t36k, rfl⟩ := ho.form
      have HK6 := Lib.hid (HK5.out.trans (hb.mono HK5.out.size))
      have HO36 := Lib.hid ho
      have HP36 := Lib.hid hb
      clear ho hb
      refine ⟨_, rfl, Or.inl (HZf.out.below HK6.out), ?_⟩
      refine walkA_put (by omega) ?_
      intro b40 hz he hk hb40
      have hsz : 170 < b40.tmps.size := by rw [hz]; exact hsz
      replace e115 := (hk 115 (by decide)).trans e115
      replace e122 := (hk 122 (by decide)).trans e122
      clear e118
      have e119 := he
      clear hz hk he
      refine walkH_does _ rfl rfl ?_
      refine does_call (wanted_at (j := 32) (s := 115) (b := false) rfl (by kernel_rfl) e115) (run_call1 (by kernel_rfl) rfl e122) ?_
      refine (rmakes_any wg6 (⟨i.op, i.d, i.e, i.a, i.b, i.c, i.imm, l7⟩ : PMach) fA l7.length fk).mono ?_
      rintro en wg7 ⟨v, rfl, ho, hb⟩
      obtain ⟨t40A, t40k, rfl⟩ := ho.form
      have HK7 := Lib.hid (HK6.out.trans (hb.mono HK6.out.size))
      have HO40 := Lib.hid ho
      have HP40 := Lib.hid hb
      clear ho hb
      refine ⟨_, rfl, Or.inl (HZf.out.below HK7.out), ?_⟩
      refine walkA_put (by omega) ?_
      intro b41 hz he hk hb41
      have hsz : 170 < b41.tmps.size := by rw [hz]; exact hsz
      replace e115 := (hk 115 (by decide)).trans e115
      replace e119 := (hk 119 (by decide)).trans e119
      clear e122
      have e123 := he
      clear hz hk he
      refine walkH_does _ rfl rfl ?_
      refine does_call (wanted_at (j := 32) (s := 115) (b := false) rfl (by kernel_rfl) e115) (run_call2 (by kernel_rfl) rfl e119 e123) ?_
      refine (row_any2 wg7 _ _ (makesL (⟨i.op, i.d, i.e, i.a, i.b, i.c, i.imm, l7⟩ : PMach)) (makesL (⟨i.op, i.d, i.e, i.a, i.b, i.c, i.imm, l7⟩ : PMach)) (OwnInts.ints (own_below HO36.out HP40.out)) (OwnInts.ints HO40.out)).mono ?_
      rintro en wg8 ⟨rfl, ng, hwg⟩
      rw [show decide ((makesL (⟨i.op, i.d, i.e, i.a, i.b, i.c, i.imm, l7⟩ : PMach)) = (makesL (⟨i.op, i.d, i.e, i.a, i.b, i.c, i.imm, l7⟩ : PMach))) = true from decide_eq_true rfl]
      have HK8 := Lib.hid (show Below wf.heap.size wf wg8 from by rw [hwg]; exact below_drewK HK7.out ng)
      clear hwg
      refine ⟨_, rfl, Or.inl (HZf.out.below HK8.out), ?_⟩
      refine walkA_put (by omega) ?_
      intro b42 hz he hk hb42
      have hsz : 170 < b42.tmps.size := by rw [hz]; exact hsz
      replace e115 := (hk 115 (by decide)).trans e115
      clear e119
      clear e123
      have e124 := he
      clear hz hk he
      refine walkA_still _ (.bool false) rfl rfl rfl (wanted_at (j := 32) (s := 115) (b := false) rfl (by kernel_rfl) e115) (fun w hS => run_not rfl e124) (by omega) ?_
      intro b43 hz he hk hb43
      have hsz : 170 < b43.tmps.size := by rw [hz]; exact hsz
      replace e115 := (hk 115 (by decide)).trans e115
      clear e124
      have e125 := he
      clear hz hk he
      refine walkA_still _ (.bool false) rfl rfl rfl rfl (fun w hS => run_pickF rfl e115 e125) (by omega) ?_
      intro b44 hz he hk hb44
      have hsz : 170 < b44.tmps.size := by rw [hz]; exact hsz
      clear e115
      clear e125
      have e126 := he
      clear hz hk he
      refine walkH_nil ?_
      subst hb44
      subst hb43
      subst hb42
      subst hb41
      subst hb40
      subst hb39
      subst hb38
      subst hb37
      subst hb36
      subst hb35
      subst hb34
      subst hb33
      subst hb32
      subst hb31
      subst hb30
      subst hb29
      subst hb28
      subst hb27
      subst hb26
      subst hb25
      subst hb24
      subst hb23
      subst hb22
      subst hb21
      subst hb20
      subst hb19
      subst hb18
      subst hb17
      subst hb16
      subst hb15
      subst hb14
      subst hb13
      subst hb12
      subst hb11
      subst hb10
      subst hb9
      subst hb8
      subst hb7
      subst hb6
      subst hb5
      subst hb4
      subst hb3
      subst hb2
      subst hb1
      subst ha0
      simp only [Act.put, List.setIfInBounds_toArray, List.set_cons_zero, List.set_cons_succ]
      go_wp2
      exact ⟨⟨1, Or.inr (Or.inl rfl), by go_num, HBf.out.trans (HK8.out.mono HBf.out.size)⟩, by simp [intOf]⟩
    · have hlo := HL7b.out.below HBL.out
      have p0 := hlo.cell 0
      have p1 := hlo.cell 1
      clear hlo
      go_wp2_with fail
      refine (some_any wo _ ra (HR7.out.below HBL.out)).mono ?_
      rintro en wa ⟨av, rfl, ho, hb⟩
      obtain ⟨aA, an, ac, rfl⟩ := OwnWords.slice ho
      have HOa := Lib.hid ho
      have HBa := Lib.hid (HBL.out.trans (hb.mono HBL.out.size))
      have HZa := Lib.hid hb.size
      have HQa := Lib.hid hb
      clear ho hb p0 p1
      have hlo := HL7b.out.below HBa.out
      have p0 := hlo.cell 0
      have p1 := hlo.cell 1
      clear hlo
      go_wp2_with fail
      refine (some_any wa _ m (HM7.out.below HBa.out)).mono ?_
      rintro en wb ⟨bv, rfl, ho, hb⟩
      obtain ⟨bA, bn, bc, rfl⟩ := OwnWords.slice ho
      have HOb := Lib.hid ho
      have HBb := Lib.hid (HBa.out.trans (hb.mono HBa.out.size))
      have HZb := Lib.hid hb.size
      have HQb := Lib.hid hb
      have HOab := Lib.hid (OwnWords.below HOa.out hb)
      clear ho hb p0 p1
      have hlo := HL7b.out.below HBb.out
      have p0 := hlo.cell 0
      have p1 := hlo.cell 1
      clear hlo
      go_wp2_with fail
      refine (some_any wb _ ra (HR7.out.below HBb.out)).mono ?_
      rintro en wc ⟨cv, rfl, ho, hb⟩
      obtain ⟨cA, cn, cc, rfl⟩ := OwnWords.slice ho
      have HOc := Lib.hid ho
      have HBc := Lib.hid (HBb.out.trans (hb.mono HBb.out.size))
      have HZc := Lib.hid hb.size
      have HQc := Lib.hid hb
      have HOac := Lib.hid (OwnWords.below HOab.out hb)
      have HObc := Lib.hid (OwnWords.below HOb.out hb)
      clear ho hb p0 p1
      have hlo := HL7b.out.below HBc.out
      have p0 := hlo.cell 0
      have p1 := hlo.cell 1
      clear hlo
      go_wp2_with fail
      refine (some_any wc _ m (HM7.out.below HBc.out)).mono ?_
      rintro en wd ⟨dv, rfl, ho, hb⟩
      obtain ⟨dA, dn, dc, rfl⟩ := OwnWords.slice ho
      have HOd := Lib.hid ho
      have HBd := Lib.hid (HBc.out.trans (hb.mono HBc.out.size))
      have HZd := Lib.hid hb.size
      have HQd := Lib.hid hb
      have HOad := Lib.hid (OwnWords.below HOac.out hb)
      have HObd := Lib.hid (OwnWords.below HObc.out hb)
      have HOcd := Lib.hid (OwnWords.below HOc.out hb)
      clear ho hb p0 p1
      have hlo := HL7b.out.below HBd.out
      have p0 := hlo.cell 0
      have p1 := hlo.cell 1
      clear hlo
      clear p0 p1
      have HWo := Lib.hid (show wo.heap.size ≤ wa.heap.size ∧ wa.heap.size ≤ wb.heap.size ∧ wb.heap.size ≤ wc.heap.size ∧ wc.heap.size ≤ wd.heap.size from ⟨HZa.out, HZb.out, HZc.out, HZd.out⟩)
      have hab := own_apart HOa.out HOb.out (Nat.le_refl _)
      have hac := own_apart HOa.out HOc.out HZb.out
      have had := own_apart HOa.out HOd.out (Nat.le_trans HZb.out HZc.out)
      have hbc := own_apart HOb.out HOc.out (Nat.le_refl _)
      have hbd := own_apart HOb.out HOd.out HZc.out
      have hcd := own_apart HOc.out HOd.out (Nat.le_refl _)
      have HAB := Lib.hid hab
      have HAC := Lib.hid hac
      have HAD := Lib.hid had
      have HBC := Lib.hid hbc
      have HBD := Lib.hid hbd
      have HCD := Lib.hid hcd
      clear hab hac had hbc hbd hcd
      have HA1 := Lib.hid (show OwnWords wo.heap.size wd _ _ from HOad.out)
      have HB1' := Lib.hid (OwnWords.mono HObd.out HWo.out.1)
      have HC1 := Lib.hid (OwnWords.mono HOcd.out (Nat.le_trans HWo.out.1 HWo.out.2.1))
      have HD1 := Lib.hid (OwnWords.mono HOd.out (Nat.le_trans HWo.out.1 (Nat.le_trans HWo.out.2.1 HWo.out.2.2.1)))
      have HFA := Lib.hid (fun g (hg : g < wo.heap.size) => show some g ≠ (Value.slice aA an ac).ownBlock ∧ some g ≠ (Value.slice bA bn bc).ownBlock from ⟨fun e => by have := (OwnWords.where_ HA1.out e.symm).1; omega, fun e => by have := (OwnWords.where_ HB1'.out e.symm).1; omega⟩)
      have HFC := Lib.hid (fun g (hg : g < wo.heap.size) => show some g ≠ (Value.slice cA cn cc).ownBlock ∧ some g ≠ (Value.slice dA dn dc).ownBlock from ⟨fun e => by have := (OwnWords.where_ HC1.out e.symm).1; omega, fun e => by have := (OwnWords.where_ HD1.out e.symm).1; omega⟩)
      have hzd := HZ7.out.below HBd.out
      have c0 := hzd.cell 8
      have c1 := hzd.cell 9
      have c2 := hzd.cell 10
      have c3 := hzd.cell 11
      have c4 := hzd.cell 12
      have c5 := hzd.cell 13
      have c6 := hzd.cell 14
      have c7 := hzd.cell 15
      clear hzd
      have HGP := Lib.hid (fun r => inW_getP (fun x hx => HRA.out x (List.mem_of_mem_take hx)) r : ∀ r, InW (getP (ra.take 20) r))
      have HML := Lib.hid (show (m.take 20).length ≤ 1000000 by rw [List.length_take]; omega)
      go_wp2_with fail
      refine (mdo_any wd (⟨i.op, i.d % 16, i.e % 16, i.a % 16, i.b % 16, i.c % 16, i.imm, l7⟩ : PMach) gA l7.length gk _ _ wo.heap.size (ra.take 20) (m.take 20) HA1.out HB1'.out HML.out HAB.out ⟨in16 _, in16 _, in16 _, in16 _, in16 _⟩ HIW.out HGP.out).mono ?_
      rintro en we ⟨rfl, hoa, hob, htw⟩
      have HC2 := Lib.hid (OwnWords.two HC1.out htw (apart_symm HAC.out) (apart_symm HBC.out))
      have HD2 := Lib.hid (OwnWords.two HD1.out htw (apart_symm HAD.out) (apart_symm HBD.out))
      have hwe : wo.heap.size ≤ wd.heap.size := by have := HWo.out; omega
      have hbe := below_two htw hwe HFA.out
      have HBWD := Lib.hid (show Below wo.heap.size wo wd from (Below.trans (Below.trans (Below.trans HQa.out (HQb.out.mono HZa.out)) (HQc.out.mono (Nat.le_trans HZa.out HZb.out))) (HQd.out.mono (Nat.le_trans HZa.out (Nat.le_trans HZb.out HZc.out)))))
      have HBe := Lib.hid (HBL.out.trans ((HBWD.out.trans hbe).mono HBL.out.size))
      have HSe := Lib.hid (show wo.heap.size ≤ we.heap.size from Nat.le_trans hwe htw.size)
      have HA2 := Lib.hid hoa
      have HB2' := Lib.hid hob
      have HBWE := Lib.hid (HBWD.out.trans hbe)
      clear hoa hob htw hbe hwe c0 c1 c2 c3 c4 c5 c6 c7
      obtain ⟨f, hf⟩ : ∃ f, fxM (⟨i.op, i.d % 16, i.e % 16, i.a % 16, i.b % 16, i.c % 16, i.imm, l7⟩ : PMach) (ra.take 20) (m.take 20) = f := ⟨_, rfl⟩
      obtain ⟨l2, hl2⟩ : ∃ l2, regsM (⟨i.op, i.d % 16, i.e % 16, i.a % 16, i.b % 16, i.c % 16, i.imm, l7⟩ : PMach) (ra.take 20) (m.take 20) = l2 := ⟨_, rfl⟩
      rw [hf] at HB2'
      rw [hl2] at HA2
      rw [hf]
      have HFF := Lib.hid hf
      have HL2 := Lib.hid hl2
      clear hf hl2
      have hze := HZ7.out.below HBe.out
      have c0 := hze.cell 8
      have c1 := hze.cell 9
      have c2 := hze.cell 10
      have c3 := hze.cell 11
      have c4 := hze.cell 12
      have c5 := hze.cell 13
      have c6 := hze.cell 14
      have c7 := hze.cell 15
      clear hze
      go_wp2_with fail
      refine (rdoM_any we (⟨i.op, i.d % 16, i.e % 16, i.a % 16, i.b % 16, i.c % 16, i.imm, l7⟩ : PMach) gA l7.length gk _ _ wo.heap.size (ra.take 20) (m.take 20) HC2.out HD2.out HML.out HCD.out ⟨in16 _, in16 _, in16 _, in16 _, in16 _⟩ HIW.out HGP.out).mono ?_
      rw [HFF.out, HL2.out]
      rintro en wf ⟨rfl, hoc, hod, htw⟩
      have HA3 := Lib.hid (OwnWords.two HA2.out htw HAC.out HAD.out)
      have HB3' := Lib.hid (OwnWords.two HB2'.out htw HBC.out HBD.out)
      have hbe := below_two htw HSe.out HFC.out
      have HBWF := Lib.hid (HBWE.out.trans hbe)
      have HBf := Lib.hid (HBL.out.trans (HBWF.out.mono HBL.out.size))
      have HC3 := Lib.hid hoc
      have HD3 := Lib.hid hod
      clear hoc hod htw hbe c0 c1 c2 c3 c4 c5 c6 c7
      have HZf := Lib.hid (HZ7.out.below HBf.out)
      have HIx := Lib.hid (HG7.out.keep HBf.out)
      go_upto_region 19 with (fail)
      have hdr : Below wf.heap.size wf wf.drew := (Below.refl _ _).drew
      have HK0 := Lib.hid hdr
      clear hdr
      refine region_abs _ (fun a0 ha0 => ?_)
      have e10 : a0.eval (.tmp 10) = .pointer (some ⟨gb, 0, none⟩) := by rw [ha0]; rfl
      have e11 : a0.eval (.tmp 11) = .int .i64 1 := by rw [ha0]; rfl
      have e12 : a0.eval (.tmp 12) = .slice aA an ac := by rw [ha0]; rfl
      have e13 : a0.eval (.tmp 13) = .slice bA bn bc := by rw [ha0]; rfl
      have e14 : a0.eval (.tmp 14) = .slice cA cn cc := by rw [ha0]; rfl
      have e15 : a0.eval (.tmp 15) = .slice dA dn dc := by rw [ha0]; rfl
      have e16 : a0.eval (.tmp 16) = .int .i32 f.trap := by rw [ha0]; rfl
      have e17 : a0.eval (.tmp 17) = .bool (f.trap == 0) := by rw [ha0]; rfl
      have e18 : a0.eval (.tmp 18) = .int .i32 f.trap := by rw [ha0]; rfl
      have e19 : a0.eval (.tmp 19) = .bool (f.trap == 0) := by rw [ha0]; rfl
      have hsz : 170 < a0.tmps.size := by rw [ha0]; exact of_decide_eq_true rfl
      refine region_held_wp (fun w' => Str w' gb 45 [.int .i64 i.op, .int .i64 i.d, .int .i64 i.e, .int .i64 i.a, .int .i64 i.b, .int .i64 i.c, .int .i32 i.imm, .slice fA l7.length fk, .int .i64 i.op, .int .i64 (i.d % 16), .int .i64 (i.e % 16), .int .i64 (i.a % 16), .int .i64 (i.b % 16), .int .i64 (i.c % 16), .int .i32 i.imm, .slice gA l7.length gk]) [0, 1, 2, 3, 4, 5, 6, 7, 8, 9, 10, 12, 13, 14, 15, 16, 18, 19, 20, 21, 22, 23, 25, 26, 27, 30, 31, 32, 33, 34, 35, 37, 38, 39, 42, 43] [0, 1, 2, 3, 4, 5, 6, 7, 8, 9, 10, 11, 12, 13, 14, 15, 16, 17, 18, 19, 20, 21, 22, 23, 25, 26, 27, 24, 28, 29, 30, 31, 32, 33, 34, 35, 37, 38, 39, 36, 40, 41, 42, 43] (by kernel_rfl) (by kernel_rfl) (by kernel_rfl) rfl (by intro c a d v w h; cases d <;> exact h) HZf.out ?_
      refine walkA_still _ (.int .i32 f.trap) rfl rfl rfl rfl (fun w hS => still_move _ _ _ _ w rfl e16) (by omega) ?_
      intro b1 hz he hk hb1
      have hsz : 170 < b1.tmps.size := by rw [hz]; exact hsz
      replace e10 := (hk 10 (by decide)).trans e10
      replace e11 := (hk 11 (by decide)).trans e11
      replace e12 := (hk 12 (by decide)).trans e12
      replace e13 := (hk 13 (by decide)).trans e13
      replace e14 := (hk 14 (by decide)).trans e14
      replace e15 := (hk 15 (by decide)).trans e15
      replace e17 := (hk 17 (by decide)).trans e17
      replace e18 := (hk 18 (by decide)).trans e18
      replace e19 := (hk 19 (by decide)).trans e19
      clear e16
      have e83 := he
      clear hz hk he
      refine walkA_still _ (.int .i32 f.trap) rfl rfl rfl rfl (fun w hS => still_move _ _ _ _ w rfl e18) (by omega) ?_
      intro b2 hz he hk hb2
      have hsz : 170 < b2.tmps.size := by rw [hz]; exact hsz
      replace e10 := (hk 10 (by decide)).trans e10
      replace e11 := (hk 11 (by decide)).trans e11
      replace e12 := (hk 12 (by decide)).trans e12
      replace e13 := (hk 13 (by decide)).trans e13
      replace e14 := (hk 14 (by decide)).trans e14
      replace e15 := (hk 15 (by decide)).trans e15
      replace e17 := (hk 17 (by decide)).trans e17
      replace e19 := (hk 19 (by decide)).trans e19
      replace e83 := (hk 83 (by decide)).trans e83
      clear e18
      have e84 := he
      clear hz hk he
      refine walkA_still _ (.bool false) rfl rfl rfl rfl (fun w hS => run_neqI rfl e83 e84) (by omega) ?_
      intro b3 hz he hk hb3
      have hsz : 170 < b3.tmps.size := by rw [hz]; exact hsz
      replace e10 := (hk 10 (by decide)).trans e10
      replace e11 := (hk 11 (by decide)).trans e11
      replace e12 := (hk 12 (by decide)).trans e12
      replace e13 := (hk 13 (by decide)).trans e13
      replace e14 := (hk 14 (by decide)).trans e14
      replace e15 := (hk 15 (by decide)).trans e15
      replace e17 := (hk 17 (by decide)).trans e17
      replace e19 := (hk 19 (by decide)).trans e19
      clear e83
      clear e84
      have e85 := he
      clear hz hk he
      refine walkA_still _ (.bool false) rfl rfl rfl rfl (fun w hS => still_move _ _ _ _ w rfl e85) (by omega) ?_
      intro b4 hz he hk hb4
      have hsz : 170 < b4.tmps.size := by rw [hz]; exact hsz
      replace e10 := (hk 10 (by decide)).trans e10
      replace e11 := (hk 11 (by decide)).trans e11
      replace e12 := (hk 12 (by decide)).trans e12
      replace e13 := (hk 13 (by decide)).trans e13
      replace e14 := (hk 14 (by decide)).trans e14
      replace e15 := (hk 15 (by decide)).trans e15
      replace e17 := (hk 17 (by decide)).trans e17
      replace e19 := (hk 19 (by decide)).trans e19
      clear e85
      have e86 := he
      clear hz hk he
      refine walkA_still _ (.bool (f.trap == 0)) rfl rfl rfl (wanted_at (j := 3) (s := 86) (b := false) rfl (by kernel_rfl) e86) (fun w hS => still_move _ _ _ _ w rfl e17) (by omega) ?_
      intro b5 hz he hk hb5
      have hsz : 170 < b5.tmps.size := by rw [hz]; exact hsz
      replace e10 := (hk 10 (by decide)).trans e10
      replace e11 := (hk 11 (by decide)).trans e11
      replace e12 := (hk 12 (by decide)).trans e12
      replace e13 := (hk 13 (by decide)).trans e13
      replace e14 := (hk 14 (by decide)).trans e14
      replace e15 := (hk 15 (by decide)).trans e15
      replace e19 := (hk 19 (by decide)).trans e19
      replace e86 := (hk 86 (by decide)).trans e86
      clear e17
      have e87 := he
      clear hz hk he
      refine walkA_still _ (.bool (f.trap == 0)) rfl rfl rfl (wanted_at (j := 3) (s := 86) (b := false) rfl (by kernel_rfl) e86) (fun w hS => still_move _ _ _ _ w rfl e19) (by omega) ?_
      intro b6 hz he hk hb6
      have hsz : 170 < b6.tmps.size := by rw [hz]; exact hsz
      replace e10 := (hk 10 (by decide)).trans e10
      replace e11 := (hk 11 (by decide)).trans e11
      replace e12 := (hk 12 (by decide)).trans e12
      replace e13 := (hk 13 (by decide)).trans e13
      replace e14 := (hk 14 (by decide)).trans e14
      replace e15 := (hk 15 (by decide)).trans e15
      replace e86 := (hk 86 (by decide)).trans e86
      replace e87 := (hk 87 (by decide)).trans e87
      clear e19
      have e88 := he
      clear hz hk he
      refine walkA_still _ (.bool false) rfl rfl rfl (wanted_at (j := 3) (s := 86) (b := false) rfl (by kernel_rfl) e86) (fun w hS => run_neqB rfl e87 e88) (by omega) ?_
      intro b7 hz he hk hb7
      have hsz : 170 < b7.tmps.size := by rw [hz]; exact hsz
      replace e10 := (hk 10 (by decide)).trans e10
      replace e11 := (hk 11 (by decide)).trans e11
      replace e12 := (hk 12 (by decide)).trans e12
      replace e13 := (hk 13 (by decide)).trans e13
      replace e14 := (hk 14 (by decide)).trans e14
      replace e15 := (hk 15 (by decide)).trans e15
      replace e86 := (hk 86 (by decide)).trans e86
      clear e87
      clear e88
      have e89 := he
      clear hz hk he
      refine walkA_still _ (.bool false) rfl rfl rfl rfl (fun w hS => run_pickF rfl e86 e89) (by omega) ?_
      intro b8 hz he hk hb8
      have hsz : 170 < b8.tmps.size := by rw [hz]; exact hsz
      replace e10 := (hk 10 (by decide)).trans e10
      replace e11 := (hk 11 (by decide)).trans e11
      replace e12 := (hk 12 (by decide)).trans e12
      replace e13 := (hk 13 (by decide)).trans e13
      replace e14 := (hk 14 (by decide)).trans e14
      replace e15 := (hk 15 (by decide)).trans e15
      clear e86
      clear e89
      have e90 := he
      clear hz hk he
      refine walkA_still _ (.bool false) rfl rfl rfl rfl (fun w hS => still_move _ _ _ _ w rfl e90) (by omega) ?_
      intro b9 hz he hk hb9
      have hsz : 170 < b9.tmps.size := by rw [hz]; exact hsz
      replace e10 := (hk 10 (by decide)).trans e10
      replace e11 := (hk 11 (by decide)).trans e11
      replace e12 := (hk 12 (by decide)).trans e12
      replace e13 := (hk 13 (by decide)).trans e13
      replace e14 := (hk 14 (by decide)).trans e14
      replace e15 := (hk 15 (by decide)).trans e15
      clear e90
      have e91 := he
      clear hz hk he
      refine walkA_still _ (.slice aA an ac) rfl rfl rfl (wanted_at (j := 8) (s := 91) (b := false) rfl (by kernel_rfl) e91) (fun w hS => still_move _ _ _ _ w rfl e12) (by omega) ?_
      intro b10 hz he hk hb10
      have hsz : 170 < b10.tmps.size := by rw [hz]; exact hsz
      replace e10 := (hk 10 (by decide)).trans e10
      replace e11 := (hk 11 (by decide)).trans e11
      replace e13 := (hk 13 (by decide)).trans e13
      replace e14 := (hk 14 (by decide)).trans e14
      replace e15 := (hk 15 (by decide)).trans e15
      replace e91 := (hk 91 (by decide)).trans e91
      clear e12
      have e92 := he
      clear hz hk he
      refine walkA_still _ (.slice cA cn cc) rfl rfl rfl (wanted_at (j := 8) (s := 91) (b := false) rfl (by kernel_rfl) e91) (fun w hS => still_move _ _ _ _ w rfl e14) (by omega) ?_
      intro b11 hz he hk hb11
      have hsz : 170 < b11.tmps.size := by rw [hz]; exact hsz
      replace e10 := (hk 10 (by decide)).trans e10
      replace e11 := (hk 11 (by decide)).trans e11
      replace e13 := (hk 13 (by decide)).trans e13
      replace e15 := (hk 15 (by decide)).trans e15
      replace e91 := (hk 91 (by decide)).trans e91
      replace e92 := (hk 92 (by decide)).trans e92
      clear e14
      have e93 := he
      clear hz hk he
      refine walkH_does _ rfl rfl ?_
      refine does_call (wanted_at (j := 8) (s := 91) (b := false) rfl (by kernel_rfl) e91) (run_call2 (by kernel_rfl) rfl e92 e93) ?_
      refine (words_any wf.drew _ _ l2 l2 (words_of_own (OwnWords.below HA3.out HK0.out)) (words_of_own (OwnWords.below HC3.out HK0.out))).mono ?_
      rintro en wg1 ⟨rfl, ng, hwg⟩
      rw [show decide (l2 = l2) = true from decide_eq_true rfl]
      have HK1 := Lib.hid (show Below wf.heap.size wf wg1 from by rw [hwg]; exact below_drewK HK0.out ng)
      clear hwg
      refine ⟨_, rfl, Or.inl (HZf.out.below HK1.out), ?_⟩
      refine walkA_put (by omega) ?_
      intro b12 hz he hk hb12
      have hsz : 170 < b12.tmps.size := by rw [hz]; exact hsz
      replace e10 := (hk 10 (by decide)).trans e10
      replace e11 := (hk 11 (by decide)).trans e11
      replace e13 := (hk 13 (by decide)).trans e13
      replace e15 := (hk 15 (by decide)).trans e15
      replace e91 := (hk 91 (by decide)).trans e91
      clear e92
      clear e93
      have e94 := he
      clear hz hk he
      refine walkA_still _ (.bool false) rfl rfl rfl (wanted_at (j := 8) (s := 91) (b := false) rfl (by kernel_rfl) e91) (fun w hS => run_not rfl e94) (by omega) ?_
      intro b13 hz he hk hb13
      have hsz : 170 < b13.tmps.size := by rw [hz]; exact hsz
      replace e10 := (hk 10 (by decide)).trans e10
      replace e11 := (hk 11 (by decide)).trans e11
      replace e13 := (hk 13 (by decide)).trans e13
      replace e15 := (hk 15 (by decide)).trans e15
      replace e91 := (hk 91 (by decide)).trans e91
      clear e94
      have e95 := he
      clear hz hk he
      refine walkA_still _ (.bool false) rfl rfl rfl rfl (fun w hS => run_pickF rfl e91 e95) (by omega) ?_
      intro b14 hz he hk hb14
      have hsz : 170 < b14.tmps.size := by rw [hz]; exact hsz
      replace e10 := (hk 10 (by decide)).trans e10
      replace e11 := (hk 11 (by decide)).trans e11
      replace e13 := (hk 13 (by decide)).trans e13
      replace e15 := (hk 15 (by decide)).trans e15
      clear e91
      clear e95
      have e96 := he
      clear hz hk he
      refine walkA_still _ (.bool false) rfl rfl rfl rfl (fun w hS => still_move _ _ _ _ w rfl e96) (by omega) ?_
      intro b15 hz he hk hb15
      have hsz : 170 < b15.tmps.size := by rw [hz]; exact hsz
      replace e10 := (hk 10 (by decide)).trans e10
      replace e11 := (hk 11 (by decide)).trans e11
      replace e13 := (hk 13 (by decide)).trans e13
      replace e15 := (hk 15 (by decide)).trans e15
      clear e96
      have e97 := he
      clear hz hk he
      refine walkA_still _ (.slice bA bn bc) rfl rfl rfl (wanted_at (j := 14) (s := 97) (b := false) rfl (by kernel_rfl) e97) (fun w hS => still_move _ _ _ _ w rfl e13) (by omega) ?_
      intro b16 hz he hk hb16
      have hsz : 170 < b16.tmps.size := by rw [hz]; exact hsz
      replace e10 := (hk 10 (by decide)).trans e10
      replace e11 := (hk 11 (by decide)).trans e11
      replace e15 := (hk 15 (by decide)).trans e15
      replace e97 := (hk 97 (by decide)).trans e97
      clear e13
      have e98 := he
      clear hz hk he
      refine walkA_still _ (.slice dA dn dc) rfl rfl rfl (wanted_at (j := 14) (s := 97) (b := false) rfl (by kernel_rfl) e97) (fun w hS => still_move _ _ _ _ w rfl e15) (by omega) ?_
      intro b17 hz he hk hb17
      have hsz : 170 < b17.tmps.size := by rw [hz]; exact hsz
      replace e10 := (hk 10 (by decide)).trans e10
      replace e11 := (hk 11 (by decide)).trans e11
      replace e97 := (hk 97 (by decide)).trans e97
      replace e98 := (hk 98 (by decide)).trans e98
      clear e15
      have e99 := he
      clear hz hk he
      refine walkH_does _ rfl rfl ?_
      refine does_call (wanted_at (j := 14) (s := 97) (b := false) rfl (by kernel_rfl) e97) (run_call2 (by kernel_rfl) rfl e98 e99) ?_
      refine (words_any wg1 _ _ f.mem f.mem (words_of_own (OwnWords.below HB3'.out HK1.out)) (words_of_own (OwnWords.below HD3.out HK1.out))).mono ?_
      rintro en wg2 ⟨rfl, ng, hwg⟩
      rw [show decide (f.mem = f.mem) = true from decide_eq_true rfl]
      have HK2 := Lib.hid (show Below wf.heap.size wf wg2 from by rw [hwg]; exact below_drewK HK1.out ng)
      clear hwg
      refine ⟨_, rfl, Or.inl (HZf.out.below HK2.out), ?_⟩
      refine walkA_put (by omega) ?_
      intro b18 hz he hk hb18
      have hsz : 170 < b18.tmps.size := by rw [hz]; exact hsz
      replace e10 := (hk 10 (by decide)).trans e10
      replace e11 := (hk 11 (by decide)).trans e11
      replace e97 := (hk 97 (by decide)).trans e97
      clear e98
      clear e99
      have e100 := he
      clear hz hk he
      refine walkA_still _ (.bool false) rfl rfl rfl (wanted_at (j := 14) (s := 97) (b := false) rfl (by kernel_rfl) e97) (fun w hS => run_not rfl e100) (by omega) ?_
      intro b19 hz he hk hb19
      have hsz : 170 < b19.tmps.size := by rw [hz]; exact hsz
      replace e10 := (hk 10 (by decide)).trans e10
      replace e11 := (hk 11 (by decide)).trans e11
      replace e97 := (hk 97 (by decide)).trans e97
      clear e100
      have e101 := he
      clear hz hk he
      refine walkA_still _ (.bool false) rfl rfl rfl rfl (fun w hS => run_pickF rfl e97 e101) (by omega) ?_
      intro b20 hz he hk hb20
      have hsz : 170 < b20.tmps.size := by rw [hz]; exact hsz
      replace e10 := (hk 10 (by decide)).trans e10
      replace e11 := (hk 11 (by decide)).trans e11
      clear e97
      clear e101
      have e102 := he
      clear hz hk he
      refine walkA_still _ (.bool false) rfl rfl rfl rfl (fun w hS => still_move _ _ _ _ w rfl e102) (by omega) ?_
      intro b21 hz he hk hb21
      have hsz : 170 < b21.tmps.size := by rw [hz]; exact hsz
      replace e10 := (hk 10 (by decide)).trans e10
      replace e11 := (hk 11 (by decide)).trans e11
      clear e102
      have e103 := he
      clear hz hk he
      refine walkA_still _ (.int .i64 1) rfl rfl rfl (wanted_at (j := 20) (s := 103) (b := false) rfl (by kernel_rfl) e103) (fun w hS => still_move _ _ _ _ w rfl e11) (by omega) ?_
      intro b22 hz he hk hb22
      have hsz : 170 < b22.tmps.size := by rw [hz]; exact hsz
      replace e10 := (hk 10 (by decide)).trans e10
      replace e11 := (hk 11 (by decide)).trans e11
      replace e103 := (hk 103 (by decide)).trans e103
      have e104 := he
      clear hz hk he
      refine walkA_still _ (.pointer (some ⟨gb, 8, none⟩)) rfl rfl rfl (wanted_at (j := 20) (s := 103) (b := false) rfl (by kernel_rfl) e103) (fun w hS => run_idxB rfl e10 e104 (Or.inr rfl)) (by omega) ?_
      intro b23 hz he hk hb23
      have hsz : 170 < b23.tmps.size := by rw [hz]; exact hsz
      replace e10 := (hk 10 (by decide)).trans e10
      replace e11 := (hk 11 (by decide)).trans e11
      replace e103 := (hk 103 (by decide)).trans e103
      clear e104
      have e105 := he
      clear hz hk he
      refine walkA_still _ (.agg #[.int .i64 i.op, .int .i64 (i.d % 16), .int .i64 (i.e % 16), .int .i64 (i.a % 16), .int .i64 (i.b % 16), .int .i64 (i.c % 16), .int .i32 i.imm, .slice gA l7.length gk]) rfl rfl rfl (wanted_at (j := 20) (s := 103) (b := false) rfl (by kernel_rfl) e103) (fun w hS => run_loadM (f := 8) rfl e105 (hS.cell 8) (hS.cell 9) (hS.cell 10) (hS.cell 11) (hS.cell 12) (hS.cell 13) (hS.cell 14) (hS.cell 15)) (by omega) ?_
      intro b24 hz he hk hb24
      have hsz : 170 < b24.tmps.size := by rw [hz]; exact hsz
      replace e10 := (hk 10 (by decide)).trans e10
      replace e11 := (hk 11 (by decide)).trans e11
      replace e103 := (hk 103 (by decide)).trans e103
      clear e105
      have e106 := he
      clear hz hk he
      refine walkA_still _ (.int .i64 1) rfl rfl rfl (wanted_at (j := 20) (s := 103) (b := false) rfl (by kernel_rfl) e103) (fun w hS => still_move _ _ _ _ w rfl e11) (by omega) ?_
      intro b25 hz he hk hb25
      have hsz : 170 < b25.tmps.size := by rw [hz]; exact hsz
      replace e10 := (hk 10 (by decide)).trans e10
      replace e11 := (hk 11 (by decide)).trans e11
      replace e103 := (hk 103 (by decide)).trans e103
      replace e106 := (hk 106 (by decide)).trans e106
      have e108 := he
      clear hz hk he
      refine walkA_still _ (.pointer (some ⟨gb, 8, none⟩)) rfl rfl rfl (wanted_at (j := 20) (s := 103) (b := false) rfl (by kernel_rfl) e103) (fun w hS => run_idxB rfl e10 e108 (Or.inr rfl)) (by omega) ?_
      intro b26 hz he hk hb26
      have hsz : 170 < b26.tmps.size := by rw [hz]; exact hsz
      replace e10 := (hk 10 (by decide)).trans e10
      replace e11 := (hk 11 (by decide)).trans e11
      replace e103 := (hk 103 (by decide)).trans e103
      replace e106 := (hk 106 (by decide)).trans e106
      clear e108
      have e109 := he
      clear hz hk he
      refine walkA_still _ (.agg #[.int .i64 i.op, .int .i64 (i.d % 16), .int .i64 (i.e % 16), .int .i64 (i.a % 16), .int .i64 (i.b % 16), .int .i64 (i.c % 16), .int .i32 i.imm, .slice gA l7.length gk]) rfl rfl rfl (wanted_at (j := 20) (s := 103) (b := false) rfl (by kernel_rfl) e103) (fun w hS => run_loadM (f := 8) rfl e109 (hS.cell 8) (hS.cell 9) (hS.cell 10) (hS.cell 11) (hS.cell 12) (hS.cell 13) (hS.cell 14) (hS.cell 15)) (by omega) ?_
      intro b27 hz he hk hb27
      have hsz : 170 < b27.tmps.size := by rw [hz]; exact hsz
      replace e10 := (hk 10 (by decide)).trans e10
      replace e11 := (hk 11 (by decide)).trans e11
      replace e103 := (hk 103 (by decide)).trans e103
      replace e106 := (hk 106 (by decide)).trans e106
      clear e109
      have e110 := he
      clear hz hk he
      refine walkH_does _ rfl rfl ?_
      refine does_call (wanted_at (j := 20) (s := 103) (b := false) rfl (by kernel_rfl) e103) (run_call1 (by kernel_rfl) rfl e106) ?_
      refine (takes_any wg2 (⟨i.op, i.d % 16, i.e % 16, i.a % 16, i.b % 16, i.c % 16, i.imm, l7⟩ : PMach) gA l7.length gk (HIx.out.keep HK2.out) (by show l7.length ≤ _; omega)).mono ?_
      rintro en wg3 ⟨v, rfl, ho, hb⟩
      obtain ⟨t24A, t24k, rfl⟩ := ho.form
      have HK3 := Lib.hid (HK2.out.trans (hb.mono HK2.out.size))
      have HO24 := Lib.hid ho
      have HP24 := Lib.hid hb
      clear ho hb
      refine ⟨_, rfl, Or.inl (HZf.out.below HK3.out), ?_⟩
      refine walkA_put (by omega) ?_
      intro b28 hz he hk hb28
      have hsz : 170 < b28.tmps.size := by rw [hz]; exact hsz
      replace e10 := (hk 10 (by decide)).trans e10
      replace e11 := (hk 11 (by decide)).trans e11
      replace e103 := (hk 103 (by decide)).trans e103
      replace e110 := (hk 110 (by decide)).trans e110
      clear e106
      have e107 := he
      clear hz hk he
      refine walkH_does _ rfl rfl ?_
      refine does_call (wanted_at (j := 20) (s := 103) (b := false) rfl (by kernel_rfl) e103) (run_call1 (by kernel_rfl) rfl e110) ?_
      refine (rtakes_any wg3 (⟨i.op, i.d % 16, i.e % 16, i.a % 16, i.b % 16, i.c % 16, i.imm, l7⟩ : PMach) gA l7.length gk (HIx.out.keep HK3.out) (by show l7.length ≤ _; omega)).mono ?_
      rintro en wg4 ⟨v, rfl, ho, hb⟩
      obtain ⟨t28A, t28k, rfl⟩ := ho.form
      have HK4 := Lib.hid (HK3.out.trans (hb.mono HK3.out.size))
      have HO28 := Lib.hid ho
      have HP28 := Lib.hid hb
      clear ho hb
      refine ⟨_, rfl, Or.inl (HZf.out.below HK4.out), ?_⟩
      refine walkA_put (by omega) ?_
      intro b29 hz he hk hb29
      have hsz : 170 < b29.tmps.size := by rw [hz]; exact hsz
      replace e10 := (hk 10 (by decide)).trans e10
      replace e11 := (hk 11 (by decide)).trans e11
      replace e103 := (hk 103 (by decide)).trans e103
      replace e107 := (hk 107 (by decide)).trans e107
      clear e110
      have e111 := he
      clear hz hk he
      refine walkH_does _ rfl rfl ?_
      refine does_call (wanted_at (j := 20) (s := 103) (b := false) rfl (by kernel_rfl) e103) (run_call2 (by kernel_rfl) rfl e107 e111) ?_
      refine (row_any2 wg4 _ _ (takesL (⟨i.op, i.d % 16, i.e % 16, i.a % 16, i.b % 16, i.c % 16, i.imm, l7⟩ : PMach)) (takesL (⟨i.op, i.d % 16, i.e % 16, i.a % 16, i.b % 16, i.c % 16, i.imm, l7⟩ : PMach)) (OwnInts.ints (own_below HO24.out HP28.out)) (OwnInts.ints HO28.out)).mono ?_
      rintro en wg5 ⟨rfl, ng, hwg⟩
      rw [show decide ((takesL (⟨i.op, i.d % 16, i.e % 16, i.a % 16, i.b % 16, i.c % 16, i.imm, l7⟩ : PMach)) = (takesL (⟨i.op, i.d % 16, i.e % 16, i.a % 16, i.b % 16, i.c % 16, i.imm, l7⟩ : PMach))) = true from decide_eq_true rfl]
      have HK5 := Lib.hid (show Below wf.heap.size wf wg5 from by rw [hwg]; exact below_drewK HK4.out ng)
      clear hwg
      refine ⟨_, rfl, Or.inl (HZf.out.below HK5.out), ?_⟩
      refine walkA_put (by omega) ?_
      intro b30 hz he hk hb30
      have hsz : 170 < b30.tmps.size := by rw [hz]; exact hsz
      replace e10 := (hk 10 (by decide)).trans e10
      replace e11 := (hk 11 (by decide)).trans e11
      replace e103 := (hk 103 (by decide)).trans e103
      clear e107
      clear e111
      have e112 := he
      clear hz hk he
      refine walkA_still _ (.bool false) rfl rfl rfl (wanted_at (j := 20) (s := 103) (b := false) rfl (by kernel_rfl) e103) (fun w hS => run_not rfl e112) (by omega) ?_
      intro b31 hz he hk hb31
      have hsz : 170 < b31.tmps.size := by rw [hz]; exact hsz
      replace e10 := (hk 10 (by decide)).trans e10
      replace e11 := (hk 11 (by decide)).trans e11
      replace e103 := (hk 103 (by decide)).trans e103
      clear e112
      have e113 := he
      clear hz hk he
      refine walkA_still _ (.bool false) rfl rfl rfl rfl (fun w hS => run_pickF rfl e103 e113) (by omega) ?_
      intro b32 hz he hk hb32
      have hsz : 170 < b32.tmps.size := by rw [hz]; exact hsz
      replace e10 := (hk 10 (by decide)).trans e10
      replace e11 := (hk 11 (by decide)).trans e11
      clear e103
      clear e113
      have e114 := he
      clear hz hk he
      refine walkA_still _ (.bool false) rfl rfl rfl rfl (fun w hS => still_move _ _ _ _ w rfl e114) (by omega) ?_
      intro b33 hz he hk hb33
      have hsz : 170 < b33.tmps.size := by rw [hz]; exact hsz
      replace e10 := (hk 10 (by decide)).trans e10
      replace e11 := (hk 11 (by decide)).trans e11
      clear e114
      have e115 := he
      clear hz hk he
      refine walkA_still _ (.int .i64 1) rfl rfl rfl (wanted_at (j := 32) (s := 115) (b := false) rfl (by kernel_rfl) e115) (fun w hS => still_move _ _ _ _ w rfl e11) (by omega) ?_
      intro b34 hz he hk hb34
      have hsz : 170 < b34.tmps.size := by rw [hz]; exact hsz
      replace e10 := (hk 10 (by decide)).trans e10
      replace e11 := (hk 11 (by decide)).trans e11
      replace e115 := (hk 115 (by decide)).trans e115
      have e116 := he
      clear hz hk he
      refine walkA_still _ (.pointer (some ⟨gb, 8, none⟩)) rfl rfl rfl (wanted_at (j := 32) (s := 115) (b := false) rfl (by kernel_rfl) e115) (fun w hS => run_idxB rfl e10 e116 (Or.inr rfl)) (by omega) ?_
      intro b35 hz he hk hb35
      have hsz : 170 < b35.tmps.size := by rw [hz]; exact hsz
      replace e10 := (hk 10 (by decide)).trans e10
      replace e11 := (hk 11 (by decide)).trans e11
      replace e115 := (hk 115 (by decide)).trans e115
      clear e116
      have e117 := he
      clear hz hk he
      refine walkA_still _ (.agg #[.int .i64 i.op, .int .i64 (i.d % 16), .int .i64 (i.e % 16), .int .i64 (i.a % 16), .int .i64 (i.b % 16), .int .i64 (i.c % 16), .int .i32 i.imm, .slice gA l7.length gk]) rfl rfl rfl (wanted_at (j := 32) (s := 115) (b := false) rfl (by kernel_rfl) e115) (fun w hS => run_loadM (f := 8) rfl e117 (hS.cell 8) (hS.cell 9) (hS.cell 10) (hS.cell 11) (hS.cell 12) (hS.cell 13) (hS.cell 14) (hS.cell 15)) (by omega) ?_
      intro b36 hz he hk hb36
      have hsz : 170 < b36.tmps.size := by rw [hz]; exact hsz
      replace e10 := (hk 10 (by decide)).trans e10
      replace e11 := (hk 11 (by decide)).trans e11
      replace e115 := (hk 115 (by decide)).trans e115
      clear e117
      have e118 := he
      clear hz hk he
      refine walkA_still _ (.int .i64 1) rfl rfl rfl (wanted_at (j := 32) (s := 115) (b := false) rfl (by kernel_rfl) e115) (fun w hS => still_move _ _ _ _ w rfl e11) (by omega) ?_
      intro b37 hz he hk hb37
      have hsz : 170 < b37.tmps.size := by rw [hz]; exact hsz
      replace e10 := (hk 10 (by decide)).trans e10
      replace e115 := (hk 115 (by decide)).trans e115
      replace e118 := (hk 118 (by decide)).trans e118
      clear e11
      have e120 := he
      clear hz hk he
      refine walkA_still _ (.pointer (some ⟨gb, 8, none⟩)) rfl rfl rfl (wanted_at (j := 32) (s := 115) (b := false) rfl (by kernel_rfl) e115) (fun w hS => run_idxB rfl e10 e120 (Or.inr rfl)) (by omega) ?_
      intro b38 hz he hk hb38
      have hsz : 170 < b38.tmps.size := by rw [hz]; exact hsz
      replace e115 := (hk 115 (by decide)).trans e115
      replace e118 := (hk 118 (by decide)).trans e118
      clear e10
      clear e120
      have e121 := he
      clear hz hk he
      refine walkA_still _ (.agg #[.int .i64 i.op, .int .i64 (i.d % 16), .int .i64 (i.e % 16), .int .i64 (i.a % 16), .int .i64 (i.b % 16), .int .i64 (i.c % 16), .int .i32 i.imm, .slice gA l7.length gk]) rfl rfl rfl (wanted_at (j := 32) (s := 115) (b := false) rfl (by kernel_rfl) e115) (fun w hS => run_loadM (f := 8) rfl e121 (hS.cell 8) (hS.cell 9) (hS.cell 10) (hS.cell 11) (hS.cell 12) (hS.cell 13) (hS.cell 14) (hS.cell 15)) (by omega) ?_
      intro b39 hz he hk hb39
      have hsz : 170 < b39.tmps.size := by rw [hz]; exact hsz
      replace e115 := (hk 115 (by decide)).trans e115
      replace e118 := (hk 118 (by decide)).trans e118
      clear e121
      have e122 := he
      clear hz hk he
      refine walkH_does _ rfl rfl ?_
      refine does_call (wanted_at (j := 32) (s := 115) (b := false) rfl (by kernel_rfl) e115) (run_call1 (by kernel_rfl) rfl e118) ?_
      refine (makes_any wg5 (⟨i.op, i.d % 16, i.e % 16, i.a % 16, i.b % 16, i.c % 16, i.imm, l7⟩ : PMach) gA l7.length gk).mono ?_
      rintro en wg6 ⟨v, rfl, ho, hb⟩
      obtain ⟨t36A, t36k, rfl⟩ := ho.form
      have HK6 := Lib.hid (HK5.out.trans (hb.mono HK5.out.size))
      have HO36 := Lib.hid ho
      have HP36 := Lib.hid hb
      clear ho hb
      refine ⟨_, rfl, Or.inl (HZf.out.below HK6.out), ?_⟩
      refine walkA_put (by omega) ?_
      intro b40 hz he hk hb40
      have hsz : 170 < b40.tmps.size := by rw [hz]; exact hsz
      replace e115 := (hk 115 (by decide)).trans e115
      replace e122 := (hk 122 (by decide)).trans e122
      clear e118
      have e119 := he
      clear hz hk he
      refine walkH_does _ rfl rfl ?_
      refine does_call (wanted_at (j := 32) (s := 115) (b := false) rfl (by kernel_rfl) e115) (run_call1 (by kernel_rfl) rfl e122) ?_
      refine (rmakes_any wg6 (⟨i.op, i.d % 16, i.e % 16, i.a % 16, i.b % 16, i.c % 16, i.imm, l7⟩ : PMach) gA l7.length gk).mono ?_
      rintro en wg7 ⟨v, rfl, ho, hb⟩
      obtain ⟨t40A, t40k, rfl⟩ := ho.form
      have HK7 := Lib.hid (HK6.out.trans (hb.mono HK6.out.size))
      have HO40 := Lib.hid ho
      have HP40 := Lib.hid hb
      clear ho hb
      refine ⟨_, rfl, Or.inl (HZf.out.below HK7.out), ?_⟩
      refine walkA_put (by omega) ?_
      intro b41 hz he hk hb41
      have hsz : 170 < b41.tmps.size := by rw [hz]; exact hsz
      replace e115 := (hk 115 (by decide)).trans e115
      replace e119 := (hk 119 (by decide)).trans e119
      clear e122
      have e123 := he
      clear hz hk he
      refine walkH_does _ rfl rfl ?_
      refine does_call (wanted_at (j := 32) (s := 115) (b := false) rfl (by kernel_rfl) e115) (run_call2 (by kernel_rfl) rfl e119 e123) ?_
      refine (row_any2 wg7 _ _ (makesL (⟨i.op, i.d % 16, i.e % 16, i.a % 16, i.b % 16, i.c % 16, i.imm, l7⟩ : PMach)) (makesL (⟨i.op, i.d % 16, i.e % 16, i.a % 16, i.b % 16, i.c % 16, i.imm, l7⟩ : PMach)) (OwnInts.ints (own_below HO36.out HP40.out)) (OwnInts.ints HO40.out)).mono ?_
      rintro en wg8 ⟨rfl, ng, hwg⟩
      rw [show decide ((makesL (⟨i.op, i.d % 16, i.e % 16, i.a % 16, i.b % 16, i.c % 16, i.imm, l7⟩ : PMach)) = (makesL (⟨i.op, i.d % 16, i.e % 16, i.a % 16, i.b % 16, i.c % 16, i.imm, l7⟩ : PMach))) = true from decide_eq_true rfl]
      have HK8 := Lib.hid (show Below wf.heap.size wf wg8 from by rw [hwg]; exact below_drewK HK7.out ng)
      clear hwg
      refine ⟨_, rfl, Or.inl (HZf.out.below HK8.out), ?_⟩
      refine walkA_put (by omega) ?_
      intro b42 hz he hk hb42
      have hsz : 170 < b42.tmps.size := by rw [hz]; exact hsz
      replace e115 := (hk 115 (by decide)).trans e115
      clear e119
      clear e123
      have e124 := he
      clear hz hk he
      refine walkA_still _ (.bool false) rfl rfl rfl (wanted_at (j := 32) (s := 115) (b := false) rfl (by kernel_rfl) e115) (fun w hS => run_not rfl e124) (by omega) ?_
      intro b43 hz he hk hb43
      have hsz : 170 < b43.tmps.size := by rw [hz]; exact hsz
      replace e115 := (hk 115 (by decide)).trans e115
      clear e124
      have e125 := he
      clear hz hk he
      refine walkA_still _ (.bool false) rfl rfl rfl rfl (fun w hS => run_pickF rfl e115 e125) (by omega) ?_
      intro b44 hz he hk hb44
      have hsz : 170 < b44.tmps.size := by rw [hz]; exact hsz
      clear e115
      clear e125
      have e126 := he
      clear hz hk he
      refine walkH_nil ?_
      subst hb44
      subst hb43
      subst hb42
      subst hb41
      subst hb40
      subst hb39
      subst hb38
      subst hb37
      subst hb36
      subst hb35
      subst hb34
      subst hb33
      subst hb32
      subst hb31
      subst hb30
      subst hb29
      subst hb28
      subst hb27
      subst hb26
      subst hb25
      subst hb24
      subst hb23
      subst hb22
      subst hb21
      subst hb20
      subst hb19
      subst hb18
      subst hb17
      subst hb16
      subst hb15
      subst hb14
      subst hb13
      subst hb12
      subst hb11
      subst hb10
      subst hb9
      subst hb8
      subst hb7
      subst hb6
      subst hb5
      subst hb4
      subst hb3
      subst hb2
      subst hb1
      subst ha0
      simp only [Act.put, List.setIfInBounds_toArray, List.set_cons_zero, List.set_cons_succ]
      go_wp2
      exact ⟨⟨2, Or.inr (Or.inr rfl), by go_num, HBf.out.trans (HK8.out.mono HBf.out.size)⟩, by simp [intOf]⟩
    · obtain ⟨n2, hn2⟩ : ∃ n2 : Nat, min (n : Int) 70 = n2 := ⟨min n 70, by omega⟩
      have hn3 : n2 ≤ n := by omega
      have hn4 : n2 ≤ 70 := by omega
      have heo := HE7.out.below HBL.out
      have z0 := heo.cell 0
      have z1 := heo.cell 1
      have z2 := heo.cell 2
      have z3 := heo.cell 3
      have z4 := heo.cell 4
      have v3 := heo.frozen 3
      have HEo := Lib.hid heo
      have HLo := Lib.hid (HL7b.out.below HBL.out)
      clear heo
      go_upto_region 22 with (fail)
      obtain ⟨W21, hW21⟩ : ∃ W21, wo.setCell ⟨w.heap.size + 1, 3, none⟩ (.slice E n2 ek) = W21 := ⟨_, rfl⟩
      rw [hW21]
      have hB21 : But (w.heap.size + 1) wo W21 := by rw [← hW21]; exact but_set _ _ _ _
      have he21 : Str W21 (w.heap.size + 1) 42 [.int .i64 e.op, .int .i64 e.a, .int .i64 e.b, .slice E n2 ek, .int .i32 e.imm] := by rw [← hW21]; have h := HEo.out.set 3 (.slice E n2 ek); simpa using h
      have HBO := Lib.hid (HB7.out.trans (HBL.out.mono HB7.out.size))
      have HB21 := Lib.hid (HBO.out.trans (below_of_but hB21 (by omega) HBO.out.size))
      have HL21 := Lib.hid (hB21.str HLo.out (by omega))
      have HE21 := Lib.hid he21
      clear z0 z1 z2 z3 z4 v3 hW21 hB21
      have z0 := he21.cell 0
      have z1 := he21.cell 1
      have z2 := he21.cell 2
      have z3 := he21.cell 3
      have z4 := he21.cell 4
      clear he21
      go_upto_region 23 with (fail)
      obtain ⟨W22, hW22⟩ : ∃ W22, W21.alloc (.cells #[.int .i64 e.op, .int .i64 e.a, .int .i64 e.b, .slice E n2 ek, .int .i32 e.imm] 42) = W22 := ⟨_, rfl⟩
      have hb22 : Below W21.heap.size W21 W22 := by rw [← hW22]; exact (Below.refl _ _).alloc (Nat.le_refl _) _
      have hf22 : Str W22 W21.heap.size 42 [.int .i64 e.op, .int .i64 e.a, .int .i64 e.b, .slice E n2 ek, .int .i32 e.imm] := by rw [← hW22]; exact World.alloc_heap_new W21 _
      rw [hW22]
      have HB22 := Lib.hid (HB21.out.trans (hb22.mono HB21.out.size))
      have HE22 := Lib.hid (HE21.out.below hb22)
      have HL22 := Lib.hid (HL21.out.below hb22)
      have HF22 := Lib.hid hf22
      clear z0 z1 z2 z3 z4 hW22 hb22
      have z0 := hf22.cell 0
      have z1 := hf22.cell 1
      have z2 := hf22.cell 2
      have z3 := hf22.cell 3
      have z4 := hf22.cell 4
      have v1 := hf22.frozen 1
      have v2 := hf22.frozen 2
      have an1 := and15 e.a
      have an2 := and15 e.b
      clear hf22
      go_upto_region 25 with (fail)
      obtain ⟨W24, hW24⟩ : ∃ W24, (W22.setCell ⟨W21.heap.size, 1, none⟩ (.int .i64 (e.a % 16))).setCell ⟨W21.heap.size, 2, none⟩ (.int .i64 (e.b % 16)) = W24 := ⟨_, rfl⟩
      rw [hW24]
      have hB24 : But W21.heap.size W22 W24 := by rw [← hW24]; exact (but_set W21.heap.size 1 _ W22).trans (but_set W21.heap.size 2 _ _)
      have hf24 : Str W24 W21.heap.size 42 [.int .i64 e.op, .int .i64 (e.a % 16), .int .i64 (e.b % 16), .slice E n2 ek, .int .i32 e.imm] := by rw [← hW24]; have h := (HF22.out.set 1 (.int .i64 (e.a % 16))).set 2 (.int .i64 (e.b % 16)); simpa using h
      have HB24 := Lib.hid (HB22.out.trans (below_of_but hB24 HB21.out.size HB22.out.size))
      have HE24 := Lib.hid (hB24.str HE22.out (by have := HE21.out.lt; omega))
      have HL24 := Lib.hid (hB24.str HL22.out (by have := HL21.out.lt; omega))
      have HF24 := Lib.hid hf24
      clear z0 z1 z2 z3 z4 v1 v2 an1 an2 hW24 hB24 hf24
      obtain ⟨gf, hgf⟩ : ∃ gf, W21.heap.size = gf := ⟨_, rfl⟩
      rw [hgf] at HF24
      rw [hgf]
      clear hgf
      have HR24 := Lib.hid (HRV.out.below HB24.out)
      have HGP := Lib.hid (fun r => inW_getP (fun x hx => HRA.out x (List.mem_of_mem_take hx)) r : ∀ r, InW (getP (ra.take 20) r))
      have hdr : Below W24.heap.size W24 W24.drew := (Below.refl _ _).drew
      have HK0 := Lib.hid hdr
      clear hdr
      refine region_abs _ (fun a0 ha0 => ?_)
      have e4 : a0.eval (.tmp 4) = .pointer (some ⟨w.heap.size + 1, 0, none⟩) := by rw [ha0]; rfl
      have e5 : a0.eval (.tmp 5) = .pointer (some ⟨w.heap.size + 2, 0, none⟩) := by rw [ha0]; rfl
      have e7 : a0.eval (.tmp 7) = .bool true := by rw [ha0]; rfl
      have e20 : a0.eval (.tmp 20) = .pointer (some ⟨gf, 0, none⟩) := by rw [ha0]; rfl
      have hsz : 177 < a0.tmps.size := by rw [ha0]; exact of_decide_eq_true rfl
      refine region_held_wp (fun w' => Str w' (w.heap.size + 1) 42 [.int .i64 e.op, .int .i64 e.a, .int .i64 e.b, .slice E n2 ek, .int .i32 e.imm] ∧ Str w' (w.heap.size + 2) 43 [.slice rA rn rc, .slice mA mn mc] ∧ Str w' gf 42 [.int .i64 e.op, .int .i64 (e.a % 16), .int .i64 (e.b % 16), .slice E n2 ek, .int .i32 e.imm]) [0, 1, 2, 4, 7, 8, 9, 10, 11, 14, 15, 16, 19, 20, 21, 22, 23, 24, 27, 28, 29, 32, 33, 34] [0, 1, 2, 4, 3, 5, 6, 7, 8, 9, 10, 11, 14, 15, 16, 12, 13, 17, 18, 19, 20, 21, 22, 23, 24, 27, 28, 29, 25, 26, 30, 31, 32, 33, 34] (by kernel_rfl) (by kernel_rfl) (by kernel_rfl) rfl (by intro c a d v w h; cases d <;> exact h) ⟨HE24.out, HL24.out, HF24.out⟩ ?_
      refine walkA_still _ (.bool true) rfl rfl rfl rfl (fun w hS => still_move _ _ _ _ w rfl e7) (by omega) ?_
      intro b1 hz he hk hb1
      have hsz : 177 < b1.tmps.size := by rw [hz]; exact hsz
      replace e4 := (hk 4 (by decide)).trans e4
      replace e5 := (hk 5 (by decide)).trans e5
      replace e20 := (hk 20 (by decide)).trans e20
      clear e7
      have e144 := he
      clear hz hk he
      refine walkA_still _ (.bool true) rfl rfl rfl rfl (fun w hS => still_move _ _ _ _ w rfl e144) (by omega) ?_
      intro b2 hz he hk hb2
      have hsz : 177 < b2.tmps.size := by rw [hz]; exact hsz
      replace e4 := (hk 4 (by decide)).trans e4
      replace e5 := (hk 5 (by decide)).trans e5
      replace e20 := (hk 20 (by decide)).trans e20
      clear e144
      have e145 := he
      clear hz hk he
      refine walkA_still _ (.agg #[.int .i64 e.op, .int .i64 e.a, .int .i64 e.b, .slice E n2 ek, .int .i32 e.imm]) rfl rfl rfl (wanted_at (j := 1) (s := 145) (b := true) rfl (by kernel_rfl) e145) (fun w hS => run_loadE rfl e4 (hS.1.cell 0) (hS.1.cell 1) (hS.1.cell 2) (hS.1.cell 3) (hS.1.cell 4)) (by omega) ?_
      intro b3 hz he hk hb3
      have hsz : 177 < b3.tmps.size := by rw [hz]; exact hsz
      replace e4 := (hk 4 (by decide)).trans e4
      replace e5 := (hk 5 (by decide)).trans e5
      replace e20 := (hk 20 (by decide)).trans e20
      replace e145 := (hk 145 (by decide)).trans e145
      have e146 := he
      clear hz hk he
      refine walkA_still _ (.agg #[.int .i64 e.op, .int .i64 e.a, .int .i64 e.b, .slice E n2 ek, .int .i32 e.imm]) rfl rfl rfl (wanted_at (j := 1) (s := 145) (b := true) rfl (by kernel_rfl) e145) (fun w hS => run_loadE rfl e4 (hS.1.cell 0) (hS.1.cell 1) (hS.1.cell 2) (hS.1.cell 3) (hS.1.cell 4)) (by omega) ?_
      intro b4 hz he hk hb4
      have hsz : 177 < b4.tmps.size := by rw [hz]; exact hsz
      replace e4 := (hk 4 (by decide)).trans e4
      replace e5 := (hk 5 (by decide)).trans e5
      replace e20 := (hk 20 (by decide)).trans e20
      replace e145 := (hk 145 (by decide)).trans e145
      replace e146 := (hk 146 (by decide)).trans e146
      have e148 := he
      clear hz hk he
      refine walkH_does _ rfl rfl ?_
      refine does_call (wanted_at (j := 1) (s := 145) (b := true) rfl (by kernel_rfl) e145) (run_call1 (by kernel_rfl) rfl e146) ?_
      refine (needs_any W24.drew e E n2 ek).mono ?_
      rintro en wh1 ⟨v, rfl, ho, hb⟩
      obtain ⟨t3A, t3k, rfl⟩ := ho.form
      have HK1 := Lib.hid (HK0.out.trans (hb.mono HK0.out.size))
      have HO3 := Lib.hid ho
      have HP3 := Lib.hid hb
      clear ho hb
      refine ⟨_, rfl, Or.inl ⟨HE24.out.below HK1.out, HL24.out.below HK1.out, HF24.out.below HK1.out⟩, ?_⟩
      refine walkA_put (by omega) ?_
      intro b5 hz he hk hb5
      have hsz : 177 < b5.tmps.size := by rw [hz]; exact hsz
      replace e4 := (hk 4 (by decide)).trans e4
      replace e5 := (hk 5 (by decide)).trans e5
      replace e20 := (hk 20 (by decide)).trans e20
      replace e145 := (hk 145 (by decide)).trans e145
      replace e148 := (hk 148 (by decide)).trans e148
      clear e146
      have e147 := he
      clear hz hk he
      refine walkH_does _ rfl rfl ?_
      refine does_call (wanted_at (j := 1) (s := 145) (b := true) rfl (by kernel_rfl) e145) (run_call1 (by kernel_rfl) rfl e148) ?_
      refine (rneeds_any wh1 e E n2 ek).mono ?_
      rintro en wh2 ⟨v, rfl, ho, hb⟩
      obtain ⟨t5A, t5k, rfl⟩ := ho.form
      have HK2 := Lib.hid (HK1.out.trans (hb.mono HK1.out.size))
      have HO5 := Lib.hid ho
      have HP5 := Lib.hid hb
      clear ho hb
      refine ⟨_, rfl, Or.inl ⟨HE24.out.below HK2.out, HL24.out.below HK2.out, HF24.out.below HK2.out⟩, ?_⟩
      refine walkA_put (by omega) ?_
      intro b6 hz he hk hb6
      have hsz : 177 < b6.tmps.size := by rw [hz]; exact hsz
      replace e4 := (hk 4 (by decide)).trans e4
      replace e5 := (hk 5 (by decide)).trans e5
      replace e20 := (hk 20 (by decide)).trans e20
      replace e145 := (hk 145 (by decide)).trans e145
      replace e147 := (hk 147 (by decide)).trans e147
      clear e148
      have e149 := he
      clear hz hk he
      refine walkH_does _ rfl rfl ?_
      refine does_call (wanted_at (j := 1) (s := 145) (b := true) rfl (by kernel_rfl) e145) (run_call2 (by kernel_rfl) rfl e147 e149) ?_
      refine (row_any2 wh2 _ _ (needsL e) (needsL e) (OwnInts.ints (own_below HO3.out HP5.out)) (OwnInts.ints HO5.out)).mono ?_
      rintro en wh3 ⟨rfl, ng, hwg⟩
      rw [show decide (needsL e = needsL e) = true from decide_eq_true rfl]
      have HK3 := Lib.hid (show Below W24.heap.size W24 wh3 from by rw [hwg]; exact below_drewK HK2.out ng)
      clear hwg
      refine ⟨_, rfl, Or.inl ⟨HE24.out.below HK3.out, HL24.out.below HK3.out, HF24.out.below HK3.out⟩, ?_⟩
      refine walkA_put (by omega) ?_
      intro b7 hz he hk hb7
      have hsz : 177 < b7.tmps.size := by rw [hz]; exact hsz
      replace e4 := (hk 4 (by decide)).trans e4
      replace e5 := (hk 5 (by decide)).trans e5
      replace e20 := (hk 20 (by decide)).trans e20
      replace e145 := (hk 145 (by decide)).trans e145
      clear e147
      clear e149
      have e150 := he
      clear hz hk he
      refine walkA_still _ (.bool true) rfl rfl rfl rfl (fun w hS => run_pickT rfl e145 e150) (by omega) ?_
      intro b8 hz he hk hb8
      have hsz : 177 < b8.tmps.size := by rw [hz]; exact hsz
      replace e4 := (hk 4 (by decide)).trans e4
      replace e5 := (hk 5 (by decide)).trans e5
      replace e20 := (hk 20 (by decide)).trans e20
      clear e145
      clear e150
      have e151 := he
      clear hz hk he
      refine walkA_still _ (.bool true) rfl rfl rfl rfl (fun w hS => still_move _ _ _ _ w rfl e151) (by omega) ?_
      intro b9 hz he hk hb9
      have hsz : 177 < b9.tmps.size := by rw [hz]; exact hsz
      replace e4 := (hk 4 (by decide)).trans e4
      replace e5 := (hk 5 (by decide)).trans e5
      replace e20 := (hk 20 (by decide)).trans e20
      clear e151
      have e152 := he
      clear hz hk he
      refine walkA_still _ (.agg #[.int .i64 e.op, .int .i64 e.a, .int .i64 e.b, .slice E n2 ek, .int .i32 e.imm]) rfl rfl rfl (wanted_at (j := 8) (s := 152) (b := true) rfl (by kernel_rfl) e152) (fun w hS => run_loadE rfl e4 (hS.1.cell 0) (hS.1.cell 1) (hS.1.cell 2) (hS.1.cell 3) (hS.1.cell 4)) (by omega) ?_
      intro b10 hz he hk hb10
      have hsz : 177 < b10.tmps.size := by rw [hz]; exact hsz
      replace e4 := (hk 4 (by decide)).trans e4
      replace e5 := (hk 5 (by decide)).trans e5
      replace e20 := (hk 20 (by decide)).trans e20
      replace e152 := (hk 152 (by decide)).trans e152
      have e153 := he
      clear hz hk he
      refine walkA_still _ (.pointer (some ⟨w.heap.size + 2, 0, none⟩)) rfl rfl rfl (wanted_at (j := 8) (s := 152) (b := true) rfl (by kernel_rfl) e152) (fun w hS => run_idxL rfl e5 rfl) (by omega) ?_
      intro b11 hz he hk hb11
      have hsz : 177 < b11.tmps.size := by rw [hz]; exact hsz
      replace e4 := (hk 4 (by decide)).trans e4
      replace e5 := (hk 5 (by decide)).trans e5
      replace e20 := (hk 20 (by decide)).trans e20
      replace e152 := (hk 152 (by decide)).trans e152
      replace e153 := (hk 153 (by decide)).trans e153
      have e154 := he
      clear hz hk he
      refine walkA_still _ (.slice rA rn rc) rfl rfl rfl (wanted_at (j := 8) (s := 152) (b := true) rfl (by kernel_rfl) e152) (fun w hS => run_loadS rfl e154 (hS.2.1.cell 0)) (by omega) ?_
      intro b12 hz he hk hb12
      have hsz : 177 < b12.tmps.size := by rw [hz]; exact hsz
      replace e4 := (hk 4 (by decide)).trans e4
      replace e5 := (hk 5 (by decide)).trans e5
      replace e20 := (hk 20 (by decide)).trans e20
      replace e152 := (hk 152 (by decide)).trans e152
      replace e153 := (hk 153 (by decide)).trans e153
      clear e154
      have e155 := he
      clear hz hk he
      refine walkA_still _ (.agg #[.int .i64 e.op, .int .i64 e.a, .int .i64 e.b, .slice E n2 ek, .int .i32 e.imm]) rfl rfl rfl (wanted_at (j := 8) (s := 152) (b := true) rfl (by kernel_rfl) e152) (fun w hS => run_loadE rfl e4 (hS.1.cell 0) (hS.1.cell 1) (hS.1.cell 2) (hS.1.cell 3) (hS.1.cell 4)) (by omega) ?_
      intro b13 hz he hk hb13
      have hsz : 177 < b13.tmps.size := by rw [hz]; exact hsz
      replace e5 := (hk 5 (by decide)).trans e5
      replace e20 := (hk 20 (by decide)).trans e20
      replace e152 := (hk 152 (by decide)).trans e152
      replace e153 := (hk 153 (by decide)).trans e153
      replace e155 := (hk 155 (by decide)).trans e155
      clear e4
      have e158 := he
      clear hz hk he
      refine walkA_still _ (.pointer (some ⟨w.heap.size + 2, 0, none⟩)) rfl rfl rfl (wanted_at (j := 8) (s := 152) (b := true) rfl (by kernel_rfl) e152) (fun w hS => run_idxL rfl e5 rfl) (by omega) ?_
      intro b14 hz he hk hb14
      have hsz : 177 < b14.tmps.size := by rw [hz]; exact hsz
      replace e5 := (hk 5 (by decide)).trans e5
      replace e20 := (hk 20 (by decide)).trans e20
      replace e152 := (hk 152 (by decide)).trans e152
      replace e153 := (hk 153 (by decide)).trans e153
      replace e155 := (hk 155 (by decide)).trans e155
      replace e158 := (hk 158 (by decide)).trans e158
      have e159 := he
      clear hz hk he
      refine walkA_still _ (.slice rA rn rc) rfl rfl rfl (wanted_at (j := 8) (s := 152) (b := true) rfl (by kernel_rfl) e152) (fun w hS => run_loadS rfl e159 (hS.2.1.cell 0)) (by omega) ?_
      intro b15 hz he hk hb15
      have hsz : 177 < b15.tmps.size := by rw [hz]; exact hsz
      replace e5 := (hk 5 (by decide)).trans e5
      replace e20 := (hk 20 (by decide)).trans e20
      replace e152 := (hk 152 (by decide)).trans e152
      replace e153 := (hk 153 (by decide)).trans e153
      replace e155 := (hk 155 (by decide)).trans e155
      replace e158 := (hk 158 (by decide)).trans e158
      clear e159
      have e160 := he
      clear hz hk he
      refine walkH_does _ rfl rfl ?_
      refine does_call (wanted_at (j := 8) (s := 152) (b := true) rfl (by kernel_rfl) e152) (run_call1 (by kernel_rfl) rfl e155) ?_
      refine (some_any wh3 _ ra (HR24.out.below HK3.out)).mono ?_
      rintro en wh4 ⟨v, rfl, ho, hb⟩
      obtain ⟨s12A, s12n, s12c, rfl⟩ := OwnWords.slice ho
      have HK4 := Lib.hid (HK3.out.trans (hb.mono HK3.out.size))
      have HO12 := Lib.hid ho
      clear ho hb
      refine ⟨_, rfl, Or.inl ⟨HE24.out.below HK4.out, HL24.out.below HK4.out, HF24.out.below HK4.out⟩, ?_⟩
      refine walkA_put (by omega) ?_
      intro b16 hz he hk hb16
      have hsz : 177 < b16.tmps.size := by rw [hz]; exact hsz
      replace e5 := (hk 5 (by decide)).trans e5
      replace e20 := (hk 20 (by decide)).trans e20
      replace e152 := (hk 152 (by decide)).trans e152
      replace e153 := (hk 153 (by decide)).trans e153
      replace e158 := (hk 158 (by decide)).trans e158
      replace e160 := (hk 160 (by decide)).trans e160
      clear e155
      have e156 := he
      clear hz hk he
      refine walkH_does _ rfl rfl ?_
      refine does_call (wanted_at (j := 8) (s := 152) (b := true) rfl (by kernel_rfl) e152) (run_call2 (by kernel_rfl) rfl e153 e156) ?_
      refine (goes_any wh4 e E n2 ek _ (ra.take 20) (words_of_own HO12.out) (by omega) HGP.out).mono ?_
      rintro en wh5 ⟨rfl, hb⟩
      have HK5 := Lib.hid (HK4.out.trans (hb.mono HK4.out.size))
      clear hb
      refine ⟨_, rfl, Or.inl ⟨HE24.out.below HK5.out, HL24.out.below HK5.out, HF24.out.below HK5.out⟩, ?_⟩
      refine walkA_put (by omega) ?_
      intro b17 hz he hk hb17
      have hsz : 177 < b17.tmps.size := by rw [hz]; exact hsz
      replace e5 := (hk 5 (by decide)).trans e5
      replace e20 := (hk 20 (by decide)).trans e20
      replace e152 := (hk 152 (by decide)).trans e152
      replace e158 := (hk 158 (by decide)).trans e158
      replace e160 := (hk 160 (by decide)).trans e160
      clear e153
      clear e156
      have e157 := he
      clear hz hk he
      refine walkH_does _ rfl rfl ?_
      refine does_call (wanted_at (j := 8) (s := 152) (b := true) rfl (by kernel_rfl) e152) (run_call1 (by kernel_rfl) rfl e160) ?_
      refine (some_any wh5 _ ra (HR24.out.below HK5.out)).mono ?_
      rintro en wh6 ⟨v, rfl, ho, hb⟩
      obtain ⟨s17A, s17n, s17c, rfl⟩ := OwnWords.slice ho
      have HK6 := Lib.hid (HK5.out.trans (hb.mono HK5.out.size))
      have HO17 := Lib.hid ho
      clear ho hb
      refine ⟨_, rfl, Or.inl ⟨HE24.out.below HK6.out, HL24.out.below HK6.out, HF24.out.below HK6.out⟩, ?_⟩
      refine walkA_put (by omega) ?_
      intro b18 hz he hk hb18
      have hsz : 177 < b18.tmps.size := by rw [hz]; exact hsz
      replace e5 := (hk 5 (by decide)).trans e5
      replace e20 := (hk 20 (by decide)).trans e20
      replace e152 := (hk 152 (by decide)).trans e152
      replace e158 := (hk 158 (by decide)).trans e158
      replace e157 := (hk 157 (by decide)).trans e157
      clear e160
      have e161 := he
      clear hz hk he
      refine walkH_does _ rfl rfl ?_
      refine does_call (wanted_at (j := 8) (s := 152) (b := true) rfl (by kernel_rfl) e152) (run_call2 (by kernel_rfl) rfl e158 e161) ?_
      refine (rgoes_any wh6 e E n2 ek _ (ra.take 20) (words_of_own HO17.out) (by omega) HGP.out).mono ?_
      rintro en wh7 ⟨rfl, hb⟩
      have HK7 := Lib.hid (HK6.out.trans (hb.mono HK6.out.size))
      clear hb
      refine ⟨_, rfl, Or.inl ⟨HE24.out.below HK7.out, HL24.out.below HK7.out, HF24.out.below HK7.out⟩, ?_⟩
      refine walkA_put (by omega) ?_
      intro b19 hz he hk hb19
      have hsz : 177 < b19.tmps.size := by rw [hz]; exact hsz
      replace e5 := (hk 5 (by decide)).trans e5
      replace e20 := (hk 20 (by decide)).trans e20
      replace e152 := (hk 152 (by decide)).trans e152
      replace e157 := (hk 157 (by decide)).trans e157
      clear e158
      clear e161
      have e162 := he
      clear hz hk he
      refine walkA_still _ (.bool true) rfl rfl rfl (wanted_at (j := 8) (s := 152) (b := true) rfl (by kernel_rfl) e152) (fun w hS => run_eqlI rfl e157 e162) (by omega) ?_
      intro b20 hz he hk hb20
      have hsz : 177 < b20.tmps.size := by rw [hz]; exact hsz
      replace e5 := (hk 5 (by decide)).trans e5
      replace e20 := (hk 20 (by decide)).trans e20
      replace e152 := (hk 152 (by decide)).trans e152
      clear e157
      clear e162
      have e163 := he
      clear hz hk he
      refine walkA_still _ (.bool true) rfl rfl rfl rfl (fun w hS => run_pickT rfl e152 e163) (by omega) ?_
      intro b21 hz he hk hb21
      have hsz : 177 < b21.tmps.size := by rw [hz]; exact hsz
      replace e5 := (hk 5 (by decide)).trans e5
      replace e20 := (hk 20 (by decide)).trans e20
      clear e152
      clear e163
      have e164 := he
      clear hz hk he
      refine walkA_still _ (.bool true) rfl rfl rfl rfl (fun w hS => still_move _ _ _ _ w rfl e164) (by omega) ?_
      intro b22 hz he hk hb22
      have hsz : 177 < b22.tmps.size := by rw [hz]; exact hsz
      replace e5 := (hk 5 (by decide)).trans e5
      replace e20 := (hk 20 (by decide)).trans e20
      clear e164
      have e165 := he
      clear hz hk he
      refine walkA_still _ (.agg #[.int .i64 e.op, .int .i64 (e.a % 16), .int .i64 (e.b % 16), .slice E n2 ek, .int .i32 e.imm]) rfl rfl rfl (wanted_at (j := 21) (s := 165) (b := true) rfl (by kernel_rfl) e165) (fun w hS => run_loadE rfl e20 (hS.2.2.cell 0) (hS.2.2.cell 1) (hS.2.2.cell 2) (hS.2.2.cell 3) (hS.2.2.cell 4)) (by omega) ?_
      intro b23 hz he hk hb23
      have hsz : 177 < b23.tmps.size := by rw [hz]; exact hsz
      replace e5 := (hk 5 (by decide)).trans e5
      replace e20 := (hk 20 (by decide)).trans e20
      replace e165 := (hk 165 (by decide)).trans e165
      have e166 := he
      clear hz hk he
      refine walkA_still _ (.pointer (some ⟨w.heap.size + 2, 0, none⟩)) rfl rfl rfl (wanted_at (j := 21) (s := 165) (b := true) rfl (by kernel_rfl) e165) (fun w hS => run_idxL rfl e5 rfl) (by omega) ?_
      intro b24 hz he hk hb24
      have hsz : 177 < b24.tmps.size := by rw [hz]; exact hsz
      replace e5 := (hk 5 (by decide)).trans e5
      replace e20 := (hk 20 (by decide)).trans e20
      replace e165 := (hk 165 (by decide)).trans e165
      replace e166 := (hk 166 (by decide)).trans e166
      have e167 := he
      clear hz hk he
      refine walkA_still _ (.slice rA rn rc) rfl rfl rfl (wanted_at (j := 21) (s := 165) (b := true) rfl (by kernel_rfl) e165) (fun w hS => run_loadS rfl e167 (hS.2.1.cell 0)) (by omega) ?_
      intro b25 hz he hk hb25
      have hsz : 177 < b25.tmps.size := by rw [hz]; exact hsz
      replace e5 := (hk 5 (by decide)).trans e5
      replace e20 := (hk 20 (by decide)).trans e20
      replace e165 := (hk 165 (by decide)).trans e165
      replace e166 := (hk 166 (by decide)).trans e166
      clear e167
      have e168 := he
      clear hz hk he
      refine walkA_still _ (.agg #[.int .i64 e.op, .int .i64 (e.a % 16), .int .i64 (e.b % 16), .slice E n2 ek, .int .i32 e.imm]) rfl rfl rfl (wanted_at (j := 21) (s := 165) (b := true) rfl (by kernel_rfl) e165) (fun w hS => run_loadE rfl e20 (hS.2.2.cell 0) (hS.2.2.cell 1) (hS.2.2.cell 2) (hS.2.2.cell 3) (hS.2.2.cell 4)) (by omega) ?_
      intro b26 hz he hk hb26
      have hsz : 177 < b26.tmps.size := by rw [hz]; exact hsz
      replace e5 := (hk 5 (by decide)).trans e5
      replace e165 := (hk 165 (by decide)).trans e165
      replace e166 := (hk 166 (by decide)).trans e166
      replace e168 := (hk 168 (by decide)).trans e168
      clear e20
      have e171 := he
      clear hz hk he
      refine walkA_still _ (.pointer (some ⟨w.heap.size + 2, 0, none⟩)) rfl rfl rfl (wanted_at (j := 21) (s := 165) (b := true) rfl (by kernel_rfl) e165) (fun w hS => run_idxL rfl e5 rfl) (by omega) ?_
      intro b27 hz he hk hb27
      have hsz : 177 < b27.tmps.size := by rw [hz]; exact hsz
      replace e165 := (hk 165 (by decide)).trans e165
      replace e166 := (hk 166 (by decide)).trans e166
      replace e168 := (hk 168 (by decide)).trans e168
      replace e171 := (hk 171 (by decide)).trans e171
      clear e5
      have e172 := he
      clear hz hk he
      refine walkA_still _ (.slice rA rn rc) rfl rfl rfl (wanted_at (j := 21) (s := 165) (b := true) rfl (by kernel_rfl) e165) (fun w hS => run_loadS rfl e172 (hS.2.1.cell 0)) (by omega) ?_
      intro b28 hz he hk hb28
      have hsz : 177 < b28.tmps.size := by rw [hz]; exact hsz
      replace e165 := (hk 165 (by decide)).trans e165
      replace e166 := (hk 166 (by decide)).trans e166
      replace e168 := (hk 168 (by decide)).trans e168
      replace e171 := (hk 171 (by decide)).trans e171
      clear e172
      have e173 := he
      clear hz hk he
      refine walkH_does _ rfl rfl ?_
      refine does_call (wanted_at (j := 21) (s := 165) (b := true) rfl (by kernel_rfl) e165) (run_call1 (by kernel_rfl) rfl e168) ?_
      refine (some_any wh7 _ ra (HR24.out.below HK7.out)).mono ?_
      rintro en wh8 ⟨v, rfl, ho, hb⟩
      obtain ⟨s25A, s25n, s25c, rfl⟩ := OwnWords.slice ho
      have HK8 := Lib.hid (HK7.out.trans (hb.mono HK7.out.size))
      have HO25 := Lib.hid ho
      clear ho hb
      refine ⟨_, rfl, Or.inl ⟨HE24.out.below HK8.out, HL24.out.below HK8.out, HF24.out.below HK8.out⟩, ?_⟩
      refine walkA_put (by omega) ?_
      intro b29 hz he hk hb29
      have hsz : 177 < b29.tmps.size := by rw [hz]; exact hsz
      replace e165 := (hk 165 (by decide)).trans e165
      replace e166 := (hk 166 (by decide)).trans e166
      replace e171 := (hk 171 (by decide)).trans e171
      replace e173 := (hk 173 (by decide)).trans e173
      clear e168
      have e169 := he
      clear hz hk he
      refine walkH_does _ rfl rfl ?_
      refine does_call (wanted_at (j := 21) (s := 165) (b := true) rfl (by kernel_rfl) e165) (run_call2 (by kernel_rfl) rfl e166 e169) ?_
      refine (goes_any wh8 (⟨e.op, e.a % 16, e.b % 16, e.to, e.imm⟩ : PEnd) E n2 ek _ (ra.take 20) (words_of_own HO25.out) (by omega) HGP.out).mono ?_
      rintro en wh9 ⟨rfl, hb⟩
      have HK9 := Lib.hid (HK8.out.trans (hb.mono HK8.out.size))
      clear hb
      refine ⟨_, rfl, Or.inl ⟨HE24.out.below HK9.out, HL24.out.below HK9.out, HF24.out.below HK9.out⟩, ?_⟩
      refine walkA_put (by omega) ?_
      intro b30 hz he hk hb30
      have hsz : 177 < b30.tmps.size := by rw [hz]; exact hsz
      replace e165 := (hk 165 (by decide)).trans e165
      replace e171 := (hk 171 (by decide)).trans e171
      replace e173 := (hk 173 (by decide)).trans e173
      clear e166
      clear e169
      have e170 := he
      clear hz hk he
      refine walkH_does _ rfl rfl ?_
      refine does_call (wanted_at (j := 21) (s := 165) (b := true) rfl (by kernel_rfl) e165) (run_call1 (by kernel_rfl) rfl e173) ?_
      refine (some_any wh9 _ ra (HR24.out.below HK9.out)).mono ?_
      rintro en wh10 ⟨v, rfl, ho, hb⟩
      obtain ⟨s30A, s30n, s30c, rfl⟩ := OwnWords.slice ho
      have HK10 := Lib.hid (HK9.out.trans (hb.mono HK9.out.size))
      have HO30 := Lib.hid ho
      clear ho hb
      refine ⟨_, rfl, Or.inl ⟨HE24.out.below HK10.out, HL24.out.below HK10.out, HF24.out.below HK10.out⟩, ?_⟩
      refine walkA_put (by omega) ?_
      intro b31 hz he hk hb31
      have hsz : 177 < b31.tmps.size := by rw [hz]; exact hsz
      replace e165 := (hk 165 (by decide)).trans e165
      replace e171 := (hk 171 (by decide)).trans e171
      replace e170 := (hk 170 (by decide)).trans e170
      clear e173
      have e174 := he
      clear hz hk he
      refine walkH_does _ rfl rfl ?_
      refine does_call (wanted_at (j := 21) (s := 165) (b := true) rfl (by kernel_rfl) e165) (run_call2 (by kernel_rfl) rfl e171 e174) ?_
      refine (rgoes_any wh10 (⟨e.op, e.a % 16, e.b % 16, e.to, e.imm⟩ : PEnd) E n2 ek _ (ra.take 20) (words_of_own HO30.out) (by omega) HGP.out).mono ?_
      rintro en wh11 ⟨rfl, hb⟩
      have HK11 := Lib.hid (HK10.out.trans (hb.mono HK10.out.size))
      clear hb
      refine ⟨_, rfl, Or.inl ⟨HE24.out.below HK11.out, HL24.out.below HK11.out, HF24.out.below HK11.out⟩, ?_⟩
      refine walkA_put (by omega) ?_
      intro b32 hz he hk hb32
      have hsz : 177 < b32.tmps.size := by rw [hz]; exact hsz
      replace e165 := (hk 165 (by decide)).trans e165
      replace e170 := (hk 170 (by decide)).trans e170
      clear e171
      clear e174
      have e175 := he
      clear hz hk he
      refine walkA_still _ (.bool true) rfl rfl rfl (wanted_at (j := 21) (s := 165) (b := true) rfl (by kernel_rfl) e165) (fun w hS => run_eqlI rfl e170 e175) (by omega) ?_
      intro b33 hz he hk hb33
      have hsz : 177 < b33.tmps.size := by rw [hz]; exact hsz
      replace e165 := (hk 165 (by decide)).trans e165
      clear e170
      clear e175
      have e176 := he
      clear hz hk he
      refine walkA_still _ (.bool true) rfl rfl rfl rfl (fun w hS => run_pickT rfl e165 e176) (by omega) ?_
      intro b34 hz he hk hb34
      have hsz : 177 < b34.tmps.size := by rw [hz]; exact hsz
      clear e165
      clear e176
      have e177 := he
      clear hz hk he
      refine walkA_still _ (.bool true) rfl rfl rfl rfl (fun w hS => run_assign rfl e177) (by omega) ?_
      intro b35 hz he hk hb35
      have hsz : 177 < b35.tmps.size := by rw [hz]; exact hsz
      clear e177
      have e6 := he
      clear hz hk he
      refine walkH_nil ?_
      subst hb35
      subst hb34
      subst hb33
      subst hb32
      subst hb31
      subst hb30
      subst hb29
      subst hb28
      subst hb27
      subst hb26
      subst hb25
      subst hb24
      subst hb23
      subst hb22
      subst hb21
      subst hb20
      subst hb19
      subst hb18
      subst hb17
      subst hb16
      subst hb15
      subst hb14
      subst hb13
      subst hb12
      subst hb11
      subst hb10
      subst hb9
      subst hb8
      subst hb7
      subst hb6
      subst hb5
      subst hb4
      subst hb3
      subst hb2
      subst hb1
      subst ha0
      simp only [Act.put, List.setIfInBounds_toArray, List.set_cons_zero, List.set_cons_succ]
      go_wp2
      go_ret
      exact ⟨rfl, HB24.out.trans (HK11.out.mono HB24.out.size)⟩
end Go.Proofs.YtonheiaohgbbcaaGreat.Mc
