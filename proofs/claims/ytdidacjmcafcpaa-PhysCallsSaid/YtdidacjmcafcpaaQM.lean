/- Stage 12: mach.Do over the registers that lie within a run's struct. -/
import Derived.Test.YtdidacjmcafcpaaMF
namespace Go.Proofs.Ytdidacjmcafcpaa.Ph
open Go.ChangeShapes Go.WideShapes Go.ChangeAt Go.RowKit Go.Proofs.Ytdidacjmcafcpaa.Mem Go.Proofs.Ytdidacjmcafcpaa.Kc Go.Proofs.Ytdidacjmcafcpaa.Pl Go.Proofs.Ytdidacjmcafcpaa.Mw Go.Proofs.Ytdidacjmcafcpaa.Mc Go.Proofs.Ytdidacjmcafcpaa.Br Go.Proofs.Ytdidacjmcafcpaa.Wd
set_option linter.unusedVariables false
set_option linter.unusedSimpArgs false
/-- A run's registers: sixteen cells of its struct, behind four. -/
def Rg (B g : Nat) (ps qs : List Value) (w : World) (l : List Int) : Prop := B ≤ g ∧ ps.length = 4 ∧ l.length = 16 ∧ Str w g 78 (ps ++ (l.map (Value.int .i32) ++ qs))
theorem Rg.below {B g : Nat} {ps qs : List Value} {w w' : World} {l : List Int} (h : Rg B g ps qs w l) (hb : Below w.heap.size w w') : Rg B g ps qs w' l := ⟨h.1, h.2.1, h.2.2.1, h.2.2.2.below hb⟩
theorem Rg.where_ {B g : Nat} {ps qs : List Value} {w : World} {l : List Int} (h : Rg B g ps qs w l) {x : Nat} (hx : (some g : Option Nat) = some x) : B ≤ x ∧ x < w.heap.size := by
  injection hx with hx
  subst hx
  exact ⟨h.1, h.2.2.2.lt⟩
theorem Rg.but {B g : Nat} {ps qs : List Value} {w w' : World} {l : List Int} (h : Rg B g ps qs w l) {x : Nat} (hb : But x w w') (hn : (some g : Option Nat) ≠ some x) : Rg B g ps qs w' l := ⟨h.1, h.2.1, h.2.2.1, hb.str h.2.2.2 (fun e => hn (by rw [e]))⟩
theorem Rg.kept {B g : Nat} {ps qs : List Value} {w w' : World} {l : List Int} (h : Rg B g ps qs w l) {row : Option Nat} (hg : w.grownBy w' row) (hn : (some g : Option Nat) = none ∨ (some g : Option Nat) ≠ row) : Rg B g ps qs w' l :=
  ⟨h.1, h.2.1, h.2.2.1, h.2.2.2.kept hg (by rcases hn with hn | hn; cases hn; exact hn)⟩
theorem rg_at {ps qs : List Value} {l : List Int} (hp : ps.length = 4) {k : Nat} (hk : k < l.length) : (ps ++ (l.map (Value.int .i32) ++ qs))[4 + k]? = some (.int .i32 l[k]) := by
  rw [List.getElem?_append_right (by omega), hp, Nat.add_sub_cancel_left, List.getElem?_append_left (by rw [List.length_map]; exact hk), List.getElem?_map, List.getElem?_eq_getElem hk]
  rfl
theorem rg_set {ps qs : List Value} {l : List Int} (hp : ps.length = 4) {k : Nat} (hk : k < l.length) (x : Int) : (ps ++ (l.map (Value.int .i32) ++ qs)).set (4 + k) (.int .i32 x) = ps ++ ((l.set k x).map (Value.int .i32) ++ qs) := by
  rw [List.set_append_right _ _ (by omega), hp, Nat.add_sub_cancel_left, List.set_append_left _ _ (by rw [List.length_map]; exact hk), List.map_set]
theorem Rg.words {B g : Nat} {ps qs : List Value} {w : World} {l : List Int} (h : Rg B g ps qs w l) : WordsAt w (.slice (some ⟨g, 4, none⟩) 16 16) l := by
  refine ⟨some ⟨g, 4, none⟩, 16, by rw [h.2.2.1], by rw [h.2.2.1]; exact Nat.le_refl _, by unfold maxLen; omega, fun k hk => ⟨_, rfl, ?_⟩⟩
  rw [show (⟨g, 4, none⟩ : Addr).add k = ⟨g, 4 + k, none⟩ by simp [Addr.add], h.2.2.2.cell (4 + k)]
  exact rg_at h.2.1 hk
theorem setP_len (l : List Int) (r x : Int) : (setP l r x).length = l.length := by unfold setP; split; exact List.length_set; rfl
def SetPostQ (B g : Nat) (ps qs : List Value) (l : List Int) (r x : Int) (w : World) (e : Ending) (w' : World) : Prop :=
  e = .returned (.tuple #[]) ∧ Rg B g ps qs w' (setP l r x) ∧ (w' = w ∨ ∃ g', (some g : Option Nat) = some g' ∧ But g' w w')
set_option maxRecDepth 100000 in
set_option maxHeartbeats 4000000 in
theorem rowsetQ_any (w : World) (B g : Nat) (ps qs : List Value) (l : List Int) (r x : Int) (hv : Rg B g ps qs w l) :
    Calls Try.prog 118 #[.slice (some ⟨g, 4, none⟩) 16 16, .int .i64 r, .int .i32 x] w (SetPostQ B g ps qs l r x w) := by
  cases hB : hasP 16 r with
  | false =>
    have HW := Lib.hid (show setP l r x = l by unfold setP; rw [if_neg (fun h => by rw [hv.2.2.1] at h; rw [hasP_iff.2 h] at hB; cases hB)])
    have HV := Lib.hid hv
    have HBH := Lib.hid hB
    clear hB hv
    go_enter Try.func118, Try.ntmps118
    go_wp2_with fail
    refine (rowhas_any w (some ⟨g, 4, none⟩) 16 16 r).mono ?_
    rintro e w' ⟨rfl, rfl⟩
    rw [HBH.out]
    go_wp2
    refine ⟨rfl, .tuple #[], ?_, rfl, by rw [HW.out]; exact HV.out, Or.inl rfl⟩
    simp only [results]
    go_simp
  | true =>
    have hp := hasP_iff.1 hB
    obtain ⟨k, rfl⟩ : ∃ k : Nat, r = (k : Int) := ⟨r.toNat, by omega⟩
    have hk : k < l.length := by rw [hv.2.2.1]; omega
    have hk16 : k < 16 := by omega
    have HW := Lib.hid (show setP l k x = l.set k x by unfold setP; rw [if_pos ⟨by omega, by omega⟩, Int.toNat_natCast])
    have hc : w.cell? ⟨g, 4 + k, none⟩ = some (.int .i32 l[k]) := by rw [hv.2.2.2.cell (4 + k)]; exact rg_at hv.2.1 hk
    have hf : w.frozen? ⟨g, 4 + k, none⟩ = false := hv.2.2.2.frozen (4 + k)
    have HS := Lib.hid (show But g w (w.setCell ⟨g, 4 + k, none⟩ (.int .i32 x)) ∧ Rg B g ps qs (w.setCell ⟨g, 4 + k, none⟩ (.int .i32 x)) (l.set k x) from ⟨but_set _ _ _ _, hv.1, hv.2.1, by rw [List.length_set]; exact hv.2.2.1, by have h := hv.2.2.2.set (4 + k) (.int .i32 x); rw [rg_set hv.2.1 hk x] at h; exact h⟩)
    have HBH := Lib.hid hB
    generalize l[k] = z at *
    clear hB hp hv hk
    go_enter Try.func118, Try.ntmps118
    go_wp2_with fail
    refine (rowhas_any w (some ⟨g, 4, none⟩) 16 16 k).mono ?_
    rintro e w' ⟨rfl, rfl⟩
    rw [HBH.out]
    go_wp2
    refine ⟨rfl, .tuple #[], ?_, rfl, by rw [HW.out]; exact HS.out.2, Or.inr ⟨g, rfl, HS.out.1⟩⟩
    simp only [results]
    go_simp
def DoPostQ (B g : Nat) (ps qs : List Value) (mv : Value) (f : Fx) (l : List Int) (w : World) (en : Ending) (w' : World) : Prop :=
  en = .returned (.tuple #[.int .i32 f.trap, .bool (f.trap == 0)]) ∧ Rg B g ps qs w' l ∧ OwnWords B w' mv f.mem ∧ Two (some g) mv.ownBlock w w'
set_option maxRecDepth 100000 in
set_option maxHeartbeats 4000000 in
theorem dorowQ_fn (w : World) (i : PMach) (A : Option Addr) (n k : Nat) (gR : Nat) (ps qs : List Value) (mA : Option Addr) (mn mc : Nat) (F : Nat) (hf : fnV i.op = .func (.func F) #[] #[]) (hF : ∀ (args : Array Value) (w : World), (callFunc F args).run Try.prog w = .ok (.enter F args) w)
    (B : Nat) (l m : List Int) (hr : Rg B gR ps qs w l) (hm : OwnWords B w (.slice mA mn mc) m) (hap : (Value.slice (some ⟨gR, 4, none⟩) 16 16).ownBlock = none ∨ (Value.slice (some ⟨gR, 4, none⟩) 16 16).ownBlock ≠ (Value.slice mA mn mc).ownBlock) (hI : InI i.a ∧ InI i.b ∧ InI i.c ∧ InI i.d ∧ InI i.e) (fx : Fx)
    (hfx : ∀ w' : World, OwnWords B w' (.slice mA mn mc) m → Calls Try.prog F #[.agg #[.int .i64 i.op, .int .i64 i.d, .int .i64 i.e, .int .i64 i.a, .int .i64 i.b, .int .i64 i.c, .int .i32 i.imm, .slice A n k], .agg #[.int .i32 (if 1 ≤ takesN i.op then getP l i.a else 0), .int .i32 (if 2 ≤ takesN i.op then getP l i.b else 0), .int .i32 (if 3 ≤ takesN i.op then getP l i.c else 0)], .slice mA mn mc] w' (FxPost B (.slice mA mn mc) fx w')) :
    Calls Try.prog 108 #[.agg #[.int .i64 i.op, .int .i64 i.d, .int .i64 i.e, .int .i64 i.a, .int .i64 i.b, .int .i64 i.c, .int .i32 i.imm, .slice A n k], .slice (some ⟨gR, 4, none⟩) 16 16, .slice mA mn mc] w (DoPostQ B gR ps qs (.slice mA mn mc) fx (regsF i l fx) w) := by
  have HR := Lib.hid hr
  have HM := Lib.hid hm
  have HAP := Lib.hid hap
  have HI := Lib.hid hI
  have HWR := Lib.hid (Rg.words hr)
  have HFX := Lib.hid hfx
  have HFN := Lib.hid hF
  clear hr hm hap hI hfx hF
  obtain ⟨xa, hxa⟩ : ∃ xa, (if i.op = 2 then i.a else i.d) = xa := ⟨_, rfl⟩
  obtain ⟨xb, hxb⟩ : ∃ xb, (if i.op = 2 then i.b else i.e) = xb := ⟨_, rfl⟩
  have HXA := Lib.hid hxa
  have HXB := Lib.hid hxb
  have HF := Lib.hid hf
  clear hxa hxb hf
  go_enter Try.func108, Try.ntmps108
  go_upto_region 1 with (fail)
  obtain ⟨W1, hW1⟩ : ∃ W1, w.alloc (.cells #[.int .i64 i.op, .int .i64 i.d, .int .i64 i.e, .int .i64 i.a, .int .i64 i.b, .int .i64 i.c, .int .i32 i.imm, .slice A n k] 24) = W1 := ⟨_, rfl⟩
  have hbW1 : Below w.heap.size w W1 := by rw [← hW1]; exact (Below.refl _ _).alloc (Nat.le_refl _) _
  have hsW1 : Str W1 w.heap.size 24 [.int .i64 i.op, .int .i64 i.d, .int .i64 i.e, .int .i64 i.a, .int .i64 i.b, .int .i64 i.c, .int .i32 i.imm, .slice A n k] := by rw [← hW1]; exact World.alloc_heap_new w _
  rw [hW1]
  clear hW1
  have m0 : W1.cell? ⟨w.heap.size, 0, none⟩ = some (.int .i64 i.op) := hsW1.cell 0
  have HB1 := Lib.hid hbW1
  have HS1 := Lib.hid hsW1
  clear hsW1 hbW1
  go_wp2_with fail
  refine (operation_any i.op W1).mono ?_
  rintro e w2 ⟨rfl, hb2⟩
  rw [HF.out]
  have HB2 := Lib.hid (HB1.out.trans (hb2.mono HB1.out.size))
  have HS1 := Lib.hid (HS1.out.below hb2)
  obtain ⟨mk, hmk⟩ : ∃ m : Nat, makesN i.op = m := ⟨_, rfl⟩
  obtain ⟨tk, htk⟩ : ∃ m : Nat, takesN i.op = m := ⟨_, rfl⟩
  rw [hmk, htk]
  have HMK := Lib.hid hmk
  have HTK := Lib.hid htk
  clear hb2 m0 hmk htk
  have he := eql_fn F
  go_upto_region 5 with (fail)
  obtain ⟨W4, hW4⟩ : ∃ W4, (w2.alloc (.cells #[.int .i64 mk, .int .i64 tk, .func (.func F) #[] #[]] 96)).alloc (.cells #[.int .i32 0, .int .i32 0, .int .i32 0] 111) = W4 := ⟨_, rfl⟩
  rw [hW4]
  have hb4 : Below w2.heap.size w2 W4 := by rw [← hW4]; exact ((Below.refl _ _).alloc (Nat.le_refl _) _).alloc (by simp) _
  have hs4 : Str W4 w2.heap.size 96 [.int .i64 mk, .int .i64 tk, .func (.func F) #[] #[]] := by rw [← hW4]; exact Str.below (World.alloc_heap_new w2 _) ((Below.refl _ _).alloc (Nat.le_refl _) _)
  have ht4 : Str W4 (w2.heap.size + 1) 111 [.int .i32 0, .int .i32 0, .int .i32 0] := by
    have h := World.alloc_heap_new (w2.alloc (.cells #[.int .i64 mk, .int .i64 tk, .func (.func F) #[] #[]] 96)) (.cells #[.int .i32 0, .int .i32 0, .int .i32 0] 111)
    rw [hW4] at h
    simp only [World.size_alloc] at h
    exact h
  clear hW4
  have HS1 := Lib.hid (HS1.out.below hb4)
  have HS4 := Lib.hid hs4
  have HT4 := Lib.hid ht4
  have HB4 := Lib.hid (HB2.out.trans (hb4.mono HB2.out.size))
  have HB2S := Lib.hid HB2.out.size
  clear hb4 hs4 ht4 HB2 HB1
  refine region_inv_wp (by kernel_rfl) (by kernel_rfl) (fun L a w' => ∃ x24 x25 x26 x27 x10 x11 : Value, a = ⟨#[.agg #[.int .i64 i.op, .int .i64 i.d, .int .i64 i.e, .int .i64 i.a, .int .i64 i.b, .int .i64 i.c, .int .i32 i.imm, .slice A n k], .slice (some ⟨gR, 4, none⟩) 16 16, .slice mA mn mc, .pointer (some ⟨w.heap.size, 0, none⟩), undef, undef, .int .i32 0, .bool false, .pointer (some ⟨w2.heap.size, 0, none⟩), .pointer (some ⟨w2.heap.size + 1, 0, none⟩), x10, x11, undef, undef, undef, undef, undef, undef, .pointer (some ⟨w.heap.size, 0, none⟩), .int .i64 i.op, .agg #[.int .i64 mk, .int .i64 tk, .func (.func F) #[] #[]], .pointer (some ⟨w2.heap.size, 2, none⟩), .func (.func F) #[] #[], .bool false, x24, x25, x26, x27, undef, undef, undef, undef, undef, undef, undef, undef, undef, undef, undef, undef, undef, undef, undef, undef, undef, undef, undef, undef, undef, undef, undef, undef, undef, undef, undef, undef, undef, undef, undef, undef, undef, undef, undef, undef, undef, undef, undef, undef, undef, undef, undef, undef, undef], []⟩ ∧ R5 W4 (.agg #[.int .i64 i.op, .int .i64 i.d, .int .i64 i.e, .int .i64 i.a, .int .i64 i.b, .int .i64 i.c, .int .i32 i.imm, .slice A n k]) (.agg #[.int .i64 i.a, .int .i64 i.b, .int .i64 i.c]) (.agg #[.int .i64 xa, .int .i64 xb]) [.int .i64 i.a, .int .i64 i.b, .int .i64 i.c] [.int .i64 xa, .int .i64 xb] L x24 x25 x26 x27 x10 x11 w') ?h0 ?hstep ?hend
  case h0 => exact ⟨_, _, _, _, _, _, rfl, R5.start (Below.refl _ _).drew _⟩
  case hstep =>
    intro j o ho L a w' hn hw hI
    obtain ⟨x24, x25, x26, x27, x10, x11, rfl, h⟩ := hI
    have hj : j < 8 := (Array.getElem?_eq_some_iff.1 ho).1
    have hj : j = 0 ∨ j = 1 ∨ j = 2 ∨ j = 3 ∨ j = 4 ∨ j = 5 ∨ j = 6 ∨ j = 7 := by omega
    rcases hj with rfl | rfl | rfl | rfl | rfl | rfl | rfl | rfl
    all_goals
      obtain rfl := Option.some.inj ho
      clear ho
    · refine wpOp_list _ rfl ?_
      have m0 : w'.cell? ⟨w.heap.size, 0, none⟩ = some (.int .i64 i.op) := (HS1.out.below h.below).cell 0
      have m1 : w'.cell? ⟨w.heap.size, 1, none⟩ = some (.int .i64 i.d) := (HS1.out.below h.below).cell 1
      have m2 : w'.cell? ⟨w.heap.size, 2, none⟩ = some (.int .i64 i.e) := (HS1.out.below h.below).cell 2
      have m3 : w'.cell? ⟨w.heap.size, 3, none⟩ = some (.int .i64 i.a) := (HS1.out.below h.below).cell 3
      have m4 : w'.cell? ⟨w.heap.size, 4, none⟩ = some (.int .i64 i.b) := (HS1.out.below h.below).cell 4
      have m5 : w'.cell? ⟨w.heap.size, 5, none⟩ = some (.int .i64 i.c) := (HS1.out.below h.below).cell 5
      have m6 : w'.cell? ⟨w.heap.size, 6, none⟩ = some (.int .i32 i.imm) := (HS1.out.below h.below).cell 6
      have m7 : w'.cell? ⟨w.heap.size, 7, none⟩ = some (.slice A n k) := (HS1.out.below h.below).cell 7
      go_wp2
      exact behind1 ⟨_, _, _, _, _, _, rfl, h.p0⟩
    · refine wpOp_list _ rfl ?_
      obtain rfl := h.l0 (hw ⟨0, .data⟩ (by simp) rfl)
      go_wp2_with fail
      refine (sources_any _ _ _ _ _ _ _ _ _ _ _).mono ?_
      rintro e' w5 ⟨rfl, hb5⟩
      go_wp2_with fail
      exact behind1 ⟨_, _, _, _, _, _, rfl, (h.world hb5).p1⟩
    · refine wpOp_list _ rfl ?_
      have m0 : w'.cell? ⟨w.heap.size, 0, none⟩ = some (.int .i64 i.op) := (HS1.out.below h.below).cell 0
      have m1 : w'.cell? ⟨w.heap.size, 1, none⟩ = some (.int .i64 i.d) := (HS1.out.below h.below).cell 1
      have m2 : w'.cell? ⟨w.heap.size, 2, none⟩ = some (.int .i64 i.e) := (HS1.out.below h.below).cell 2
      have m3 : w'.cell? ⟨w.heap.size, 3, none⟩ = some (.int .i64 i.a) := (HS1.out.below h.below).cell 3
      have m4 : w'.cell? ⟨w.heap.size, 4, none⟩ = some (.int .i64 i.b) := (HS1.out.below h.below).cell 4
      have m5 : w'.cell? ⟨w.heap.size, 5, none⟩ = some (.int .i64 i.c) := (HS1.out.below h.below).cell 5
      have m6 : w'.cell? ⟨w.heap.size, 6, none⟩ = some (.int .i32 i.imm) := (HS1.out.below h.below).cell 6
      have m7 : w'.cell? ⟨w.heap.size, 7, none⟩ = some (.slice A n k) := (HS1.out.below h.below).cell 7
      go_wp2
      exact behind1 ⟨_, _, _, _, _, _, rfl, h.p2⟩
    · refine wpOp_list _ rfl ?_
      obtain rfl := h.l2 (hw ⟨2, .data⟩ (by simp) rfl)
      go_wp2_with fail
      refine (targets_any _ _ _ _ _ _ _ _ _ _ _).mono ?_
      rintro e' w5 ⟨rfl, hb5⟩
      rw [HXA.out, HXB.out]
      go_wp2_with fail
      exact behind1 ⟨_, _, _, _, _, _, rfl, (h.world hb5).p3⟩
    · refine wpOp_list _ rfl ?_
      go_wp2
      exact behind1 ⟨_, _, _, _, _, _, rfl, h.p4 hn⟩
    · refine wpOp_list _ rfl ?_
      go_wp2
      exact behind1 ⟨_, _, _, _, _, _, rfl, h.p5 hn⟩
    · refine wpOp_list _ rfl ?_
      have h4 := hw ⟨4, .data⟩ (by simp) rfl
      obtain ⟨b, hx, hge, hz, _⟩ := h.l4 h4
      obtain rfl := h.l1 (hw ⟨1, .data⟩ (by simp) rfl)
      have hz := hz (getD_not hn)
      have z0 := hz.cell 0
      have z1 := hz.cell 1
      have z2 := hz.cell 2
      have y0 := hz.frozen 0
      have y1 := hz.frozen 1
      have y2 := hz.frozen 2
      have H := Lib.hid (h.p6 hn h4 hx _ _ _ rfl)
      clear hz
      subst hx
      go_wp2
      exact behind1 ⟨_, _, _, _, _, _, rfl, H.out⟩
    · refine wpOp_list _ rfl ?_
      have h4 := hw ⟨5, .data⟩ (by simp) rfl
      obtain ⟨b, hx, hge, hz, _⟩ := h.l5 h4
      obtain rfl := h.l3 (hw ⟨3, .data⟩ (by simp) rfl)
      have hz := hz (getD_not hn)
      have z0 := hz.cell 0
      have z1 := hz.cell 1
      have y0 := hz.frozen 0
      have y1 := hz.frozen 1
      have H := Lib.hid (h.p7 hn h4 hx _ _ rfl)
      clear hz
      subst hx
      go_wp2
      exact behind1 ⟨_, _, _, _, _, _, rfl, H.out⟩
  case hend =>
    intro L a w5 hall hI
    obtain ⟨x24, x25, x26, x27, x10, x11, rfl, h⟩ := hI
    obtain ⟨b10, rfl, hge10, _, hs10⟩ := h.l4 (hall 4 (by decide))
    obtain ⟨b11, rfl, hge11, _, hs11⟩ := h.l5 (hall 5 (by decide))
    obtain rfl := h.l0 (hall 0 (by decide))
    obtain rfl := h.l1 (hall 1 (by decide))
    obtain rfl := h.l2 (hall 2 (by decide))
    obtain rfl := h.l3 (hall 3 (by decide))
    have hs10 := hs10 (hall 6 (by decide))
    have hs11 := hs11 (hall 7 (by decide))
    have HSZ2 := Lib.hid (show w.heap.size ≤ w2.heap.size from HB2S.out)
    have HB5 := Lib.hid (HB4.out.trans (h.below.mono HB4.out.size))
    have HS1 := Lib.hid (HS1.out.below h.below)
    have HS4 := Lib.hid (HS4.out.below h.below)
    have HT4 := Lib.hid (HT4.out.below h.below)
    have HS10 := Lib.hid hs10
    have HS11 := Lib.hid hs11
    clear hs10 hs11 h hall
    have o1 : w5.cell? ⟨w2.heap.size, 1, none⟩ = some (.int .i64 tk) := HS4.out.cell 1
    have hle : tk ≤ 3 := by rw [← HTK.out]; exact takesN_le _
    have hcut := fun w => run_cut3 w b10 tk hle
    have hmt := fun f w => row_get f (some ⟨gR, 4, none⟩) 16 16 w
    go_wp2_with fail
    go_loopw [12, 13, 32] (fun _ _ j wr => ∃ q : Nat, q ≤ tk ∧ j = .int .i64 q ∧ But (w2.heap.size + 1) w5 wr ∧ Str wr (w2.heap.size + 1) 111 [.int .i32 (if 1 ≤ q then getP l i.a else 0), .int .i32 (if 2 ≤ q then getP l i.b else 0), .int .i32 (if 3 ≤ q then getP l i.c else 0)]) (fun _ _ j _ => tk - (intOf j).toNat)
    case atStart => exact ⟨0, Nat.zero_le _, rfl, But.refl _ _, HT4.out⟩
    case round =>
      obtain ⟨q, hq, rfl, hbt, hsw⟩ := hrel
      have HBT := Lib.hid hbt
      have HSW := Lib.hid hsw
      have HRR := Lib.hid (show Rg B gR ps qs wr l from Rg.but (HR.out.below HB5.out) hbt (fun e => by have := (Rg.where_ HR.out e).2; have := HB5.out.size; have := HSZ2.out; omega))
      clear hbt hsw
      by_cases hlt : q < tk
      · have hq3 : q = 0 ∨ q = 1 ∨ q = 2 := by omega
        rcases hq3 with rfl | rfl | rfl
        · have hc : wr.cell? ⟨b10, 0, none⟩ = some (.int .i64 i.a) := (HBT.out.str HS10.out (str_ne HS10.out HT4.out (by decide))).cell 0
          have hz : wr.cell? ⟨w2.heap.size + 1, 0, none⟩ = some (.int .i32 0) := HSW.out.cell 0
          have hy : wr.frozen? ⟨w2.heap.size + 1, 0, none⟩ = false := HSW.out.frozen 0
          go_wp2_with fail
          refine (rowget_any _ _ l i.a (Rg.words HRR.out)).mono ?_
          rintro e' w6 ⟨rfl, rfl⟩
          have HGO := Lib.hid (show But (w2.heap.size + 1) w5 (w6.setCell ⟨w2.heap.size + 1, 0, none⟩ (.int .i32 (getP l i.a))) ∧ Str (w6.setCell ⟨w2.heap.size + 1, 0, none⟩ (.int .i32 (getP l i.a))) (w2.heap.size + 1) 111 [.int .i32 (if 1 ≤ 1 then getP l i.a else 0), .int .i32 (if 2 ≤ 1 then getP l i.b else 0), .int .i32 (if 3 ≤ 1 then getP l i.c else 0)] from ⟨HBT.out.trans (but_set _ _ _ _), HSW.out.set 0 _⟩)
          go_wp2_with fail
          exact ⟨⟨1, by omega, rfl, HGO.out.1, HGO.out.2⟩, by simp [intOf]; omega⟩
        · have hc : wr.cell? ⟨b10, 1, none⟩ = some (.int .i64 i.b) := (HBT.out.str HS10.out (str_ne HS10.out HT4.out (by decide))).cell 1
          have hz : wr.cell? ⟨w2.heap.size + 1, 1, none⟩ = some (.int .i32 0) := HSW.out.cell 1
          have hy : wr.frozen? ⟨w2.heap.size + 1, 1, none⟩ = false := HSW.out.frozen 1
          go_wp2_with fail
          refine (rowget_any _ _ l i.b (Rg.words HRR.out)).mono ?_
          rintro e' w6 ⟨rfl, rfl⟩
          have HGO := Lib.hid (show But (w2.heap.size + 1) w5 (w6.setCell ⟨w2.heap.size + 1, 1, none⟩ (.int .i32 (getP l i.b))) ∧ Str (w6.setCell ⟨w2.heap.size + 1, 1, none⟩ (.int .i32 (getP l i.b))) (w2.heap.size + 1) 111 [.int .i32 (if 1 ≤ 2 then getP l i.a else 0), .int .i32 (if 2 ≤ 2 then getP l i.b else 0), .int .i32 (if 3 ≤ 2 then getP l i.c else 0)] from ⟨HBT.out.trans (but_set _ _ _ _), HSW.out.set 1 _⟩)
          go_wp2_with fail
          exact ⟨⟨2, by omega, rfl, HGO.out.1, HGO.out.2⟩, by simp [intOf]; omega⟩
        · have hc : wr.cell? ⟨b10, 2, none⟩ = some (.int .i64 i.c) := (HBT.out.str HS10.out (str_ne HS10.out HT4.out (by decide))).cell 2
          have hz : wr.cell? ⟨w2.heap.size + 1, 2, none⟩ = some (.int .i32 0) := HSW.out.cell 2
          have hy : wr.frozen? ⟨w2.heap.size + 1, 2, none⟩ = false := HSW.out.frozen 2
          go_wp2_with fail
          refine (rowget_any _ _ l i.c (Rg.words HRR.out)).mono ?_
          rintro e' w6 ⟨rfl, rfl⟩
          have HGO := Lib.hid (show But (w2.heap.size + 1) w5 (w6.setCell ⟨w2.heap.size + 1, 2, none⟩ (.int .i32 (getP l i.c))) ∧ Str (w6.setCell ⟨w2.heap.size + 1, 2, none⟩ (.int .i32 (getP l i.c))) (w2.heap.size + 1) 111 [.int .i32 (if 1 ≤ 3 then getP l i.a else 0), .int .i32 (if 2 ≤ 3 then getP l i.b else 0), .int .i32 (if 3 ≤ 3 then getP l i.c else 0)] from ⟨HBT.out.trans (but_set _ _ _ _), HSW.out.set 2 _⟩)
          go_wp2_with fail
          exact ⟨⟨3, by omega, rfl, HGO.out.1, HGO.out.2⟩, by simp [intOf]; omega⟩
      · obtain rfl : q = tk := by omega
        have hfx := HFX.out
        rw [HTK.out] at hfx
        have HSO := Lib.hid (HBT.out.str HS4.out (str_ne HS4.out HT4.out (by decide)))
        have HSI := Lib.hid (HBT.out.str HS1.out (str_ne HS1.out HT4.out (by decide)))
        have HS11 := Lib.hid (HBT.out.str HS11.out (str_ne HS11.out HT4.out (by decide)))
        have HMM := Lib.hid (show OwnWords B wr (.slice mA mn mc) m from OwnWords.but (HM.out.below HB5.out) HBT.out (fun e => by have := (OwnWords.where_ HM.out e).2; have := HB5.out.size; have := HSZ2.out; omega))
        have HTW := Lib.hid (Two.but (r := (Value.slice (some ⟨gR, 4, none⟩) 16 16).ownBlock) (m := (Value.slice mA mn mc).ownBlock) (Two.of_below HB5.out) HBT.out (by have := HSZ2.out; omega))
        have HCALL := Lib.hid (hfx wr HMM.out)
        have hfn := HFN.out
        clear hfx
        generalize (if 1 ≤ q then getP l i.a else 0) = t0 at *
        generalize (if 2 ≤ q then getP l i.b else 0) = t1 at *
        generalize (if 3 ≤ q then getP l i.c else 0) = t2 at *
        have o2 : wr.cell? ⟨w2.heap.size, 2, none⟩ = some (.func (.func F) #[] #[]) := HSO.out.cell 2
        have i0 : wr.cell? ⟨w.heap.size, 0, none⟩ = some (.int .i64 i.op) := HSI.out.cell 0
        have i1 : wr.cell? ⟨w.heap.size, 1, none⟩ = some (.int .i64 i.d) := HSI.out.cell 1
        have i2 : wr.cell? ⟨w.heap.size, 2, none⟩ = some (.int .i64 i.e) := HSI.out.cell 2
        have i3 : wr.cell? ⟨w.heap.size, 3, none⟩ = some (.int .i64 i.a) := HSI.out.cell 3
        have i4 : wr.cell? ⟨w.heap.size, 4, none⟩ = some (.int .i64 i.b) := HSI.out.cell 4
        have i5 : wr.cell? ⟨w.heap.size, 5, none⟩ = some (.int .i64 i.c) := HSI.out.cell 5
        have i6 : wr.cell? ⟨w.heap.size, 6, none⟩ = some (.int .i32 i.imm) := HSI.out.cell 6
        have i7 : wr.cell? ⟨w.heap.size, 7, none⟩ = some (.slice A n k) := HSI.out.cell 7
        have n0 : wr.cell? ⟨w2.heap.size + 1, 0, none⟩ = some (.int .i32 t0) := HSW.out.cell 0
        have n1 : wr.cell? ⟨w2.heap.size + 1, 1, none⟩ = some (.int .i32 t1) := HSW.out.cell 1
        have n2 : wr.cell? ⟨w2.heap.size + 1, 2, none⟩ = some (.int .i32 t2) := HSW.out.cell 2
        clear HSI o1 HSW HBT
        go_wp2_with fail
        refine HCALL.out.mono ?_
        rintro e' w8 ⟨rfl, ho8, hg8⟩
        have HO8 := Lib.hid ho8
        have HG8 := Lib.hid hg8
        have hbm : ∀ x, (∃ t vs, Str wr x t vs ∧ w.heap.size ≤ x) → some x ≠ (Value.slice mA mn mc).ownBlock := fun x hx e => by obtain ⟨_, _, _, hx⟩ := hx; have := (OwnWords.where_ HM.out e.symm).2; omega
        have HS11 := Lib.hid (HS11.out.kept hg8 (hbm _ ⟨_, _, HS11.out, by have := HB4.out.size; omega⟩))
        have HSO := Lib.hid (HSO.out.kept hg8 (hbm _ ⟨_, _, HSO.out, HSZ2.out⟩))
        have HR8 := Lib.hid (show Rg B gR ps qs w8 l from Rg.kept HRR.out hg8 HAP.out)
        have HTW := Lib.hid (HTW.out.trans (Two.grown hg8))
        have HTWS := Lib.hid HTW.out.size
        clear ho8 hg8 hbm o2 i0 i1 i2 i3 i4 i5 i6 i7 n0 n1 n2 HCALL hfn
        obtain ⟨fxx, fxy, fxt, fxm⟩ := fx
        go_upto_region 12 with (fail)
        obtain ⟨W9, hW9⟩ : ∃ W9, w8.alloc (.cells #[.int .i32 fxx, .int .i32 fxy, .int .i32 0] 111) = W9 := ⟨_, rfl⟩
        rw [hW9]
        have hb9 : Below w8.heap.size w8 W9 := by rw [← hW9]; exact (Below.refl _ _).alloc (Nat.le_refl _) _
        have hs9 : Str W9 w8.heap.size 111 [.int .i32 fxx, .int .i32 fxy, .int .i32 0] := by rw [← hW9]; exact World.alloc_heap_new w8 _
        clear hW9
        have HS9 := Lib.hid hs9
        have HB9 := Lib.hid hb9
        have HTW := Lib.hid (HTW.out.trans (Two.of_below hb9))
        have HR9 := Lib.hid (HR8.out.below hb9)
        have HO9 := Lib.hid (HO8.out.below hb9)
        have p0 : W9.cell? ⟨w2.heap.size, 0, none⟩ = some (.int .i64 mk) := (HSO.out.below hb9).cell 0
        have HS11 := Lib.hid (HS11.out.below hb9)
        have HTW8 := Lib.hid (show w.heap.size ≤ w8.heap.size from by have := HB9.out.size; exact HTWS.out)
        clear hb9 hs9
        by_cases hz : fxt = 0
        · have hz1 : (fxt != 0) = false := by rw [hz]; rfl
          have HZ := Lib.hid hz
          clear hz
          have hle2 : mk ≤ 2 := by rw [← HMK.out]; exact makesN_le _
          have hcut2 := fun w => run_cut2 w b11 mk hle2
          have hms := fun f w => row_set f (some ⟨gR, 4, none⟩) 16 16 w
          have HNB := Lib.hid (show ∀ x, w.heap.size ≤ x → (Value.slice (some ⟨gR, 4, none⟩) 16 16).ownBlock ≠ some x from fun x hx e => by have := (Rg.where_ HR.out e).2; omega)
          have HL := Lib.hid (show w.heap.size ≤ b11 ∧ w.heap.size ≤ w8.heap.size from ⟨by have := HB4.out.size; omega, HTW8.out⟩)
          go_wp2_with fail
          go_loopw [16, 17, 60] (fun _ _ j wr => ∃ q : Nat, q ≤ mk ∧ j = .int .i64 q ∧ Rg B gR ps qs wr (setsF i l fxx fxy q) ∧ OwnWords B wr (.slice mA mn mc) fxm ∧ Two (Value.slice (some ⟨gR, 4, none⟩) 16 16).ownBlock (Value.slice mA mn mc).ownBlock w wr ∧ Str wr b11 90 [.int .i64 xa, .int .i64 xb] ∧ Str wr w8.heap.size 111 [.int .i32 fxx, .int .i32 fxy, .int .i32 0]) (fun _ _ j _ => mk - (intOf j).toNat)
          case atStart => exact ⟨0, Nat.zero_le _, rfl, HR9.out, HO9.out, HTW.out, HS11.out, HS9.out⟩
          case round =>
            obtain ⟨q, hq, rfl, hr1, hr2, hr3, hr4, hr5⟩ := hrel
            have G1 := Lib.hid hr1
            have G2 := Lib.hid hr2
            have G3 := Lib.hid hr3
            have G4 := Lib.hid hr4
            have G5 := Lib.hid hr5
            clear hr1 hr2 hr3 hr4 hr5
            by_cases hlt : q < mk
            · have hq3 : q = 0 ∨ q = 1 := by omega
              rcases hq3 with rfl | rfl
              · have hc : wr.cell? ⟨b11, 0, none⟩ = some (.int .i64 xa) := G4.out.cell 0
                have hd : wr.cell? ⟨w8.heap.size, 0, none⟩ = some (.int .i32 fxx) := G5.out.cell 0
                go_wp2_with fail
                refine (rowsetQ_any _ B gR ps qs (setsF i l fxx fxy 0) xa fxx G1.out).mono ?_
                rintro e' w10 ⟨rfl, ho, hbt⟩
                have K1 := Lib.hid (show Rg B gR ps qs w10 (setsF i l fxx fxy 1) by unfold setsF; rw [HXA.out]; exact ho)
                have K2 := Lib.hid (OwnWords.set_kept G2.out hbt HAP.out)
                have K3 := Lib.hid (G3.out.trans (Two.set hbt))
                have K4 := Lib.hid (Str.set_kept G4.out hbt (HNB.out _ HL.out.1))
                have K5 := Lib.hid (Str.set_kept G5.out hbt (HNB.out _ HL.out.2))
                clear ho hbt
                go_wp2_with fail
                exact ⟨⟨1, by omega, rfl, K1.out, K2.out, K3.out, K4.out, K5.out⟩, by simp [intOf]; omega⟩
              · have hc : wr.cell? ⟨b11, 1, none⟩ = some (.int .i64 xb) := G4.out.cell 1
                have hd : wr.cell? ⟨w8.heap.size, 1, none⟩ = some (.int .i32 fxy) := G5.out.cell 1
                go_wp2_with fail
                refine (rowsetQ_any _ B gR ps qs (setsF i l fxx fxy 1) xb fxy G1.out).mono ?_
                rintro e' w10 ⟨rfl, ho, hbt⟩
                have K1 := Lib.hid (show Rg B gR ps qs w10 (setsF i l fxx fxy 2) by unfold setsF; rw [HXB.out]; exact ho)
                have K2 := Lib.hid (OwnWords.set_kept G2.out hbt HAP.out)
                have K3 := Lib.hid (G3.out.trans (Two.set hbt))
                have K4 := Lib.hid (Str.set_kept G4.out hbt (HNB.out _ HL.out.1))
                have K5 := Lib.hid (Str.set_kept G5.out hbt (HNB.out _ HL.out.2))
                clear ho hbt
                go_wp2_with fail
                exact ⟨⟨2, by omega, rfl, K1.out, K2.out, K3.out, K4.out, K5.out⟩, by simp [intOf]; omega⟩
            · obtain rfl : q = mk := by omega
              go_wp2_with fail
              go_ret2
              refine ⟨by rw [show (fxt == 0) = true from beq_iff_eq.2 HZ.out, HZ.out]; rfl, ?_, G2.out, G3.out⟩
              unfold regsF
              rw [if_pos HZ.out, HMK.out]
              exact G1.out
        · have hz1 : (fxt != 0) = true := by simp [hz]
          have HZ := Lib.hid hz
          clear hz
          go_wp2_with fail
          go_ret2
          exact ⟨by rw [show (fxt == 0) = false from beq_eq_false_iff_ne.2 HZ.out]; rfl, by unfold regsF; rw [if_neg HZ.out]; exact HR9.out, HO9.out, HTW.out⟩
set_option maxRecDepth 100000 in
set_option maxHeartbeats 4000000 in
theorem dorowQ_any (w : World) (i : PMach) (A : Option Addr) (n k : Nat) (gR : Nat) (ps qs : List Value) (mv : Value) (B : Nat) (l m : List Int) (hr : Rg B gR ps qs w l) (hm : OwnWords B w mv m) (hl : m.length ≤ 1000000) (hap : (Value.slice (some ⟨gR, 4, none⟩) 16 16).ownBlock = none ∨ (Value.slice (some ⟨gR, 4, none⟩) 16 16).ownBlock ≠ mv.ownBlock)
    (hI : InI i.a ∧ InI i.b ∧ InI i.c ∧ InI i.d ∧ InI i.e) (hi : InW i.imm) (hw : ∀ r, InW (getP l r)) :
    Calls Try.prog 108 #[.agg #[.int .i64 i.op, .int .i64 i.d, .int .i64 i.e, .int .i64 i.a, .int .i64 i.b, .int .i64 i.c, .int .i32 i.imm, .slice A n k], .slice (some ⟨gR, 4, none⟩) 16 16, mv] w (DoPostQ B gR ps qs mv (fxM i l m) (regsM i l m) w) := by
  obtain ⟨mA, mn, mc, rfl⟩ := OwnWords.slice hm
  cases ha : actsB i.op with
  | true =>
    obtain ⟨F, hf, hF, _⟩ := fx_any w B _ m hm hl i.op i.d i.e i.a i.b i.c i.imm (if 1 ≤ takesN i.op then getP l i.a else 0) (if 2 ≤ takesN i.op then getP l i.b else 0) (if 3 ≤ takesN i.op then getP l i.c else 0) A n k hi (inW_if (hw _)) (inW_if (hw _)) (inW_if (hw _)) ha
    have e : regsM i l m = regsF i l (fxM i l m) := if_pos ha
    rw [e]
    refine dorowQ_fn w i A n k gR ps qs mA mn mc F hf hF B l m hr hm hap hI (fxM i l m) (fun w' hm' => ?_)
    obtain ⟨F', hf', _, hc⟩ := fx_any w' B _ m hm' hl i.op i.d i.e i.a i.b i.c i.imm (if 1 ≤ takesN i.op then getP l i.a else 0) (if 2 ≤ takesN i.op then getP l i.b else 0) (if 3 ≤ takesN i.op then getP l i.c else 0) A n k hi (inW_if (hw _)) (inW_if (hw _)) (inW_if (hw _)) ha
    rw [hf] at hf'
    injection hf' with hf'
    injection hf' with hf'
    subst hf'
    exact hc
  | false =>
    have e : regsM i l m = l := if_neg (by rw [ha]; simp)
    rw [e, fxM_nil ha]
    refine (dorow_nil w i A n k (some ⟨gR, 4, none⟩) mA 16 16 mn mc (fnV_nil ha)).mono ?_
    rintro e w2 ⟨rfl, hb⟩
    exact ⟨rfl, hr.below hb, hm.below hb, Two.of_below hb⟩
set_option maxRecDepth 100000 in
set_option maxHeartbeats 4000000 in
theorem mdoQ_any (w : World) (i : PMach) (A : Option Addr) (n k : Nat) (gR : Nat) (ps qs : List Value) (mv : Value) (B : Nat) (l m : List Int) (hr : Rg B gR ps qs w l) (hm : OwnWords B w mv m) (hl : m.length ≤ 1000000) (hap : (Value.slice (some ⟨gR, 4, none⟩) 16 16).ownBlock = none ∨ (Value.slice (some ⟨gR, 4, none⟩) 16 16).ownBlock ≠ mv.ownBlock)
    (hI : InI i.a ∧ InI i.b ∧ InI i.c ∧ InI i.d ∧ InI i.e) (hi : InW i.imm) (hw : ∀ r, InW (getP l r)) :
    Calls Try.prog 107 #[.agg #[.int .i64 i.op, .int .i64 i.d, .int .i64 i.e, .int .i64 i.a, .int .i64 i.b, .int .i64 i.c, .int .i32 i.imm, .slice A n k], .slice (some ⟨gR, 4, none⟩) 16 16, mv] w (DoPostQ B gR ps qs mv (fxM i l m) (regsM i l m) w) := by
  have HC := Lib.hid (fun (w' : World) (hb : Below w.heap.size w w') => dorowQ_any w' i A n k gR ps qs mv B l m (hr.below hb) (hm.below hb) hl hap hI hi hw)
  obtain ⟨mA, mn, mc, rfl⟩ := OwnWords.slice hm
  obtain ⟨f, hf⟩ : ∃ f, fxM i l m = f := ⟨_, rfl⟩
  obtain ⟨l2, hl2⟩ : ∃ l2, regsM i l m = l2 := ⟨_, rfl⟩
  rw [hf, hl2] at HC
  rw [hf, hl2]
  obtain ⟨fx, fy, ft, fm⟩ := f
  clear hr hm hap hI hi hw hf hl2
  go_enter Try.func107, Try.ntmps107
  go_upto_region 1 with (fail)
  obtain ⟨W1, hW1⟩ : ∃ W1, w.alloc (.cells #[.int .i64 i.op, .int .i64 i.d, .int .i64 i.e, .int .i64 i.a, .int .i64 i.b, .int .i64 i.c, .int .i32 i.imm, .slice A n k] 24) = W1 := ⟨_, rfl⟩
  have hbW1 : Below w.heap.size w W1 := by rw [← hW1]; exact (Below.refl _ _).alloc (Nat.le_refl _) _
  have hsW1 : Str W1 w.heap.size 24 [.int .i64 i.op, .int .i64 i.d, .int .i64 i.e, .int .i64 i.a, .int .i64 i.b, .int .i64 i.c, .int .i32 i.imm, .slice A n k] := by rw [← hW1]; exact World.alloc_heap_new w _
  rw [hW1]
  clear hW1
  have m0 : W1.cell? ⟨w.heap.size, 0, none⟩ = some (.int .i64 i.op) := hsW1.cell 0
  have m1 : W1.cell? ⟨w.heap.size, 1, none⟩ = some (.int .i64 i.d) := hsW1.cell 1
  have m2 : W1.cell? ⟨w.heap.size, 2, none⟩ = some (.int .i64 i.e) := hsW1.cell 2
  have m3 : W1.cell? ⟨w.heap.size, 3, none⟩ = some (.int .i64 i.a) := hsW1.cell 3
  have m4 : W1.cell? ⟨w.heap.size, 4, none⟩ = some (.int .i64 i.b) := hsW1.cell 4
  have m5 : W1.cell? ⟨w.heap.size, 5, none⟩ = some (.int .i64 i.c) := hsW1.cell 5
  have m6 : W1.cell? ⟨w.heap.size, 6, none⟩ = some (.int .i32 i.imm) := hsW1.cell 6
  have m7 : W1.cell? ⟨w.heap.size, 7, none⟩ = some (.slice A n k) := hsW1.cell 7
  have HB1 := Lib.hid hbW1
  clear hsW1 hbW1
  go_wp2_with fail
  refine (HC.out W1 HB1.out).mono ?_
  rintro e' w2 ⟨rfl, h1, h2, h3⟩
  have H1 := Lib.hid h1
  have H2 := Lib.hid h2
  have H3 := Lib.hid ((Two.of_below HB1.out).trans h3)
  clear h1 h2 h3
  go_wp2
  go_ret2
  exact ⟨rfl, H1.out, H2.out, H3.out⟩
end Go.Proofs.Ytdidacjmcafcpaa.Ph
