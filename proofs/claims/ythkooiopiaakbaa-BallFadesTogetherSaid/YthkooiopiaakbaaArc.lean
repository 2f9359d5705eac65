/- The contracts of arcs of package ball, over what direction gives. -/
import Derived.Test.YthkooiopiaakbaaQuot
namespace Go.Proofs.Ythkooiopiaakbaa
open Go.RowKit Go.Lib
attribute [local go_sem] run_store_float run_store_complex

/-- What direction gives of m: the parts of a centre. -/
def DirOk (m cx cy : Int) : Prop := Sm 134217728 cx ∧ Sm 134217728 cy ∧ ∃ a b, Cp a b cx cy ∧ ∀ W, Calls Try.prog 150 #[.int .i64 m] W (Mem (.complex .f64 a b) W)

def arcR (lo hi : Int) : Int := if lo = hi ∧ lo % 1048576 = 0 then 0 else 2 + cdiv ((hi - (lo + hi) / 2) * 11) 7
def arcV (cx cy lo hi : Int) : Value := resB (rdiv cx 64) (rdiv cy 64) (arcR lo hi)

theorem tmod_zero (n d : Int) : (n.tmod d == 0) = (n % d == 0) := by
  rw [Bool.eq_iff_iff]
  simp only [beq_iff_eq]
  rw [← Int.dvd_iff_tmod_eq_zero, ← Int.dvd_iff_emod_eq_zero]

set_option maxHeartbeats 1000000 in
theorem arc_any {lo hi cx cy : Int} (hl : Sm 9007199254740992 lo) (hh : Sm 9007199254740992 hi) (hle : lo ≤ hi) (hd : DirOk ((lo + hi) / 2) cx cy) (w : World) :
    Calls Try.prog 126 #[.agg #[.int .i64 lo, .int .i64 hi]] w (Mem (arcV cx cy lo hi) w) := by
  obtain ⟨l1, l2⟩ := hl
  obtain ⟨g1, g2⟩ := hh
  obtain ⟨sx, sy, a, b, hab, hdir⟩ := hd
  have HD := Lib.hid hdir
  have HL := fun w => lower_any (lo + hi) 1 2 (Lib.hid (DvIn_by (X := 18014398509481984) (Y := 1) (by omega) (by omega) (by decide) (by decide) (by decide) (by decide) (by decide) (by decide) (by decide))) w
  simp only [Int.mul_one] at HL
  have m1 : lo ≤ (lo + hi) / 2 ∧ (lo + hi) / 2 ≤ hi := by omega
  have dx : DvIn cx 1 64 := DvIn_by (X := 134217728) (Y := 1) sx.1 sx.2 (by decide) (by decide) (by decide) (by decide) (by decide) (by decide) (by decide)
  have dy : DvIn cy 1 64 := DvIn_by (X := 134217728) (Y := 1) sy.1 sy.2 (by decide) (by decide) (by decide) (by decide) (by decide) (by decide) (by decide)
  have HS := fun w => scaled_any hab (sx.inF (by decide)) (sy.inF (by decide)) dx dy w
  simp only [Int.mul_one] at HS
  have du : DvIn (hi - (lo + hi) / 2) 11 7 := DvIn_by (X := 18014398509481984) (Y := 11) (by omega) (by omega) (by decide) (by decide) (by decide) (by decide) (by decide) (by decide) (by decide)
  have HU := Lib.hid (fun w => upper_any _ _ _ (Lib.hid du) w)
  have cu := cdiv_eq ((hi - (lo + hi) / 2) * 11) (d := 7) (by decide)
  have cb : -1 ≤ cdiv ((hi - (lo + hi) / 2) * 11) 7 ∧ cdiv ((hi - (lo + hi) / 2) * 11) 7 ≤ 198158383604301824 := by rw [cu]; split <;> omega
  have bx := rdiv_bd (z := cx) (d := 64) (M := 134217728) (by decide) sx (by decide)
  have by' := rdiv_bd (z := cy) (d := 64) (M := 134217728) (by decide) sy (by decide)
  have HB := fun w => discBall_any (arcR lo hi) ⟨Rp_fi (rdiv cx 64), Rp_fi (rdiv cy 64)⟩ ⟨by omega, by omega⟩ ⟨by omega, by omega⟩ w
  unfold arcV
  obtain ⟨za, zb, zr, ze, hz⟩ := resB_eq (rdiv cx 64) (rdiv cy 64) (arcR lo hi)
  rw [hz] at HB ⊢
  replace HB := Lib.hid HB
  replace HL := Lib.hid HL
  have HR : Hid (arcR lo hi = if lo = hi ∧ lo % 1048576 = 0 then 0 else 2 + cdiv ((hi - (lo + hi) / 2) * 11) 7) := rfl
  generalize fi (rdiv cx 64) = fX at *
  generalize fi (rdiv cy 64) = fY at *
  replace HS := Lib.hid HS
  clear hz du cu bx by' dx dy hab hdir sx sy
  generalize arcR lo hi = ar at *
  generalize cdiv ((hi - (lo + hi) / 2) * 11) 7 = cu at *
  generalize (lo + hi) / 2 = mid at *
  generalize (wholeB cx 64 && wholeB cy 64) = ex at *
  have tz := tmod_zero lo 1048576
  unfold balV at *
  by_cases heq : lo = hi
  · have hb1 : (lo == hi) = true := by simpa using heq
    have HQ := Lib.hid heq
    clear heq
    by_cases hz : lo % 1048576 = 0
    · have : ar = 0 := by rw [HR.out, if_pos ⟨HQ.out, hz⟩]
      subst this
      have hb2 : (lo.tmod 1048576 == 0) = true := by rw [tz]; simpa using hz
      have hb3 : (lo % 1048576 == 0) = true := by simpa using hz
      clear hz tz HR
      go_enter Try.func126, Try.ntmps126
      go_wp2_with fail
      refine (HL.out _).mono ?_
      rintro e w1 ⟨rfl, k1, rfl⟩
      go_wp2_with fail
      refine (HD.out _).mono ?_
      rintro e w2 ⟨rfl, hb⟩
      have a0 : At w2 w.heap.size #[.int .i64 lo, .int .i64 hi] := At.below (((At.new _ _ _).old _).drewN _) hb
      have a1 : At w2 (w.heap.size + 1) #[.complex .f64 0 0, .int .i64 0] := At.below ((At.new' _ _ _ (by simp)).drewN _) hb
      have hbw : Below w.heap.size w w2 := (below_drewN (((Below.refl _ _).alloc (Nat.le_refl _) _).alloc (by simp) _) _).trans (hb.mono (by simp; omega))
      have A0 := Lib.hid a0; have A1 := Lib.hid a1
      clear a0 a1 hb
      go_wp2_with fail
      refine (HS.out _).mono ?_
      rintro e w3 ⟨rfl, hb⟩
      have a0 := A0.out.below hb
      have a1 := A1.out.below hb
      have hbw3 : Below w.heap.size w w3 := hbw.trans (hb.mono hbw.size)
      have q0 := a0.cell; have z0 := a0.lt
      clear A0 A1 hb hbw a0
      have A1 := Lib.hid a1
      clear a1
      go_wp2_with fail
      refine (HU.out _).mono ?_
      rintro e w4 ⟨rfl, k2, rfl⟩
      go_wp2_with fail
      refine (HB.out _).mono ?_
      rintro e w5 ⟨rfl, hb⟩
      have a4 := At.below (A1.out.drewN _) hb
      have hbw5 : Below w.heap.size w w5 := (below_drewN hbw3 _).trans (hb.mono (by have := hbw3.size; simp; omega))
      have q4 := a4.cell; have f4 := a4.frozen; have z4 := a4.lt
      clear a4 A1 hb hbw3 q0 z0
      go_wp2_with fail
      refine bodyPost_ret (v := .tuple #[.agg #[.complex .f64 za zb, .int .i64 zr], .int .i64 ze]) (by simp [results, Try.results126, go_sem, q4]) rfl ⟨rfl, ?_⟩
      repeat (first | exact hbw5 | refine Below.drew ?_ | refine below_drewN ?_ _ | refine Below.setCell ?_ (by simp <;> omega) _ | refine Below.alloc ?_ (by simp <;> omega) _)
    · have : ar = 2 + cu := by rw [HR.out, if_neg (fun h => hz h.2)]
      subst this
      have hb2 : (lo.tmod 1048576 == 0) = false := by rw [tz]; simpa using hz
      have hb3 : (lo % 1048576 == 0) = false := by simpa using hz
      clear hz tz HR
      go_enter Try.func126, Try.ntmps126
      go_wp2_with fail
      refine (HL.out _).mono ?_
      rintro e w1 ⟨rfl, k1, rfl⟩
      go_wp2_with fail
      refine (HD.out _).mono ?_
      rintro e w2 ⟨rfl, hb⟩
      have a0 : At w2 w.heap.size #[.int .i64 lo, .int .i64 hi] := At.below (((At.new _ _ _).old _).drewN _) hb
      have a1 : At w2 (w.heap.size + 1) #[.complex .f64 0 0, .int .i64 0] := At.below ((At.new' _ _ _ (by simp)).drewN _) hb
      have hbw : Below w.heap.size w w2 := (below_drewN (((Below.refl _ _).alloc (Nat.le_refl _) _).alloc (by simp) _) _).trans (hb.mono (by simp; omega))
      have A0 := Lib.hid a0; have A1 := Lib.hid a1
      clear a0 a1 hb
      go_wp2_with fail
      refine (HS.out _).mono ?_
      rintro e w3 ⟨rfl, hb⟩
      have a0 := A0.out.below hb
      have a1 := A1.out.below hb
      have hbw3 : Below w.heap.size w w3 := hbw.trans (hb.mono hbw.size)
      have q0 := a0.cell; have z0 := a0.lt
      clear A0 A1 hb hbw a0
      have A1 := Lib.hid a1
      clear a1
      go_wp2_with fail
      refine (HU.out _).mono ?_
      rintro e w4 ⟨rfl, k2, rfl⟩
      go_wp2_with fail
      refine (HB.out _).mono ?_
      rintro e w5 ⟨rfl, hb⟩
      have a4 := At.below (A1.out.drewN _) hb
      have hbw5 : Below w.heap.size w w5 := (below_drewN hbw3 _).trans (hb.mono (by have := hbw3.size; simp; omega))
      have q4 := a4.cell; have f4 := a4.frozen; have z4 := a4.lt
      clear a4 A1 hb hbw3 q0 z0
      go_wp2_with fail
      refine bodyPost_ret (v := .tuple #[.agg #[.complex .f64 za zb, .int .i64 zr], .int .i64 ze]) (by simp [results, Try.results126, go_sem, q4]) rfl ⟨rfl, ?_⟩
      repeat (first | exact hbw5 | refine Below.drew ?_ | refine below_drewN ?_ _ | refine Below.setCell ?_ (by simp <;> omega) _ | refine Below.alloc ?_ (by simp <;> omega) _)
  · have hb1 : (lo == hi) = false := by simpa using heq
    have : ar = 2 + cu := by rw [HR.out, if_neg (fun h => heq h.1)]
    subst this
    clear heq tz HR
    go_enter Try.func126, Try.ntmps126
    go_wp2_with fail
    refine (HL.out _).mono ?_
    rintro e w1 ⟨rfl, k1, rfl⟩
    go_wp2_with fail
    refine (HD.out _).mono ?_
    rintro e w2 ⟨rfl, hb⟩
    have a0 : At w2 w.heap.size #[.int .i64 lo, .int .i64 hi] := At.below (((At.new _ _ _).old _).drewN _) hb
    have a1 : At w2 (w.heap.size + 1) #[.complex .f64 0 0, .int .i64 0] := At.below ((At.new' _ _ _ (by simp)).drewN _) hb
    have hbw : Below w.heap.size w w2 := (below_drewN (((Below.refl _ _).alloc (Nat.le_refl _) _).alloc (by simp) _) _).trans (hb.mono (by simp; omega))
    have A0 := Lib.hid a0; have A1 := Lib.hid a1
    clear a0 a1 hb
    go_wp2_with fail
    refine (HS.out _).mono ?_
    rintro e w3 ⟨rfl, hb⟩
    have a0 := A0.out.below hb
    have a1 := A1.out.below hb
    have hbw3 : Below w.heap.size w w3 := hbw.trans (hb.mono hbw.size)
    have q0 := a0.cell; have z0 := a0.lt
    clear A0 A1 hb hbw a0
    have A1 := Lib.hid a1
    clear a1
    go_wp2_with fail
    refine (HU.out _).mono ?_
    rintro e w4 ⟨rfl, k2, rfl⟩
    go_wp2_with fail
    refine (HB.out _).mono ?_
    rintro e w5 ⟨rfl, hb⟩
    have a4 := At.below (A1.out.drewN _) hb
    have hbw5 : Below w.heap.size w w5 := (below_drewN hbw3 _).trans (hb.mono (by have := hbw3.size; simp; omega))
    have q4 := a4.cell; have f4 := a4.frozen; have z4 := a4.lt
    clear a4 A1 hb hbw3 q0 z0
    go_wp2_with fail
    refine bodyPost_ret (v := .tuple #[.agg #[.complex .f64 za zb, .int .i64 zr], .int .i64 ze]) (by simp [results, Try.results126, go_sem, q4]) rfl ⟨rfl, ?_⟩
    repeat (first | exact hbw5 | refine Below.drew ?_ | refine below_drewN ?_ _ | refine Below.setCell ?_ (by simp <;> omega) _ | refine Below.alloc ?_ (by simp <;> omega) _)

def ArcV (cx cy lo hi : Int) : Value := if ckR lo hi 1099511627776 = 0 then arcV cx cy lo hi else balV 0 0 0 (ckR lo hi 1099511627776)

set_option maxHeartbeats 1000000 in
theorem Arc_any {lo hi cx cy : Int} (hd : ckR lo hi 1099511627776 = 0 → DirOk ((lo + hi) / 2) cx cy) (w : World) :
    Calls Try.prog 59 #[.agg #[.int .i64 lo, .int .i64 hi]] w (Mem (ArcV cx cy lo hi) w) := by
  have HC := Lib.hid (fun w => checkRange_any lo hi 1099511627776 (by decide) (by decide) w)
  unfold ArcV
  by_cases hc : ckR lo hi 1099511627776 = 0
  · obtain ⟨hl, hh, hle⟩ := ckR_ok hc
    rw [if_pos hc]
    rw [hc] at HC
    have HK := fun w => arc_any (lo := lo) (hi := hi) ⟨by have := hl.1; omega, by have := hl.2; omega⟩ ⟨by have := hh.1; omega, by have := hh.2; omega⟩ hle (hd hc) w
    unfold arcV at *
    obtain ⟨za, zb, zr, ze, hz⟩ := resB_eq (rdiv cx 64) (rdiv cy 64) (arcR lo hi)
    rw [hz] at HK ⊢
    replace HK := Lib.hid HK
    clear hz hc hd hl hh hle
    unfold balV at *
    go_enter Try.func59, Try.ntmps59
    go_wp2_with fail
    refine (HC.out _).mono ?_
    rintro e w1 ⟨rfl, hb⟩
    have a0 : At w1 w.heap.size #[.int .i64 lo, .int .i64 hi] := At.below ((At.new _ _ _).old _) hb
    have a1 : At w1 (w.heap.size + 1) #[.complex .f64 0 0, .int .i64 0] := At.below (At.new' _ _ _ (by simp)) hb
    have hbw : Below w.heap.size w w1 := (((Below.refl _ _).alloc (Nat.le_refl _) _).alloc (by simp) _).trans (hb.mono (by simp; omega))
    have q0 := a0.cell; have z0 := a0.lt
    have A1 := Lib.hid a1
    clear a0 a1 hb
    go_wp2_with fail
    refine (HK.out _).mono ?_
    rintro e w5 ⟨rfl, hb⟩
    have a4 := A1.out.below hb
    have hbw5 : Below w.heap.size w w5 := hbw.trans (hb.mono hbw.size)
    have q4 := a4.cell; have f4 := a4.frozen; have z4 := a4.lt
    clear a4 A1 hb hbw q0 z0
    go_wp2_with fail
    refine bodyPost_ret (v := .tuple #[.agg #[.complex .f64 za zb, .int .i64 zr], .int .i64 ze]) (by simp [results, Try.results59, go_sem, q4]) rfl ⟨rfl, ?_⟩
    repeat (first | exact hbw5 | refine Below.drew ?_ | refine below_drewN ?_ _ | refine Below.setCell ?_ (by simp <;> omega) _ | refine Below.alloc ?_ (by simp <;> omega) _)
  · rw [if_neg hc]
    have hb0 : (ckR lo hi 1099511627776 == 0) = false := by simpa using hc
    have hb1 : (ckR lo hi 1099511627776 != 0) = true := by simpa using hc
    clear hc hd
    generalize ckR lo hi 1099511627776 = ck at *
    unfold balV
    go_enter Try.func59, Try.ntmps59
    go_wp2_with fail
    refine (HC.out _).mono ?_
    rintro e w1 ⟨rfl, hb⟩
    have a1 : At w1 (w.heap.size + 1) #[.complex .f64 0 0, .int .i64 0] := At.below (At.new' _ _ _ (by simp)) hb
    have hbw : Below w.heap.size w w1 := (((Below.refl _ _).alloc (Nat.le_refl _) _).alloc (by simp) _).trans (hb.mono (by simp; omega))
    have q1 := a1.cell; have f1 := a1.frozen; have z1 := a1.lt
    clear a1 hb
    go_wp2_with fail
    refine bodyPost_ret (v := .tuple #[.agg #[.complex .f64 0 0, .int .i64 0], .int .i64 ck]) (by simp [results, Try.results59, go_sem, q1]) rfl ⟨rfl, ?_⟩
    repeat (first | exact hbw | refine Below.drew ?_ | refine below_drewN ?_ _ | refine Below.setCell ?_ (by simp <;> omega) _ | refine Below.alloc ?_ (by simp <;> omega) _)

set_option maxHeartbeats 1000000 in
theorem halved_eighth (W : World) : Calls Try.prog 158 #[.int .i64 524288] W fun e w' => e = .returned (.complex .f64 (fi 47453132) (fi 47453132)) ∧ W = w' := by
  have H1 := Lib.hid (fun w => centreAt_any 67108864 0 w)
  have H2 := Lib.hid (fun w => centreAt_any 47453132 47453132 w)
  go_enter Try.func158, Try.ntmps158
  go_wp2_with (first | (go_at_call_of 74 (Value.int IntKind.i64 67108864); refine (H1.out _).mono ?_; rintro e w' ⟨rfl, rfl⟩) | (go_at_call_of 74 (Value.int IntKind.i64 47453132); refine (H2.out _).mono ?_; rintro e w' ⟨rfl, rfl⟩))
  go_ret
  exact ⟨rfl, rfl⟩

set_option maxHeartbeats 1000000 in
/-- The direction of an eighth of a turn. -/
theorem dir_eighth : DirOk 524288 47453132 47453132 := by
  refine ⟨⟨by decide, by decide⟩, ⟨by decide, by decide⟩, fi 47453132, fi 47453132, ⟨Rp_fi _, Rp_fi _⟩, fun W => ?_⟩
  have H1 := Lib.hid (fun w => halved_eighth w)
  have hbits : bits .and .i64 524288 4194303 = 524288 := by decide +kernel
  go_enter Try.func150, Try.ntmps150
  go_wp2_with (go_at_call 158; refine (H1.out _).mono ?_; rintro e w' ⟨rfl, rfl⟩)
  go_ret
  exact ⟨rfl, Below.refl _ _⟩

end Go.Proofs.Ythkooiopiaakbaa
