/- The contracts of balls of ranges and fractions of package ball, and of the roots of a range. -/
import Derived.Test.YthkooiopiaakbaaSizes
namespace Go.Proofs.Ythkooiopiaakbaa
open Go.RowKit Go.Lib
attribute [local go_sem] run_store_float run_store_complex

/-- The error of a range, of a fraction. -/
def ckR (lo hi m : Int) : Int := if szB lo m && szB hi m then (if hi < lo then 10 else 0) else 2
def ckF (n d : Int) : Int := if szB n 1000000000 && (decide (1 ≤ d) && decide (d ≤ 1000000000)) then 0 else 2

set_option maxHeartbeats 400000 in
theorem checkRange_any (lo hi m : Int) (hm : 0 ≤ m) (hm' : m ≤ 4611686018427387904) (w : World) :
    Calls Try.prog 72 #[.agg #[.int .i64 lo, .int .i64 hi], .int .i64 m] w (Mem (.int .i64 (ckR lo hi m)) w) := by
  have H1 := Lib.hid (fun w => sized_any lo m hm hm' w)
  have H2 := Lib.hid (fun w => sized_any hi m hm hm' w)
  have hck : Hid (ckR lo hi m = if szB lo m && szB hi m then (if hi < lo then 10 else 0) else 2) := rfl
  generalize ckR lo hi m = ck at *
  generalize szB lo m = e1 at *
  generalize szB hi m = e2 at *
  clear hm hm'
  cases e1
  · have : ck = 2 := hck.out
    subst this
    clear hck
    go_enter Try.func72, Try.ntmps72
    go_wp2_with fail
    refine (H1.out _).mono ?_
    rintro e w2 ⟨rfl, rfl⟩
    go_wp2_with fail
    go_ret
    exact ⟨rfl, (Below.refl _ _).alloc (Nat.le_refl _) _⟩
  · cases e2
    · have : ck = 2 := hck.out
      subst this
      clear hck
      go_enter Try.func72, Try.ntmps72
      go_wp2_with fail
      refine (H1.out _).mono ?_
      rintro e w2 ⟨rfl, rfl⟩
      go_wp2_with fail
      refine (H2.out _).mono ?_
      rintro e w2 ⟨rfl, rfl⟩
      go_wp2_with fail
      go_ret
      exact ⟨rfl, (Below.refl _ _).alloc (Nat.le_refl _) _⟩
    · by_cases hl : hi < lo
      · have : ck = 10 := by rw [hck.out]; simp [hl]
        subst this
        clear hck
        go_enter Try.func72, Try.ntmps72
        go_wp2_with fail
        refine (H1.out _).mono ?_
        rintro e w2 ⟨rfl, rfl⟩
        go_wp2_with fail
        refine (H2.out _).mono ?_
        rintro e w2 ⟨rfl, rfl⟩
        go_wp2_with fail
        go_ret
        exact ⟨rfl, (Below.refl _ _).alloc (Nat.le_refl _) _⟩
      · have : ck = 0 := by rw [hck.out]; simp; omega
        subst this
        clear hck
        go_enter Try.func72, Try.ntmps72
        go_wp2_with fail
        refine (H1.out _).mono ?_
        rintro e w2 ⟨rfl, rfl⟩
        go_wp2_with fail
        refine (H2.out _).mono ?_
        rintro e w2 ⟨rfl, rfl⟩
        go_wp2_with fail
        go_ret
        exact ⟨rfl, (Below.refl _ _).alloc (Nat.le_refl _) _⟩

set_option maxHeartbeats 400000 in
theorem checkFrac_any (n d : Int) (w : World) :
    Calls Try.prog 76 #[.int .i64 n, .int .i64 d] w (Quiet (.int .i64 (ckF n d)) w) := by
  have H1 := Lib.hid (fun w => sized_any n 1000000000 (by decide) (by decide) w)
  have hck : Hid (ckF n d = if szB n 1000000000 && (decide (1 ≤ d) && decide (d ≤ 1000000000)) then 0 else 2) := rfl
  generalize ckF n d = ck at *
  generalize szB n 1000000000 = e1 at *
  cases e1
  · have : ck = 2 := hck.out
    subst this
    clear hck
    go_enter Try.func76, Try.ntmps76
    go_wp2_with fail
    refine (H1.out _).mono ?_
    rintro e w2 ⟨rfl, rfl⟩
    go_wp2_with fail
    go_ret
    exact ⟨rfl, 0, rfl⟩
  · by_cases h1 : 1 ≤ d
    · by_cases h2 : d ≤ 1000000000
      · have : ck = 0 := by rw [hck.out]; simp; omega
        subst this
        clear hck
        go_enter Try.func76, Try.ntmps76
        go_wp2_with fail
        refine (H1.out _).mono ?_
        rintro e w2 ⟨rfl, rfl⟩
        go_wp2_with fail
        go_ret
        exact ⟨rfl, 0, rfl⟩
      · have : ck = 2 := by rw [hck.out]; simp; omega
        subst this
        clear hck
        go_enter Try.func76, Try.ntmps76
        go_wp2_with fail
        refine (H1.out _).mono ?_
        rintro e w2 ⟨rfl, rfl⟩
        go_wp2_with fail
        go_ret
        exact ⟨rfl, 0, rfl⟩
    · have : ck = 2 := by rw [hck.out]; simp; omega
      subst this
      clear hck
      go_enter Try.func76, Try.ntmps76
      go_wp2_with fail
      refine (H1.out _).mono ?_
      rintro e w2 ⟨rfl, rfl⟩
      go_wp2_with fail
      go_ret
      exact ⟨rfl, 0, rfl⟩

theorem ckR_ok {lo hi m : Int} (h : ckR lo hi m = 0) : Sm m lo ∧ Sm m hi ∧ lo ≤ hi := by
  unfold ckR szB at h
  split at h
  · rename_i hc
    simp at hc
    split at h
    · cases h
    · exact ⟨⟨hc.1.1, hc.1.2⟩, ⟨hc.2.1, hc.2.2⟩, by omega⟩
  · cases h

theorem ckF_ok {n d : Int} (h : ckF n d = 0) : Sm 1000000000 n ∧ 1 ≤ d ∧ d ≤ 1000000000 := by
  unfold ckF szB at h
  split at h
  · rename_i hc
    simp at hc
    exact ⟨⟨hc.1.1, hc.1.2⟩, hc.2.1, hc.2.2⟩
  · cases h

def ofRangeV (lo hi : Int) : Value := if ckR lo hi 67108864 = 0 then resB ((lo + hi) / 2) 0 (hi - (lo + hi) / 2) else balV 0 0 0 (ckR lo hi 67108864)

set_option maxHeartbeats 1000000 in
theorem OfRange_any (lo hi : Int) (w : World) :
    Calls Try.prog 18 #[.agg #[.int .i64 lo, .int .i64 hi]] w (Mem (ofRangeV lo hi) w) := by
  have HC := Lib.hid (fun w => checkRange_any lo hi 67108864 (by decide) (by decide) w)
  unfold ofRangeV
  by_cases hc : ckR lo hi 67108864 = 0
  · obtain ⟨hl, hh, hle⟩ := ckR_ok hc
    rw [if_pos hc]
    rw [hc] at HC
    obtain ⟨l1, l2⟩ := hl
    obtain ⟨g1, g2⟩ := hh
    have HL := fun w => lower_any (lo + hi) 1 2 (Lib.hid (DvIn_by (X := 134217728) (Y := 1) (by omega) (by omega) (by decide) (by decide) (by decide) (by decide) (by decide) (by decide) (by decide))) w
    simp only [Int.mul_one] at HL
    have m1 : -67108864 ≤ (lo + hi) / 2 ∧ (lo + hi) / 2 ≤ 67108864 := by omega
    have HA := Lib.hid (fun w => centreAt_any ((lo + hi) / 2) 0 w)
    have HB := fun w => discBall_any (hi - (lo + hi) / 2) ⟨Rp_fi ((lo + hi) / 2), Rp_fi 0⟩ ⟨by omega, by omega⟩ ⟨by decide, by decide⟩ w
    obtain ⟨za, zb, zr, ze, hz⟩ := resB_eq ((lo + hi) / 2) 0 (hi - (lo + hi) / 2)
    rw [hz] at HB ⊢
    replace HB := Lib.hid HB
    replace HL := Lib.hid HL
    clear hz
    generalize (lo + hi) / 2 = mid at *
    have hw : IntKind.i64.wrap (hi - mid) = hi - mid := IntWalk.i64_in _ (by omega)
    unfold balV at *
    clear hc
    go_enter Try.func18, Try.ntmps18
    go_wp2_with fail
    refine (HC.out _).mono ?_
    rintro e w1 ⟨rfl, hb⟩
    have a0 : At w1 w.heap.size #[.int .i64 lo, .int .i64 hi] := At.below ((At.new _ _ _).old _) hb
    have a1 : At w1 (w.heap.size + 1) #[.complex .f64 0 0, .int .i64 0] := At.below (At.new' _ _ _ (by simp)) hb
    have hbw : Below w.heap.size w w1 := (((Below.refl _ _).alloc (Nat.le_refl _) _).alloc (by simp) _).trans (hb.mono (by simp; omega))
    have q0 := a0.cell; have z0 := a0.lt
    have A0 := Lib.hid a0; have A1 := Lib.hid a1
    clear a0 a1 hb
    go_wp2_with fail
    refine (HL.out _).mono ?_
    rintro e w2 ⟨rfl, k1, rfl⟩
    go_wp2_with fail
    go_region_held3 (fun w' => w'.cell? ⟨w.heap.size, 0, none⟩ = some (.int .i64 lo) ∧ w'.cell? ⟨w.heap.size, 1, none⟩ = some (.int .i64 hi)) (simp [*, go_sem]) (first | (go_at_call 74; refine (HA.out _).mono ?_; rintro e w4 ⟨rfl, rfl⟩) | (go_at_call 75; refine (HB.out _).mono ?_; rintro e w5 ⟨rfl, hb⟩; have a3 := At.below (A0.out.drewN _) hb; have a4 := At.below (A1.out.drewN _) hb; have hbw5 := (below_drewN hbw _).trans (hb.mono (by have := hbw.size; simp; omega)); have q3 := a3.cell; have q4 := a4.cell; have f4 := a4.frozen; have z4 := a4.lt; clear a3 a4 hb))
    go_wp2_with fail
    refine bodyPost_ret (v := .tuple #[.agg #[.complex .f64 za zb, .int .i64 zr], .int .i64 ze]) (by simp [results, Try.results18, go_sem, q4]) rfl ⟨rfl, ?_⟩
    repeat (first | exact hbw5 | refine Below.drew ?_ | refine below_drewN ?_ _ | refine Below.setCell ?_ (by simp <;> omega) _ | refine Below.alloc ?_ (by simp <;> omega) _)
  · rw [if_neg hc]
    have hb0 : (ckR lo hi 67108864 == 0) = false := by simpa using hc
    have hb1 : (ckR lo hi 67108864 != 0) = true := by simpa using hc
    clear hc
    generalize ckR lo hi 67108864 = ck at *
    unfold balV
    go_enter Try.func18, Try.ntmps18
    go_wp2_with fail
    refine (HC.out _).mono ?_
    rintro e w1 ⟨rfl, hb⟩
    have a1 : At w1 (w.heap.size + 1) #[.complex .f64 0 0, .int .i64 0] := At.below (At.new' _ _ _ (by simp)) hb
    have hbw : Below w.heap.size w w1 := (((Below.refl _ _).alloc (Nat.le_refl _) _).alloc (by simp) _).trans (hb.mono (by simp; omega))
    have q1 := a1.cell; have f1 := a1.frozen; have z1 := a1.lt
    clear a1 hb
    go_wp2_with fail
    refine bodyPost_ret (v := .tuple #[.agg #[.complex .f64 0 0, .int .i64 0], .int .i64 ck]) (by simp [results, Try.results18, go_sem, q1]) rfl ⟨rfl, ?_⟩
    repeat (first | exact hbw | refine Below.drew ?_ | refine below_drewN ?_ _ | refine Below.setCell ?_ (by simp <;> omega) _ | refine Below.alloc ?_ (by simp <;> omega) _)

def fracR (n d : Int) : Int := if wholeB (n * 1048576) d && wholeB (0 * 1048576) d then 0 else 0 + 1
def ofFracV (n d : Int) : Value := if ckF n d = 0 then resB (rdiv (n * 1048576) d) (rdiv (0 * 1048576) d) (fracR n d) else balV 0 0 0 (ckF n d)

theorem rdiv_bd {z d M : Int} (hd : 0 < d) (h : -M ≤ z ∧ z ≤ M) (_hM : 0 ≤ M) : -(M + 1) ≤ rdiv z d ∧ rdiv z d ≤ M + 1 := by
  have e := rdiv_eq z hd
  have h1 : z / d ≤ M := by
    by_cases hz : 0 ≤ z
    · have := Int.ediv_le_self d hz; omega
    · have := ediv_nonpos (show z ≤ 0 by omega) hd; omega
  have h2 : -M ≤ z / d := by
    by_cases hz : 0 ≤ z
    · have := Int.ediv_nonneg hz (show 0 ≤ d by omega); omega
    · obtain ⟨k, rfl⟩ : ∃ k, z = -k := ⟨-z, by omega⟩
      have h3 := Int.ediv_le_self d (show 0 ≤ k by omega)
      have h4 := Int.ediv_nonneg (show 0 ≤ k by omega) (show 0 ≤ d by omega)
      by_cases hr : k % d = 0
      · rw [(neg_div0 hd hr).1]; omega
      · rw [(neg_div1 hd hr).1]
        have h5 : k / d < k ∨ k / d = k := by omega
        rcases h5 with h5 | h5
        · omega
        · have e6 := Int.mul_ediv_add_emod k d
          rw [h5] at e6
          have h7 : 0 < k % d := by have := Int.emod_nonneg k (show d ≠ 0 by omega); omega
          have h8 : 1 * k ≤ d * k := Int.mul_le_mul_of_nonneg_right (by omega) (by omega)
          omega
  rw [e]; split <;> omega

set_option maxHeartbeats 1000000 in
theorem OfFrac_any (n d : Int) (w : World) :
    Calls Try.prog 19 #[.int .i64 n, .int .i64 d] w (Mem (ofFracV n d) w) := by
  have HC := Lib.hid (fun w => checkFrac_any n d w)
  unfold ofFracV
  by_cases hc : ckF n d = 0
  · obtain ⟨hn, hd1, hd2⟩ := ckF_ok hc
    rw [if_pos hc]
    rw [hc] at HC
    have HA := Lib.hid (fun w => centreAt_any n 0 w)
    have d1 : DvIn n 1048576 d := DvIn_by (X := 1000000000) (Y := 1048576) (by have := hn.1; omega) hn.2 (by decide) (by decide) (by omega) (by omega) (by decide) (by decide) (by decide)
    have d2 : DvIn 0 1048576 d := DvIn_by (X := 1000000000) (Y := 1048576) (by decide) (by decide) (by decide) (by decide) (by omega) (by omega) (by decide) (by decide) (by decide)
    have HS := Lib.hid (fun w => scaled_any (a := fi n) (b := fi 0) ⟨Rp_fi n, Rp_fi 0⟩ (hn.inF (by decide)) ⟨by decide, by decide⟩ d1 d2 w)
    have HR := fun w => rounded_any (fi (rdiv (n * 1048576) d)) (fi (rdiv (0 * 1048576) d)) (wholeB (n * 1048576) d && wholeB (0 * 1048576) d) 0 (by decide) (by decide) w
    have b1 := rdiv_bd (z := n * 1048576) (d := d) (M := 1048576000000000) (by omega) (by have := hn.1; have := hn.2; omega) (by decide)
    have b2 := rdiv_bd (z := 0 * 1048576) (d := d) (M := 0) (by omega) (by omega) (by decide)
    have HB := fun w => discBall_any (fracR n d) ⟨Rp_fi (rdiv (n * 1048576) d), Rp_fi (rdiv (0 * 1048576) d)⟩ ⟨by omega, by omega⟩ ⟨by omega, by omega⟩ w
    obtain ⟨za, zb, zr, ze, hz⟩ := resB_eq (rdiv (n * 1048576) d) (rdiv (0 * 1048576) d) (fracR n d)
    rw [hz] at HB ⊢
    replace HB := Lib.hid HB
    have er : (if (wholeB (n * 1048576) d && wholeB (0 * 1048576) d) = true then (0 : Int) else 0 + 1) = fracR n d := rfl
    rw [er] at HR
    replace HR := Lib.hid HR
    clear hz hc er b1 b2 d1 d2 hn hd1 hd2
    generalize fracR n d = fr at *
    generalize (wholeB (n * 1048576) d && wholeB (0 * 1048576) d) = ex at *
    generalize fi (rdiv (n * 1048576) d) = fX at *
    generalize fi (rdiv (0 * 1048576) d) = fY at *
    unfold balV at *
    go_enter Try.func19, Try.ntmps19
    go_wp2_with fail
    refine (HC.out _).mono ?_
    rintro e w1 ⟨rfl, k1, rfl⟩
    go_wp2_with fail
    refine (HA.out _).mono ?_
    rintro e w' ⟨rfl, rfl⟩
    go_wp2_with fail
    refine (HS.out _).mono ?_
    rintro e w1 ⟨rfl, hb⟩
    have a1 := At.below ((At.new w #[.complex .f64 0 0, .int .i64 0] 27).drewN k1) hb
    have hbw : Below w.heap.size w w1 := (below_drewN ((Below.refl _ _).alloc (Nat.le_refl _) _) _).trans (hb.mono (by simp))
    have A1 := Lib.hid a1
    clear a1 hb
    go_wp2_with fail
    refine (HR.out _).mono ?_
    rintro e w2 ⟨rfl, hb⟩
    have A2 := Lib.hid (A1.out.below hb)
    have hbw2 : Below w.heap.size w w2 := hbw.trans (hb.mono hbw.size)
    clear A1 hb hbw
    go_wp2_with fail
    refine (HB.out _).mono ?_
    rintro e w3 ⟨rfl, hb⟩
    have a3 := A2.out.below hb
    have hbw3 : Below w.heap.size w w3 := hbw2.trans (hb.mono hbw2.size)
    have q3 := a3.cell; have f3 := a3.frozen; have z3 := a3.lt
    clear a3 A2 hb hbw2
    go_wp2_with fail
    refine bodyPost_ret (v := .tuple #[.agg #[.complex .f64 za zb, .int .i64 zr], .int .i64 ze]) (by simp [results, Try.results19, go_sem, q3]) rfl ⟨rfl, ?_⟩
    repeat (first | exact hbw3 | refine Below.drew ?_ | refine below_drewN ?_ _ | refine Below.setCell ?_ (by simp <;> omega) _ | refine Below.alloc ?_ (by simp <;> omega) _)
  · rw [if_neg hc]
    have hb0 : (ckF n d == 0) = false := by simpa using hc
    have hb1 : (ckF n d != 0) = true := by simpa using hc
    clear hc
    generalize ckF n d = ck at *
    unfold balV
    go_enter Try.func19, Try.ntmps19
    go_wp2_with fail
    refine (HC.out _).mono ?_
    rintro e w1 ⟨rfl, k1, rfl⟩
    go_wp2_with fail
    refine bodyPost_ret (v := .tuple #[.agg #[.complex .f64 0 0, .int .i64 0], .int .i64 ck]) (by simp [results, Try.results19, go_sem]) rfl ⟨rfl, ?_⟩
    repeat (first | exact Below.refl _ _ | refine Below.drew ?_ | refine below_drewN ?_ _ | refine Below.setCell ?_ (by simp <;> omega) _ | refine Below.alloc ?_ (by simp <;> omega) _)

end Go.Proofs.Ythkooiopiaakbaa
