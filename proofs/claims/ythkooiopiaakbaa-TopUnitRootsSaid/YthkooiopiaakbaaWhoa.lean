/- The contracts of the reference's helpers on balls of whole parts: cut, IsWhole, Parts, Of, rounded, RootUp, Up. -/
import Derived.Test.YthkooiopiaakbaaRefc
namespace Go.Proofs.Ythkooiopiaakbaa
open Go.RowKit Go.Lib
attribute [local go_sem] run_store_float run_store_complex
set_option linter.unusedVariables false

/-- A number, cut to 2^53 in size. -/
def cutI (n : Int) : Int := if n < -9007199254740992 then -9007199254740992 else if 9007199254740992 < n then 9007199254740992 else n

theorem cutI_in (n : Int) : InF (cutI n) := by
  unfold cutI InF
  split
  · omega
  · split <;> omega

set_option maxHeartbeats 400000 in
theorem cut_any (n : Int) (w : World) : Calls Try.prog 51 #[.int .i64 n] w (fun e w' => e = .returned (.int .i64 (cutI n)) ∧ w = w') := by
  have hmin : ∀ m : Int, (if n < 9007199254740992 then n else 9007199254740992) = m → (if m < -9007199254740992 then -9007199254740992 else m) = cutI n := by
    rintro m rfl
    unfold cutI
    split <;> split <;> (try split) <;> omega
  obtain ⟨m, hm⟩ : ∃ m, (if n < 9007199254740992 then n else 9007199254740992) = m := ⟨_, rfl⟩
  have h2 := hmin m hm
  clear hmin
  generalize cutI n = c at *
  by_cases k1 : n < -9007199254740992
  · have k2 : n < 9007199254740992 := by omega
    have k3 : ¬ 9007199254740992 < n := by omega
    have k4 : ¬ -9007199254740992 < n := by omega
    obtain rfl : c = -9007199254740992 := by rw [if_pos k2] at hm; subst hm; rw [if_pos k1] at h2; exact h2.symm
    clear hm h2
    go_enter Try.func51, Try.ntmps51
    go_wp2_with fail
    go_ret
    exact ⟨rfl, rfl⟩
  · by_cases k2 : 9007199254740992 < n
    · have k3 : ¬ n < 9007199254740992 := by omega
      obtain rfl : c = 9007199254740992 := by rw [if_neg k3] at hm; subst hm; exact h2.symm
      clear hm h2
      go_enter Try.func51, Try.ntmps51
      go_wp2_with fail
      go_ret
      exact ⟨rfl, rfl⟩
    · by_cases k3 : n = 9007199254740992
      · subst k3
        obtain rfl : c = 9007199254740992 := by rw [if_neg (by decide)] at hm; subst hm; exact h2.symm
        clear hm h2
        go_enter Try.func51, Try.ntmps51
        go_wp2_with fail
        go_ret
        exact ⟨rfl, rfl⟩
      · by_cases k4 : n = -9007199254740992
        · subst k4
          obtain rfl : c = -9007199254740992 := by rw [if_pos (by decide)] at hm; subst hm; exact h2.symm
          clear hm h2
          go_enter Try.func51, Try.ntmps51
          go_wp2_with fail
          go_ret
          exact ⟨rfl, rfl⟩
        · have k5 : n < 9007199254740992 := by omega
          have k6 : -9007199254740992 < n := by omega
          obtain rfl : c = n := by rw [if_pos k5] at hm; subst hm; rw [if_neg k1] at h2; exact h2.symm
          clear hm h2 k3 k4
          go_enter Try.func51, Try.ntmps51
          go_wp2_with fail
          go_ret
          exact ⟨rfl, rfl⟩

theorem order_lt {a b : Nat} {x y : Int} (ha : Rp a x) (hb : Rp b y) (hx : InF x) (hy : InF y) : (FloatKind.f64.format.order a b == some .lt) = decide (x < y) := by
  have : FloatKind.f64.format.order a b = some (compare x y) := order_rp ha hb hx hy
  rw [this]
  simp only [compare, compareOfLessAndEq]
  by_cases h1 : x < y
  · rw [if_pos h1, decide_eq_true h1]; rfl
  · by_cases h2 : x = y
    · rw [if_neg h1, if_pos h2, decide_eq_false h1]; rfl
    · rw [if_neg h1, if_neg h2, decide_eq_false h1]; rfl

set_option maxHeartbeats 400000 in
theorem refRounded_any {n d : Int} (hn : -4611686018427387904 ≤ n ∧ n ≤ 4611686018427387904) (hd : 0 < d) (hd' : d ≤ 2305843009213693952) (b : Bool) (x : Int) (hb : b = decide (n % d ≠ 0)) (hx : x = rdiv n d) (w : World) :
    Calls Try.prog 101 #[.int .i64 n, .int .i64 d] w (fun e w' => e = .returned (.tuple #[.int .i64 x, .bool b]) ∧ w = w') := by
  have HF := Lib.hid (fun w => Floor_any n d (by omega) (by omega) hd (by omega) w)
  have e := Int.mul_ediv_add_emod n d
  have r0 := Int.emod_nonneg n (show d ≠ 0 by omega)
  have r1 := Int.emod_lt_of_pos n hd
  have hc : d * (n / d) = n / d * d := Int.mul_comm _ _
  have ha := ediv_abs (n := n) hd
  rw [rdiv_eq n hd] at hx
  generalize n / d = q at *
  generalize n % d = s at *
  have hw : IntKind.i64.wrap (q * d) = q * d := IntWalk.i64_in _ (by omega)
  have hs : n - q * d = s := by omega
  have hw2 : IntKind.i64.wrap (n - q * d) = s := by rw [hs]; exact IntWalk.i64_in _ (by omega)
  have hq1 : -4611686018427387904 ≤ q ∧ q ≤ 4611686018427387904 := by omega
  clear e hc ha hs
  by_cases hle : d - s ≤ s
  · obtain rfl : x = q + 1 := by rw [hx, if_pos hle]
    obtain rfl : b = true := by rw [hb]; simp; omega
    clear hb hx
    go_enter Try.func101, Try.ntmps101
    go_wp2_with fail
    refine (HF.out _).mono ?_
    rintro e w' ⟨rfl, rfl⟩
    go_wp2_with fail
    go_ret2
    exact ⟨rfl, rfl⟩
  · obtain rfl : x = q := by rw [hx, if_neg hle]; omega
    have hb' : b = (s != 0) := by rw [hb]; by_cases h : s = 0 <;> simp [h]
    clear hb hx
    subst hb'
    go_enter Try.func101, Try.ntmps101
    go_wp2_with fail
    refine (HF.out _).mono ?_
    rintro e w' ⟨rfl, rfl⟩
    go_wp2_with fail
    go_ret2
    exact ⟨rfl, rfl⟩

set_option maxHeartbeats 400000 in
theorem refRootUp_any (n : Int) (h : 0 ≤ n) (h' : n < 72057594037927936) (w : World) : Calls Try.prog 116 #[.int .i64 n] w (Quiet (.int .i64 (rtu n)) w) := by
  have HR := Lib.hid (fun w => base_Root n h (by omega) w)
  obtain ⟨s0, s1, s2, s3⟩ := rti_spec n h h'
  have hu : rtu n = if rti n * rti n < n then rti n + 1 else rti n := rfl
  generalize rtu n = u at *
  generalize rti n = r at *
  have sq := Int.mul_nonneg s0 s0
  have hw : IntKind.i64.wrap (r * r) = r * r := IntWalk.i64_in _ (by omega)
  by_cases hlt : r * r < n
  · obtain rfl : u = r + 1 := by rw [hu, if_pos hlt]
    clear hu
    have hd : decide (r * r < n) = true := by simpa using hlt
    go_enter Try.func116, Try.ntmps116
    go_wp2_with fail
    refine (HR.out _).mono ?_
    rintro e w' ⟨rfl, n1, rfl⟩
    go_wp2_with fail
    go_ret
    exact ⟨rfl, _, rfl⟩
  · have : u = r := by rw [hu, if_neg hlt]
    subst this
    clear hu
    have hd : decide (u * u < n) = false := by simpa using hlt
    clear hlt
    go_enter Try.func116, Try.ntmps116
    go_wp2_with fail
    refine (HR.out _).mono ?_
    rintro e w' ⟨rfl, n1, rfl⟩
    go_wp2_with fail
    go_ret
    exact ⟨rfl, _, rfl⟩

theorem Parts_any {a b : Nat} {x y : Int} (h : Cp a b x y) (hx : InF x) (hy : InF y) (w : World) :
    Calls Try.prog 95 #[.complex .f64 a b] w (fun e w' => e = .returned (.tuple #[.int .i64 x, .int .i64 y]) ∧ w = w') := by
  have c1 := fun w => run_convert_float_int (P := Try.prog) w 117 3 .f64 .i64 a x (by rw [Try.underlying117]; rfl) Try.underlying3 (int_rp h.1 hx)
  have c2 := fun w => run_convert_float_int (P := Try.prog) w 117 3 .f64 .i64 b y (by rw [Try.underlying117]; rfl) Try.underlying3 (int_rp h.2 hy)
  clear h hx hy
  go_enter Try.func95, Try.ntmps95
  go_wp2
  go_ret2
  exact ⟨rfl, rfl⟩

end Go.Proofs.Ythkooiopiaakbaa
