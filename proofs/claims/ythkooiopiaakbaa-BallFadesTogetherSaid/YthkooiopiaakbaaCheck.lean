/- The contracts of checkParts and CheckBall of package ball where the parts are whole. -/
import Derived.Test.YthkooiopiaakbaaDisc
import Derived.Laws.Externs
namespace Go.Proofs.Ythkooiopiaakbaa
open Go.RowKit Go.Lib
attribute [local go_sem] run_store_float run_store_complex

theorem run_bits (b : Nat) (w : World) : (callFunc 97 #[.float .f64 b]).run Try.prog w = .ok (.value (.int .u64 b)) w := by
  rw [run_callFunc_extern Try.func97 (by kernel_rfl) (by kernel_rfl) (by kernel_rfl) (e := Extern.MathFloatBits.float64bits) (by kernel_rfl)]
  rfl
theorem run_frombits (b : Nat) (w : World) : (callFunc 157 #[.int .u64 b]).run Try.prog w = .ok (.value (.float .f64 b)) w := by
  rw [run_callFunc_extern Try.func157 (by kernel_rfl) (by kernel_rfl) (by kernel_rfl) (e := Extern.MathFloatBits.float64frombits) (by kernel_rfl)]
  rfl

theorem run_trunc {b : Nat} {k : Int} (h : Rp b k) (hk : InF k) (w : World) : (callFunc 155 #[.float .f64 b]).run Try.prog w = .ok (.value (.float .f64 b)) w := by
  rw [run_callFunc_extern Try.func155 (by kernel_rfl) (by kernel_rfl) (by kernel_rfl) (e := Extern.MathFloor.toIntegral "math.archTrunc" .zero) (by kernel_rfl)]
  have e : Extern.MathFloor.toIntegral "math.archTrunc" .zero #[.float .f64 b] = pure (.float .f64 b) := by
    obtain ⟨s, m, e, hr, _, _⟩ := read_rp h hk.1 hk.2
    have ht := trunc_rp h hk
    unfold Extern.MathFloor.toIntegral
    show (match Ieee.double.read b with | .nan s t => _ | d => pure (Value.float .f64 (Ieee.double.write (d.integral .zero)))) = _
    rw [hr] at ht ⊢
    dsimp only
    rw [ht]
  rw [e]; rfl

theorem andNot_sign (b : Nat) (h : b < 18446744073709551616) : bits .andNot .u64 (b : Int) 9223372036854775808 = ((b % 9223372036854775808 : Nat) : Int) := by
  have := u64_andNot_nat b 9223372036854775808 h (by decide)
  have e : b &&& (18446744073709551615 - 9223372036854775808) = b % 9223372036854775808 := Nat.and_two_pow_sub_one_eq_mod b 63
  rw [e] at this
  exact this

set_option maxRecDepth 100000 in
set_option maxHeartbeats 400000 in
theorem math_Abs {b : Nat} {k : Int} (h : Rp b k) (hk : InF k) (w : World) : Calls Try.prog 147 #[.float .f64 b] w fun e w' => e = .returned (.float .f64 (fi (k.natAbs : Int))) ∧ w = w' := by
  have h1 := run_bits b
  have h2 := run_frombits (fi (k.natAbs : Int))
  have h3 := andNot_sign b (rp_lt h hk)
  rw [abs_rp h hk] at h3
  clear h hk
  generalize fi (k.natAbs : Int) = r at *
  go_enter Try.func147, Try.ntmps147
  go_wp2
  go_ret
  exact ⟨rfl, rfl⟩

set_option maxRecDepth 100000 in
set_option maxHeartbeats 400000 in
theorem math_Trunc {b : Nat} {k : Int} (h : Rp b k) (hk : InF k) (w : World) : Calls Try.prog 146 #[.float .f64 b] w fun e w' => e = .returned (.float .f64 b) ∧ w = w' := by
  have h1 := fun w => run_trunc h hk w
  clear h hk
  go_enter Try.func146, Try.ntmps146
  go_wp2_with fail
  go_ret
  exact ⟨rfl, rfl⟩

set_option maxRecDepth 100000 in
set_option maxHeartbeats 400000 in
theorem math_IsInf {b : Nat} {k : Int} (h : Rp b k) (hk : InF k) (w : World) : Calls Try.prog 145 #[.float .f64 b, .int .i64 0] w fun e w' => e = .returned (.bool false) ∧ w = w' := by
  have hA := Lib.hid (fun w => math_Abs h hk w)
  have hO : (FloatKind.f64.format.order (fi (k.natAbs : Int)) 9218868437227405311 == some .gt) = false := order_max (Rp_fi _) ⟨by omega, by have := hk.1; have := hk.2; omega⟩
  clear h hk
  generalize fi (k.natAbs : Int) = r at *
  go_enter Try.func145, Try.ntmps145
  go_wp2_with fail
  refine (hA.out _).mono ?_
  rintro e w' ⟨rfl, rfl⟩
  go_wp2_with fail
  go_ret
  exact ⟨rfl, rfl⟩

theorem order_self {b : Nat} {k : Int} (h : Rp b k) (hk : InF k) : (FloatKind.f64.format.order b b != some .eq) = false := by
  have : FloatKind.f64.format.order b b = some (compare k k) := order_rp h h hk hk
  rw [this]
  simp [compare, compareOfLessAndEq]

theorem order_gt {a b : Nat} {x y : Int} (ha : Rp a x) (hb : Rp b y) (hx : InF x) (hy : InF y) : (FloatKind.f64.format.order a b == some .gt) = decide (y < x) := by
  have : FloatKind.f64.format.order a b = some (compare x y) := order_rp ha hb hx hy
  rw [this]
  simp only [compare, compareOfLessAndEq]
  by_cases h1 : x < y
  · rw [if_pos h1, decide_eq_false (by omega)]; rfl
  · by_cases h2 : x = y
    · rw [if_neg h1, if_pos h2, decide_eq_false (by omega)]; rfl
    · rw [if_neg h1, if_neg h2, decide_eq_true (by omega)]; rfl

/-- The error of a centre: ErrRange if a part is greater in size than m. -/
def ckP (x y m : Int) : Int := if szB x m && szB y m then 0 else 2

theorem szB_abs {x m : Int} : decide (m < (x.natAbs : Int)) = !szB x m := by
  unfold szB
  by_cases h : m < (x.natAbs : Int)
  · rw [decide_eq_true h]
    by_cases h1 : -m ≤ x
    · rw [decide_eq_true h1, decide_eq_false (by omega)]; rfl
    · rw [decide_eq_false h1]; rfl
  · rw [decide_eq_false h, decide_eq_true (by omega), decide_eq_true (by omega)]; rfl

set_option maxHeartbeats 1000000 in
theorem checkParts_any {a b : Nat} {x y m : Int} (h : Cp a b x y) (hx : InF x) (hy : InF y) (hm : InF m) (w : World) :
    Calls Try.prog 119 #[.complex .f64 a b, .float .f64 (fi m)] w (Mem (.int .i64 (ckP x y m)) w) := by
  have habs : ∀ {z : Int}, InF z → InF (z.natAbs : Int) := fun h => ⟨by omega, by have := h.1; have := h.2; omega⟩
  have HI1 := Lib.hid (fun w => math_IsInf h.1 hx w)
  have HI2 := Lib.hid (fun w => math_IsInf h.2 hy w)
  have HT1 := Lib.hid (fun w => math_Trunc h.1 hx w)
  have HT2 := Lib.hid (fun w => math_Trunc h.2 hy w)
  have HA1 := Lib.hid (fun w => math_Abs h.1 hx w)
  have HA2 := Lib.hid (fun w => math_Abs h.2 hy w)
  have o1 := order_self h.1 hx
  have o2 := order_self h.2 hy
  have g1 := (order_gt (Rp_fi (x.natAbs : Int)) (Rp_fi m) (habs hx) hm).trans szB_abs
  have g2 := (order_gt (Rp_fi (y.natAbs : Int)) (Rp_fi m) (habs hy) hm).trans szB_abs
  have i0 : ∀ w, (Instr.index 139 (.agg #[.float .f64 a, .float .f64 b]) (.int .i64 0)).run Try.prog w = .ok (.float .f64 a) w := fun _ => by kernel_rfl
  have i1 : ∀ w, (Instr.index 139 (.agg #[.float .f64 a, .float .f64 b]) (.int .i64 1)).run Try.prog w = .ok (.float .f64 b) w := fun _ => by kernel_rfl
  clear h hx hy hm habs
  have hck : Hid (ckP x y m = if szB x m && szB y m then 0 else 2) := rfl
  generalize ckP x y m = ck at *
  generalize fi (x.natAbs : Int) = fx at *
  generalize fi (y.natAbs : Int) = fy at *
  generalize fi m = fm at *
  generalize szB x m = e1 at *
  generalize szB y m = e2 at *
  go_enter Try.func119, Try.ntmps119
  go_wp2_with fail
  refine wp_loop_rounds 3 ?_
  rw [rounds_succ]
  go_wp2_with fail
  refine (HI1.out _).mono ?_
  rintro e w1 ⟨rfl, rfl⟩
  go_wp2_with fail
  refine (HT1.out _).mono ?_
  rintro e w1 ⟨rfl, rfl⟩
  go_wp2_with fail
  rw [rounds_succ]
  go_wp2_with fail
  refine (HI2.out _).mono ?_
  rintro e w1 ⟨rfl, rfl⟩
  go_wp2_with fail
  refine (HT2.out _).mono ?_
  rintro e w1 ⟨rfl, rfl⟩
  go_wp2_with fail
  rw [rounds_succ]
  go_wp2_with fail
  refine wp_loop_rounds 3 ?_
  rw [rounds_succ]
  go_wp2_with fail
  refine (HA1.out _).mono ?_
  rintro e w1 ⟨rfl, rfl⟩
  cases e1
  · have : ck = 2 := hck.out
    subst this
    clear hck
    go_wp2_with fail
    go_ret
    exact ⟨rfl, (Below.refl _ _).alloc (Nat.le_refl _) _⟩
  · go_wp2_with fail
    rw [rounds_succ]
    go_wp2_with fail
    refine (HA2.out _).mono ?_
    rintro e w1 ⟨rfl, rfl⟩
    cases e2
    · have : ck = 2 := hck.out
      subst this
      clear hck
      go_wp2_with fail
      go_ret
      exact ⟨rfl, (Below.refl _ _).alloc (Nat.le_refl _) _⟩
    · have : ck = 0 := hck.out
      subst this
      clear hck
      go_wp2_with fail
      rw [rounds_succ]
      go_wp2_with fail
      go_ret
      exact ⟨rfl, (Below.refl _ _).alloc (Nat.le_refl _) _⟩

/-- The error of a ball whose parts are whole. -/
def ckB (x y r : Int) : Int := if szB x 67108864 && szB y 67108864 && (decide (0 ≤ r) && decide (r ≤ 67108864)) then 0 else 2

theorem fi_max : fi 67108864 = 4724276009111650304 := by decide +kernel

set_option maxHeartbeats 1000000 in
theorem CheckBall_any {a b : Nat} {x y : Int} (r : Int) (h : Cp a b x y) (hx : InF x) (hy : InF y) (w : World) :
    Calls Try.prog 142 #[.agg #[.complex .f64 a b, .int .i64 r]] w (Mem (.int .i64 (ckB x y r)) w) := by
  have HP := fun w => checkParts_any h hx hy (m := 67108864) ⟨by decide, by decide⟩ w
  rw [fi_max] at HP
  replace HP := Lib.hid HP
  clear h hx hy
  have hck : Hid (ckB x y r = if szB x 67108864 && szB y 67108864 && (decide (0 ≤ r) && decide (r ≤ 67108864)) then 0 else 2) := rfl
  unfold ckP at HP
  generalize ckB x y r = ck at *
  generalize (szB x 67108864 && szB y 67108864) = e1 at *
  cases e1
  · have : ck = 2 := hck.out
    subst this
    clear hck
    go_enter Try.func142, Try.ntmps142
    go_wp2_with fail
    refine (HP.out _).mono ?_
    rintro e w1 ⟨rfl, hb⟩
    go_wp2_with fail
    go_ret
    exact ⟨rfl, ((Below.refl _ _).alloc (Nat.le_refl _) _).trans (hb.mono (by simp))⟩
  · by_cases h0 : 0 ≤ r
    · by_cases h1 : r ≤ 67108864
      · have : ck = 0 := by rw [hck.out]; simp; omega
        subst this
        clear hck
        go_enter Try.func142, Try.ntmps142
        go_wp2_with fail
        refine (HP.out _).mono ?_
        rintro e w1 ⟨rfl, hb⟩
        have a0 : At w1 w.heap.size #[.complex .f64 a b, .int .i64 r] := At.below (At.new _ _ _) hb
        have q0 := a0.cell
        go_wp2_with fail
        go_ret
        exact ⟨rfl, ((Below.refl _ _).alloc (Nat.le_refl _) _).trans (hb.mono (by simp))⟩
      · have : ck = 2 := by rw [hck.out]; simp; omega
        subst this
        clear hck
        go_enter Try.func142, Try.ntmps142
        go_wp2_with fail
        refine (HP.out _).mono ?_
        rintro e w1 ⟨rfl, hb⟩
        have a0 : At w1 w.heap.size #[.complex .f64 a b, .int .i64 r] := At.below (At.new _ _ _) hb
        have q0 := a0.cell
        go_wp2_with fail
        go_ret
        exact ⟨rfl, ((Below.refl _ _).alloc (Nat.le_refl _) _).trans (hb.mono (by simp))⟩
    · have : ck = 2 := by rw [hck.out]; simp; omega
      subst this
      clear hck
      go_enter Try.func142, Try.ntmps142
      go_wp2_with fail
      refine (HP.out _).mono ?_
      rintro e w1 ⟨rfl, hb⟩
      have a0 : At w1 w.heap.size #[.complex .f64 a b, .int .i64 r] := At.below (At.new _ _ _) hb
      have q0 := a0.cell
      go_wp2_with fail
      go_ret
      exact ⟨rfl, ((Below.refl _ _).alloc (Nat.le_refl _) _).trans (hb.mono (by simp))⟩

end Go.Proofs.Ythkooiopiaakbaa
