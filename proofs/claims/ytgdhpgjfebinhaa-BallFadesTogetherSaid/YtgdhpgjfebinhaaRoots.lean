/- The contracts of rootDown and rootUp of package ball, and of the reference's roots. -/
import Derived.Test.YtgdhpgjfebinhaaBits
import Derived.Laws.Externs
namespace Go.Proofs.Ytgdhpgjfebinhaa
open Go.RowKit Go.Lib

theorem run_sqrt {b r : Nat} (h : Ieee.double.sqrt b = some r) (w : World) : (callFunc 147 #[.float .f64 b]).run Try.prog w = .ok (.value (.float .f64 r)) w := by
  rw [run_callFunc_extern Try.func147 (by kernel_rfl) (by kernel_rfl) (by kernel_rfl) (e := Extern.MathSqrt.sqrt) (by kernel_rfl)]
  have e : Extern.MathSqrt.sqrt #[.float .f64 b] = pure (.float .f64 r) := by
    show (match Ieee.double.sqrt b with | some r => _ | none => _) = _
    rw [h]
  rw [e]; rfl

set_option maxRecDepth 100000 in
set_option maxHeartbeats 400000 in
theorem math_Sqrt {b r : Nat} (h : Hid (Ieee.double.sqrt b = some r)) (w : World) : Calls Try.prog 137 #[.float .f64 b] w (Quiet (.float .f64 r) w) := by
  have hs := fun w => run_sqrt h.out w
  go_enter Try.func137, Try.ntmps137
  go_wp2_with fail
  go_ret
  exact ⟨rfl, 0, rfl⟩

theorem root_sq (n : Nat) (h : n < 72057594037927936) : rt n < 268435456 := lt_of_sq (b := 268435456) (Nat.lt_of_le_of_lt (rt_spec n).1 h)

/-- The root as a number, and the squares beside it. -/
theorem rt_int (n : Nat) : ((rt n : Nat) : Int) * ((rt n : Nat) : Int) ≤ (n : Int) ∧ (n : Int) < ((rt n : Nat) : Int) * ((rt n : Nat) : Int) + 2 * ((rt n : Nat) : Int) + 1 := by
  have h := rt_spec n
  have e : (rt n + 1) * (rt n + 1) = rt n * rt n + 2 * rt n + 1 := by rw [Nat.add_mul, Nat.mul_add]; omega
  rw [← Int.natCast_mul]
  have := h.1
  have := h.2
  omega

def rti (n : Int) : Int := (rt n.toNat : Nat)

theorem rti_spec (n : Int) (h : 0 ≤ n) (h' : n < 72057594037927936) : 0 ≤ rti n ∧ rti n < 268435456 ∧ rti n * rti n ≤ n ∧ n < rti n * rti n + 2 * rti n + 1 := by
  obtain ⟨m, rfl⟩ := Int.eq_ofNat_of_zero_le h
  have a := rt_int m
  have b := root_sq m (by omega)
  unfold rti
  rw [Int.toNat_natCast]
  exact ⟨by omega, by omega, a.1, a.2⟩

theorem sqrt_rti (n : Int) (h : 0 ≤ n) (h' : n < 72057594037927936) : ∃ r : Nat, ∃ t : Int, Ieee.double.sqrt (fi n) = some r ∧ floatToIntVal .f64 r .i64 = some t ∧ (t = rti n ∨ t = rti n + 1) := by
  obtain ⟨m, rfl⟩ := Int.eq_ofNat_of_zero_le h
  obtain ⟨r, t, h1, h2, h3, h4⟩ := sqrt_int m (by omega)
  refine ⟨r, t, h1, h2, ?_⟩
  unfold rti
  rw [Int.toNat_natCast]
  omega

set_option maxHeartbeats 400000 in
theorem rootDown_any (n : Int) (h : 0 ≤ n) (h' : n < 72057594037927936) (w : World) : Calls Try.prog 105 #[.int .i64 n] w (Quiet (.int .i64 (rti n)) w) := by
  obtain ⟨r, t, hs, ht, hr⟩ := sqrt_rti n h h'
  obtain ⟨r0, r1, r2, r3⟩ := rti_spec n h h'
  have HS := Lib.hid hs
  have hc := fun w => run_convert_float_int (P := Try.prog) w 114 3 .f64 .i64 r t (by rw [Try.underlying114]; rfl) Try.underlying3 ht
  clear hs ht
  have hm : 0 ≤ rti n * rti n := Int.mul_nonneg r0 r0
  rcases hr with hr | hr
  · have hle : decide (n < rti n * rti n) = false := by simp; omega
    have h9 : rti n * rti n ≤ 9007199254740992000 := by omega
    subst hr
    clear r3 r2
    go_enter Try.func105, Try.ntmps105
    go_wp2_with fail
    refine (math_Sqrt HS _).mono ?_
    rintro e w' ⟨rfl, k, rfl⟩
    go_wp2_with fail
    go_ret
    exact ⟨rfl, _, rfl⟩
  · have e2 : (rti n + 1) * (rti n + 1) = rti n * rti n + 2 * rti n + 1 := by rw [Int.add_mul, Int.mul_add]; omega
    have hle : n < (rti n + 1) * (rti n + 1) := by omega
    have hm2 : 0 ≤ (rti n + 1) * (rti n + 1) := by omega
    have hm3 : (rti n + 1) * (rti n + 1) ≤ 9007199254740992000 := by omega
    clear e2
    subst hr
    go_enter Try.func105, Try.ntmps105
    go_wp2_with fail
    refine (math_Sqrt HS _).mono ?_
    rintro e w' ⟨rfl, k, rfl⟩
    go_wp2_with fail
    go_ret
    exact ⟨by simp, _, rfl⟩

/-- The root, rounded up. -/
def rtu (n : Int) : Int := if rti n * rti n < n then rti n + 1 else rti n

set_option maxHeartbeats 400000 in
theorem rootUp_any (n : Int) (h : 0 ≤ n) (h' : n < 72057594037927936) (w : World) : Calls Try.prog 106 #[.int .i64 n] w (Quiet (.int .i64 (rtu n)) w) := by
  obtain ⟨r0, r1, r2, r3⟩ := rti_spec n h h'
  have hm : 0 ≤ rti n * rti n := Int.mul_nonneg r0 r0
  by_cases hlt : rti n * rti n < n
  · have HE : Hid (rtu n = rti n + 1) := by unfold Hid rtu; rw [if_pos hlt]
    go_enter Try.func106, Try.ntmps106
    go_wp2_with fail
    refine (rootDown_any n h h' _).mono ?_
    rintro e w' ⟨rfl, k, rfl⟩
    go_wp2_with fail
    go_ret
    rw [HE.out]
    exact ⟨rfl, _, rfl⟩
  · have HE : Hid (rtu n = rti n) := by unfold Hid rtu; rw [if_neg hlt]
    have h9 : rti n * rti n ≤ 9007199254740992000 := by omega
    have hld : decide (rti n * rti n < n) = false := by simp; omega
    clear r3 r2 hlt
    go_enter Try.func106, Try.ntmps106
    go_wp2_with fail
    refine (rootDown_any n h h' _).mono ?_
    rintro e w' ⟨rfl, k, rfl⟩
    go_wp2_with fail
    go_ret
    rw [HE.out]
    exact ⟨rfl, _, rfl⟩

/-- Root of the reference: bit by bit. -/
theorem rti_uniq {n r : Int} (h : 0 ≤ n) (h0 : 0 ≤ r) (h1 : r * r ≤ n) (h2 : n < (r + 1) * (r + 1)) : r = rti n := by
  obtain ⟨m, rfl⟩ := Int.eq_ofNat_of_zero_le h
  obtain ⟨k, rfl⟩ := Int.eq_ofNat_of_zero_le h0
  unfold rti
  rw [Int.toNat_natCast]
  have e := rt_eq (n := m) (r := k) ⟨by exact_mod_cast h1, by exact_mod_cast h2⟩
  rw [e]

/-- Where the bitwise root stands: 2 to the power of t, the bit half of it. -/
def RootAt (n r B : Int) : Prop := ∃ t : Nat, t ≤ 31 ∧ B = 2 ^ t / 2 ∧ 0 ≤ r ∧ r + 2 ^ t ≤ 2147483648 ∧ r * r ≤ n ∧ n < (r + 2 ^ t) * (r + 2 ^ t)

theorem RootAt.start {n : Int} (h : 0 ≤ n) (h' : n ≤ 1152921504606846976) : RootAt n 0 1073741824 := by
  refine ⟨31, by omega, by decide, by omega, by decide, by simpa using h, ?_⟩
  have : ((0 : Int) + 2 ^ 31) * (0 + 2 ^ 31) = 4611686018427387904 := by decide
  omega

theorem RootAt.pos {n r B : Int} (h : RootAt n r B) (hB : 0 < B) : 0 ≤ r ∧ r + 2 * B ≤ 2147483648 ∧ 0 ≤ (r + B) * (r + B) ∧ (r + B) * (r + B) ≤ 4611686018427387904 ∧
    ((r + B) * (r + B) ≤ n → RootAt n (r + B) (B / 2)) ∧ (¬ (r + B) * (r + B) ≤ n → RootAt n r (B / 2)) := by
  obtain ⟨t, ht, hb, h0, h1, h2, h3⟩ := h
  match t, ht with
  | 0, _ => rw [hb] at hB; exact absurd hB (by decide)
  | t + 1, ht =>
    have hp : (2 : Int) ^ (t + 1) = 2 * 2 ^ t := by rw [Int.pow_succ, Int.mul_comm]
    have hb' : B = 2 ^ t := by rw [hb, hp]; omega
    rw [hp, ← hb'] at h1 h3
    have e : r + B + B = r + 2 * B := by omega
    refine ⟨h0, h1, Int.mul_nonneg (by omega) (by omega), ?_, ?_, ?_⟩
    · have := Int.mul_le_mul (a := r + B) (b := r + B) (c := 2147483648) (d := 2147483648) (by omega) (by omega) (by omega) (by omega)
      omega
    · intro hle
      refine ⟨t, by omega, by rw [hb'], by omega, by rw [← hb']; omega, hle, ?_⟩
      rw [← hb', e]; exact h3
    · intro hle
      exact ⟨t, by omega, by rw [hb'], h0, by rw [← hb']; omega, h2, by rw [← hb']; omega⟩

theorem RootAt.fin {n r B : Int} (hn : 0 ≤ n) (h : RootAt n r B) (hB : ¬ 0 < B) : r = rti n := by
  obtain ⟨t, ht, hb, h0, h1, h2, h3⟩ := h
  match t, ht with
  | 0, _ => exact rti_uniq hn h0 h2 (by simpa using h3)
  | t + 1, ht =>
    have hp : (2 : Int) ^ (t + 1) = 2 * 2 ^ t := by rw [Int.pow_succ, Int.mul_comm]
    have : (0 : Int) < 2 ^ t := Int.pow_pos (by decide)
    exact absurd (show 0 < B by rw [hb, hp]; omega) hB

set_option maxHeartbeats 400000 in
theorem base_Root (n : Int) (h : 0 ≤ n) (h' : n ≤ 1152921504606846976) (w : World) : Calls Try.prog 108 #[.int .i64 n] w (Quiet (.int .i64 (rti n)) w) := by
  go_enter Try.func108, Try.ntmps108
  go_wp2
  go_loop [3, 4] (fun r b => ∃ R B : Int, r = .int .i64 R ∧ b = .int .i64 B ∧ RootAt n R B) (fun _ b => (intOf b).toNat)
  case atStart => exact ⟨0, 1073741824, rfl, rfl, RootAt.start h h'⟩
  case round =>
    obtain ⟨R, B, rfl, rfl, hR⟩ := hrel
    by_cases hB : 0 < B
    · obtain ⟨r0, r1, r2, r3, r4, r5⟩ := hR.pos hB
      by_cases hle : (R + B) * (R + B) ≤ n
      · have hR2 := Lib.hid (r4 hle)
        have hd : decide ((R + B) * (R + B) ≤ n) = true := by simpa using hle
        clear hle r4 r5 hR
        go_wp2
        go_round
        case rel => exact ⟨_, _, rfl, rfl, hR2.out⟩
        case measure => simp [intOf]; omega
      · have hR2 := Lib.hid (r5 hle)
        have hd : decide ((R + B) * (R + B) ≤ n) = false := by simpa using hle
        clear hle r4 r5 hR
        go_wp2
        go_round
        case rel => exact ⟨_, _, rfl, rfl, hR2.out⟩
        case measure => simp [intOf]; omega
    · have hE := Lib.hid (hR.fin h hB)
      clear hR
      go_wp2
      go_ret
      rw [hE.out]
      exact ⟨rfl, 0, rfl⟩

end Go.Proofs.Ytgdhpgjfebinhaa
