/- The statement on what balls hold answers true. -/
import Derived.Test.YthkooiopiaakbaaBha
import Derived.Test.YthkooiopiaakbaaBhb
import Derived.Test.YthkooiopiaakbaaBhc
import Derived.Test.YthkooiopiaakbaaQuoi
namespace Go.Proofs.Ythkooiopiaakbaa
open Go.RowKit Go.Lib
set_option linter.unusedVariables false

theorem res_split {x y r : Int} (hr : 0 ≤ r) : (resB x y r = balV (fi x) (fi y) r 0 ∧ ckB x y r = 0) ∨ resB x y r = balV 0 0 0 8 := by
  by_cases h : okB x y r = true
  · left
    have h' := h
    unfold okB at h'
    simp only [Bool.and_eq_true, decide_eq_true_eq] at h'
    refine ⟨by unfold resB; rw [h]; rfl, ?_⟩
    unfold ckB; rw [h'.1.1, h'.1.2]; simp; omega
  · right
    have h : okB x y r = false := by simpa using h
    unfold resB; rw [h]; rfl
theorem res_small {x y r : Int} (hx : Sm 67108864 x) (hy : Sm 67108864 y) (h0 : 0 ≤ r) (hr : r ≤ 67108864) : resB x y r = balV (fi x) (fi y) r 0 ∧ ckB x y r = 0 := by
  obtain ⟨x1, x2⟩ := hx
  obtain ⟨y1, y2⟩ := hy
  have h : okB x y r = true := by unfold okB szB; simp; omega
  have h' := h
  unfold okB at h'
  simp only [Bool.and_eq_true, decide_eq_true_eq] at h'
  refine ⟨by unfold resB; rw [h]; rfl, ?_⟩
  unfold ckB; rw [h'.1.1, h'.1.2]; simp; omega
theorem ck_small {x y r : Int} (hx : Sm 67108864 x) (hy : Sm 67108864 y) (h0 : 0 ≤ r) (hr : r ≤ 67108864) : ckB x y r = 0 := (res_small hx hy h0 hr).2

theorem cdiv_nn {n d : Int} (hd : 0 < d) (h : 0 ≤ n) : 0 ≤ cdiv n d := by
  have := cdiv_ge n d hd
  by_cases hc : 0 ≤ cdiv n d
  · exact hc
  · have : d * cdiv n d < 0 := Int.mul_neg_of_pos_of_neg hd (by omega)
    omega
theorem prodR_nn {x y r u v s : Int} (hc : ckB x y r = 0) (gc : ckB u v s = 0) : 0 ≤ prodR x y u v r s := by
  obtain ⟨hx, hy, r1, r2⟩ := ckB_ok hc
  obtain ⟨hu, hv, s1, s2⟩ := ckB_ok gc
  have h1 := upw_bd hx hy
  have h2 := upw_bd hu hv
  have hs : 0 ≤ prodSpread x y u v r s := by
    unfold prodSpread
    have := Int.mul_nonneg h1.1 s1
    have := Int.mul_nonneg h2.1 r1
    have := Int.mul_nonneg r1 s1
    omega
  have := cdiv_nn (d := 1048576) (by decide) hs
  unfold prodR
  split <;> omega
theorem quoR_nn {x y r u v s : Int} (hc : ckB x y r = 0) (gc : ckB u v s = 0) (hz : 0 < dn u v - s) : 0 ≤ quoR x y u v r s := by
  obtain ⟨hx, hy, r1, r2⟩ := ckB_ok hc
  obtain ⟨hu, hv, s1, s2⟩ := ckB_ok gc
  have h1 := upw_bd hx hy
  have h2 := upw_bd hu hv
  have hs : 0 ≤ quoSpread x y u v r s := by
    unfold quoSpread
    have := Int.mul_nonneg h1.1 s1
    have := Int.mul_nonneg r1 h2.1
    omega
  have hd : 0 < quoDen u v s := by unfold quoDen; exact Int.mul_pos hz (by omega)
  have := cdiv_nn hd (Int.mul_nonneg hs (show (0 : Int) ≤ 1048576 by decide))
  unfold quoR
  split <;> omega

theorem rdiv_small {n d M : Int} (hd : 0 < d) (h : Sm (M * d) n) : Sm M (rdiv n d) := by
  obtain ⟨h1, h2⟩ := h
  obtain ⟨n1, n2⟩ := rdiv_near n d hd
  generalize rdiv n d = q at *
  constructor
  · by_cases hq : -M ≤ q
    · exact hq
    · have : d * q ≤ d * (-M - 1) := Int.mul_le_mul_of_nonneg_left (by omega) (by omega)
      rw [Int.mul_sub, Int.mul_neg, Int.mul_one, Int.mul_comm d M] at this
      omega
  · by_cases hq : q ≤ M
    · exact hq
    · have : d * (M + 1) ≤ d * q := Int.mul_le_mul_of_nonneg_left (by omega) (by omega)
      rw [Int.mul_add, Int.mul_one, Int.mul_comm d M] at this
      omega

/-- The product of two balls near to 0 is one. -/
theorem prod_near {x y r u v s : Int} (hx : Sm 4194304 x) (hy : Sm 4194304 y) (hu : Sm 4194304 u) (hv : Sm 4194304 v) (r1 : 0 ≤ r) (r2 : r ≤ 1000) (s1 : 0 ≤ s) (s2 : s ≤ 1000) :
    Sm 33554432 (prodX x y u v) ∧ Sm 33554432 (prodY x y u v) ∧ prodR x y u v r s ≤ 300000 := by
  have a1 := mul_bd hx hu (by decide)
  have a2 := mul_bd hy hv (by decide)
  have a3 := mul_bd hx hv (by decide)
  have a4 := mul_bd hy hu (by decide)
  have h1 := upw_bd (x := x) (y := y) ⟨by have := hx.1; omega, by have := hx.2; omega⟩ ⟨by have := hy.1; omega, by have := hy.2; omega⟩
  have h2 := upw_bd (x := u) (y := v) ⟨by have := hu.1; omega, by have := hu.2; omega⟩ ⟨by have := hv.1; omega, by have := hv.2; omega⟩
  refine ⟨rdiv_small (by decide) ⟨by omega, by omega⟩, rdiv_small (by decide) ⟨by omega, by omega⟩, ?_⟩
  have b1 := mul_bd0 h1.1 h1.2 s1 s2
  have b2 := mul_bd0 h2.1 h2.2 r1 r2
  have b3 := mul_bd0 r1 r2 s1 s2
  have hsp : prodSpread x y u v r s ≤ 268437000000 := by unfold prodSpread; omega
  unfold prodR cdiv
  split <;> omega

theorem holds_any {X Y R x y b : Int} (hc : ckB X Y R = 0) (b0 : 0 < b) (b1 : b ≤ 1048576) (h : Hlds X Y R x y b) (w : World) :
    Calls Try.prog 48 #[.agg #[.complex .f64 (fi X) (fi Y), .int .i64 R], .int .i64 x, .int .i64 y, .int .i64 b] w (Mem (.bool true) w) := by
  obtain ⟨⟨x1, x2⟩, ⟨y1, y2⟩, r1, r2⟩ := ckB_ok hc
  have cx : Cp (fi X) (fi Y) X Y := ⟨Rp_fi _, Rp_fi _⟩
  have ix : InF X := ⟨by omega, by omega⟩
  have iy : InF Y := ⟨by omega, by omega⟩
  have CK := fun w => CheckRef_any R cx ix iy w
  rw [hc] at CK
  have OF := fun w => Of_any R cx ix iy w
  by_cases hr : 2000 < R
  · exact holds_far hr (Lib.hid CK) (Lib.hid OF) w
  · have m1 := mul_bd (a := X) (b := b) (A := 67108864) (B := 1048576) ⟨by omega, by omega⟩ ⟨by omega, by omega⟩ (by decide)
    have m2 := mul_bd (a := Y) (b := b) (A := 67108864) (B := 1048576) ⟨by omega, by omega⟩ ⟨by omega, by omega⟩ (by decide)
    have m3 := mul_bd0 (a := R) (b := b) (A := 2000) (B := 1048576) (by omega) (by omega) (by omega) (by omega)
    have h' : Nrm (R * b) (x - X * b) (y - Y * b) := Nrm.cast h (Int.mul_comm _ _) (by rw [Int.mul_comm]) (by rw [Int.mul_comm])
    have f1 := h'.fst
    have f2 := h'.snd
    obtain ⟨h0, hs⟩ := h'
    have s1 := sq_bd (M := 2097152000) (x := x - X * b) ⟨by omega, by omega⟩
    have s2 := sq_bd (M := 2097152000) (x := y - Y * b) ⟨by omega, by omega⟩
    have s3 := sq_bd (M := 2097152000) (x := R * b) ⟨by omega, by omega⟩
    have W1 := fun w => within_mem (x - X * b) (-(R * b)) (R * b) w
    have W2 := fun w => within_mem (y - Y * b) (-(R * b)) (R * b) w
    have e1 : wiB (x - X * b) (-(R * b)) (R * b) = true := by unfold wiB; simp; omega
    have e2 : wiB (y - Y * b) (-(R * b)) (R * b) = true := by unfold wiB; simp; omega
    rw [e1] at W1
    rw [e2] at W2
    exact holds_near (by omega) rfl rfl rfl rfl rfl rfl rfl hs ⟨by omega, by omega⟩ ⟨by omega, by omega⟩ ⟨by omega, by omega⟩ ⟨by omega, by omega⟩ ⟨by omega, by omega⟩ ⟨by omega, by omega⟩ ⟨by omega, by omega⟩ ⟨by omega, by omega⟩ ⟨by omega, by omega⟩
      (Lib.hid CK) (Lib.hid OF) (Lib.hid W1) (Lib.hid W2) w

theorem wiB_true {n lo hi : Int} (h : wiB n lo hi = true) : lo ≤ n ∧ n ≤ hi := by
  unfold wiB at h; simpa using h
theorem cutI_near {x : Int} (h : Sm 4194304 x) : cutI x = x := by
  obtain ⟨h1, h2⟩ := h
  unfold cutI; rw [if_neg (by omega), if_neg (by omega)]
theorem wrap_of {n : Int} (h : Sm 4611686018427387904 n) : IntKind.i64.wrap n = n := by
  obtain ⟨h1, h2⟩ := h
  exact IntWalk.i64_in _ (by constructor <;> omega)

theorem Ball_memH (x y r : Int) (w : World) : Calls Try.prog 49 #[.int .i64 x, .int .i64 y, .int .i64 r] w (Mem (.agg #[.complex .f64 (fi x) (fi y), .int .i64 r]) w) :=
  (Ball_mk x y r w).mono fun _ _ ⟨he, hw⟩ => ⟨he, hw ▸ (Below.refl _ _).alloc (by simp) _⟩

set_option maxHeartbeats 1000000 in
theorem bholds_walk (x y r u v s p0 p1 q0 q1 : Int) (w : World) :
    Calls Try.prog 8 #[.agg #[.int .i64 x, .int .i64 y, .int .i64 r], .agg #[.int .i64 u, .int .i64 v, .int .i64 s], .agg #[.int .i64 p0, .int .i64 p1, .int .i64 q0, .int .i64 q1]] w (Mem (.bool true) w) := by
  have N1 := fun w => near_whole x y r w
  have N2 := fun w => near_whole u v s w
  have A0 := fun w => within_mem p0 (-100) 100 w
  have A1 := fun w => within_mem p1 (-100) 100 w
  have B0 := fun w => within_mem q0 (-100) 100 w
  have B1 := fun w => within_mem q1 (-100) 100 w
  by_cases n1 : nearW x y r = true
  case neg => rw [show nearW x y r = false by simpa using n1] at N1; exact bh_n1 (Lib.hid N1) w
  rw [n1] at N1
  by_cases n2 : nearW u v s = true
  case neg => rw [show nearW u v s = false by simpa using n2] at N2; exact bh_n2 (Lib.hid N1) (Lib.hid N2) w
  rw [n2] at N2
  by_cases a0 : wiB p0 (-100) 100 = true
  case neg => rw [show wiB p0 (-100) 100 = false by simpa using a0] at A0; exact bh_A0 (Lib.hid N1) (Lib.hid N2) (Lib.hid A0) w
  rw [a0] at A0
  by_cases b0 : wiB q0 (-100) 100 = true
  case neg => rw [show wiB q0 (-100) 100 = false by simpa using b0] at B0; exact bh_B0 (Lib.hid N1) (Lib.hid N2) (Lib.hid A0) (Lib.hid B0) w
  rw [b0] at B0
  by_cases a1 : wiB p1 (-100) 100 = true
  case neg => rw [show wiB p1 (-100) 100 = false by simpa using a1] at A1; exact bh_A1 (Lib.hid N1) (Lib.hid N2) (Lib.hid A0) (Lib.hid B0) (Lib.hid A1) w
  rw [a1] at A1
  by_cases b1 : wiB q1 (-100) 100 = true
  case neg => rw [show wiB q1 (-100) 100 = false by simpa using b1] at B1; exact bh_B1 (Lib.hid N1) (Lib.hid N2) (Lib.hid A0) (Lib.hid B0) (Lib.hid A1) (Lib.hid B1) w
  rw [b1] at B1
  unfold nearW at n1 n2
  simp only [Bool.and_eq_true] at n1 n2
  obtain ⟨x1, x2⟩ := wiB_true n1.1
  obtain ⟨y1, y2⟩ := wiB_true n1.2.1
  obtain ⟨r1, r2⟩ := wiB_true n1.2.2
  obtain ⟨u1, u2⟩ := wiB_true n2.1
  obtain ⟨v1, v2⟩ := wiB_true n2.2.1
  obtain ⟨s1, s2⟩ := wiB_true n2.2.2
  obtain ⟨c0, c1⟩ := wiB_true a0
  obtain ⟨c2, c3⟩ := wiB_true a1
  obtain ⟨d0, d1⟩ := wiB_true b0
  obtain ⟨d2, d3⟩ := wiB_true b1
  clear n1 n2 a0 a1 b0 b1
  have hp0 := sq_bd (M := 100) (x := p0) ⟨by omega, by omega⟩
  have hp1 := sq_bd (M := 100) (x := p1) ⟨by omega, by omega⟩
  have hq0 := sq_bd (M := 100) (x := q0) ⟨by omega, by omega⟩
  have hq1 := sq_bd (M := 100) (x := q1) ⟨by omega, by omega⟩
  have hrr := sq_bd (M := 100) (x := r) ⟨by omega, by omega⟩
  have hss := sq_bd (M := 100) (x := s) ⟨by omega, by omega⟩
  have w0 : IntKind.i64.wrap (p0 * p0) = p0 * p0 := wrap_of ⟨by omega, by omega⟩
  have w1 : IntKind.i64.wrap (p1 * p1) = p1 * p1 := wrap_of ⟨by omega, by omega⟩
  have w2 : IntKind.i64.wrap (p0 * p0 + p1 * p1) = p0 * p0 + p1 * p1 := wrap_of ⟨by omega, by omega⟩
  have w3 : IntKind.i64.wrap (r * r) = r * r := wrap_of ⟨by omega, by omega⟩
  have w4 : IntKind.i64.wrap (q0 * q0) = q0 * q0 := wrap_of ⟨by omega, by omega⟩
  have w5 : IntKind.i64.wrap (q1 * q1) = q1 * q1 := wrap_of ⟨by omega, by omega⟩
  have w6 : IntKind.i64.wrap (q0 * q0 + q1 * q1) = q0 * q0 + q1 * q1 := wrap_of ⟨by omega, by omega⟩
  have w7 : IntKind.i64.wrap (s * s) = s * s := wrap_of ⟨by omega, by omega⟩
  by_cases gA : r * r < p0 * p0 + p1 * p1
  case pos => exact bh_sa (Lib.hid N1) (Lib.hid N2) (Lib.hid A0) (Lib.hid B0) (Lib.hid A1) (Lib.hid B1) w0 w1 w2 w3 (by simpa using gA) w
  by_cases gB : s * s < q0 * q0 + q1 * q1
  case pos => exact bh_sb (Lib.hid N1) (Lib.hid N2) (Lib.hid A0) (Lib.hid B0) (Lib.hid A1) (Lib.hid B1) w0 w1 w2 w3 (by simpa using gA) w4 w5 w6 w7 (by simpa using gB) w
  have hA : decide (r * r < p0 * p0 + p1 * p1) = false := by simpa using gA
  have hB : decide (s * s < q0 * q0 + q1 * q1) = false := by simpa using gB
  have hX : Hlds x y r (x + p0) (y + p1) 1 := ⟨by omega, by rw [show x + p0 - 1 * x = p0 by omega, show y + p1 - 1 * y = p1 by omega, Int.one_mul]; omega⟩
  have hU : Hlds u v s (u + q0) (v + q1) 1 := ⟨by omega, by rw [show u + q0 - 1 * u = q0 by omega, show v + q1 - 1 * v = q1 by omega, Int.one_mul]; omega⟩
  have BX := fun w => WholeBall_any x y r w
  have BY := fun w => WholeBall_any u v s w
  have fx := cutI_near (x := x) ⟨by omega, by omega⟩
  have fy := cutI_near (x := y) ⟨by omega, by omega⟩
  have fu := cutI_near (x := u) ⟨by omega, by omega⟩
  have fv := cutI_near (x := v) ⟨by omega, by omega⟩
  rw [fx, fy] at BX
  rw [fu, fv] at BY
  have hc : ckB x y r = 0 := ck_small ⟨by omega, by omega⟩ ⟨by omega, by omega⟩ (by omega) (by omega)
  have gc : ckB u v s = 0 := ck_small ⟨by omega, by omega⟩ ⟨by omega, by omega⟩ (by omega) (by omega)
  have cx : Cp (fi x) (fi y) x y := ⟨Rp_fi _, Rp_fi _⟩
  have cu : Cp (fi u) (fi v) u v := ⟨Rp_fi _, Rp_fi _⟩
  have ix : InF x := ⟨by omega, by omega⟩
  have iy : InF y := ⟨by omega, by omega⟩
  have iu : InF u := ⟨by omega, by omega⟩
  have iv : InF v := ⟨by omega, by omega⟩
  -- sums
  have PL := fun w => Plus_any r s cx ix iy cu iu iv w
  obtain ⟨ps, pc⟩ := res_small (x := x + u) (y := y + v) (r := r + s) ⟨by omega, by omega⟩ ⟨by omega, by omega⟩ (by omega) (by omega)
  rw [if_pos ⟨hc, gc⟩, ps] at PL
  have hS : Hlds (x + u) (y + v) (r + s) (x + p0 + (u + q0)) (y + p1 + (v + q1)) 1 := Nrm.cast (Hlds.plus (by decide) (by decide) hX hU) (by omega) (by omega) (by omega)
  have H1 := fun w => holds_any pc (by decide) (by decide) hS w
  -- products
  have TM := fun w => Times_any r s cx ix iy cu iu iv w
  obtain ⟨k1, k2, k3⟩ := prod_near (x := x) (y := y) (r := r) (u := u) (v := v) (s := s) ⟨by omega, by omega⟩ ⟨by omega, by omega⟩ ⟨by omega, by omega⟩ ⟨by omega, by omega⟩ r1 (by omega) s1 (by omega)
  obtain ⟨ts, tc⟩ := res_small (x := prodX x y u v) (y := prodY x y u v) (r := prodR x y u v r s) ⟨by have := k1.1; omega, by have := k1.2; omega⟩ ⟨by have := k2.1; omega, by have := k2.2; omega⟩ (prodR_nn hc gc) (by omega)
  rw [if_pos ⟨hc, gc⟩, ts] at TM
  have hP := holds_prod hc gc (by decide) (by decide) hX hU
  rw [show (1 : Int) * 1 * 1048576 = 1048576 by decide] at hP
  have H2 := fun w => holds_any tc (by decide) (by decide) hP w
  -- wraps
  have z1 := mul_bd (a := x + p0) (b := u + q0) (A := 4194404) (B := 4194404) ⟨by omega, by omega⟩ ⟨by omega, by omega⟩ (by decide)
  have z2 := mul_bd (a := y + p1) (b := v + q1) (A := 4194404) (B := 4194404) ⟨by omega, by omega⟩ ⟨by omega, by omega⟩ (by decide)
  have z3 := mul_bd (a := x + p0) (b := v + q1) (A := 4194404) (B := 4194404) ⟨by omega, by omega⟩ ⟨by omega, by omega⟩ (by decide)
  have z4 := mul_bd (a := y + p1) (b := u + q0) (A := 4194404) (B := 4194404) ⟨by omega, by omega⟩ ⟨by omega, by omega⟩ (by decide)
  have w8 : IntKind.i64.wrap (x + p0) = x + p0 := wrap_of ⟨by omega, by omega⟩
  have w9 : IntKind.i64.wrap (y + p1) = y + p1 := wrap_of ⟨by omega, by omega⟩
  have w10 : IntKind.i64.wrap (u + q0) = u + q0 := wrap_of ⟨by omega, by omega⟩
  have w11 : IntKind.i64.wrap (v + q1) = v + q1 := wrap_of ⟨by omega, by omega⟩
  have w12 : IntKind.i64.wrap (x + p0 + (u + q0)) = x + p0 + (u + q0) := wrap_of ⟨by omega, by omega⟩
  have w13 : IntKind.i64.wrap (y + p1 + (v + q1)) = y + p1 + (v + q1) := wrap_of ⟨by omega, by omega⟩
  have w14 : IntKind.i64.wrap ((x + p0) * (u + q0)) = (x + p0) * (u + q0) := wrap_of ⟨by omega, by omega⟩
  have w15 : IntKind.i64.wrap ((y + p1) * (v + q1)) = (y + p1) * (v + q1) := wrap_of ⟨by omega, by omega⟩
  have w16 : IntKind.i64.wrap ((x + p0) * (u + q0) - (y + p1) * (v + q1)) = (x + p0) * (u + q0) - (y + p1) * (v + q1) := wrap_of ⟨by omega, by omega⟩
  have w17 : IntKind.i64.wrap ((x + p0) * (v + q1)) = (x + p0) * (v + q1) := wrap_of ⟨by omega, by omega⟩
  have w18 : IntKind.i64.wrap ((y + p1) * (u + q0)) = (y + p1) * (u + q0) := wrap_of ⟨by omega, by omega⟩
  have w19 : IntKind.i64.wrap ((x + p0) * (v + q1) + (y + p1) * (u + q0)) = (x + p0) * (v + q1) + (y + p1) * (u + q0) := wrap_of ⟨by omega, by omega⟩
  -- quotients
  have QU := fun w => Quotient_all r s cx ix iy cu iu iv w
  rw [if_pos ⟨hc, gc⟩] at QU
  unfold quoV at QU
  unfold balV at *
  by_cases hz : dn u v - s ≤ 0
  · rw [if_pos hz] at QU
    exact bh_9 (Lib.hid N1) (Lib.hid N2) (Lib.hid A0) (Lib.hid B0) (Lib.hid A1) (Lib.hid B1) w0 w1 w2 w3 hA w4 w5 w6 w7 hB w8 w9 w10 w11 w12 w13 w14 w15 w16 w17 w18 w19 (Lib.hid BX) (Lib.hid BY) (Lib.hid PL) (Lib.hid H1) (Lib.hid TM) (Lib.hid H2) (Lib.hid QU) w
  · rw [if_neg hz] at QU
    have hz' : 0 < dn u v - s := by omega
    have hQ := holds_quo hc gc hz' (by decide) (by decide) hX hU
    have hf := far (D := 1) (by decide) hU (dn_sqv (x := u) (y := v) ⟨by omega, by omega⟩ ⟨by omega, by omega⟩).1 (by omega) (dn_sqv (x := u) (y := v) ⟨by omega, by omega⟩ ⟨by omega, by omega⟩).2
    have hn : 0 < (u + q0) * (u + q0) + (v + q1) * (v + q1) := Int.lt_of_lt_of_le (Int.mul_pos (by omega) (by omega)) hf
    have hqn := quoR_nn hc gc hz'
    generalize rdiv (quoN1 x y u v * 1048576) (sq2 u v) = qX at *
    generalize rdiv (quoN2 x y u v * 1048576) (sq2 u v) = qY at *
    generalize quoR x y u v r s = qR at *
    rcases res_split (x := qX) (y := qY) hqn with ⟨qs, qc⟩ | qs
    · rw [qs] at QU
      have BW := fun w => Ball_memH (u + q0) (v + q1) 0 w
      have wc : ckB (u + q0) (v + q1) 0 = 0 := ck_small ⟨by omega, by omega⟩ ⟨by omega, by omega⟩ (by omega) (by omega)
      obtain ⟨⟨e1, e2⟩, ⟨e3, e4⟩, e5, e6⟩ := ckB_ok qc
      have TT := fun w => Times_any (a := fi qX) (b := fi qY) (c := fi (u + q0)) (d := fi (v + q1)) qR 0 ⟨Rp_fi _, Rp_fi _⟩ (x := qX) (y := qY) ⟨by omega, by omega⟩ ⟨by omega, by omega⟩ ⟨Rp_fi _, Rp_fi _⟩ (u := u + q0) (v := v + q1) ⟨by omega, by omega⟩ ⟨by omega, by omega⟩ w
      rw [if_pos ⟨qc, wc⟩] at TT
      rcases res_split (x := prodX qX qY (u + q0) (v + q1)) (y := prodY qX qY (u + q0) (v + q1)) (prodR_nn qc wc) with ⟨es, ec⟩ | es
      · rw [es] at TT
        have hT := holds_prod qc wc (by omega) (by decide) hQ (Hlds.mid (X := u + q0) (Y := v + q1) (R := 0) (by decide))
        have hT' : Hlds (prodX qX qY (u + q0) (v + q1)) (prodY qX qY (u + q0) (v + q1)) (prodR qX qY (u + q0) (v + q1) qR 0) (x + p0) (y + p1) 1 := by
          refine Hlds.unscale (1048576 * ((u + q0) * (u + q0) + (v + q1) * (v + q1))) (by omega) ?_
          unfold Hlds at hT ⊢
          exact hT.cast (by grind) (by grind) (by grind)
        have H3 := fun w => holds_any ec (by decide) (by decide) hT' w
        exact bh_h0 (Lib.hid N1) (Lib.hid N2) (Lib.hid A0) (Lib.hid B0) (Lib.hid A1) (Lib.hid B1) w0 w1 w2 w3 hA w4 w5 w6 w7 hB w8 w9 w10 w11 w12 w13 w14 w15 w16 w17 w18 w19 (Lib.hid BX) (Lib.hid BY) (Lib.hid PL) (Lib.hid H1) (Lib.hid TM) (Lib.hid H2) (Lib.hid QU) (Lib.hid BW) (Lib.hid TT) (Lib.hid H3) w
      · rw [es] at TT
        exact bh_h8 (Lib.hid N1) (Lib.hid N2) (Lib.hid A0) (Lib.hid B0) (Lib.hid A1) (Lib.hid B1) w0 w1 w2 w3 hA w4 w5 w6 w7 hB w8 w9 w10 w11 w12 w13 w14 w15 w16 w17 w18 w19 (Lib.hid BX) (Lib.hid BY) (Lib.hid PL) (Lib.hid H1) (Lib.hid TM) (Lib.hid H2) (Lib.hid QU) (Lib.hid BW) (Lib.hid TT) w
    · rw [qs] at QU
      exact bh_8 (Lib.hid N1) (Lib.hid N2) (Lib.hid A0) (Lib.hid B0) (Lib.hid A1) (Lib.hid B1) w0 w1 w2 w3 hA w4 w5 w6 w7 hB w8 w9 w10 w11 w12 w13 w14 w15 w16 w17 w18 w19 (Lib.hid BX) (Lib.hid BY) (Lib.hid PL) (Lib.hid H1) (Lib.hid TM) (Lib.hid H2) (Lib.hid QU) w
end Go.Proofs.Ythkooiopiaakbaa
