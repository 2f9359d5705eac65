/- The contracts of what fades, of package ball and of the reference. -/
import Derived.Test.YtgdhpgjfebinhaaBase
namespace Go.Proofs.Ytgdhpgjfebinhaa
open Go.RowKit Go.Lib

/-- k is how often x is to be halved. -/
def IsH (x : Int) (k : Nat) : Prop := x ≤ 1048576 * 2 ^ k ∧ ∀ j, j < k → 1048576 * 2 ^ j < x

theorem IsH.ex {x : Int} (h : x ≤ 34359738368) : ∃ k, k ≤ 15 ∧ IsH x k := by
  have key : ∀ n : Nat, x ≤ 1048576 * 2 ^ n → ∃ k, k ≤ n ∧ IsH x k := by
    intro n
    induction n with
    | zero => intro h; exact ⟨0, Nat.le_refl _, h, fun j hj => absurd hj (by omega)⟩
    | succ n ih =>
      intro h
      by_cases h1 : x ≤ 1048576 * 2 ^ n
      · obtain ⟨k, hk, hh⟩ := ih h1
        exact ⟨k, by omega, hh⟩
      · refine ⟨n + 1, Nat.le_refl _, h, fun j hj => ?_⟩
        have : (2 : Int) ^ j ≤ 2 ^ n := by
          have := Nat.pow_le_pow_right (n := 2) (i := j) (j := n) (by decide) (by omega)
          exact_mod_cast this
        omega
  exact key 15 (by have : (2 : Int) ^ 15 = 32768 := by decide
                   omega)

theorem pow_bd {k : Nat} (h : k ≤ 15) : (1 : Int) ≤ 2 ^ k ∧ (2 : Int) ^ k ≤ 32768 := by
  have h1 := Nat.pow_le_pow_right (n := 2) (i := 0) (j := k) (by decide) (by omega)
  have h2 := Nat.pow_le_pow_right (n := 2) (i := k) (j := 15) (by decide) h
  have e1 : ((2 ^ k : Nat) : Int) = 2 ^ k := by simp
  rw [← e1]
  omega

set_option maxHeartbeats 400000 in
theorem halvings_any {x : Int} {k : Nat} (hk : k ≤ 15) (h : IsH x k) (w : World) : Calls Try.prog 141 #[.int .i64 x] w (Quiet (.int .i64 k) w) := by
  go_enter Try.func141, Try.ntmps141
  go_wp2
  go_loop [3] (fun i => ∃ j : Nat, j ≤ k ∧ i = .int .i64 j) (fun i => k - (intOf i).toNat)
  case atStart => exact ⟨0, by omega, rfl⟩
  case round =>
    obtain ⟨j, hj, rfl⟩ := hrel
    have pb := pow_bd (k := j) (by omega)
    have hj0 : (0 : Int) ≤ (j : Int) := by omega
    have hj1 : (j : Int) ≤ 15 := by omega
    by_cases hlt : j < k
    · have hx := h.2 j hlt
      go_wp2
      go_round
      case rel => exact ⟨j + 1, by omega, by go_num⟩
      case measure => simp [intOf]; omega
    · obtain rfl : j = k := by omega
      have hx : ¬ 1048576 * 2 ^ j < x := by have := h.1; omega
      go_wp2
      go_ret
      exact ⟨rfl, 0, rfl⟩

/-- f, k times over. -/
def itr (f : Int → Int) : Nat → Int → Int
  | 0, x => x
  | k + 1, x => f (itr f k x)

def stepU (f : Int) : Int := cdiv (f * f) 1073741824
def stepD (f : Int) : Int := f * f / 1073741824
def firstU (u : Int) : Int := 1073741824 - u + cdiv (u * u) 2147483648
def firstD (u : Int) : Int := 1073741824 - u + u * u / 2147483648 - cdiv (u * u * u) 6917529027641081856

theorem sq_le {f M : Int} (h0 : 0 ≤ f) (h1 : f ≤ M) : 0 ≤ f * f ∧ f * f ≤ M * M := ⟨Int.mul_nonneg h0 h0, Int.mul_le_mul h1 h1 h0 (by omega)⟩

theorem cdiv_bd {n d M : Int} (hd : 0 < d) (h0 : 0 ≤ n) (h1 : n ≤ M * d) : 0 ≤ cdiv n d ∧ cdiv n d ≤ M := by
  rw [cdiv_eq n hd]
  have e := Int.mul_ediv_add_emod n d
  have p0 := Int.emod_nonneg n (show d ≠ 0 by omega)
  have q0 := Int.ediv_nonneg h0 (show 0 ≤ d by omega)
  by_cases hr : n % d = 0
  · rw [if_pos hr]
    refine ⟨by omega, ?_⟩
    have : n / d ≤ M * d / d := Int.ediv_le_ediv hd h1
    rw [Int.mul_ediv_cancel _ (by omega)] at this
    omega
  · rw [if_neg hr]
    refine ⟨by omega, ?_⟩
    have h2 : n / d < M := by
      apply Int.not_le.1
      intro hle
      have := Int.mul_le_mul_of_nonneg_left hle (show 0 ≤ d by omega)
      have : d * M = M * d := Int.mul_comm _ _
      omega
    omega

theorem fdiv_bd {n d M : Int} (hd : 0 < d) (h0 : 0 ≤ n) (h1 : n ≤ M * d) : 0 ≤ n / d ∧ n / d ≤ M := by
  refine ⟨Int.ediv_nonneg h0 (by omega), ?_⟩
  have : n / d ≤ M * d / d := Int.ediv_le_ediv hd h1
  rw [Int.mul_ediv_cancel _ (by omega)] at this
  exact this

theorem stepU_bd {f : Int} (h0 : 0 ≤ f) (h1 : f ≤ 1073741824) : 0 ≤ stepU f ∧ stepU f ≤ 1073741824 :=
  cdiv_bd (by decide) (sq_le h0 h1).1 (by have := (sq_le h0 h1).2; omega)
theorem stepD_bd {f : Int} (h0 : 0 ≤ f) (h1 : f ≤ 1073741824) : 0 ≤ stepD f ∧ stepD f ≤ 1073741824 :=
  fdiv_bd (by decide) (sq_le h0 h1).1 (by have := (sq_le h0 h1).2; omega)

theorem itr_bd {f : Int → Int} (hf : ∀ x, 0 ≤ x → x ≤ 1073741824 → 0 ≤ f x ∧ f x ≤ 1073741824) {x : Int} (h0 : 0 ≤ x) (h1 : x ≤ 1073741824) : ∀ k, 0 ≤ itr f k x ∧ itr f k x ≤ 1073741824 := by
  intro k
  induction k with
  | zero => exact ⟨h0, h1⟩
  | succ k ih => exact hf _ ih.1 ih.2

theorem sq_small {u : Int} (h0 : 0 ≤ u) (h1 : u ≤ 1048576) : 0 ≤ u * u ∧ u * u ≤ 1048576 * u := ⟨Int.mul_nonneg h0 h0, Int.mul_le_mul_of_nonneg_right h1 h0⟩

theorem firstU_bd {u : Int} (h0 : 0 ≤ u) (h1 : u ≤ 1048576) : 0 ≤ firstU u ∧ firstU u ≤ 1073741824 := by
  have hs := sq_small h0 h1
  have := cdiv_bd (n := u * u) (d := 2147483648) (M := u) (by decide) hs.1 (by omega)
  unfold firstU; omega

theorem firstD_bd {u : Int} (h0 : 0 ≤ u) (h1 : u ≤ 1048576) : 0 ≤ firstD u ∧ firstD u ≤ 1073741824 := by
  have hs := sq_small h0 h1
  have a := fdiv_bd (n := u * u) (d := 2147483648) (M := u) (by decide) hs.1 (by omega)
  have hc : 0 ≤ u * u * u ∧ u * u * u ≤ 1099511627776 * 1048576 := ⟨Int.mul_nonneg hs.1 h0, Int.mul_le_mul (by omega) h1 h0 (by omega)⟩
  have b := cdiv_bd (n := u * u * u) (d := 6917529027641081856) (M := 1) (by decide) hc.1 (by omega)
  have c : u * u / 2147483648 ≤ 512 := (fdiv_bd (n := u * u) (d := 2147483648) (M := 512) (by decide) hs.1 (by omega)).2
  unfold firstD
  by_cases hu : u = 0
  · subst hu
    have : cdiv (0 * 0 * 0) 6917529027641081856 = 0 := by decide +kernel
    rw [this]; decide
  · have : u * u / 2147483648 ≤ u - 1 ∨ u ≤ 512 := by omega
    rcases this with h | h
    · omega
    · have : u * u ≤ 262144 := by have := (sq_le h0 h).2; omega
      omega

def upX (p : Int) : Int := 256 * p * 62831853 / 10000000
def dnX (p : Int) : Int := cdiv (256 * p * 62831854) 10000000

/-- What fades, up and down, with k halvings. -/
def fadeU (p : Int) (k : Nat) : Int := itr stepU k (firstU (upX p / 2 ^ k))
def fadeD (p : Int) (k : Nat) : Int := itr stepD k (firstD (cdiv (dnX p) (2 ^ k)))

theorem upX_bd {p : Int} (h0 : 0 ≤ p) (h1 : p ≤ 16777216) : 0 ≤ upX p ∧ upX p ≤ 34359738368 :=
  fdiv_bd (by decide) (by omega) (by omega)
theorem dnX_bd {p : Int} (h0 : 0 ≤ p) (h1 : p ≤ 16777216) : 0 ≤ dnX p ∧ dnX p ≤ 34359738368 :=
  cdiv_bd (by decide) (by omega) (by omega)

set_option maxHeartbeats 1000000 in
theorem fadingUp_any {p : Int} {k : Nat} (h0 : 0 ≤ p) (h1 : p ≤ 16777216) (hk : k ≤ 15) (h : IsH (upX p) k) (w : World) :
    Calls Try.prog 120 #[.int .i64 p] w (Quiet (.int .i64 (fadeU p k)) w) := by
  have bx := upX_bd h0 h1
  have pb := pow_bd hk
  have HL := Lib.hid (fun w => lower_any (256 * p) 62831853 10000000 (Lib.hid (DvIn_by (X := 4294967296) (Y := 62831853) (by omega) (by omega) (by decide) (by decide) (by decide) (by decide) (by decide) (by decide) (by decide))) w)
  have HH := Lib.hid (fun w => halvings_any hk h w)
  have HL2 := fun w => lower_any (upX p) 1 (2 ^ k) (Lib.hid (DvIn_by (X := 34359738368) (Y := 1) (by omega) (by omega) (by decide) (by decide) (by omega) (by omega) (by decide) (by decide) (by decide))) w
  simp only [Int.mul_one] at HL2
  have bu := fdiv_bd (n := upX p) (d := 2 ^ k) (M := 1048576) (by omega) (by omega) h.1
  have HU := fun w => upper_any (upX p / 2 ^ k) (upX p / 2 ^ k) 2147483648 (Lib.hid (DvIn_by (X := 1048576) (Y := 1048576) (by omega) (by omega) (by omega) (by omega) (by decide) (by decide) (by decide) (by decide) (by decide))) w
  have b0 := firstU_bd bu.1 bu.2
  have bc := cdiv_bd (n := upX p / 2 ^ k * (upX p / 2 ^ k)) (d := 2147483648) (M := 512) (by decide) (sq_le bu.1 bu.2).1 (by have := (sq_le bu.1 bu.2).2; omega)
  have ef : Hid (fadeU p k = itr stepU k (firstU (upX p / 2 ^ k))) := rfl
  have e1 : Hid (firstU (upX p / 2 ^ k) = 1073741824 - upX p / 2 ^ k + cdiv (upX p / 2 ^ k * (upX p / 2 ^ k)) 2147483648) := rfl
  have eX : Hid (upX p = 256 * p * 62831853 / 10000000) := rfl
  clear h
  generalize fadeU p k = res at *
  generalize firstU (upX p / 2 ^ k) = f0 at *
  generalize upX p / 2 ^ k = u at *
  replace HU := Lib.hid HU
  replace HL2 := Lib.hid HL2
  have HSU := Lib.hid (fun f (a : 0 ≤ f) (b : f ≤ 1073741824) w => upper_any f f 1073741824 (Lib.hid (DvIn_by (X := 1073741824) (Y := 1073741824) (by omega) b a b (by decide) (by decide) (by decide) (by decide) (by decide))) w)
  go_enter Try.func120, Try.ntmps120
  go_wp2_with fail
  refine (HL.out _).mono ?_
  rintro e w' ⟨rfl, n1, rfl⟩
  rw [← eX.out]
  go_wp2_with fail
  refine (HH.out _).mono ?_
  rintro e w' ⟨rfl, n2, rfl⟩
  have hk0 : (0 : Int) ≤ (k : Int) := by omega
  have hk1 : (k : Int) ≤ 15 := by omega
  go_wp2_with fail
  refine (HL2.out _).mono ?_
  rintro e w' ⟨rfl, n3, rfl⟩
  go_wp2_with fail
  refine (HU.out _).mono ?_
  rintro e w' ⟨rfl, n4, rfl⟩
  go_wp2_with fail
  rw [← e1.out]
  go_loopw [6, 23] (fun f i wr => ∃ j : Nat, j ≤ k ∧ i = .int .i64 j ∧ f = .int .i64 (itr stepU j f0) ∧ ∃ n, wr = w.drewN n) (fun _ i _ => k - (intOf i).toNat)
  case atStart => exact ⟨0, by omega, rfl, rfl, _, rfl⟩
  case round =>
    obtain ⟨j, hj, rfl, rfl, n, rfl⟩ := hrel
    have ib := itr_bd (f := stepU) (fun x a b => stepU_bd a b) b0.1 b0.2 j
    have ic := stepU_bd ib.1 ib.2
    have HJ : Hid (itr stepU (j + 1) f0 = cdiv (itr stepU j f0 * itr stepU j f0) 1073741824) := rfl
    have HC := Lib.hid (fun w => HSU.out (itr stepU j f0) ib.1 ib.2 w)
    generalize hfj : itr stepU j f0 = fj at *
    have HF := Lib.hid hfj
    clear hfj
    by_cases hlt : j < k
    · go_wp2_with fail
      refine (HC.out _).mono ?_
      rintro e w' ⟨rfl, n5, rfl⟩
      go_wp2_with fail
      go_roundw
      case rel => exact ⟨j + 1, by omega, by go_num, by rw [HJ.out], _, rfl⟩
      case measure => simp [intOf]; omega
    · obtain rfl : j = k := by omega
      go_wp2_with fail
      go_ret
      refine ⟨?_, n, rfl⟩
      show Ending.returned (Value.int .i64 fj) = _
      rw [ef.out, HF.out]

set_option maxHeartbeats 400000 in
/-- upper where the divisor is above 2^62 (and the result small). -/
theorem upper_six (x y : Int) (hx : 0 ≤ x) (hx' : x ≤ 1099511627776) (hy : 0 ≤ y) (hy' : y ≤ 1048576) (w : World) :
    Calls Try.prog 93 #[.int .i64 x, .int .i64 y, .int .i64 6917529027641081856] w (Quiet (.int .i64 (cdiv (x * y) 6917529027641081856)) w) := by
  have hp : 0 ≤ x * y ∧ x * y ≤ 1099511627776 * 1048576 := ⟨Int.mul_nonneg hx hy, Int.mul_le_mul hx' hy' hy (by omega)⟩
  have q := fdiv_bd (n := x * y) (d := 6917529027641081856) (M := 1) (by decide) hp.1 (by omega)
  have HD := Lib.hid (fun w => divided_pos x y 6917529027641081856 hx (by omega) hy (by omega) (by decide) (by decide) (by omega) (Lib.hid (DivOk_low hp.1 (by omega) (by decide) (by decide))) w)
  have HE := Lib.hid (cdiv_eq (x * y) (d := 6917529027641081856) (by decide))
  have r0 := Int.emod_nonneg (x * y) (show (6917529027641081856 : Int) ≠ 0 by decide)
  unfold dv at HD
  generalize cdiv (x * y) 6917529027641081856 = c at *
  generalize x * y / 6917529027641081856 = qq at *
  generalize x * y % 6917529027641081856 = rr at *
  by_cases hr : rr = 0
  · subst hr
    have : c = qq := by rw [HE.out, if_pos rfl]; omega
    subst this
    go_enter Try.func93, Try.ntmps93
    go_wp2_with fail
    refine (HD.out _).mono ?_
    rintro e w' ⟨rfl, n, rfl⟩
    go_wp2_with fail
    go_ret
    exact ⟨rfl, _, rfl⟩
  · have : c = qq + 1 := by rw [HE.out, if_neg hr]
    subst this
    have hlt : 0 < rr := by omega
    clear hr
    go_enter Try.func93, Try.ntmps93
    go_wp2_with fail
    refine (HD.out _).mono ?_
    rintro e w' ⟨rfl, n, rfl⟩
    go_wp2_with fail
    go_ret
    exact ⟨rfl, _, rfl⟩

set_option maxHeartbeats 1000000 in
theorem fadingDown_any {p : Int} {k : Nat} (h0 : 0 ≤ p) (h1 : p ≤ 16777216) (hk : k ≤ 15) (h : IsH (dnX p) k) (w : World) :
    Calls Try.prog 119 #[.int .i64 p] w (Quiet (.int .i64 (fadeD p k)) w) := by
  have bx := dnX_bd h0 h1
  have pb := pow_bd hk
  have HL := Lib.hid (fun w => upper_any (256 * p) 62831854 10000000 (Lib.hid (DvIn_by (X := 4294967296) (Y := 62831854) (by omega) (by omega) (by decide) (by decide) (by decide) (by decide) (by decide) (by decide) (by decide))) w)
  have HH := Lib.hid (fun w => halvings_any hk h w)
  have HL2 := fun w => upper_any (dnX p) 1 (2 ^ k) (Lib.hid (DvIn_by (X := 34359738368) (Y := 1) (by omega) (by omega) (by decide) (by decide) (by omega) (by omega) (by decide) (by decide) (by decide))) w
  simp only [Int.mul_one] at HL2
  have bu := cdiv_bd (n := dnX p) (d := 2 ^ k) (M := 1048576) (by omega) (by omega) h.1
  have HU := fun w => lower_any (cdiv (dnX p) (2 ^ k)) (cdiv (dnX p) (2 ^ k)) 2147483648 (Lib.hid (DvIn_by (X := 1048576) (Y := 1048576) (by omega) (by omega) (by omega) (by omega) (by decide) (by decide) (by decide) (by decide) (by decide))) w
  have b0 := firstD_bd bu.1 bu.2
  have bs := sq_le bu.1 bu.2
  have bc := fdiv_bd (n := cdiv (dnX p) (2 ^ k) * cdiv (dnX p) (2 ^ k)) (d := 2147483648) (M := 512) (by decide) bs.1 (by omega)
  have H6 := fun w => upper_six (cdiv (dnX p) (2 ^ k) * cdiv (dnX p) (2 ^ k)) (cdiv (dnX p) (2 ^ k)) bs.1 (by omega) bu.1 bu.2 w
  have b6' : cdiv (dnX p) (2 ^ k) * cdiv (dnX p) (2 ^ k) * cdiv (dnX p) (2 ^ k) ≤ 1 * 6917529027641081856 := by
    have := Int.mul_le_mul (a := cdiv (dnX p) (2 ^ k) * cdiv (dnX p) (2 ^ k)) (b := cdiv (dnX p) (2 ^ k)) (c := 1048576 * 1048576) (d := 1048576) bs.2 bu.2 bu.1 (by decide)
    omega
  have b6 := cdiv_bd (n := cdiv (dnX p) (2 ^ k) * cdiv (dnX p) (2 ^ k) * cdiv (dnX p) (2 ^ k)) (d := 6917529027641081856) (M := 1) (by decide) (Int.mul_nonneg bs.1 bu.1) b6'
  have ef : Hid (fadeD p k = itr stepD k (firstD (cdiv (dnX p) (2 ^ k)))) := rfl
  have e1 : Hid (firstD (cdiv (dnX p) (2 ^ k)) = 1073741824 - cdiv (dnX p) (2 ^ k) + cdiv (dnX p) (2 ^ k) * cdiv (dnX p) (2 ^ k) / 2147483648 - cdiv (cdiv (dnX p) (2 ^ k) * cdiv (dnX p) (2 ^ k) * cdiv (dnX p) (2 ^ k)) 6917529027641081856) := rfl
  have eX : Hid (dnX p = cdiv (256 * p * 62831854) 10000000) := rfl
  clear h
  generalize fadeD p k = res at *
  generalize firstD (cdiv (dnX p) (2 ^ k)) = f0 at *
  generalize cdiv (dnX p) (2 ^ k) = u at *
  replace HU := Lib.hid HU
  replace HL2 := Lib.hid HL2
  replace H6 := Lib.hid H6
  have HSU := Lib.hid (fun f (a : 0 ≤ f) (b : f ≤ 1073741824) w => lower_any f f 1073741824 (Lib.hid (DvIn_by (X := 1073741824) (Y := 1073741824) (by omega) b a b (by decide) (by decide) (by decide) (by decide) (by decide))) w)
  go_enter Try.func119, Try.ntmps119
  go_wp2_with fail
  refine (HL.out _).mono ?_
  rintro e w' ⟨rfl, n1, rfl⟩
  rw [← eX.out]
  go_wp2_with fail
  refine (HH.out _).mono ?_
  rintro e w' ⟨rfl, n2, rfl⟩
  have hk0 : (0 : Int) ≤ (k : Int) := by omega
  have hk1 : (k : Int) ≤ 15 := by omega
  go_wp2_with fail
  refine (HL2.out _).mono ?_
  rintro e w' ⟨rfl, n3, rfl⟩
  go_wp2_with fail
  refine (HU.out _).mono ?_
  rintro e w' ⟨rfl, n4, rfl⟩
  go_wp2_with fail
  refine (H6.out _).mono ?_
  rintro e w' ⟨rfl, n6, rfl⟩
  go_wp2_with fail
  rw [← e1.out]
  go_loopw [6, 29] (fun f i wr => ∃ j : Nat, j ≤ k ∧ i = .int .i64 j ∧ f = .int .i64 (itr stepD j f0) ∧ ∃ n, wr = w.drewN n) (fun _ i _ => k - (intOf i).toNat)
  case atStart => exact ⟨0, by omega, rfl, rfl, _, rfl⟩
  case round =>
    obtain ⟨j, hj, rfl, rfl, n, rfl⟩ := hrel
    have ib := itr_bd (f := stepD) (fun x a b => stepD_bd a b) b0.1 b0.2 j
    have ic := stepD_bd ib.1 ib.2
    have HJ : Hid (itr stepD (j + 1) f0 = itr stepD j f0 * itr stepD j f0 / 1073741824) := rfl
    have HC := Lib.hid (fun w => HSU.out (itr stepD j f0) ib.1 ib.2 w)
    generalize hfj : itr stepD j f0 = fj at *
    have HF := Lib.hid hfj
    clear hfj
    by_cases hlt : j < k
    · go_wp2_with fail
      refine (HC.out _).mono ?_
      rintro e w' ⟨rfl, n5, rfl⟩
      go_wp2_with fail
      go_roundw
      case rel => exact ⟨j + 1, by omega, by go_num, by rw [HJ.out], _, rfl⟩
      case measure => simp [intOf]; omega
    · obtain rfl : j = k := by omega
      go_wp2_with fail
      go_ret
      refine ⟨?_, n, rfl⟩
      show Ending.returned (Value.int .i64 fj) = _
      rw [ef.out, HF.out]

end Go.Proofs.Ytgdhpgjfebinhaa
