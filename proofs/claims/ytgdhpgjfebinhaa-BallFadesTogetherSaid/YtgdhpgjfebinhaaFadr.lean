/- The contracts of what fades, of the reference. -/
import Derived.Test.YtgdhpgjfebinhaaFade
namespace Go.Proofs.Ytgdhpgjfebinhaa
open Go.RowKit Go.Lib

theorem IsH.unique {x : Int} {k : Nat} (h : IsH x k) {j : Nat} (hj : j ≤ k) (hx : x ≤ 1048576 * 2 ^ j) : j = k := by
  rcases Nat.lt_or_ge j k with h1 | h1
  · have := h.2 j h1; omega
  · omega

set_option maxHeartbeats 1000000 in
theorem fadeRefUp_any {p : Int} {k : Nat} (h0 : 0 ≤ p) (h1 : p ≤ 16777216) (hk : k ≤ 15) (h : IsH (upX p) k) (w : World) :
    Calls Try.prog 121 #[.int .i64 p, .bool true] w (fun e w' => e = .returned (.int .i64 (fadeU p k)) ∧ w = w') := by
  have bx := upX_bd h0 h1
  have pb := pow_bd hk
  have HL := Lib.hid (fun w => Floor_any (256 * p * 62831853) 10000000 (by omega) (by omega) (by decide) (by decide) w)
  have HL2 := fun w => Floor_any (upX p) (2 ^ k) (by omega) (by omega) (by omega) (by omega) w
  have bu := fdiv_bd (n := upX p) (d := 2 ^ k) (M := 1048576) (by omega) (by omega) h.1
  have bs := sq_le bu.1 bu.2
  have HU := fun w => Ceil_any (upX p / 2 ^ k * (upX p / 2 ^ k)) 2147483648 (by omega) (by omega) (by decide) (by decide) w
  have b0 := firstU_bd bu.1 bu.2
  have bc := cdiv_bd (n := upX p / 2 ^ k * (upX p / 2 ^ k)) (d := 2147483648) (M := 512) (by decide) bs.1 (by omega)
  have ef : Hid (fadeU p k = itr stepU k (firstU (upX p / 2 ^ k))) := rfl
  have e1 : Hid (firstU (upX p / 2 ^ k) = 1073741824 - upX p / 2 ^ k + cdiv (upX p / 2 ^ k * (upX p / 2 ^ k)) 2147483648) := rfl
  have eX : Hid (upX p = 256 * p * 62831853 / 10000000) := rfl
  have H := Lib.hid h
  clear h
  generalize fadeU p k = res at *
  generalize firstU (upX p / 2 ^ k) = f0 at *
  generalize hu : upX p / 2 ^ k = u at *
  have HUu := Lib.hid hu
  clear hu
  replace HU := Lib.hid HU
  replace HL2 := Lib.hid HL2
  have HSU := Lib.hid (fun f (a : 0 ≤ f) (b : f ≤ 1073741824) w => Ceil_any (f * f) 1073741824 (by have := sq_le a b; omega) (by have := sq_le a b; omega) (by decide) (by decide) w)
  have hk0 : (0 : Int) ≤ (k : Int) := by omega
  have hk1 : (k : Int) ≤ 15 := by omega
  go_enter Try.func121, Try.ntmps121
  go_wp2_with fail
  refine (HL.out _).mono ?_
  rintro e w' ⟨rfl, rfl⟩
  rw [← eX.out]
  go_wp2_with fail
  go_loop [6, 7] (fun i b => ∃ j : Nat, j ≤ k ∧ i = .int .i64 j ∧ b = .int .i64 (2 ^ j)) (fun i _ => k - (intOf i).toNat)
  case atStart => exact ⟨0, by omega, rfl, rfl⟩
  case round =>
    obtain ⟨j, hj, rfl, rfl⟩ := hrel
    have pj := pow_bd (k := j) (by omega)
    have hj0 : (0 : Int) ≤ (j : Int) := by omega
    have hj1 : (j : Int) ≤ 15 := by omega
    by_cases hlt : j < k
    · have hx := H.out.2 j hlt
      have hp2 := Lib.hid (Int.pow_succ 2 j)
      generalize (2 : Int) ^ j = bj at *
      go_wp2_with fail
      go_round
      case rel => exact ⟨j + 1, by omega, by go_num, by rw [hp2.out, Int.mul_comm]⟩
      case measure => simp [intOf]; omega
    · obtain rfl : j = k := by omega
      have hx : ¬ 1048576 * 2 ^ j < upX p := by have := H.out.1; omega
      go_wp2_with fail
      refine (HL2.out _).mono ?_
      rintro e w' ⟨rfl, rfl⟩
      go_wp2_with fail
      refine (HU.out _).mono ?_
      rintro e w' ⟨rfl, rfl⟩
      go_wp2_with fail
      rw [← e1.out]
      go_loop [8, 11] (fun f i => ∃ l : Nat, l ≤ j ∧ i = .int .i64 l ∧ f = .int .i64 (itr stepU l f0)) (fun _ i => j - (intOf i).toNat)
      case atStart => exact ⟨0, by omega, rfl, rfl⟩
      case round =>
        obtain ⟨l, hl, rfl, rfl⟩ := hrel
        have ib := itr_bd (f := stepU) (fun x a b => stepU_bd a b) b0.1 b0.2 l
        have ic := stepU_bd ib.1 ib.2
        have is := sq_le ib.1 ib.2
        have hl0 : (0 : Int) ≤ (l : Int) := by omega
        have hl1 : (l : Int) ≤ 15 := by omega
        have HJ : Hid (itr stepU (l + 1) f0 = cdiv (itr stepU l f0 * itr stepU l f0) 1073741824) := rfl
        have HC := Lib.hid (fun w => HSU.out (itr stepU l f0) ib.1 ib.2 w)
        generalize hfl : itr stepU l f0 = fl at *
        have HF := Lib.hid hfl
        clear hfl
        by_cases hll : l < j
        · go_wp2_with fail
          refine (HC.out _).mono ?_
          rintro e w' ⟨rfl, rfl⟩
          go_wp2_with fail
          go_round
          case rel => exact ⟨l + 1, by omega, by go_num, by rw [HJ.out]⟩
          case measure => simp [intOf]; omega
        · obtain rfl : l = j := by omega
          go_wp2_with fail
          go_ret
          refine ⟨?_, rfl⟩
          show Ending.returned (Value.int .i64 fl) = _
          rw [ef.out, HF.out]

set_option maxHeartbeats 1000000 in
theorem fadeRefDown_any {p : Int} {k : Nat} (h0 : 0 ≤ p) (h1 : p ≤ 16777216) (hk : k ≤ 15) (h : IsH (dnX p) k) (w : World) :
    Calls Try.prog 121 #[.int .i64 p, .bool false] w (fun e w' => e = .returned (.int .i64 (fadeD p k)) ∧ w = w') := by
  have bx := dnX_bd h0 h1
  have pb := pow_bd hk
  have HL := Lib.hid (fun w => Ceil_any (256 * p * 62831854) 10000000 (by omega) (by omega) (by decide) (by decide) w)
  have HL2 := fun w => Ceil_any (dnX p) (2 ^ k) (by omega) (by omega) (by omega) (by omega) w
  have bu := cdiv_bd (n := dnX p) (d := 2 ^ k) (M := 1048576) (by omega) (by omega) h.1
  have bs := sq_le bu.1 bu.2
  have HU := fun w => Floor_any (cdiv (dnX p) (2 ^ k) * cdiv (dnX p) (2 ^ k)) 2147483648 (by omega) (by omega) (by decide) (by decide) w
  have b0 := firstD_bd bu.1 bu.2
  have bc := fdiv_bd (n := cdiv (dnX p) (2 ^ k) * cdiv (dnX p) (2 ^ k)) (d := 2147483648) (M := 512) (by decide) bs.1 (by omega)
  have ef : Hid (fadeD p k = itr stepD k (firstD (cdiv (dnX p) (2 ^ k)))) := rfl
  have b6' : cdiv (dnX p) (2 ^ k) * cdiv (dnX p) (2 ^ k) * cdiv (dnX p) (2 ^ k) ≤ 1 * 6917529027641081856 := by
    have := Int.mul_le_mul (a := cdiv (dnX p) (2 ^ k) * cdiv (dnX p) (2 ^ k)) (b := cdiv (dnX p) (2 ^ k)) (c := 1048576 * 1048576) (d := 1048576) bs.2 bu.2 bu.1 (by decide)
    omega
  have b60 := Int.mul_nonneg bs.1 bu.1
  have b6 := cdiv_bd (n := cdiv (dnX p) (2 ^ k) * cdiv (dnX p) (2 ^ k) * cdiv (dnX p) (2 ^ k)) (d := 6917529027641081856) (M := 1) (by decide) b60 b6'
  have H6 := fun w => Ceil_any (cdiv (dnX p) (2 ^ k) * cdiv (dnX p) (2 ^ k) * cdiv (dnX p) (2 ^ k)) 6917529027641081856 (by omega) (by omega) (by decide) (by decide) w
  have e1 : Hid (firstD (cdiv (dnX p) (2 ^ k)) = 1073741824 - cdiv (dnX p) (2 ^ k) + cdiv (dnX p) (2 ^ k) * cdiv (dnX p) (2 ^ k) / 2147483648 - cdiv (cdiv (dnX p) (2 ^ k) * cdiv (dnX p) (2 ^ k) * cdiv (dnX p) (2 ^ k)) 6917529027641081856) := rfl
  have eX : Hid (dnX p = cdiv (256 * p * 62831854) 10000000) := rfl
  have H := Lib.hid h
  clear h
  generalize fadeD p k = res at *
  generalize firstD (cdiv (dnX p) (2 ^ k)) = f0 at *
  generalize hu : cdiv (dnX p) (2 ^ k) = u at *
  have HUu := Lib.hid hu
  clear hu
  replace HU := Lib.hid HU
  replace H6 := Lib.hid H6
  replace HL2 := Lib.hid HL2
  have HSU := Lib.hid (fun f (a : 0 ≤ f) (b : f ≤ 1073741824) w => Floor_any (f * f) 1073741824 (by have := sq_le a b; omega) (by have := sq_le a b; omega) (by decide) (by decide) w)
  have hk0 : (0 : Int) ≤ (k : Int) := by omega
  have hk1 : (k : Int) ≤ 15 := by omega
  go_enter Try.func121, Try.ntmps121
  go_wp2_with fail
  refine (HL.out _).mono ?_
  rintro e w' ⟨rfl, rfl⟩
  rw [← eX.out]
  go_wp2_with fail
  go_loop [6, 7] (fun i b => ∃ j : Nat, j ≤ k ∧ i = .int .i64 j ∧ b = .int .i64 (2 ^ j)) (fun i _ => k - (intOf i).toNat)
  case atStart => exact ⟨0, by omega, rfl, rfl⟩
  case round =>
    obtain ⟨j, hj, rfl, rfl⟩ := hrel
    have pj := pow_bd (k := j) (by omega)
    have hj0 : (0 : Int) ≤ (j : Int) := by omega
    have hj1 : (j : Int) ≤ 15 := by omega
    by_cases hlt : j < k
    · have hx := H.out.2 j hlt
      have hp2 := Lib.hid (Int.pow_succ 2 j)
      generalize (2 : Int) ^ j = bj at *
      go_wp2_with fail
      go_round
      case rel => exact ⟨j + 1, by omega, by go_num, by rw [hp2.out, Int.mul_comm]⟩
      case measure => simp [intOf]; omega
    · obtain rfl : j = k := by omega
      have hx : ¬ 1048576 * 2 ^ j < dnX p := by have := H.out.1; omega
      go_wp2_with fail
      refine (HL2.out _).mono ?_
      rintro e w' ⟨rfl, rfl⟩
      go_wp2_with fail
      refine (HU.out _).mono ?_
      rintro e w' ⟨rfl, rfl⟩
      go_wp2_with fail
      refine (H6.out _).mono ?_
      rintro e w' ⟨rfl, rfl⟩
      go_wp2_with fail
      rw [← e1.out]
      go_loop [8, 11] (fun f i => ∃ l : Nat, l ≤ j ∧ i = .int .i64 l ∧ f = .int .i64 (itr stepD l f0)) (fun _ i => j - (intOf i).toNat)
      case atStart => exact ⟨0, by omega, rfl, rfl⟩
      case round =>
        obtain ⟨l, hl, rfl, rfl⟩ := hrel
        have ib := itr_bd (f := stepD) (fun x a b => stepD_bd a b) b0.1 b0.2 l
        have ic := stepD_bd ib.1 ib.2
        have is := sq_le ib.1 ib.2
        have hl0 : (0 : Int) ≤ (l : Int) := by omega
        have hl1 : (l : Int) ≤ 15 := by omega
        have HJ : Hid (itr stepD (l + 1) f0 = itr stepD l f0 * itr stepD l f0 / 1073741824) := rfl
        have HC := Lib.hid (fun w => HSU.out (itr stepD l f0) ib.1 ib.2 w)
        generalize hfl : itr stepD l f0 = fl at *
        have HF := Lib.hid hfl
        clear hfl
        by_cases hll : l < j
        · go_wp2_with fail
          refine (HC.out _).mono ?_
          rintro e w' ⟨rfl, rfl⟩
          go_wp2_with fail
          go_round
          case rel => exact ⟨l + 1, by omega, by go_num, by rw [HJ.out]⟩
          case measure => simp [intOf]; omega
        · obtain rfl : l = j := by omega
          go_wp2_with fail
          go_ret
          refine ⟨?_, rfl⟩
          show Ending.returned (Value.int .i64 fl) = _
          rw [ef.out, HF.out]

end Go.Proofs.Ytgdhpgjfebinhaa
