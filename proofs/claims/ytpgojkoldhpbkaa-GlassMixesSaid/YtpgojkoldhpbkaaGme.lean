/- GlassMixed: the shares, and the law's walk. -/
import Derived.Test.YtpgojkoldhpbkaaGmd
namespace Go.Proofs.Ytpgojkoldhpbkaa.Gm
set_option linter.unusedSimpArgs false
open Go Go.RowKit Go.Proofs.Ytpgojkoldhpbkaa Go.Proofs.Ytpgojkoldhpbkaa.Ev

theorem ne_false {a b : Int} (h : ¬ a = b) : (a == b) = false := by simpa using h

theorem sf_lt_val {a b x : Int} (ha : Ok a) (hb : Ok b) (hab : a < b) (hx : a ≤ x) (hx' : x ≤ b) :
    Ret 17 #[.int .i64 a, .int .i64 b, .int .i64 x] (.tuple #[.agg #[.int .i64 (10000 * (b * b - x * x) / (b * b - a * a)), .int .i64 (cdiv (10000 * (b * b - x * x)) (b * b - a * a))], .int .i64 0]) := by
  obtain ⟨ha, ha'⟩ := ha
  obtain ⟨hb, hb'⟩ := hb
  have p1 := mul_bd (x := a) (y := a) (X := 80000) (Y := 80000) (by omega) ha' (by omega) ha'
  have p2 := mul_bd (x := b) (y := b) (X := 80000) (Y := 80000) (by omega) hb' (by omega) hb'
  have p3 := mul_bd (x := x) (y := x) (X := 80000) (Y := 80000) (by omega) (by omega) (by omega) (by omega)
  have q1 := sq_lt (x := a) (y := b) (by omega) hab
  have q2 := sq_le (x := x) (y := b) (by omega) hx'
  have dl : DvIn (10000 * (b * b - x * x)) 1 (b * b - a * a) := DvIn_by (X := 64000000000000) (Y := 1) (by omega) (by omega) (by omega) (by omega) (by omega) (by omega) (by omega) (by omega) (by omega)
  have hL := of_quiet (lower_any _ _ _ (Lib.hid dl))
  have hU := of_quiet (upper_any _ _ _ (Lib.hid dl))
  rw [Int.mul_one] at hL hU
  have l0 : mn a b ≤ x := by unfold mn; split <;> omega
  have l1 : x ≤ mx a b := by unfold mx; split <;> omega
  exact fun w => sf_lt (v3 := mn a b) (v4 := mx a b) (v10 := b * b - x * x) (v11 := b * b - a * a) rfl rfl (IntWalk.i64_in _ (by omega)) (IntWalk.i64_in _ (by omega)) (IntWalk.i64_in _ (by omega)) (IntWalk.i64_in _ (by omega)) (IntWalk.i64_in _ (by omega))
    ((IntWalk.i64_in _ (by omega)).trans (by omega)) ((IntWalk.i64_in _ (by omega)).trans (by omega)) (IntWalk.i64_in _ (by omega))
    (ne_false (by omega)) (decide_eq_true (by omega)) (wi_true ha ha') (wi_true hb hb') (wi_true (by omega) (by omega)) (wi_true l0 l1) hL hU w

theorem sf_gt_val {a b x : Int} (ha : Ok a) (hb : Ok b) (hab : b < a) (hx : b ≤ x) (hx' : x ≤ a) :
    Ret 17 #[.int .i64 a, .int .i64 b, .int .i64 x] (.tuple #[.agg #[.int .i64 (10000 * (x * x - b * b) / (a * a - b * b)), .int .i64 (cdiv (10000 * (x * x - b * b)) (a * a - b * b))], .int .i64 0]) := by
  obtain ⟨ha, ha'⟩ := ha
  obtain ⟨hb, hb'⟩ := hb
  have p1 := mul_bd (x := a) (y := a) (X := 80000) (Y := 80000) (by omega) ha' (by omega) ha'
  have p2 := mul_bd (x := b) (y := b) (X := 80000) (Y := 80000) (by omega) hb' (by omega) hb'
  have p3 := mul_bd (x := x) (y := x) (X := 80000) (Y := 80000) (by omega) (by omega) (by omega) (by omega)
  have q1 := sq_lt (x := b) (y := a) (by omega) hab
  have q2 := sq_le (x := b) (y := x) (by omega) hx
  have dl : DvIn (10000 * (x * x - b * b)) 1 (a * a - b * b) := DvIn_by (X := 64000000000000) (Y := 1) (by omega) (by omega) (by omega) (by omega) (by omega) (by omega) (by omega) (by omega) (by omega)
  have hL := of_quiet (lower_any _ _ _ (Lib.hid dl))
  have hU := of_quiet (upper_any _ _ _ (Lib.hid dl))
  rw [Int.mul_one] at hL hU
  have l0 : mn a b ≤ x := by unfold mn; split <;> omega
  have l1 : x ≤ mx a b := by unfold mx; split <;> omega
  exact fun w => sf_gt (v3 := mn a b) (v4 := mx a b) rfl rfl (IntWalk.i64_in _ (by omega)) (IntWalk.i64_in _ (by omega)) (IntWalk.i64_in _ (by omega)) (IntWalk.i64_in _ (by omega)) (IntWalk.i64_in _ (by omega))
    (IntWalk.i64_in _ (by omega)) (ne_false (by omega)) (decide_eq_false (by omega)) (wi_true ha ha') (wi_true hb hb') (wi_true (by omega) (by omega)) (wi_true l0 l1) hL hU w

theorem mb_bad {a b s : Int} (h : ¬ (Ok a ∧ Ok b ∧ 0 ≤ s ∧ s ≤ 10000)) : Ret 16 #[.int .i64 a, .int .i64 b, .int .i64 s] (.tuple #[.agg #[.int .i64 0, .int .i64 0], .int .i64 2]) := by
  by_cases ha : Ok a
  · by_cases hb : Ok b
    · exact fun w => mb_e3 (wi_true ha.1 ha.2) (wi_true hb.1 hb.2) (wi_false fun hs => h ⟨ha, hb, hs⟩) w
    · exact fun w => mb_e2 (wi_true ha.1 ha.2) (wi_false hb) w
  · exact fun w => mb_e1 (wi_false ha) w

theorem walk (hA : Ret 8 #[] (.bool true)) (a b s : Int) (w : World) : Calls Try.prog 6 #[.int .i64 a, .int .i64 b, .int .i64 s] w fun e w' => e = .returned (.bool true) ∧ Below w.heap.size w w' := by
  by_cases hv : Ok a ∧ Ok b ∧ 0 ≤ s ∧ s ≤ 10000
  · obtain ⟨ha, hb, hs⟩ := hv
    obtain ⟨m1, m2, m3, _⟩ := mixed_any ha.1 ha.2 hb.1 hb.2 hs.1 hs.2
    have hM := mb_val ha hb hs
    have hM' := mb_val (s := 10000 - s) hb ha ⟨by omega, by omega⟩
    rw [mixL_swap, mixH_swap] at hM'
    have hW := bw_true m1 m2
    have t2 : (!((mixL a b s == mixL a b s) && (mixH a b s == mixH a b s))) = false := by simp
    have e0 : IntKind.i64.wrap (10000 - s) = 10000 - s := IntWalk.i64_in _ (by omega)
    have t3 : decide (mixH a b s > mx a b) = false := decide_eq_false (by omega)
    by_cases hab : a = b
    · subst hab
      obtain ⟨q1, q2⟩ := mixed_eq ha.1 ha.2 hs.1 hs.2
      have := gm_eq (v10 := mn a a) (v11 := mx a a) e0 rfl rfl rfl rfl t2 t3 (by simp) hA hM hM' hW w
      rw [q1, q2] at this
      simpa using this
    · by_cases hlt : a < b
      · obtain ⟨s1, s2, s3, s4, s5, s6⟩ := share_lt (s := s) ha.1 hlt hb.2 hs.1 hs.2
        have em : mn a b = a := if_neg (by omega)
        rw [em] at hW
        have hS := sf_lt_val (x := mixH a b s) ha hb hlt s1 s2
        have hS' := sf_lt_val (x := under (mixH a b s) a) ha hb hlt s3 s4
        refine gm_ne (v10 := a) (v11 := mx a b) (v15 := mixH a b s - 1) e0 em rfl (IntWalk.i64_in _ ?_) rfl rfl rfl rfl rfl t2 t3 (ne_false hab) rfl rfl hA hM hM' hW hS hS' (bw_true ?_ ?_) w
        · have := ha.1; have := hb.2; omega
        · split <;> omega
        · split <;> omega
      · obtain ⟨s1, s2, s3, s4, s5, s6⟩ := share_gt (a := a) (b := b) (s := s) (by omega) hb.1 ha.2 hs.1 hs.2
        have em : mn a b = b := if_pos (by omega)
        rw [em] at hW
        have hS := sf_gt_val (x := mixH a b s) ha hb (by omega) s1 s2
        have hS' := sf_gt_val (x := under (mixH a b s) b) ha hb (by omega) s3 s4
        refine gm_ne (v10 := b) (v11 := mx a b) (v15 := mixH a b s - 1) e0 em rfl (IntWalk.i64_in _ ?_) rfl rfl rfl rfl rfl t2 t3 (ne_false hab) rfl rfl hA hM hM' hW hS hS' (bw_true ?_ ?_) w
        · have := ha.2; have := hb.1; omega
        · split <;> omega
        · split <;> omega
  · have := gm_err (s := s) (v3 := 0) (v4 := 0) (v5 := 2) rfl rfl hA (mb_bad hv) w
    simpa using this
end Go.Proofs.Ytpgojkoldhpbkaa.Gm
