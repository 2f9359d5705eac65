/- The contract of direction. -/
import Derived.Test.YthkooiopiaakbaaDirb
namespace Go.Proofs.Ythkooiopiaakbaa
open Go.RowKit Go.Lib
attribute [local go_sem] run_store_float run_store_complex
set_option linter.unusedVariables false

/-- What direction gives of m. -/
def DirP (m : Int) (p : Int × Int) : Prop := ∃ a b, CpP a b p ∧ ∀ W, Calls Try.prog 150 #[.int .i64 m] W (Mem (.complex .f64 a b) W)

set_option maxHeartbeats 1000000 in
theorem dirW8 {m M : Int} {a b : Nat} (hM : bits .and .i64 m 4194303 = M) (h1 : M ≤ 524288)
    (HH : Hid (∀ w, Calls Try.prog 158 #[.int .i64 M] w (Mem (.complex .f64 a b) w))) (w : World) :
    Calls Try.prog 150 #[.int .i64 m] w (Mem (.complex .f64 a b) w) := by
  have g1 : decide (2097152 ≤ M) = false := by simp; omega
  have g2 : decide (1048576 ≤ M) = false := by simp; omega
  have g3 : decide (524288 < M) = false := by simp; omega
  go_enter Try.func150, Try.ntmps150
  go_wp2_with fail
  have K := Hold.start w
  refine (HH.out _).mono ?_
  rintro e_1 w1 ⟨rfl, hb⟩
  have K' := Hold.mem (K) hb
  clear hb K
  have K := K'
  clear K'
  go_wp2_with fail
  go_ret
  exact ⟨rfl, (K).below⟩

set_option maxHeartbeats 1000000 in
theorem dirW4 {m M x y : Int} {a b a' b' : Nat} (hM : bits .and .i64 m 4194303 = M) (h0 : 524288 < M) (h1 : M < 1048576)
    (HH : Hid (∀ w, Calls Try.prog 150 #[.int .i64 (1048576 - M)] w (Mem (.complex .f64 a b) w)))
    (HP : Hid (∀ w, Calls Try.prog 110 #[.complex .f64 a b] w (Mem (.agg #[.int .i64 x, .int .i64 y]) w)))
    (HC : Hid (∀ w, Calls Try.prog 74 #[.int .i64 y, .int .i64 x] w fun e w' => e = .returned (.complex .f64 a' b') ∧ w = w')) (w : World) :
    Calls Try.prog 150 #[.int .i64 m] w (Mem (.complex .f64 a' b') w) := by
  have g1 : decide (2097152 ≤ M) = false := by simp; omega
  have g2 : decide (1048576 ≤ M) = false := by simp; omega
  have g3 : decide (524288 < M) = true := by simp; omega
  go_enter Try.func150, Try.ntmps150
  go_wp2_with fail
  have K := Hold.start w
  refine (HH.out _).mono ?_
  rintro e_1 w1 ⟨rfl, hb⟩
  have K' := Hold.mem (K) hb
  clear hb K
  have K := K'
  clear K'
  go_wp2_with fail
  refine (HP.out _).mono ?_
  rintro e_2 w2 ⟨rfl, hb⟩
  have K' := Hold.mem (K) hb
  clear hb K
  have K := K'
  clear K'
  go_wp2_with fail
  refine (HC.out _).mono ?_
  rintro e_9 w9 ⟨rfl, rfl⟩
  go_wp2_with fail
  go_ret
  exact ⟨rfl, ((K).new #[.int .i64 x, .int .i64 y] 58 (n := w2.heap.size) (by first | rfl | (simp <;> omega))).below⟩

set_option maxHeartbeats 1000000 in
theorem dirW2 {m M : Int} {a b a' b' : Nat} (hM : bits .and .i64 m 4194303 = M) (h0 : 1048576 ≤ M) (h1 : M < 2097152)
    (HH : Hid (∀ w, Calls Try.prog 150 #[.int .i64 (M - 1048576)] w (Mem (.complex .f64 a b) w)))
    (HT : Hid (∀ w, Calls Try.prog 94 #[.complex .f64 a b, .complex .f64 0 4607182418800017408] w fun e w' => e = .returned (.complex .f64 a' b') ∧ w = w')) (w : World) :
    Calls Try.prog 150 #[.int .i64 m] w (Mem (.complex .f64 a' b') w) := by
  have g1 : decide (2097152 ≤ M) = false := by simp; omega
  have g2 : decide (1048576 ≤ M) = true := by simp; omega
  go_enter Try.func150, Try.ntmps150
  go_wp2_with fail
  have K := Hold.start w
  refine (HH.out _).mono ?_
  rintro e_1 w1 ⟨rfl, hb⟩
  have K' := Hold.mem (K) hb
  clear hb K
  have K := K'
  clear K'
  go_wp2_with fail
  refine (HT.out _).mono ?_
  rintro e_9 w9 ⟨rfl, rfl⟩
  go_wp2_with fail
  go_ret
  exact ⟨rfl, (K).below⟩

set_option maxHeartbeats 1000000 in
theorem dirW1 {m M : Int} {a b a' b' : Nat} (hM : bits .and .i64 m 4194303 = M) (h0 : 2097152 ≤ M) (h1 : M < 4194304)
    (HH : Hid (∀ w, Calls Try.prog 150 #[.int .i64 (M - 2097152)] w (Mem (.complex .f64 a b) w)))
    (HT : Hid (∀ w, Calls Try.prog 94 #[.complex .f64 a b, .complex .f64 13830554455654793216 0] w fun e w' => e = .returned (.complex .f64 a' b') ∧ w = w')) (w : World) :
    Calls Try.prog 150 #[.int .i64 m] w (Mem (.complex .f64 a' b') w) := by
  have g1 : decide (2097152 ≤ M) = true := by simp; omega
  go_enter Try.func150, Try.ntmps150
  go_wp2_with fail
  have K := Hold.start w
  refine (HH.out _).mono ?_
  rintro e_1 w1 ⟨rfl, hb⟩
  have K' := Hold.mem (K) hb
  clear hb K
  have K := K'
  clear K'
  go_wp2_with fail
  refine (HT.out _).mono ?_
  rintro e_9 w9 ⟨rfl, rfl⟩
  go_wp2_with fail
  go_ret
  exact ⟨rfl, (K).below⟩

theorem dirP8 {m : Int} (h0 : 0 ≤ m) (h1 : m ≤ 524288) : DirP m (dir8 m) := by
  refine ⟨_, _, ⟨Rp_fi (dir8 m).1, Rp_fi (dir8 m).2⟩, fun W => dirW8 (M := m) (by rw [and22]; omega) h1 (Lib.hid fun w => halved_any m h0 h1 w) W⟩

theorem InF_of {M x : Int} (h : Sm 67108864 x) : InF x := ⟨by have := h.1; omega, by have := h.2; omega⟩

theorem dirP4 {m : Int} (h0 : 0 ≤ m) (h1 : m < 1048576) : DirP m (dir4 m) := by
  unfold dir4
  by_cases h : 524288 < m
  · rw [if_pos h]
    obtain ⟨a, b, hab, hH⟩ := dirP8 (m := 1048576 - m) (by omega) (by omega)
    have hs := (dir8_ei (1048576 - m)).si
    refine ⟨_, _, ⟨Rp_fi (dir8 (1048576 - m)).2, Rp_fi (dir8 (1048576 - m)).1⟩, fun W => dirW4 (M := m) (by rw [and22]; omega) h h1 (Lib.hid hH) (Lib.hid fun w => parts_any hab (InF_of (M := 0) hs.1) (InF_of (M := 0) hs.2) w) (Lib.hid fun w => centreAt_any _ _ w) W⟩
  · rw [if_neg h]; exact dirP8 h0 (by omega)

theorem cp_i : Cp 0 4607182418800017408 0 1 := ⟨by have := Rp_fi 0; rwa [fi_nought0] at this, by have := Rp_fi 1; rwa [fi_one] at this⟩
theorem cp_n : Cp 13830554455654793216 0 (-1) 0 := ⟨by have := Rp_fi (-1); rwa [fi_neg] at this, by have := Rp_fi 0; rwa [fi_nought0] at this⟩

theorem dirP2 {m : Int} (h0 : 0 ≤ m) (h1 : m < 2097152) : DirP m (dir2 m) := by
  unfold dir2
  by_cases h : 1048576 ≤ m
  · rw [if_pos h]
    obtain ⟨a, b, hab, hH⟩ := dirP4 (m := m - 1048576) (by omega) (by omega)
    obtain ⟨⟨x1, x2⟩, ⟨y1, y2⟩⟩ := dir4_si (m - 1048576)
    unfold CpP at hab
    generalize (dir4 (m - 1048576)).1 = x at *
    generalize (dir4 (m - 1048576)).2 = y at *
    obtain ⟨p, t, hpt, hm⟩ := times_any hab cp_i ⟨by omega, by omega⟩ ⟨by omega, by omega⟩ ⟨by decide, by decide⟩ ⟨by decide, by decide⟩ ⟨by omega, by omega⟩ ⟨by omega, by omega⟩ ⟨by omega, by omega⟩ ⟨by omega, by omega⟩ ⟨by omega, by omega⟩ ⟨by omega, by omega⟩
    rw [show x * 0 - y * 1 = -y by omega, show x * 1 + y * 0 = x by omega] at hpt
    exact ⟨p, t, hpt, fun W => dirW2 (M := m) (by rw [and22]; omega) h h1 (Lib.hid hH) (Lib.hid hm) W⟩
  · rw [if_neg h]; exact dirP4 h0 (by omega)

theorem dirP1 (m : Int) : DirP m (dir1 (m % 4194304)) := by
  have hb := and22 m
  have b0 : 0 ≤ m % 4194304 ∧ m % 4194304 < 4194304 := by omega
  generalize m % 4194304 = M at *
  unfold dir1
  by_cases h : 2097152 ≤ M
  · rw [if_pos h]
    obtain ⟨a, b, hab, hH⟩ := dirP2 (m := M - 2097152) (by omega) (by omega)
    obtain ⟨⟨x1, x2⟩, ⟨y1, y2⟩⟩ := dir2_si (M - 2097152)
    unfold CpP at hab
    generalize (dir2 (M - 2097152)).1 = x at *
    generalize (dir2 (M - 2097152)).2 = y at *
    obtain ⟨p, t, hpt, hm⟩ := times_any hab cp_n ⟨by omega, by omega⟩ ⟨by omega, by omega⟩ ⟨by decide, by decide⟩ ⟨by decide, by decide⟩ ⟨by omega, by omega⟩ ⟨by omega, by omega⟩ ⟨by omega, by omega⟩ ⟨by omega, by omega⟩ ⟨by omega, by omega⟩ ⟨by omega, by omega⟩
    rw [show x * -1 - y * 0 = -x by omega, show x * 0 + y * -1 = -y by omega] at hpt
    exact ⟨p, t, hpt, fun W => dirW1 (M := M) hb h b0.2 (Lib.hid hH) (Lib.hid hm) W⟩
  · rw [if_neg h]
    -- below half a turn: the same walk, at M
    unfold dir2
    by_cases h2 : 1048576 ≤ M
    · rw [if_pos h2]
      obtain ⟨a, b, hab, hH⟩ := dirP4 (m := M - 1048576) (by omega) (by omega)
      obtain ⟨⟨x1, x2⟩, ⟨y1, y2⟩⟩ := dir4_si (M - 1048576)
      unfold CpP at hab
      generalize (dir4 (M - 1048576)).1 = x at *
      generalize (dir4 (M - 1048576)).2 = y at *
      obtain ⟨p, t, hpt, hm⟩ := times_any hab cp_i ⟨by omega, by omega⟩ ⟨by omega, by omega⟩ ⟨by decide, by decide⟩ ⟨by decide, by decide⟩ ⟨by omega, by omega⟩ ⟨by omega, by omega⟩ ⟨by omega, by omega⟩ ⟨by omega, by omega⟩ ⟨by omega, by omega⟩ ⟨by omega, by omega⟩
      rw [show x * 0 - y * 1 = -y by omega, show x * 1 + y * 0 = x by omega] at hpt
      exact ⟨p, t, hpt, fun W => dirW2 (M := M) hb h2 (by omega) (Lib.hid hH) (Lib.hid hm) W⟩
    · rw [if_neg h2]
      unfold dir4
      by_cases h3 : 524288 < M
      · rw [if_pos h3]
        obtain ⟨a, b, hab, hH⟩ := dirP8 (m := 1048576 - M) (by omega) (by omega)
        have hs := (dir8_ei (1048576 - M)).si
        refine ⟨_, _, ⟨Rp_fi (dir8 (1048576 - M)).2, Rp_fi (dir8 (1048576 - M)).1⟩, fun W => dirW4 (M := M) hb h3 (by omega) (Lib.hid hH) (Lib.hid fun w => parts_any hab (InF_of (M := 0) hs.1) (InF_of (M := 0) hs.2) w) (Lib.hid fun w => centreAt_any _ _ w) W⟩
      · rw [if_neg h3]
        exact ⟨_, _, ⟨Rp_fi (dir8 M).1, Rp_fi (dir8 M).2⟩, fun W => dirW8 (M := M) hb (by omega) (Lib.hid fun w => halved_any M b0.1 (by omega) w) W⟩

theorem DirOk_any (m : Int) : DirOk m (dir1 (m % 4194304)).1 (dir1 (m % 4194304)).2 := by
  obtain ⟨⟨x1, x2⟩, ⟨y1, y2⟩⟩ := dir1_si (m % 4194304)
  obtain ⟨a, b, hab, hH⟩ := dirP1 m
  exact ⟨⟨by omega, by omega⟩, ⟨by omega, by omega⟩, a, b, hab, hH⟩
end Go.Proofs.Ythkooiopiaakbaa
