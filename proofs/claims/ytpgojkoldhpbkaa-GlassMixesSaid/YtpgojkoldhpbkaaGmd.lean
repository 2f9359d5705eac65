/- Mixtures: what the functions do, with their numbers. -/
import Derived.Test.YtpgojkoldhpbkaaGmc
import Derived.Test.YtpgojkoldhpbkaaGmb
import Derived.Test.YtpgojkoldhpbkaaGdv
namespace Go.Proofs.Ytpgojkoldhpbkaa.Gm
set_option linter.unusedSimpArgs false
open Go Go.RowKit Go.Proofs.Ytpgojkoldhpbkaa Go.Proofs.Ytpgojkoldhpbkaa.Ev

def Ret (f : FuncId) (args : Array Value) (v : Value) : Prop := ∀ w, Calls Try.prog f args w fun e w' => e = .returned v ∧ Below w.heap.size w w'
theorem of_quiet {f : FuncId} {args : Array Value} {v : Value} (h : ∀ w, Calls Try.prog f args w (Quiet v w)) : Ret f args v :=
  fun w => Calls.mono (h w) fun e w' ⟨he, n, hn⟩ => by subst hn; exact ⟨he, ⟨rfl, rfl, rfl, Nat.le_refl _, fun _ _ => rfl⟩⟩

theorem wi_true {n lo hi : Int} (h0 : lo ≤ n) (h1 : n ≤ hi) : Ret 45 #[.int .i64 n, .int .i64 lo, .int .i64 hi] (.bool true) := fun w => by
  have := wi_t (hi := hi) (decide_eq_true h0) w
  rwa [decide_eq_true h1] at this
theorem wi_false {n lo hi : Int} (h : ¬ (lo ≤ n ∧ n ≤ hi)) : Ret 45 #[.int .i64 n, .int .i64 lo, .int .i64 hi] (.bool false) := fun w => by
  by_cases h0 : lo ≤ n
  · have := wi_t (hi := hi) (decide_eq_true h0) w
    rwa [decide_eq_false (show ¬ n ≤ hi from fun h1 => h ⟨h0, h1⟩)] at this
  · exact wi_f1 (decide_eq_false h0) w
theorem bw_true {n lo hi : Int} (h0 : lo ≤ n) (h1 : n ≤ hi) : Ret 14 #[.int .i64 n, .int .i64 lo, .int .i64 hi] (.bool true) := fun w => by
  have := bw_t (hi := hi) (decide_eq_true h0) w
  rwa [decide_eq_true h1] at this

/-- The lesser and the greater of two. -/
def mn (a b : Int) : Int := if b < a then b else a
def mx (a b : Int) : Int := if b > a then b else a

/-- The numbers of a mixture, in any order of the indices. -/
theorem mixed_any {a b s : Int} (ha : 5000 ≤ a) (ha' : a ≤ 80000) (hb : 5000 ≤ b) (hb' : b ≤ 80000) (h0 : 0 ≤ s) (h1 : s ≤ 10000) :
    mn a b ≤ mixL a b s ∧ mixL a b s ≤ mixH a b s ∧ mixH a b s ≤ mx a b ∧ 250000000000 ≤ ser a b s ∧ ser a b s ≤ 64000000000000 ∧ 0 ≤ par a b s ∧ par a b s ≤ 64000000000000 ∧
    0 ≤ 10000 * a * a * (b * b) / ser a b s ∧ 10000 * a * a * (b * b) / ser a b s < 72057594037927936 ∧ 0 ≤ cdiv (par a b s) 10000 ∧ cdiv (par a b s) 10000 < 72057594037927936 := by
  by_cases hab : a ≤ b
  · obtain ⟨m1, m2, m3, m4, m5, m6, m7, m8, m9⟩ := mixed ha hab hb' h0 h1
    obtain ⟨g0, g1, g2, g3, g4, g5, g6, g7⟩ := bounds ha hab hb' h0 h1
    refine ⟨?_, m2, ?_, by omega, by omega, by omega, by omega, m6, m7, m8, m9⟩
    · unfold mn; split <;> omega
    · unfold mx; split <;> omega
  · obtain ⟨m1, m2, m3, m4, m5, m6, m7, m8, m9⟩ := mixed (a := b) (b := a) (s := 10000 - s) hb (by omega) ha' (by omega) (by omega)
    obtain ⟨g0, g1, g2, g3, g4, g5, g6, g7⟩ := bounds (a := b) (b := a) (s := 10000 - s) hb (by omega) ha' (by omega) (by omega)
    have eN : 10000 * b * b * (a * a) = 10000 * a * a * (b * b) := by grind
    rw [mixL_swap] at m1 m2; rw [mixH_swap] at m2 m3; rw [par_swap] at m8 m9 g3 g4; rw [ser_swap] at m6 m7 g5 g6; rw [eN] at m6 m7
    refine ⟨?_, m2, ?_, by omega, by omega, by omega, by omega, m6, m7, m8, m9⟩
    · unfold mn; split <;> omega
    · unfold mx; split <;> omega

/-- An index as it must be. -/
def Ok (a : Int) : Prop := 5000 ≤ a ∧ a ≤ 80000

theorem mb_val {a b s : Int} (ha : Ok a) (hb : Ok b) (hs : 0 ≤ s ∧ s ≤ 10000) : Ret 16 #[.int .i64 a, .int .i64 b, .int .i64 s] (.tuple #[.agg #[.int .i64 (mixL a b s), .int .i64 (mixH a b s)], .int .i64 0]) := by
  obtain ⟨ha, ha'⟩ := ha
  obtain ⟨hb, hb'⟩ := hb
  obtain ⟨h0, h1⟩ := hs
  obtain ⟨m1, m2, m3, g5, g6, g3, g4, m6, m7, m8, m9⟩ := mixed_any ha ha' hb hb' h0 h1
  have p2 := mul_bd (x := 10000 * a) (y := a) (X := 800000000) (Y := 80000) (by omega) (by omega) (by omega) ha'
  have p3 := mul_bd (x := b) (y := b) (X := 80000) (Y := 80000) (by omega) hb' (by omega) hb'
  have p4 := mul_bd (x := s) (y := b) (X := 10000) (Y := 80000) h0 h1 (by omega) hb'
  have p5 := mul_bd (x := s * b) (y := b) (X := 10000 * 80000) (Y := 80000) p4.1 p4.2 (by omega) hb'
  have p6 := mul_bd (x := 10000 - s) (y := a) (X := 10000) (Y := 80000) (by omega) (by omega) (by omega) ha'
  have p7 := mul_bd (x := (10000 - s) * a) (y := a) (X := 10000 * 80000) (Y := 80000) p6.1 p6.2 (by omega) ha'
  have p8 := mul_bd (x := s) (y := a) (X := 10000) (Y := 80000) h0 h1 (by omega) ha'
  have p9 := mul_bd (x := s * a) (y := a) (X := 10000 * 80000) (Y := 80000) p8.1 p8.2 (by omega) ha'
  have p10 := mul_bd (x := 10000 - s) (y := b) (X := 10000) (Y := 80000) (by omega) (by omega) (by omega) hb'
  have p11 := mul_bd (x := (10000 - s) * b) (y := b) (X := 10000 * 80000) (Y := 80000) p10.1 p10.2 (by omega) hb'
  have es : s * b * b + (10000 - s) * a * a = ser a b s := rfl
  have ep : s * a * a + (10000 - s) * b * b = par a b s := rfl
  have dl : DvIn (10000 * a * a) (b * b) (ser a b s) := DvIn_gen (by omega) (by omega) (by omega) (by omega) (by omega) (by omega) (by
    rw [Int.natAbs_of_nonneg p2.1]
    have := mul_bd p2.1 p2.2 p3.1 p3.2
    omega)
  have du : DvIn (par a b s) 1 10000 := DvIn_by (X := 64000000000000) (Y := 1) (by omega) (by omega) (by omega) (by omega) (by omega) (by omega) (by omega) (by omega) (by omega)
  have hL := of_quiet (lower_any _ _ _ (Lib.hid dl))
  have hU := of_quiet (upper_any _ _ _ (Lib.hid du))
  rw [Int.mul_one] at hU
  exact fun w => mb_ok (v3 := 10000 - s) (IntWalk.i64_in _ (by omega)) (IntWalk.i64_in _ (by omega)) (IntWalk.i64_in _ (by omega)) (IntWalk.i64_in _ (by omega)) (IntWalk.i64_in _ (by omega)) (IntWalk.i64_in _ (by omega)) (IntWalk.i64_in _ (by omega)) (IntWalk.i64_in _ (by omega))
    ((IntWalk.i64_in _ (by omega)).trans es) (IntWalk.i64_in _ (by omega)) (IntWalk.i64_in _ (by omega)) (IntWalk.i64_in _ (by omega)) (IntWalk.i64_in _ (by omega)) ((IntWalk.i64_in _ (by omega)).trans ep)
    (wi_true ha ha') (wi_true hb hb') (wi_true h0 h1) hL hU (of_quiet (rootDown_any _ m6 m7)) (of_quiet (rootUp_any _ m8 m9)) w
end Go.Proofs.Ytpgojkoldhpbkaa.Gm
