/- Quotients, and cut enclosures. -/
import Derived.Test.YtpjcjdhidfnbbaaGreatFqs
import Derived.Test.YtpjcjdhidfnbbaaGreatFre
namespace Go.Proofs.YtpjcjdhidfnbbaaGreat.Ev
set_option linter.unusedSimpArgs false
open Go Go.RowKit
set_option linter.unusedVariables false
set_option maxRecDepth 100000
def span_Quotient_s : Sig := ⟨95, ⟨2, 0, 0⟩, ⟨2, 0, 0⟩, [(.int .i64 (.var 0)), (.int .i64 (.var 1))], [], (.agg [(.int .i64 (.var 2)), (.int .i64 (.var 3))]), []⟩
def meter_cut_s : Sig := ⟨61, ⟨2, 0, 0⟩, ⟨3, 0, 0⟩, [(.agg [(.int .i64 (.var 0)), (.int .i64 (.var 1))])], [], (.tuple [(.agg [(.int .i64 (.var 2)), (.int .i64 (.var 3))]), (.int .i64 (.var 4))]), []⟩
def etalonref06_cut_s : Sig := ⟨102, ⟨2, 0, 0⟩, ⟨3, 0, 0⟩, [(.agg [(.int .i64 (.var 0)), (.int .i64 (.var 1))])], [], (.tuple [(.agg [(.int .i64 (.var 2)), (.int .i64 (.var 3))]), (.int .i64 (.var 4))]), []⟩

def qu_t : Tr :=
  (.ite (.icmp .leq (.lit 0) (.var 1))
  (.call whole_Lower_s ⟨[(.var 0), (.lit 1), (.var 1)], [], []⟩ ⟨[(.var 0), (.lit 1), (.var 1), (.var 2)], [], []⟩ ⟨111, [(.int .i64 (.var 0)), (.int .i64 (.lit 1)), (.int .i64 (.var 1))], [], [none], (.int .i64 (.var 2)), []⟩
   (.call whole_Upper_s ⟨[(.var 0), (.lit 1), (.var 1)], [], []⟩ ⟨[(.var 0), (.lit 1), (.var 1), (.var 3)], [], []⟩ ⟨112, [(.int .i64 (.var 0)), (.int .i64 (.lit 1)), (.int .i64 (.var 1))], [], [none], (.int .i64 (.var 3)), []⟩
   (.ret ⟨[(.var 2), (.var 3)], [], []⟩ [])))
  (.call whole_Lower_s ⟨[(.bin (.subW .i64) (.lit 0) (.var 0)), (.lit 1), (.bin (.subW .i64) (.lit 0) (.var 1))], [], []⟩ ⟨[(.bin (.subW .i64) (.lit 0) (.var 0)), (.lit 1), (.bin (.subW .i64) (.lit 0) (.var 1)), (.var 2)], [], []⟩ ⟨111, [(.int .i64 (.bin (.subW .i64) (.lit 0) (.var 0))), (.int .i64 (.lit 1)), (.int .i64 (.bin (.subW .i64) (.lit 0) (.var 1)))], [], [none], (.int .i64 (.var 2)), []⟩
   (.call whole_Upper_s ⟨[(.bin (.subW .i64) (.lit 0) (.var 0)), (.lit 1), (.bin (.subW .i64) (.lit 0) (.var 1))], [], []⟩ ⟨[(.bin (.subW .i64) (.lit 0) (.var 0)), (.lit 1), (.bin (.subW .i64) (.lit 0) (.var 1)), (.var 3)], [], []⟩ ⟨112, [(.int .i64 (.bin (.subW .i64) (.lit 0) (.var 0))), (.int .i64 (.lit 1)), (.int .i64 (.bin (.subW .i64) (.lit 0) (.var 1)))], [], [none], (.int .i64 (.var 3)), []⟩
   (.ret ⟨[(.var 2), (.var 3)], [], []⟩ []))))
theorem qu {x0 x1 : Int} (r0 : (-9223372036854775808) ≤ x0 ∧ x0 ≤ 9223372036854775807) (r1 : (-9223372036854775808) ≤ x1 ∧ x1 ≤ 9223372036854775807) {R : Int → Int → Prop}
  (H : ((decide ((0 : Int) ≤ x1) = true → (∃ v2 : Int, Spec Tryz.prog whole_Lower_s ⟨[x0, 1, x1], [], []⟩ [v2] [] [] ∧
    (∃ v3 : Int, Spec Tryz.prog whole_Upper_s ⟨[x0, 1, x1], [], []⟩ [v3] [] [] ∧
    R (v2) (v3)))) ∧
   (decide ((0 : Int) ≤ x1) = false → (∃ v2 : Int, Spec Tryz.prog whole_Lower_s ⟨[IntKind.i64.wrap (0 - x0), 1, IntKind.i64.wrap (0 - x1)], [], []⟩ [v2] [] [] ∧
    (∃ v3 : Int, Spec Tryz.prog whole_Upper_s ⟨[IntKind.i64.wrap (0 - x0), 1, IntKind.i64.wrap (0 - x1)], [], []⟩ [v3] [] [] ∧
    R (v2) (v3)))))) :
    ∃ v0 : Int, ∃ v1 : Int, R v0 v1 ∧ Spec Tryz.prog span_Quotient_s ⟨[x0, x1], [], []⟩ [v0, v1] [] [] :=
  Eq.mp (by kernel_rfl) (exV_of (K := fun d => app3 span_Quotient_s.out R d ∧ Spec Tryz.prog span_Quotient_s ⟨[x0, x1], [], []⟩ d.1 d.2.1 d.2.2) (tree_at mixed names S1_ok (S := S1 Tryz.prog) (lf := 100000) (d := 60) span_Quotient_s qu_t { ivs := [(0, (-9223372036854775808), 9223372036854775807), (1, (-9223372036854775808), 9223372036854775807)], aivs := [] } ⟨[x0, x1], [], []⟩ rfl (by kernel_rfl) (by kernel_rfl) (by kernel_rfl) ⟨(fc r0 (fc r1 fz)), fz, fz, fz⟩ (R := fun d => app3 span_Quotient_s.out R d) (Eq.mp (by kernel_rfl) H)))

def cu_t : Tr :=
  (.ite (.icmp .leq (.var 0) (.lit 1048576))
  (.ite (.icmp .leq (.lit (-1048576)) (.var 1))
   (.ret ⟨[(.bin .maxI (.var 0) (.lit (-1048576))), (.bin .minI (.var 1) (.lit 1048576)), (.lit 0)], [], []⟩ [])
   (.ret ⟨[(.lit 0), (.lit 0), (.lit 24)], [], []⟩ []))
  (.ret ⟨[(.lit 0), (.lit 0), (.lit 24)], [], []⟩ []))
theorem cu {x0 x1 : Int} (r0 : (-9223372036854775808) ≤ x0 ∧ x0 ≤ 9223372036854775807) (r1 : (-9223372036854775808) ≤ x1 ∧ x1 ≤ 9223372036854775807) {R : Int → Int → Int → Prop}
  (H : ((decide ((x0 : Int) ≤ 1048576) = true → ((decide (((-1048576) : Int) ≤ x1) = true → R ((if ((-1048576) : Int) > x0 then (-1048576) else x0)) ((if (1048576 : Int) < x1 then 1048576 else x1)) (0)) ∧
    (decide (((-1048576) : Int) ≤ x1) = false → R (0) (0) (24)))) ∧
   (decide ((x0 : Int) ≤ 1048576) = false → R (0) (0) (24)))) :
    ∃ v0 : Int, ∃ v1 : Int, ∃ v2 : Int, R v0 v1 v2 ∧ Spec Tryz.prog meter_cut_s ⟨[x0, x1], [], []⟩ [v0, v1, v2] [] [] :=
  Eq.mp (by kernel_rfl) (exV_of (K := fun d => app3 meter_cut_s.out R d ∧ Spec Tryz.prog meter_cut_s ⟨[x0, x1], [], []⟩ d.1 d.2.1 d.2.2) (tree_at mixed names S1_ok (S := S1 Tryz.prog) (lf := 100000) (d := 60) meter_cut_s cu_t { ivs := [(0, (-9223372036854775808), 9223372036854775807), (1, (-9223372036854775808), 9223372036854775807)], aivs := [] } ⟨[x0, x1], [], []⟩ rfl (by kernel_rfl) (by kernel_rfl) (by kernel_rfl) ⟨(fc r0 (fc r1 fz)), fz, fz, fz⟩ (R := fun d => app3 meter_cut_s.out R d) (Eq.mp (by kernel_rfl) H)))

def rcu_t : Tr :=
  (.ite (.icmp .leq (.var 0) (.lit 1048576))
  (.ite (.icmp .leq (.lit (-1048576)) (.var 1))
   (.ret ⟨[(.bin .maxI (.var 0) (.lit (-1048576))), (.bin .minI (.var 1) (.lit 1048576)), (.lit 0)], [], []⟩ [])
   (.ret ⟨[(.lit 0), (.lit 0), (.lit 24)], [], []⟩ []))
  (.ret ⟨[(.lit 0), (.lit 0), (.lit 24)], [], []⟩ []))
theorem rcu {x0 x1 : Int} (r0 : (-9223372036854775808) ≤ x0 ∧ x0 ≤ 9223372036854775807) (r1 : (-9223372036854775808) ≤ x1 ∧ x1 ≤ 9223372036854775807) {R : Int → Int → Int → Prop}
  (H : ((decide ((x0 : Int) ≤ 1048576) = true → ((decide (((-1048576) : Int) ≤ x1) = true → R ((if ((-1048576) : Int) > x0 then (-1048576) else x0)) ((if (1048576 : Int) < x1 then 1048576 else x1)) (0)) ∧
    (decide (((-1048576) : Int) ≤ x1) = false → R (0) (0) (24)))) ∧
   (decide ((x0 : Int) ≤ 1048576) = false → R (0) (0) (24)))) :
    ∃ v0 : Int, ∃ v1 : Int, ∃ v2 : Int, R v0 v1 v2 ∧ Spec Tryz.prog etalonref06_cut_s ⟨[x0, x1], [], []⟩ [v0, v1, v2] [] [] :=
  Eq.mp (by kernel_rfl) (exV_of (K := fun d => app3 etalonref06_cut_s.out R d ∧ Spec Tryz.prog etalonref06_cut_s ⟨[x0, x1], [], []⟩ d.1 d.2.1 d.2.2) (tree_at mixed names S1_ok (S := S1 Tryz.prog) (lf := 100000) (d := 60) etalonref06_cut_s rcu_t { ivs := [(0, (-9223372036854775808), 9223372036854775807), (1, (-9223372036854775808), 9223372036854775807)], aivs := [] } ⟨[x0, x1], [], []⟩ rfl (by kernel_rfl) (by kernel_rfl) (by kernel_rfl) ⟨(fc r0 (fc r1 fz)), fz, fz, fz⟩ (R := fun d => app3 etalonref06_cut_s.out R d) (Eq.mp (by kernel_rfl) H)))

/-- A quotient by a number other than 0, rounded down, and rounded up. -/

def qF (x d : Int) : Int := if 0 ≤ d then x / d else (0 - x) / (0 - d)

def qC (x d : Int) : Int := if 0 ≤ d then cdiv x d else cdiv (0 - x) (0 - d)

theorem quotient_s {x d M : Int} (hx : -M ≤ x ∧ x ≤ M) (hd : d ≠ 0) (hd' : -4611686018427387904 ≤ d ∧ d ≤ 4611686018427387904) (hM : M ≤ 4611686018427387904) : Spec Tryz.prog span_Quotient_s ⟨[x, d], [], []⟩ [qF x d, qC x d] [] [] := by

  have dv : ∀ y e : Int, -M ≤ y ∧ y ≤ M → 0 < e ∧ e ≤ 4611686018427387904 → DvIn y 1 e := fun y e h1 h2 =>

    DvIn_by (X := M) (Y := 1) (by omega) (by omega) (by omega) (by omega) (by omega) (by omega) (by omega) (by omega) (by decide)

  obtain ⟨v, u, ⟨rfl, rfl⟩, hs⟩ := qu (x0 := x) (x1 := d) (by omega) (by omega) (R := fun v u => v = qF x d ∧ u = qC x d) (by

    have w1 : IntKind.i64.wrap (0 - x) = 0 - x := by rw [IntKind.wrap_i64]; omega

    have w2 : IntKind.i64.wrap (0 - d) = 0 - d := by rw [IntKind.wrap_i64]; omega

    rw [w1, w2]

    refine ⟨fun h => ?_, fun h => ?_⟩

    · simp only [decide_eq_true_eq] at h

      have l := lower_s (dv x d hx (by omega))

      have u := upper_s (dv x d hx (by omega))

      rw [Int.mul_one] at l u

      exact ⟨_, l, _, u, by unfold qF; rw [if_pos h], by unfold qC; rw [if_pos h]⟩

    · simp only [decide_eq_false_iff_not] at h

      have l := lower_s (dv (0 - x) (0 - d) (by omega) (by omega))

      have u := upper_s (dv (0 - x) (0 - d) (by omega) (by omega))

      rw [Int.mul_one] at l u

      exact ⟨_, l, _, u, by unfold qF; rw [if_neg h], by unfold qC; rw [if_neg h]⟩)

  exact hs

/-- An enclosure, cut to what may be: its ends and its error. -/

def cutE (lo hi : Int) : Int := if lo ≤ 1048576 ∧ -1048576 ≤ hi then 0 else 24

def cutL (lo hi : Int) : Int := if cutE lo hi = 0 then max lo (-1048576) else 0

def cutH (lo hi : Int) : Int := if cutE lo hi = 0 then min hi 1048576 else 0

theorem cutE_vals (lo hi : Int) : cutE lo hi = 0 ∨ cutE lo hi = 24 := by unfold cutE; split <;> simp

theorem cut_R {x0 x1 : Int} : ((decide ((x0 : Int) ≤ 1048576) = true → ((decide (((-1048576) : Int) ≤ x1) = true → ((if ((-1048576) : Int) > x0 then (-1048576) else x0) = cutL x0 x1 ∧ (if (1048576 : Int) < x1 then 1048576 else x1) = cutH x0 x1 ∧ (0 : Int) = cutE x0 x1)) ∧

    (decide (((-1048576) : Int) ≤ x1) = false → ((0 : Int) = cutL x0 x1 ∧ 0 = cutH x0 x1 ∧ 24 = cutE x0 x1)))) ∧

   (decide ((x0 : Int) ≤ 1048576) = false → ((0 : Int) = cutL x0 x1 ∧ 0 = cutH x0 x1 ∧ 24 = cutE x0 x1))) := by

  unfold cutL cutH cutE

  refine ⟨fun h => ⟨fun g => ?_, fun g => ?_⟩, fun h => ?_⟩

  · simp only [decide_eq_true_eq] at h g

    rw [if_pos (⟨h, g⟩ : x0 ≤ 1048576 ∧ -1048576 ≤ x1)]

    rw [if_pos rfl, if_pos rfl]

    refine ⟨?_, ?_, rfl⟩

    · split <;> omega

    · split <;> omega

  · simp only [decide_eq_false_iff_not] at g

    rw [if_neg (show ¬ (x0 ≤ 1048576 ∧ -1048576 ≤ x1) from fun q => g q.2)]

    exact ⟨rfl, rfl, rfl⟩

  · simp only [decide_eq_false_iff_not] at h

    rw [if_neg (show ¬ (x0 ≤ 1048576 ∧ -1048576 ≤ x1) from fun q => h q.1)]

    exact ⟨rfl, rfl, rfl⟩

theorem cut_p {x0 x1 : Int} (r0 : I64 x0) (r1 : I64 x1) : Spec Tryz.prog meter_cut_s ⟨[x0, x1], [], []⟩ [cutL x0 x1, cutH x0 x1, cutE x0 x1] [] [] := by

  obtain ⟨a, b, c, ⟨rfl, rfl, rfl⟩, hs⟩ := cu r0 r1 (R := fun a b c => a = cutL x0 x1 ∧ b = cutH x0 x1 ∧ c = cutE x0 x1) cut_R

  exact hs

theorem cut_r {x0 x1 : Int} (r0 : I64 x0) (r1 : I64 x1) : Spec Tryz.prog etalonref06_cut_s ⟨[x0, x1], [], []⟩ [cutL x0 x1, cutH x0 x1, cutE x0 x1] [] [] := by

  obtain ⟨a, b, c, ⟨rfl, rfl, rfl⟩, hs⟩ := rcu r0 r1 (R := fun a b c => a = cutL x0 x1 ∧ b = cutH x0 x1 ∧ c = cutE x0 x1) cut_R

  exact hs

theorem ite_min (x y : Int) : (if y < x then y else x) = min x y := by split <;> omega

theorem ite_max (x y : Int) : (if y > x then y else x) = max x y := by split <;> omega

theorem mulB {n a N A : Int} (hn : -N ≤ n ∧ n ≤ N) (ha : -A ≤ a ∧ a ≤ A) : -(N * A) ≤ n * a ∧ n * a ≤ N * A := by

  have h1 : n.natAbs ≤ N.toNat := by omega

  have h2 : a.natAbs ≤ A.toNat := by omega

  have h3 := Nat.mul_le_mul h1 h2

  rw [← Int.natAbs_mul] at h3

  have h4 : ((N.toNat * A.toNat : Nat) : Int) = N * A := by rw [Int.natCast_mul, Int.toNat_of_nonneg (by omega), Int.toNat_of_nonneg (by omega)]

  generalize N.toNat * A.toNat = q at h3 h4

  rw [← h4]

  omega

end Go.Proofs.YtpjcjdhidfnbbaaGreat.Ev
