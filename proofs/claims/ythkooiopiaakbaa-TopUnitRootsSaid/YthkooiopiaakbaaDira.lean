/- The contract of directions. -/
import Derived.Test.YthkooiopiaakbaaTurn
import Derived.Test.YthkooiopiaakbaaRooa
import Derived.LoopTactic
namespace Go.Proofs.Ythkooiopiaakbaa
open Go.RowKit Go.Lib
attribute [local go_sem] run_store_float run_store_complex
set_option linter.unusedVariables false

/-! What directions are. -/
def bisX (p q : Int × Int) : Int := (p.1 + q.1) * 67108864 / rti (sq2 (p.1 + q.1) (p.2 + q.2))
def bisY (p q : Int × Int) : Int := (p.2 + q.2) * 67108864 / rti (sq2 (p.1 + q.1) (p.2 + q.2))
def bis (p q : Int × Int) : Int × Int := (bisX p q, bisY p q)
def hv : Nat → Int → Int × Int → Int × Int → Int → Int × Int
  | 0, _, a, _, _ => a
  | k + 1, lo, a, b, m => if lo = m then a else if lo + 2 ^ k ≤ m then hv k (lo + 2 ^ k) (bis a b) b m else hv k lo a (bis a b) m
def dir8 (m : Int) : Int × Int := if m = 524288 then (47453132, 47453132) else hv 19 0 (67108864, 0) (47453132, 47453132) m
def dir4 (m : Int) : Int × Int := if 524288 < m then ((dir8 (1048576 - m)).2, (dir8 (1048576 - m)).1) else dir8 m
def dir2 (m : Int) : Int × Int := if 1048576 ≤ m then (-(dir4 (m - 1048576)).2, (dir4 (m - 1048576)).1) else dir4 m
def dir1 (m : Int) : Int × Int := if 2097152 ≤ m then (-(dir2 (m - 2097152)).1, -(dir2 (m - 2097152)).2) else dir2 m

/-- A direction in the first eighth. -/
def Ei (p : Int × Int) : Prop := 1 ≤ p.1 ∧ 0 ≤ p.2 ∧ p.2 ≤ p.1 ∧ p.1 ≤ 67108864

theorem bis_bd {p q : Int × Int} (hp : Ei p) (hq : Ei q) : 1 ≤ rti (sq2 (p.1 + q.1) (p.2 + q.2)) ∧ rti (sq2 (p.1 + q.1) (p.2 + q.2)) ≤ 268435456 ∧ Ei (bis p q) := by
  obtain ⟨p1, p2, p3, p4⟩ := hp
  obtain ⟨q1, q2, q3, q4⟩ := hq
  have hx : 1 ≤ p.1 + q.1 ∧ p.1 + q.1 ≤ 134217728 := by omega
  have hy : 0 ≤ p.2 + q.2 ∧ p.2 + q.2 ≤ p.1 + q.1 := by omega
  unfold bis bisX bisY Ei
  generalize p.1 + q.1 = x at *
  generalize p.2 + q.2 = y at *
  have hs : sq2 x y = x * x + y * y := rfl
  have sx : 0 ≤ x * x ∧ x * x ≤ 134217728 * 134217728 := ⟨Int.mul_nonneg (by omega) (by omega), Int.mul_le_mul hx.2 hx.2 (by omega) (by decide)⟩
  have sy : 0 ≤ y * y ∧ y * y ≤ x * x := ⟨Int.mul_nonneg hy.1 hy.1, Int.mul_le_mul hy.2 hy.2 hy.1 (by omega)⟩
  have b0 : 0 ≤ sq2 x y := by omega
  have b1 : sq2 x y < 72057594037927936 := by omega
  have r1 : x ≤ rti (sq2 x y) := rti_ge b0 b1 (by omega) (by omega)
  have r2 : rti (sq2 x y) ≤ 2 * x := rti_le b0 b1 (by omega) (by
    have : 2 * x * (2 * x) = 4 * (x * x) := by rw [Int.mul_assoc, Int.mul_left_comm x 2 x, ← Int.mul_assoc]; rfl
    omega)
  generalize rti (sq2 x y) = r at *
  refine ⟨by omega, by omega, ?_, ?_, ?_, ?_⟩
  · have := Int.ediv_le_ediv (show 0 < r by omega) (show 1 * r ≤ x * 67108864 by omega)
    rwa [Int.mul_ediv_cancel _ (by omega)] at this
  · exact Int.ediv_nonneg (by omega) (by omega)
  · exact Int.ediv_le_ediv (by omega) (by omega)
  · have := Int.ediv_le_ediv (show 0 < r by omega) (show x * 67108864 ≤ 67108864 * r by omega)
    rwa [Int.mul_ediv_cancel _ (by omega)] at this

theorem hv_ei : ∀ (k : Nat) (lo : Int) (a b : Int × Int) (m : Int), Ei a → Ei b → Ei (hv k lo a b m)
  | 0, _, _, _, _, h, _ => h
  | k + 1, lo, a, b, m, h, g => by
    unfold hv
    split
    · exact h
    · split
      · exact hv_ei k _ _ _ m (bis_bd h g).2.2 g
      · exact hv_ei k _ _ _ m h (bis_bd h g).2.2
theorem ei_lo : Ei (67108864, 0) := by unfold Ei; decide
theorem ei_hi : Ei (47453132, 47453132) := by unfold Ei; decide
theorem dir8_ei (m : Int) : Ei (dir8 m) := by
  unfold dir8; split
  · exact ei_hi
  · exact hv_ei _ _ _ _ _ ei_lo ei_hi
def Si (p : Int × Int) : Prop := Sm 67108864 p.1 ∧ Sm 67108864 p.2
theorem Ei.si {p : Int × Int} (h : Ei p) : Si p := by unfold Ei at h; unfold Si Sm; omega
theorem dir4_si (m : Int) : Si (dir4 m) := by
  unfold dir4; split
  · exact ⟨(dir8_ei _).si.2, (dir8_ei _).si.1⟩
  · exact (dir8_ei _).si
theorem neg_sm {M x : Int} (h : Sm M x) : Sm M (-x) := ⟨by have := h.2; omega, by have := h.1; omega⟩
theorem dir2_si (m : Int) : Si (dir2 m) := by
  unfold dir2; split
  · exact ⟨neg_sm (dir4_si _).2, (dir4_si _).1⟩
  · exact dir4_si _
theorem dir1_si (m : Int) : Si (dir1 m) := by
  unfold dir1; split
  · exact ⟨neg_sm (dir2_si _).1, neg_sm (dir2_si _).2⟩
  · exact dir2_si _

/-- The centre of a direction, in the program's bits. -/
def CpP (a b : Nat) (p : Int × Int) : Prop := Cp a b p.1 p.2

set_option maxHeartbeats 2000000 in
theorem bisector_any {a b c d : Nat} {p q : Int × Int} (h : CpP a b p) (g : CpP c d q) (hp : Ei p) (hq : Ei q) (w : World) :
    Calls Try.prog 161 #[.complex .f64 a b, .complex .f64 c d] w (Mem (.complex .f64 (fi (bisX p q)) (fi (bisY p q))) w) := by
  obtain ⟨b1, b2, b3⟩ := bis_bd hp hq
  obtain ⟨p1, p2, p3, p4⟩ := id hp
  obtain ⟨q1, q2, q3, q4⟩ := id hq
  obtain ⟨r, s, hrs, hpl⟩ := plus_any h g ⟨by omega, by omega⟩ ⟨by omega, by omega⟩ ⟨by omega, by omega⟩ ⟨by omega, by omega⟩ ⟨by omega, by omega⟩ ⟨by omega, by omega⟩
  have HP := Lib.hid hpl
  have HD := fun w => down_any hrs ⟨by omega, by omega⟩ ⟨by omega, by omega⟩ w
  have HA := Lib.hid (fun w => parts_any hrs ⟨by omega, by omega⟩ ⟨by omega, by omega⟩ w)
  have hdn : dn (p.1 + q.1) (p.2 + q.2) = rti (sq2 (p.1 + q.1) (p.2 + q.2)) := rfl
  rw [hdn] at HD
  have HL1 := fun w => lower_any (p.1 + q.1) 67108864 (rti (sq2 (p.1 + q.1) (p.2 + q.2))) (Lib.hid (DvIn_by (X := 134217728) (Y := 67108864) (by omega) (by omega) (by decide) (by decide) (by omega) (by omega) (by decide) (by decide) (by decide))) w
  have HL2 := fun w => lower_any (p.2 + q.2) 67108864 (rti (sq2 (p.1 + q.1) (p.2 + q.2))) (Lib.hid (DvIn_by (X := 134217728) (Y := 67108864) (by omega) (by omega) (by decide) (by decide) (by omega) (by omega) (by decide) (by decide) (by decide))) w
  have e1 : (p.1 + q.1) * 67108864 / rti (sq2 (p.1 + q.1) (p.2 + q.2)) = bisX p q := rfl
  have e2 : (p.2 + q.2) * 67108864 / rti (sq2 (p.1 + q.1) (p.2 + q.2)) = bisY p q := rfl
  rw [e1] at HL1
  rw [e2] at HL2
  have HC := Lib.hid (fun w => centreAt_any (bisX p q) (bisY p q) w)
  clear hdn e1 e2 hpl hrs h g b1 b2 b3 p1 p2 p3 p4 q1 q2 q3 q4 hp hq
  generalize rti (sq2 (p.1 + q.1) (p.2 + q.2)) = R at *
  generalize p.1 + q.1 = X at *
  generalize p.2 + q.2 = Y at *
  generalize bisX p q = bx at *
  generalize bisY p q = by' at *
  generalize fi bx = fx at *
  generalize fi by' = fy at *
  replace HD := Lib.hid HD
  replace HL1 := Lib.hid HL1
  replace HL2 := Lib.hid HL2
  go_enter Try.func161, Try.ntmps161
  go_wp2_with fail
  have K := Hold.start w
  refine (HP.out _).mono ?_
  rintro e w' ⟨rfl, rfl⟩
  go_wp2_with fail
  refine (HD.out _).mono ?_
  rintro e_1 w1 ⟨rfl, hb⟩
  have K' := Hold.mem (K) hb
  clear hb K
  have K := K'
  clear K'
  go_wp2_with fail
  refine (HA.out _).mono ?_
  rintro e_2 w2 ⟨rfl, hb⟩
  have K' := Hold.mem (K) hb
  clear hb K
  have K := K'
  clear K'
  go_wp2_with fail
  have K' := (K).new #[.int .i64 X, .int .i64 Y] 58 (n := w2.heap.size) (by first | rfl | (simp <;> omega))
  clear K
  have K := K'
  clear K'
  obtain ⟨_, sz1, h0, _⟩ := id K
  have z1_0 := h0.lt
  clear h0
  have hne : Hid (∃ w', Hold w.heap.size w [(w2.heap.size, #[.int .i64 X, .int .i64 Y])] w') := ⟨_, K.drew⟩
  refine wp_region_tail (Hold w.heap.size w [(w2.heap.size, #[.int .i64 X, .int .i64 Y])]) 10 10 (by kernel_rfl) (by kernel_rfl) (fun _ _ d _ _ h => by cases d <;> exact h) (Hold.lasting _ _ _) K.drew ?_
  simp only [List.take_succ_cons, List.take_zero, List.drop_succ_cons, List.drop_zero]
  clear K
  repeat (first
    | (refine calm_skip (by rfl) ?_; simp only [Act.put, List.setIfInBounds_toArray, List.set_cons_zero, List.set_cons_succ])
    | (refine calm_step hne.out (by rfl) rfl (by simp) ?_; apply Exists.intro; refine ⟨?_, ?_⟩
       · (intro r _ K hK; go_big_quiet_op; first
          | exact hK
          | (apply Exists.intro; refine ⟨fun _ hw => ?_, ?_⟩; (first
             | with_reducible exact rfl
             | with_reducible exact cm_quiet hw (HL1.out _)
             | with_reducible exact cm_quiet hw (HL2.out _)
             | with_reducible exact cm_same hw (HC.out _)
             | (obtain ⟨_, _, h0, _⟩ := hw.s; have q0 := h0.cell; clear h0; simp [q0, go_sem]; exact rfl)); exact hK))))
  refine wpCalm_nil ?_
  intro w3 K
  clear hne
  go_wp2_with fail
  go_ret
  exact ⟨rfl, (K).below⟩

end Go.Proofs.Ythkooiopiaakbaa
