/- The statement on squares answers true. -/
import Derived.Test.YthkooiopiaakbaaSqwa
import Derived.Test.YthkooiopiaakbaaSqwb
import Derived.Test.YthkooiopiaakbaaSqn
import Derived.Test.YthkooiopiaakbaaRoob
import Derived.Test.YthkooiopiaakbaaQuoi
namespace Go.Proofs.Ythkooiopiaakbaa
open Go.RowKit Go.Lib
set_option linter.unusedVariables false

theorem cdiv_le' {n d M : Int} (hd : 0 < d) (h : n ≤ d * M) : cdiv n d ≤ M := by
  unfold cdiv
  have : -M ≤ -n / d := Int.le_ediv_of_mul_le hd (by rw [Int.neg_mul, Int.mul_comm]; omega)
  omega

/-- The root of a ball near to 0 is one, and so is its square. -/
theorem root_small {x y r : Int} (hx : Sm 4194304 x) (hy : Sm 4194304 y) (r1 : 0 ≤ r) (r2 : r ≤ 100) (hz : ¬ dn x y ≤ r) : Sm 4194304 (rtX x y) ∧ Sm 4194304 (rtY x y) ∧ 0 ≤ rtR x y r ∧ rtR x y r ≤ 110000 := by
  obtain ⟨x1, x2⟩ := id hx
  obtain ⟨y1, y2⟩ := id hy
  have hc : ckB x y r = 0 := ck_small ⟨by omega, by omega⟩ ⟨by omega, by omega⟩ (by omega) (by omega)
  obtain ⟨_, hR0, l1, l2⟩ := root_parts hc hz
  obtain ⟨b1, b2, b3, b4, b5, b6, b7, b8, b9, b10, b11, b12, b13, b14, b15⟩ := rt_bd hc hz
  have s1 := sq_bd hx
  have s2 := sq_bd hy
  have hD := dn_sqv (x := x) (y := y) ⟨by omega, by omega⟩ ⟨by omega, by omega⟩
  have hD2 : dn x y ≤ 8388608 := le_of_sqv (by decide) (by omega)
  have ha : rtA x ≤ 4194304 := by unfold rtA; split <;> omega
  have hG : rtG x y ≤ 2600000 := rti_le (by omega) (by omega) (by decide) (by omega)
  have hL : Sm 2700000 (rtL x y) := by
    generalize rtG x y = G at *
    generalize rtL x y = L at *
    have g2 : G * G ≤ G * 2600000 := Int.mul_le_mul_of_nonneg_left hG (by omega)
    have e : 2 * G * L = 2 * (G * L) := by grind
    constructor
    · by_cases h : -2700000 ≤ L
      · exact h
      · have : G * L ≤ G * (-2700001) := Int.mul_le_mul_of_nonneg_left (by omega) (by omega)
        omega
    · by_cases h : L ≤ 2700000
      · exact h
      · have : G * 2700001 ≤ G * L := Int.mul_le_mul_of_nonneg_left (by omega) (by omega)
        omega
  obtain ⟨h1, h2⟩ := hL
  refine ⟨?_, ?_, hR0, ?_⟩
  · unfold rtX; split <;> constructor <;> omega
  · unfold rtY; split
    · constructor <;> omega
    · split <;> constructor <;> omega
  · have c1 : cdiv (r * 1048576) (rti (dn x y * 1048576)) ≤ 102400 := cdiv_le' (by omega) (by omega)
    have c2 : cdiv 1048576 (rtG x y) ≤ 1449 := cdiv_le' (by omega) (by omega)
    unfold rtR; omega

theorem wiB_true' {n lo hi : Int} (h : wiB n lo hi = true) : lo ≤ n ∧ n ≤ hi := by
  unfold wiB at h; simpa using h
theorem cutI_near' {x : Int} (h : Sm 4194304 x) : cutI x = x := by
  obtain ⟨h1, h2⟩ := h
  unfold cutI; rw [if_neg (by omega), if_neg (by omega)]

set_option maxHeartbeats 1000000 in
theorem squares_walk (x y r u v s : Int) (w : World) :
    Calls Try.prog 14 #[.agg #[.int .i64 x, .int .i64 y, .int .i64 r], .agg #[.int .i64 u, .int .i64 v, .int .i64 s]] w (Mem (.bool true) w) := by
  have N1 := fun w => near_whole x y r w
  have N2 := fun w => near_whole u v s w
  by_cases n1 : nearW x y r = true
  case neg => rw [show nearW x y r = false by simpa using n1] at N1; exact sq_n1 (Lib.hid N1) w
  rw [n1] at N1
  by_cases n2 : nearW u v s = true
  case neg => rw [show nearW u v s = false by simpa using n2] at N2; exact sq_n2 (Lib.hid N1) (Lib.hid N2) w
  rw [n2] at N2
  unfold nearW at n1 n2
  simp only [Bool.and_eq_true] at n1 n2
  obtain ⟨x1, x2⟩ := wiB_true' n1.1
  obtain ⟨y1, y2⟩ := wiB_true' n1.2.1
  obtain ⟨r1, r2⟩ := wiB_true' n1.2.2
  obtain ⟨u1, u2⟩ := wiB_true' n2.1
  obtain ⟨v1, v2⟩ := wiB_true' n2.2.1
  obtain ⟨s1, s2⟩ := wiB_true' n2.2.2
  clear n1 n2
  have BX := fun w => WholeBall_any x y r w
  have BY := fun w => WholeBall_any u v s w
  rw [cutI_near' (x := x) ⟨by omega, by omega⟩, cutI_near' (x := y) ⟨by omega, by omega⟩] at BX
  rw [cutI_near' (x := u) ⟨by omega, by omega⟩, cutI_near' (x := v) ⟨by omega, by omega⟩] at BY
  have hc : ckB x y r = 0 := ck_small ⟨by omega, by omega⟩ ⟨by omega, by omega⟩ (by omega) (by omega)
  have gc : ckB u v s = 0 := ck_small ⟨by omega, by omega⟩ ⟨by omega, by omega⟩ (by omega) (by omega)
  have cx : Cp (fi x) (fi y) x y := ⟨Rp_fi _, Rp_fi _⟩
  have cu : Cp (fi u) (fi v) u v := ⟨Rp_fi _, Rp_fi _⟩
  have ix : InF x := ⟨by omega, by omega⟩
  have iy : InF y := ⟨by omega, by omega⟩
  have iu : InF u := ⟨by omega, by omega⟩
  have iv : InF v := ⟨by omega, by omega⟩
  -- the product
  have TM := fun w => Times_any r s cx ix iy cu iu iv w
  obtain ⟨k1, k2, k3⟩ := prod_near2 (x := x) (y := y) (r := r) (u := u) (v := v) (s := s) ⟨by omega, by omega⟩ ⟨by omega, by omega⟩ ⟨by omega, by omega⟩ ⟨by omega, by omega⟩ r1 (by omega) s1 (by omega)
  obtain ⟨ts, tc⟩ := res_small k1 k2 (prodR_nn hc gc) k3
  rw [if_pos ⟨hc, gc⟩, ts] at TM
  obtain ⟨⟨p1, p2⟩, ⟨p3, p4⟩, _, _⟩ := ckB_ok tc
  -- the quotient
  have QU := fun w => Quotient_all (a := fi (prodX x y u v)) (b := fi (prodY x y u v)) (prodR x y u v r s) s ⟨Rp_fi _, Rp_fi _⟩ (x := prodX x y u v) (y := prodY x y u v) ⟨by omega, by omega⟩ ⟨by omega, by omega⟩ cu iu iv w
  rw [if_pos ⟨tc, gc⟩] at QU
  -- the root
  have RT := fun w => Root_any r cx ix iy w
  rw [if_pos hc] at RT
  have hQ : ∃ (a b : Nat) (q g : Int), (∀ w, Calls Try.prog 41 #[.agg #[.complex .f64 (fi (prodX x y u v)) (fi (prodY x y u v)), .int .i64 (prodR x y u v r s)], .agg #[.complex .f64 (fi u) (fi v), .int .i64 s]] w (Mem (balV a b q g) w)) ∧
      (g = 0 → ∀ w, Calls Try.prog 53 #[.agg #[.complex .f64 a b, .int .i64 q], .agg #[.complex .f64 (fi x) (fi y), .int .i64 r]] w (Mem (bovV true 0) w)) := by
    unfold quoV at QU
    by_cases hz : dn u v - s ≤ 0
    · rw [if_pos hz] at QU; exact ⟨_, _, _, _, QU, fun h => by cases h⟩
    · rw [if_neg hz] at QU
      have hm := quo_meets hc gc (by omega) tc
      have hn := quoR_nn tc gc (by omega)
      rcases res_split (x := rdiv (quoN1 (prodX x y u v) (prodY x y u v) u v * 1048576) (sq2 u v)) (y := rdiv (quoN2 (prodX x y u v) (prodY x y u v) u v * 1048576) (sq2 u v)) hn with ⟨e1, e2⟩ | e1
      · rw [e1] at QU
        refine ⟨_, _, _, _, QU, fun _ w => ?_⟩
        obtain ⟨⟨q1, q2⟩, ⟨q3, q4⟩, _, _⟩ := ckB_ok e2
        have := Meets_any (a := fi _) (b := fi _) (quoR (prodX x y u v) (prodY x y u v) u v (prodR x y u v r s) s) r ⟨Rp_fi _, Rp_fi _⟩ (x := rdiv (quoN1 (prodX x y u v) (prodY x y u v) u v * 1048576) (sq2 u v)) (y := rdiv (quoN2 (prodX x y u v) (prodY x y u v) u v * 1048576) (sq2 u v)) ⟨by omega, by omega⟩ ⟨by omega, by omega⟩ cx ix iy w
        rw [if_pos ⟨e2, hc⟩, hm] at this
        exact this
      · rw [e1] at QU; exact ⟨_, _, _, _, QU, fun h => by cases h⟩
  obtain ⟨a, b, q, g, QU, M2⟩ := hQ
  have hT : (∃ (a b : Nat) (q e : Int), e ≠ 0 ∧ ∀ w, Calls Try.prog 43 #[.agg #[.complex .f64 (fi x) (fi y), .int .i64 r]] w (Mem (balV a b q e) w)) ∨
      (∃ X Y R X' Y' R', (∀ w, Calls Try.prog 43 #[.agg #[.complex .f64 (fi x) (fi y), .int .i64 r]] w (Mem (balV (fi X) (fi Y) R 0) w)) ∧
        (∀ w, Calls Try.prog 37 #[.agg #[.complex .f64 (fi X) (fi Y), .int .i64 R], .agg #[.complex .f64 (fi X) (fi Y), .int .i64 R]] w (Mem (balV (fi X') (fi Y') R' 0) w)) ∧
        (∀ w, Calls Try.prog 53 #[.agg #[.complex .f64 (fi X') (fi Y'), .int .i64 R'], .agg #[.complex .f64 (fi x) (fi y), .int .i64 r]] w (Mem (bovV true 0) w))) := by
    unfold rootV at RT
    by_cases hz : dn x y ≤ r
    · rw [if_pos hz] at RT; exact .inl ⟨_, _, _, 9, by decide, RT⟩
    · rw [if_neg hz] at RT
      by_cases hq : x < 0 ∧ szB y r = true ∧ r ≠ 0
      · rw [if_pos hq] at RT; exact .inl ⟨_, _, _, 14, by decide, RT⟩
      · rw [if_neg hq] at RT
        obtain ⟨z1, z2, z3, z4⟩ := root_small (x := x) (y := y) (r := r) ⟨by omega, by omega⟩ ⟨by omega, by omega⟩ r1 r2 hz
        obtain ⟨e1, e2⟩ := res_small (x := rtX x y) (y := rtY x y) (r := rtR x y r) ⟨by have := z1.1; omega, by have := z1.2; omega⟩ ⟨by have := z2.1; omega, by have := z2.2; omega⟩ z3 (by omega)
        rw [e1] at RT
        have hm := root_meets hc hz e2
        have cX : Cp (fi (rtX x y)) (fi (rtY x y)) (rtX x y) (rtY x y) := ⟨Rp_fi _, Rp_fi _⟩
        have iX : InF (rtX x y) := ⟨by have := z1.1; omega, by have := z1.2; omega⟩
        have iY : InF (rtY x y) := ⟨by have := z2.1; omega, by have := z2.2; omega⟩
        have TR := fun w => Times_any (rtR x y r) (rtR x y r) cX iX iY cX iX iY w
        obtain ⟨m1, m2, m3⟩ := prod_near2 (x := rtX x y) (y := rtY x y) (r := rtR x y r) (u := rtX x y) (v := rtY x y) (s := rtR x y r) ⟨by have := z1.1; omega, by have := z1.2; omega⟩ ⟨by have := z2.1; omega, by have := z2.2; omega⟩ z1 z2 z3 z4 z3 z4
        obtain ⟨f1, f2⟩ := res_small m1 m2 (prodR_nn e2 e2) m3
        rw [if_pos ⟨e2, e2⟩, f1] at TR
        refine .inr ⟨_, _, _, _, _, _, RT, TR, fun w => ?_⟩
        obtain ⟨⟨q1, q2⟩, ⟨q3, q4⟩, _, _⟩ := ckB_ok f2
        have := Meets_any (a := fi _) (b := fi _) (prodR (rtX x y) (rtY x y) (rtX x y) (rtY x y) (rtR x y r) (rtR x y r)) r ⟨Rp_fi _, Rp_fi _⟩ (x := prodX (rtX x y) (rtY x y) (rtX x y) (rtY x y)) (y := prodY (rtX x y) (rtY x y) (rtX x y) (rtY x y)) ⟨by omega, by omega⟩ ⟨by omega, by omega⟩ cx ix iy w
        rw [if_pos ⟨f2, hc⟩, hm] at this
        exact this
  unfold balV bovV at *
  rcases hT with ⟨a', b', q', e, he, RT⟩ | ⟨X, Y, R, X', Y', R', RT, TR, M1⟩
  · by_cases hg : g = 0
    · subst hg
      exact sq_ny he (Lib.hid N1) (Lib.hid N2) (Lib.hid BX) (Lib.hid BY) (Lib.hid RT) (Lib.hid TM) (Lib.hid QU) (Lib.hid (M2 rfl)) w
    · exact sq_nn he hg (Lib.hid N1) (Lib.hid N2) (Lib.hid BX) (Lib.hid BY) (Lib.hid RT) (Lib.hid TM) (Lib.hid QU) w
  · by_cases hg : g = 0
    · subst hg
      exact sq_yy (Lib.hid N1) (Lib.hid N2) (Lib.hid BX) (Lib.hid BY) (Lib.hid RT) (Lib.hid TR) (Lib.hid M1) (Lib.hid TM) (Lib.hid QU) (Lib.hid (M2 rfl)) w
    · exact sq_yn hg (Lib.hid N1) (Lib.hid N2) (Lib.hid BX) (Lib.hid BY) (Lib.hid RT) (Lib.hid TR) (Lib.hid M1) (Lib.hid TM) (Lib.hid QU) w
end Go.Proofs.Ythkooiopiaakbaa
