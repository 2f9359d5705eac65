/- The contracts of Root and RealRoot. -/
import Derived.Test.YthkooiopiaakbaaRooa
import Derived.Test.YthkooiopiaakbaaRefd
namespace Go.Proofs.Ythkooiopiaakbaa
open Go.RowKit Go.Lib
attribute [local go_sem] run_store_float run_store_complex
set_option linter.unusedVariables false

theorem rootV_eq (x y r : Int) : ∃ za zb zr ze, rootV x y r = balV za zb zr ze := by
  unfold rootV; split
  · exact ⟨_, _, _, _, rfl⟩
  · split
    · exact ⟨_, _, _, _, rfl⟩
    · exact resB_eq _ _ _

theorem Root1_any {a b : Nat} {x y r : Int} (h : Cp a b x y) (hc : ckB x y r = 0) (w : World) :
    Calls Try.prog 109 #[.agg #[.complex .f64 a b, .int .i64 r]] w (Mem (rootV x y r) w) := by
  obtain ⟨hx, hy, hr0, hr⟩ := ckB_ok hc
  have HD := Lib.hid (fun w => down_any h ⟨by have := hx.1; omega, by have := hx.2; omega⟩ ⟨by have := hy.1; omega, by have := hy.2; omega⟩ w)
  have HP := Lib.hid (fun w => parts_any h (hx.inF (by decide)) (hy.inF (by decide)) w)
  unfold rootV
  by_cases hz : dn x y ≤ r
  · rw [if_pos hz]; exact Root1_zero hz HD HP w
  · rw [if_neg hz]
    obtain ⟨b1, b2, b3, b4, b5, b6, b7, b8, b9, b10, b11, b12, b13, b14, b15⟩ := rt_bd hc hz
    have HR := Lib.hid (fun w => discRoot_any h hc hz w)
    have hG : InF (rtG x y) ∧ InF (-rtG x y) := ⟨⟨by omega, by omega⟩, ⟨by omega, by omega⟩⟩
    have hX : InF (rtX x y) := by unfold rtX; split; exact hG.1; exact b11
    have hY : InF (rtY x y) := by
      unfold rtY; split
      · exact b11
      · split
        · exact hG.1
        · exact hG.2
    by_cases hk : x < 0 ∧ szB y r = true ∧ r ≠ 0
    · rw [if_pos hk]; exact Root1_clash hz hk.1 hk.2.2 hr0 hr hk.2.1 HD HP w
    · rw [if_neg hk]
      by_cases h0 : 0 ≤ x
      · exact Root1_ok0 hz hr0 hr hX hY h0 HR HD HP w
      · cases hs : szB y r with
        | false => exact Root1_ok1 hz hr0 hr hX hY (by omega) hs HR HD HP w
        | true => exact Root1_ok2 hz hr0 hr hX hY (by omega) hs (Classical.byContradiction fun hne => hk ⟨by omega, hs, hne⟩) HR HD HP w

set_option maxHeartbeats 1000000 in
theorem Root_of {a b : Nat} {r : Int} {za zb : Nat} {zr ze : Int} (w : World)
    (HK : Hid (∀ W, Calls Try.prog 89 #[.agg #[.complex .f64 a b, .int .i64 r], .func (.func 109) #[] #[]] W (Mem (balV za zb zr ze) W))) :
    Calls Try.prog 43 #[.agg #[.complex .f64 a b, .int .i64 r]] w (Mem (balV za zb zr ze) w) := by
  go_enter Try.func43, Try.ntmps43
  go_wp2_with fail
  have K := ((Hold.start w).new #[.complex .f64 a b, .int .i64 r] 27 (n := w.heap.size) (by simp)).new #[.complex .f64 0 0, .int .i64 0] 27 (n := w.heap.size + 1) (by simp)
  refine (HK.out _).mono ?_
  rintro e_1 w1 ⟨rfl, hb⟩
  have K' := Hold.mem (K) hb
  clear hb K
  have K := K'
  clear K'
  obtain ⟨_, sz1, h0, h1, _⟩ := id K
  have q0 := h0.cell; have f0 := h0.frozen; have z1_0 := h0.lt
  have q1 := h1.cell; have f1 := h1.frozen; have z1_1 := h1.lt
  clear h0 h1
  unfold balV
  go_wp2_with fail
  refine bodyPost_ret (v := .tuple #[.agg #[.complex .f64 za zb, .int .i64 zr], .int .i64 ze]) (by simp [results, Try.results43, go_sem, *]) rfl ⟨rfl, ?_⟩
  repeat (first | exact K.below | refine Below.setCell ?_ (by simp <;> omega) _)

theorem Root_any {a b : Nat} {x y : Int} (r : Int) (h : Cp a b x y) (hx : InF x) (hy : InF y) (w : World) :
    Calls Try.prog 43 #[.agg #[.complex .f64 a b, .int .i64 r]] w (Mem (if ckB x y r = 0 then rootV x y r else balV 0 0 0 2) w) := by
  rcases ckB_cases x y r with h1 | h1
  · rw [if_pos h1]
    have HE := Lib.hid (ent_of Try.func109 (by kernel_rfl) rfl)
    obtain ⟨za, zb, zr, ze, hz⟩ := rootV_eq x y r
    rw [hz]
    refine Root_of w (Lib.hid fun W => ofOneBall_ok r h hx hy h1 HE (Lib.hid fun W' hb => ?_))
    have := Root1_any h h1 W'
    rwa [hz] at this
  · rw [if_neg (by rw [h1]; simp)]
    exact Root_of w (Lib.hid fun W => ofOneBall_bad r h hx hy h1 _ W)

/-! RealRoot. -/
def rrM (lo hi : Int) : Int := (rti (lo * 1048576) + rtu (hi * 1048576)) / 2
def rrD (lo hi : Int) : Int := rtu (hi * 1048576) - rrM lo hi
def rrV (lo hi : Int) : Value := if ckR lo hi 67108864 = 0 then (if 0 ≤ lo then ofRangeV (rti (lo * 1048576)) (rtu (hi * 1048576)) else if hi ≤ 0 then balV (fi 0) (fi (rrM (-hi) (-lo))) (rrD (-hi) (-lo)) 0 else balV 0 0 0 14) else balV 0 0 0 (ckR lo hi 67108864)

theorem rr_bd {lo hi : Int} (h0 : 0 ≤ lo) (h1 : lo ≤ hi) (h2 : hi ≤ 67108864) : 0 ≤ rti (lo * 1048576) ∧ rti (lo * 1048576) ≤ rtu (hi * 1048576) ∧ rtu (hi * 1048576) ≤ 8388608 ∧ ckR (rti (lo * 1048576)) (rtu (hi * 1048576)) 67108864 = 0 ∧ ckB (rrM lo hi) 0 (rrD lo hi) = 0 ∧ okB (rrM lo hi) 0 (rrD lo hi) = true := by
  obtain ⟨a0, a1, a2, a3⟩ := rti_spec (lo * 1048576) (by omega) (by omega)
  have c1 : rtu (hi * 1048576) ≤ 8388608 := rtu_le (by omega) (by omega) (by decide) (by omega)
  have c0 := rtu_bd (hi * 1048576) (by omega) (by omega)
  have ac : rti (lo * 1048576) ≤ rtu (hi * 1048576) := by
    obtain ⟨e0, e1, e2, e3⟩ := rti_spec (hi * 1048576) (by omega) (by omega)
    have hm : rti (lo * 1048576) ≤ rti (hi * 1048576) := rti_ge (by omega) (by omega) a0 (by omega)
    unfold rtu; split <;> omega
  have m : rti (lo * 1048576) ≤ rrM lo hi ∧ rrM lo hi ≤ rtu (hi * 1048576) := by unfold rrM; omega
  have d : 0 ≤ rrD lo hi ∧ rrD lo hi ≤ 8388608 := by unfold rrD; omega
  have s1 : szB (rti (lo * 1048576)) 67108864 = true := by unfold szB; simp; omega
  have s2 : szB (rtu (hi * 1048576)) 67108864 = true := by unfold szB; simp; omega
  have s3 : szB (rrM lo hi) 67108864 = true := by unfold szB; simp; omega
  have s4 : szB 0 67108864 = true := by decide
  refine ⟨a0, ac, c1, ?_, ?_, ?_⟩
  · unfold ckR; rw [s1, s2]; simp; omega
  · unfold ckB; rw [s3, s4]; simp; omega
  · unfold okB; rw [s3, s4]; simp; omega

theorem rr_pos {lo hi : Int} (h0 : 0 ≤ lo) (h1 : lo ≤ hi) (h2 : hi ≤ 67108864) : ofRangeV (rti (lo * 1048576)) (rtu (hi * 1048576)) = balV (fi (rrM lo hi)) (fi 0) (rrD lo hi) 0 := by
  obtain ⟨b1, b2, b3, b4, b5, b6⟩ := rr_bd h0 h1 h2
  unfold ofRangeV
  rw [if_pos b4]
  show resB (rrM lo hi) 0 (rrD lo hi) = _
  unfold resB
  rw [b6]
  rfl

theorem rr_turn {lo hi : Int} (h0 : 0 ≤ lo) (h1 : lo ≤ hi) (h2 : hi ≤ 67108864) : turnV (rrM lo hi) 0 (rrD lo hi) 1 = balV (fi 0) (fi (rrM lo hi)) (rrD lo hi) 0 := by
  obtain ⟨b1, b2, b3, b4, b5, b6⟩ := rr_bd h0 h1 h2
  unfold turnV
  rw [if_pos (by decide)]
  have e1 : turnX (1 % 4) (rrM lo hi) 0 = 0 := by unfold turnX; simp
  have e2 : turnY (1 % 4) (rrM lo hi) 0 = rrM lo hi := by unfold turnY; simp
  rw [e1, e2]
  unfold resB
  have : okB 0 (rrM lo hi) (rrD lo hi) = true := by
    unfold okB at *
    simp only [Bool.and_eq_true] at b6 ⊢
    exact ⟨⟨b6.1.2, b6.1.1⟩, b6.2⟩
  rw [this]
  rfl

set_option maxHeartbeats 2000000 in
theorem RealRoot_bad {lo hi c : Int} (hc : c ≠ 0)
    (HC : Hid (∀ w, Calls Try.prog 72 #[.agg #[.int .i64 lo, .int .i64 hi], .int .i64 67108864] w (Mem (.int .i64 c) w))) (w : World) :
    Calls Try.prog 44 #[.agg #[.int .i64 lo, .int .i64 hi]] w (Mem (balV 0 0 0 c) w) := by
  unfold balV
  have g0 : (c != 0) = true := by simpa using hc
  have g1 : (c == 0) = false := by simpa using hc
  clear hc
  go_enter Try.func44, Try.ntmps44
  go_wp2_with fail
  have K := ((Hold.start w).new #[.int .i64 lo, .int .i64 hi] 23 (n := w.heap.size) (by simp)).new #[.complex .f64 0 0, .int .i64 0] 27 (n := w.heap.size + 1) (by simp)
  refine (HC.out _).mono ?_
  rintro e_1 w1 ⟨rfl, hb⟩
  have K' := Hold.mem (K) hb
  clear hb K
  have K := K'
  clear K'
  obtain ⟨_, sz1, h0, h1, _⟩ := id K
  have q0 := h0.cell; have f0 := h0.frozen; have z1_0 := h0.lt
  have q1 := h1.cell; have f1 := h1.frozen; have z1_1 := h1.lt
  clear h0 h1
  go_wp2_with fail
  refine bodyPost_ret (v := .tuple #[.agg #[.complex .f64 0 0, .int .i64 0], .int .i64 c]) (by simp [results, Try.results44, go_sem, *]) rfl ⟨rfl, ?_⟩
  repeat (first | exact K.below | refine Below.setCell ?_ (by simp <;> omega) _)

set_option maxHeartbeats 2000000 in
theorem RealRoot_mid {lo hi c : Int} (hc : c = 0) (h0 : lo < 0) (h1 : 0 < hi)
    (HC : Hid (∀ w, Calls Try.prog 72 #[.agg #[.int .i64 lo, .int .i64 hi], .int .i64 67108864] w (Mem (.int .i64 c) w))) (w : World) :
    Calls Try.prog 44 #[.agg #[.int .i64 lo, .int .i64 hi]] w (Mem (balV 0 0 0 14) w) := by
  unfold balV
  subst hc
  have g0 : decide (0 ≤ lo) = false := by simpa using h0
  have g1 : decide (hi ≤ 0) = false := by simpa using h1
  go_enter Try.func44, Try.ntmps44
  go_wp2_with fail
  have K := ((Hold.start w).new #[.int .i64 lo, .int .i64 hi] 23 (n := w.heap.size) (by simp)).new #[.complex .f64 0 0, .int .i64 0] 27 (n := w.heap.size + 1) (by simp)
  refine (HC.out _).mono ?_
  rintro e_1 w1 ⟨rfl, hb⟩
  have K' := Hold.mem (K) hb
  clear hb K
  have K := K'
  clear K'
  obtain ⟨_, sz1, h0, h1, _⟩ := id K
  have q0 := h0.cell; have f0 := h0.frozen; have z1_0 := h0.lt
  have q1 := h1.cell; have f1 := h1.frozen; have z1_1 := h1.lt
  clear h0 h1
  go_wp2_with fail
  refine bodyPost_ret (v := .tuple #[.agg #[.complex .f64 0 0, .int .i64 0], .int .i64 14]) (by simp [results, Try.results44, go_sem, *]) rfl ⟨rfl, ?_⟩
  repeat (first | exact K.below | refine Below.setCell ?_ (by simp <;> omega) _)

set_option maxHeartbeats 2000000 in
theorem RealRoot_neg {lo hi c : Int} {za zb za' zb' : Nat} {zr zr' : Int} (hc : c = 0) (h0 : lo < 0) (h1 : hi ≤ 0) (l1 : -67108864 ≤ lo) (g1 : -67108864 ≤ hi)
    (HR : Hid (∀ w, Calls Try.prog 44 #[.agg #[.int .i64 (-hi), .int .i64 (-lo)]] w (Mem (.tuple #[.agg #[.complex .f64 za zb, .int .i64 zr], .int .i64 0]) w)))
    (HT : Hid (∀ w, Calls Try.prog 27 #[.agg #[.complex .f64 za zb, .int .i64 zr], .int .i64 1] w (Mem (balV za' zb' zr' 0) w)))
    (HC : Hid (∀ w, Calls Try.prog 72 #[.agg #[.int .i64 lo, .int .i64 hi], .int .i64 67108864] w (Mem (.int .i64 c) w))) (w : World) :
    Calls Try.prog 44 #[.agg #[.int .i64 lo, .int .i64 hi]] w (Mem (balV za' zb' zr' 0) w) := by
  unfold balV at *
  subst hc
  have e0 : decide (0 ≤ lo) = false := by simpa using h0
  have e1 : decide (hi ≤ 0) = true := by simpa using h1
  go_enter Try.func44, Try.ntmps44
  go_wp2_with fail
  have K := ((Hold.start w).new #[.int .i64 lo, .int .i64 hi] 23 (n := w.heap.size) (by simp)).new #[.complex .f64 0 0, .int .i64 0] 27 (n := w.heap.size + 1) (by simp)
  refine (HC.out _).mono ?_
  rintro e_1 w1 ⟨rfl, hb⟩
  have K' := Hold.mem (K) hb
  clear hb K
  have K := K'
  clear K'
  obtain ⟨_, sz1, h0, h1, _⟩ := id K
  have q0 := h0.cell; have f0 := h0.frozen; have z1_0 := h0.lt
  have q1 := h1.cell; have f1 := h1.frozen; have z1_1 := h1.lt
  clear h0 h1
  go_wp2_with fail
  refine (HR.out _).mono ?_
  rintro e_2 w2 ⟨rfl, hb⟩
  have K' := Hold.mem (K) hb
  clear hb K
  have K := K'
  clear K'
  clear q0 f0 q1 f1
  obtain ⟨_, sz2, h0, h1, _⟩ := id K
  have q0 := h0.cell; have f0 := h0.frozen; have z2_0 := h0.lt
  have q1 := h1.cell; have f1 := h1.frozen; have z2_1 := h1.lt
  clear h0 h1
  go_wp2_with fail
  refine (HT.out _).mono ?_
  rintro e_3 w3 ⟨rfl, hb⟩
  have K' := Hold.mem ((K).new #[.complex .f64 za zb, .int .i64 zr] 27 (n := w2.heap.size) (by first | rfl | (simp <;> omega))) hb
  clear hb K
  have K := K'
  clear K'
  clear q0 f0 q1 f1
  obtain ⟨_, sz3, h0, h1, h2, _⟩ := id K
  have q0 := h0.cell; have f0 := h0.frozen; have z3_0 := h0.lt
  have q1 := h1.cell; have f1 := h1.frozen; have z3_1 := h1.lt
  have q2 := h2.cell; have f2 := h2.frozen; have z3_2 := h2.lt
  clear h0 h1 h2
  go_wp2_with fail
  refine bodyPost_ret (v := .tuple #[.agg #[.complex .f64 za' zb', .int .i64 zr'], .int .i64 0]) (by simp [results, Try.results44, go_sem, *]) rfl ⟨rfl, ?_⟩
  repeat (first | exact K.below | refine Below.setCell ?_ (by simp <;> omega) _)

theorem RealRoot_all (lo hi : Int) (w : World) : Calls Try.prog 44 #[.agg #[.int .i64 lo, .int .i64 hi]] w (Mem (rrV lo hi) w) := by
  have HC := Lib.hid (fun w => checkRange_any lo hi 67108864 (by decide) (by decide) w)
  unfold rrV
  by_cases hc : ckR lo hi 67108864 = 0
  · rw [if_pos hc]
    obtain ⟨hl, hh, hle⟩ := ckR_ok hc
    by_cases h0 : 0 ≤ lo
    · rw [if_pos h0]; exact RealRoot_pos lo hi hc h0 w
    · rw [if_neg h0]
      by_cases h1 : hi ≤ 0
      · rw [if_pos h1]
        have l1 := hl.1
        have g1 := hh.1
        have p0 : 0 ≤ -hi := by omega
        have p1 : -hi ≤ -lo := by omega
        have p2 : -lo ≤ 67108864 := by omega
        have hc' : ckR (-hi) (-lo) 67108864 = 0 := by
          have s1 : szB (-hi) 67108864 = true := by unfold szB; simp; omega
          have s2 : szB (-lo) 67108864 = true := by unfold szB; simp; omega
          unfold ckR; rw [s1, s2]; simp; omega
        obtain ⟨b1, b2, b3, b4, b5, b6⟩ := rr_bd p0 p1 p2
        have HR := fun w => RealRoot_pos (-hi) (-lo) hc' p0 w
        rw [rr_pos p0 p1 p2] at HR
        have HT := fun w => Turned_any (rrD (-hi) (-lo)) 1 (⟨Rp_fi (rrM (-hi) (-lo)), Rp_fi 0⟩) (by obtain ⟨q, _⟩ := ckB_ok b5; exact q.inF (by decide)) ⟨by decide, by decide⟩ w
        rw [if_pos b5, rr_turn p0 p1 p2] at HT
        exact RealRoot_neg hc (by omega) h1 l1 g1 (Lib.hid HR) (Lib.hid HT) HC w
      · rw [if_neg h1]; exact RealRoot_mid hc (by omega) (by omega) HC w
  · rw [if_neg hc]; exact RealRoot_bad hc HC w

end Go.Proofs.Ythkooiopiaakbaa
