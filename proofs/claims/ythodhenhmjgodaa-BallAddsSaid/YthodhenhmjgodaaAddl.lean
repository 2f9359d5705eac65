/- The statement's function on sums answers true. -/
import Derived.Test.YthodhenhmjgodaaAdl1
import Derived.Test.YthodhenhmjgodaaAdl2
import Derived.Test.YthodhenhmjgodaaAdl3
import Derived.Test.YthodhenhmjgodaaRoot
import Derived.Test.YthodhenhmjgodaaRefd
namespace Go.Proofs.Ythodhenhmjgodaa
open Go.RowKit Go.Lib
set_option linter.unusedVariables false

theorem okB_of {x y r : Int} (h : okB x y r = true) (hr : 0 ≤ r) : resB x y r = balV (fi x) (fi y) r 0 ∧ chkV x y r = refV x y r 0 ∧ ckB x y r = 0 := by
  have h' := h
  unfold okB at h'
  simp only [Bool.and_eq_true, decide_eq_true_eq] at h'
  refine ⟨by unfold resB; rw [h]; rfl, ?_, ?_⟩
  · have : chkB x y r = true := by
      unfold chkB wiB
      rw [h'.1.1, h'.1.2]
      simp; omega
    unfold chkV; rw [if_pos this]
  · unfold ckB; rw [h'.1.1, h'.1.2]; simp; omega

theorem okB_not {x y r : Int} (h : okB x y r = false) (hr : 0 ≤ r) : resB x y r = balV (fi 0) (fi 0) 0 8 ∧ chkV x y r = refV 0 0 0 8 := by
  refine ⟨by unfold resB; rw [h, fi_nought]; rfl, ?_⟩
  have h' := h
  unfold okB at h'
  have : chkB x y r = false := by
    unfold chkB wiB
    have : decide (0 ≤ r) = true := by simpa using hr
    rw [this, Bool.true_and, ← Bool.and_assoc]; exact h'
  unfold chkV; rw [if_neg (by rw [this]; decide)]

theorem okB_small {x y r : Int} (hx : Sm 67108864 x) (hy : Sm 67108864 y) (hr : r ≤ 67108864) : okB x y r = true := by
  obtain ⟨x1, x2⟩ := hx
  obtain ⟨y1, y2⟩ := hy
  unfold okB szB; simp; omega

theorem turn_small {k x y : Int} (hx : Sm 67108864 x) (hy : Sm 67108864 y) : Sm 67108864 (turnX k x y) ∧ Sm 67108864 (turnY k x y) := by
  obtain ⟨x1, x2⟩ := hx
  obtain ⟨y1, y2⟩ := hy
  unfold turnX turnY
  constructor
  · split
    · exact ⟨x1, x2⟩
    · split
      · exact ⟨by omega, by omega⟩
      · split
        · exact ⟨by omega, by omega⟩
        · exact ⟨y1, y2⟩
  · split
    · exact ⟨y1, y2⟩
    · split
      · exact ⟨x1, x2⟩
      · split
        · exact ⟨by omega, by omega⟩
        · exact ⟨by omega, by omega⟩

theorem cutI_small {x : Int} (h : Sm 67108864 (cutI x)) : cutI x = x := by
  have h1 := h.1; have h2 := h.2
  unfold cutI at *; omega

theorem adds_walk (x y r u v s q : Int) (w : World) : Calls Try.prog 4 #[.agg #[.int .i64 x, .int .i64 y, .int .i64 r], .agg #[.int .i64 u, .int .i64 v, .int .i64 s], .int .i64 q] w (Mem (.bool true) w) := by
  have hx := cutI_in x; have hy := cutI_in y; have hu := cutI_in u; have hv := cutI_in v
  have cx : Cp (fi (cutI x)) (fi (cutI y)) (cutI x) (cutI y) := ⟨Rp_fi _, Rp_fi _⟩
  have cy : Cp (fi (cutI u)) (fi (cutI v)) (cutI u) (cutI v) := ⟨Rp_fi _, Rp_fi _⟩
  have BX := Lib.hid (fun w => WholeBall_any x y r w)
  have BY := Lib.hid (fun w => WholeBall_any u v s w)
  have PL := fun w => Plus_any r s cx hx hy cy hu hv w
  have MI := fun w => Minus_any r s cx hx hy cy hu hv w
  have CO := fun w => Conj_any r cx hx hy w
  have TU := fun w => Turned_any r q cx hx hy w
  have EX := fun w => err_any x y r w
  have EY := fun w => err_any u v s w
  have I0 := fun w => is_any 0 0 0 2 w
  rw [fi_nought] at I0
  replace I0 := Lib.hid I0
  rcases ckB_cases (cutI x) (cutI y) r with hk | hk
  · obtain ⟨gx, gy, gr, gr'⟩ := ckB_ok hk
    have OX := Lib.hid (fun w => Of_any r cx hx hy w)
    have RC := Lib.hid (fun w => refConj_any (x := cutI x) r gy w)
    have IC := Lib.hid (fun w => is_any (cutI x) (-cutI y) r 0 w)
    have gny : Sm 67108864 (-cutI y) := ⟨by have := gy.2; omega, by have := gy.1; omega⟩
    rw [if_pos hk] at CO TU
    rw [(okB_of (okB_small gx gny gr') gr).1] at CO
    rw [hk] at EX
    have WI := fun w => same_mem (Within_any q (-1000000000) 1000000000 w)
    have hwi : wiB q (-1000000000) 1000000000 = szB q 1000000000 := rfl
    rw [hwi] at WI
    unfold turnV at TU
    rcases ckB_cases (cutI u) (cutI v) s with hk2 | hk2
    · obtain ⟨gu, gv, gs, gs'⟩ := ckB_ok hk2
      have OY := Lib.hid (fun w => Of_any s cy hu hv w)
      have RP := fun w => refPlus_any gx gy gu gv ⟨gr, gr'⟩ ⟨gs, gs'⟩ w
      have RM := fun w => refMinus_any gx gy gu gv ⟨gr, gr'⟩ ⟨gs, gs'⟩ w
      rw [if_pos ⟨hk, hk2⟩] at PL MI
      rw [hk2] at EY
      obtain ⟨X2, Y2, RM', f, m1, m2⟩ := pair_res (x := cutI x - cutI u) (y := cutI y - cutI v) (r := r + s) (by omega)
      rw [m1] at MI
      rw [m2] at RM
      have I2 := Lib.hid (fun w => is_any X2 Y2 RM' f w)
      cases hb : okB (cutI x + cutI u) (cutI y + cutI v) (r + s) with
      | true =>
        obtain ⟨p1, p2, p3⟩ := okB_of hb (by omega)
        obtain ⟨gsx, gsy, gsr, gsr'⟩ := ckB_ok p3
        rw [p1] at PL
        rw [p2] at RP
        have I1 := Lib.hid (fun w => is_any (cutI x + cutI u) (cutI y + cutI v) (r + s) 0 w)
        have BK := fun w => Minus_any (r + s) s (⟨Rp_fi (cutI x + cutI u), Rp_fi (cutI y + cutI v)⟩) (gsx.inF (by decide)) (gsy.inF (by decide)) cy hu hv w
        rw [if_pos ⟨p3, hk2⟩, Int.add_sub_cancel, Int.add_sub_cancel, show r + s + s = r + 2 * s by omega] at BK
        cases hb2 : okB (cutI x) (cutI y) (r + 2 * s) with
        | true =>
          rw [(okB_of hb2 (by omega)).1] at BK
          have ex := cutI_small gx
          have ey := cutI_small gy
          have NU : ∀ w, Calls Try.prog 36 #[.int .i64 x, .int .i64 y] w (Mem (.complex .f64 (fi (cutI x)) (fi (cutI y))) w) := fun w => by
            rw [ex, ey]; exact same_mem (Num_any x y w)
          have SB := fun w => same_mem (SameBits_any (fi (cutI x)) (fi (cutI y)) (fi (cutI x)) (fi (cutI y)) w)
          have hsame : sameC (fi (cutI x)) (fi (cutI y)) (fi (cutI x)) (fi (cutI y)) = true := by simp [sameC]
          rw [hsame] at SB
          cases hq : szB q 1000000000 with
          | true =>
            rw [hq] at WI TU
            simp only [if_true] at TU
            obtain ⟨t1, t2⟩ := turn_small (k := q % 4) gx gy
            rw [(okB_of (okB_small t1 t2 gr') gr).1] at TU
            have RT := Lib.hid (fun w => refTurned_any r gx gy (by unfold szB at hq; simp at hq; exact hq) w)
            exact adds_ok_z ⟨gr, gr'⟩ ⟨gs, gs'⟩ BX BY (Lib.hid PL) (Lib.hid MI) (Lib.hid CO) (Lib.hid TU) (Lib.hid EX) OX RC IC (Lib.hid WI) RT (Lib.hid fun w => is_any _ _ r 0 w) (Lib.hid EY) OY (Lib.hid RP) (Lib.hid RM) I1 I2 (Lib.hid BK) (Lib.hid NU) (Lib.hid SB) w
          | false =>
            rw [hq] at WI TU
            simp only [Bool.false_eq_true, if_false] at TU
            exact adds_q_z ⟨gr, gr'⟩ ⟨gs, gs'⟩ BX BY (Lib.hid PL) (Lib.hid MI) (Lib.hid CO) (Lib.hid TU) (Lib.hid EX) OX RC IC (Lib.hid WI) I0 (Lib.hid EY) OY (Lib.hid RP) (Lib.hid RM) I1 I2 (Lib.hid BK) (Lib.hid NU) (Lib.hid SB) w
        | false =>
          rw [(okB_not hb2 (by omega)).1] at BK
          cases hq : szB q 1000000000 with
          | true =>
            rw [hq] at WI TU
            simp only [if_true] at TU
            obtain ⟨t1, t2⟩ := turn_small (k := q % 4) gx gy
            rw [(okB_of (okB_small t1 t2 gr') gr).1] at TU
            have RT := Lib.hid (fun w => refTurned_any r gx gy (by unfold szB at hq; simp at hq; exact hq) w)
            exact adds_ok_i (by decide) BX BY (Lib.hid PL) (Lib.hid MI) (Lib.hid CO) (Lib.hid TU) (Lib.hid EX) OX RC IC (Lib.hid WI) RT (Lib.hid fun w => is_any _ _ r 0 w) (Lib.hid EY) OY (Lib.hid RP) (Lib.hid RM) I1 I2 (Lib.hid BK) w
          | false =>
            rw [hq] at WI TU
            simp only [Bool.false_eq_true, if_false] at TU
            exact adds_q_i (by decide) BX BY (Lib.hid PL) (Lib.hid MI) (Lib.hid CO) (Lib.hid TU) (Lib.hid EX) OX RC IC (Lib.hid WI) I0 (Lib.hid EY) OY (Lib.hid RP) (Lib.hid RM) I1 I2 (Lib.hid BK) w
      | false =>
        obtain ⟨p1, p2⟩ := okB_not hb (by omega)
        rw [p1] at PL
        rw [p2] at RP
        have I1 := Lib.hid (fun w => is_any 0 0 0 8 w)
        have BK := fun w => Minus_any 0 s (⟨Rp_fi 0, Rp_fi 0⟩) ⟨by decide, by decide⟩ ⟨by decide, by decide⟩ cy hu hv w
        rw [if_pos ⟨by decide, hk2⟩] at BK
        obtain ⟨za, zb, zr, ze, hzz⟩ := resB_eq (0 - cutI u) (0 - cutI v) (0 + s)
        rw [hzz] at BK
        cases hq : szB q 1000000000 with
        | true =>
          rw [hq] at WI TU
          simp only [if_true] at TU
          obtain ⟨t1, t2⟩ := turn_small (k := q % 4) gx gy
          rw [(okB_of (okB_small t1 t2 gr') gr).1] at TU
          have RT := Lib.hid (fun w => refTurned_any r gx gy (by unfold szB at hq; simp at hq; exact hq) w)
          exact adds_ok_e (by decide) BX BY (Lib.hid PL) (Lib.hid MI) (Lib.hid CO) (Lib.hid TU) (Lib.hid EX) OX RC IC (Lib.hid WI) RT (Lib.hid fun w => is_any _ _ r 0 w) (Lib.hid EY) OY (Lib.hid RP) (Lib.hid RM) I1 I2 (Lib.hid BK) w
        | false =>
          rw [hq] at WI TU
          simp only [Bool.false_eq_true, if_false] at TU
          exact adds_q_e (by decide) BX BY (Lib.hid PL) (Lib.hid MI) (Lib.hid CO) (Lib.hid TU) (Lib.hid EX) OX RC IC (Lib.hid WI) I0 (Lib.hid EY) OY (Lib.hid RP) (Lib.hid RM) I1 I2 (Lib.hid BK) w
    · rw [if_neg (by rw [hk2]; simp)] at PL MI
      rw [hk2] at EY
      cases hq : szB q 1000000000 with
      | true =>
        rw [hq] at WI TU
        simp only [if_true] at TU
        obtain ⟨t1, t2⟩ := turn_small (k := q % 4) gx gy
        rw [(okB_of (okB_small t1 t2 gr') gr).1] at TU
        have RT := Lib.hid (fun w => refTurned_any r gx gy (by unfold szB at hq; simp at hq; exact hq) w)
        exact adds_ok_bad (f := 0) BX BY (Lib.hid PL) (Lib.hid MI) (Lib.hid CO) (Lib.hid TU) (Lib.hid EX) OX RC IC (Lib.hid WI) RT (Lib.hid fun w => is_any _ _ r 0 w) I0 (Lib.hid EY) w
      | false =>
        rw [hq] at WI TU
        simp only [Bool.false_eq_true, if_false] at TU
        exact adds_q_bad (f := 0) BX BY (Lib.hid PL) (Lib.hid MI) (Lib.hid CO) (Lib.hid TU) (Lib.hid EX) OX RC IC (Lib.hid WI) I0 (Lib.hid EY) w
  · rw [if_neg (by rw [hk]; simp)] at PL MI
    rw [if_neg (by rw [hk]; decide)] at CO TU
    rw [hk] at EX
    exact adds_bad (f := 0) BX BY (Lib.hid PL) (Lib.hid MI) (Lib.hid CO) (Lib.hid TU) (Lib.hid EX) I0 w

end Go.Proofs.Ythodhenhmjgodaa
