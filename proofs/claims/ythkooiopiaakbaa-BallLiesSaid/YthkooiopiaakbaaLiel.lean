/- The statement's function on where balls lie answers true. -/
import Derived.Test.YthkooiopiaakbaaLie0
import Derived.Test.YthkooiopiaakbaaLie1
import Derived.Test.YthkooiopiaakbaaLie2
import Derived.Test.YthkooiopiaakbaaLie3
namespace Go.Proofs.Ythkooiopiaakbaa
open Go.RowKit Go.Lib
set_option linter.unusedVariables false

theorem same_memL {P : Program} {f : FuncId} {args : Array Value} {w : World} {v : Value} (h : Calls P f args w (fun e w' => e = .returned v ∧ w = w')) : Calls P f args w (Mem v w) :=
  h.mono fun _ _ ⟨he, hw⟩ => ⟨he, hw ▸ Below.refl _ _⟩

theorem bigS {x : Int} (h : Sm 67108864 x) : Sm 134217728 x := ⟨by have := h.1; omega, by have := h.2; omega⟩

theorem pair_split {x y r : Int} (hr : 0 ≤ r) : (resB x y r = balV (fi x) (fi y) r 0 ∧ chkV x y r = refV x y r 0 ∧ ckB x y r = 0) ∨ (resB x y r = balV (fi 0) (fi 0) 0 8 ∧ chkV x y r = refV 0 0 0 8) := by
  by_cases h : okB x y r = true
  · left
    have h' := h
    unfold okB at h'
    simp only [Bool.and_eq_true, decide_eq_true_eq] at h'
    refine ⟨by unfold resB; rw [h]; rfl, ?_, ?_⟩
    · have : chkB x y r = true := by
        unfold chkB wiB
        rw [h'.1.1, h'.1.2]
        simp; omega
      unfold chkV; rw [if_pos this]
    · unfold ckB; rw [h'.1.1, h'.1.2]; simp; omega
  · right
    have h : okB x y r = false := by simpa using h
    refine ⟨by unfold resB; rw [h, fi_nought]; rfl, ?_⟩
    have h' := h
    unfold okB at h'
    have : chkB x y r = false := by
      unfold chkB wiB
      have : decide (0 ≤ r) = true := by simpa using hr
      rw [this, Bool.true_and, ← Bool.and_assoc]; exact h'
    unfold chkV; rw [if_neg (by rw [this]; decide)]

theorem cutI_small2 {x : Int} (h : szB (cutI x) 134217728 = true) : cutI x = x ∧ Sm 134217728 x := by
  unfold szB at h
  simp only [Bool.and_eq_true, decide_eq_true_eq] at h
  obtain ⟨h1, h2⟩ := h
  unfold cutI at *
  unfold Sm
  split at h1 <;> split at h2 <;> simp_all <;> omega

theorem hullR_nn {x y r u v s : Int} (h1 : ckB x y r = 0) (h2 : ckB u v s = 0) : 0 ≤ hullR x y r u v s := by
  obtain ⟨sx, sy, r1, r2⟩ := ckB_ok h1
  obtain ⟨su, sv, s1, s2⟩ := ckB_ok h2
  obtain ⟨m1, m2⟩ := hullX_in sx su
  obtain ⟨n1, n2⟩ := hullX_in sy sv
  obtain ⟨x1, x2⟩ := sx
  obtain ⟨y1, y2⟩ := sy
  obtain ⟨u1, u2⟩ := su
  obtain ⟨v1, v2⟩ := sv
  have b1 := upw_small (x := x - hullX x u) (y := y - hullX y v) ⟨by omega, by omega⟩ ⟨by omega, by omega⟩
  have b2 := upw_small (x := u - hullX x u) (y := v - hullX y v) ⟨by omega, by omega⟩ ⟨by omega, by omega⟩
  unfold hullR
  split <;> omega

theorem lies_walk (x y r u v s z0 z1 : Int) (w : World) :
    Calls Try.prog 9 #[.agg #[.int .i64 x, .int .i64 y, .int .i64 r], .agg #[.int .i64 u, .int .i64 v, .int .i64 s], .agg #[.int .i64 z0, .int .i64 z1]] w (Mem (.bool true) w) := by
  have hx := cutI_in x; have hy := cutI_in y; have hu := cutI_in u; have hv := cutI_in v; have h0 := cutI_in z0; have h1 := cutI_in z1
  have cx : Cp (fi (cutI x)) (fi (cutI y)) (cutI x) (cutI y) := ⟨Rp_fi _, Rp_fi _⟩
  have cu : Cp (fi (cutI u)) (fi (cutI v)) (cutI u) (cutI v) := ⟨Rp_fi _, Rp_fi _⟩
  have cz : Cp (fi (cutI z0)) (fi (cutI z1)) (cutI z0) (cutI z1) := ⟨Rp_fi _, Rp_fi _⟩
  have BX := Lib.hid fun w => WholeBall_any x y r w
  have BY := Lib.hid fun w => WholeBall_any u v s w
  have C0 := Lib.hid fun w => same_memL (cut_any z0 w)
  have C1 := Lib.hid fun w => same_memL (cut_any z1 w)
  have NU := Lib.hid fun w => same_memL (Num_any (cutI z0) (cutI z1) w)
  have CT := fun w => Contains_any r cx hx hy cz h0 h1 w
  have EX := fun w => err_any x y r w
  have W0 := fun w => same_memL (Within_any (cutI z0) (-134217728) 134217728 w)
  have W1 := fun w => same_memL (Within_any (cutI z1) (-134217728) 134217728 w)
  have e0 : wiB (cutI z0) (-134217728) 134217728 = szB (cutI z0) 134217728 := rfl
  have e1 : wiB (cutI z1) (-134217728) 134217728 = szB (cutI z1) 134217728 := rfl
  rw [e0] at W0
  rw [e1] at W1
  have ME := fun w => Meets_any r s cx hx hy cu hu hv w
  have IN := fun w => Inside_any r s cx hx hy cu hu hv w
  have HU := fun w => Hull_any r s cx hx hy cu hu hv w
  have TW := fun w => two_any x y r u v s w
  have OX := Lib.hid fun w => Of_any r cx hx hy w
  have OY := Lib.hid fun w => Of_any s cu hu hv w
  have I0 := fun w => is_any 0 0 0 2 w
  rw [fi_nought] at I0
  unfold twoE at TW
  unfold bovV balV at *
  rcases ckB_cases (cutI x) (cutI y) r with hk | hk
  · rw [if_pos hk] at CT TW
    rw [hk] at EX
    rcases ckB_cases (cutI u) (cutI v) s with gk | gk
    · rw [gk] at TW
      rw [if_pos ⟨hk, gk⟩] at ME IN HU
      have RM := Lib.hid fun w => refMeets_any hk gk w
      have RI := Lib.hid fun w => refInside_any hk gk w
      have RH := fun w => refHull_any hk gk w
      have hh := hull_holds hk gk
      obtain ⟨sx, sy, r1, r2⟩ := ckB_ok hk
      obtain ⟨su, sv, s1, s2⟩ := ckB_ok gk
      obtain ⟨m1, m2⟩ := hullX_in sx su
      obtain ⟨n1, n2⟩ := hullX_in sy sv
      have KA := fun w => Inside_any (c := fi (hullX (cutI x) (cutI u))) (d := fi (hullX (cutI y) (cutI v))) r (hullR (cutI x) (cutI y) r (cutI u) (cutI v) s) cx hx hy ⟨Rp_fi _, Rp_fi _⟩ (u := hullX (cutI x) (cutI u)) (v := hullX (cutI y) (cutI v)) ⟨by omega, by omega⟩ ⟨by omega, by omega⟩ w
      have KB := fun w => Inside_any (c := fi (hullX (cutI x) (cutI u))) (d := fi (hullX (cutI y) (cutI v))) s (hullR (cutI x) (cutI y) r (cutI u) (cutI v) s) cu hu hv ⟨Rp_fi _, Rp_fi _⟩ (u := hullX (cutI x) (cutI u)) (v := hullX (cutI y) (cutI v)) ⟨by omega, by omega⟩ ⟨by omega, by omega⟩ w
      have LA := fun w => Inside_any (c := fi 0) (d := fi 0) r 0 cx hx hy ⟨Rp_fi _, Rp_fi _⟩ (u := 0) (v := 0) ⟨by decide, by decide⟩ ⟨by decide, by decide⟩ w
      have LB := fun w => Inside_any (c := fi 0) (d := fi 0) s 0 cu hu hv ⟨Rp_fi _, Rp_fi _⟩ (u := 0) (v := 0) ⟨by decide, by decide⟩ ⟨by decide, by decide⟩ w
      have hp := pair_split (x := hullX (cutI x) (cutI u)) (y := hullX (cutI y) (cutI v)) (hullR_nn hk gk)
      have hc0 : ckB 0 0 0 = 0 := by decide
      rw [if_pos ⟨hk, hc0⟩] at LA
      rw [if_pos ⟨gk, hc0⟩] at LB
      rcases hp with ⟨p1, p2, p3⟩ | ⟨p1, p2⟩
      · rw [p1] at HU
        rw [p2] at RH
        rw [if_pos ⟨hk, p3⟩, hh.1] at KA
        rw [if_pos ⟨gk, p3⟩, hh.2] at KB
        have IH := Lib.hid fun w => is_any (hullX (cutI x) (cutI u)) (hullX (cutI y) (cutI v)) (hullR (cutI x) (cutI y) r (cutI u) (cutI v) s) 0 w
        by_cases k0 : szB (cutI z0) 134217728 = true
        · by_cases k1 : szB (cutI z1) 134217728 = true
          · have ck : ckP (cutI z0) (cutI z1) 134217728 = 0 := by unfold ckP; rw [k0, k1]; rfl
            rw [if_pos ck] at CT
            rw [k0] at W0
            rw [k1] at W1
            obtain ⟨q0, t0⟩ := cutI_small2 k0
            obtain ⟨q1, t1⟩ := cutI_small2 k1
            have RC := fun w => refContains_any (x := cutI x) (y := cutI y) (r := r) (u := z0) (v := z1) (bigS sx) (bigS sy) ⟨by omega, by omega⟩ t0 t1 w
            rw [show sq2 (cutI x - z0) (cutI y - z1) = sq2 (cutI x - cutI z0) (cutI y - cutI z1) by rw [q0, q1]] at RC
            exact lies_ok_z BX BY C0 C1 NU (Lib.hid CT) (Lib.hid EX) (Lib.hid W0) (Lib.hid W1) OX (Lib.hid RC) (Lib.hid ME) (Lib.hid IN) (Lib.hid HU) (Lib.hid TW) OY (Lib.hid RH) RM RI IH (Lib.hid KA) (Lib.hid KB) w
          · have k1' : szB (cutI z1) 134217728 = false := by simpa using k1
            have ck : ckP (cutI z0) (cutI z1) 134217728 = 2 := by unfold ckP; rw [k0, k1']; rfl
            rw [if_neg (by rw [ck]; decide), ck] at CT
            rw [k0] at W0
            rw [k1'] at W1
            exact lies_b2_z BX BY C0 C1 NU (Lib.hid CT) (Lib.hid EX) (Lib.hid W0) (Lib.hid W1) (Lib.hid ME) (Lib.hid IN) (Lib.hid HU) (Lib.hid TW) OX OY (Lib.hid RH) RM RI IH (Lib.hid KA) (Lib.hid KB) w
        · have k0' : szB (cutI z0) 134217728 = false := by simpa using k0
          have ck : ckP (cutI z0) (cutI z1) 134217728 = 2 := by unfold ckP; rw [k0']; rfl
          rw [if_neg (by rw [ck]; decide), ck] at CT
          rw [k0'] at W0
          exact lies_b1_z BX BY C0 C1 NU (Lib.hid CT) (Lib.hid EX) (Lib.hid W0) (Lib.hid ME) (Lib.hid IN) (Lib.hid HU) (Lib.hid TW) OX OY (Lib.hid RH) RM RI IH (Lib.hid KA) (Lib.hid KB) w
      · rw [p1] at HU
        rw [p2] at RH
        have IH := Lib.hid fun w => is_any 0 0 0 8 w
        by_cases k0 : szB (cutI z0) 134217728 = true
        · by_cases k1 : szB (cutI z1) 134217728 = true
          · have ck : ckP (cutI z0) (cutI z1) 134217728 = 0 := by unfold ckP; rw [k0, k1]; rfl
            rw [if_pos ck] at CT
            rw [k0] at W0
            rw [k1] at W1
            obtain ⟨q0, t0⟩ := cutI_small2 k0
            obtain ⟨q1, t1⟩ := cutI_small2 k1
            have RC := fun w => refContains_any (x := cutI x) (y := cutI y) (r := r) (u := z0) (v := z1) (bigS sx) (bigS sy) ⟨by omega, by omega⟩ t0 t1 w
            rw [show sq2 (cutI x - z0) (cutI y - z1) = sq2 (cutI x - cutI z0) (cutI y - cutI z1) by rw [q0, q1]] at RC
            exact lies_ok_e (by decide) BX BY C0 C1 NU (Lib.hid CT) (Lib.hid EX) (Lib.hid W0) (Lib.hid W1) OX (Lib.hid RC) (Lib.hid ME) (Lib.hid IN) (Lib.hid HU) (Lib.hid TW) OY (Lib.hid RH) RM RI IH (Lib.hid LA) (Lib.hid LB) w
          · have k1' : szB (cutI z1) 134217728 = false := by simpa using k1
            have ck : ckP (cutI z0) (cutI z1) 134217728 = 2 := by unfold ckP; rw [k0, k1']; rfl
            rw [if_neg (by rw [ck]; decide), ck] at CT
            rw [k0] at W0
            rw [k1'] at W1
            exact lies_b2_e (by decide) BX BY C0 C1 NU (Lib.hid CT) (Lib.hid EX) (Lib.hid W0) (Lib.hid W1) (Lib.hid ME) (Lib.hid IN) (Lib.hid HU) (Lib.hid TW) OX OY (Lib.hid RH) RM RI IH (Lib.hid LA) (Lib.hid LB) w
        · have k0' : szB (cutI z0) 134217728 = false := by simpa using k0
          have ck : ckP (cutI z0) (cutI z1) 134217728 = 2 := by unfold ckP; rw [k0']; rfl
          rw [if_neg (by rw [ck]; decide), ck] at CT
          rw [k0'] at W0
          exact lies_b1_e (by decide) BX BY C0 C1 NU (Lib.hid CT) (Lib.hid EX) (Lib.hid W0) (Lib.hid ME) (Lib.hid IN) (Lib.hid HU) (Lib.hid TW) OX OY (Lib.hid RH) RM RI IH (Lib.hid LA) (Lib.hid LB) w
    · rw [gk] at TW
      rw [if_neg (by omega)] at ME IN HU
      by_cases k0 : szB (cutI z0) 134217728 = true
      · by_cases k1 : szB (cutI z1) 134217728 = true
        · have ck : ckP (cutI z0) (cutI z1) 134217728 = 0 := by unfold ckP; rw [k0, k1]; rfl
          rw [if_pos ck] at CT
          rw [k0] at W0
          rw [k1] at W1
          obtain ⟨q0, t0⟩ := cutI_small2 k0
          obtain ⟨q1, t1⟩ := cutI_small2 k1
          obtain ⟨sx, sy, r1, r2⟩ := ckB_ok hk
          have RC := fun w => refContains_any (x := cutI x) (y := cutI y) (r := r) (u := z0) (v := z1) (bigS sx) (bigS sy) ⟨by omega, by omega⟩ t0 t1 w
          rw [show sq2 (cutI x - z0) (cutI y - z1) = sq2 (cutI x - cutI z0) (cutI y - cutI z1) by rw [q0, q1]] at RC
          exact lies_ok_bad BX BY C0 C1 NU (Lib.hid CT) (Lib.hid EX) (Lib.hid W0) (Lib.hid W1) OX (Lib.hid RC) (Lib.hid ME) (Lib.hid IN) (Lib.hid HU) (Lib.hid TW) (Lib.hid I0) w
        · have k1' : szB (cutI z1) 134217728 = false := by simpa using k1
          have ck : ckP (cutI z0) (cutI z1) 134217728 = 2 := by unfold ckP; rw [k0, k1']; rfl
          rw [if_neg (by rw [ck]; decide), ck] at CT
          rw [k0] at W0
          rw [k1'] at W1
          exact lies_b2_bad BX BY C0 C1 NU (Lib.hid CT) (Lib.hid EX) (Lib.hid W0) (Lib.hid W1) (Lib.hid ME) (Lib.hid IN) (Lib.hid HU) (Lib.hid TW) (Lib.hid I0) w
      · have k0' : szB (cutI z0) 134217728 = false := by simpa using k0
        have ck : ckP (cutI z0) (cutI z1) 134217728 = 2 := by unfold ckP; rw [k0']; rfl
        rw [if_neg (by rw [ck]; decide), ck] at CT
        rw [k0'] at W0
        exact lies_b1_bad BX BY C0 C1 NU (Lib.hid CT) (Lib.hid EX) (Lib.hid W0) (Lib.hid ME) (Lib.hid IN) (Lib.hid HU) (Lib.hid TW) (Lib.hid I0) w
  · rw [if_neg (by omega)] at CT TW ME IN HU
    rw [hk] at EX TW
    exact lies_bad BX BY C0 C1 NU (Lib.hid CT) (Lib.hid EX) (Lib.hid ME) (Lib.hid IN) (Lib.hid HU) (Lib.hid TW) (Lib.hid I0) w

end Go.Proofs.Ythkooiopiaakbaa
