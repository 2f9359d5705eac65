/- The statement on all ways of calculating answers true. -/
import Derived.Test.YthkooiopiaakbaaAlgb
import Derived.Test.YthkooiopiaakbaaAlgc
import Derived.Test.YthkooiopiaakbaaThrz
import Derived.Test.YthkooiopiaakbaaGot
namespace Go.Proofs.Ythkooiopiaakbaa
open Go.RowKit Go.Lib
set_option linter.unusedVariables false

theorem conj_ok {x y r : Int} (hc : ckB x y r = 0) (w : World) : Calls Try.prog 26 #[.agg #[.complex .f64 (fi x) (fi y), .int .i64 r]] w (Mem (balV (fi x) (fi (-y)) r 0) w) ∧ ckB x (-y) r = 0 := by
  obtain ⟨⟨x1, x2⟩, ⟨y1, y2⟩, r1, r2⟩ := ckB_ok hc
  obtain ⟨h1, h2⟩ := res_small (x := x) (y := -y) (r := r) ⟨by omega, by omega⟩ ⟨by omega, by omega⟩ r1 r2
  have := Conj_any r (cp_fi x y) (inF_of hc).1 (inF_of hc).2 w
  rw [if_pos hc, h1] at this
  exact ⟨this, h2⟩

theorem got_eq {a b : Nat} {R P Q D : Int} (h : Got a b R 0 P Q D) : 0 < D ∧ ∃ X Y, a = fi X ∧ b = fi Y ∧ ckB X Y R = 0 ∧ Hlds X Y R P Q D := h.2 rfl

set_option maxHeartbeats 2000000 in
theorem algebra_walk (x0 y0 r0 x1 y1 r1 x2 y2 r2 : Int) (w : World) :
    Calls Try.prog 15 #[.agg #[.int .i64 x0, .int .i64 y0, .int .i64 r0, .int .i64 x1, .int .i64 y1, .int .i64 r1, .int .i64 x2, .int .i64 y2, .int .i64 r2]] w (Mem (.bool true) w) := by
  rcases three_any x0 y0 r0 x1 y1 r1 x2 y2 r2 with ⟨aX, aY, bX, bY, cX, cY, aR, bR, cR, TB⟩ | ⟨⟨⟨hx0, hy0, p0, q0⟩, ⟨hx1, hy1, p1, q1⟩, ⟨hx2, hy2, p2, q2⟩⟩, TB⟩
  · exact alg_no (Lib.hid TB) w
  have ca : ckB x0 y0 r0 = 0 := ck_small ⟨by omega, by omega⟩ ⟨by omega, by omega⟩ (by omega) (by omega)
  have cb : ckB x1 y1 r1 = 0 := ck_small ⟨by omega, by omega⟩ ⟨by omega, by omega⟩ (by omega) (by omega)
  have cc : ckB x2 y2 r2 = 0 := ck_small ⟨by omega, by omega⟩ ⟨by omega, by omega⟩ (by omega) (by omega)
  have ha := Hlds.mid (X := x0) (Y := y0) (R := r0) p0
  have hb := Hlds.mid (X := x1) (Y := y1) (R := r1) p1
  have hc := Hlds.mid (X := x2) (Y := y2) (R := r2) p2
  -- sums and differences
  have HS := fun w => Plus_any r0 r1 (cp_fi x0 y0) (inF_of ca).1 (inF_of ca).2 (cp_fi x1 y1) (inF_of cb).1 (inF_of cb).2 w
  obtain ⟨s1, cs⟩ := res_small (x := x0 + x1) (y := y0 + y1) (r := r0 + r1) ⟨by omega, by omega⟩ ⟨by omega, by omega⟩ (by omega) (by omega)
  rw [if_pos ⟨ca, cb⟩, s1] at HS
  have hs := Hlds.mid (X := x0 + x1) (Y := y0 + y1) (R := r0 + r1) (by omega)
  have HDf := fun w => Minus_any r0 r1 (cp_fi x0 y0) (inF_of ca).1 (inF_of ca).2 (cp_fi x1 y1) (inF_of cb).1 (inF_of cb).2 w
  obtain ⟨d1, cd⟩ := res_small (x := x0 - x1) (y := y0 - y1) (r := r0 + r1) ⟨by omega, by omega⟩ ⟨by omega, by omega⟩ (by omega) (by omega)
  rw [if_pos ⟨ca, cb⟩, d1] at HDf
  have hd := Hlds.mid (X := x0 - x1) (Y := y0 - y1) (R := r0 + r1) (by omega)
  obtain ⟨aP, bP, RP, e3, HP, GP⟩ := times_got cs cd (by decide) (by decide) hs hd
  obtain ⟨AX, AY, AR, cAA, _, hAA, HAA⟩ := times_ok (x := x0) (y := y0) (r := r0) (u := x0) (v := y0) (s := r0) ⟨by omega, by omega⟩ ⟨by omega, by omega⟩ ⟨by omega, by omega⟩ ⟨by omega, by omega⟩ p0 q0 p0 q0 (by decide) (by decide) ha ha
  obtain ⟨BX, BY, BR, cBB, _, hBB, HBB⟩ := times_ok (x := x1) (y := y1) (r := r1) (u := x1) (v := y1) (s := r1) ⟨by omega, by omega⟩ ⟨by omega, by omega⟩ ⟨by omega, by omega⟩ ⟨by omega, by omega⟩ p1 q1 p1 q1 (by decide) (by decide) hb hb
  obtain ⟨aQ, bQ, RQ, e6, HQ, GQ⟩ := minus_got cAA cBB (by decide) (by decide) hAA hBB
  have HM1 := fun w => meets_got GP GQ (by grind) (by grind) w
  -- products of sums
  obtain ⟨aT, bT, RT, e7, HT, GT⟩ := times_got cs cc (by decide) (by decide) hs hc
  obtain ⟨CX, CY, CR, cAC, _, hAC, HAC⟩ := times_ok (x := x0) (y := y0) (r := r0) (u := x2) (v := y2) (s := r2) ⟨by omega, by omega⟩ ⟨by omega, by omega⟩ ⟨by omega, by omega⟩ ⟨by omega, by omega⟩ p0 q0 p2 q2 (by decide) (by decide) ha hc
  obtain ⟨DX, DY, DR, cBC, _, hBC, HBC⟩ := times_ok (x := x1) (y := y1) (r := r1) (u := x2) (v := y2) (s := r2) ⟨by omega, by omega⟩ ⟨by omega, by omega⟩ ⟨by omega, by omega⟩ ⟨by omega, by omega⟩ p1 q1 p2 q2 (by decide) (by decide) hb hc
  obtain ⟨aU, bU, RU, f1, HU, GU⟩ := plus_got cAC cBC (by decide) (by decide) hAC hBC
  have HM2 := fun w => meets_got GT GU (by grind) (by grind) w
  -- products in any order
  obtain ⟨EX, EY, ER, cAB, _, hAB, HAB⟩ := times_ok (x := x0) (y := y0) (r := r0) (u := x1) (v := y1) (s := r1) ⟨by omega, by omega⟩ ⟨by omega, by omega⟩ ⟨by omega, by omega⟩ ⟨by omega, by omega⟩ p0 q0 p1 q1 (by decide) (by decide) ha hb
  obtain ⟨aV, bV, RV, f3, HV, GV⟩ := times_got cAB cc (by decide) (by decide) hAB hc
  obtain ⟨aW, bW, RW, f4, HW, GW⟩ := times_got ca cBC (by decide) (by decide) ha hBC
  have HM3 := fun w => meets_got GV GW (by grind) (by grind) w
  -- conjugates
  have HMc := fun w => (conj_ok cAB w).1
  have cM := (conj_ok cAB w).2
  have HG := fun w => (conj_ok ca w).1
  have cG := (conj_ok ca w).2
  have HH := fun w => (conj_ok cb w).1
  have cH := (conj_ok cb w).2
  have hM := hAB.conj
  obtain ⟨aN, bN, RN, g2, HN, GN⟩ := times_got cG cH (by decide) (by decide) ha.conj hb.conj
  have GM : Got (fi EX) (fi (-EY)) ER 0 (x0 * x1 - y0 * y1) (-(x0 * y1 + y0 * x1)) (1 * 1 * 1048576) := ⟨.inl rfl, fun _ => ⟨by decide, _, _, rfl, rfl, cM, hM⟩⟩
  have HM5 := fun w => meets_got GM GN (by grind) (by grind) w
  -- quotients
  obtain ⟨aY, bY, RY, f5, HY, GY⟩ := quot_got ca cb (by decide) (by decide) ha hb
  obtain ⟨aZ, bZ, RZ, f6, HZ, GZ⟩ := quot_got ca cBC (by decide) (by decide) ha hBC
  unfold balV at *
  by_cases h5 : f5 = 0
  · subst h5
    obtain ⟨hDY, YX, YY, rfl, rfl, cY, hY⟩ := got_eq GY
    obtain ⟨aR', bR', RR, f7, HR, GR⟩ := quot_got cY cc hDY (by decide) hY hc
    have HM4 := fun w => meets_got GR GZ (by grind) (by grind) w
    unfold balV at HR
    exact alg_y (Lib.hid TB) (Lib.hid HS) (Lib.hid HDf) (Lib.hid HP) (Lib.hid HAA) (Lib.hid HBB) (Lib.hid HQ) (Lib.hid HM1) (Lib.hid HT) (Lib.hid HAC) (Lib.hid HBC) (Lib.hid HU) (Lib.hid HM2) (Lib.hid HAB) (Lib.hid HV) (Lib.hid HW) (Lib.hid HM3) (Lib.hid HY) (Lib.hid HZ) (Lib.hid HR) (Lib.hid HM4) (Lib.hid HMc) (Lib.hid HG) (Lib.hid HH) (Lib.hid HN) (Lib.hid HM5) w
  · exact alg_n h5 (Lib.hid TB) (Lib.hid HS) (Lib.hid HDf) (Lib.hid HP) (Lib.hid HAA) (Lib.hid HBB) (Lib.hid HQ) (Lib.hid HM1) (Lib.hid HT) (Lib.hid HAC) (Lib.hid HBC) (Lib.hid HU) (Lib.hid HM2) (Lib.hid HAB) (Lib.hid HV) (Lib.hid HW) (Lib.hid HM3) (Lib.hid HY) (Lib.hid HZ) (Lib.hid HMc) (Lib.hid HG) (Lib.hid HH) (Lib.hid HN) (Lib.hid HM5) w
end Go.Proofs.Ythkooiopiaakbaa
