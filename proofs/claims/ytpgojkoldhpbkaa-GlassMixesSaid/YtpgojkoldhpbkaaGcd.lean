/- GlassMixes: the reference's mixtures and shares, with their numbers. -/
import Derived.Test.YtpgojkoldhpbkaaGcc
import Derived.Test.YtpgojkoldhpbkaaGcb
import Derived.Test.YtpgojkoldhpbkaaGme
import Derived.Test.YtpgojkoldhpbkaaBase
namespace Go.Proofs.Ytpgojkoldhpbkaa.Gm
set_option linter.unusedSimpArgs false
open Go Go.RowKit Go.Proofs.Ytpgojkoldhpbkaa Go.Proofs.Ytpgojkoldhpbkaa.Ev

theorem bw_false {n lo hi : Int} (h : ¬ (lo ≤ n ∧ n ≤ hi)) : Ret 14 #[.int .i64 n, .int .i64 lo, .int .i64 hi] (.bool false) := fun w => by
  by_cases h0 : lo ≤ n
  · have := bw_t (hi := hi) (decide_eq_true h0) w
    rwa [decide_eq_false (show ¬ n ≤ hi from fun h1 => h ⟨h0, h1⟩)] at this
  · exact bw_f (decide_eq_false h0) w

/-- The search stands between these. -/
def SG (Q : Int) (i : Int × Int) : Prop := 0 ≤ i.1 ∧ i.1 < i.2 ∧ i.2 ≤ 80001 ∧ i.1 * i.1 ≤ Q ∧ Q < i.2 * i.2

theorem SG.of {Q x y : Int} (h0 : 0 ≤ x) (h1 : x < y) (h2 : y ≤ 80001) (h3 : x * x ≤ Q) (h4 : Q < y * y) : SG Q (x, y) := ⟨h0, h1, h2, h3, h4⟩

theorem rtu_floor {p : Int} (h0 : 0 ≤ p) (h1 : p ≤ 64000000000000) : rtu (cdiv p 10000) = if rti (p / 10000) * rti (p / 10000) * 10000 < p then rti (p / 10000) + 1 else rti (p / 10000) := by
  have e := Int.mul_ediv_add_emod p 10000
  have f0 : 0 ≤ p / 10000 := by omega
  have f1 : p / 10000 < 72057594037927936 := by omega
  obtain ⟨r0, r1, r2, r3⟩ := rti_spec (p / 10000) f0 f1
  have c := cdiv_spec p (d := 10000) (by omega)
  obtain ⟨C, hC⟩ : ∃ C, C = cdiv p 10000 := ⟨_, rfl⟩
  rw [← hC] at c ⊢
  obtain ⟨u0, u1, u2⟩ := rtu_spec (n := C) (by omega) (by omega)
  have ue : (rti (p / 10000) + 1) * (rti (p / 10000) + 1) = rti (p / 10000) * rti (p / 10000) + 2 * rti (p / 10000) + 1 := by grind
  have un : 0 ≤ rtu C := by
    have := (rti_spec C (by omega) (by omega)).1
    omega
  split
  · rename_i hlt
    have l1 : rtu C ≤ rti (p / 10000) + 1 := rtu_le (by omega) (by omega) (by omega) (by omega)
    by_cases hc : rtu C ≤ rti (p / 10000)
    · have := sq_le un hc
      omega
    · omega
  · rename_i hlt
    have l1 : rtu C ≤ rti (p / 10000) := rtu_le (by omega) (by omega) (by omega) (by omega)
    have l2 : rti (p / 10000) ≤ rtu C := le_of_sq un (by omega)
    omega

set_option maxRecDepth 100000 in
theorem search {a b s : Int} (ha : Ok a) (hb : Ok b) (hs : 0 ≤ s ∧ s ≤ 10000) (v2 v3 v4 v5 v6 v7 v8 v9 v10 v11 v12 : Int) (rest : List Int) :
    RmbL.Ok Try.prog (lenv (a :: b :: v2 :: v3 :: v4 :: v5 :: v6 :: v7 :: v8 :: v9 :: v10 :: v11 :: v12 :: ser a b s :: mixL a b s :: rest)) := by
  obtain ⟨ha, ha'⟩ := ha
  obtain ⟨hb, hb'⟩ := hb
  obtain ⟨h0, h1⟩ := hs
  obtain ⟨m1, m2, m3, g5, g6, g3, g4, m6, m7, m8, m9⟩ := mixed_any ha ha' hb hb' h0 h1
  have p1 := mul_bd (x := a) (y := a) (X := 80000) (Y := 80000) (by omega) ha' (by omega) ha'
  have p2 := mul_bd (x := 10000 * a) (y := a) (X := 800000000) (Y := 80000) (by omega) (by omega) (by omega) ha'
  have p3 := mul_bd (x := b) (y := b) (X := 80000) (Y := 80000) (by omega) hb' (by omega) hb'
  have p4 : 0 < b * b := Int.mul_pos (by omega) (by omega)
  obtain ⟨Q, hQ⟩ : ∃ Q, Q = 10000 * a * a * (b * b) / ser a b s := ⟨_, rfl⟩
  have hmix : mixL a b s = rti Q := by rw [hQ]; rfl
  rw [← hQ] at m6 m7
  obtain ⟨r0, r1, r2, r3⟩ := rti_spec Q m6 m7
  have hQ2 : Q < 80001 * 80001 := by
    have h8 : rti Q ≤ 80000 := by
      rw [← hmix]
      have : mx a b ≤ 80000 := by unfold mx; split <;> omega
      omega
    have := mul_bd r0 h8 r0 h8
    omega
  refine loopF_ok (l := RmbL) (ι := Int × Int) (env := fun i => lenv (a :: b :: v2 :: v3 :: v4 :: v5 :: v6 :: v7 :: v8 :: v9 :: v10 :: v11 :: v12 :: ser a b s :: i.1 :: i.2 :: [])) (good := SG Q) (fun i => (i.2 - i.1).toNat) (T := RmbT) (H := RmbH)
    (pr := [(.num (.var 0) (.var 0)), (.num (.var 1) (.var 1)), (.num (.var 8) (.var 8)), (.num (.var 13) (.var 13)), (.num (.lit 0) (.var 14)), (.num (.lit 80001) (.var 15))]) (fun h => Ex.noConfusion h) (0, 80001) (SG.of (by omega) (by omega) (by omega) m6 hQ2) (by kernel_rfl) (Rmb_in (rest := mixL a b s :: rest) (rest' := [])) ?_
  rintro ⟨x, y⟩ ⟨x0, xy, y1, hx, hy⟩
  simp only at x0 xy y1 hx hy
  by_cases hgo : 1 < y - x
  · obtain ⟨M, hM⟩ : ∃ M, M = (x + y) / 2 := ⟨_, rfl⟩
    have hM1 : x < M ∧ M < y := by omega
    have p5 := mul_bd (x := M) (y := M) (X := 80001) (Y := 80001) (by omega) (by omega) (by omega) (by omega)
    have hC := Compare_any (n := M * M) (d := b * b) (m := 10000 * a * a) (k := ser a b s) ⟨p5.1, by omega⟩ ⟨p4, by omega⟩ ⟨p2.1, by omega⟩ ⟨by omega, by omega⟩
    have e2 : IntKind.i64.wrap ((x + y).tdiv 2) = M := by
      rw [Int.tdiv_eq_ediv_of_nonneg (by omega), ← hM]; exact IntWalk.i64_in _ (by omega)
    have w0 : IntKind.i64.wrap (y - x) = y - x := IntWalk.i64_in _ (by omega)
    have w1 : IntKind.i64.wrap (x + y) = x + y := IntWalk.i64_in _ (by omega)
    have w3 : IntKind.i64.wrap (M * M) = M * M := IntWalk.i64_in _ (by omega)
    have w4 : IntKind.i64.wrap (b * b) = b * b := IntWalk.i64_in _ (by omega)
    have w5 : IntKind.i64.wrap (10000 * a) = 10000 * a := IntWalk.i64_in _ (by omega)
    have w6 : IntKind.i64.wrap (10000 * a * a) = 10000 * a * a := IntWalk.i64_in _ (by omega)
    by_cases hle : M * M ≤ Q
    · have hv : cmpv (M * M) (b * b) (10000 * a * a) (ser a b s) ≤ 0 := by
        have h := Int.mul_le_of_le_ediv (a := M * M) (b := 10000 * a * a * (b * b)) (c := ser a b s) (by omega) (by rw [← hQ]; exact hle)
        unfold cmpv; split
        · decide
        · rw [if_neg (by omega)]; decide
      refine .inl ⟨(M, y), SG.of (by omega) (by omega) y1 hle hy, by simp only; omega, ?_⟩
      exact Rmb_1 (rest := []) (rest' := []) w0 w1 e2 w3 w4 w5 w6 (decide_eq_true hgo) (decide_eq_true hv) hC
    · have hv : ¬ cmpv (M * M) (b * b) (10000 * a * a) (ser a b s) ≤ 0 := by
        have h : 10000 * a * a * (b * b) < M * M * ser a b s := by
          by_cases hc : M * M * ser a b s ≤ 10000 * a * a * (b * b)
          · have := Int.le_ediv_of_mul_le (show 0 < ser a b s by omega) hc
            rw [← hQ] at this; omega
          · omega
        rw [cmpv_gt h]; decide
      refine .inl ⟨(x, M), SG.of (by omega) (by omega) (by omega) hx (by omega), by simp only; omega, ?_⟩
      exact Rmb_0 (rest := []) (rest' := []) w0 w1 e2 w3 w4 w5 w6 (decide_eq_true hgo) (decide_eq_false hv) hC
  · refine .inr ?_
    have e : y = x + 1 := by omega
    have hxQ : x = rti Q := rti_uniq m6 x0 hx (by rw [← e]; exact hy)
    rw [hmix, ← hxQ]
    exact Rmb_2 (rest := []) (rest' := rest) (IntWalk.i64_in _ (by omega)) (decide_eq_false hgo)

theorem rm_val {a b s : Int} (ha : Ok a) (hb : Ok b) (hs : 0 ≤ s ∧ s ≤ 10000) : Ret 18 #[.int .i64 a, .int .i64 b, .int .i64 s] (.tuple #[.agg #[.int .i64 (mixL a b s), .int .i64 (mixH a b s)], .int .i64 0]) := by
  have hS := search ha hb hs
  obtain ⟨ha, ha'⟩ := ha
  obtain ⟨hb, hb'⟩ := hb
  obtain ⟨h0, h1⟩ := hs
  obtain ⟨m1, m2, m3, g5, g6, g3, g4, m6, m7, m8, m9⟩ := mixed_any ha ha' hb hb' h0 h1
  have p4 := mul_bd (x := s) (y := b) (X := 10000) (Y := 80000) h0 h1 (by omega) hb'
  have p5 := mul_bd (x := s * b) (y := b) (X := 10000 * 80000) (Y := 80000) p4.1 p4.2 (by omega) hb'
  have p6 := mul_bd (x := 10000 - s) (y := a) (X := 10000) (Y := 80000) (by omega) (by omega) (by omega) ha'
  have p7 := mul_bd (x := (10000 - s) * a) (y := a) (X := 10000 * 80000) (Y := 80000) p6.1 p6.2 (by omega) ha'
  have p8 := mul_bd (x := s) (y := a) (X := 10000) (Y := 80000) h0 h1 (by omega) ha'
  have p9 := mul_bd (x := s * a) (y := a) (X := 10000 * 80000) (Y := 80000) p8.1 p8.2 (by omega) ha'
  have p10 := mul_bd (x := 10000 - s) (y := b) (X := 10000) (Y := 80000) (by omega) (by omega) (by omega) hb'
  have p11 := mul_bd (x := (10000 - s) * b) (y := b) (X := 10000 * 80000) (Y := 80000) p10.1 p10.2 (by omega) hb'
  have es : s * b * b + (10000 - s) * a * a = ser a b s := rfl
  have ep : s * a * a + (10000 - s) * b * b = par a b s := rfl
  have f0 : 0 ≤ par a b s / 10000 := by omega
  have f1 : par a b s / 10000 < 72057594037927936 := by omega
  obtain ⟨r0, r1, r2, r3⟩ := rti_spec (par a b s / 10000) f0 f1
  have hF := of_same (Floor_any (par a b s) 10000 (by omega) (by omega) (by omega) (by omega))
  have hR := of_quiet (base_Root (par a b s / 10000) f0 (by omega))
  have hH := rtu_floor (p := par a b s) g3 g4
  have hm : mixH a b s = rtu (cdiv (par a b s) 10000) := rfl
  by_cases hlt : rti (par a b s / 10000) * rti (par a b s / 10000) * 10000 < par a b s
  · rw [if_pos hlt] at hH
    rw [hm, hH]
    exact fun w => Rmb (IntWalk.i64_in _ (by omega)) (IntWalk.i64_in _ (by omega)) (IntWalk.i64_in _ (by omega)) (IntWalk.i64_in _ (by omega)) (IntWalk.i64_in _ (by omega)) ((IntWalk.i64_in _ (by omega)).trans ep)
      (IntWalk.i64_in _ (by omega)) (IntWalk.i64_in _ (by omega)) (IntWalk.i64_in _ (by omega)) (IntWalk.i64_in _ (by omega)) ((IntWalk.i64_in _ (by omega)).trans es)
      (IntWalk.i64_in _ (by omega)) (IntWalk.i64_in _ (by omega)) (IntWalk.i64_in _ (by omega)) (decide_eq_true hlt) (bw_true ha ha') (bw_true hb hb') (bw_true h0 h1) hF hR (hS _ _ _ _ _ _ _ _ _ _ _ _) w
  · rw [if_neg hlt] at hH
    rw [hm, hH]
    exact fun w => Rmbo1 (IntWalk.i64_in _ (by omega)) (IntWalk.i64_in _ (by omega)) (IntWalk.i64_in _ (by omega)) (IntWalk.i64_in _ (by omega)) (IntWalk.i64_in _ (by omega)) ((IntWalk.i64_in _ (by omega)).trans ep)
      (IntWalk.i64_in _ (by omega)) (IntWalk.i64_in _ (by omega)) (IntWalk.i64_in _ (by omega)) (IntWalk.i64_in _ (by omega)) ((IntWalk.i64_in _ (by omega)).trans es)
      (IntWalk.i64_in _ (by omega)) (IntWalk.i64_in _ (by omega)) (decide_eq_false hlt) (bw_true ha ha') (bw_true hb hb') (bw_true h0 h1) hF hR (hS _ _ _ _ _ _ _ _ _ _ _ _) w

/-- Both agree on the mixture. -/
theorem both_mixed (a b s : Int) : ∃ l h e : Int, Ret 16 #[.int .i64 a, .int .i64 b, .int .i64 s] (.tuple #[.agg #[.int .i64 l, .int .i64 h], .int .i64 e]) ∧
    Ret 18 #[.int .i64 a, .int .i64 b, .int .i64 s] (.tuple #[.agg #[.int .i64 l, .int .i64 h], .int .i64 e]) := by
  by_cases hv : Ok a ∧ Ok b ∧ 0 ≤ s ∧ s ≤ 10000
  · exact ⟨_, _, _, mb_val hv.1 hv.2.1 hv.2.2, rm_val hv.1 hv.2.1 hv.2.2⟩
  · refine ⟨0, 0, 2, mb_bad hv, ?_⟩
    by_cases ha : Ok a
    · by_cases hb : Ok b
      · exact fun w => rm_e3 (bw_true ha.1 ha.2) (bw_true hb.1 hb.2) (bw_false fun hs => hv ⟨ha, hb, hs⟩) w
      · exact fun w => rm_e2 (bw_true ha.1 ha.2) (bw_false hb) w
    · exact fun w => rm_e1 (bw_false ha) w

theorem rs_lt_val {a b x : Int} (ha : Ok a) (hb : Ok b) (hab : a < b) (hx : a ≤ x) (hx' : x ≤ b) :
    Ret 19 #[.int .i64 a, .int .i64 b, .int .i64 x] (.tuple #[.agg #[.int .i64 (10000 * (b * b - x * x) / (b * b - a * a)), .int .i64 (cdiv (10000 * (b * b - x * x)) (b * b - a * a))], .int .i64 0]) := by
  obtain ⟨ha, ha'⟩ := ha
  obtain ⟨hb, hb'⟩ := hb
  have p1 := mul_bd (x := a) (y := a) (X := 80000) (Y := 80000) (by omega) ha' (by omega) ha'
  have p2 := mul_bd (x := b) (y := b) (X := 80000) (Y := 80000) (by omega) hb' (by omega) hb'
  have p3 := mul_bd (x := x) (y := x) (X := 80000) (Y := 80000) (by omega) (by omega) (by omega) (by omega)
  have q1 := sq_lt (x := a) (y := b) (by omega) hab
  have q2 := sq_le (x := x) (y := b) (by omega) hx'
  have hL := of_same (Floor_any (10000 * (b * b - x * x)) (b * b - a * a) (by omega) (by omega) (by omega) (by omega))
  have hU := of_same (Ceil_any (10000 * (b * b - x * x)) (b * b - a * a) (by omega) (by omega) (by omega) (by omega))
  have l0 : mn a b ≤ x := by unfold mn; split <;> omega
  have l1 : x ≤ mx a b := by unfold mx; split <;> omega
  exact fun w => rs_lt (v3 := mn a b) (v4 := mx a b) (v11 := 10000 * (b * b - x * x)) (v12 := b * b - a * a) rfl rfl (IntWalk.i64_in _ (by omega)) (IntWalk.i64_in _ (by omega)) (IntWalk.i64_in _ (by omega)) (IntWalk.i64_in _ (by omega)) (IntWalk.i64_in _ (by omega)) (IntWalk.i64_in _ (by omega))
    ((IntWalk.i64_in _ (by omega)).trans (by omega)) ((IntWalk.i64_in _ (by omega)).trans (by omega))
    (ne_false (by omega)) (decide_eq_true (by omega)) (bw_true ha ha') (bw_true hb hb') (bw_true (by omega) (by omega)) (bw_true l0 l1) hL hU w

theorem rs_gt_val {a b x : Int} (ha : Ok a) (hb : Ok b) (hab : b < a) (hx : b ≤ x) (hx' : x ≤ a) :
    Ret 19 #[.int .i64 a, .int .i64 b, .int .i64 x] (.tuple #[.agg #[.int .i64 (10000 * (x * x - b * b) / (a * a - b * b)), .int .i64 (cdiv (10000 * (x * x - b * b)) (a * a - b * b))], .int .i64 0]) := by
  obtain ⟨ha, ha'⟩ := ha
  obtain ⟨hb, hb'⟩ := hb
  have p1 := mul_bd (x := a) (y := a) (X := 80000) (Y := 80000) (by omega) ha' (by omega) ha'
  have p2 := mul_bd (x := b) (y := b) (X := 80000) (Y := 80000) (by omega) hb' (by omega) hb'
  have p3 := mul_bd (x := x) (y := x) (X := 80000) (Y := 80000) (by omega) (by omega) (by omega) (by omega)
  have q1 := sq_lt (x := b) (y := a) (by omega) hab
  have q2 := sq_le (x := b) (y := x) (by omega) hx
  have hL := of_same (Floor_any (10000 * (x * x - b * b)) (a * a - b * b) (by omega) (by omega) (by omega) (by omega))
  have hU := of_same (Ceil_any (10000 * (x * x - b * b)) (a * a - b * b) (by omega) (by omega) (by omega) (by omega))
  have l0 : mn a b ≤ x := by unfold mn; split <;> omega
  have l1 : x ≤ mx a b := by unfold mx; split <;> omega
  exact fun w => rs_gt (v3 := mn a b) (v4 := mx a b) rfl rfl (IntWalk.i64_in _ (by omega)) (IntWalk.i64_in _ (by omega)) (IntWalk.i64_in _ (by omega)) (IntWalk.i64_in _ (by omega)) (IntWalk.i64_in _ (by omega))
    (IntWalk.i64_in _ (by omega)) (ne_false (by omega)) (decide_eq_false (by omega)) (bw_true ha ha') (bw_true hb hb') (bw_true (by omega) (by omega)) (bw_true l0 l1) hL hU w

/-- Both agree on the share. -/
theorem both_share (a b x : Int) : ∃ l h e : Int, Ret 17 #[.int .i64 a, .int .i64 b, .int .i64 x] (.tuple #[.agg #[.int .i64 l, .int .i64 h], .int .i64 e]) ∧
    Ret 19 #[.int .i64 a, .int .i64 b, .int .i64 x] (.tuple #[.agg #[.int .i64 l, .int .i64 h], .int .i64 e]) := by
  by_cases ha : Ok a
  case neg => exact ⟨0, 0, 2, fun w => sf_e1 (wi_false ha) w, fun w => rs_e1 (bw_false ha) w⟩
  by_cases hb : Ok b
  case neg => exact ⟨0, 0, 2, fun w => sf_e2 (wi_true ha.1 ha.2) (wi_false hb) w, fun w => rs_e2 (bw_true ha.1 ha.2) (bw_false hb) w⟩
  by_cases hx : Ok x
  case neg => exact ⟨0, 0, 2, fun w => sf_e3 (wi_true ha.1 ha.2) (wi_true hb.1 hb.2) (wi_false hx) w, fun w => rs_e3 (bw_true ha.1 ha.2) (bw_true hb.1 hb.2) (bw_false hx) w⟩
  by_cases hab : a = b
  case pos =>
    exact ⟨0, 0, 9, fun w => sf_zero (eq_t hab) (wi_true ha.1 ha.2) (wi_true hb.1 hb.2) (wi_true hx.1 hx.2) w, fun w => rs_zero (eq_t hab) (bw_true ha.1 ha.2) (bw_true hb.1 hb.2) (bw_true hx.1 hx.2) w⟩
  by_cases hin : mn a b ≤ x ∧ x ≤ mx a b
  case neg =>
    exact ⟨0, 0, 24, fun w => sf_brk (v3 := mn a b) (v4 := mx a b) rfl rfl (eq_f hab) (wi_true ha.1 ha.2) (wi_true hb.1 hb.2) (wi_true hx.1 hx.2) (wi_false hin) w,
      fun w => rs_brk (v3 := mn a b) (v4 := mx a b) rfl rfl (eq_f hab) (bw_true ha.1 ha.2) (bw_true hb.1 hb.2) (bw_true hx.1 hx.2) (bw_false hin) w⟩
  unfold mn mx at hin
  by_cases hlt : a < b
  · rw [if_neg (by omega), if_pos (by omega)] at hin
    exact ⟨_, _, _, sf_lt_val ha hb hlt hin.1 hin.2, rs_lt_val ha hb hlt hin.1 hin.2⟩
  · rw [if_pos (by omega), if_neg (by omega)] at hin
    exact ⟨_, _, _, sf_gt_val ha hb (by omega) hin.1 hin.2, rs_gt_val ha hb (by omega) hin.1 hin.2⟩

theorem walkX (hA : Ret 8 #[] (.bool true)) (a b x y : Int) (w : World) : Calls Try.prog 5 #[.int .i64 a, .int .i64 b, .agg #[.int .i64 x, .int .i64 y]] w fun e w' => e = .returned (.bool true) ∧ Below w.heap.size w w' := by
  obtain ⟨l, h, e, m1, m2⟩ := both_mixed a b x
  obtain ⟨l', h', e', s1, s2⟩ := both_share a b y
  have := gx_ok (eq_t rfl) (by rw [eq_t rfl, eq_t rfl]; rfl) (eq_t rfl) hA m1 s1 m2 s2 w
  rwa [show (((l' : Int) == l') && ((h' : Int) == h')) = true by rw [eq_t rfl, eq_t rfl]; rfl] at this
end Go.Proofs.Ytpgojkoldhpbkaa.Gm
