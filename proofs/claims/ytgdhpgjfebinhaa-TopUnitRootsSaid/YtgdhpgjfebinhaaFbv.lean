/- TopUnitRoots: sums, powers and roots of unit numbers. -/
import Derived.Test.YtgdhpgjfebinhaaFura
import Derived.Test.YtgdhpgjfebinhaaFurb
import Derived.Test.YtgdhpgjfebinhaaFurc
import Derived.Test.YtgdhpgjfebinhaaFurd
import Derived.Test.YtgdhpgjfebinhaaFbl
namespace Go.Proofs.Ytgdhpgjfebinhaa.Ev
set_option linter.unusedSimpArgs false
open Go Go.RowKit
set_option linter.unusedVariables false
set_option maxRecDepth 100000
theorem sms_step {n : Int} {k : Nat} {i : Int} {a : Bq} {z : Option Bq} (h : sms n (k + 1) i a = z) (hz : z ≠ none) : (unitQ i n).e = 0 ∧ (plusU a (unitQ i n)).e = 0 ∧ sms n k (i + 1) (plusU a (unitQ i n)) = z := by

  unfold sms at h

  split at h

  · rename_i g; exact ⟨g.1, g.2, h⟩

  · exact absurd h.symm hz

theorem pws_step {u : Bq} {k : Nat} {a : Bq} {z : Option Bq} (h : pws u (k + 1) a = z) (hz : z ≠ none) : (timesU a u).e = 0 ∧ pws u k (timesU a u) = z := by

  unfold pws at h

  split at h

  · rename_i g; exact ⟨g, h⟩

  · exact absurd h.symm hz

theorem sumU_some {n : Nat} (h : sumU n = true) : ∃ s : Bq, sms n n 0 ⟨0, 0, 0, 0⟩ = some s ∧ inU s 0 0 = true := by

  unfold sumU at h

  split at h

  · rename_i s e; exact ⟨s, e, h⟩

  · cases h

theorem powU_some {n k : Nat} (h : powU n k = true) : (unitQ k n).e = 0 ∧ ∃ s : Bq, pws (unitQ k n) n ⟨1048576, 0, 0, 0⟩ = some s ∧ inU s 1048576 0 = true := by

  unfold powU at h

  rw [Bool.and_eq_true] at h

  refine ⟨of_decide_eq_true h.1, ?_⟩

  have h := h.2

  split at h

  · rename_i s e; exact ⟨s, e, h⟩

  · cases h

theorem plusU_n {p q : Bq} (hp : BqN p) (hq : BqN q) : BqN (plusU p q) := plus_n hp.hr.1 hq.hr.1

theorem timesU_n {p q : Bq} (hp : BqN p) (hq : BqN q) : BqN (timesU p q) := times_n hp.hr.1 hq.hr.1

theorem F_one : F 1048576 = 4697254411347427328 := by decide +kernel

theorem unitRoots_at {n k : Nat} (hn : 2 ≤ n ∧ n ≤ 40) (hk : k < n) (hs : sumU n = true) (hp : powU n k = true) (hh : halfU n k = true) : Spec Try.prog etalontop_TopUnitRoots_s ⟨[n, k], [], []⟩ [] [true] [] := by

  obtain ⟨s, es, ins⟩ := sumU_some hs

  obtain ⟨ue, p, ep, inp⟩ := powU_some hp

  have bt : Spec Try.prog etalontop_balled_s ⟨[], [], []⟩ [] [true] [] := outt (bld (R := (· = true)) rfl)

  have hI : ∀ x : Int, 0 ≤ x → x ≤ 100 → I64 x := fun x _ _ => ⟨by omega, by omega⟩

  have un := unit_n k n

  refine outt (tur (hI n (by omega) (by omega)) (hI k (by omega) (by omega)) (R := (· = true)) ⟨_, bt, fun _ => ⟨fun _ => ⟨fun _ => ⟨fun _ => ⟨fun _ => ?_, fun h => absurd (of_decide_eq_false h) (by omega)⟩, fun h => absurd (of_decide_eq_false h) (by omega)⟩, fun h => absurd (of_decide_eq_false h) (by omega)⟩, fun h => absurd (of_decide_eq_false h) (by omega)⟩, fun h => by cases h⟩)

  refine ⟨fun i X Y R => 0 ≤ i ∧ i ≤ n ∧ ∃ a : Bq, X = F a.x ∧ Y = F a.y ∧ R = a.r ∧ BqN a ∧ sms n (n - i).toNat i a = some s, fun i _ _ _ => (n - i).toNat, ⟨by omega, by omega, ⟨0, 0, 0, 0⟩, F_zero.symm, F_zero.symm, rfl, ⟨by decide, by decide, by decide, by decide⟩, by rw [show ((n : Int) - 0).toNat = n by omega]; exact es⟩, ?_⟩

  rintro i _ _ _ ⟨i0, i1, a, rfl, rfl, rfl, an, ea⟩

  have ar := an.hr

  refine ⟨by omega, i64_n an, fun h => ⟨by omega, ?_⟩, fun h => ?_⟩

  · have h := of_decide_eq_true h

    rw [show ((n : Int) - i).toNat = 0 by omega] at ea

    have ea : a = s := Option.some.inj ea

    subst ea

    have hc := contains_U an (x := 0) (y := 0) (by decide) (by decide)

    rw [ins] at hc

    rw [F_zero] at hc

    refine ⟨_, _, hc, fun _ => ⟨fun _ => ⟨_, _, _, _, Unit_p (hI k (by omega) (by omega)) (hI n (by omega) (by omega)), ?_⟩, fun h => by cases h⟩, fun h => by cases h⟩

    clear hc h ar an

    refine ⟨fun e j X Y R => 0 ≤ j ∧ j ≤ n ∧ e = 0 ∧ ∃ b : Bq, X = F b.x ∧ Y = F b.y ∧ R = b.r ∧ BqN b ∧ pws (unitQ k n) (n - j).toNat b = some p, fun _ j _ _ _ => (n - j).toNat, ⟨by omega, by omega, rfl, ⟨1048576, 0, 0, 0⟩, F_one.symm, F_zero.symm, rfl, ⟨by decide, by decide, by decide, by decide⟩, by rw [show ((n : Int) - 0).toNat = n by omega]; exact ep⟩, ?_⟩

    rintro e j _ _ _ ⟨j0, j1, rfl, b, rfl, rfl, rfl, bn, eb⟩

    have br := bn.hr

    refine ⟨by omega, by omega, by omega, fun h => ⟨by omega, by omega, ?_⟩, fun h => ?_⟩

    · have h := of_decide_eq_true h

      rw [show ((n : Int) - j).toNat = 0 by omega] at eb

      have eb : b = p := Option.some.inj eb

      subst eb

      have hc := contains_U bn (x := 1048576) (y := 0) (by decide) (by decide)

      rw [inp, F_one, F_zero] at hc

      refine ⟨_, _, hc, fun _ => ⟨fun _ => ⟨fun _ => ⟨_, check_U bn, fun _ => ⟨fun _ => rfl, fun g => ?_⟩, fun h => by cases h⟩, fun h => by cases h⟩, fun h => by cases h⟩, fun h => absurd ue (by simpa using h)⟩

      rw [show IntKind.i64.wrap (2 * (k : Int)) = 2 * k from wrapI (by omega)] at g

      have g := of_decide_eq_false g

      unfold halfU at hh

      rw [decide_eq_false (by omega), Bool.false_or, Bool.and_eq_true, Bool.and_eq_true] at hh

      obtain ⟨h1, h2, h3⟩ := hh

      have h1 := of_decide_eq_true h1

      have h2 := of_decide_eq_true h2

      have rn : BqN (rootU (unitQ k n)) := by

        unfold rootU rootQ at h1 ⊢

        split at h1

        · simp [be] at h1

        · rw [if_neg (by assumption)]

          split at h1

          · simp [be] at h1

          · rw [if_neg (by assumption)]

            rename_i hd _

            have f := root_facts un.hx un.hy un.hr hd

            exact bk_n (by

              unfold rdR

              have c1 := cdiv_nn (n := 1048576) (d := gre (unitQ k n).x (unitQ k n).y) (by omega) (by decide)

              have c2 := cdiv_nn (n := (unitQ k n).r * 1048576) (d := rti (dn (unitQ k n).x (unitQ k n).y * 1048576)) (by omega) (by have := un.hr; omega)

              omega)

      have u2 := Unit_p (hI k (by omega) (by omega)) (hI (2 * n) (by omega) (by omega))

      have mt := meets_U rn (unit_n k (2 * n))

      rw [h3] at mt

      exact ⟨_, _, _, _, root_U un, _, _, _, _, u2, fun _ => ⟨fun _ => ⟨_, _, mt, fun _ => rfl, fun h => by cases h⟩, fun h => absurd h2 (by simpa using h)⟩, fun h => absurd h1 (by simpa using h)⟩

    · have h := of_decide_eq_false h

      rw [show ((n : Int) - j).toNat = ((n : Int) - (j + 1)).toNat + 1 by omega] at eb

      obtain ⟨e1, e2⟩ := pws_step eb (by simp)

      have tn := timesU_n bn un

      have tr := tn.hr

      refine ⟨_, _, _, _, times_U bn un, fun _ => ?_, fun h => absurd e1 (by simpa using h)⟩

      rw [show IntKind.i64.wrap (j + 1) = j + 1 from wrapI (by omega)]

      exact ⟨⟨by omega, by omega, e1, _, rfl, rfl, rfl, tn, e2⟩, by dsimp only; omega⟩

  · have h := of_decide_eq_false h

    rw [show ((n : Int) - i).toNat = ((n : Int) - (i + 1)).toNat + 1 by omega] at ea

    obtain ⟨e1, e2, e3⟩ := sms_step ea (by simp)

    have vn := unit_n i n

    have pn := plusU_n an vn

    have px := pn.hx

    have py := pn.hy

    refine ⟨_, _, _, _, Unit_p (hI i (by omega) (by omega)) (hI n (by omega) (by omega)), fun _ => ⟨_, _, _, _, plus_U an vn, _, ⟨F_rp _, by omega⟩, px, _, ⟨F_rp _, by omega⟩, py, fun _ => ?_, fun h => absurd e2 (by simpa using h)⟩, fun h => absurd e1 (by simpa using h)⟩

    rw [show IntKind.i64.wrap (i + 1) = i + 1 from wrapI (by omega)]

    exact ⟨⟨by omega, by omega, _, rfl, rfl, rfl, pn, e3⟩, by dsimp only; omega⟩

theorem all_U (n k : Nat) (hn : 2 ≤ n ∧ n ≤ 40) (hk : k < n) : sumU n = true ∧ powU n k = true ∧ halfU n k = true := by

  by_cases h2 : n = 2

  · subst h2; exact ⟨sumU_2, okU_2 k hk⟩

  by_cases h3 : n = 3

  · subst h3; exact ⟨sumU_3, okU_3 k hk⟩

  by_cases h4 : n = 4

  · subst h4; exact ⟨sumU_4, okU_4 k hk⟩

  by_cases h5 : n = 5

  · subst h5; exact ⟨sumU_5, okU_5 k hk⟩

  by_cases h6 : n = 6

  · subst h6; exact ⟨sumU_6, okU_6 k hk⟩

  by_cases h7 : n = 7

  · subst h7; exact ⟨sumU_7, okU_7 k hk⟩

  by_cases h8 : n = 8

  · subst h8; exact ⟨sumU_8, okU_8 k hk⟩

  by_cases h9 : n = 9

  · subst h9; exact ⟨sumU_9, okU_9 k hk⟩

  by_cases h10 : n = 10

  · subst h10; exact ⟨sumU_10, okU_10 k hk⟩

  by_cases h11 : n = 11

  · subst h11; exact ⟨sumU_11, okU_11 k hk⟩

  by_cases h12 : n = 12

  · subst h12; exact ⟨sumU_12, okU_12 k hk⟩

  by_cases h13 : n = 13

  · subst h13; exact ⟨sumU_13, okU_13 k hk⟩

  by_cases h14 : n = 14

  · subst h14; exact ⟨sumU_14, okU_14 k hk⟩

  by_cases h15 : n = 15

  · subst h15; exact ⟨sumU_15, okU_15 k hk⟩

  by_cases h16 : n = 16

  · subst h16; exact ⟨sumU_16, okU_16 k hk⟩

  by_cases h17 : n = 17

  · subst h17; exact ⟨sumU_17, okU_17 k hk⟩

  by_cases h18 : n = 18

  · subst h18; exact ⟨sumU_18, okU_18 k hk⟩

  by_cases h19 : n = 19

  · subst h19; exact ⟨sumU_19, okU_19 k hk⟩

  by_cases h20 : n = 20

  · subst h20; exact ⟨sumU_20, okU_20 k hk⟩

  by_cases h21 : n = 21

  · subst h21; exact ⟨sumU_21, okU_21 k hk⟩

  by_cases h22 : n = 22

  · subst h22; exact ⟨sumU_22, okU_22 k hk⟩

  by_cases h23 : n = 23

  · subst h23; exact ⟨sumU_23, okU_23 k hk⟩

  by_cases h24 : n = 24

  · subst h24; exact ⟨sumU_24, okU_24 k hk⟩

  by_cases h25 : n = 25

  · subst h25; exact ⟨sumU_25, okU_25 k hk⟩

  by_cases h26 : n = 26

  · subst h26; exact ⟨sumU_26, okU_26 k hk⟩

  by_cases h27 : n = 27

  · subst h27; exact ⟨sumU_27, okU_27 k hk⟩

  by_cases h28 : n = 28

  · subst h28; exact ⟨sumU_28, okU_28 k hk⟩

  by_cases h29 : n = 29

  · subst h29; exact ⟨sumU_29, okU_29 k hk⟩

  by_cases h30 : n = 30

  · subst h30; exact ⟨sumU_30, okU_30 k hk⟩

  by_cases h31 : n = 31

  · subst h31; exact ⟨sumU_31, okU_31 k hk⟩

  by_cases h32 : n = 32

  · subst h32; exact ⟨sumU_32, okU_32 k hk⟩

  by_cases h33 : n = 33

  · subst h33; exact ⟨sumU_33, okU_33 k hk⟩

  by_cases h34 : n = 34

  · subst h34; exact ⟨sumU_34, okU_34 k hk⟩

  by_cases h35 : n = 35

  · subst h35; exact ⟨sumU_35, okU_35 k hk⟩

  by_cases h36 : n = 36

  · subst h36; exact ⟨sumU_36, okU_36 k hk⟩

  by_cases h37 : n = 37

  · subst h37; exact ⟨sumU_37, okU_37 k hk⟩

  by_cases h38 : n = 38

  · subst h38; exact ⟨sumU_38, okU_38 k hk⟩

  by_cases h39 : n = 39

  · subst h39; exact ⟨sumU_39, okU_39 k hk⟩

  by_cases h40 : n = 40

  · subst h40; exact ⟨sumU_40, okU_40 k hk⟩

  omega

theorem unitRoots {x0 x1 : Int} (r0 : I64 x0) (r1 : I64 x1) : Spec Try.prog etalontop_TopUnitRoots_s ⟨[x0, x1], [], []⟩ [] [true] [] := by

  by_cases h : ((2 ≤ x0 ∧ x0 ≤ 40) ∧ 0 ≤ x1 ∧ x1 ≤ x0 - 1)

  · obtain ⟨n, rfl⟩ : ∃ n : Nat, x0 = n := ⟨x0.toNat, by omega⟩

    obtain ⟨k, rfl⟩ : ∃ k : Nat, x1 = k := ⟨x1.toNat, by omega⟩

    obtain ⟨a, b, c⟩ := all_U n k (by omega) (by omega)

    exact unitRoots_at (by omega) (by omega) a b c

  · have bt : Spec Try.prog etalontop_balled_s ⟨[], [], []⟩ [] [true] [] := outt (bld (R := (· = true)) rfl)

    refine outt (tur r0 r1 (R := (· = true)) ⟨_, bt, fun _ => ⟨fun a => ⟨fun b => ⟨fun c => ⟨fun d => ?_, fun _ => rfl⟩, fun _ => rfl⟩, fun _ => rfl⟩, fun _ => rfl⟩, fun h => by cases h⟩)

    exact absurd ⟨⟨of_decide_eq_true a, of_decide_eq_true b⟩, of_decide_eq_true c, of_decide_eq_true d⟩ h

end Go.Proofs.Ytgdhpgjfebinhaa.Ev
