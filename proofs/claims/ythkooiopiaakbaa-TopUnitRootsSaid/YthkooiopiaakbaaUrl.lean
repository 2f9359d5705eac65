/- The statement on unit numbers that are roots of one answers true. -/
import Derived.Test.YthkooiopiaakbaaUrwa
import Derived.Test.YthkooiopiaakbaaUrwb
import Derived.Test.YthkooiopiaakbaaUrwc
import Derived.Test.YthkooiopiaakbaaUrd
import Derived.Test.YthkooiopiaakbaaUre
import Derived.Test.YthkooiopiaakbaaUrf
import Derived.Test.YthkooiopiaakbaaUnip
import Derived.Test.YthkooiopiaakbaaRefd
import Derived.Test.YthkooiopiaakbaaRoob
import Derived.Test.YthkooiopiaakbaaCont
import Derived.Test.YthkooiopiaakbaaWhoc
namespace Go.Proofs.Ythkooiopiaakbaa
open Go.RowKit Go.Lib
set_option linter.unusedVariables false

theorem all_ok (N : Nat) (h1 : 2 ≤ N) (h2 : N ≤ 40) : sumB N = true ∧ ∀ k, k < N → powB N k = true ∧ halfB N k = true := by
  have h : N = 2 ∨ N = 3 ∨ N = 4 ∨ N = 5 ∨ N = 6 ∨ N = 7 ∨ N = 8 ∨ N = 9 ∨ N = 10 ∨ N = 11 ∨ N = 12 ∨ N = 13 ∨ N = 14 ∨ N = 15 ∨ N = 16 ∨ N = 17 ∨ N = 18 ∨ N = 19 ∨ N = 20 ∨ N = 21 ∨ N = 22 ∨ N = 23 ∨ N = 24 ∨ N = 25 ∨ N = 26 ∨ N = 27 ∨ N = 28 ∨ N = 29 ∨ N = 30 ∨ N = 31 ∨ N = 32 ∨ N = 33 ∨ N = 34 ∨ N = 35 ∨ N = 36 ∨ N = 37 ∨ N = 38 ∨ N = 39 ∨ N = 40 := by omega
  rcases h with rfl | rfl | rfl | rfl | rfl | rfl | rfl | rfl | rfl | rfl | rfl | rfl | rfl | rfl | rfl | rfl | rfl | rfl | rfl | rfl | rfl | rfl | rfl | rfl | rfl | rfl | rfl | rfl | rfl | rfl | rfl | rfl | rfl | rfl | rfl | rfl | rfl | rfl | rfl
  · exact ⟨sum_2, ok_2⟩
  · exact ⟨sum_3, ok_3⟩
  · exact ⟨sum_4, ok_4⟩
  · exact ⟨sum_5, ok_5⟩
  · exact ⟨sum_6, ok_6⟩
  · exact ⟨sum_7, ok_7⟩
  · exact ⟨sum_8, ok_8⟩
  · exact ⟨sum_9, ok_9⟩
  · exact ⟨sum_10, ok_10⟩
  · exact ⟨sum_11, ok_11⟩
  · exact ⟨sum_12, ok_12⟩
  · exact ⟨sum_13, ok_13⟩
  · exact ⟨sum_14, ok_14⟩
  · exact ⟨sum_15, ok_15⟩
  · exact ⟨sum_16, ok_16⟩
  · exact ⟨sum_17, ok_17⟩
  · exact ⟨sum_18, ok_18⟩
  · exact ⟨sum_19, ok_19⟩
  · exact ⟨sum_20, ok_20⟩
  · exact ⟨sum_21, ok_21⟩
  · exact ⟨sum_22, ok_22⟩
  · exact ⟨sum_23, ok_23⟩
  · exact ⟨sum_24, ok_24⟩
  · exact ⟨sum_25, ok_25⟩
  · exact ⟨sum_26, ok_26⟩
  · exact ⟨sum_27, ok_27⟩
  · exact ⟨sum_28, ok_28⟩
  · exact ⟨sum_29, ok_29⟩
  · exact ⟨sum_30, ok_30⟩
  · exact ⟨sum_31, ok_31⟩
  · exact ⟨sum_32, ok_32⟩
  · exact ⟨sum_33, ok_33⟩
  · exact ⟨sum_34, ok_34⟩
  · exact ⟨sum_35, ok_35⟩
  · exact ⟨sum_36, ok_36⟩
  · exact ⟨sum_37, ok_37⟩
  · exact ⟨sum_38, ok_38⟩
  · exact ⟨sum_39, ok_39⟩
  · exact ⟨sum_40, ok_40⟩

theorem ok3_ck {p : Int × Int × Int} (h : ok3 p = true) : ckB p.1 p.2.1 p.2.2 = 0 := by unfold ok3 at h; simpa using h
theorem ok3_res {p : Int × Int × Int} (h : ok3 p = true) : resB p.1 p.2.1 p.2.2 = balV (fi p.1) (fi p.2.1) p.2.2 0 := by
  obtain ⟨⟨x1, x2⟩, ⟨y1, y2⟩, r1, r2⟩ := ckB_ok (ok3_ck h)
  have h : okB p.1 p.2.1 p.2.2 = true := by unfold okB szB; simp; omega
  unfold resB; rw [h]; rfl
theorem ok3_cp (p : Int × Int × Int) : Cp (fi p.1) (fi p.2.1) p.1 p.2.1 := ⟨Rp_fi _, Rp_fi _⟩
theorem ok3_in {p : Int × Int × Int} (h : ok3 p = true) : InF p.1 ∧ InF p.2.1 := by
  obtain ⟨⟨x1, x2⟩, ⟨y1, y2⟩, r1, r2⟩ := ckB_ok (ok3_ck h)
  exact ⟨⟨by omega, by omega⟩, ⟨by omega, by omega⟩⟩

theorem sms_spec (n : Int) : ∀ (k : Nat) (i : Int) (acc r : Int × Int × Int), sms n k i acc = some r →
    ∃ S : Nat → Int × Int × Int, S 0 = acc ∧ S k = r ∧ ∀ j : Nat, j < k → ok3 (un3 (i + j) n) = true ∧ S (j + 1) = plus3 (S j) (un3 (i + j) n) ∧ ok3 (S (j + 1)) = true
  | 0, i, acc, r, h => ⟨fun _ => acc, rfl, by simpa [sms] using h, fun j hj => by omega⟩
  | k + 1, i, acc, r, h => by
    unfold sms at h
    split at h
    · rename_i hc
      simp only [Bool.and_eq_true] at hc
      obtain ⟨S, s0, sk, hs⟩ := sms_spec n k _ _ _ h
      refine ⟨fun j => match j with | 0 => acc | j + 1 => S j, rfl, sk, fun j hj => ?_⟩
      cases j with
      | zero => exact ⟨by simpa using hc.1, by simpa using s0, by show ok3 (S 0) = true; rw [s0]; exact hc.2⟩
      | succ j =>
        have := hs j (by omega)
        have e : i + 1 + (j : Int) = i + ((j + 1 : Nat) : Int) := by omega
        rw [e] at this
        exact this
    · cases h
theorem pws_spec (u : Int × Int × Int) : ∀ (k : Nat) (acc r : Int × Int × Int), pws u k acc = some r →
    ∃ S : Nat → Int × Int × Int, S 0 = acc ∧ S k = r ∧ ∀ j : Nat, j < k → S (j + 1) = tim3 (S j) u ∧ ok3 (S (j + 1)) = true
  | 0, acc, r, h => ⟨fun _ => acc, rfl, by simpa [pws] using h, fun j hj => by omega⟩
  | k + 1, acc, r, h => by
    unfold pws at h
    split at h
    · rename_i hc
      obtain ⟨S, s0, sk, hs⟩ := pws_spec u k _ _ h
      refine ⟨fun j => match j with | 0 => acc | j + 1 => S j, rfl, sk, fun j hj => ?_⟩
      cases j with
      | zero => exact ⟨s0, by show ok3 (S 0) = true; rw [s0]; exact hc⟩
      | succ j => exact hs j (by omega)
    · cases h

theorem unit3 {n d : Int} (h : ok3 (un3 n d) = true) (hn : Sm 1000000000 n) (hd : 1 ≤ d) (hd' : d ≤ 1000000000) (w : World) :
    Calls Try.prog 60 #[.int .i64 n, .int .i64 d] w (Mem (balV (fi (un3 n d).1) (fi (un3 n d).2.1) (un3 n d).2.2 0) w) := by
  have hc : ckF n d = 0 := by
    obtain ⟨n1, n2⟩ := hn
    unfold ckF szB; simp; omega
  have h1 := Unit_any n d w
  unfold unitV at h1
  rw [if_pos hc] at h1
  have e : arcV (dir1 ((uLo n d + uHi n d) / 2 % 4194304)).1 (dir1 ((uLo n d + uHi n d) / 2 % 4194304)).2 (uLo n d) (uHi n d) = resB (un3 n d).1 (un3 n d).2.1 (un3 n d).2.2 := rfl
  rw [e, ok3_res h] at h1
  exact h1

theorem unitRoots_walk (n k : Int) (w : World) : Calls Try.prog 16 #[.int .i64 n, .int .i64 k] w (Mem (.bool true) w) := by
  have W0 := fun w => within_memB n 2 40 w
  have W1 := fun w => within_memB k 0 (n - 1) w
  by_cases h0 : wiB n 2 40 = true
  case neg => rw [show wiB n 2 40 = false by simpa using h0] at W0; exact ur_n (Lib.hid W0) w
  rw [h0] at W0
  have hn : 2 ≤ n ∧ n ≤ 40 := by unfold wiB at h0; simpa using h0
  have v0 : IntKind.i64.wrap (n - 1) = n - 1 := IntWalk.i64_in _ (by constructor <;> omega)
  by_cases h1 : wiB k 0 (n - 1) = true
  case neg => rw [show wiB k 0 (n - 1) = false by simpa using h1] at W1; exact ur_k (Lib.hid W0) v0 (Lib.hid W1) w
  rw [h1] at W1
  have hk : 0 ≤ k ∧ k ≤ n - 1 := by unfold wiB at h1; simpa using h1
  obtain ⟨N, rfl⟩ := Int.eq_ofNat_of_zero_le (show 0 ≤ n by omega)
  obtain ⟨K, rfl⟩ := Int.eq_ofNat_of_zero_le hk.1
  obtain ⟨hs, hpk⟩ := all_ok N (by omega) (by omega)
  obtain ⟨hp, hh⟩ := hpk K (by omega)
  unfold sumB at hs
  split at hs
  case h_2 => cases hs
  rename_i s es
  obtain ⟨S, s0, sk, hS⟩ := sms_spec _ _ _ _ _ es
  unfold powB at hp
  simp only [Bool.and_eq_true] at hp
  obtain ⟨hu, hp⟩ := hp
  split at hp
  case h_2 => cases hp
  rename_i p ep
  obtain ⟨P, p0, pk, hP⟩ := pws_spec _ _ _ _ ep
  have okS : ∀ j, j ≤ N → ok3 (S j) = true := by
    intro j hj
    cases j with
    | zero => rw [s0]; decide
    | succ j => exact (hS j (by omega)).2.2
  have okP : ∀ j, j ≤ N → ok3 (P j) = true := by
    intro j hj
    cases j with
    | zero => rw [p0]; decide
    | succ j => exact (hP j (by omega)).2
  have HU : ∀ i : Nat, i < N → Hid (∀ w, Calls Try.prog 60 #[.int .i64 (i : Int), .int .i64 (N : Int)] w (Mem (.tuple #[.agg #[.complex .f64 (fi (un3 (i : Int) N).1) (fi (un3 (i : Int) N).2.1), .int .i64 (un3 (i : Int) N).2.2], .int .i64 0]) w)) := by
    intro i hi
    have := (hS i hi).1
    rw [Int.zero_add] at this
    exact Lib.hid fun w => unit3 this ⟨by omega, by omega⟩ (by omega) (by omega) w
  have HP : ∀ i : Nat, i < N → Hid (∀ w, Calls Try.prog 24 #[.agg #[.complex .f64 (fi (S i).1) (fi (S i).2.1), .int .i64 (S i).2.2], .agg #[.complex .f64 (fi (un3 (i : Int) N).1) (fi (un3 (i : Int) N).2.1), .int .i64 (un3 (i : Int) N).2.2]] w (Mem (.tuple #[.agg #[.complex .f64 (fi (S (i + 1)).1) (fi (S (i + 1)).2.1), .int .i64 (S (i + 1)).2.2], .int .i64 0]) w)) := by
    intro i hi
    obtain ⟨a1, a2, a3⟩ := hS i hi
    rw [Int.zero_add] at a1 a2
    have b := okS i (by omega)
    refine Lib.hid fun w => ?_
    have := Plus_any (S i).2.2 (un3 (i : Int) N).2.2 (ok3_cp (S i)) (ok3_in b).1 (ok3_in b).2 (ok3_cp (un3 (i : Int) N)) (ok3_in a1).1 (ok3_in a1).2 w
    rw [if_pos ⟨ok3_ck b, ok3_ck a1⟩] at this
    have e : resB ((S i).1 + (un3 (i : Int) N).1) ((S i).2.1 + (un3 (i : Int) N).2.1) ((S i).2.2 + (un3 (i : Int) N).2.2) = resB (S (i + 1)).1 (S (i + 1)).2.1 (S (i + 1)).2.2 := by rw [a2]; rfl
    rw [e, ok3_res a3] at this
    exact this
  have bN := okS N (Nat.le_refl _)
  have HZ : Hid (∀ w, Calls Try.prog 50 #[.agg #[.complex .f64 (fi (S N).1) (fi (S N).2.1), .int .i64 (S N).2.2], .complex .f64 0 0] w (Mem (.tuple #[.bool true, .int .i64 0]) w)) := by
    refine Lib.hid fun w => ?_
    have := Contains_any (c := 0) (d := 0) (u := 0) (v := 0) (S N).2.2 (ok3_cp (S N)) (ok3_in bN).1 (ok3_in bN).2 ⟨.inl fi_nought.symm, .inl fi_nought.symm⟩ ⟨by decide, by decide⟩ ⟨by decide, by decide⟩ w
    rw [if_pos (ok3_ck bN), if_pos (by decide)] at this
    have e : decide (sq2 ((S N).1 - 0) ((S N).2.1 - 0) ≤ (S N).2.2 * (S N).2.2) = true := by rw [sk]; exact hs
    rw [e] at this
    exact this
  have HK := Lib.hid fun w => unit3 hu ⟨by omega, by omega⟩ (by omega) (by omega) w
  have HB : Hid (∀ w, Calls Try.prog 49 #[.int .i64 1048576, .int .i64 0, .int .i64 0] w (Mem (.agg #[.complex .f64 (fi (P 0).1) (fi (P 0).2.1), .int .i64 (P 0).2.2]) w)) := by
    rw [p0]; exact Lib.hid fun w => Ball_mem 1048576 0 0 w
  have HT : ∀ i : Nat, i < N → Hid (∀ w, Calls Try.prog 37 #[.agg #[.complex .f64 (fi (P i).1) (fi (P i).2.1), .int .i64 (P i).2.2], .agg #[.complex .f64 (fi (un3 (K : Int) N).1) (fi (un3 (K : Int) N).2.1), .int .i64 (un3 (K : Int) N).2.2]] w (Mem (.tuple #[.agg #[.complex .f64 (fi (P (i + 1)).1) (fi (P (i + 1)).2.1), .int .i64 (P (i + 1)).2.2], .int .i64 0]) w)) := by
    intro i hi
    obtain ⟨a2, a3⟩ := hP i hi
    have b := okP i (by omega)
    refine Lib.hid fun w => ?_
    have := Times_any (P i).2.2 (un3 (K : Int) N).2.2 (ok3_cp (P i)) (ok3_in b).1 (ok3_in b).2 (ok3_cp (un3 (K : Int) N)) (ok3_in hu).1 (ok3_in hu).2 w
    rw [if_pos ⟨ok3_ck b, ok3_ck hu⟩] at this
    have e : resB (prodX (P i).1 (P i).2.1 (un3 (K : Int) N).1 (un3 (K : Int) N).2.1) (prodY (P i).1 (P i).2.1 (un3 (K : Int) N).1 (un3 (K : Int) N).2.1) (prodR (P i).1 (P i).2.1 (un3 (K : Int) N).1 (un3 (K : Int) N).2.1 (P i).2.2 (un3 (K : Int) N).2.2) = resB (P (i + 1)).1 (P (i + 1)).2.1 (P (i + 1)).2.2 := by rw [a2]; rfl
    rw [e, ok3_res a3] at this
    exact this
  have HO := Lib.hid fun w => same_mem (Num_any 1048576 0 w)
  have cN := okP N (Nat.le_refl _)
  have HC : Hid (∀ w, Calls Try.prog 50 #[.agg #[.complex .f64 (fi (P N).1) (fi (P N).2.1), .int .i64 (P N).2.2], .complex .f64 (fi 1048576) (fi 0)] w (Mem (.tuple #[.bool true, .int .i64 0]) w)) := by
    refine Lib.hid fun w => ?_
    have := Contains_any (c := fi 1048576) (d := fi 0) (u := 1048576) (v := 0) (P N).2.2 (ok3_cp (P N)) (ok3_in cN).1 (ok3_in cN).2 ⟨Rp_fi _, Rp_fi _⟩ ⟨by decide, by decide⟩ ⟨by decide, by decide⟩ w
    rw [if_pos (ok3_ck cN), if_pos (by decide)] at this
    have e : decide (sq2 ((P N).1 - 1048576) ((P N).2.1 - 0) ≤ (P N).2.2 * (P N).2.2) = true := by rw [pk]; exact hp
    rw [e] at this
    exact this
  have CK : Hid (∀ w, Calls Try.prog 70 #[.agg #[.complex .f64 (fi (P N).1) (fi (P N).2.1), .int .i64 (P N).2.2]] w (Mem (.int .i64 0) w)) := by
    refine Lib.hid fun w => ?_
    have := CheckRef_any (P N).2.2 (ok3_cp (P N)) (ok3_in cN).1 (ok3_in cN).2 w
    rw [ok3_ck cN] at this
    exact this
  have z0 : Hid (fi (S 0).1 = 0 ∧ fi (S 0).2.1 = 0 ∧ (S 0).2.2 = 0) := by rw [s0]; exact Lib.hid ⟨fi_nought, fi_nought, rfl⟩
  have v1 : IntKind.i64.wrap (2 * (K : Int)) = 2 * (K : Int) := IntWalk.i64_in _ (by constructor <;> omega)
  by_cases hl : (N : Int) - 1 ≤ 2 * (K : Int)
  · have hl' : decide ((N : Int) - 1 ≤ 2 * (K : Int)) = true := by simpa using hl
    exact ur_early (fS := fun i => fi (S i).1) (gS := fun i => fi (S i).2.1) (RS := fun i => (S i).2.2) (fU := fun i => fi (un3 (i : Int) N).1) (gU := fun i => fi (un3 (i : Int) N).2.1) (RU := fun i => (un3 (i : Int) N).2.2) (fP := fun i => fi (P i).1) (gP := fun i => fi (P i).2.1) (RP := fun i => (P i).2.2)
      (Lib.hid W0) v0 (Lib.hid W1) (Lib.hid rfl) (by omega) z0 HU HP HZ HK HB HT HO HC CK v1 hl' w
  · have hl' : decide ((N : Int) - 1 ≤ 2 * (K : Int)) = false := by simpa using hl
    unfold halfB at hh
    simp only [hl', Bool.false_or, Bool.and_eq_true, decide_eq_true_eq] at hh
    obtain ⟨q1, q2, q3, q4, q5⟩ := hh
    have v2 : IntKind.i64.wrap (2 * (N : Int)) = 2 * (N : Int) := IntWalk.i64_in _ (by constructor <;> omega)
    have HR : Hid (∀ w, Calls Try.prog 43 #[.agg #[.complex .f64 (fi (un3 (K : Int) N).1) (fi (un3 (K : Int) N).2.1), .int .i64 (un3 (K : Int) N).2.2]] w (Mem (balV (fi (root3 (un3 (K : Int) N)).1) (fi (root3 (un3 (K : Int) N)).2.1) (root3 (un3 (K : Int) N)).2.2 0) w)) := by
      refine Lib.hid fun w => ?_
      have := Root_any (un3 (K : Int) N).2.2 (ok3_cp (un3 (K : Int) N)) (ok3_in hu).1 (ok3_in hu).2 w
      rw [if_pos (ok3_ck hu)] at this
      unfold rootV at this
      rw [if_neg q1, if_neg q2] at this
      have e : resB (rtX (un3 (K : Int) N).1 (un3 (K : Int) N).2.1) (rtY (un3 (K : Int) N).1 (un3 (K : Int) N).2.1) (rtR (un3 (K : Int) N).1 (un3 (K : Int) N).2.1 (un3 (K : Int) N).2.2) = resB (root3 (un3 (K : Int) N)).1 (root3 (un3 (K : Int) N)).2.1 (root3 (un3 (K : Int) N)).2.2 := rfl
      rw [e, ok3_res q3] at this
      exact this
    have HH := Lib.hid fun w => unit3 q4 ⟨by omega, by omega⟩ (by omega) (by omega) w
    have HM : Hid (∀ w, Calls Try.prog 53 #[.agg #[.complex .f64 (fi (root3 (un3 (K : Int) N)).1) (fi (root3 (un3 (K : Int) N)).2.1), .int .i64 (root3 (un3 (K : Int) N)).2.2], .agg #[.complex .f64 (fi (un3 (K : Int) (2 * N)).1) (fi (un3 (K : Int) (2 * N)).2.1), .int .i64 (un3 (K : Int) (2 * N)).2.2]] w (Mem (.tuple #[.bool true, .int .i64 0]) w)) := by
      refine Lib.hid fun w => ?_
      have := Meets_any (root3 (un3 (K : Int) N)).2.2 (un3 (K : Int) (2 * N)).2.2 (ok3_cp (root3 (un3 (K : Int) N))) (ok3_in q3).1 (ok3_in q3).2 (ok3_cp (un3 (K : Int) (2 * N))) (ok3_in q4).1 (ok3_in q4).2 w
      rw [if_pos ⟨ok3_ck q3, ok3_ck q4⟩] at this
      have e : meetsB (root3 (un3 (K : Int) N)).1 (root3 (un3 (K : Int) N)).2.1 (root3 (un3 (K : Int) N)).2.2 (un3 (K : Int) (2 * N)).1 (un3 (K : Int) (2 * N)).2.1 (un3 (K : Int) (2 * N)).2.2 = true := q5
      rw [e] at this
      exact this
    exact ur_late (fS := fun i => fi (S i).1) (gS := fun i => fi (S i).2.1) (RS := fun i => (S i).2.2) (fU := fun i => fi (un3 (i : Int) N).1) (gU := fun i => fi (un3 (i : Int) N).2.1) (RU := fun i => (un3 (i : Int) N).2.2) (fP := fun i => fi (P i).1) (gP := fun i => fi (P i).2.1) (RP := fun i => (P i).2.2)
      (Lib.hid W0) v0 (Lib.hid W1) (Lib.hid rfl) (by omega) z0 HU HP HZ HK HB HT HO HC CK v1 hl' v2 HR HH HM w
end Go.Proofs.Ythkooiopiaakbaa
