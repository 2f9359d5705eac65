/- The contract of halved. -/
import Derived.Test.YthkooiopiaakbaaDira
namespace Go.Proofs.Ythkooiopiaakbaa
open Go.RowKit Go.Lib
attribute [local go_sem] run_store_float run_store_complex
set_option linter.unusedVariables false

theorem hv_same (k : Nat) (p q : Int × Int) (m : Int) : hv k m p q m = p := by
  cases k with
  | zero => rfl
  | succ k => unfold hv; rw [if_pos rfl]

theorem hv_up {k : Nat} {lo : Int} {p q : Int × Int} {m : Int} (h : ¬ lo = m) (g : lo + 2 ^ k ≤ m) : hv (k + 1) lo p q m = hv k (lo + 2 ^ k) (bis p q) q m := by
  conv => lhs; unfold hv
  rw [if_neg h, if_pos g]
theorem hv_down {k : Nat} {lo : Int} {p q : Int × Int} {m : Int} (h : ¬ lo = m) (g : ¬ lo + 2 ^ k ≤ m) : hv (k + 1) lo p q m = hv k lo p (bis p q) m := by
  conv => lhs; unfold hv
  rw [if_neg h, if_neg g]

/-- What a round keeps. -/
structure Hv (k : Nat) (lo hi : Int) (p q : Int × Int) (m : Int) (D : Int × Int) : Prop where
  wide : hi = lo + 2 ^ k
  left : Ei p
  right : Ei q
  dir : hv k lo p q m = D

set_option maxHeartbeats 400000 in
theorem halved_in {D : Int × Int} {a1 a2 a3 : Nat} (m : Int) (h0 : 0 ≤ m) (h1 : m < 524288) (HV : Hid (Hv 19 0 524288 (67108864, 0) (47453132, 47453132) m D)) (HF : Hid (a1 = fi 67108864 ∧ a2 = fi 0 ∧ a3 = fi 47453132))
    (C1 : Hid (∀ w, Calls Try.prog 74 #[.int .i64 67108864, .int .i64 0] w fun e w' => e = .returned (.complex .f64 a1 a2) ∧ w = w'))
    (C2 : Hid (∀ w, Calls Try.prog 74 #[.int .i64 47453132, .int .i64 47453132] w fun e w' => e = .returned (.complex .f64 a3 a3) ∧ w = w')) (w : World) :
    Calls Try.prog 158 #[.int .i64 m] w (Mem (.complex .f64 (fi D.1) (fi D.2)) w) := by
  have g0 : (m == 524288) = false := by simp; omega
  go_enter Try.func158, Try.ntmps158
  go_wp2_with fail
  refine (C1.out _).mono ?_
  rintro e w' ⟨rfl, rfl⟩
  go_wp2_with fail
  refine (C2.out _).mono ?_
  rintro e w' ⟨rfl, rfl⟩
  go_wp2_with fail
  go_loopw [3, 4, 5, 6] (fun lov hiv fv tv wr => ∃ (k : Nat) (lo hi : Int) (p q : Int × Int) (pa pb qa qb : Nat), lov = .int .i64 lo ∧ hiv = .int .i64 hi ∧ fv = .complex .f64 pa pb ∧ tv = .complex .f64 qa qb ∧ 0 ≤ lo ∧ lo ≤ m ∧ m < hi ∧ hi ≤ 524288 ∧ Hid (Hv k lo hi p q m D) ∧ Hid (pa = fi p.1 ∧ pb = fi p.2 ∧ qa = fi q.1 ∧ qb = fi q.2) ∧ Below w.heap.size w wr) (fun lov hiv _ _ _ => (RowKit.intOf hiv - RowKit.intOf lov).toNat)
  case atStart => exact ⟨19, 0, 524288, _, _, _, _, _, _, rfl, rfl, rfl, rfl, by decide, h0, h1, by decide, HV, Lib.hid ⟨HF.out.1, HF.out.2.1, HF.out.2.2, HF.out.2.2⟩, Below.refl _ _⟩
  case round =>
    obtain ⟨k, lo, hi, p, q, pa, pb, qa, qb, rfl, rfl, rfl, rfl, l0, l1, l2, l3, hv', hf, hbw⟩ := hrel
    clear HV C1 C2 HF
    by_cases e : lo = m
    · subst e
      have hE : (lo != lo) = false := by simp
      have HP := Lib.hid (show p = D from by have := hv'.out.dir; rwa [hv_same] at this)
      go_wp2_with fail
      go_ret
      refine ⟨?_, hbw⟩
      rw [← HP.out, hf.out.1, hf.out.2.1]
      rfl
    · have hE : (lo != m) = true := by simpa using e
      have hE' : (lo == m) = false := by simpa using e
      obtain ⟨j, rfl⟩ : ∃ j, k = j + 1 := by
        cases k with
        | zero => have := hv'.out.wide; exfalso; apply e; rw [show (2 : Int) ^ 0 = 1 from rfl] at this; omega
        | succ j => exact ⟨j, rfl⟩
      obtain ⟨P, hP⟩ : ∃ P : Int, P = 2 ^ j := ⟨_, rfl⟩
      have hP1 : 1 ≤ P := by rw [hP]; exact_mod_cast Nat.one_le_two_pow
      have hw := hv'.out.wide
      rw [Int.pow_succ, ← hP] at hw
      have e2 : (lo + hi) / 2 = lo + P := by omega
      have e3 : lo + P < hi := by omega
      have e4 : lo < lo + P := by omega
      have HB := fun w => bisector_any (p := p) (q := q) (⟨Rp_fi p.1, Rp_fi p.2⟩) (⟨Rp_fi q.1, Rp_fi q.2⟩) hv'.out.left hv'.out.right w
      rw [← hf.out.1, ← hf.out.2.1, ← hf.out.2.2.1, ← hf.out.2.2.2] at HB
      obtain ⟨bx, hbx⟩ : ∃ b, b = fi (bisX p q) := ⟨_, rfl⟩
      obtain ⟨by', hby⟩ : ∃ b, b = fi (bisY p q) := ⟨_, rfl⟩
      rw [← hbx, ← hby] at HB
      have HX := Lib.hid hbx
      have HY := Lib.hid hby
      clear hbx hby
      replace HB := Lib.hid HB
      have HW := Lib.hid hw
      have HPP := Lib.hid hP
      have HE := Lib.hid e
      clear hw hP e
      have z0 := hbw.size
      by_cases hm : lo + P ≤ m
      · have hm' : decide (lo + P ≤ m) = true := by simpa using hm
        have HN := Lib.hid (show Hv j (lo + P) hi (bis p q) q m D from ⟨by rw [← HPP.out]; have := HW.out; omega, (bis_bd hv'.out.left hv'.out.right).2.2, hv'.out.right, by
          have := hv'.out.dir
          rwa [hv_up HE.out (by rw [← HPP.out]; exact hm), ← HPP.out] at this⟩)
        go_wp2_with (go_at_call 161; refine (HB.out _).mono ?_; rintro e w2 ⟨rfl, hb⟩)
        go_roundw
        case rel => exact ⟨j, lo + P, hi, bis p q, q, bx, by', qa, qb, rfl, rfl, rfl, rfl, by omega, hm, l2, l3, HN, Lib.hid ⟨HX.out, HY.out, hf.out.2.2.1, hf.out.2.2.2⟩, hbw.trans (hb.mono z0)⟩
        case measure => simp [RowKit.intOf]; omega
      · have hm' : decide (lo + P ≤ m) = false := by simpa using hm
        have HN := Lib.hid (show Hv j lo (lo + P) p (bis p q) m D from ⟨by rw [← HPP.out], hv'.out.left, (bis_bd hv'.out.left hv'.out.right).2.2, by
          have := hv'.out.dir
          rwa [hv_down HE.out (by rw [← HPP.out]; exact hm)] at this⟩)
        go_wp2_with (go_at_call 161; refine (HB.out _).mono ?_; rintro e w2 ⟨rfl, hb⟩)
        go_roundw
        case rel => exact ⟨j, lo, lo + P, p, bis p q, pa, pb, bx, by', rfl, rfl, rfl, rfl, l0, l1, by omega, by omega, HN, Lib.hid ⟨hf.out.1, hf.out.2.1, HX.out, HY.out⟩, hbw.trans (hb.mono z0)⟩
        case measure => simp [RowKit.intOf]; omega

/-- What halved gives. -/
theorem halved_any (m : Int) (h0 : 0 ≤ m) (h1 : m ≤ 524288) (w : World) : Calls Try.prog 158 #[.int .i64 m] w (Mem (.complex .f64 (fi (dir8 m).1) (fi (dir8 m).2)) w) := by
  have C1 := Lib.hid (fun w => centreAt_any 67108864 0 w)
  have C2 := Lib.hid (fun w => centreAt_any 47453132 47453132 w)
  unfold dir8
  by_cases e : m = 524288
  · rw [if_pos e]
    subst e
    generalize fi 67108864 = a1 at *
    generalize fi 0 = a2 at *
    show Calls Try.prog 158 #[.int .i64 524288] w (Mem (.complex .f64 (fi 47453132) (fi 47453132)) w)
    generalize fi 47453132 = a3 at *
    go_enter Try.func158, Try.ntmps158
    go_wp2_with fail
    refine (C1.out _).mono ?_
    rintro e w' ⟨rfl, rfl⟩
    go_wp2_with fail
    refine (C2.out _).mono ?_
    rintro e w' ⟨rfl, rfl⟩
    go_wp2_with fail
    go_ret
    exact ⟨rfl, Below.refl _ _⟩
  · rw [if_neg e]
    obtain ⟨D, hD⟩ : ∃ D, hv 19 0 (67108864, 0) (47453132, 47453132) m = D := ⟨_, rfl⟩
    rw [hD]
    exact halved_in m h0 (by omega) (Lib.hid ⟨by decide, ei_lo, ei_hi, hD⟩) (Lib.hid ⟨rfl, rfl, rfl⟩) C1 C2 w
end Go.Proofs.Ythkooiopiaakbaa
