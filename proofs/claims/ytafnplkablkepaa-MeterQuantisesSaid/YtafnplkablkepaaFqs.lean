/- Quotients, rounded down and up, of the program and of the reference. -/
import Derived.Test.YtafnplkablkepaaFvw1
import Derived.Test.YtafnplkablkepaaBita
namespace Go.Proofs.Ytafnplkablkepaa.Ev
set_option linter.unusedSimpArgs false
open Go Go.RowKit
set_option linter.unusedVariables false
set_option maxRecDepth 100000
def whole_Lower_s : Sig := ⟨89, ⟨3, 0, 0⟩, ⟨1, 0, 0⟩, [(.int .i64 (.var 0)), (.int .i64 (.var 1)), (.int .i64 (.var 2))], [], (.int .i64 (.var 3)), []⟩
def whole_Upper_s : Sig := ⟨90, ⟨3, 0, 0⟩, ⟨1, 0, 0⟩, [(.int .i64 (.var 0)), (.int .i64 (.var 1)), (.int .i64 (.var 2))], [], (.int .i64 (.var 3)), []⟩
def etalonbase_Floor_s : Sig := ⟨45, ⟨2, 0, 0⟩, ⟨1, 0, 0⟩, [(.int .i64 (.var 0)), (.int .i64 (.var 1))], [], (.int .i64 (.var 2)), []⟩
def etalonbase_Ceil_s : Sig := ⟨24, ⟨2, 0, 0⟩, ⟨1, 0, 0⟩, [(.int .i64 (.var 0)), (.int .i64 (.var 1))], [], (.int .i64 (.var 2)), []⟩

def fl_t : Tr :=
  (.ite (.icmp .leq (.lit 0) (.bin .remK (.var 0) (.var 1)))
  (.ret ⟨[(.bin .quoI (.var 0) (.var 1))], [], []⟩ [])
  (.ret ⟨[(.bin .subI (.bin .quoI (.var 0) (.var 1)) (.lit 1))], [], []⟩ []))
theorem fl {x0 x1 : Int} (r0 : (-9000000000000000000) ≤ x0 ∧ x0 ≤ 9000000000000000000) (r1 : 1 ≤ x1 ∧ x1 ≤ 9000000000000000000) {R : Int → Prop}
  (H : ((decide ((0 : Int) ≤ ((x0 : Int).tmod x1)) = true → R (((x0 : Int).tdiv x1))) ∧
   (decide ((0 : Int) ≤ ((x0 : Int).tmod x1)) = false → R ((((x0 : Int).tdiv x1) - 1))))) :
    ∃ v0 : Int, R v0 ∧ Spec Try.prog etalonbase_Floor_s ⟨[x0, x1], [], []⟩ [v0] [] [] :=
  Eq.mp (by kernel_rfl) (exV_of (K := fun d => app3 etalonbase_Floor_s.out R d ∧ Spec Try.prog etalonbase_Floor_s ⟨[x0, x1], [], []⟩ d.1 d.2.1 d.2.2) (tree_at mixed names S1_ok (S := S1 Try.prog) (lf := 100000) (d := 60) etalonbase_Floor_s fl_t { ivs := [(0, (-9000000000000000000), 9000000000000000000), (1, 1, 9000000000000000000)], aivs := [] } ⟨[x0, x1], [], []⟩ rfl (by kernel_rfl) (by kernel_rfl) (by kernel_rfl) ⟨(fc r0 (fc r1 fz)), fz, fz, fz⟩ (R := fun d => app3 etalonbase_Floor_s.out R d) (Eq.mp (by kernel_rfl) H)))

def ce_t : Tr :=
  (.call etalonbase_Floor_s ⟨[(.bin .subI (.lit 0) (.var 0)), (.var 1)], [], []⟩ ⟨[(.bin .subI (.lit 0) (.var 0)), (.var 1), (.var 2)], [], []⟩ ⟨45, [(.int .i64 (.bin .subI (.lit 0) (.var 0))), (.int .i64 (.var 1))], [], [], (.int .i64 (.var 2)), []⟩
  (.rng 2 (-4000000000000000000) 4000000000000000000 (.ret ⟨[(.bin .subI (.lit 0) (.var 2))], [], []⟩ [])))
theorem ce {x0 x1 : Int} (r0 : (-4000000000000000000) ≤ x0 ∧ x0 ≤ 4000000000000000000) (r1 : 1 ≤ x1 ∧ x1 ≤ 9000000000000000000) {R : Int → Prop}
  (H : (∃ v2 : Int, Spec Try.prog etalonbase_Floor_s ⟨[(0 - x0), x1], [], []⟩ [v2] [] [] ∧
   (((-4000000000000000000) ≤ v2 ∧ v2 ≤ 4000000000000000000) ∧ R ((0 - v2))))) :
    ∃ v0 : Int, R v0 ∧ Spec Try.prog etalonbase_Ceil_s ⟨[x0, x1], [], []⟩ [v0] [] [] :=
  Eq.mp (by kernel_rfl) (exV_of (K := fun d => app3 etalonbase_Ceil_s.out R d ∧ Spec Try.prog etalonbase_Ceil_s ⟨[x0, x1], [], []⟩ d.1 d.2.1 d.2.2) (tree_at mixed names S1_ok (S := S1 Try.prog) (lf := 100000) (d := 60) etalonbase_Ceil_s ce_t { ivs := [(0, (-4000000000000000000), 4000000000000000000), (1, 1, 9000000000000000000)], aivs := [] } ⟨[x0, x1], [], []⟩ rfl (by kernel_rfl) (by kernel_rfl) (by kernel_rfl) ⟨(fc r0 (fc r1 fz)), fz, fz, fz⟩ (R := fun d => app3 etalonbase_Ceil_s.out R d) (Eq.mp (by kernel_rfl) H)))

theorem Spec.of {P : Program} {F : Sig} {V : Vs} {xs : List Int} {bs : List Bool} {rs : List (Int → Int)} (h0 : F.H = []) (hn : F.Hn = []) (hi : insideL 0 F.args = true) (ho : F.r.inside 0 = true)

    (h : ∀ w, Calls P F.f (denL (envV V) σ0 F.args).toArray w fun e w' => e = .returned (F.r.den (envV (V.add xs bs rs)) σ0) ∧ Below w.heap.size w w') : Spec P F V xs bs rs := by

  intro σ w hr

  have ea : denL (envV V) σ F.args = denL (envV V) σ0 F.args := denL_agree (n := 0) (fun b hb => by omega) F.args hi

  rw [ea]

  refine (h w).mono fun e w' ⟨he, hb⟩ => ⟨σ, ?_, ?_⟩

  · rw [h0, hn]

    exact ⟨fun _ _ => ⟨rfl, rfl, rfl, rfl⟩, Nat.le_refl _, HRel.none, fun b h1 h2 => by simp at h2, hb.os, hb.tape, hb.output, hb.size, Kd.same fun k hk => hb.block k hk, fun k hk _ => hb.block k hk, fun _ _ _ => rfl⟩

  · rw [he, SV.den_agree (n := 0) (σ := σ0) (σ' := σ) (fun b hb => by omega) _ ho]

theorem Below.drewN (w : World) (n : Nat) : Below w.heap.size w (w.drewN n) := ⟨rfl, rfl, rfl, Nat.le_refl _, fun _ _ => rfl⟩

theorem lower_s {x y d : Int} (h : DvIn x y d) : Spec Try.prog whole_Lower_s ⟨[x, y, d], [], []⟩ [x * y / d] [] [] :=

  Spec.of rfl rfl rfl rfl fun w => (lower_any x y d (Lib.hid h) w).mono fun e w' ⟨he, n, hw⟩ => ⟨he, hw ▸ Below.drewN w n⟩

theorem upper_s {x y d : Int} (h : DvIn x y d) : Spec Try.prog whole_Upper_s ⟨[x, y, d], [], []⟩ [cdiv (x * y) d] [] [] :=

  Spec.of rfl rfl rfl rfl fun w => (upper_any x y d (Lib.hid h) w).mono fun e w' ⟨he, n, hw⟩ => ⟨he, hw ▸ Below.drewN w n⟩

theorem tdiv_floor {n d q r : Int} (hd : 0 < d) (hr : r = n - d * q) (h0 : 0 ≤ r) (h1 : r < d) : q = n / d :=

  (((Int.ediv_emod_unique hd).2 ⟨by omega, h0, h1⟩).1).symm

theorem floor_s {n d : Int} (h0 : -9000000000000000000 ≤ n ∧ n ≤ 9000000000000000000) (h1 : 1 ≤ d ∧ d ≤ 9000000000000000000) : Spec Try.prog etalonbase_Floor_s ⟨[n, d], [], []⟩ [n / d] [] [] := by

  have e1 := Int.mul_tdiv_add_tmod n d

  have e2 := Int.tmod_lt_of_pos n (b := d) (by omega)

  have e3 := Int.lt_tmod_of_pos n (b := d) (by omega)

  have H1 : decide ((0 : Int) ≤ n.tmod d) = true → n.tdiv d = n / d := fun h => by

    simp only [decide_eq_true_eq] at h

    exact tdiv_floor (r := n.tmod d) (by omega) (by omega) h e2

  have H2 : decide ((0 : Int) ≤ n.tmod d) = false → n.tdiv d - 1 = n / d := fun h => by

    simp only [decide_eq_false_iff_not] at h

    refine tdiv_floor (r := n.tmod d + d) (by omega) ?_ (by omega) (by omega)

    rw [Int.mul_sub]; omega

  obtain ⟨v, rfl, hs⟩ := fl h0 h1 (R := (· = n / d)) ⟨H1, H2⟩

  exact hs

theorem ediv_abs' {n d M : Int} (hd : 0 < d) (h0 : -M ≤ n) (h1 : n ≤ M) (hM : 0 ≤ M) : -M ≤ n / d ∧ n / d ≤ M := by

  constructor

  · rw [Int.le_ediv_iff_mul_le hd]

    have : M * 1 ≤ M * d := Int.mul_le_mul_of_nonneg_left (by omega) hM

    rw [Int.neg_mul]; omega

  · have : n / d < M + 1 := by

      rw [Int.ediv_lt_iff_lt_mul hd]

      have : (M + 1) * 1 ≤ (M + 1) * d := Int.mul_le_mul_of_nonneg_left (by omega) (by omega)

      omega

    omega

theorem ceil_s {n d : Int} (h0 : -4000000000000000000 ≤ n ∧ n ≤ 4000000000000000000) (h1 : 1 ≤ d ∧ d ≤ 9000000000000000000) : Spec Try.prog etalonbase_Ceil_s ⟨[n, d], [], []⟩ [cdiv n d] [] [] := by

  have hb := ediv_abs' (n := 0 - n) (d := d) (M := 4000000000000000000) (by omega) (by omega) (by omega) (by decide)

  obtain ⟨v, rfl, hs⟩ := ce h0 h1 (R := (· = cdiv n d)) ⟨(0 - n) / d, floor_s (by omega) h1, hb, by unfold cdiv; rw [Int.zero_sub, Int.zero_sub]⟩

  exact hs

theorem cdiv_spec' (n : Int) {d : Int} (hd : 0 < d) : n ≤ d * cdiv n d ∧ d * (cdiv n d - 1) < n := by

  have e1 := Int.mul_ediv_add_emod (-n) d

  have e2 := Int.emod_lt_of_pos (-n) hd

  have e3 := Int.emod_nonneg (-n) (show d ≠ 0 by omega)

  unfold cdiv

  constructor

  · rw [Int.mul_neg]; omega

  · rw [Int.mul_sub, Int.mul_neg]; omega

end Go.Proofs.Ytafnplkablkepaa.Ev
