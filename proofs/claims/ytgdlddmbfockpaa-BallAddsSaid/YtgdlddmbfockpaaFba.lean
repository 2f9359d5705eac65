/- Balls: their checks, sizes and roots. -/
import Derived.Test.YtgdlddmbfockpaaFrd
import Derived.Test.YtgdlddmbfockpaaFrwe
import Derived.Test.YtgdlddmbfockpaaFre
import Derived.Test.YtgdlddmbfockpaaGdw
namespace Go.Proofs.Ytgdlddmbfockpaa.Ev
set_option linter.unusedSimpArgs false
open Go Go.RowKit
set_option linter.unusedVariables false
set_option maxRecDepth 100000
open Go.Proofs.Ytgdlddmbfockpaa.Gm

/-- The float of a whole number, as a number. -/

def F (a : Int) : Int := ((FloatKind.f64.nearest a : Nat) : Int)

theorem F_nat (a : Int) : (F a).toNat = fi a := by unfold F; rw [Int.toNat_natCast]; rfl

theorem F_rp (a : Int) : Rp (F a).toNat a := by rw [F_nat]; exact Rp_fi a

theorem F_zero : F 0 = 0 := by decide +kernel

theorem wrapI {x : Int} (h : -9223372036854775808 ≤ x ∧ x ≤ 9223372036854775807) : IntKind.i64.wrap x = x := by rw [IntKind.wrap_i64]; omega

/-- A ball's result: the parts of its centre, its radius, its error. -/

structure Bq where

  x : Int

  y : Int

  r : Int

  e : Int

/-- What may be a ball. -/

def okB (x y r : Int) : Prop := ((-67108864) ≤ x ∧ x ≤ 67108864) ∧ ((-67108864) ≤ y ∧ y ≤ 67108864) ∧ r ≤ 67108864

instance okBd (x y r : Int) : Decidable (okB x y r) := by unfold okB; infer_instance

def bk (x y r : Int) : Bq := if okB x y r then ⟨x, y, r, 0⟩ else ⟨0, 0, 0, 8⟩

def be (e : Int) : Bq := ⟨0, 0, 0, e⟩

/-- A result of the program, of the reference. -/

structure BqF (q : Bq) (a b c d : Int) : Prop where

  ha : a = F q.x

  hb : b = F q.y

  hc : c = q.r

  hd : d = q.e

structure BqI (q : Bq) (a b c d : Int) : Prop where

  ha : a = q.x

  hb : b = q.y

  hc : c = q.r

  hd : d = q.e

theorem BqF.out {P : Program} {S : Sig} {V : Vs} {q : Bq} (h : ∃ a b c d : Int, BqF q a b c d ∧ Spec P S V [a, b, c, d] [] []) : Spec P S V [F q.x, F q.y, q.r, q.e] [] [] := by

  obtain ⟨a, b, c, d, ⟨rfl, rfl, rfl, rfl⟩, hs⟩ := h

  exact hs

theorem BqI.out {P : Program} {S : Sig} {V : Vs} {q : Bq} (h : ∃ a b c d : Int, BqI q a b c d ∧ Spec P S V [a, b, c, d] [] []) : Spec P S V [q.x, q.y, q.r, q.e] [] [] := by

  obtain ⟨a, b, c, d, ⟨rfl, rfl, rfl, rfl⟩, hs⟩ := h

  exact hs

theorem bk_ok {q : Bq} {x y r : Int} (h : okB x y r) (hq : q = bk x y r) : BqF q (F x) (F y) r 0 := by

  subst hq; unfold bk; rw [if_pos h]; exact ⟨rfl, rfl, rfl, rfl⟩

theorem bk_no {q : Bq} {x y r : Int} (h : ¬ okB x y r) (hq : q = bk x y r) : BqF q 0 0 0 8 := by

  subst hq; unfold bk; rw [if_neg h]; exact ⟨F_zero.symm, F_zero.symm, rfl, rfl⟩

/-- What the check of a result asks. -/

theorem bk_tree {q : Bq} {x y r : Int} (hq : q = bk x y r) : ((decide (((-67108864 : Int)) ≤ x) = true → ((decide ((x) ≤ (67108864 : Int)) = true → ((decide (((-67108864 : Int)) ≤ y) = true → ((decide ((y) ≤ (67108864 : Int)) = true → ((decide ((r) ≤ (67108864 : Int)) = true → BqF q (F x) (F y) r 0) ∧ (decide ((r) ≤ (67108864 : Int)) = false → BqF q 0 0 0 8))) ∧ (decide ((y) ≤ (67108864 : Int)) = false → BqF q 0 0 0 8))) ∧ (decide (((-67108864 : Int)) ≤ y) = false → BqF q 0 0 0 8))) ∧ (decide ((x) ≤ (67108864 : Int)) = false → BqF q 0 0 0 8))) ∧ (decide (((-67108864 : Int)) ≤ x) = false → BqF q 0 0 0 8)) := by

  simp only [decide_eq_true_eq, decide_eq_false_iff_not]

  refine ⟨fun h1 => ⟨fun h2 => ⟨fun h3 => ⟨fun h4 => ⟨fun h5 => bk_ok ⟨⟨h1, h2⟩, ⟨h3, h4⟩, h5⟩ hq, fun h => bk_no (fun g => h g.2.2) hq⟩, fun h => bk_no (fun g => h g.2.1.2) hq⟩, fun h => bk_no (fun g => h g.2.1.1) hq⟩, fun h => bk_no (fun g => h g.1.2) hq⟩, fun h => bk_no (fun g => h g.1.1) hq⟩

theorem bk_tree3 {q : Bq} {x y r : Int} (hq : q = bk x y r) (hx : (-67108864) ≤ x ∧ x ≤ 67108864) (hy : (-67108864) ≤ y ∧ y ≤ 67108864) : ((decide ((r) ≤ (67108864 : Int)) = true → BqF q (F x) (F y) r 0) ∧ (decide ((r) ≤ (67108864 : Int)) = false → BqF q 0 0 0 8)) := by

  simp only [decide_eq_true_eq, decide_eq_false_iff_not]

  exact ⟨fun h5 => bk_ok ⟨hx, hy, h5⟩ hq, fun h => bk_no (fun g => h g.2.2) hq⟩

theorem be_ok {q : Bq} {e : Int} (hq : q = be e) : BqF q 0 0 0 e := by

  subst hq; exact ⟨F_zero.symm, F_zero.symm, rfl, rfl⟩

theorem bki_ok {q : Bq} {x y r : Int} (h : okB x y r) (hq : q = bk x y r) : BqI q x y r 0 := by

  subst hq; unfold bk; rw [if_pos h]; exact ⟨rfl, rfl, rfl, rfl⟩

theorem bki_no {q : Bq} {x y r : Int} (h : ¬ okB x y r) (hq : q = bk x y r) : BqI q 0 0 0 8 := by

  subst hq; unfold bk; rw [if_neg h]; exact ⟨rfl, rfl, rfl, rfl⟩

theorem bei_ok {q : Bq} {e : Int} (hq : q = be e) : BqI q 0 0 0 e := by

  subst hq; exact ⟨rfl, rfl, rfl, rfl⟩

theorem be_e (e : Int) : (be e).e = e := rfl

/-- The errors of a ball of any floats; its parts. -/

def ckB (a b : Nat) (r : Int) : Int := fe (ckC a b 67108864) (if 0 ≤ r ∧ r ≤ 67108864 then 0 else 2)

def tw (a b : Nat) (r : Int) (c d : Nat) (s : Int) : Int := fe (ckB a b r) (ckB c d s)

def vI (a : Nat) : Int := (floatToIntVal .f64 a .i64).getD 0

theorem vI_rp {a : Nat} {X : Int} (h : Rp a X) (hx : InF X) : vI a = X := by unfold vI; rw [int_rp h hx]; rfl

/-- A right ball. -/

structure RB (a b : Nat) (r X Y : Int) : Prop where

  pa : Rp a X

  pb : Rp b Y

  hx : (-67108864) ≤ X ∧ X ≤ 67108864

  hy : (-67108864) ≤ Y ∧ Y ≤ 67108864

  hr : 0 ≤ r ∧ r ≤ 67108864

theorem ckB_rb {a b : Nat} {r : Int} (ha : U a) (hb : U b) (h : ckB a b r = 0) : RB a b r (vI a) (vI b) := by

  unfold ckB fe ckC at h

  cases wa : whB a <;> cases wb : whB b <;> cases ba : bigB a 67108864 <;> cases bb : bigB b 67108864 <;> simp [wa, wb, ba, bb] at h

  obtain ⟨s, m, e, ra⟩ := num_of ha wa

  obtain ⟨t, n, f, rb⟩ := num_of hb wb

  obtain ⟨X, x1, x2⟩ := ra.small (M := 67108864) (by omega) (by omega) wa ba

  obtain ⟨Y, y1, y2⟩ := rb.small (M := 67108864) (by omega) (by omega) wb bb

  rw [vI_rp x1 ⟨by omega, by omega⟩, vI_rp y1 ⟨by omega, by omega⟩]

  exact ⟨x1, y1, x2, y2, by omega⟩

theorem whB_rp {a : Nat} {X : Int} (h : Rp a X) (hx : InF X) : whB a = true := by

  obtain ⟨s, m, e, hn⟩ := rp_num h hx

  rw [← hn.trunc, show trB a = a from trunc_rp h hx, show Ieee.double.order a a = some (compare X X) from order_rp h h hx hx, cmp_eq]

  simp

theorem bigB_rp {a : Nat} {X M : Int} (h : Rp a X) (hx : InF X) (h0 : 0 ≤ M) (hM : M ≤ 9007199254740992) : bigB a M = decide (M < (X.natAbs : Int)) := by

  unfold bigB

  obtain ⟨h1, h2⟩ := hx

  rw [abs_rp h ⟨h1, h2⟩, show Ieee.double.order (fi (X.natAbs : Int)) (fi M) = some (compare (X.natAbs : Int) M) from order_rp (Rp_fi _) (Rp_fi _) ⟨by omega, by omega⟩ ⟨by omega, hM⟩, cmp_gt]

/-- The error of a ball with whole parts. -/

def ckW (X Y r : Int) : Int := if ((-67108864) ≤ X ∧ X ≤ 67108864) ∧ ((-67108864) ≤ Y ∧ Y ≤ 67108864) ∧ (0 ≤ r ∧ r ≤ 67108864) then 0 else 2

theorem ckB_rp {a b : Nat} {X Y r : Int} (h : Rp a X) (g : Rp b Y) (hx : InF X) (hy : InF Y) : ckB a b r = ckW X Y r := by

  unfold ckB ckC

  rw [whB_rp h hx, whB_rp g hy, bigB_rp h hx (by decide) (by decide), bigB_rp g hy (by decide) (by decide)]

  unfold ckW fe

  by_cases h1 : 67108864 < (X.natAbs : Int)

  · rw [decide_eq_true h1, if_neg (c := ((-67108864) ≤ X ∧ X ≤ 67108864) ∧ _) (by omega)]; rfl

  · by_cases h2 : 67108864 < (Y.natAbs : Int)

    · rw [decide_eq_false h1, decide_eq_true h2, if_neg (c := ((-67108864) ≤ X ∧ X ≤ 67108864) ∧ _) (by omega)]; rfl

    · rw [decide_eq_false h1, decide_eq_false h2]

      by_cases h3 : 0 ≤ r ∧ r ≤ 67108864

      · rw [if_pos h3, if_pos (c := ((-67108864) ≤ X ∧ X ≤ 67108864) ∧ _) (by omega)]; rfl

      · rw [if_neg h3, if_neg (c := ((-67108864) ≤ X ∧ X ≤ 67108864) ∧ _) (by omega)]; rfl

theorem ckW_rb {X Y r : Int} (h : ckW X Y r = 0) : RB (fi X) (fi Y) r X Y := by

  unfold ckW at h

  split at h

  · rename_i g; exact ⟨Rp_fi X, Rp_fi Y, g.1, g.2.1, g.2.2⟩

  · cases h

/-- Sizes. -/

def rtu (n : Int) : Int := if rti n * rti n < n then rti n + 1 else rti n

def dn (X Y : Int) : Int := rti (X * X + Y * Y)

def upw (X Y : Int) : Int := rtu (X * X + Y * Y)

theorem rti_all {n : Int} (h : 0 ≤ n) : 0 ≤ rti n ∧ rti n * rti n ≤ n ∧ n < rti n * rti n + 2 * rti n + 1 := by

  obtain ⟨m, rfl⟩ := Int.eq_ofNat_of_zero_le h

  have := rt_int m

  unfold rti

  rw [Int.toNat_natCast]

  omega

theorem rti_uniq {n r : Int} (h0 : 0 ≤ r) (h1 : r * r ≤ n) (h2 : n < r * r + 2 * r + 1) : rti n = r := by

  have hr : 0 ≤ r * r := Int.mul_nonneg h0 h0

  obtain ⟨k0, k1, k2⟩ := rti_all (n := n) (by omega)

  generalize rti n = t at *

  rcases Int.lt_trichotomy t r with h | h | h

  · have : (t + 1) * (t + 1) ≤ r * r := Int.mul_le_mul (by omega) (by omega) (by omega) (by omega)

    rw [Int.add_mul, Int.mul_add] at this; omega

  · exact h

  · have : (r + 1) * (r + 1) ≤ t * t := Int.mul_le_mul (by omega) (by omega) (by omega) (by omega)

    rw [Int.add_mul, Int.mul_add] at this; omega

theorem rti_le {n m : Int} (h : 0 ≤ n) (hm : 0 ≤ m) (hn : n < (m + 1) * (m + 1)) : rti n ≤ m := by

  obtain ⟨k0, k1, k2⟩ := rti_all h

  generalize rti n = t at *

  rcases Int.lt_or_le m t with h | h

  · have : (m + 1) * (m + 1) ≤ t * t := Int.mul_le_mul (by omega) (by omega) (by omega) (by omega)

    omega

  · exact h

theorem rtu_all {n : Int} (h : 0 ≤ n) : 0 ≤ rtu n ∧ n ≤ rtu n * rtu n ∧ rti n ≤ rtu n ∧ rtu n ≤ rti n + 1 ∧ (0 < rtu n → (rtu n - 1) * (rtu n - 1) < n) := by

  obtain ⟨k0, k1, k2⟩ := rti_all h

  unfold rtu

  split

  · refine ⟨by omega, ?_, by omega, by omega, fun _ => ?_⟩

    · rw [Int.add_mul, Int.mul_add]; omega

    · rw [show rti n + 1 - 1 = rti n by omega]; assumption

  · refine ⟨k0, by omega, by omega, by omega, fun h9 => ?_⟩

    have : (rti n - 1) * (rti n - 1) = rti n * rti n - 2 * rti n + 1 := by rw [Int.sub_mul, Int.mul_sub]; omega

    omega

theorem rtu_le {n m : Int} (h : 0 ≤ n) (hm : 0 ≤ m) (hn : n ≤ m * m) : rtu n ≤ m := by

  obtain ⟨k0, k1, k2, k3, k4⟩ := rtu_all h

  generalize rtu n = t at *

  rcases Int.lt_or_le m t with h | h

  · have : m * m ≤ (t - 1) * (t - 1) := Int.mul_le_mul (by omega) (by omega) (by omega) (by omega)

    have := k4 (by omega)

    omega

  · exact h

theorem mb {n a N A : Int} (hn : -N ≤ n ∧ n ≤ N) (ha : -A ≤ a ∧ a ≤ A) : -(N * A) ≤ n * a ∧ n * a ≤ N * A := by

  have h : (n * a).natAbs ≤ N.natAbs * A.natAbs := by

    rw [Int.natAbs_mul]; exact Nat.mul_le_mul (by omega) (by omega)

  have e : ((N.natAbs * A.natAbs : Nat) : Int) = N * A := by rw [Int.natCast_mul]; congr 1 <;> omega

  omega

theorem sqn (x : Int) : 0 ≤ x * x := by

  rcases Int.le_total 0 x with h | h

  · exact Int.mul_nonneg h h

  · have := Int.mul_nonneg (a := -x) (b := -x) (by omega) (by omega); rwa [Int.neg_mul_neg] at this

theorem sq_bd {X M : Int} (h : -M ≤ X ∧ X ≤ M) : 0 ≤ X * X ∧ X * X ≤ M * M := ⟨sqn X, (mb h h).2⟩

theorem sz_bd {X Y : Int} (hx : (-67108864) ≤ X ∧ X ≤ 67108864) (hy : (-67108864) ≤ Y ∧ Y ≤ 67108864) : (0 ≤ X * X + Y * Y ∧ X * X + Y * Y ≤ 9007199254740992) ∧ (0 ≤ dn X Y ∧ dn X Y ≤ 94906265) ∧ (0 ≤ upw X Y ∧ upw X Y ≤ 94906266) := by

  have h1 := sq_bd hx

  have h2 := sq_bd hy

  have h3 : 0 ≤ X * X + Y * Y := by omega

  refine ⟨by omega, ⟨(rti_all h3).1, rti_le h3 (by omega) (by omega)⟩, (rtu_all h3).1, rtu_le h3 (by omega) (by omega)⟩

def whole_RootUp_s : Sig := ⟨88, ⟨1, 0, 0⟩, ⟨1, 0, 0⟩, [(.int .i64 (.var 0))], [], (.int .i64 (.var 1)), []⟩
def ball_CheckBall_s : Sig := ⟨94, ⟨3, 0, 0⟩, ⟨1, 0, 0⟩, [(.agg [(.complex .f64 (.var 0) (.var 1)), (.int .i64 (.var 2))])], [], (.int .i64 (.var 3)), []⟩
def etalonref01_CheckBall_s : Sig := ⟨53, ⟨3, 0, 0⟩, ⟨1, 0, 0⟩, [(.agg [(.complex .f64 (.var 0) (.var 1)), (.int .i64 (.var 2))])], [], (.int .i64 (.var 3)), []⟩
def etalonbase_Root_s : Sig := ⟨100, ⟨1, 0, 0⟩, ⟨1, 0, 0⟩, [(.int .i64 (.var 0))], [], (.int .i64 (.var 1)), []⟩
def etalonref01_RootUp_s : Sig := ⟨99, ⟨1, 0, 0⟩, ⟨1, 0, 0⟩, [(.int .i64 (.var 0))], [], (.int .i64 (.var 1)), []⟩

def ru_t : Tr :=
  (.call whole_RootDown_s ⟨[(.var 0)], [], []⟩ ⟨[(.var 0), (.var 1)], [], []⟩ ⟨87, [(.int .i64 (.var 0))], [], [], (.int .i64 (.var 1)), []⟩
  (.rng 1 0 268435456 (.ite (.icmp .leq (.var 0) (.bin .mulI (.var 1) (.var 1)))
  (.ret ⟨[(.var 1)], [], []⟩ [])
  (.ret ⟨[(.bin .addI (.var 1) (.lit 1))], [], []⟩ []))))
theorem ru {x0 : Int} (r0 : 0 ≤ x0 ∧ x0 ≤ 72057594037927935) {R : Int → Prop}
  (H : (∃ v1 : Int, Spec Try.prog whole_RootDown_s ⟨[x0], [], []⟩ [v1] [] [] ∧
   ((0 ≤ (v1 : Int) ∧ (v1 : Int) ≤ 268435456) ∧ ((decide ((x0 : Int) ≤ (v1 * v1)) = true → R (v1)) ∧
   (decide ((x0 : Int) ≤ (v1 * v1)) = false → R ((v1 + 1))))))) :
    ∃ v0 : Int, R v0 ∧ Spec Try.prog whole_RootUp_s ⟨[x0], [], []⟩ [v0] [] [] :=
  Eq.mp (by kernel_rfl) (exV_of (K := fun d => app3 whole_RootUp_s.out R d ∧ Spec Try.prog whole_RootUp_s ⟨[x0], [], []⟩ d.1 d.2.1 d.2.2) (tree_at mixed names S1_ok (S := S1 Try.prog) (lf := 100000) (d := 60) whole_RootUp_s ru_t { ivs := [(0, 0, 72057594037927935)], aivs := [] } ⟨[x0], [], []⟩ rfl (by kernel_rfl) (by kernel_rfl) (by kernel_rfl) ⟨(fc r0 fz), fz, fz, fz⟩ (R := fun d => app3 whole_RootUp_s.out R d) (Eq.mp (by kernel_rfl) H)))

def cbw_t : Tr :=
  (.call whole_CheckParts_s ⟨[(.var 0), (.var 1), (.toF .f64 (.lit 67108864))], [], []⟩ ⟨[(.var 0), (.var 1), (.toF .f64 (.lit 67108864)), (.var 3)], [], []⟩ ⟨110, [(.complex .f64 (.var 0) (.var 1)), (.float .f64 (.toF .f64 (.lit 67108864)))], [], [none], (.int .i64 (.var 3)), []⟩
  (.ite (.icmp .eql (.var 3) (.lit 0))
  (.ite (.icmp .leq (.lit 0) (.var 2))
   (.ite (.icmp .leq (.var 2) (.lit 67108864))
    (.ret ⟨[(.lit 0)], [], []⟩ [])
    (.ret ⟨[(.lit 2)], [], []⟩ []))
   (.ret ⟨[(.lit 2)], [], []⟩ []))
  (.ret ⟨[(.var 3)], [], []⟩ [])))
theorem cbw {x0 x1 x2 : Int} (r2 : (-9223372036854775808) ≤ x2 ∧ x2 ≤ 9223372036854775807) {R : Int → Prop}
  (H : (∃ v3 : Int, Spec Try.prog whole_CheckParts_s ⟨[x0, x1, ((FloatKind.f64.nearest 67108864 : Nat) : Int)], [], []⟩ [v3] [] [] ∧
   ((((v3 : Int) == 0) = true → ((decide ((0 : Int) ≤ x2) = true → ((decide ((x2 : Int) ≤ 67108864) = true → R (0)) ∧
     (decide ((x2 : Int) ≤ 67108864) = false → R (2)))) ∧
    (decide ((0 : Int) ≤ x2) = false → R (2)))) ∧
   (((v3 : Int) == 0) = false → R (v3))))) :
    ∃ v0 : Int, R v0 ∧ Spec Try.prog ball_CheckBall_s ⟨[x0, x1, x2], [], []⟩ [v0] [] [] :=
  Eq.mp (by kernel_rfl) (exV_of (K := fun d => app3 ball_CheckBall_s.out R d ∧ Spec Try.prog ball_CheckBall_s ⟨[x0, x1, x2], [], []⟩ d.1 d.2.1 d.2.2) (tree_at mixed names S1_ok (S := S1 Try.prog) (lf := 100000) (d := 60) ball_CheckBall_s cbw_t { ivs := [(2, (-9223372036854775808), 9223372036854775807)], aivs := [] } ⟨[x0, x1, x2], [], []⟩ rfl (by kernel_rfl) (by kernel_rfl) (by kernel_rfl) ⟨(fc r2 fz), fz, fz, fz⟩ (R := fun d => app3 ball_CheckBall_s.out R d) (Eq.mp (by kernel_rfl) H)))

def rcb_t : Tr :=
  (.call etalonbase_IsWhole_s ⟨[(.var 0)], [], []⟩ ⟨[(.var 0)], [(.var 0)], []⟩ ⟨95, [(.float .f64 (.var 0))], [], [none], (.bool (.var 0)), []⟩
  (.ite (.var 0)
  (.call etalonbase_IsWhole_s ⟨[(.var 1)], [], []⟩ ⟨[(.var 1)], [(.var 1)], []⟩ ⟨95, [(.float .f64 (.var 1))], [], [none], (.bool (.var 1)), []⟩
   (.ite (.var 1)
   (.ite (.fcmp .f64 .lss (.var 0) (.toF .f64 (.lit (-67108864))))
    (.ret ⟨[(.lit 2)], [], []⟩ [])
    (.ite (.fcmp .f64 .gtr (.var 0) (.toF .f64 (.lit 67108864)))
     (.ret ⟨[(.lit 2)], [], []⟩ [])
     (.ite (.fcmp .f64 .lss (.var 1) (.toF .f64 (.lit (-67108864))))
      (.ret ⟨[(.lit 2)], [], []⟩ [])
      (.ite (.fcmp .f64 .gtr (.var 1) (.toF .f64 (.lit 67108864)))
       (.ret ⟨[(.lit 2)], [], []⟩ [])
       (.ite (.icmp .leq (.lit 0) (.var 2))
        (.ite (.icmp .leq (.var 2) (.lit 67108864))
         (.ret ⟨[(.lit 0)], [], []⟩ [])
         (.ret ⟨[(.lit 2)], [], []⟩ []))
        (.ret ⟨[(.lit 2)], [], []⟩ []))))))
   (.ret ⟨[(.lit 27)], [], []⟩ [])))
  (.ret ⟨[(.lit 27)], [], []⟩ [])))
theorem rcb {x0 x1 x2 : Int} (r2 : (-9223372036854775808) ≤ x2 ∧ x2 ≤ 9223372036854775807) {R : Int → Prop}
  (H : (∃ u0 : Bool, Spec Try.prog etalonbase_IsWhole_s ⟨[x0], [], []⟩ [] [u0] [] ∧
   ((u0 = true → (∃ u1 : Bool, Spec Try.prog etalonbase_IsWhole_s ⟨[x1], [], []⟩ [] [u1] [] ∧
    ((u1 = true → ((COp.flo .f64 .lss (x0 : Int).toNat (((FloatKind.f64.nearest (-67108864) : Nat) : Int) : Int).toNat = true → R (2)) ∧
     (COp.flo .f64 .lss (x0 : Int).toNat (((FloatKind.f64.nearest (-67108864) : Nat) : Int) : Int).toNat = false → ((COp.flo .f64 .gtr (x0 : Int).toNat (((FloatKind.f64.nearest 67108864 : Nat) : Int) : Int).toNat = true → R (2)) ∧
      (COp.flo .f64 .gtr (x0 : Int).toNat (((FloatKind.f64.nearest 67108864 : Nat) : Int) : Int).toNat = false → ((COp.flo .f64 .lss (x1 : Int).toNat (((FloatKind.f64.nearest (-67108864) : Nat) : Int) : Int).toNat = true → R (2)) ∧
       (COp.flo .f64 .lss (x1 : Int).toNat (((FloatKind.f64.nearest (-67108864) : Nat) : Int) : Int).toNat = false → ((COp.flo .f64 .gtr (x1 : Int).toNat (((FloatKind.f64.nearest 67108864 : Nat) : Int) : Int).toNat = true → R (2)) ∧
        (COp.flo .f64 .gtr (x1 : Int).toNat (((FloatKind.f64.nearest 67108864 : Nat) : Int) : Int).toNat = false → ((decide ((0 : Int) ≤ x2) = true → ((decide ((x2 : Int) ≤ 67108864) = true → R (0)) ∧
          (decide ((x2 : Int) ≤ 67108864) = false → R (2)))) ∧
         (decide ((0 : Int) ≤ x2) = false → R (2)))))))))))) ∧
    (u1 = false → R (27))))) ∧
   (u0 = false → R (27))))) :
    ∃ v0 : Int, R v0 ∧ Spec Try.prog etalonref01_CheckBall_s ⟨[x0, x1, x2], [], []⟩ [v0] [] [] :=
  Eq.mp (by kernel_rfl) (exV_of (K := fun d => app3 etalonref01_CheckBall_s.out R d ∧ Spec Try.prog etalonref01_CheckBall_s ⟨[x0, x1, x2], [], []⟩ d.1 d.2.1 d.2.2) (tree_at mixed names S1_ok (S := S1 Try.prog) (lf := 100000) (d := 60) etalonref01_CheckBall_s rcb_t { ivs := [(2, (-9223372036854775808), 9223372036854775807)], aivs := [] } ⟨[x0, x1, x2], [], []⟩ rfl (by kernel_rfl) (by kernel_rfl) (by kernel_rfl) ⟨(fc r2 fz), fz, fz, fz⟩ (R := fun d => app3 etalonref01_CheckBall_s.out R d) (Eq.mp (by kernel_rfl) H)))

def rro_t : Tr :=
  (.loop ⟨100, [0, 0, 1, 1], [(.int .i64 (.var 0)), (.tuple []), (.int .i64 (.lit 0)), (.int .i64 (.lit 0)), (.int .i64 (.lit 1073741824)), (.tuple []), (.tuple []), (.tuple []), (.tuple []), (.tuple []), (.tuple []), (.tuple []), (.tuple []), (.tuple []), (.tuple []), (.tuple []), (.tuple []), (.tuple []), (.tuple []), (.tuple []), (.tuple []), (.tuple [])], [], [], [(.int .i64 (.var 0)), (.tuple []), (.int .i64 (.lit 0)), (.int .i64 (.var 2)), (.int .i64 (.var 1)), (.any 5), (.any 6), (.any 7), (.any 8), (.any 9), (.any 10), (.any 11), (.any 12), (.any 13), (.any 14), (.any 15), (.any 16), (.any 17), (.any 18), (.any 19), (.any 20), (.tuple [])], [], [], ⟨2, 0, 0⟩, ⟨[(.lit 1073741824), (.lit 0)], [], []⟩, []⟩
  (.rng 1 0 1073741824 (.rng 2 0 1073741824 (.ite (.icmp .leq (.var 1) (.lit 0))
   (.out 0 ⟨[(.var 2)], [], []⟩ [])
   (.ite (.icmp .leq (.bin .mulI (.bin .addI (.var 2) (.var 1)) (.bin .addI (.var 2) (.var 1))) (.var 0))
    (.next ⟨[(.bin .quoI (.var 1) (.lit 2)), (.bin .addI (.var 2) (.var 1))], [], []⟩ [])
    (.next ⟨[(.bin .quoI (.var 1) (.lit 2)), (.var 2)], [], []⟩ [])))))
  (.ex ((.exit 0), [(.int .i64 (.var 0)), (.tuple []), (.int .i64 (.lit 0)), (.int .i64 (.var 1)), (.any 4), (.any 5), (.any 6), (.any 7), (.any 8), (.any 9), (.any 10), (.any 11), (.any 12), (.any 13), (.any 14), (.any 15), (.any 16), (.any 17), (.any 18), (.any 19), (.any 20), (.tuple [])], [], []) ⟨1, 0, 0⟩
  (.rng 1 (-9223372036854775808) 9223372036854775807 (.ret ⟨[(.var 1)], [], []⟩ []))
  .nil))
theorem rro {x0 : Int} (r0 : 0 ≤ x0 ∧ x0 ≤ 1152921504606846975) {R : Int → Prop}
  (H : (∃ (I1 : Int → Int → Prop) (rk1 : Int → Int → Nat), I1 (1073741824) (0) ∧
   (∀ x1 : Int, ∀ x2 : Int, I1 x1 x2 → ((0 ≤ (x1 : Int) ∧ (x1 : Int) ≤ 1073741824) ∧ ((0 ≤ (x2 : Int) ∧ (x2 : Int) ≤ 1073741824) ∧ ((decide ((x1 : Int) ≤ 0) = true → (((-9223372036854775808) ≤ ((x2) : Int) ∧ ((x2) : Int) ≤ 9223372036854775807) ∧ R ((x2)))) ∧
    (decide ((x1 : Int) ≤ 0) = false → ((decide ((((x2 + x1) * (x2 + x1)) : Int) ≤ x0) = true → (I1 (((x1 : Int).tdiv 2)) ((x2 + x1)) ∧ rk1 (((x1 : Int).tdiv 2)) ((x2 + x1)) < rk1 x1 x2)) ∧
     (decide ((((x2 + x1) * (x2 + x1)) : Int) ≤ x0) = false → (I1 (((x1 : Int).tdiv 2)) (x2) ∧ rk1 (((x1 : Int).tdiv 2)) (x2) < rk1 x1 x2)))))))))) :
    ∃ v0 : Int, R v0 ∧ Spec Try.prog etalonbase_Root_s ⟨[x0], [], []⟩ [v0] [] [] :=
  Eq.mp (by kernel_rfl) (exV_of (K := fun d => app3 etalonbase_Root_s.out R d ∧ Spec Try.prog etalonbase_Root_s ⟨[x0], [], []⟩ d.1 d.2.1 d.2.2) (tree_at mixed names S1_ok (S := S1 Try.prog) (lf := 100000) (d := 60) etalonbase_Root_s rro_t { ivs := [(0, 0, 1152921504606846975)], aivs := [] } ⟨[x0], [], []⟩ rfl (by kernel_rfl) (by kernel_rfl) (by kernel_rfl) ⟨(fc r0 fz), fz, fz, fz⟩ (R := fun d => app3 etalonbase_Root_s.out R d) (Eq.mp (by kernel_rfl) H)))

def rru_t : Tr :=
  (.call etalonbase_Root_s ⟨[(.var 0)], [], []⟩ ⟨[(.var 0), (.var 1)], [], []⟩ ⟨100, [(.int .i64 (.var 0))], [], [], (.int .i64 (.var 1)), []⟩
  (.rng 1 0 268435456 (.ite (.icmp .leq (.var 0) (.bin .mulI (.var 1) (.var 1)))
  (.ret ⟨[(.var 1)], [], []⟩ [])
  (.ret ⟨[(.bin .addI (.var 1) (.lit 1))], [], []⟩ []))))
theorem rru {x0 : Int} (r0 : 0 ≤ x0 ∧ x0 ≤ 72057594037927935) {R : Int → Prop}
  (H : (∃ v1 : Int, Spec Try.prog etalonbase_Root_s ⟨[x0], [], []⟩ [v1] [] [] ∧
   ((0 ≤ (v1 : Int) ∧ (v1 : Int) ≤ 268435456) ∧ ((decide ((x0 : Int) ≤ (v1 * v1)) = true → R (v1)) ∧
   (decide ((x0 : Int) ≤ (v1 * v1)) = false → R ((v1 + 1))))))) :
    ∃ v0 : Int, R v0 ∧ Spec Try.prog etalonref01_RootUp_s ⟨[x0], [], []⟩ [v0] [] [] :=
  Eq.mp (by kernel_rfl) (exV_of (K := fun d => app3 etalonref01_RootUp_s.out R d ∧ Spec Try.prog etalonref01_RootUp_s ⟨[x0], [], []⟩ d.1 d.2.1 d.2.2) (tree_at mixed names S1_ok (S := S1 Try.prog) (lf := 100000) (d := 60) etalonref01_RootUp_s rru_t { ivs := [(0, 0, 72057594037927935)], aivs := [] } ⟨[x0], [], []⟩ rfl (by kernel_rfl) (by kernel_rfl) (by kernel_rfl) ⟨(fc r0 fz), fz, fz, fz⟩ (R := fun d => app3 etalonref01_RootUp_s.out R d) (Eq.mp (by kernel_rfl) H)))

theorem rootUp_s {n : Int} (h : 0 ≤ n) (h' : n < 72057594037927936) : Spec Try.prog whole_RootUp_s ⟨[n], [], []⟩ [rtu n] [] [] := by

  obtain ⟨r0, r1, r2, r3⟩ := rti_spec n h h'

  obtain ⟨v, rfl, hs⟩ := ru (x0 := n) (by omega) (R := (· = rtu n)) ⟨_, rootDown_s h h', by omega, fun h9 => by simp only [decide_eq_true_eq, decide_eq_false_iff_not] at h9; unfold rtu; rw [if_neg (by omega)], fun h9 => by simp only [decide_eq_true_eq, decide_eq_false_iff_not] at h9; unfold rtu; rw [if_pos (by omega)]⟩

  exact hs

/-- Where the reference's root is under way. -/

def RtI (n b r : Int) : Prop := 0 ≤ r ∧ r * r ≤ n ∧ ((b = 0 ∧ n < (r + 1) * (r + 1)) ∨ ∃ k : Nat, k ≤ 30 ∧ b = 2 ^ k ∧ n < (r + 2 * b) * (r + 2 * b))

theorem RtI.bd {n b r : Int} (h : RtI n b r) (h' : n < 1152921504606846976) : (0 ≤ b ∧ b ≤ 1073741824) ∧ 0 ≤ r ∧ r ≤ 1073741824 := by

  obtain ⟨h0, h1, h2⟩ := h

  have hr : r ≤ 1073741824 := by

    rcases Int.lt_or_le 1073741824 r with g | g

    · have : 1073741824 * 1073741824 ≤ r * r := Int.mul_le_mul (by omega) (by omega) (by omega) (by omega)

      omega

    · exact g

  rcases h2 with ⟨rfl, _⟩ | ⟨k, hk, rfl, _⟩

  · omega

  · have p := pow_pos k

    have : (2 : Int) ^ k ≤ 2 ^ 30 := by exact_mod_cast Nat.pow_le_pow_right (n := 2) (by decide) hk

    omega

theorem RtI.step {n b r : Int} (h : RtI n b r) (hb : ¬ b ≤ 0) : (b.tdiv 2).toNat < b.toNat ∧ ((r + b) * (r + b) ≤ n → RtI n (b.tdiv 2) (r + b)) ∧ (¬ (r + b) * (r + b) ≤ n → RtI n (b.tdiv 2) r) := by

  obtain ⟨h0, h1, h2⟩ := h

  rcases h2 with ⟨rfl, _⟩ | ⟨k, hk, e, h3⟩

  · omega

  have e2 : b.tdiv 2 = b / 2 := Int.tdiv_eq_ediv_of_nonneg (by omega)

  rw [e2]

  cases k with

  | zero =>

    have e1 : b = 1 := by rw [e]; rfl

    subst e1

    refine ⟨by decide, fun g => ⟨by omega, g, .inl ⟨rfl, ?_⟩⟩, fun g => ⟨h0, h1, .inl ⟨rfl, by omega⟩⟩⟩

    rw [show r + 1 + 1 = r + 2 * 1 by omega]; exact h3

  | succ k =>

    have e1 : b = 2 * 2 ^ k := by rw [e, Int.pow_succ]; omega

    have e3 : b / 2 = 2 ^ k := by omega

    have p := pow_pos k

    refine ⟨by omega, fun g => ⟨by omega, g, .inr ⟨k, by omega, e3, ?_⟩⟩, fun g => ⟨h0, h1, .inr ⟨k, by omega, e3, ?_⟩⟩⟩

    · rw [show r + b + 2 * (b / 2) = r + 2 * b by omega]; exact h3

    · rw [show r + 2 * (b / 2) = r + b by omega]; omega

theorem rroot_s {n : Int} (h : 0 ≤ n) (h' : n < 1152921504606846976) : Spec Try.prog etalonbase_Root_s ⟨[n], [], []⟩ [rti n] [] [] := by

  obtain ⟨v, rfl, hs⟩ := rro (x0 := n) (by omega) (R := (· = rti n)) ⟨fun b r => RtI n b r, fun b _ => b.toNat, ⟨by omega, by omega, .inr ⟨30, by omega, rfl, by omega⟩⟩, fun b r hI => by

    have hb := hI.bd h'

    refine ⟨hb.1, hb.2, fun h9 => ⟨by omega, ?_⟩, fun h9 => ?_⟩

    · obtain ⟨h0, h1, h2⟩ := hI

      rcases h2 with ⟨_, h2⟩ | ⟨k, hk, e, _⟩

      · symm; refine rti_uniq h0 h1 ?_; rw [Int.add_mul, Int.mul_add] at h2; omega

      · have p := pow_pos k

        simp only [decide_eq_true_eq] at h9; omega

    · obtain ⟨s1, s2, s3⟩ := hI.step (by simpa using h9)

      exact ⟨fun g => ⟨s2 (by simpa using g), s1⟩, fun g => ⟨s3 (by simpa using g), s1⟩⟩⟩

  exact hs

theorem rrootUp_s {n : Int} (h : 0 ≤ n) (h' : n < 72057594037927936) : Spec Try.prog etalonref01_RootUp_s ⟨[n], [], []⟩ [rtu n] [] [] := by

  obtain ⟨r0, r1, r2, r3⟩ := rti_spec n h h'

  obtain ⟨v, rfl, hs⟩ := rru (x0 := n) (by omega) (R := (· = rtu n)) ⟨_, rroot_s h (by omega), by omega, fun h9 => by simp only [decide_eq_true_eq, decide_eq_false_iff_not] at h9; unfold rtu; rw [if_neg (by omega)], fun h9 => by simp only [decide_eq_true_eq, decide_eq_false_iff_not] at h9; unfold rtu; rw [if_pos (by omega)]⟩

  exact hs

theorem base_r9 {b : Nat} (hb : U b) : Spec Try.prog etalonbase_IsWhole_s ⟨[(b : Int)], [], []⟩ [] [whB b] [] := Spec.of rfl rfl rfl rfl fun w => base_raw hb w

theorem out1 {P : Program} {S : Sig} {V : Vs} {x : Int} (h : ∃ a : Int, a = x ∧ Spec P S V [a] [] []) : Spec P S V [x] [] [] := by

  obtain ⟨a, rfl, hs⟩ := h

  exact hs

theorem checkBall_p {a b : Nat} {r : Int} (ha : U a) (hb : U b) (hr : I64 r) : Spec Try.prog ball_CheckBall_s ⟨[(a : Int), (b : Int), r], [], []⟩ [ckB a b r] [] [] := by

  refine out1 (cbw (x0 := (a : Int)) (x1 := (b : Int)) hr (R := (· = ckB a b r)) ⟨_, parts_rs (M := 67108864) ha hb, fun h0 => ⟨fun h1 => ⟨fun h2 => ?_, fun h2 => ?_⟩, fun h1 => ?_⟩, fun h0 => ?_⟩)

  all_goals simp only [beq_iff_eq, beq_eq_false_iff_ne, ne_eq, decide_eq_true_eq, decide_eq_false_iff_not] at h0

  all_goals unfold ckB fe

  · simp only [decide_eq_true_eq] at h1 h2; rw [if_pos h0, if_pos ⟨h1, h2⟩]

  · simp only [decide_eq_true_eq, decide_eq_false_iff_not] at h1 h2; rw [if_pos h0, if_neg (by omega)]

  · simp only [decide_eq_true_eq, decide_eq_false_iff_not] at h1; rw [if_pos h0, if_neg (by omega)]

  · rw [if_neg h0]

theorem checkBall_r {a b : Nat} {r : Int} (ha : U a) (hb : U b) (hr : I64 r) : Spec Try.prog etalonref01_CheckBall_s ⟨[(a : Int), (b : Int), r], [], []⟩ [ckB a b r] [] [] := by

  have key : ∀ c : Nat, whB c = true → U c → bigB c 67108864 = (COp.flo .f64 .lss c (FloatKind.f64.nearest (-67108864)) || COp.flo .f64 .gtr c (FloatKind.f64.nearest 67108864)) := fun c wc hc => by

    obtain ⟨s, m, e, ra⟩ := num_of hc wc

    have ta := ra.big_two (M := 67108864) (by omega) (by omega)

    rw [← ta, Bool.or_comm]; rfl

  refine out1 (rcb (x0 := (a : Int)) (x1 := (b : Int)) hr (R := (· = ckB a b r)) ⟨_, base_r9 ha, fun h0 => ⟨_, base_r9 hb, fun h1 => ?_, fun h1 => by simp [ckB, ckC, h1, fe]⟩, fun h0 => by simp [ckB, ckC, h0, fe]⟩)

  have k0 := key a h0 ha

  have k1 := key b h1 hb

  simp only [Int.toNat_natCast]

  unfold ckB ckC

  rw [h0, h1, k0, k1]

  cases COp.flo .f64 .lss a (FloatKind.f64.nearest (-67108864)) <;> cases COp.flo .f64 .gtr a (FloatKind.f64.nearest 67108864) <;> cases COp.flo .f64 .lss b (FloatKind.f64.nearest (-67108864)) <;> cases COp.flo .f64 .gtr b (FloatKind.f64.nearest 67108864) <;> simp [fe] <;> omega

end Go.Proofs.Ytgdlddmbfockpaa.Ev
