/- TopAlgebra: all ways of calculating meet. -/
import Derived.Test.YtgdhpgjfebinhaaFbh
namespace Go.Proofs.Ytgdhpgjfebinhaa.Ev
set_option linter.unusedSimpArgs false
open Go Go.RowKit
set_option linter.unusedVariables false
set_option maxRecDepth 100000
def ball_Meets_s : Sig := ⟨53, ⟨6, 0, 0⟩, ⟨1, 1, 0⟩, [(.agg [(.complex .f64 (.var 0) (.var 1)), (.int .i64 (.var 2))]), (.agg [(.complex .f64 (.var 3) (.var 4)), (.int .i64 (.var 5))])], [], (.tuple [(.bool (.var 0)), (.int .i64 (.var 6))]), []⟩
def etalontop_balled_s : Sig := ⟨58, ⟨0, 0, 0⟩, ⟨0, 1, 0⟩, [], [], (.bool (.var 0)), []⟩
def etalontop_meets_s : Sig := ⟨60, ⟨8, 0, 0⟩, ⟨0, 1, 0⟩, [(.agg [(.complex .f64 (.var 0) (.var 1)), (.int .i64 (.var 2))]), (.agg [(.complex .f64 (.var 3) (.var 4)), (.int .i64 (.var 5))]), (.int .i64 (.var 6)), (.int .i64 (.var 7))], [], (.bool (.var 0)), []⟩
def _etalontop_Three__balls_s : Sig := ⟨59, ⟨9, 0, 0⟩, ⟨9, 1, 0⟩, [(.agg [(.int .i64 (.var 0)), (.int .i64 (.var 1)), (.int .i64 (.var 2)), (.int .i64 (.var 3)), (.int .i64 (.var 4)), (.int .i64 (.var 5)), (.int .i64 (.var 6)), (.int .i64 (.var 7)), (.int .i64 (.var 8))])], [], (.tuple [(.agg [(.complex .f64 (.var 9) (.var 10)), (.int .i64 (.var 11)), (.complex .f64 (.var 12) (.var 13)), (.int .i64 (.var 14)), (.complex .f64 (.var 15) (.var 16)), (.int .i64 (.var 17))]), (.bool (.var 0))]), []⟩
def etalontop_TopAlgebra_s : Sig := ⟨14, ⟨9, 0, 0⟩, ⟨0, 1, 0⟩, [(.agg [(.int .i64 (.var 0)), (.int .i64 (.var 1)), (.int .i64 (.var 2)), (.int .i64 (.var 3)), (.int .i64 (.var 4)), (.int .i64 (.var 5)), (.int .i64 (.var 6)), (.int .i64 (.var 7)), (.int .i64 (.var 8))])], [], (.bool (.var 0)), []⟩

def tbd_t : Tr :=
  (.ret ⟨[], [(.lit true)], []⟩ [])
theorem tbd {R : Bool → Prop}
  (H : R (true)) :
    ∃ u0 : Bool, R u0 ∧ Spec Try.prog etalontop_balled_s ⟨[], [], []⟩ [] [u0] [] :=
  Eq.mp (by kernel_rfl) (exV_of (K := fun d => app3 etalontop_balled_s.out R d ∧ Spec Try.prog etalontop_balled_s ⟨[], [], []⟩ d.1 d.2.1 d.2.2) (tree_at mixed names S1_ok (S := S1 Try.prog) (lf := 100000) (d := 60) etalontop_balled_s tbd_t { ivs := [], aivs := [] } ⟨[], [], []⟩ rfl (by kernel_rfl) (by kernel_rfl) (by kernel_rfl) ⟨fz, fz, fz, fz⟩ (R := fun d => app3 etalontop_balled_s.out R d) (Eq.mp (by kernel_rfl) H)))

def mez_t : Tr :=
  (.whole 0 67108864 (.rng 6 (-67108864) 67108864 (.whole 1 67108864 (.rng 7 (-67108864) 67108864 (.whole 3 67108864 (.rng 8 (-67108864) 67108864 (.whole 4 67108864 (.rng 9 (-67108864) 67108864 (.ret ⟨[(.lit 0)], [(.icmp .leq (.bin .addI (.bin .mulI (.bin .subI (.var 6) (.var 8)) (.bin .subI (.var 6) (.var 8))) (.bin .mulI (.bin .subI (.var 7) (.var 9)) (.bin .subI (.var 7) (.var 9)))) (.bin .mulI (.bin .addI (.var 2) (.var 5)) (.bin .addI (.var 2) (.var 5))))], []⟩ [])))))))))
theorem mez {x0 x1 x2 x3 x4 x5 : Int} (r2 : 0 ≤ x2 ∧ x2 ≤ 67108864) (r5 : 0 ≤ x5 ∧ x5 ≤ 67108864) {R : Int → Bool → Prop}
  (H : (∃ v6 : Int, (Rp (x0 : Int).toNat v6 ∧ v6.natAbs ≤ 67108864) ∧ (((-67108864) ≤ (v6 : Int) ∧ (v6 : Int) ≤ 67108864) ∧ (∃ v7 : Int, (Rp (x1 : Int).toNat v7 ∧ v7.natAbs ≤ 67108864) ∧ (((-67108864) ≤ (v7 : Int) ∧ (v7 : Int) ≤ 67108864) ∧ (∃ v8 : Int, (Rp (x3 : Int).toNat v8 ∧ v8.natAbs ≤ 67108864) ∧ (((-67108864) ≤ (v8 : Int) ∧ (v8 : Int) ≤ 67108864) ∧ (∃ v9 : Int, (Rp (x4 : Int).toNat v9 ∧ v9.natAbs ≤ 67108864) ∧ (((-67108864) ≤ (v9 : Int) ∧ (v9 : Int) ≤ 67108864) ∧ R (0) (decide (((((v6 - v8) * (v6 - v8)) + ((v7 - v9) * (v7 - v9))) : Int) ≤ ((x2 + x5) * (x2 + x5))))))))))))) :
    ∃ v0 : Int, ∃ u0 : Bool, R v0 u0 ∧ Spec Try.prog ball_Meets_s ⟨[x0, x1, x2, x3, x4, x5], [], []⟩ [v0] [u0] [] :=
  Eq.mp (by kernel_rfl) (exV_of (K := fun d => app3 ball_Meets_s.out R d ∧ Spec Try.prog ball_Meets_s ⟨[x0, x1, x2, x3, x4, x5], [], []⟩ d.1 d.2.1 d.2.2) (tree_at mixed names S1_ok (S := S1 Try.prog) (lf := 100000) (d := 60) ball_Meets_s mez_t { ivs := [(2, 0, 67108864), (5, 0, 67108864)], aivs := [] } ⟨[x0, x1, x2, x3, x4, x5], [], []⟩ rfl (by kernel_rfl) (by kernel_rfl) (by kernel_rfl) ⟨(fc r2 (fc r5 fz)), fz, fz, fz⟩ (R := fun d => app3 ball_Meets_s.out R d) (Eq.mp (by kernel_rfl) H)))

def tme_t : Tr :=
  (.ite (.icmp .eql (.var 6) (.lit 0))
  (.ite (.icmp .eql (.var 7) (.lit 0))
   (.call ball_Meets_s ⟨[(.var 0), (.var 1), (.var 2), (.var 3), (.var 4), (.var 5)], [], []⟩ ⟨[(.var 0), (.var 1), (.var 2), (.var 3), (.var 4), (.var 5), (.var 8)], [(.var 0)], []⟩ ⟨53, [(.agg [(.complex .f64 (.var 0) (.var 1)), (.int .i64 (.var 2))]), (.agg [(.complex .f64 (.var 3) (.var 4)), (.int .i64 (.var 5))])], [], [none, none], (.tuple [(.bool (.var 0)), (.int .i64 (.var 8))]), []⟩
    (.ite (.icmp .eql (.var 8) (.lit 0))
    (.ret ⟨[], [(.var 0)], []⟩ [])
    (.ret ⟨[], [(.lit false)], []⟩ [])))
   (.ite (.icmp .eql (.var 7) (.lit 8))
    (.ret ⟨[], [(.lit true)], []⟩ [])
    (.ret ⟨[], [(.icmp .eql (.var 7) (.lit 9))], []⟩ [])))
  (.ite (.icmp .eql (.var 6) (.lit 8))
   (.ite (.icmp .eql (.var 7) (.lit 0))
    (.ret ⟨[], [(.lit true)], []⟩ [])
    (.ite (.icmp .eql (.var 7) (.lit 8))
     (.ret ⟨[], [(.lit true)], []⟩ [])
     (.ret ⟨[], [(.icmp .eql (.var 7) (.lit 9))], []⟩ [])))
   (.ite (.icmp .eql (.var 6) (.lit 9))
    (.ite (.icmp .eql (.var 7) (.lit 0))
     (.ret ⟨[], [(.lit true)], []⟩ [])
     (.ite (.icmp .eql (.var 7) (.lit 8))
      (.ret ⟨[], [(.lit true)], []⟩ [])
      (.ret ⟨[], [(.icmp .eql (.var 7) (.lit 9))], []⟩ [])))
    (.ret ⟨[], [(.lit false)], []⟩ []))))
theorem tme {x0 x1 x2 x3 x4 x5 x6 x7 : Int} (r2 : (-9223372036854775808) ≤ x2 ∧ x2 ≤ 9223372036854775807) (r5 : (-9223372036854775808) ≤ x5 ∧ x5 ≤ 9223372036854775807) (r6 : (-9223372036854775808) ≤ x6 ∧ x6 ≤ 9223372036854775807) (r7 : (-9223372036854775808) ≤ x7 ∧ x7 ≤ 9223372036854775807) {R : Bool → Prop}
  (H : ((((x6 : Int) == 0) = true → ((((x7 : Int) == 0) = true → (∃ v8 : Int, ∃ u0 : Bool, Spec Try.prog ball_Meets_s ⟨[x0, x1, x2, x3, x4, x5], [], []⟩ [v8] [u0] [] ∧
     ((((v8 : Int) == 0) = true → R (u0)) ∧
     (((v8 : Int) == 0) = false → R (false))))) ∧
    (((x7 : Int) == 0) = false → ((((x7 : Int) == 8) = true → R (true)) ∧
     (((x7 : Int) == 8) = false → R (((x7 : Int) == 9))))))) ∧
   (((x6 : Int) == 0) = false → ((((x6 : Int) == 8) = true → ((((x7 : Int) == 0) = true → R (true)) ∧
     (((x7 : Int) == 0) = false → ((((x7 : Int) == 8) = true → R (true)) ∧
      (((x7 : Int) == 8) = false → R (((x7 : Int) == 9))))))) ∧
    (((x6 : Int) == 8) = false → ((((x6 : Int) == 9) = true → ((((x7 : Int) == 0) = true → R (true)) ∧
      (((x7 : Int) == 0) = false → ((((x7 : Int) == 8) = true → R (true)) ∧
       (((x7 : Int) == 8) = false → R (((x7 : Int) == 9))))))) ∧
     (((x6 : Int) == 9) = false → R (false)))))))) :
    ∃ u0 : Bool, R u0 ∧ Spec Try.prog etalontop_meets_s ⟨[x0, x1, x2, x3, x4, x5, x6, x7], [], []⟩ [] [u0] [] :=
  Eq.mp (by kernel_rfl) (exV_of (K := fun d => app3 etalontop_meets_s.out R d ∧ Spec Try.prog etalontop_meets_s ⟨[x0, x1, x2, x3, x4, x5, x6, x7], [], []⟩ d.1 d.2.1 d.2.2) (tree_at mixed names S1_ok (S := S1 Try.prog) (lf := 100000) (d := 60) etalontop_meets_s tme_t { ivs := [(2, (-9223372036854775808), 9223372036854775807), (5, (-9223372036854775808), 9223372036854775807), (6, (-9223372036854775808), 9223372036854775807), (7, (-9223372036854775808), 9223372036854775807)], aivs := [] } ⟨[x0, x1, x2, x3, x4, x5, x6, x7], [], []⟩ rfl (by kernel_rfl) (by kernel_rfl) (by kernel_rfl) ⟨(fc r2 (fc r5 (fc r6 (fc r7 fz)))), fz, fz, fz⟩ (R := fun d => app3 etalontop_meets_s.out R d) (Eq.mp (by kernel_rfl) H)))

def thb_t : Tr :=
  (.ite (.icmp .leq (.lit (-4194304)) (.var 0))
  (.ite (.icmp .leq (.var 0) (.lit 4194304))
   (.ite (.icmp .leq (.lit (-4194304)) (.var 1))
    (.ite (.icmp .leq (.var 1) (.lit 4194304))
     (.ite (.icmp .leq (.lit 0) (.var 2))
      (.ite (.icmp .leq (.var 2) (.lit 1000))
       (.ite (.icmp .leq (.lit (-4194304)) (.var 3))
        (.ite (.icmp .leq (.var 3) (.lit 4194304))
         (.ite (.icmp .leq (.lit (-4194304)) (.var 4))
          (.ite (.icmp .leq (.var 4) (.lit 4194304))
           (.ite (.icmp .leq (.lit 0) (.var 5))
            (.ite (.icmp .leq (.var 5) (.lit 1000))
             (.ite (.icmp .leq (.lit (-4194304)) (.var 6))
              (.ite (.icmp .leq (.var 6) (.lit 4194304))
               (.ite (.icmp .leq (.lit (-4194304)) (.var 7))
                (.ite (.icmp .leq (.var 7) (.lit 4194304))
                 (.ite (.icmp .leq (.lit 0) (.var 8))
                  (.ite (.icmp .leq (.var 8) (.lit 1000))
                   (.ret ⟨[(.toF .f64 (.var 0)), (.toF .f64 (.var 1)), (.var 2), (.toF .f64 (.var 3)), (.toF .f64 (.var 4)), (.var 5), (.toF .f64 (.var 6)), (.toF .f64 (.var 7)), (.var 8)], [(.lit true)], []⟩ [])
                   (.ret ⟨[(.toF .f64 (.var 0)), (.toF .f64 (.var 1)), (.var 2), (.toF .f64 (.var 3)), (.toF .f64 (.var 4)), (.var 5), (.lit 0), (.lit 0), (.lit 0)], [(.lit false)], []⟩ []))
                  (.ret ⟨[(.toF .f64 (.var 0)), (.toF .f64 (.var 1)), (.var 2), (.toF .f64 (.var 3)), (.toF .f64 (.var 4)), (.var 5), (.lit 0), (.lit 0), (.lit 0)], [(.lit false)], []⟩ []))
                 (.ret ⟨[(.toF .f64 (.var 0)), (.toF .f64 (.var 1)), (.var 2), (.toF .f64 (.var 3)), (.toF .f64 (.var 4)), (.var 5), (.lit 0), (.lit 0), (.lit 0)], [(.lit false)], []⟩ []))
                (.ret ⟨[(.toF .f64 (.var 0)), (.toF .f64 (.var 1)), (.var 2), (.toF .f64 (.var 3)), (.toF .f64 (.var 4)), (.var 5), (.lit 0), (.lit 0), (.lit 0)], [(.lit false)], []⟩ []))
               (.ret ⟨[(.toF .f64 (.var 0)), (.toF .f64 (.var 1)), (.var 2), (.toF .f64 (.var 3)), (.toF .f64 (.var 4)), (.var 5), (.lit 0), (.lit 0), (.lit 0)], [(.lit false)], []⟩ []))
              (.ret ⟨[(.toF .f64 (.var 0)), (.toF .f64 (.var 1)), (.var 2), (.toF .f64 (.var 3)), (.toF .f64 (.var 4)), (.var 5), (.lit 0), (.lit 0), (.lit 0)], [(.lit false)], []⟩ []))
             (.ret ⟨[(.toF .f64 (.var 0)), (.toF .f64 (.var 1)), (.var 2), (.lit 0), (.lit 0), (.lit 0), (.lit 0), (.lit 0), (.lit 0)], [(.lit false)], []⟩ []))
            (.ret ⟨[(.toF .f64 (.var 0)), (.toF .f64 (.var 1)), (.var 2), (.lit 0), (.lit 0), (.lit 0), (.lit 0), (.lit 0), (.lit 0)], [(.lit false)], []⟩ []))
           (.ret ⟨[(.toF .f64 (.var 0)), (.toF .f64 (.var 1)), (.var 2), (.lit 0), (.lit 0), (.lit 0), (.lit 0), (.lit 0), (.lit 0)], [(.lit false)], []⟩ []))
          (.ret ⟨[(.toF .f64 (.var 0)), (.toF .f64 (.var 1)), (.var 2), (.lit 0), (.lit 0), (.lit 0), (.lit 0), (.lit 0), (.lit 0)], [(.lit false)], []⟩ []))
         (.ret ⟨[(.toF .f64 (.var 0)), (.toF .f64 (.var 1)), (.var 2), (.lit 0), (.lit 0), (.lit 0), (.lit 0), (.lit 0), (.lit 0)], [(.lit false)], []⟩ []))
        (.ret ⟨[(.toF .f64 (.var 0)), (.toF .f64 (.var 1)), (.var 2), (.lit 0), (.lit 0), (.lit 0), (.lit 0), (.lit 0), (.lit 0)], [(.lit false)], []⟩ []))
       (.ret ⟨[(.lit 0), (.lit 0), (.lit 0), (.lit 0), (.lit 0), (.lit 0), (.lit 0), (.lit 0), (.lit 0)], [(.lit false)], []⟩ []))
      (.ret ⟨[(.lit 0), (.lit 0), (.lit 0), (.lit 0), (.lit 0), (.lit 0), (.lit 0), (.lit 0), (.lit 0)], [(.lit false)], []⟩ []))
     (.ret ⟨[(.lit 0), (.lit 0), (.lit 0), (.lit 0), (.lit 0), (.lit 0), (.lit 0), (.lit 0), (.lit 0)], [(.lit false)], []⟩ []))
    (.ret ⟨[(.lit 0), (.lit 0), (.lit 0), (.lit 0), (.lit 0), (.lit 0), (.lit 0), (.lit 0), (.lit 0)], [(.lit false)], []⟩ []))
   (.ret ⟨[(.lit 0), (.lit 0), (.lit 0), (.lit 0), (.lit 0), (.lit 0), (.lit 0), (.lit 0), (.lit 0)], [(.lit false)], []⟩ []))
  (.ret ⟨[(.lit 0), (.lit 0), (.lit 0), (.lit 0), (.lit 0), (.lit 0), (.lit 0), (.lit 0), (.lit 0)], [(.lit false)], []⟩ []))
theorem thb {x0 x1 x2 x3 x4 x5 x6 x7 x8 : Int} (r0 : (-9223372036854775808) ≤ x0 ∧ x0 ≤ 9223372036854775807) (r1 : (-9223372036854775808) ≤ x1 ∧ x1 ≤ 9223372036854775807) (r2 : (-9223372036854775808) ≤ x2 ∧ x2 ≤ 9223372036854775807) (r3 : (-9223372036854775808) ≤ x3 ∧ x3 ≤ 9223372036854775807) (r4 : (-9223372036854775808) ≤ x4 ∧ x4 ≤ 9223372036854775807) (r5 : (-9223372036854775808) ≤ x5 ∧ x5 ≤ 9223372036854775807) (r6 : (-9223372036854775808) ≤ x6 ∧ x6 ≤ 9223372036854775807) (r7 : (-9223372036854775808) ≤ x7 ∧ x7 ≤ 9223372036854775807) (r8 : (-9223372036854775808) ≤ x8 ∧ x8 ≤ 9223372036854775807) {R : Int → Int → Int → Int → Int → Int → Int → Int → Int → Bool → Prop}
  (H : ((decide (((-4194304) : Int) ≤ x0) = true → ((decide ((x0 : Int) ≤ 4194304) = true → ((decide (((-4194304) : Int) ≤ x1) = true → ((decide ((x1 : Int) ≤ 4194304) = true → ((decide ((0 : Int) ≤ x2) = true → ((decide ((x2 : Int) ≤ 1000) = true → ((decide (((-4194304) : Int) ≤ x3) = true → ((decide ((x3 : Int) ≤ 4194304) = true → ((decide (((-4194304) : Int) ≤ x4) = true → ((decide ((x4 : Int) ≤ 4194304) = true → ((decide ((0 : Int) ≤ x5) = true → ((decide ((x5 : Int) ≤ 1000) = true → ((decide (((-4194304) : Int) ≤ x6) = true → ((decide ((x6 : Int) ≤ 4194304) = true → ((decide (((-4194304) : Int) ≤ x7) = true → ((decide ((x7 : Int) ≤ 4194304) = true → ((decide ((0 : Int) ≤ x8) = true → ((decide ((x8 : Int) ≤ 1000) = true → R (((FloatKind.f64.nearest x0 : Nat) : Int)) (((FloatKind.f64.nearest x1 : Nat) : Int)) (x2) (((FloatKind.f64.nearest x3 : Nat) : Int)) (((FloatKind.f64.nearest x4 : Nat) : Int)) (x5) (((FloatKind.f64.nearest x6 : Nat) : Int)) (((FloatKind.f64.nearest x7 : Nat) : Int)) (x8) (true)) ∧
                    (decide ((x8 : Int) ≤ 1000) = false → R (((FloatKind.f64.nearest x0 : Nat) : Int)) (((FloatKind.f64.nearest x1 : Nat) : Int)) (x2) (((FloatKind.f64.nearest x3 : Nat) : Int)) (((FloatKind.f64.nearest x4 : Nat) : Int)) (x5) (0) (0) (0) (false)))) ∧
                   (decide ((0 : Int) ≤ x8) = false → R (((FloatKind.f64.nearest x0 : Nat) : Int)) (((FloatKind.f64.nearest x1 : Nat) : Int)) (x2) (((FloatKind.f64.nearest x3 : Nat) : Int)) (((FloatKind.f64.nearest x4 : Nat) : Int)) (x5) (0) (0) (0) (false)))) ∧
                  (decide ((x7 : Int) ≤ 4194304) = false → R (((FloatKind.f64.nearest x0 : Nat) : Int)) (((FloatKind.f64.nearest x1 : Nat) : Int)) (x2) (((FloatKind.f64.nearest x3 : Nat) : Int)) (((FloatKind.f64.nearest x4 : Nat) : Int)) (x5) (0) (0) (0) (false)))) ∧
                 (decide (((-4194304) : Int) ≤ x7) = false → R (((FloatKind.f64.nearest x0 : Nat) : Int)) (((FloatKind.f64.nearest x1 : Nat) : Int)) (x2) (((FloatKind.f64.nearest x3 : Nat) : Int)) (((FloatKind.f64.nearest x4 : Nat) : Int)) (x5) (0) (0) (0) (false)))) ∧
                (decide ((x6 : Int) ≤ 4194304) = false → R (((FloatKind.f64.nearest x0 : Nat) : Int)) (((FloatKind.f64.nearest x1 : Nat) : Int)) (x2) (((FloatKind.f64.nearest x3 : Nat) : Int)) (((FloatKind.f64.nearest x4 : Nat) : Int)) (x5) (0) (0) (0) (false)))) ∧
               (decide (((-4194304) : Int) ≤ x6) = false → R (((FloatKind.f64.nearest x0 : Nat) : Int)) (((FloatKind.f64.nearest x1 : Nat) : Int)) (x2) (((FloatKind.f64.nearest x3 : Nat) : Int)) (((FloatKind.f64.nearest x4 : Nat) : Int)) (x5) (0) (0) (0) (false)))) ∧
              (decide ((x5 : Int) ≤ 1000) = false → R (((FloatKind.f64.nearest x0 : Nat) : Int)) (((FloatKind.f64.nearest x1 : Nat) : Int)) (x2) (0) (0) (0) (0) (0) (0) (false)))) ∧
             (decide ((0 : Int) ≤ x5) = false → R (((FloatKind.f64.nearest x0 : Nat) : Int)) (((FloatKind.f64.nearest x1 : Nat) : Int)) (x2) (0) (0) (0) (0) (0) (0) (false)))) ∧
            (decide ((x4 : Int) ≤ 4194304) = false → R (((FloatKind.f64.nearest x0 : Nat) : Int)) (((FloatKind.f64.nearest x1 : Nat) : Int)) (x2) (0) (0) (0) (0) (0) (0) (false)))) ∧
           (decide (((-4194304) : Int) ≤ x4) = false → R (((FloatKind.f64.nearest x0 : Nat) : Int)) (((FloatKind.f64.nearest x1 : Nat) : Int)) (x2) (0) (0) (0) (0) (0) (0) (false)))) ∧
          (decide ((x3 : Int) ≤ 4194304) = false → R (((FloatKind.f64.nearest x0 : Nat) : Int)) (((FloatKind.f64.nearest x1 : Nat) : Int)) (x2) (0) (0) (0) (0) (0) (0) (false)))) ∧
         (decide (((-4194304) : Int) ≤ x3) = false → R (((FloatKind.f64.nearest x0 : Nat) : Int)) (((FloatKind.f64.nearest x1 : Nat) : Int)) (x2) (0) (0) (0) (0) (0) (0) (false)))) ∧
        (decide ((x2 : Int) ≤ 1000) = false → R (0) (0) (0) (0) (0) (0) (0) (0) (0) (false)))) ∧
       (decide ((0 : Int) ≤ x2) = false → R (0) (0) (0) (0) (0) (0) (0) (0) (0) (false)))) ∧
      (decide ((x1 : Int) ≤ 4194304) = false → R (0) (0) (0) (0) (0) (0) (0) (0) (0) (false)))) ∧
     (decide (((-4194304) : Int) ≤ x1) = false → R (0) (0) (0) (0) (0) (0) (0) (0) (0) (false)))) ∧
    (decide ((x0 : Int) ≤ 4194304) = false → R (0) (0) (0) (0) (0) (0) (0) (0) (0) (false)))) ∧
   (decide (((-4194304) : Int) ≤ x0) = false → R (0) (0) (0) (0) (0) (0) (0) (0) (0) (false)))) :
    ∃ v0 : Int, ∃ v1 : Int, ∃ v2 : Int, ∃ v3 : Int, ∃ v4 : Int, ∃ v5 : Int, ∃ v6 : Int, ∃ v7 : Int, ∃ v8 : Int, ∃ u0 : Bool, R v0 v1 v2 v3 v4 v5 v6 v7 v8 u0 ∧ Spec Try.prog _etalontop_Three__balls_s ⟨[x0, x1, x2, x3, x4, x5, x6, x7, x8], [], []⟩ [v0, v1, v2, v3, v4, v5, v6, v7, v8] [u0] [] :=
  Eq.mp (by kernel_rfl) (exV_of (K := fun d => app3 _etalontop_Three__balls_s.out R d ∧ Spec Try.prog _etalontop_Three__balls_s ⟨[x0, x1, x2, x3, x4, x5, x6, x7, x8], [], []⟩ d.1 d.2.1 d.2.2) (tree_at mixed names S1_ok (S := S1 Try.prog) (lf := 100000) (d := 60) _etalontop_Three__balls_s thb_t { ivs := [(0, (-9223372036854775808), 9223372036854775807), (1, (-9223372036854775808), 9223372036854775807), (2, (-9223372036854775808), 9223372036854775807), (3, (-9223372036854775808), 9223372036854775807), (4, (-9223372036854775808), 9223372036854775807), (5, (-9223372036854775808), 9223372036854775807), (6, (-9223372036854775808), 9223372036854775807), (7, (-9223372036854775808), 9223372036854775807), (8, (-9223372036854775808), 9223372036854775807)], aivs := [] } ⟨[x0, x1, x2, x3, x4, x5, x6, x7, x8], [], []⟩ rfl (by kernel_rfl) (by kernel_rfl) (by kernel_rfl) ⟨(fc r0 (fc r1 (fc r2 (fc r3 (fc r4 (fc r5 (fc r6 (fc r7 (fc r8 fz))))))))), fz, fz, fz⟩ (R := fun d => app3 _etalontop_Three__balls_s.out R d) (Eq.mp (by kernel_rfl) H)))

def tal_t : Tr :=
  (.call etalontop_balled_s ⟨[], [], []⟩ ⟨[], [(.var 0)], []⟩ ⟨58, [], [], [none], (.bool (.var 0)), []⟩
  (.ite (.var 0)
  (.call _etalontop_Three__balls_s ⟨[(.var 0), (.var 1), (.var 2), (.var 3), (.var 4), (.var 5), (.var 6), (.var 7), (.var 8)], [], []⟩ ⟨[(.var 0), (.var 1), (.var 2), (.var 3), (.var 4), (.var 5), (.var 6), (.var 7), (.var 8), (.var 9), (.var 10), (.var 11), (.var 12), (.var 13), (.var 14), (.var 15), (.var 16), (.var 17)], [(.var 1)], []⟩ ⟨59, [(.agg [(.int .i64 (.var 0)), (.int .i64 (.var 1)), (.int .i64 (.var 2)), (.int .i64 (.var 3)), (.int .i64 (.var 4)), (.int .i64 (.var 5)), (.int .i64 (.var 6)), (.int .i64 (.var 7)), (.int .i64 (.var 8))])], [], [none], (.tuple [(.agg [(.complex .f64 (.var 9) (.var 10)), (.int .i64 (.var 11)), (.complex .f64 (.var 12) (.var 13)), (.int .i64 (.var 14)), (.complex .f64 (.var 15) (.var 16)), (.int .i64 (.var 17))]), (.bool (.var 1))]), []⟩
   (.ite (.var 1)
   (.call ball_Plus_s ⟨[(.var 9), (.var 10), (.var 11), (.var 12), (.var 13), (.var 14)], [], []⟩ ⟨[(.var 9), (.var 10), (.var 11), (.var 12), (.var 13), (.var 14), (.var 18), (.var 19), (.var 20), (.var 21)], [], []⟩ ⟨23, [(.agg [(.complex .f64 (.var 9) (.var 10)), (.int .i64 (.var 11))]), (.agg [(.complex .f64 (.var 12) (.var 13)), (.int .i64 (.var 14))])], [], [none, none, none, none, none], (.tuple [(.agg [(.complex .f64 (.var 18) (.var 19)), (.int .i64 (.var 20))]), (.int .i64 (.var 21))]), []⟩
    (.call ball_Minus_s ⟨[(.var 9), (.var 10), (.var 11), (.var 12), (.var 13), (.var 14)], [], []⟩ ⟨[(.var 9), (.var 10), (.var 11), (.var 12), (.var 13), (.var 14), (.var 22), (.var 23), (.var 24), (.var 25)], [], []⟩ ⟨24, [(.agg [(.complex .f64 (.var 9) (.var 10)), (.int .i64 (.var 11))]), (.agg [(.complex .f64 (.var 12) (.var 13)), (.int .i64 (.var 14))])], [], [none, none, none, none, none, none], (.tuple [(.agg [(.complex .f64 (.var 22) (.var 23)), (.int .i64 (.var 24))]), (.int .i64 (.var 25))]), []⟩
    (.call ball_Times_s ⟨[(.var 18), (.var 19), (.var 20), (.var 22), (.var 23), (.var 24)], [], []⟩ ⟨[(.var 18), (.var 19), (.var 20), (.var 22), (.var 23), (.var 24), (.var 26), (.var 27), (.var 28), (.var 29)], [], []⟩ ⟨36, [(.agg [(.complex .f64 (.var 18) (.var 19)), (.int .i64 (.var 20))]), (.agg [(.complex .f64 (.var 22) (.var 23)), (.int .i64 (.var 24))])], [], [none, none, none, none, none, none, none], (.tuple [(.agg [(.complex .f64 (.var 26) (.var 27)), (.int .i64 (.var 28))]), (.int .i64 (.var 29))]), []⟩
    (.call ball_Times_s ⟨[(.var 9), (.var 10), (.var 11), (.var 9), (.var 10), (.var 11)], [], []⟩ ⟨[(.var 9), (.var 10), (.var 11), (.var 9), (.var 10), (.var 11), (.var 30), (.var 31), (.var 32), (.var 33)], [], []⟩ ⟨36, [(.agg [(.complex .f64 (.var 9) (.var 10)), (.int .i64 (.var 11))]), (.agg [(.complex .f64 (.var 9) (.var 10)), (.int .i64 (.var 11))])], [], [none, none, none, none, none, none, none, none], (.tuple [(.agg [(.complex .f64 (.var 30) (.var 31)), (.int .i64 (.var 32))]), (.int .i64 (.var 33))]), []⟩
    (.call ball_Times_s ⟨[(.var 12), (.var 13), (.var 14), (.var 12), (.var 13), (.var 14)], [], []⟩ ⟨[(.var 12), (.var 13), (.var 14), (.var 12), (.var 13), (.var 14), (.var 34), (.var 35), (.var 36), (.var 37)], [], []⟩ ⟨36, [(.agg [(.complex .f64 (.var 12) (.var 13)), (.int .i64 (.var 14))]), (.agg [(.complex .f64 (.var 12) (.var 13)), (.int .i64 (.var 14))])], [], [none, none, none, none, none, none, none, none, none], (.tuple [(.agg [(.complex .f64 (.var 34) (.var 35)), (.int .i64 (.var 36))]), (.int .i64 (.var 37))]), []⟩
    (.call ball_Minus_s ⟨[(.var 30), (.var 31), (.var 32), (.var 34), (.var 35), (.var 36)], [], []⟩ ⟨[(.var 30), (.var 31), (.var 32), (.var 34), (.var 35), (.var 36), (.var 38), (.var 39), (.var 40), (.var 41)], [], []⟩ ⟨24, [(.agg [(.complex .f64 (.var 30) (.var 31)), (.int .i64 (.var 32))]), (.agg [(.complex .f64 (.var 34) (.var 35)), (.int .i64 (.var 36))])], [], [none, none, none, none, none, none, none, none, none, none], (.tuple [(.agg [(.complex .f64 (.var 38) (.var 39)), (.int .i64 (.var 40))]), (.int .i64 (.var 41))]), []⟩
    (.ite (.icmp .eql (.var 21) (.lit 0))
    (.ite (.icmp .eql (.var 25) (.lit 0))
     (.ite (.icmp .eql (.var 33) (.lit 0))
      (.ite (.icmp .eql (.var 37) (.lit 0))
       (.call etalontop_meets_s ⟨[(.var 26), (.var 27), (.var 28), (.var 38), (.var 39), (.var 40), (.var 29), (.var 41)], [], []⟩ ⟨[(.var 26), (.var 27), (.var 28), (.var 38), (.var 39), (.var 40), (.var 29), (.var 41)], [(.var 2)], []⟩ ⟨60, [(.agg [(.complex .f64 (.var 26) (.var 27)), (.int .i64 (.var 28))]), (.agg [(.complex .f64 (.var 38) (.var 39)), (.int .i64 (.var 40))]), (.int .i64 (.var 29)), (.int .i64 (.var 41))], [], [none, none, none, none, none, none, none, none, none, none, none], (.bool (.var 2)), []⟩
        (.ite (.var 2)
        (.call ball_Times_s ⟨[(.var 18), (.var 19), (.var 20), (.var 15), (.var 16), (.var 17)], [], []⟩ ⟨[(.var 18), (.var 19), (.var 20), (.var 15), (.var 16), (.var 17), (.var 42), (.var 43), (.var 44), (.var 45)], [], []⟩ ⟨36, [(.agg [(.complex .f64 (.var 18) (.var 19)), (.int .i64 (.var 20))]), (.agg [(.complex .f64 (.var 15) (.var 16)), (.int .i64 (.var 17))])], [], [none, none, none, none, none, none, none, none, none, none, none], (.tuple [(.agg [(.complex .f64 (.var 42) (.var 43)), (.int .i64 (.var 44))]), (.int .i64 (.var 45))]), []⟩
         (.call ball_Times_s ⟨[(.var 9), (.var 10), (.var 11), (.var 15), (.var 16), (.var 17)], [], []⟩ ⟨[(.var 9), (.var 10), (.var 11), (.var 15), (.var 16), (.var 17), (.var 46), (.var 47), (.var 48), (.var 49)], [], []⟩ ⟨36, [(.agg [(.complex .f64 (.var 9) (.var 10)), (.int .i64 (.var 11))]), (.agg [(.complex .f64 (.var 15) (.var 16)), (.int .i64 (.var 17))])], [], [none, none, none, none, none, none, none, none, none, none, none, none], (.tuple [(.agg [(.complex .f64 (.var 46) (.var 47)), (.int .i64 (.var 48))]), (.int .i64 (.var 49))]), []⟩
         (.call ball_Times_s ⟨[(.var 12), (.var 13), (.var 14), (.var 15), (.var 16), (.var 17)], [], []⟩ ⟨[(.var 12), (.var 13), (.var 14), (.var 15), (.var 16), (.var 17), (.var 50), (.var 51), (.var 52), (.var 53)], [], []⟩ ⟨36, [(.agg [(.complex .f64 (.var 12) (.var 13)), (.int .i64 (.var 14))]), (.agg [(.complex .f64 (.var 15) (.var 16)), (.int .i64 (.var 17))])], [], [none, none, none, none, none, none, none, none, none, none, none, none, none], (.tuple [(.agg [(.complex .f64 (.var 50) (.var 51)), (.int .i64 (.var 52))]), (.int .i64 (.var 53))]), []⟩
         (.call ball_Plus_s ⟨[(.var 46), (.var 47), (.var 48), (.var 50), (.var 51), (.var 52)], [], []⟩ ⟨[(.var 46), (.var 47), (.var 48), (.var 50), (.var 51), (.var 52), (.var 54), (.var 55), (.var 56), (.var 57)], [], []⟩ ⟨23, [(.agg [(.complex .f64 (.var 46) (.var 47)), (.int .i64 (.var 48))]), (.agg [(.complex .f64 (.var 50) (.var 51)), (.int .i64 (.var 52))])], [], [none, none, none, none, none, none, none, none, none, none, none, none, none, none], (.tuple [(.agg [(.complex .f64 (.var 54) (.var 55)), (.int .i64 (.var 56))]), (.int .i64 (.var 57))]), []⟩
         (.ite (.icmp .eql (.var 49) (.lit 0))
         (.ite (.icmp .eql (.var 53) (.lit 0))
          (.call etalontop_meets_s ⟨[(.var 42), (.var 43), (.var 44), (.var 54), (.var 55), (.var 56), (.var 45), (.var 57)], [], []⟩ ⟨[(.var 42), (.var 43), (.var 44), (.var 54), (.var 55), (.var 56), (.var 45), (.var 57)], [(.var 3)], []⟩ ⟨60, [(.agg [(.complex .f64 (.var 42) (.var 43)), (.int .i64 (.var 44))]), (.agg [(.complex .f64 (.var 54) (.var 55)), (.int .i64 (.var 56))]), (.int .i64 (.var 45)), (.int .i64 (.var 57))], [], [none, none, none, none, none, none, none, none, none, none, none, none, none, none, none], (.bool (.var 3)), []⟩
           (.ite (.var 3)
           (.call ball_Times_s ⟨[(.var 9), (.var 10), (.var 11), (.var 12), (.var 13), (.var 14)], [], []⟩ ⟨[(.var 9), (.var 10), (.var 11), (.var 12), (.var 13), (.var 14), (.var 58), (.var 59), (.var 60), (.var 61)], [], []⟩ ⟨36, [(.agg [(.complex .f64 (.var 9) (.var 10)), (.int .i64 (.var 11))]), (.agg [(.complex .f64 (.var 12) (.var 13)), (.int .i64 (.var 14))])], [], [none, none, none, none, none, none, none, none, none, none, none, none, none, none, none], (.tuple [(.agg [(.complex .f64 (.var 58) (.var 59)), (.int .i64 (.var 60))]), (.int .i64 (.var 61))]), []⟩
            (.call ball_Times_s ⟨[(.var 58), (.var 59), (.var 60), (.var 15), (.var 16), (.var 17)], [], []⟩ ⟨[(.var 58), (.var 59), (.var 60), (.var 15), (.var 16), (.var 17), (.var 62), (.var 63), (.var 64), (.var 65)], [], []⟩ ⟨36, [(.agg [(.complex .f64 (.var 58) (.var 59)), (.int .i64 (.var 60))]), (.agg [(.complex .f64 (.var 15) (.var 16)), (.int .i64 (.var 17))])], [], [none, none, none, none, none, none, none, none, none, none, none, none, none, none, none, none], (.tuple [(.agg [(.complex .f64 (.var 62) (.var 63)), (.int .i64 (.var 64))]), (.int .i64 (.var 65))]), []⟩
            (.call ball_Times_s ⟨[(.var 9), (.var 10), (.var 11), (.var 50), (.var 51), (.var 52)], [], []⟩ ⟨[(.var 9), (.var 10), (.var 11), (.var 50), (.var 51), (.var 52), (.var 66), (.var 67), (.var 68), (.var 69)], [], []⟩ ⟨36, [(.agg [(.complex .f64 (.var 9) (.var 10)), (.int .i64 (.var 11))]), (.agg [(.complex .f64 (.var 50) (.var 51)), (.int .i64 (.var 52))])], [], [none, none, none, none, none, none, none, none, none, none, none, none, none, none, none, none, none], (.tuple [(.agg [(.complex .f64 (.var 66) (.var 67)), (.int .i64 (.var 68))]), (.int .i64 (.var 69))]), []⟩
            (.ite (.icmp .eql (.var 61) (.lit 0))
            (.call etalontop_meets_s ⟨[(.var 62), (.var 63), (.var 64), (.var 66), (.var 67), (.var 68), (.var 65), (.var 69)], [], []⟩ ⟨[(.var 62), (.var 63), (.var 64), (.var 66), (.var 67), (.var 68), (.var 65), (.var 69)], [(.var 4)], []⟩ ⟨60, [(.agg [(.complex .f64 (.var 62) (.var 63)), (.int .i64 (.var 64))]), (.agg [(.complex .f64 (.var 66) (.var 67)), (.int .i64 (.var 68))]), (.int .i64 (.var 65)), (.int .i64 (.var 69))], [], [none, none, none, none, none, none, none, none, none, none, none, none, none, none, none, none, none, none], (.bool (.var 4)), []⟩
             (.ite (.var 4)
             (.call ball_Quotient_s ⟨[(.var 9), (.var 10), (.var 11), (.var 12), (.var 13), (.var 14)], [], []⟩ ⟨[(.var 9), (.var 10), (.var 11), (.var 12), (.var 13), (.var 14), (.var 70), (.var 71), (.var 72), (.var 73)], [], []⟩ ⟨40, [(.agg [(.complex .f64 (.var 9) (.var 10)), (.int .i64 (.var 11))]), (.agg [(.complex .f64 (.var 12) (.var 13)), (.int .i64 (.var 14))])], [], [none, none, none, none, none, none, none, none, none, none, none, none, none, none, none, none, none, none], (.tuple [(.agg [(.complex .f64 (.var 70) (.var 71)), (.int .i64 (.var 72))]), (.int .i64 (.var 73))]), []⟩
              (.call ball_Quotient_s ⟨[(.var 9), (.var 10), (.var 11), (.var 50), (.var 51), (.var 52)], [], []⟩ ⟨[(.var 9), (.var 10), (.var 11), (.var 50), (.var 51), (.var 52), (.var 74), (.var 75), (.var 76), (.var 77)], [], []⟩ ⟨40, [(.agg [(.complex .f64 (.var 9) (.var 10)), (.int .i64 (.var 11))]), (.agg [(.complex .f64 (.var 50) (.var 51)), (.int .i64 (.var 52))])], [], [none, none, none, none, none, none, none, none, none, none, none, none, none, none, none, none, none, none, none], (.tuple [(.agg [(.complex .f64 (.var 74) (.var 75)), (.int .i64 (.var 76))]), (.int .i64 (.var 77))]), []⟩
              (.ite (.icmp .eql (.var 73) (.lit 0))
              (.call ball_Quotient_s ⟨[(.var 70), (.var 71), (.var 72), (.var 15), (.var 16), (.var 17)], [], []⟩ ⟨[(.var 70), (.var 71), (.var 72), (.var 15), (.var 16), (.var 17), (.var 78), (.var 79), (.var 80), (.var 81)], [], []⟩ ⟨40, [(.agg [(.complex .f64 (.var 70) (.var 71)), (.int .i64 (.var 72))]), (.agg [(.complex .f64 (.var 15) (.var 16)), (.int .i64 (.var 17))])], [], [none, none, none, none, none, none, none, none, none, none, none, none, none, none, none, none, none, none, none, none], (.tuple [(.agg [(.complex .f64 (.var 78) (.var 79)), (.int .i64 (.var 80))]), (.int .i64 (.var 81))]), []⟩
               (.call etalontop_meets_s ⟨[(.var 78), (.var 79), (.var 80), (.var 74), (.var 75), (.var 76), (.var 81), (.var 77)], [], []⟩ ⟨[(.var 78), (.var 79), (.var 80), (.var 74), (.var 75), (.var 76), (.var 81), (.var 77)], [(.var 5)], []⟩ ⟨60, [(.agg [(.complex .f64 (.var 78) (.var 79)), (.int .i64 (.var 80))]), (.agg [(.complex .f64 (.var 74) (.var 75)), (.int .i64 (.var 76))]), (.int .i64 (.var 81)), (.int .i64 (.var 77))], [], [none, none, none, none, none, none, none, none, none, none, none, none, none, none, none, none, none, none, none, none, none], (.bool (.var 5)), []⟩
               (.ite (.var 5)
               (.call ball_Conj_s ⟨[(.var 58), (.var 59), (.var 60)], [], []⟩ ⟨[(.var 58), (.var 59), (.var 60), (.var 82), (.var 83), (.var 84), (.var 85)], [], []⟩ ⟨25, [(.agg [(.complex .f64 (.var 58) (.var 59)), (.int .i64 (.var 60))])], [], [none, none, none, none, none, none, none, none, none, none, none, none, none, none, none, none, none, none, none, none, none], (.tuple [(.agg [(.complex .f64 (.var 82) (.var 83)), (.int .i64 (.var 84))]), (.int .i64 (.var 85))]), []⟩
                (.call ball_Conj_s ⟨[(.var 9), (.var 10), (.var 11)], [], []⟩ ⟨[(.var 9), (.var 10), (.var 11), (.var 86), (.var 87), (.var 88), (.var 89)], [], []⟩ ⟨25, [(.agg [(.complex .f64 (.var 9) (.var 10)), (.int .i64 (.var 11))])], [], [none, none, none, none, none, none, none, none, none, none, none, none, none, none, none, none, none, none, none, none, none, none], (.tuple [(.agg [(.complex .f64 (.var 86) (.var 87)), (.int .i64 (.var 88))]), (.int .i64 (.var 89))]), []⟩
                (.call ball_Conj_s ⟨[(.var 12), (.var 13), (.var 14)], [], []⟩ ⟨[(.var 12), (.var 13), (.var 14), (.var 90), (.var 91), (.var 92), (.var 93)], [], []⟩ ⟨25, [(.agg [(.complex .f64 (.var 12) (.var 13)), (.int .i64 (.var 14))])], [], [none, none, none, none, none, none, none, none, none, none, none, none, none, none, none, none, none, none, none, none, none, none, none], (.tuple [(.agg [(.complex .f64 (.var 90) (.var 91)), (.int .i64 (.var 92))]), (.int .i64 (.var 93))]), []⟩
                (.call ball_Times_s ⟨[(.var 86), (.var 87), (.var 88), (.var 90), (.var 91), (.var 92)], [], []⟩ ⟨[(.var 86), (.var 87), (.var 88), (.var 90), (.var 91), (.var 92), (.var 94), (.var 95), (.var 96), (.var 97)], [], []⟩ ⟨36, [(.agg [(.complex .f64 (.var 86) (.var 87)), (.int .i64 (.var 88))]), (.agg [(.complex .f64 (.var 90) (.var 91)), (.int .i64 (.var 92))])], [], [none, none, none, none, none, none, none, none, none, none, none, none, none, none, none, none, none, none, none, none, none, none, none, none], (.tuple [(.agg [(.complex .f64 (.var 94) (.var 95)), (.int .i64 (.var 96))]), (.int .i64 (.var 97))]), []⟩
                (.ite (.icmp .eql (.var 85) (.lit 0))
                (.ite (.icmp .eql (.var 89) (.lit 0))
                 (.ite (.icmp .eql (.var 93) (.lit 0))
                  (.call etalontop_meets_s ⟨[(.var 82), (.var 83), (.var 84), (.var 94), (.var 95), (.var 96), (.var 85), (.var 97)], [], []⟩ ⟨[(.var 82), (.var 83), (.var 84), (.var 94), (.var 95), (.var 96), (.var 85), (.var 97)], [(.var 6)], []⟩ ⟨60, [(.agg [(.complex .f64 (.var 82) (.var 83)), (.int .i64 (.var 84))]), (.agg [(.complex .f64 (.var 94) (.var 95)), (.int .i64 (.var 96))]), (.int .i64 (.var 85)), (.int .i64 (.var 97))], [], [none, none, none, none, none, none, none, none, none, none, none, none, none, none, none, none, none, none, none, none, none, none, none, none, none], (.bool (.var 6)), []⟩
                   (.ret ⟨[], [(.var 6)], []⟩ []))
                  (.ret ⟨[], [(.lit false)], []⟩ []))
                 (.ret ⟨[], [(.lit false)], []⟩ []))
                (.ret ⟨[], [(.lit false)], []⟩ []))))))
               (.ret ⟨[], [(.lit false)], []⟩ []))))
              (.call ball_Conj_s ⟨[(.var 58), (.var 59), (.var 60)], [], []⟩ ⟨[(.var 58), (.var 59), (.var 60), (.var 78), (.var 79), (.var 80), (.var 81)], [], []⟩ ⟨25, [(.agg [(.complex .f64 (.var 58) (.var 59)), (.int .i64 (.var 60))])], [], [none, none, none, none, none, none, none, none, none, none, none, none, none, none, none, none, none, none, none, none], (.tuple [(.agg [(.complex .f64 (.var 78) (.var 79)), (.int .i64 (.var 80))]), (.int .i64 (.var 81))]), []⟩
               (.call ball_Conj_s ⟨[(.var 9), (.var 10), (.var 11)], [], []⟩ ⟨[(.var 9), (.var 10), (.var 11), (.var 82), (.var 83), (.var 84), (.var 85)], [], []⟩ ⟨25, [(.agg [(.complex .f64 (.var 9) (.var 10)), (.int .i64 (.var 11))])], [], [none, none, none, none, none, none, none, none, none, none, none, none, none, none, none, none, none, none, none, none, none], (.tuple [(.agg [(.complex .f64 (.var 82) (.var 83)), (.int .i64 (.var 84))]), (.int .i64 (.var 85))]), []⟩
               (.call ball_Conj_s ⟨[(.var 12), (.var 13), (.var 14)], [], []⟩ ⟨[(.var 12), (.var 13), (.var 14), (.var 86), (.var 87), (.var 88), (.var 89)], [], []⟩ ⟨25, [(.agg [(.complex .f64 (.var 12) (.var 13)), (.int .i64 (.var 14))])], [], [none, none, none, none, none, none, none, none, none, none, none, none, none, none, none, none, none, none, none, none, none, none], (.tuple [(.agg [(.complex .f64 (.var 86) (.var 87)), (.int .i64 (.var 88))]), (.int .i64 (.var 89))]), []⟩
               (.call ball_Times_s ⟨[(.var 82), (.var 83), (.var 84), (.var 86), (.var 87), (.var 88)], [], []⟩ ⟨[(.var 82), (.var 83), (.var 84), (.var 86), (.var 87), (.var 88), (.var 90), (.var 91), (.var 92), (.var 93)], [], []⟩ ⟨36, [(.agg [(.complex .f64 (.var 82) (.var 83)), (.int .i64 (.var 84))]), (.agg [(.complex .f64 (.var 86) (.var 87)), (.int .i64 (.var 88))])], [], [none, none, none, none, none, none, none, none, none, none, none, none, none, none, none, none, none, none, none, none, none, none, none], (.tuple [(.agg [(.complex .f64 (.var 90) (.var 91)), (.int .i64 (.var 92))]), (.int .i64 (.var 93))]), []⟩
               (.ite (.icmp .eql (.var 81) (.lit 0))
               (.ite (.icmp .eql (.var 85) (.lit 0))
                (.ite (.icmp .eql (.var 89) (.lit 0))
                 (.call etalontop_meets_s ⟨[(.var 78), (.var 79), (.var 80), (.var 90), (.var 91), (.var 92), (.var 81), (.var 93)], [], []⟩ ⟨[(.var 78), (.var 79), (.var 80), (.var 90), (.var 91), (.var 92), (.var 81), (.var 93)], [(.var 5)], []⟩ ⟨60, [(.agg [(.complex .f64 (.var 78) (.var 79)), (.int .i64 (.var 80))]), (.agg [(.complex .f64 (.var 90) (.var 91)), (.int .i64 (.var 92))]), (.int .i64 (.var 81)), (.int .i64 (.var 93))], [], [none, none, none, none, none, none, none, none, none, none, none, none, none, none, none, none, none, none, none, none, none, none, none, none], (.bool (.var 5)), []⟩
                  (.ret ⟨[], [(.var 5)], []⟩ []))
                 (.ret ⟨[], [(.lit false)], []⟩ []))
                (.ret ⟨[], [(.lit false)], []⟩ []))
               (.ret ⟨[], [(.lit false)], []⟩ [])))))))))
             (.ret ⟨[], [(.lit false)], []⟩ [])))
            (.ret ⟨[], [(.lit false)], []⟩ [])))))
           (.ret ⟨[], [(.lit false)], []⟩ [])))
          (.ret ⟨[], [(.lit false)], []⟩ []))
         (.ret ⟨[], [(.lit false)], []⟩ []))))))
        (.ret ⟨[], [(.lit false)], []⟩ [])))
       (.ret ⟨[], [(.lit false)], []⟩ []))
      (.ret ⟨[], [(.lit false)], []⟩ []))
     (.ret ⟨[], [(.lit false)], []⟩ []))
    (.ret ⟨[], [(.lit false)], []⟩ []))))))))
   (.ret ⟨[], [(.lit true)], []⟩ [])))
  (.ret ⟨[], [(.lit false)], []⟩ [])))
theorem tal {x0 x1 x2 x3 x4 x5 x6 x7 x8 : Int} (r0 : (-9223372036854775808) ≤ x0 ∧ x0 ≤ 9223372036854775807) (r1 : (-9223372036854775808) ≤ x1 ∧ x1 ≤ 9223372036854775807) (r2 : (-9223372036854775808) ≤ x2 ∧ x2 ≤ 9223372036854775807) (r3 : (-9223372036854775808) ≤ x3 ∧ x3 ≤ 9223372036854775807) (r4 : (-9223372036854775808) ≤ x4 ∧ x4 ≤ 9223372036854775807) (r5 : (-9223372036854775808) ≤ x5 ∧ x5 ≤ 9223372036854775807) (r6 : (-9223372036854775808) ≤ x6 ∧ x6 ≤ 9223372036854775807) (r7 : (-9223372036854775808) ≤ x7 ∧ x7 ≤ 9223372036854775807) (r8 : (-9223372036854775808) ≤ x8 ∧ x8 ≤ 9223372036854775807) {R : Bool → Prop}
  (H : (∃ u0 : Bool, Spec Try.prog etalontop_balled_s ⟨[], [], []⟩ [] [u0] [] ∧
   ((u0 = true → (∃ v9 : Int, ∃ v10 : Int, ∃ v11 : Int, ∃ v12 : Int, ∃ v13 : Int, ∃ v14 : Int, ∃ v15 : Int, ∃ v16 : Int, ∃ v17 : Int, ∃ u1 : Bool, Spec Try.prog _etalontop_Three__balls_s ⟨[x0, x1, x2, x3, x4, x5, x6, x7, x8], [], []⟩ [v9, v10, v11, v12, v13, v14, v15, v16, v17] [u1] [] ∧
    ((u1 = true → (∃ v18 : Int, ∃ v19 : Int, ∃ v20 : Int, ∃ v21 : Int, Spec Try.prog ball_Plus_s ⟨[v9, v10, v11, v12, v13, v14], [], []⟩ [v18, v19, v20, v21] [] [] ∧
     (∃ v22 : Int, ∃ v23 : Int, ∃ v24 : Int, ∃ v25 : Int, Spec Try.prog ball_Minus_s ⟨[v9, v10, v11, v12, v13, v14], [], []⟩ [v22, v23, v24, v25] [] [] ∧
     (∃ v26 : Int, ∃ v27 : Int, ∃ v28 : Int, ∃ v29 : Int, Spec Try.prog ball_Times_s ⟨[v18, v19, v20, v22, v23, v24], [], []⟩ [v26, v27, v28, v29] [] [] ∧
     (∃ v30 : Int, ∃ v31 : Int, ∃ v32 : Int, ∃ v33 : Int, Spec Try.prog ball_Times_s ⟨[v9, v10, v11, v9, v10, v11], [], []⟩ [v30, v31, v32, v33] [] [] ∧
     (∃ v34 : Int, ∃ v35 : Int, ∃ v36 : Int, ∃ v37 : Int, Spec Try.prog ball_Times_s ⟨[v12, v13, v14, v12, v13, v14], [], []⟩ [v34, v35, v36, v37] [] [] ∧
     (∃ v38 : Int, ∃ v39 : Int, ∃ v40 : Int, ∃ v41 : Int, Spec Try.prog ball_Minus_s ⟨[v30, v31, v32, v34, v35, v36], [], []⟩ [v38, v39, v40, v41] [] [] ∧
     ((((v21 : Int) == 0) = true → ((((v25 : Int) == 0) = true → ((((v33 : Int) == 0) = true → ((((v37 : Int) == 0) = true → (∃ u2 : Bool, Spec Try.prog etalontop_meets_s ⟨[v26, v27, v28, v38, v39, v40, v29, v41], [], []⟩ [] [u2] [] ∧
         ((u2 = true → (∃ v42 : Int, ∃ v43 : Int, ∃ v44 : Int, ∃ v45 : Int, Spec Try.prog ball_Times_s ⟨[v18, v19, v20, v15, v16, v17], [], []⟩ [v42, v43, v44, v45] [] [] ∧
          (∃ v46 : Int, ∃ v47 : Int, ∃ v48 : Int, ∃ v49 : Int, Spec Try.prog ball_Times_s ⟨[v9, v10, v11, v15, v16, v17], [], []⟩ [v46, v47, v48, v49] [] [] ∧
          (∃ v50 : Int, ∃ v51 : Int, ∃ v52 : Int, ∃ v53 : Int, Spec Try.prog ball_Times_s ⟨[v12, v13, v14, v15, v16, v17], [], []⟩ [v50, v51, v52, v53] [] [] ∧
          (∃ v54 : Int, ∃ v55 : Int, ∃ v56 : Int, ∃ v57 : Int, Spec Try.prog ball_Plus_s ⟨[v46, v47, v48, v50, v51, v52], [], []⟩ [v54, v55, v56, v57] [] [] ∧
          ((((v49 : Int) == 0) = true → ((((v53 : Int) == 0) = true → (∃ u3 : Bool, Spec Try.prog etalontop_meets_s ⟨[v42, v43, v44, v54, v55, v56, v45, v57], [], []⟩ [] [u3] [] ∧
            ((u3 = true → (∃ v58 : Int, ∃ v59 : Int, ∃ v60 : Int, ∃ v61 : Int, Spec Try.prog ball_Times_s ⟨[v9, v10, v11, v12, v13, v14], [], []⟩ [v58, v59, v60, v61] [] [] ∧
             (∃ v62 : Int, ∃ v63 : Int, ∃ v64 : Int, ∃ v65 : Int, Spec Try.prog ball_Times_s ⟨[v58, v59, v60, v15, v16, v17], [], []⟩ [v62, v63, v64, v65] [] [] ∧
             (∃ v66 : Int, ∃ v67 : Int, ∃ v68 : Int, ∃ v69 : Int, Spec Try.prog ball_Times_s ⟨[v9, v10, v11, v50, v51, v52], [], []⟩ [v66, v67, v68, v69] [] [] ∧
             ((((v61 : Int) == 0) = true → (∃ u4 : Bool, Spec Try.prog etalontop_meets_s ⟨[v62, v63, v64, v66, v67, v68, v65, v69], [], []⟩ [] [u4] [] ∧
              ((u4 = true → (∃ v70 : Int, ∃ v71 : Int, ∃ v72 : Int, ∃ v73 : Int, Spec Try.prog ball_Quotient_s ⟨[v9, v10, v11, v12, v13, v14], [], []⟩ [v70, v71, v72, v73] [] [] ∧
               (∃ v74 : Int, ∃ v75 : Int, ∃ v76 : Int, ∃ v77 : Int, Spec Try.prog ball_Quotient_s ⟨[v9, v10, v11, v50, v51, v52], [], []⟩ [v74, v75, v76, v77] [] [] ∧
               ((((v73 : Int) == 0) = true → (∃ v78 : Int, ∃ v79 : Int, ∃ v80 : Int, ∃ v81 : Int, Spec Try.prog ball_Quotient_s ⟨[v70, v71, v72, v15, v16, v17], [], []⟩ [v78, v79, v80, v81] [] [] ∧
                (∃ u5 : Bool, Spec Try.prog etalontop_meets_s ⟨[v78, v79, v80, v74, v75, v76, v81, v77], [], []⟩ [] [u5] [] ∧
                ((u5 = true → (∃ v82 : Int, ∃ v83 : Int, ∃ v84 : Int, ∃ v85 : Int, Spec Try.prog ball_Conj_s ⟨[v58, v59, v60], [], []⟩ [v82, v83, v84, v85] [] [] ∧
                 (∃ v86 : Int, ∃ v87 : Int, ∃ v88 : Int, ∃ v89 : Int, Spec Try.prog ball_Conj_s ⟨[v9, v10, v11], [], []⟩ [v86, v87, v88, v89] [] [] ∧
                 (∃ v90 : Int, ∃ v91 : Int, ∃ v92 : Int, ∃ v93 : Int, Spec Try.prog ball_Conj_s ⟨[v12, v13, v14], [], []⟩ [v90, v91, v92, v93] [] [] ∧
                 (∃ v94 : Int, ∃ v95 : Int, ∃ v96 : Int, ∃ v97 : Int, Spec Try.prog ball_Times_s ⟨[v86, v87, v88, v90, v91, v92], [], []⟩ [v94, v95, v96, v97] [] [] ∧
                 ((((v85 : Int) == 0) = true → ((((v89 : Int) == 0) = true → ((((v93 : Int) == 0) = true → (∃ u6 : Bool, Spec Try.prog etalontop_meets_s ⟨[v82, v83, v84, v94, v95, v96, v85, v97], [], []⟩ [] [u6] [] ∧
                    R (u6))) ∧
                   (((v93 : Int) == 0) = false → R (false)))) ∧
                  (((v89 : Int) == 0) = false → R (false)))) ∧
                 (((v85 : Int) == 0) = false → R (false)))))))) ∧
                (u5 = false → R (false)))))) ∧
               (((v73 : Int) == 0) = false → (∃ v78 : Int, ∃ v79 : Int, ∃ v80 : Int, ∃ v81 : Int, Spec Try.prog ball_Conj_s ⟨[v58, v59, v60], [], []⟩ [v78, v79, v80, v81] [] [] ∧
                (∃ v82 : Int, ∃ v83 : Int, ∃ v84 : Int, ∃ v85 : Int, Spec Try.prog ball_Conj_s ⟨[v9, v10, v11], [], []⟩ [v82, v83, v84, v85] [] [] ∧
                (∃ v86 : Int, ∃ v87 : Int, ∃ v88 : Int, ∃ v89 : Int, Spec Try.prog ball_Conj_s ⟨[v12, v13, v14], [], []⟩ [v86, v87, v88, v89] [] [] ∧
                (∃ v90 : Int, ∃ v91 : Int, ∃ v92 : Int, ∃ v93 : Int, Spec Try.prog ball_Times_s ⟨[v82, v83, v84, v86, v87, v88], [], []⟩ [v90, v91, v92, v93] [] [] ∧
                ((((v81 : Int) == 0) = true → ((((v85 : Int) == 0) = true → ((((v89 : Int) == 0) = true → (∃ u5 : Bool, Spec Try.prog etalontop_meets_s ⟨[v78, v79, v80, v90, v91, v92, v81, v93], [], []⟩ [] [u5] [] ∧
                   R (u5))) ∧
                  (((v89 : Int) == 0) = false → R (false)))) ∧
                 (((v85 : Int) == 0) = false → R (false)))) ∧
                (((v81 : Int) == 0) = false → R (false)))))))))))) ∧
              (u4 = false → R (false))))) ∧
             (((v61 : Int) == 0) = false → R (false))))))) ∧
            (u3 = false → R (false))))) ∧
           (((v53 : Int) == 0) = false → R (false)))) ∧
          (((v49 : Int) == 0) = false → R (false)))))))) ∧
         (u2 = false → R (false))))) ∧
        (((v37 : Int) == 0) = false → R (false)))) ∧
       (((v33 : Int) == 0) = false → R (false)))) ∧
      (((v25 : Int) == 0) = false → R (false)))) ∧
     (((v21 : Int) == 0) = false → R (false)))))))))) ∧
    (u1 = false → R (true))))) ∧
   (u0 = false → R (false))))) :
    ∃ u0 : Bool, R u0 ∧ Spec Try.prog etalontop_TopAlgebra_s ⟨[x0, x1, x2, x3, x4, x5, x6, x7, x8], [], []⟩ [] [u0] [] :=
  Eq.mp (by kernel_rfl) (exV_of (K := fun d => app3 etalontop_TopAlgebra_s.out R d ∧ Spec Try.prog etalontop_TopAlgebra_s ⟨[x0, x1, x2, x3, x4, x5, x6, x7, x8], [], []⟩ d.1 d.2.1 d.2.2) (tree_at mixed names S1_ok (S := S1 Try.prog) (lf := 100000) (d := 60) etalontop_TopAlgebra_s tal_t { ivs := [(0, (-9223372036854775808), 9223372036854775807), (1, (-9223372036854775808), 9223372036854775807), (2, (-9223372036854775808), 9223372036854775807), (3, (-9223372036854775808), 9223372036854775807), (4, (-9223372036854775808), 9223372036854775807), (5, (-9223372036854775808), 9223372036854775807), (6, (-9223372036854775808), 9223372036854775807), (7, (-9223372036854775808), 9223372036854775807), (8, (-9223372036854775808), 9223372036854775807)], aivs := [] } ⟨[x0, x1, x2, x3, x4, x5, x6, x7, x8], [], []⟩ rfl (by kernel_rfl) (by kernel_rfl) (by kernel_rfl) ⟨(fc r0 (fc r1 (fc r2 (fc r3 (fc r4 (fc r5 (fc r6 (fc r7 (fc r8 fz))))))))), fz, fz, fz⟩ (R := fun d => app3 etalontop_TopAlgebra_s.out R d) (Eq.mp (by kernel_rfl) H)))

theorem outm' {P : Program} {S : Sig} {V : Vs} {x : Int} {u : Bool} (h : ∃ a : Int, ∃ b : Bool, (a = x ∧ b = u) ∧ Spec P S V [a] [b] []) : Spec P S V [x] [u] [] := by

  obtain ⟨a, b, ⟨rfl, rfl⟩, hs⟩ := h

  exact hs

def meetB' (X Y r Z W s : Int) : Bool := decide ((X - Z) * (X - Z) + (Y - W) * (Y - W) ≤ (r + s) * (r + s))

/-- A right ball. -/

def Rt3 (X Y r : Int) : Prop := okB X Y r ∧ 0 ≤ r

theorem Rt3.ck {X Y r : Int} (h : Rt3 X Y r) : ckW X Y r = 0 := ckW_ok h.1 h.2

theorem Rt3.x {X Y r : Int} (h : Rt3 X Y r) : InF X := ⟨by have := h.1.1; omega, by have := h.1.1; omega⟩

theorem Rt3.y {X Y r : Int} (h : Rt3 X Y r) : InF Y := ⟨by have := h.1.2.1; omega, by have := h.1.2.1; omega⟩

theorem Rt3.r {X Y r : Int} (h : Rt3 X Y r) : I64 r := by have := h.1.2.2; have := h.2; omega

theorem Rt3.cc {X Y r Z W s : Int} (h : Rt3 X Y r) (g : Rt3 Z W s) : fe (ckW X Y r) (ckW Z W s) = 0 := by unfold fe; rw [if_pos h.ck]; exact g.ck

theorem meets_good' {X Y r Z W s : Int} (h : Rt3 X Y r) (g : Rt3 Z W s) : Spec Try.prog ball_Meets_s ⟨[F X, F Y, r, F Z, F W, s], [], []⟩ [0] [meetB' X Y r Z W s] [] := by

  obtain ⟨⟨hx, hy, h1⟩, h0⟩ := h

  obtain ⟨⟨hz, hw, g1⟩, g0⟩ := g

  exact outm' (mez ⟨h0, h1⟩ ⟨g0, g1⟩ (R := fun a b => a = 0 ∧ b = meetB' X Y r Z W s) ⟨X, ⟨F_rp X, by omega⟩, hx, Y, ⟨F_rp Y, by omega⟩, hy, Z, ⟨F_rp Z, by omega⟩, hz, W, ⟨F_rp W, by omega⟩, hw, rfl, rfl⟩)

/-- A result: an error that says nothing, or a ball that holds (P, Q) / D. -/

def Got (q : Bq) (P Q D : Int) : Prop := (q.e = 0 ∨ q.e = 8 ∨ q.e = 9) ∧ (q.e = 0 → 0 < D ∧ Rt3 q.x q.y q.r ∧ Hlds q.x q.y q.r P Q D) ∧ (q.e ≠ 0 → q.r = 0)

theorem got_bk {X Y R P Q D : Int} (hD : 0 < D) (h : Hlds X Y R P Q D) : Got (bk X Y R) P Q D := by

  have hR : 0 ≤ R := Int.nonneg_of_mul_nonneg_right h.1 hD

  rcases bk_split (x := X) (y := Y) (r := R) with ⟨h1, h2⟩ | ⟨_, h2⟩

  · rw [h2]; exact ⟨.inl rfl, fun _ => ⟨hD, ⟨h1, hR⟩, h⟩, fun e => absurd rfl e⟩

  · rw [h2]; exact ⟨.inr (.inl rfl), fun e => (by simp [be] at e), fun _ => rfl⟩

theorem times_got {x y r u v s P Q D P' Q' D' : Int} (hc : Rt3 x y r) (gc : Rt3 u v s) (hD : 0 < D) (hD' : 0 < D') (h : Hlds x y r P Q D) (h' : Hlds u v s P' Q' D') :

    ∃ q : Bq, Spec Try.prog ball_Times_s ⟨[F x, F y, r, F u, F v, s], [], []⟩ [F q.x, F q.y, q.r, q.e] [] [] ∧ Got q (P * P' - Q * Q') (P * Q' + Q * P') (D * D' * 1048576) := by

  have t := times_W' hc.x hc.y hc.r gc.x gc.y gc.r

  rw [opW_ok (f := timesQ) (hc.cc gc), timesQ_eq] at t

  exact ⟨_, t, got_bk (Int.mul_pos (Int.mul_pos hD hD') (by decide)) (holds_prod (by omega) (by omega) h h')⟩

theorem plus_got {x y r u v s P Q D P' Q' D' : Int} (hc : Rt3 x y r) (gc : Rt3 u v s) (hD : 0 < D) (hD' : 0 < D') (h : Hlds x y r P Q D) (h' : Hlds u v s P' Q' D') :

    ∃ q : Bq, Spec Try.prog ball_Plus_s ⟨[F x, F y, r, F u, F v, s], [], []⟩ [F q.x, F q.y, q.r, q.e] [] [] ∧ Got q (D' * P + D * P') (D' * Q + D * Q') (D * D') := by

  have t := plus_W' hc.x hc.y hc.r gc.x gc.y gc.r

  rw [opW_ok (f := plusQ) (hc.cc gc)] at t

  exact ⟨_, t, got_bk (Int.mul_pos hD hD') (Hlds.plus (by omega) (by omega) h h')⟩

theorem minus_W' {X Y r Z W s : Int} (hX : InF X) (hY : InF Y) (hr : I64 r) (hZ : InF Z) (hW : InF W) (hs : I64 s) : Spec Try.prog ball_Minus_s ⟨[F X, F Y, r, F Z, F W, s], [], []⟩ [F (opW minusQ X Y r Z W s).x, F (opW minusQ X Y r Z W s).y, (opW minusQ X Y r Z W s).r, (opW minusQ X Y r Z W s).e] [] [] := by

  have := minus_p (U_fi hX) (U_fi hY) hr (U_fi hZ) (U_fi hW) hs

  rwa [op2_W minusQ hX hY hZ hW] at this

theorem minus_got {x y r u v s P Q D P' Q' D' : Int} (hc : Rt3 x y r) (gc : Rt3 u v s) (hD : 0 < D) (hD' : 0 < D') (h : Hlds x y r P Q D) (h' : Hlds u v s P' Q' D') :

    ∃ q : Bq, Spec Try.prog ball_Minus_s ⟨[F x, F y, r, F u, F v, s], [], []⟩ [F q.x, F q.y, q.r, q.e] [] [] ∧ Got q (D' * P - D * P') (D' * Q - D * Q') (D * D') := by

  have t := minus_W' hc.x hc.y hc.r gc.x gc.y gc.r

  rw [opW_ok (f := minusQ) (hc.cc gc)] at t

  exact ⟨_, t, got_bk (Int.mul_pos hD hD') (Hlds.minus (by omega) (by omega) h h')⟩

theorem quot_got {x y r u v s P Q D P' Q' D' : Int} (hc : Rt3 x y r) (gc : Rt3 u v s) (hD : 0 < D) (hD' : 0 < D') (h : Hlds x y r P Q D) (h' : Hlds u v s P' Q' D') :

    ∃ q : Bq, Spec Try.prog ball_Quotient_s ⟨[F x, F y, r, F u, F v, s], [], []⟩ [F q.x, F q.y, q.r, q.e] [] [] ∧ Got q (1048576 * D' * (P * P' + Q * Q')) (1048576 * D' * (Q * P' - P * Q')) (D * (P' * P' + Q' * Q')) := by

  have t := quot_W' hc.x hc.y hc.r gc.x gc.y gc.r

  rw [opW_ok (f := quotQ) (hc.cc gc), quotQ_eq] at t

  by_cases hz : dn u v - s ≤ 0

  · rw [if_pos hz] at t

    exact ⟨_, t, .inr (.inr rfl), fun e => (by simp [be] at e), fun _ => rfl⟩

  · rw [if_neg hz] at t

    have hf := far hD' h' (dn_sqv u v).1 (by omega) (dn_sqv u v).2

    have hn : 0 < P' * P' + Q' * Q' := Int.lt_of_lt_of_le (Int.mul_pos (Int.mul_pos hD' (by omega)) (Int.mul_pos hD' (by omega))) hf

    exact ⟨_, t, got_bk (Int.mul_pos hD hn) (holds_quo gc.2 (by omega) hD hD' h h')⟩

theorem conj_ok {x y r : Int} (hc : Rt3 x y r) : Spec Try.prog ball_Conj_s ⟨[F x, F y, r], [], []⟩ [F x, F (0 - y), r, 0] [] [] ∧ Rt3 x (0 - y) r := by

  have := conj_p (U_fi hc.x) (U_fi hc.y) hc.r

  rw [op1_V conjQ hc.x hc.y, opV_ok (f := conjQ) hc.ck] at this

  obtain ⟨⟨hx, hy, h1⟩, h0⟩ := hc

  exact ⟨this, ⟨hx, by omega, h1⟩, h0⟩

theorem Got.r {q : Bq} {P Q D : Int} (h : Got q P Q D) : I64 q.r := by

  by_cases e : q.e = 0

  · exact (h.2.1 e).2.1.r

  · rw [h.2.2 e]; decide

theorem meets_got {p q : Bq} {P Q D P' Q' D' : Int} (h : Got p P Q D) (h' : Got q P' Q' D') (hx : D' * P = D * P') (hy : D' * Q = D * Q') :

    Spec Try.prog etalontop_meets_s ⟨[F p.x, F p.y, p.r, F q.x, F q.y, q.r, p.e, q.e], [], []⟩ [] [true] [] := by

  have rp := h.r

  have rq := h'.r

  obtain ⟨e1, h1, _⟩ := h

  obtain ⟨e2, h2, _⟩ := h'

  refine outt (tme rp rq (by omega) (by omega) (R := (· = true)) ⟨fun a => ⟨fun b => ?_, fun b => ⟨fun _ => rfl, fun c => ?_⟩⟩, fun a => ⟨fun _ => ⟨fun _ => rfl, fun b => ⟨fun _ => rfl, fun c => ?_⟩⟩, fun d => ⟨fun _ => ⟨fun _ => rfl, fun b => ⟨fun _ => rfl, fun c => ?_⟩⟩, fun g => ?_⟩⟩⟩)

  · obtain ⟨hD, hp, hP⟩ := h1 (by simpa using a)

    obtain ⟨hD', hq, hQ⟩ := h2 (by simpa using b)

    have m := meets_good' hp hq

    have hm : meetB' p.x p.y p.r q.x q.y q.r = true := by unfold meetB'; exact decide_eq_true (Hlds.meet hD hD' hP hQ hx hy)

    rw [hm] at m

    exact ⟨_, _, m, fun _ => rfl, fun h => by simp at h⟩

  all_goals (simp only [beq_iff_eq, beq_eq_false_iff_ne, ne_eq] at *)

  · omega

  · omega

  · omega

  · omega

def nearT (x y r : Int) : Prop := ((-4194304) ≤ x ∧ x ≤ 4194304) ∧ ((-4194304) ≤ y ∧ y ≤ 4194304) ∧ (0 ≤ r ∧ r ≤ 1000)

theorem nearT.rt {x y r : Int} (h : nearT x y r) : Rt3 x y r := by obtain ⟨h1, h2, h3⟩ := h; exact ⟨⟨by omega, by omega, by omega⟩, by omega⟩

theorem prod_nearT {X Y r Z W s : Int} (h : nearT X Y r) (g : nearT Z W s) : Rt3 (pX X Y Z W) (pY X Y Z W) (pR X Y r Z W s) := by

  obtain ⟨hx, hy, hr⟩ := h

  obtain ⟨hz, hw, hs⟩ := g

  have m1 := mb hx hz

  have m2 := mb hy hw

  have m3 := mb hx hw

  have m4 := mb hy hz

  have b1 := sq_bd hx

  have b2 := sq_bd hy

  have b3 := sq_bd hz

  have b4 := sq_bd hw

  have u1 : 0 ≤ upw X Y ∧ upw X Y ≤ 5931642 := ⟨(rtu_all (by omega)).1, rtu_le (by omega) (by decide) (by omega)⟩

  have u2 : 0 ≤ upw Z W ∧ upw Z W ≤ 5931642 := ⟨(rtu_all (by omega)).1, rtu_le (by omega) (by decide) (by omega)⟩

  have p1 : 0 ≤ upw X Y * s ∧ upw X Y * s ≤ 5931642 * 1000 := ⟨Int.mul_nonneg u1.1 hs.1, Int.mul_le_mul u1.2 hs.2 hs.1 (by decide)⟩

  have p2 : 0 ≤ upw Z W * r ∧ upw Z W * r ≤ 5931642 * 1000 := ⟨Int.mul_nonneg u2.1 hr.1, Int.mul_le_mul u2.2 hr.2 hr.1 (by decide)⟩

  have p3 : 0 ≤ r * s ∧ r * s ≤ 1000 * 1000 := ⟨Int.mul_nonneg hr.1 hs.1, Int.mul_le_mul hr.2 hs.2 hs.1 (by decide)⟩

  have c : 0 ≤ cdiv (upw X Y * s + upw Z W * r + r * s) 1048576 ∧ cdiv (upw X Y * s + upw Z W * r + r * s) 1048576 ≤ 20000 := by unfold cdiv; omega

  have mm := mo2_nn (wholeB (X * Z - Y * W) 1048576) (wholeB (X * W + Y * Z) 1048576)

  have m5 : mo2 (wholeB (X * Z - Y * W) 1048576) (wholeB (X * W + Y * Z) 1048576) ≤ 1 := by unfold mo2; split <;> decide

  have e : pR X Y r Z W s = _ := mo_add _ _ _

  have x1 : (-67108864) ≤ pX X Y Z W ∧ pX X Y Z W ≤ 67108864 := by unfold pX rdiv; omega

  have x2 : (-67108864) ≤ pY X Y Z W ∧ pY X Y Z W ≤ 67108864 := by unfold pY rdiv; omega

  exact ⟨⟨x1, x2, by omega⟩, by omega⟩

theorem times_ok {x y r u v s P Q D P' Q' D' : Int} (hc : nearT x y r) (gc : nearT u v s) (hD : 0 < D) (hD' : 0 < D') (h : Hlds x y r P Q D) (h' : Hlds u v s P' Q' D') :

    ∃ X Y R : Int, Rt3 X Y R ∧ Hlds X Y R (P * P' - Q * Q') (P * Q' + Q * P') (D * D' * 1048576) ∧ Spec Try.prog ball_Times_s ⟨[F x, F y, r, F u, F v, s], [], []⟩ [F X, F Y, R, 0] [] [] := by

  have t := times_W' hc.rt.x hc.rt.y hc.rt.r gc.rt.x gc.rt.y gc.rt.r

  have pn := prod_nearT hc gc

  have e : bk (pX x y u v) (pY x y u v) (pR x y r u v s) = ⟨_, _, _, 0⟩ := if_pos pn.1

  rw [opW_ok (f := timesQ) (hc.rt.cc gc.rt), timesQ_eq, e] at t

  exact ⟨_, _, _, pn, holds_prod (by omega) (by omega) h h', t⟩

theorem got_of {X Y R P Q D : Int} (h : Rt3 X Y R) (hD : 0 < D) (g : Hlds X Y R P Q D) : Got ⟨X, Y, R, 0⟩ P Q D := ⟨.inl rfl, fun _ => ⟨hD, h, g⟩, fun e => absurd rfl e⟩

set_option maxHeartbeats 2000000 in

theorem algebra {x0 x1 x2 x3 x4 x5 x6 x7 x8 : Int} (r0 : I64 x0) (r1 : I64 x1) (r2 : I64 x2) (r3 : I64 x3) (r4 : I64 x4) (r5 : I64 x5) (r6 : I64 x6) (r7 : I64 x7) (r8 : I64 x8) : Spec Try.prog etalontop_TopAlgebra_s ⟨[x0, x1, x2, x3, x4, x5, x6, x7, x8], [], []⟩ [] [true] [] := by

  have hb : Spec Try.prog etalontop_balled_s ⟨[], [], []⟩ [] [true] [] := outt (tbd (R := (· = true)) rfl)

  obtain ⟨v0, v1, v2, v3, v4, v5, v6, v7, v8, u, hu, ht⟩ := thb r0 r1 r2 r3 r4 r5 r6 r7 r8 (R := fun v0 v1 v2 v3 v4 v5 v6 v7 v8 u => u = true → (nearT x0 x1 x2 ∧ nearT x3 x4 x5 ∧ nearT x6 x7 x8) ∧ v0 = F x0 ∧ v1 = F x1 ∧ x2 = v2 ∧ v3 = F x3 ∧ v4 = F x4 ∧ x5 = v5 ∧ v6 = F x6 ∧ v7 = F x7 ∧ x8 = v8)

    (by

      unfold nearT

      simp only [decide_eq_true_eq, decide_eq_false_iff_not, Bool.false_eq_true, false_implies, implies_true, and_true]

      intro a1 a2 a3 a4 a5 a6 b1 b2 b3 b4 b5 b6 c1 c2 c3 c4 c5 c6

      intro _

      exact ⟨⟨⟨⟨a1, a2⟩, ⟨a3, a4⟩, a5, a6⟩, ⟨⟨b1, b2⟩, ⟨b3, b4⟩, b5, b6⟩, ⟨c1, c2⟩, ⟨c3, c4⟩, c5, c6⟩, rfl, rfl, trivial, rfl, rfl, trivial, rfl, rfl⟩)

  refine outt (tal r0 r1 r2 r3 r4 r5 r6 r7 r8 (R := (· = true)) ⟨_, hb, fun _ => ⟨v0, v1, v2, v3, v4, v5, v6, v7, v8, u, ht, fun h => ?_, fun _ => rfl⟩, fun h => by cases h⟩)

  obtain ⟨⟨na, nb, nc⟩, rfl, rfl, rfl, rfl, rfl, rfl, rfl, rfl, rfl⟩ := hu h

  clear hu ht hb h

  have ca := na.rt

  have cb := nb.rt

  have cc := nc.rt

  have ha := Hlds.mid (X := x0) (Y := x1) (R := x2) ca.2

  have hb := Hlds.mid (X := x3) (Y := x4) (R := x5) cb.2

  have hc := Hlds.mid (X := x6) (Y := x7) (R := x8) cc.2

  -- sums and differences

  have cs : Rt3 (x0 + x3) (x1 + x4) (x2 + x5) := ⟨⟨by have := na.1; have := nb.1; omega, by have := na.2.1; have := nb.2.1; omega, by have := na.2.2; have := nb.2.2; omega⟩, by have := na.2.2; have := nb.2.2; omega⟩

  have cd : Rt3 (x0 - x3) (x1 - x4) (x2 + x5) := ⟨⟨by have := na.1; have := nb.1; omega, by have := na.2.1; have := nb.2.1; omega, cs.1.2.2⟩, cs.2⟩

  have HS := plus_W' ca.x ca.y ca.r cb.x cb.y cb.r

  rw [opW_ok (f := plusQ) (ca.cc cb), show plusQ x0 x1 x2 x3 x4 x5 = ⟨x0 + x3, x1 + x4, x2 + x5, 0⟩ from if_pos cs.1] at HS

  have HD := minus_W' ca.x ca.y ca.r cb.x cb.y cb.r

  rw [opW_ok (f := minusQ) (ca.cc cb), show minusQ x0 x1 x2 x3 x4 x5 = ⟨x0 - x3, x1 - x4, x2 + x5, 0⟩ from if_pos cd.1] at HD

  have hs := Hlds.mid (X := x0 + x3) (Y := x1 + x4) (R := x2 + x5) cs.2

  have hd := Hlds.mid (X := x0 - x3) (Y := x1 - x4) (R := x2 + x5) cd.2

  obtain ⟨qP, HP, GP⟩ := times_got cs cd (by decide) (by decide) hs hd

  obtain ⟨AX, AY, AR, cAA, hAA, HAA⟩ := times_ok na na (by decide) (by decide) ha ha

  obtain ⟨BX, BY, BR, cBB, hBB, HBB⟩ := times_ok nb nb (by decide) (by decide) hb hb

  obtain ⟨qQ, HQ, GQ⟩ := minus_got cAA cBB (by decide) (by decide) hAA hBB

  have HM1 := meets_got GP GQ (by grind) (by grind)

  -- products of sums

  obtain ⟨qT, HT, GT⟩ := times_got cs cc (by decide) (by decide) hs hc

  obtain ⟨CX, CY, CR, cAC, hAC, HAC⟩ := times_ok na nc (by decide) (by decide) ha hc

  obtain ⟨DX, DY, DR, cBC, hBC, HBC⟩ := times_ok nb nc (by decide) (by decide) hb hc

  obtain ⟨qU, HU, GU⟩ := plus_got cAC cBC (by decide) (by decide) hAC hBC

  have HM2 := meets_got GT GU (by grind) (by grind)

  -- products in any order

  obtain ⟨EX, EY, ER, cAB, hAB, HAB⟩ := times_ok na nb (by decide) (by decide) ha hb

  obtain ⟨qV, HV, GV⟩ := times_got cAB cc (by decide) (by decide) hAB hc

  obtain ⟨qW, HW, GW⟩ := times_got ca cBC (by decide) (by decide) ha hBC

  have HM3 := meets_got GV GW (by grind) (by grind)

  -- conjugates

  obtain ⟨HMc, cM⟩ := conj_ok cAB

  obtain ⟨HG, cG⟩ := conj_ok ca

  obtain ⟨HH, cH⟩ := conj_ok cb

  have cj : ∀ {X Y R P Q D : Int}, Hlds X Y R P Q D → Hlds X (0 - Y) R P (0 - Q) D := fun h => by

    have := h.conj

    rwa [← Int.zero_sub, ← Int.zero_sub] at this

  obtain ⟨qN, HN, GN⟩ := times_got cG cH (by decide) (by decide) (cj ha) (cj hb)

  have HM5 := meets_got (got_of cM (by decide) (cj hAB)) GN (by grind) (by grind)

  -- quotients

  obtain ⟨qY, HY, GY⟩ := quot_got ca cb (by decide) (by decide) ha hb

  obtain ⟨qZ, HZ, GZ⟩ := quot_got ca cBC (by decide) (by decide) ha hBC

  have last : ∃ v82 : Int, ∃ v83 : Int, ∃ v84 : Int, ∃ v85 : Int, Spec Try.prog ball_Conj_s ⟨[F EX, F EY, ER], [], []⟩ [v82, v83, v84, v85] [] [] ∧ True := ⟨_, _, _, _, HMc, trivial⟩

  have z0 : ((0 : Int) == 0) = true := rfl

  refine ⟨_, _, _, _, HS, _, _, _, _, HD, _, _, _, _, HP, _, _, _, _, HAA, _, _, _, _, HBB, _, _, _, _, HQ, fun _ => ⟨fun _ => ⟨fun _ => ⟨fun _ => ⟨_, HM1, fun _ => ⟨_, _, _, _, HT, _, _, _, _, HAC, _, _, _, _, HBC, _, _, _, _, HU, fun _ => ⟨fun _ => ⟨_, HM2, fun _ => ⟨_, _, _, _, HAB, _, _, _, _, HV, _, _, _, _, HW, fun _ => ⟨_, HM3, fun _ => ⟨_, _, _, _, HY, _, _, _, _, HZ, fun hq => ?_, fun _ => ?_⟩, fun h => by cases h⟩, fun h => by simp at h⟩, fun h => by cases h⟩, fun h => by simp at h⟩, fun h => by simp at h⟩, fun h => by cases h⟩, fun h => by simp at h⟩, fun h => by simp at h⟩, fun h => by simp at h⟩, fun h => by simp at h⟩

  · obtain ⟨hDY, cY, hY⟩ := GY.2.1 (by simpa using hq)

    obtain ⟨qR, HR, GR⟩ := quot_got cY cc hDY (by decide) hY hc

    have HM4 := meets_got GR GZ (by grind) (by grind)

    exact ⟨_, _, _, _, HR, _, HM4, fun _ => ⟨_, _, _, _, HMc, _, _, _, _, HG, _, _, _, _, HH, _, _, _, _, HN, fun _ => ⟨fun _ => ⟨fun _ => ⟨_, HM5, rfl⟩, fun h => by simp at h⟩, fun h => by simp at h⟩, fun h => by simp at h⟩, fun h => by cases h⟩

  · exact ⟨_, _, _, _, HMc, _, _, _, _, HG, _, _, _, _, HH, _, _, _, _, HN, fun _ => ⟨fun _ => ⟨fun _ => ⟨_, HM5, rfl⟩, fun h => by simp at h⟩, fun h => by simp at h⟩, fun h => by simp at h⟩

end Go.Proofs.Ytgdhpgjfebinhaa.Ev
