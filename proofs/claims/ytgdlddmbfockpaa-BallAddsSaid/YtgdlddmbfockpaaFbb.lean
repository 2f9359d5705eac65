/- Balls: sums, products and quotients of package ball. -/
import Derived.Test.YtgdlddmbfockpaaFba
namespace Go.Proofs.Ytgdlddmbfockpaa.Ev
set_option linter.unusedSimpArgs false
open Go Go.RowKit
set_option linter.unusedVariables false
set_option maxRecDepth 100000
def ball_Plus_s : Sig := ⟨10, ⟨6, 0, 0⟩, ⟨4, 0, 0⟩, [(.agg [(.complex .f64 (.var 0) (.var 1)), (.int .i64 (.var 2))]), (.agg [(.complex .f64 (.var 3) (.var 4)), (.int .i64 (.var 5))])], [], (.tuple [(.agg [(.complex .f64 (.var 6) (.var 7)), (.int .i64 (.var 8))]), (.int .i64 (.var 9))]), []⟩
def ball_Minus_s : Sig := ⟨11, ⟨6, 0, 0⟩, ⟨4, 0, 0⟩, [(.agg [(.complex .f64 (.var 0) (.var 1)), (.int .i64 (.var 2))]), (.agg [(.complex .f64 (.var 3) (.var 4)), (.int .i64 (.var 5))])], [], (.tuple [(.agg [(.complex .f64 (.var 6) (.var 7)), (.int .i64 (.var 8))]), (.int .i64 (.var 9))]), []⟩
def ball_Times_s : Sig := ⟨24, ⟨6, 0, 0⟩, ⟨4, 0, 0⟩, [(.agg [(.complex .f64 (.var 0) (.var 1)), (.int .i64 (.var 2))]), (.agg [(.complex .f64 (.var 3) (.var 4)), (.int .i64 (.var 5))])], [], (.tuple [(.agg [(.complex .f64 (.var 6) (.var 7)), (.int .i64 (.var 8))]), (.int .i64 (.var 9))]), []⟩
def ball_Quotient_s : Sig := ⟨28, ⟨6, 0, 0⟩, ⟨4, 0, 0⟩, [(.agg [(.complex .f64 (.var 0) (.var 1)), (.int .i64 (.var 2))]), (.agg [(.complex .f64 (.var 3) (.var 4)), (.int .i64 (.var 5))])], [], (.tuple [(.agg [(.complex .f64 (.var 6) (.var 7)), (.int .i64 (.var 8))]), (.int .i64 (.var 9))]), []⟩
def ball_Conj_s : Sig := ⟨12, ⟨3, 0, 0⟩, ⟨4, 0, 0⟩, [(.agg [(.complex .f64 (.var 0) (.var 1)), (.int .i64 (.var 2))])], [], (.tuple [(.agg [(.complex .f64 (.var 3) (.var 4)), (.int .i64 (.var 5))]), (.int .i64 (.var 6))]), []⟩

def pl_t : Tr :=
  (.whole 0 67108864 (.rng 6 (-67108864) 67108864 (.whole 1 67108864 (.rng 7 (-67108864) 67108864 (.whole 3 67108864 (.rng 8 (-67108864) 67108864 (.whole 4 67108864 (.rng 9 (-67108864) 67108864 (.ite (.icmp .leq (.lit (-67108864)) (.bin .addI (.var 6) (.var 8)))
  (.ite (.icmp .leq (.bin .addI (.var 6) (.var 8)) (.lit 67108864))
   (.ite (.icmp .leq (.lit (-67108864)) (.bin .addI (.var 7) (.var 9)))
    (.ite (.icmp .leq (.bin .addI (.var 7) (.var 9)) (.lit 67108864))
     (.ite (.icmp .leq (.bin .addI (.var 2) (.var 5)) (.lit 67108864))
      (.ret ⟨[(.toF .f64 (.bin .addI (.var 6) (.var 8))), (.toF .f64 (.bin .addI (.var 7) (.var 9))), (.bin .addI (.var 2) (.var 5)), (.lit 0)], [], []⟩ [])
      (.ret ⟨[(.lit 0), (.lit 0), (.lit 0), (.lit 8)], [], []⟩ []))
     (.ret ⟨[(.lit 0), (.lit 0), (.lit 0), (.lit 8)], [], []⟩ []))
    (.ret ⟨[(.lit 0), (.lit 0), (.lit 0), (.lit 8)], [], []⟩ []))
   (.ret ⟨[(.lit 0), (.lit 0), (.lit 0), (.lit 8)], [], []⟩ []))
  (.ret ⟨[(.lit 0), (.lit 0), (.lit 0), (.lit 8)], [], []⟩ []))))))))))
theorem pl {x0 x1 x2 x3 x4 x5 : Int} (r2 : 0 ≤ x2 ∧ x2 ≤ 67108864) (r5 : 0 ≤ x5 ∧ x5 ≤ 67108864) {R : Int → Int → Int → Int → Prop}
  (H : (∃ v6 : Int, (Rp (x0 : Int).toNat v6 ∧ v6.natAbs ≤ 67108864) ∧ (((-67108864) ≤ (v6 : Int) ∧ (v6 : Int) ≤ 67108864) ∧ (∃ v7 : Int, (Rp (x1 : Int).toNat v7 ∧ v7.natAbs ≤ 67108864) ∧ (((-67108864) ≤ (v7 : Int) ∧ (v7 : Int) ≤ 67108864) ∧ (∃ v8 : Int, (Rp (x3 : Int).toNat v8 ∧ v8.natAbs ≤ 67108864) ∧ (((-67108864) ≤ (v8 : Int) ∧ (v8 : Int) ≤ 67108864) ∧ (∃ v9 : Int, (Rp (x4 : Int).toNat v9 ∧ v9.natAbs ≤ 67108864) ∧ (((-67108864) ≤ (v9 : Int) ∧ (v9 : Int) ≤ 67108864) ∧ ((decide (((-67108864) : Int) ≤ (v6 + v8)) = true → ((decide (((v6 + v8) : Int) ≤ 67108864) = true → ((decide (((-67108864) : Int) ≤ (v7 + v9)) = true → ((decide (((v7 + v9) : Int) ≤ 67108864) = true → ((decide (((x2 + x5) : Int) ≤ 67108864) = true → R (((FloatKind.f64.nearest (v6 + v8) : Nat) : Int)) (((FloatKind.f64.nearest (v7 + v9) : Nat) : Int)) ((x2 + x5)) (0)) ∧
       (decide (((x2 + x5) : Int) ≤ 67108864) = false → R (0) (0) (0) (8)))) ∧
      (decide (((v7 + v9) : Int) ≤ 67108864) = false → R (0) (0) (0) (8)))) ∧
     (decide (((-67108864) : Int) ≤ (v7 + v9)) = false → R (0) (0) (0) (8)))) ∧
    (decide (((v6 + v8) : Int) ≤ 67108864) = false → R (0) (0) (0) (8)))) ∧
   (decide (((-67108864) : Int) ≤ (v6 + v8)) = false → R (0) (0) (0) (8)))))))))))) :
    ∃ v0 : Int, ∃ v1 : Int, ∃ v2 : Int, ∃ v3 : Int, R v0 v1 v2 v3 ∧ Spec Try.prog ball_Plus_s ⟨[x0, x1, x2, x3, x4, x5], [], []⟩ [v0, v1, v2, v3] [] [] :=
  Eq.mp (by kernel_rfl) (exV_of (K := fun d => app3 ball_Plus_s.out R d ∧ Spec Try.prog ball_Plus_s ⟨[x0, x1, x2, x3, x4, x5], [], []⟩ d.1 d.2.1 d.2.2) (tree_at mixed names S1_ok (S := S1 Try.prog) (lf := 100000) (d := 60) ball_Plus_s pl_t { ivs := [(2, 0, 67108864), (5, 0, 67108864)], aivs := [] } ⟨[x0, x1, x2, x3, x4, x5], [], []⟩ rfl (by kernel_rfl) (by kernel_rfl) (by kernel_rfl) ⟨(fc r2 (fc r5 fz)), fz, fz, fz⟩ (R := fun d => app3 ball_Plus_s.out R d) (Eq.mp (by kernel_rfl) H)))

def mi_t : Tr :=
  (.whole 0 67108864 (.rng 6 (-67108864) 67108864 (.whole 1 67108864 (.rng 7 (-67108864) 67108864 (.whole 3 67108864 (.rng 8 (-67108864) 67108864 (.whole 4 67108864 (.rng 9 (-67108864) 67108864 (.ite (.icmp .leq (.lit (-67108864)) (.bin .subI (.var 6) (.var 8)))
  (.ite (.icmp .leq (.bin .subI (.var 6) (.var 8)) (.lit 67108864))
   (.ite (.icmp .leq (.lit (-67108864)) (.bin .subI (.var 7) (.var 9)))
    (.ite (.icmp .leq (.bin .subI (.var 7) (.var 9)) (.lit 67108864))
     (.ite (.icmp .leq (.bin .addI (.var 2) (.var 5)) (.lit 67108864))
      (.ret ⟨[(.toF .f64 (.bin .subI (.var 6) (.var 8))), (.toF .f64 (.bin .subI (.var 7) (.var 9))), (.bin .addI (.var 2) (.var 5)), (.lit 0)], [], []⟩ [])
      (.ret ⟨[(.lit 0), (.lit 0), (.lit 0), (.lit 8)], [], []⟩ []))
     (.ret ⟨[(.lit 0), (.lit 0), (.lit 0), (.lit 8)], [], []⟩ []))
    (.ret ⟨[(.lit 0), (.lit 0), (.lit 0), (.lit 8)], [], []⟩ []))
   (.ret ⟨[(.lit 0), (.lit 0), (.lit 0), (.lit 8)], [], []⟩ []))
  (.ret ⟨[(.lit 0), (.lit 0), (.lit 0), (.lit 8)], [], []⟩ []))))))))))
theorem mi {x0 x1 x2 x3 x4 x5 : Int} (r2 : 0 ≤ x2 ∧ x2 ≤ 67108864) (r5 : 0 ≤ x5 ∧ x5 ≤ 67108864) {R : Int → Int → Int → Int → Prop}
  (H : (∃ v6 : Int, (Rp (x0 : Int).toNat v6 ∧ v6.natAbs ≤ 67108864) ∧ (((-67108864) ≤ (v6 : Int) ∧ (v6 : Int) ≤ 67108864) ∧ (∃ v7 : Int, (Rp (x1 : Int).toNat v7 ∧ v7.natAbs ≤ 67108864) ∧ (((-67108864) ≤ (v7 : Int) ∧ (v7 : Int) ≤ 67108864) ∧ (∃ v8 : Int, (Rp (x3 : Int).toNat v8 ∧ v8.natAbs ≤ 67108864) ∧ (((-67108864) ≤ (v8 : Int) ∧ (v8 : Int) ≤ 67108864) ∧ (∃ v9 : Int, (Rp (x4 : Int).toNat v9 ∧ v9.natAbs ≤ 67108864) ∧ (((-67108864) ≤ (v9 : Int) ∧ (v9 : Int) ≤ 67108864) ∧ ((decide (((-67108864) : Int) ≤ (v6 - v8)) = true → ((decide (((v6 - v8) : Int) ≤ 67108864) = true → ((decide (((-67108864) : Int) ≤ (v7 - v9)) = true → ((decide (((v7 - v9) : Int) ≤ 67108864) = true → ((decide (((x2 + x5) : Int) ≤ 67108864) = true → R (((FloatKind.f64.nearest (v6 - v8) : Nat) : Int)) (((FloatKind.f64.nearest (v7 - v9) : Nat) : Int)) ((x2 + x5)) (0)) ∧
       (decide (((x2 + x5) : Int) ≤ 67108864) = false → R (0) (0) (0) (8)))) ∧
      (decide (((v7 - v9) : Int) ≤ 67108864) = false → R (0) (0) (0) (8)))) ∧
     (decide (((-67108864) : Int) ≤ (v7 - v9)) = false → R (0) (0) (0) (8)))) ∧
    (decide (((v6 - v8) : Int) ≤ 67108864) = false → R (0) (0) (0) (8)))) ∧
   (decide (((-67108864) : Int) ≤ (v6 - v8)) = false → R (0) (0) (0) (8)))))))))))) :
    ∃ v0 : Int, ∃ v1 : Int, ∃ v2 : Int, ∃ v3 : Int, R v0 v1 v2 v3 ∧ Spec Try.prog ball_Minus_s ⟨[x0, x1, x2, x3, x4, x5], [], []⟩ [v0, v1, v2, v3] [] [] :=
  Eq.mp (by kernel_rfl) (exV_of (K := fun d => app3 ball_Minus_s.out R d ∧ Spec Try.prog ball_Minus_s ⟨[x0, x1, x2, x3, x4, x5], [], []⟩ d.1 d.2.1 d.2.2) (tree_at mixed names S1_ok (S := S1 Try.prog) (lf := 100000) (d := 60) ball_Minus_s mi_t { ivs := [(2, 0, 67108864), (5, 0, 67108864)], aivs := [] } ⟨[x0, x1, x2, x3, x4, x5], [], []⟩ rfl (by kernel_rfl) (by kernel_rfl) (by kernel_rfl) ⟨(fc r2 (fc r5 fz)), fz, fz, fz⟩ (R := fun d => app3 ball_Minus_s.out R d) (Eq.mp (by kernel_rfl) H)))

def cj_t : Tr :=
  (.whole 0 67108864 (.rng 3 (-67108864) 67108864 (.whole 1 67108864 (.rng 4 (-67108864) 67108864 (.ret ⟨[(.toF .f64 (.var 3)), (.toF .f64 (.bin .subI (.lit 0) (.var 4))), (.var 2), (.lit 0)], [], []⟩ [])))))
theorem cj {x0 x1 x2 : Int} (r2 : 0 ≤ x2 ∧ x2 ≤ 67108864) {R : Int → Int → Int → Int → Prop}
  (H : (∃ v3 : Int, (Rp (x0 : Int).toNat v3 ∧ v3.natAbs ≤ 67108864) ∧ (((-67108864) ≤ (v3 : Int) ∧ (v3 : Int) ≤ 67108864) ∧ (∃ v4 : Int, (Rp (x1 : Int).toNat v4 ∧ v4.natAbs ≤ 67108864) ∧ (((-67108864) ≤ (v4 : Int) ∧ (v4 : Int) ≤ 67108864) ∧ R (((FloatKind.f64.nearest v3 : Nat) : Int)) (((FloatKind.f64.nearest (0 - v4) : Nat) : Int)) (x2) (0)))))) :
    ∃ v0 : Int, ∃ v1 : Int, ∃ v2 : Int, ∃ v3 : Int, R v0 v1 v2 v3 ∧ Spec Try.prog ball_Conj_s ⟨[x0, x1, x2], [], []⟩ [v0, v1, v2, v3] [] [] :=
  Eq.mp (by kernel_rfl) (exV_of (K := fun d => app3 ball_Conj_s.out R d ∧ Spec Try.prog ball_Conj_s ⟨[x0, x1, x2], [], []⟩ d.1 d.2.1 d.2.2) (tree_at mixed names S1_ok (S := S1 Try.prog) (lf := 100000) (d := 60) ball_Conj_s cj_t { ivs := [(2, 0, 67108864)], aivs := [] } ⟨[x0, x1, x2], [], []⟩ rfl (by kernel_rfl) (by kernel_rfl) (by kernel_rfl) ⟨(fc r2 fz), fz, fz, fz⟩ (R := fun d => app3 ball_Conj_s.out R d) (Eq.mp (by kernel_rfl) H)))

def ti_t : Tr :=
  (.whole 0 67108864 (.rng 6 (-67108864) 67108864 (.whole 1 67108864 (.rng 7 (-67108864) 67108864 (.whole 3 67108864 (.rng 8 (-67108864) 67108864 (.whole 4 67108864 (.rng 9 (-67108864) 67108864 (.call whole_Nearest_s ⟨[(.bin .subI (.bin .mulI (.var 6) (.var 8)) (.bin .mulI (.var 7) (.var 9))), (.lit 1), (.lit 1048576)], [], []⟩ ⟨[(.bin .subI (.bin .mulI (.var 6) (.var 8)) (.bin .mulI (.var 7) (.var 9))), (.lit 1), (.lit 1048576), (.var 10)], [(.var 0)], []⟩ ⟨97, [(.int .i64 (.bin .subI (.bin .mulI (.var 6) (.var 8)) (.bin .mulI (.var 7) (.var 9)))), (.int .i64 (.lit 1)), (.int .i64 (.lit 1048576))], [], [none, none, none, none, none, none, none, none, none, none, none, none, none, none, none, none, none, none, none], (.tuple [(.int .i64 (.var 10)), (.bool (.var 0))]), []⟩
  (.rng 10 (-8589934593) 8589934593 (.call whole_Nearest_s ⟨[(.bin .addI (.bin .mulI (.var 6) (.var 9)) (.bin .mulI (.var 7) (.var 8))), (.lit 1), (.lit 1048576)], [], []⟩ ⟨[(.bin .addI (.bin .mulI (.var 6) (.var 9)) (.bin .mulI (.var 7) (.var 8))), (.lit 1), (.lit 1048576), (.var 11)], [(.var 1)], []⟩ ⟨97, [(.int .i64 (.bin .addI (.bin .mulI (.var 6) (.var 9)) (.bin .mulI (.var 7) (.var 8)))), (.int .i64 (.lit 1)), (.int .i64 (.lit 1048576))], [], [none, none, none, none, none, none, none, none, none, none, none, none, none, none, none, none, none, none, none], (.tuple [(.int .i64 (.var 11)), (.bool (.var 1))]), []⟩
  (.rng 11 (-8589934593) 8589934593 (.ite (.var 0)
  (.call whole_RootUp_s ⟨[(.bin .addI (.bin .mulI (.var 6) (.var 6)) (.bin .mulI (.var 7) (.var 7)))], [], []⟩ ⟨[(.bin .addI (.bin .mulI (.var 6) (.var 6)) (.bin .mulI (.var 7) (.var 7))), (.var 12)], [], []⟩ ⟨88, [(.int .i64 (.bin .addI (.bin .mulI (.var 6) (.var 6)) (.bin .mulI (.var 7) (.var 7))))], [], [none, none, none, none, none, none, none, none, none, none, none, none, none, none, none, none, none, none], (.int .i64 (.var 12)), []⟩
   (.rng 12 0 100000000 (.call whole_RootUp_s ⟨[(.bin .addI (.bin .mulI (.var 8) (.var 8)) (.bin .mulI (.var 9) (.var 9)))], [], []⟩ ⟨[(.bin .addI (.bin .mulI (.var 8) (.var 8)) (.bin .mulI (.var 9) (.var 9))), (.var 13)], [], []⟩ ⟨88, [(.int .i64 (.bin .addI (.bin .mulI (.var 8) (.var 8)) (.bin .mulI (.var 9) (.var 9))))], [], [none, none, none, none, none, none, none, none, none, none, none, none, none, none, none, none, none, none], (.int .i64 (.var 13)), []⟩
   (.rng 13 0 100000000 (.call whole_Upper_s ⟨[(.bin .addI (.bin .addI (.bin .mulI (.var 12) (.var 5)) (.bin .mulI (.var 13) (.var 2))) (.bin .mulI (.var 2) (.var 5))), (.lit 1), (.lit 1048576)], [], []⟩ ⟨[(.bin .addI (.bin .addI (.bin .mulI (.var 12) (.var 5)) (.bin .mulI (.var 13) (.var 2))) (.bin .mulI (.var 2) (.var 5))), (.lit 1), (.lit 1048576), (.var 14)], [], []⟩ ⟨63, [(.int .i64 (.bin .addI (.bin .addI (.bin .mulI (.var 12) (.var 5)) (.bin .mulI (.var 13) (.var 2))) (.bin .mulI (.var 2) (.var 5)))), (.int .i64 (.lit 1)), (.int .i64 (.lit 1048576))], [], [none, none, none, none, none, none, none, none, none, none, none, none, none, none, none, none, none, none], (.int .i64 (.var 14)), []⟩
   (.rng 14 0 9007199254740992 (.ite (.var 1)
   (.ite (.icmp .leq (.lit (-67108864)) (.var 10))
    (.ite (.icmp .leq (.var 10) (.lit 67108864))
     (.ite (.icmp .leq (.lit (-67108864)) (.var 11))
      (.ite (.icmp .leq (.var 11) (.lit 67108864))
       (.ite (.icmp .leq (.var 14) (.lit 67108864))
        (.ret ⟨[(.toF .f64 (.var 10)), (.toF .f64 (.var 11)), (.var 14), (.lit 0)], [], []⟩ [])
        (.ret ⟨[(.lit 0), (.lit 0), (.lit 0), (.lit 8)], [], []⟩ []))
       (.ret ⟨[(.lit 0), (.lit 0), (.lit 0), (.lit 8)], [], []⟩ []))
      (.ret ⟨[(.lit 0), (.lit 0), (.lit 0), (.lit 8)], [], []⟩ []))
     (.ret ⟨[(.lit 0), (.lit 0), (.lit 0), (.lit 8)], [], []⟩ []))
    (.ret ⟨[(.lit 0), (.lit 0), (.lit 0), (.lit 8)], [], []⟩ []))
   (.ite (.icmp .leq (.lit (-67108864)) (.var 10))
    (.ite (.icmp .leq (.var 10) (.lit 67108864))
     (.ite (.icmp .leq (.lit (-67108864)) (.var 11))
      (.ite (.icmp .leq (.var 11) (.lit 67108864))
       (.ite (.icmp .leq (.bin .addI (.var 14) (.lit 1)) (.lit 67108864))
        (.ret ⟨[(.toF .f64 (.var 10)), (.toF .f64 (.var 11)), (.bin .addI (.var 14) (.lit 1)), (.lit 0)], [], []⟩ [])
        (.ret ⟨[(.lit 0), (.lit 0), (.lit 0), (.lit 8)], [], []⟩ []))
       (.ret ⟨[(.lit 0), (.lit 0), (.lit 0), (.lit 8)], [], []⟩ []))
      (.ret ⟨[(.lit 0), (.lit 0), (.lit 0), (.lit 8)], [], []⟩ []))
     (.ret ⟨[(.lit 0), (.lit 0), (.lit 0), (.lit 8)], [], []⟩ []))
    (.ret ⟨[(.lit 0), (.lit 0), (.lit 0), (.lit 8)], [], []⟩ [])))))))))
  (.call whole_RootUp_s ⟨[(.bin .addI (.bin .mulI (.var 6) (.var 6)) (.bin .mulI (.var 7) (.var 7)))], [], []⟩ ⟨[(.bin .addI (.bin .mulI (.var 6) (.var 6)) (.bin .mulI (.var 7) (.var 7))), (.var 12)], [], []⟩ ⟨88, [(.int .i64 (.bin .addI (.bin .mulI (.var 6) (.var 6)) (.bin .mulI (.var 7) (.var 7))))], [], [none, none, none, none, none, none, none, none, none, none, none, none, none, none, none, none, none, none], (.int .i64 (.var 12)), []⟩
   (.rng 12 0 100000000 (.call whole_RootUp_s ⟨[(.bin .addI (.bin .mulI (.var 8) (.var 8)) (.bin .mulI (.var 9) (.var 9)))], [], []⟩ ⟨[(.bin .addI (.bin .mulI (.var 8) (.var 8)) (.bin .mulI (.var 9) (.var 9))), (.var 13)], [], []⟩ ⟨88, [(.int .i64 (.bin .addI (.bin .mulI (.var 8) (.var 8)) (.bin .mulI (.var 9) (.var 9))))], [], [none, none, none, none, none, none, none, none, none, none, none, none, none, none, none, none, none, none], (.int .i64 (.var 13)), []⟩
   (.rng 13 0 100000000 (.call whole_Upper_s ⟨[(.bin .addI (.bin .addI (.bin .mulI (.var 12) (.var 5)) (.bin .mulI (.var 13) (.var 2))) (.bin .mulI (.var 2) (.var 5))), (.lit 1), (.lit 1048576)], [], []⟩ ⟨[(.bin .addI (.bin .addI (.bin .mulI (.var 12) (.var 5)) (.bin .mulI (.var 13) (.var 2))) (.bin .mulI (.var 2) (.var 5))), (.lit 1), (.lit 1048576), (.var 14)], [], []⟩ ⟨63, [(.int .i64 (.bin .addI (.bin .addI (.bin .mulI (.var 12) (.var 5)) (.bin .mulI (.var 13) (.var 2))) (.bin .mulI (.var 2) (.var 5)))), (.int .i64 (.lit 1)), (.int .i64 (.lit 1048576))], [], [none, none, none, none, none, none, none, none, none, none, none, none, none, none, none, none, none, none], (.int .i64 (.var 14)), []⟩
   (.rng 14 0 9007199254740992 (.ite (.icmp .leq (.lit (-67108864)) (.var 10))
   (.ite (.icmp .leq (.var 10) (.lit 67108864))
    (.ite (.icmp .leq (.lit (-67108864)) (.var 11))
     (.ite (.icmp .leq (.var 11) (.lit 67108864))
      (.ite (.icmp .leq (.bin .addI (.var 14) (.lit 1)) (.lit 67108864))
       (.ret ⟨[(.toF .f64 (.var 10)), (.toF .f64 (.var 11)), (.bin .addI (.var 14) (.lit 1)), (.lit 0)], [], []⟩ [])
       (.ret ⟨[(.lit 0), (.lit 0), (.lit 0), (.lit 8)], [], []⟩ []))
      (.ret ⟨[(.lit 0), (.lit 0), (.lit 0), (.lit 8)], [], []⟩ []))
     (.ret ⟨[(.lit 0), (.lit 0), (.lit 0), (.lit 8)], [], []⟩ []))
    (.ret ⟨[(.lit 0), (.lit 0), (.lit 0), (.lit 8)], [], []⟩ []))
   (.ret ⟨[(.lit 0), (.lit 0), (.lit 0), (.lit 8)], [], []⟩ [])))))))))))))))))))))
theorem ti {x0 x1 x2 x3 x4 x5 : Int} (r2 : 0 ≤ x2 ∧ x2 ≤ 67108864) (r5 : 0 ≤ x5 ∧ x5 ≤ 67108864) {R : Int → Int → Int → Int → Prop}
  (H : (∃ v6 : Int, (Rp (x0 : Int).toNat v6 ∧ v6.natAbs ≤ 67108864) ∧ (((-67108864) ≤ (v6 : Int) ∧ (v6 : Int) ≤ 67108864) ∧ (∃ v7 : Int, (Rp (x1 : Int).toNat v7 ∧ v7.natAbs ≤ 67108864) ∧ (((-67108864) ≤ (v7 : Int) ∧ (v7 : Int) ≤ 67108864) ∧ (∃ v8 : Int, (Rp (x3 : Int).toNat v8 ∧ v8.natAbs ≤ 67108864) ∧ (((-67108864) ≤ (v8 : Int) ∧ (v8 : Int) ≤ 67108864) ∧ (∃ v9 : Int, (Rp (x4 : Int).toNat v9 ∧ v9.natAbs ≤ 67108864) ∧ (((-67108864) ≤ (v9 : Int) ∧ (v9 : Int) ≤ 67108864) ∧ (∃ v10 : Int, ∃ u0 : Bool, Spec Try.prog whole_Nearest_s ⟨[((v6 * v8) - (v7 * v9)), 1, 1048576], [], []⟩ [v10] [u0] [] ∧
   (((-8589934593) ≤ (v10 : Int) ∧ (v10 : Int) ≤ 8589934593) ∧ (∃ v11 : Int, ∃ u1 : Bool, Spec Try.prog whole_Nearest_s ⟨[((v6 * v9) + (v7 * v8)), 1, 1048576], [], []⟩ [v11] [u1] [] ∧
   (((-8589934593) ≤ (v11 : Int) ∧ (v11 : Int) ≤ 8589934593) ∧ ((u0 = true → (∃ v12 : Int, Spec Try.prog whole_RootUp_s ⟨[((v6 * v6) + (v7 * v7))], [], []⟩ [v12] [] [] ∧
    ((0 ≤ (v12 : Int) ∧ (v12 : Int) ≤ 100000000) ∧ (∃ v13 : Int, Spec Try.prog whole_RootUp_s ⟨[((v8 * v8) + (v9 * v9))], [], []⟩ [v13] [] [] ∧
    ((0 ≤ (v13 : Int) ∧ (v13 : Int) ≤ 100000000) ∧ (∃ v14 : Int, Spec Try.prog whole_Upper_s ⟨[(((v12 * x5) + (v13 * x2)) + (x2 * x5)), 1, 1048576], [], []⟩ [v14] [] [] ∧
    ((0 ≤ (v14 : Int) ∧ (v14 : Int) ≤ 9007199254740992) ∧ ((u1 = true → ((decide (((-67108864) : Int) ≤ v10) = true → ((decide ((v10 : Int) ≤ 67108864) = true → ((decide (((-67108864) : Int) ≤ v11) = true → ((decide ((v11 : Int) ≤ 67108864) = true → ((decide ((v14 : Int) ≤ 67108864) = true → R (((FloatKind.f64.nearest v10 : Nat) : Int)) (((FloatKind.f64.nearest v11 : Nat) : Int)) (v14) (0)) ∧
         (decide ((v14 : Int) ≤ 67108864) = false → R (0) (0) (0) (8)))) ∧
        (decide ((v11 : Int) ≤ 67108864) = false → R (0) (0) (0) (8)))) ∧
       (decide (((-67108864) : Int) ≤ v11) = false → R (0) (0) (0) (8)))) ∧
      (decide ((v10 : Int) ≤ 67108864) = false → R (0) (0) (0) (8)))) ∧
     (decide (((-67108864) : Int) ≤ v10) = false → R (0) (0) (0) (8)))) ∧
    (u1 = false → ((decide (((-67108864) : Int) ≤ v10) = true → ((decide ((v10 : Int) ≤ 67108864) = true → ((decide (((-67108864) : Int) ≤ v11) = true → ((decide ((v11 : Int) ≤ 67108864) = true → ((decide (((v14 + 1) : Int) ≤ 67108864) = true → R (((FloatKind.f64.nearest v10 : Nat) : Int)) (((FloatKind.f64.nearest v11 : Nat) : Int)) ((v14 + 1)) (0)) ∧
         (decide (((v14 + 1) : Int) ≤ 67108864) = false → R (0) (0) (0) (8)))) ∧
        (decide ((v11 : Int) ≤ 67108864) = false → R (0) (0) (0) (8)))) ∧
       (decide (((-67108864) : Int) ≤ v11) = false → R (0) (0) (0) (8)))) ∧
      (decide ((v10 : Int) ≤ 67108864) = false → R (0) (0) (0) (8)))) ∧
     (decide (((-67108864) : Int) ≤ v10) = false → R (0) (0) (0) (8)))))))))))) ∧
   (u0 = false → (∃ v12 : Int, Spec Try.prog whole_RootUp_s ⟨[((v6 * v6) + (v7 * v7))], [], []⟩ [v12] [] [] ∧
    ((0 ≤ (v12 : Int) ∧ (v12 : Int) ≤ 100000000) ∧ (∃ v13 : Int, Spec Try.prog whole_RootUp_s ⟨[((v8 * v8) + (v9 * v9))], [], []⟩ [v13] [] [] ∧
    ((0 ≤ (v13 : Int) ∧ (v13 : Int) ≤ 100000000) ∧ (∃ v14 : Int, Spec Try.prog whole_Upper_s ⟨[(((v12 * x5) + (v13 * x2)) + (x2 * x5)), 1, 1048576], [], []⟩ [v14] [] [] ∧
    ((0 ≤ (v14 : Int) ∧ (v14 : Int) ≤ 9007199254740992) ∧ ((decide (((-67108864) : Int) ≤ v10) = true → ((decide ((v10 : Int) ≤ 67108864) = true → ((decide (((-67108864) : Int) ≤ v11) = true → ((decide ((v11 : Int) ≤ 67108864) = true → ((decide (((v14 + 1) : Int) ≤ 67108864) = true → R (((FloatKind.f64.nearest v10 : Nat) : Int)) (((FloatKind.f64.nearest v11 : Nat) : Int)) ((v14 + 1)) (0)) ∧
        (decide (((v14 + 1) : Int) ≤ 67108864) = false → R (0) (0) (0) (8)))) ∧
       (decide ((v11 : Int) ≤ 67108864) = false → R (0) (0) (0) (8)))) ∧
      (decide (((-67108864) : Int) ≤ v11) = false → R (0) (0) (0) (8)))) ∧
     (decide ((v10 : Int) ≤ 67108864) = false → R (0) (0) (0) (8)))) ∧
    (decide (((-67108864) : Int) ≤ v10) = false → R (0) (0) (0) (8)))))))))))))))))))))))) :
    ∃ v0 : Int, ∃ v1 : Int, ∃ v2 : Int, ∃ v3 : Int, R v0 v1 v2 v3 ∧ Spec Try.prog ball_Times_s ⟨[x0, x1, x2, x3, x4, x5], [], []⟩ [v0, v1, v2, v3] [] [] :=
  Eq.mp (by kernel_rfl) (exV_of (K := fun d => app3 ball_Times_s.out R d ∧ Spec Try.prog ball_Times_s ⟨[x0, x1, x2, x3, x4, x5], [], []⟩ d.1 d.2.1 d.2.2) (tree_at mixed names S1_ok (S := S1 Try.prog) (lf := 100000) (d := 60) ball_Times_s ti_t { ivs := [(2, 0, 67108864), (5, 0, 67108864)], aivs := [] } ⟨[x0, x1, x2, x3, x4, x5], [], []⟩ rfl (by kernel_rfl) (by kernel_rfl) (by kernel_rfl) ⟨(fc r2 (fc r5 fz)), fz, fz, fz⟩ (R := fun d => app3 ball_Times_s.out R d) (Eq.mp (by kernel_rfl) H)))

def qu_t : Tr :=
  (.whole 0 67108864 (.rng 6 (-67108864) 67108864 (.whole 1 67108864 (.rng 7 (-67108864) 67108864 (.whole 3 67108864 (.rng 8 (-67108864) 67108864 (.whole 4 67108864 (.rng 9 (-67108864) 67108864 (.call whole_RootDown_s ⟨[(.bin .addI (.bin .mulI (.var 8) (.var 8)) (.bin .mulI (.var 9) (.var 9)))], [], []⟩ ⟨[(.bin .addI (.bin .mulI (.var 8) (.var 8)) (.bin .mulI (.var 9) (.var 9))), (.var 10)], [], []⟩ ⟨87, [(.int .i64 (.bin .addI (.bin .mulI (.var 8) (.var 8)) (.bin .mulI (.var 9) (.var 9))))], [], [none, none, none, none, none, none, none, none, none, none, none, none, none, none, none, none, none, none], (.int .i64 (.var 10)), []⟩
  (.rng 10 0 100000000 (.ite (.icmp .leq (.bin .subI (.var 10) (.var 5)) (.lit 0))
  (.ret ⟨[(.lit 0), (.lit 0), (.lit 0), (.lit 9)], [], []⟩ [])
  (.call whole_Nearest_s ⟨[(.bin .subI (.bin .mulI (.var 6) (.var 8)) (.bin .mulI (.var 7) (.bin .subI (.lit 0) (.var 9)))), (.lit 1048576), (.bin .addI (.bin .mulI (.var 8) (.var 8)) (.bin .mulI (.var 9) (.var 9)))], [], []⟩ ⟨[(.bin .subI (.bin .mulI (.var 6) (.var 8)) (.bin .mulI (.var 7) (.bin .subI (.lit 0) (.var 9)))), (.lit 1048576), (.bin .addI (.bin .mulI (.var 8) (.var 8)) (.bin .mulI (.var 9) (.var 9))), (.var 11)], [(.var 0)], []⟩ ⟨97, [(.int .i64 (.bin .subI (.bin .mulI (.var 6) (.var 8)) (.bin .mulI (.var 7) (.bin .subI (.lit 0) (.var 9))))), (.int .i64 (.lit 1048576)), (.int .i64 (.bin .addI (.bin .mulI (.var 8) (.var 8)) (.bin .mulI (.var 9) (.var 9))))], [], [none, none, none, none, none, none, none, none, none, none, none, none, none, none, none, none, none, none, none], (.tuple [(.int .i64 (.var 11)), (.bool (.var 0))]), []⟩
   (.rng 11 (-4503599627370496) 4503599627370496 (.call whole_Nearest_s ⟨[(.bin .addI (.bin .mulI (.var 6) (.bin .subI (.lit 0) (.var 9))) (.bin .mulI (.var 7) (.var 8))), (.lit 1048576), (.bin .addI (.bin .mulI (.var 8) (.var 8)) (.bin .mulI (.var 9) (.var 9)))], [], []⟩ ⟨[(.bin .addI (.bin .mulI (.var 6) (.bin .subI (.lit 0) (.var 9))) (.bin .mulI (.var 7) (.var 8))), (.lit 1048576), (.bin .addI (.bin .mulI (.var 8) (.var 8)) (.bin .mulI (.var 9) (.var 9))), (.var 12)], [(.var 1)], []⟩ ⟨97, [(.int .i64 (.bin .addI (.bin .mulI (.var 6) (.bin .subI (.lit 0) (.var 9))) (.bin .mulI (.var 7) (.var 8)))), (.int .i64 (.lit 1048576)), (.int .i64 (.bin .addI (.bin .mulI (.var 8) (.var 8)) (.bin .mulI (.var 9) (.var 9))))], [], [none, none, none, none, none, none, none, none, none, none, none, none, none, none, none, none, none, none, none], (.tuple [(.int .i64 (.var 12)), (.bool (.var 1))]), []⟩
   (.rng 12 (-4503599627370496) 4503599627370496 (.ite (.var 0)
   (.call whole_RootUp_s ⟨[(.bin .addI (.bin .mulI (.var 8) (.var 8)) (.bin .mulI (.var 9) (.var 9)))], [], []⟩ ⟨[(.bin .addI (.bin .mulI (.var 8) (.var 8)) (.bin .mulI (.var 9) (.var 9))), (.var 13)], [], []⟩ ⟨88, [(.int .i64 (.bin .addI (.bin .mulI (.var 8) (.var 8)) (.bin .mulI (.var 9) (.var 9))))], [], [none, none, none, none, none, none, none, none, none, none, none, none, none, none, none, none, none, none], (.int .i64 (.var 13)), []⟩
    (.rng 13 0 100000000 (.call whole_RootUp_s ⟨[(.bin .addI (.bin .mulI (.var 6) (.var 6)) (.bin .mulI (.var 7) (.var 7)))], [], []⟩ ⟨[(.bin .addI (.bin .mulI (.var 6) (.var 6)) (.bin .mulI (.var 7) (.var 7))), (.var 14)], [], []⟩ ⟨88, [(.int .i64 (.bin .addI (.bin .mulI (.var 6) (.var 6)) (.bin .mulI (.var 7) (.var 7))))], [], [none, none, none, none, none, none, none, none, none, none, none, none, none, none, none, none, none, none], (.int .i64 (.var 14)), []⟩
    (.rng 14 0 100000000 (.call whole_Upper_s ⟨[(.bin .addI (.bin .mulI (.var 2) (.var 13)) (.bin .mulI (.var 14) (.var 5))), (.lit 1048576), (.bin .mulI (.bin .subI (.var 10) (.var 5)) (.var 10))], [], []⟩ ⟨[(.bin .addI (.bin .mulI (.var 2) (.var 13)) (.bin .mulI (.var 14) (.var 5))), (.lit 1048576), (.bin .mulI (.bin .subI (.var 10) (.var 5)) (.var 10)), (.var 15)], [], []⟩ ⟨63, [(.int .i64 (.bin .addI (.bin .mulI (.var 2) (.var 13)) (.bin .mulI (.var 14) (.var 5)))), (.int .i64 (.lit 1048576)), (.int .i64 (.bin .mulI (.bin .subI (.var 10) (.var 5)) (.var 10)))], [], [none, none, none, none, none, none, none, none, none, none, none, none, none, none, none, none, none, none], (.int .i64 (.var 15)), []⟩
    (.rng 15 0 4611686018427387904 (.ite (.var 1)
    (.ite (.icmp .leq (.lit (-67108864)) (.var 11))
     (.ite (.icmp .leq (.var 11) (.lit 67108864))
      (.ite (.icmp .leq (.lit (-67108864)) (.var 12))
       (.ite (.icmp .leq (.var 12) (.lit 67108864))
        (.ite (.icmp .leq (.var 15) (.lit 67108864))
         (.ret ⟨[(.toF .f64 (.var 11)), (.toF .f64 (.var 12)), (.var 15), (.lit 0)], [], []⟩ [])
         (.ret ⟨[(.lit 0), (.lit 0), (.lit 0), (.lit 8)], [], []⟩ []))
        (.ret ⟨[(.lit 0), (.lit 0), (.lit 0), (.lit 8)], [], []⟩ []))
       (.ret ⟨[(.lit 0), (.lit 0), (.lit 0), (.lit 8)], [], []⟩ []))
      (.ret ⟨[(.lit 0), (.lit 0), (.lit 0), (.lit 8)], [], []⟩ []))
     (.ret ⟨[(.lit 0), (.lit 0), (.lit 0), (.lit 8)], [], []⟩ []))
    (.ite (.icmp .leq (.lit (-67108864)) (.var 11))
     (.ite (.icmp .leq (.var 11) (.lit 67108864))
      (.ite (.icmp .leq (.lit (-67108864)) (.var 12))
       (.ite (.icmp .leq (.var 12) (.lit 67108864))
        (.ite (.icmp .leq (.bin .addI (.var 15) (.lit 1)) (.lit 67108864))
         (.ret ⟨[(.toF .f64 (.var 11)), (.toF .f64 (.var 12)), (.bin .addI (.var 15) (.lit 1)), (.lit 0)], [], []⟩ [])
         (.ret ⟨[(.lit 0), (.lit 0), (.lit 0), (.lit 8)], [], []⟩ []))
        (.ret ⟨[(.lit 0), (.lit 0), (.lit 0), (.lit 8)], [], []⟩ []))
       (.ret ⟨[(.lit 0), (.lit 0), (.lit 0), (.lit 8)], [], []⟩ []))
      (.ret ⟨[(.lit 0), (.lit 0), (.lit 0), (.lit 8)], [], []⟩ []))
     (.ret ⟨[(.lit 0), (.lit 0), (.lit 0), (.lit 8)], [], []⟩ [])))))))))
   (.call whole_RootUp_s ⟨[(.bin .addI (.bin .mulI (.var 8) (.var 8)) (.bin .mulI (.var 9) (.var 9)))], [], []⟩ ⟨[(.bin .addI (.bin .mulI (.var 8) (.var 8)) (.bin .mulI (.var 9) (.var 9))), (.var 13)], [], []⟩ ⟨88, [(.int .i64 (.bin .addI (.bin .mulI (.var 8) (.var 8)) (.bin .mulI (.var 9) (.var 9))))], [], [none, none, none, none, none, none, none, none, none, none, none, none, none, none, none, none, none, none], (.int .i64 (.var 13)), []⟩
    (.rng 13 0 100000000 (.call whole_RootUp_s ⟨[(.bin .addI (.bin .mulI (.var 6) (.var 6)) (.bin .mulI (.var 7) (.var 7)))], [], []⟩ ⟨[(.bin .addI (.bin .mulI (.var 6) (.var 6)) (.bin .mulI (.var 7) (.var 7))), (.var 14)], [], []⟩ ⟨88, [(.int .i64 (.bin .addI (.bin .mulI (.var 6) (.var 6)) (.bin .mulI (.var 7) (.var 7))))], [], [none, none, none, none, none, none, none, none, none, none, none, none, none, none, none, none, none, none], (.int .i64 (.var 14)), []⟩
    (.rng 14 0 100000000 (.call whole_Upper_s ⟨[(.bin .addI (.bin .mulI (.var 2) (.var 13)) (.bin .mulI (.var 14) (.var 5))), (.lit 1048576), (.bin .mulI (.bin .subI (.var 10) (.var 5)) (.var 10))], [], []⟩ ⟨[(.bin .addI (.bin .mulI (.var 2) (.var 13)) (.bin .mulI (.var 14) (.var 5))), (.lit 1048576), (.bin .mulI (.bin .subI (.var 10) (.var 5)) (.var 10)), (.var 15)], [], []⟩ ⟨63, [(.int .i64 (.bin .addI (.bin .mulI (.var 2) (.var 13)) (.bin .mulI (.var 14) (.var 5)))), (.int .i64 (.lit 1048576)), (.int .i64 (.bin .mulI (.bin .subI (.var 10) (.var 5)) (.var 10)))], [], [none, none, none, none, none, none, none, none, none, none, none, none, none, none, none, none, none, none], (.int .i64 (.var 15)), []⟩
    (.rng 15 0 4611686018427387904 (.ite (.icmp .leq (.lit (-67108864)) (.var 11))
    (.ite (.icmp .leq (.var 11) (.lit 67108864))
     (.ite (.icmp .leq (.lit (-67108864)) (.var 12))
      (.ite (.icmp .leq (.var 12) (.lit 67108864))
       (.ite (.icmp .leq (.bin .addI (.var 15) (.lit 1)) (.lit 67108864))
        (.ret ⟨[(.toF .f64 (.var 11)), (.toF .f64 (.var 12)), (.bin .addI (.var 15) (.lit 1)), (.lit 0)], [], []⟩ [])
        (.ret ⟨[(.lit 0), (.lit 0), (.lit 0), (.lit 8)], [], []⟩ []))
       (.ret ⟨[(.lit 0), (.lit 0), (.lit 0), (.lit 8)], [], []⟩ []))
      (.ret ⟨[(.lit 0), (.lit 0), (.lit 0), (.lit 8)], [], []⟩ []))
     (.ret ⟨[(.lit 0), (.lit 0), (.lit 0), (.lit 8)], [], []⟩ []))
    (.ret ⟨[(.lit 0), (.lit 0), (.lit 0), (.lit 8)], [], []⟩ []))))))))))))))))))))))))
theorem qu {x0 x1 x2 x3 x4 x5 : Int} (r2 : 0 ≤ x2 ∧ x2 ≤ 67108864) (r5 : 0 ≤ x5 ∧ x5 ≤ 67108864) {R : Int → Int → Int → Int → Prop}
  (H : (∃ v6 : Int, (Rp (x0 : Int).toNat v6 ∧ v6.natAbs ≤ 67108864) ∧ (((-67108864) ≤ (v6 : Int) ∧ (v6 : Int) ≤ 67108864) ∧ (∃ v7 : Int, (Rp (x1 : Int).toNat v7 ∧ v7.natAbs ≤ 67108864) ∧ (((-67108864) ≤ (v7 : Int) ∧ (v7 : Int) ≤ 67108864) ∧ (∃ v8 : Int, (Rp (x3 : Int).toNat v8 ∧ v8.natAbs ≤ 67108864) ∧ (((-67108864) ≤ (v8 : Int) ∧ (v8 : Int) ≤ 67108864) ∧ (∃ v9 : Int, (Rp (x4 : Int).toNat v9 ∧ v9.natAbs ≤ 67108864) ∧ (((-67108864) ≤ (v9 : Int) ∧ (v9 : Int) ≤ 67108864) ∧ (∃ v10 : Int, Spec Try.prog whole_RootDown_s ⟨[((v8 * v8) + (v9 * v9))], [], []⟩ [v10] [] [] ∧
   ((0 ≤ (v10 : Int) ∧ (v10 : Int) ≤ 100000000) ∧ ((decide (((v10 - x5) : Int) ≤ 0) = true → R (0) (0) (0) (9)) ∧
   (decide (((v10 - x5) : Int) ≤ 0) = false → (∃ v11 : Int, ∃ u0 : Bool, Spec Try.prog whole_Nearest_s ⟨[((v6 * v8) - (v7 * (0 - v9))), 1048576, ((v8 * v8) + (v9 * v9))], [], []⟩ [v11] [u0] [] ∧
    (((-4503599627370496) ≤ (v11 : Int) ∧ (v11 : Int) ≤ 4503599627370496) ∧ (∃ v12 : Int, ∃ u1 : Bool, Spec Try.prog whole_Nearest_s ⟨[((v6 * (0 - v9)) + (v7 * v8)), 1048576, ((v8 * v8) + (v9 * v9))], [], []⟩ [v12] [u1] [] ∧
    (((-4503599627370496) ≤ (v12 : Int) ∧ (v12 : Int) ≤ 4503599627370496) ∧ ((u0 = true → (∃ v13 : Int, Spec Try.prog whole_RootUp_s ⟨[((v8 * v8) + (v9 * v9))], [], []⟩ [v13] [] [] ∧
     ((0 ≤ (v13 : Int) ∧ (v13 : Int) ≤ 100000000) ∧ (∃ v14 : Int, Spec Try.prog whole_RootUp_s ⟨[((v6 * v6) + (v7 * v7))], [], []⟩ [v14] [] [] ∧
     ((0 ≤ (v14 : Int) ∧ (v14 : Int) ≤ 100000000) ∧ (∃ v15 : Int, Spec Try.prog whole_Upper_s ⟨[((x2 * v13) + (v14 * x5)), 1048576, ((v10 - x5) * v10)], [], []⟩ [v15] [] [] ∧
     ((0 ≤ (v15 : Int) ∧ (v15 : Int) ≤ 4611686018427387904) ∧ ((u1 = true → ((decide (((-67108864) : Int) ≤ v11) = true → ((decide ((v11 : Int) ≤ 67108864) = true → ((decide (((-67108864) : Int) ≤ v12) = true → ((decide ((v12 : Int) ≤ 67108864) = true → ((decide ((v15 : Int) ≤ 67108864) = true → R (((FloatKind.f64.nearest v11 : Nat) : Int)) (((FloatKind.f64.nearest v12 : Nat) : Int)) (v15) (0)) ∧
          (decide ((v15 : Int) ≤ 67108864) = false → R (0) (0) (0) (8)))) ∧
         (decide ((v12 : Int) ≤ 67108864) = false → R (0) (0) (0) (8)))) ∧
        (decide (((-67108864) : Int) ≤ v12) = false → R (0) (0) (0) (8)))) ∧
       (decide ((v11 : Int) ≤ 67108864) = false → R (0) (0) (0) (8)))) ∧
      (decide (((-67108864) : Int) ≤ v11) = false → R (0) (0) (0) (8)))) ∧
     (u1 = false → ((decide (((-67108864) : Int) ≤ v11) = true → ((decide ((v11 : Int) ≤ 67108864) = true → ((decide (((-67108864) : Int) ≤ v12) = true → ((decide ((v12 : Int) ≤ 67108864) = true → ((decide (((v15 + 1) : Int) ≤ 67108864) = true → R (((FloatKind.f64.nearest v11 : Nat) : Int)) (((FloatKind.f64.nearest v12 : Nat) : Int)) ((v15 + 1)) (0)) ∧
          (decide (((v15 + 1) : Int) ≤ 67108864) = false → R (0) (0) (0) (8)))) ∧
         (decide ((v12 : Int) ≤ 67108864) = false → R (0) (0) (0) (8)))) ∧
        (decide (((-67108864) : Int) ≤ v12) = false → R (0) (0) (0) (8)))) ∧
       (decide ((v11 : Int) ≤ 67108864) = false → R (0) (0) (0) (8)))) ∧
      (decide (((-67108864) : Int) ≤ v11) = false → R (0) (0) (0) (8)))))))))))) ∧
    (u0 = false → (∃ v13 : Int, Spec Try.prog whole_RootUp_s ⟨[((v8 * v8) + (v9 * v9))], [], []⟩ [v13] [] [] ∧
     ((0 ≤ (v13 : Int) ∧ (v13 : Int) ≤ 100000000) ∧ (∃ v14 : Int, Spec Try.prog whole_RootUp_s ⟨[((v6 * v6) + (v7 * v7))], [], []⟩ [v14] [] [] ∧
     ((0 ≤ (v14 : Int) ∧ (v14 : Int) ≤ 100000000) ∧ (∃ v15 : Int, Spec Try.prog whole_Upper_s ⟨[((x2 * v13) + (v14 * x5)), 1048576, ((v10 - x5) * v10)], [], []⟩ [v15] [] [] ∧
     ((0 ≤ (v15 : Int) ∧ (v15 : Int) ≤ 4611686018427387904) ∧ ((decide (((-67108864) : Int) ≤ v11) = true → ((decide ((v11 : Int) ≤ 67108864) = true → ((decide (((-67108864) : Int) ≤ v12) = true → ((decide ((v12 : Int) ≤ 67108864) = true → ((decide (((v15 + 1) : Int) ≤ 67108864) = true → R (((FloatKind.f64.nearest v11 : Nat) : Int)) (((FloatKind.f64.nearest v12 : Nat) : Int)) ((v15 + 1)) (0)) ∧
         (decide (((v15 + 1) : Int) ≤ 67108864) = false → R (0) (0) (0) (8)))) ∧
        (decide ((v12 : Int) ≤ 67108864) = false → R (0) (0) (0) (8)))) ∧
       (decide (((-67108864) : Int) ≤ v12) = false → R (0) (0) (0) (8)))) ∧
      (decide ((v11 : Int) ≤ 67108864) = false → R (0) (0) (0) (8)))) ∧
     (decide (((-67108864) : Int) ≤ v11) = false → R (0) (0) (0) (8)))))))))))))))))))))))))))) :
    ∃ v0 : Int, ∃ v1 : Int, ∃ v2 : Int, ∃ v3 : Int, R v0 v1 v2 v3 ∧ Spec Try.prog ball_Quotient_s ⟨[x0, x1, x2, x3, x4, x5], [], []⟩ [v0, v1, v2, v3] [] [] :=
  Eq.mp (by kernel_rfl) (exV_of (K := fun d => app3 ball_Quotient_s.out R d ∧ Spec Try.prog ball_Quotient_s ⟨[x0, x1, x2, x3, x4, x5], [], []⟩ d.1 d.2.1 d.2.2) (tree_at mixed names S1_ok (S := S1 Try.prog) (lf := 100000) (d := 60) ball_Quotient_s qu_t { ivs := [(2, 0, 67108864), (5, 0, 67108864)], aivs := [] } ⟨[x0, x1, x2, x3, x4, x5], [], []⟩ rfl (by kernel_rfl) (by kernel_rfl) (by kernel_rfl) ⟨(fc r2 (fc r5 fz)), fz, fz, fz⟩ (R := fun d => app3 ball_Quotient_s.out R d) (Eq.mp (by kernel_rfl) H)))

def plb_t : Tr :=
  (.call ball_CheckBall_s ⟨[(.var 0), (.var 1), (.var 2)], [], []⟩ ⟨[(.var 0), (.var 1), (.var 2), (.var 6)], [], []⟩ ⟨94, [(.agg [(.complex .f64 (.var 0) (.var 1)), (.int .i64 (.var 2))])], [], [none, none, none, none, none, none, none, none, none], (.int .i64 (.var 6)), []⟩
  (.ite (.icmp .eql (.var 6) (.lit 0))
  (.call ball_CheckBall_s ⟨[(.var 3), (.var 4), (.var 5)], [], []⟩ ⟨[(.var 3), (.var 4), (.var 5), (.var 7)], [], []⟩ ⟨94, [(.agg [(.complex .f64 (.var 3) (.var 4)), (.int .i64 (.var 5))])], [], [none, none, none, none, none, none, none, none, none, none, none, none, none], (.int .i64 (.var 7)), []⟩
   (.ite (.icmp .eql (.var 7) (.lit 0))
   .nil
   (.ret ⟨[(.lit 0), (.lit 0), (.lit 0), (.var 7)], [], []⟩ [])))
  (.ret ⟨[(.lit 0), (.lit 0), (.lit 0), (.var 6)], [], []⟩ [])))
theorem plb {x0 x1 x2 x3 x4 x5 : Int} (r2 : (-9223372036854775808) ≤ x2 ∧ x2 ≤ 9223372036854775807) (r5 : (-9223372036854775808) ≤ x5 ∧ x5 ≤ 9223372036854775807) {R : Int → Int → Int → Int → Prop}
  (H : (∃ v6 : Int, Spec Try.prog ball_CheckBall_s ⟨[x0, x1, x2], [], []⟩ [v6] [] [] ∧
   ((((v6 : Int) == 0) = true → (∃ v7 : Int, Spec Try.prog ball_CheckBall_s ⟨[x3, x4, x5], [], []⟩ [v7] [] [] ∧
    ((((v7 : Int) == 0) = true → False) ∧
    (((v7 : Int) == 0) = false → R (0) (0) (0) (v7))))) ∧
   (((v6 : Int) == 0) = false → R (0) (0) (0) (v6))))) :
    ∃ v0 : Int, ∃ v1 : Int, ∃ v2 : Int, ∃ v3 : Int, R v0 v1 v2 v3 ∧ Spec Try.prog ball_Plus_s ⟨[x0, x1, x2, x3, x4, x5], [], []⟩ [v0, v1, v2, v3] [] [] :=
  Eq.mp (by kernel_rfl) (exV_of (K := fun d => app3 ball_Plus_s.out R d ∧ Spec Try.prog ball_Plus_s ⟨[x0, x1, x2, x3, x4, x5], [], []⟩ d.1 d.2.1 d.2.2) (tree_at mixed names S1_ok (S := S1 Try.prog) (lf := 100000) (d := 60) ball_Plus_s plb_t { ivs := [(2, (-9223372036854775808), 9223372036854775807), (5, (-9223372036854775808), 9223372036854775807)], aivs := [] } ⟨[x0, x1, x2, x3, x4, x5], [], []⟩ rfl (by kernel_rfl) (by kernel_rfl) (by kernel_rfl) ⟨(fc r2 (fc r5 fz)), fz, fz, fz⟩ (R := fun d => app3 ball_Plus_s.out R d) (Eq.mp (by kernel_rfl) H)))

def mib_t : Tr :=
  (.call ball_CheckBall_s ⟨[(.var 0), (.var 1), (.var 2)], [], []⟩ ⟨[(.var 0), (.var 1), (.var 2), (.var 6)], [], []⟩ ⟨94, [(.agg [(.complex .f64 (.var 0) (.var 1)), (.int .i64 (.var 2))])], [], [none, none, none, none, none, none, none, none, none], (.int .i64 (.var 6)), []⟩
  (.ite (.icmp .eql (.var 6) (.lit 0))
  (.call ball_CheckBall_s ⟨[(.var 3), (.var 4), (.var 5)], [], []⟩ ⟨[(.var 3), (.var 4), (.var 5), (.var 7)], [], []⟩ ⟨94, [(.agg [(.complex .f64 (.var 3) (.var 4)), (.int .i64 (.var 5))])], [], [none, none, none, none, none, none, none, none, none, none, none, none, none], (.int .i64 (.var 7)), []⟩
   (.ite (.icmp .eql (.var 7) (.lit 0))
   .nil
   (.ret ⟨[(.lit 0), (.lit 0), (.lit 0), (.var 7)], [], []⟩ [])))
  (.ret ⟨[(.lit 0), (.lit 0), (.lit 0), (.var 6)], [], []⟩ [])))
theorem mib {x0 x1 x2 x3 x4 x5 : Int} (r2 : (-9223372036854775808) ≤ x2 ∧ x2 ≤ 9223372036854775807) (r5 : (-9223372036854775808) ≤ x5 ∧ x5 ≤ 9223372036854775807) {R : Int → Int → Int → Int → Prop}
  (H : (∃ v6 : Int, Spec Try.prog ball_CheckBall_s ⟨[x0, x1, x2], [], []⟩ [v6] [] [] ∧
   ((((v6 : Int) == 0) = true → (∃ v7 : Int, Spec Try.prog ball_CheckBall_s ⟨[x3, x4, x5], [], []⟩ [v7] [] [] ∧
    ((((v7 : Int) == 0) = true → False) ∧
    (((v7 : Int) == 0) = false → R (0) (0) (0) (v7))))) ∧
   (((v6 : Int) == 0) = false → R (0) (0) (0) (v6))))) :
    ∃ v0 : Int, ∃ v1 : Int, ∃ v2 : Int, ∃ v3 : Int, R v0 v1 v2 v3 ∧ Spec Try.prog ball_Minus_s ⟨[x0, x1, x2, x3, x4, x5], [], []⟩ [v0, v1, v2, v3] [] [] :=
  Eq.mp (by kernel_rfl) (exV_of (K := fun d => app3 ball_Minus_s.out R d ∧ Spec Try.prog ball_Minus_s ⟨[x0, x1, x2, x3, x4, x5], [], []⟩ d.1 d.2.1 d.2.2) (tree_at mixed names S1_ok (S := S1 Try.prog) (lf := 100000) (d := 60) ball_Minus_s mib_t { ivs := [(2, (-9223372036854775808), 9223372036854775807), (5, (-9223372036854775808), 9223372036854775807)], aivs := [] } ⟨[x0, x1, x2, x3, x4, x5], [], []⟩ rfl (by kernel_rfl) (by kernel_rfl) (by kernel_rfl) ⟨(fc r2 (fc r5 fz)), fz, fz, fz⟩ (R := fun d => app3 ball_Minus_s.out R d) (Eq.mp (by kernel_rfl) H)))

def cjb_t : Tr :=
  (.call ball_CheckBall_s ⟨[(.var 0), (.var 1), (.var 2)], [], []⟩ ⟨[(.var 0), (.var 1), (.var 2), (.var 3)], [], []⟩ ⟨94, [(.agg [(.complex .f64 (.var 0) (.var 1)), (.int .i64 (.var 2))])], [], [none, none, none, none], (.int .i64 (.var 3)), []⟩
  (.ite (.icmp .eql (.var 3) (.lit 0))
  .nil
  (.ret ⟨[(.lit 0), (.lit 0), (.lit 0), (.var 3)], [], []⟩ [])))
theorem cjb {x0 x1 x2 : Int} (r2 : (-9223372036854775808) ≤ x2 ∧ x2 ≤ 9223372036854775807) {R : Int → Int → Int → Int → Prop}
  (H : (∃ v3 : Int, Spec Try.prog ball_CheckBall_s ⟨[x0, x1, x2], [], []⟩ [v3] [] [] ∧
   ((((v3 : Int) == 0) = true → False) ∧
   (((v3 : Int) == 0) = false → R (0) (0) (0) (v3))))) :
    ∃ v0 : Int, ∃ v1 : Int, ∃ v2 : Int, ∃ v3 : Int, R v0 v1 v2 v3 ∧ Spec Try.prog ball_Conj_s ⟨[x0, x1, x2], [], []⟩ [v0, v1, v2, v3] [] [] :=
  Eq.mp (by kernel_rfl) (exV_of (K := fun d => app3 ball_Conj_s.out R d ∧ Spec Try.prog ball_Conj_s ⟨[x0, x1, x2], [], []⟩ d.1 d.2.1 d.2.2) (tree_at mixed names S1_ok (S := S1 Try.prog) (lf := 100000) (d := 60) ball_Conj_s cjb_t { ivs := [(2, (-9223372036854775808), 9223372036854775807)], aivs := [] } ⟨[x0, x1, x2], [], []⟩ rfl (by kernel_rfl) (by kernel_rfl) (by kernel_rfl) ⟨(fc r2 fz), fz, fz, fz⟩ (R := fun d => app3 ball_Conj_s.out R d) (Eq.mp (by kernel_rfl) H)))

def tib_t : Tr :=
  (.call ball_CheckBall_s ⟨[(.var 0), (.var 1), (.var 2)], [], []⟩ ⟨[(.var 0), (.var 1), (.var 2), (.var 6)], [], []⟩ ⟨94, [(.agg [(.complex .f64 (.var 0) (.var 1)), (.int .i64 (.var 2))])], [], [none, none, none, none, none, none, none, none, none], (.int .i64 (.var 6)), []⟩
  (.ite (.icmp .eql (.var 6) (.lit 0))
  (.call ball_CheckBall_s ⟨[(.var 3), (.var 4), (.var 5)], [], []⟩ ⟨[(.var 3), (.var 4), (.var 5), (.var 7)], [], []⟩ ⟨94, [(.agg [(.complex .f64 (.var 3) (.var 4)), (.int .i64 (.var 5))])], [], [none, none, none, none, none, none, none, none, none, none, none, none, none], (.int .i64 (.var 7)), []⟩
   (.ite (.icmp .eql (.var 7) (.lit 0))
   .nil
   (.ret ⟨[(.lit 0), (.lit 0), (.lit 0), (.var 7)], [], []⟩ [])))
  (.ret ⟨[(.lit 0), (.lit 0), (.lit 0), (.var 6)], [], []⟩ [])))
theorem tib {x0 x1 x2 x3 x4 x5 : Int} (r2 : (-9223372036854775808) ≤ x2 ∧ x2 ≤ 9223372036854775807) (r5 : (-9223372036854775808) ≤ x5 ∧ x5 ≤ 9223372036854775807) {R : Int → Int → Int → Int → Prop}
  (H : (∃ v6 : Int, Spec Try.prog ball_CheckBall_s ⟨[x0, x1, x2], [], []⟩ [v6] [] [] ∧
   ((((v6 : Int) == 0) = true → (∃ v7 : Int, Spec Try.prog ball_CheckBall_s ⟨[x3, x4, x5], [], []⟩ [v7] [] [] ∧
    ((((v7 : Int) == 0) = true → False) ∧
    (((v7 : Int) == 0) = false → R (0) (0) (0) (v7))))) ∧
   (((v6 : Int) == 0) = false → R (0) (0) (0) (v6))))) :
    ∃ v0 : Int, ∃ v1 : Int, ∃ v2 : Int, ∃ v3 : Int, R v0 v1 v2 v3 ∧ Spec Try.prog ball_Times_s ⟨[x0, x1, x2, x3, x4, x5], [], []⟩ [v0, v1, v2, v3] [] [] :=
  Eq.mp (by kernel_rfl) (exV_of (K := fun d => app3 ball_Times_s.out R d ∧ Spec Try.prog ball_Times_s ⟨[x0, x1, x2, x3, x4, x5], [], []⟩ d.1 d.2.1 d.2.2) (tree_at mixed names S1_ok (S := S1 Try.prog) (lf := 100000) (d := 60) ball_Times_s tib_t { ivs := [(2, (-9223372036854775808), 9223372036854775807), (5, (-9223372036854775808), 9223372036854775807)], aivs := [] } ⟨[x0, x1, x2, x3, x4, x5], [], []⟩ rfl (by kernel_rfl) (by kernel_rfl) (by kernel_rfl) ⟨(fc r2 (fc r5 fz)), fz, fz, fz⟩ (R := fun d => app3 ball_Times_s.out R d) (Eq.mp (by kernel_rfl) H)))

def qub_t : Tr :=
  (.call ball_CheckBall_s ⟨[(.var 0), (.var 1), (.var 2)], [], []⟩ ⟨[(.var 0), (.var 1), (.var 2), (.var 6)], [], []⟩ ⟨94, [(.agg [(.complex .f64 (.var 0) (.var 1)), (.int .i64 (.var 2))])], [], [none, none, none, none, none, none, none, none, none], (.int .i64 (.var 6)), []⟩
  (.ite (.icmp .eql (.var 6) (.lit 0))
  (.call ball_CheckBall_s ⟨[(.var 3), (.var 4), (.var 5)], [], []⟩ ⟨[(.var 3), (.var 4), (.var 5), (.var 7)], [], []⟩ ⟨94, [(.agg [(.complex .f64 (.var 3) (.var 4)), (.int .i64 (.var 5))])], [], [none, none, none, none, none, none, none, none, none, none, none, none, none], (.int .i64 (.var 7)), []⟩
   (.ite (.icmp .eql (.var 7) (.lit 0))
   .nil
   (.ret ⟨[(.lit 0), (.lit 0), (.lit 0), (.var 7)], [], []⟩ [])))
  (.ret ⟨[(.lit 0), (.lit 0), (.lit 0), (.var 6)], [], []⟩ [])))
theorem qub {x0 x1 x2 x3 x4 x5 : Int} (r2 : (-9223372036854775808) ≤ x2 ∧ x2 ≤ 9223372036854775807) (r5 : (-9223372036854775808) ≤ x5 ∧ x5 ≤ 9223372036854775807) {R : Int → Int → Int → Int → Prop}
  (H : (∃ v6 : Int, Spec Try.prog ball_CheckBall_s ⟨[x0, x1, x2], [], []⟩ [v6] [] [] ∧
   ((((v6 : Int) == 0) = true → (∃ v7 : Int, Spec Try.prog ball_CheckBall_s ⟨[x3, x4, x5], [], []⟩ [v7] [] [] ∧
    ((((v7 : Int) == 0) = true → False) ∧
    (((v7 : Int) == 0) = false → R (0) (0) (0) (v7))))) ∧
   (((v6 : Int) == 0) = false → R (0) (0) (0) (v6))))) :
    ∃ v0 : Int, ∃ v1 : Int, ∃ v2 : Int, ∃ v3 : Int, R v0 v1 v2 v3 ∧ Spec Try.prog ball_Quotient_s ⟨[x0, x1, x2, x3, x4, x5], [], []⟩ [v0, v1, v2, v3] [] [] :=
  Eq.mp (by kernel_rfl) (exV_of (K := fun d => app3 ball_Quotient_s.out R d ∧ Spec Try.prog ball_Quotient_s ⟨[x0, x1, x2, x3, x4, x5], [], []⟩ d.1 d.2.1 d.2.2) (tree_at mixed names S1_ok (S := S1 Try.prog) (lf := 100000) (d := 60) ball_Quotient_s qub_t { ivs := [(2, (-9223372036854775808), 9223372036854775807), (5, (-9223372036854775808), 9223372036854775807)], aivs := [] } ⟨[x0, x1, x2, x3, x4, x5], [], []⟩ rfl (by kernel_rfl) (by kernel_rfl) (by kernel_rfl) ⟨(fc r2 (fc r5 fz)), fz, fz, fz⟩ (R := fun d => app3 ball_Quotient_s.out R d) (Eq.mp (by kernel_rfl) H)))

open Go.Proofs.Ytgdlddmbfockpaa.Gm

theorem nearest1_s {x d : Int} (h0 : -4611686018427387904 ≤ x) (h1 : x ≤ 4611686018427387904) (hd : 0 < d) (hd' : d ≤ 4611686018427387904) : Spec Try.prog whole_Nearest_s ⟨[x, 1, d], [], []⟩ [rdiv x d] [wholeB x d] [] := by

  have := nearest_s (x := x) (y := 1) (d := d) (DvIn_by (X := 4611686018427387904) (Y := 1) h0 h1 (by omega) (by omega) hd hd' (by decide) (by decide) (by decide))

  rwa [Int.mul_one] at this

theorem upper1_s {x d : Int} (h0 : -4611686018427387904 ≤ x) (h1 : x ≤ 4611686018427387904) (hd : 0 < d) (hd' : d ≤ 4611686018427387904) : Spec Try.prog whole_Upper_s ⟨[x, 1, d], [], []⟩ [cdiv x d] [] [] := by

  have := upper_s (x := x) (y := 1) (d := d) (DvIn_by (X := 4611686018427387904) (Y := 1) h0 h1 (by omega) (by omega) hd hd' (by decide) (by decide) (by decide))

  rwa [Int.mul_one] at this

theorem lower1_s {x d : Int} (h0 : -4611686018427387904 ≤ x) (h1 : x ≤ 4611686018427387904) (hd : 0 < d) (hd' : d ≤ 4611686018427387904) : Spec Try.prog whole_Lower_s ⟨[x, 1, d], [], []⟩ [x / d] [] [] := by

  have := lower_s (x := x) (y := 1) (d := d) (DvIn_by (X := 4611686018427387904) (Y := 1) h0 h1 (by omega) (by omega) hd hd' (by decide) (by decide) (by decide))

  rwa [Int.mul_one] at this

/-- One more where one of two was not whole. -/

def mo (u v : Bool) (r : Int) : Int := if u = true ∧ v = true then r else r + 1

def plusQ (X Y r Z W s : Int) : Bq := bk (X + Z) (Y + W) (r + s)

def minusQ (X Y r Z W s : Int) : Bq := bk (X - Z) (Y - W) (r + s)

def conjQ (X Y r : Int) : Bq := ⟨X, 0 - Y, r, 0⟩

def timesQ (X Y r Z W s : Int) : Bq := bk (rdiv (X * Z - Y * W) 1048576) (rdiv (X * W + Y * Z) 1048576) (mo (wholeB (X * Z - Y * W) 1048576) (wholeB (X * W + Y * Z) 1048576) (cdiv (upw X Y * s + upw Z W * r + r * s) 1048576))

theorem plus_good {a b c d : Nat} {r s X Y Z W : Int} (h : RB a b r X Y) (g : RB c d s Z W) : Spec Try.prog ball_Plus_s ⟨[(a : Int), (b : Int), r, (c : Int), (d : Int), s], [], []⟩ [F (plusQ X Y r Z W s).x, F (plusQ X Y r Z W s).y, (plusQ X Y r Z W s).r, (plusQ X Y r Z W s).e] [] [] := by

  obtain ⟨pa, pb, hx, hy, hr⟩ := h

  obtain ⟨pc, pd, hz, hw, hs⟩ := g

  have hq : plusQ X Y r Z W s = bk (X + Z) (Y + W) (r + s) := rfl

  refine BqF.out (pl (x0 := (a : Int)) (x1 := (b : Int)) (x3 := (c : Int)) (x4 := (d : Int)) hr hs (R := BqF _) ⟨X, ⟨pa, by omega⟩, hx, Y, ⟨pb, by omega⟩, hy, Z, ⟨pc, by omega⟩, hz, W, ⟨pd, by omega⟩, hw, ?_⟩)

  exact bk_tree hq

theorem minus_good {a b c d : Nat} {r s X Y Z W : Int} (h : RB a b r X Y) (g : RB c d s Z W) : Spec Try.prog ball_Minus_s ⟨[(a : Int), (b : Int), r, (c : Int), (d : Int), s], [], []⟩ [F (minusQ X Y r Z W s).x, F (minusQ X Y r Z W s).y, (minusQ X Y r Z W s).r, (minusQ X Y r Z W s).e] [] [] := by

  obtain ⟨pa, pb, hx, hy, hr⟩ := h

  obtain ⟨pc, pd, hz, hw, hs⟩ := g

  have hq : minusQ X Y r Z W s = bk (X - Z) (Y - W) (r + s) := rfl

  refine BqF.out (mi (x0 := (a : Int)) (x1 := (b : Int)) (x3 := (c : Int)) (x4 := (d : Int)) hr hs (R := BqF _) ⟨X, ⟨pa, by omega⟩, hx, Y, ⟨pb, by omega⟩, hy, Z, ⟨pc, by omega⟩, hz, W, ⟨pd, by omega⟩, hw, ?_⟩)

  exact bk_tree hq

theorem conj_good {a b : Nat} {r X Y : Int} (h : RB a b r X Y) : Spec Try.prog ball_Conj_s ⟨[(a : Int), (b : Int), r], [], []⟩ [F (conjQ X Y r).x, F (conjQ X Y r).y, (conjQ X Y r).r, (conjQ X Y r).e] [] [] := by

  obtain ⟨pa, pb, hx, hy, hr⟩ := h

  exact BqF.out (cj (x0 := (a : Int)) (x1 := (b : Int)) hr (R := BqF _) ⟨X, ⟨pa, by omega⟩, hx, Y, ⟨pb, by omega⟩, hy, rfl, rfl, rfl, rfl⟩)

theorem times_good {a b c d : Nat} {r s X Y Z W : Int} (h : RB a b r X Y) (g : RB c d s Z W) : Spec Try.prog ball_Times_s ⟨[(a : Int), (b : Int), r, (c : Int), (d : Int), s], [], []⟩ [F (timesQ X Y r Z W s).x, F (timesQ X Y r Z W s).y, (timesQ X Y r Z W s).r, (timesQ X Y r Z W s).e] [] [] := by

  obtain ⟨pa, pb, hx, hy, hr⟩ := h

  obtain ⟨pc, pd, hz, hw, hs⟩ := g

  have m1 := mb hx hz

  have m2 := mb hy hw

  have m3 := mb hx hw

  have m4 := mb hy hz

  obtain ⟨z1, _, u1⟩ := sz_bd hx hy

  obtain ⟨z2, _, u2⟩ := sz_bd hz hw

  have m5 := mb (n := upw X Y) (N := 94906266) (a := s) (A := 67108864) (by omega) (by omega)

  have m6 := mb (n := upw Z W) (N := 94906266) (a := r) (A := 67108864) (by omega) (by omega)

  have m7 := mb (n := r) (N := 67108864) (a := s) (A := 67108864) (by omega) (by omega)

  have p5 : 0 ≤ upw X Y * s := Int.mul_nonneg (by omega) (by omega)

  have p6 : 0 ≤ upw Z W * r := Int.mul_nonneg (by omega) (by omega)

  have p7 : 0 ≤ r * s := Int.mul_nonneg (by omega) (by omega)

  have n1 := nearest1_s (x := X * Z - Y * W) (d := 1048576) (by omega) (by omega) (by omega) (by omega)

  have n2 := nearest1_s (x := X * W + Y * Z) (d := 1048576) (by omega) (by omega) (by omega) (by omega)

  have b1 : (-8589934593) ≤ rdiv (X * Z - Y * W) 1048576 ∧ rdiv (X * Z - Y * W) 1048576 ≤ 8589934593 := by unfold rdiv; omega

  have b2 : (-8589934593) ≤ rdiv (X * W + Y * Z) 1048576 ∧ rdiv (X * W + Y * Z) 1048576 ≤ 8589934593 := by unfold rdiv; omega

  have q1 := upper1_s (x := upw X Y * s + upw Z W * r + r * s) (d := 1048576) (by omega) (by omega) (by omega) (by omega)

  have c1 : 0 ≤ cdiv (upw X Y * s + upw Z W * r + r * s) 1048576 ∧ cdiv (upw X Y * s + upw Z W * r + r * s) 1048576 ≤ 9007199254740992 := by unfold cdiv; omega

  have t1 := rootUp_s (n := X * X + Y * Y) z1.1 (by omega)

  have t2 := rootUp_s (n := Z * Z + W * W) z2.1 (by omega)

  have hq : timesQ X Y r Z W s = bk _ _ _ := rfl

  refine BqF.out (ti (x0 := (a : Int)) (x1 := (b : Int)) (x3 := (c : Int)) (x4 := (d : Int)) hr hs (R := BqF _) ⟨X, ⟨pa, by omega⟩, hx, Y, ⟨pb, by omega⟩, hy, Z, ⟨pc, by omega⟩, hz, W, ⟨pd, by omega⟩, hw, _, _, n1, b1, _, _, n2, b2, ?_⟩)

  clear n1 n2 m1 m2 m3 m4

  generalize timesQ X Y r Z W s = Q at *

  generalize wholeB (X * Z - Y * W) 1048576 = w1 at *

  generalize wholeB (X * W + Y * Z) 1048576 = w2 at *

  have k : ∀ x, mo w1 w2 x = if w1 = true ∧ w2 = true then x else x + 1 := fun _ => rfl

  rw [k] at hq

  have u1' : 0 ≤ rtu (X * X + Y * Y) ∧ rtu (X * X + Y * Y) ≤ 100000000 := ⟨u1.1, Int.le_trans u1.2 (by decide)⟩

  have u2' : 0 ≤ rtu (Z * Z + W * W) ∧ rtu (Z * Z + W * W) ≤ 100000000 := ⟨u2.1, Int.le_trans u2.2 (by decide)⟩

  cases w1 <;> cases w2

  all_goals (simp only [reduceCtorEq, and_self, and_true, true_and, and_false, false_and, if_true, if_false, false_implies, true_implies, Bool.false_eq_true, Bool.true_eq_false] at hq ⊢)

  all_goals exact ⟨_, t1, u1', _, t2, u2', _, q1, c1, bk_tree hq⟩

end Go.Proofs.Ytgdlddmbfockpaa.Ev
