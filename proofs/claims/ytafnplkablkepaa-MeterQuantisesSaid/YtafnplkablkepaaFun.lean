/- Unit numbers for psi, by halves; parts of a ball. -/
import Derived.Test.YtafnplkablkepaaFrd
namespace Go.Proofs.Ytafnplkablkepaa.Ev
set_option linter.unusedSimpArgs false
open Go Go.RowKit
set_option linter.unusedVariables false
set_option maxRecDepth 100000
def ball_bisector_s : Sig := ⟨113, ⟨4, 0, 0⟩, ⟨2, 0, 0⟩, [(.complex .f64 (.var 0) (.var 1)), (.complex .f64 (.var 2) (.var 3))], [], (.complex .f64 (.var 4) (.var 5)), []⟩
def ball_halved_s : Sig := ⟨111, ⟨1, 0, 0⟩, ⟨2, 0, 0⟩, [(.int .i64 (.var 0))], [], (.complex .f64 (.var 1) (.var 2)), []⟩
def ball_direction_s : Sig := ⟨104, ⟨1, 0, 0⟩, ⟨2, 0, 0⟩, [(.int .i64 (.var 0))], [], (.complex .f64 (.var 1) (.var 2)), []⟩
def ball_arc_s : Sig := ⟨98, ⟨2, 0, 0⟩, ⟨4, 0, 0⟩, [(.agg [(.int .i64 (.var 0)), (.int .i64 (.var 1))])], [], (.tuple [(.agg [(.complex .f64 (.var 2) (.var 3)), (.int .i64 (.var 4))]), (.int .i64 (.var 5))]), []⟩
def ball_Unit_s : Sig := ⟨92, ⟨2, 0, 0⟩, ⟨4, 0, 0⟩, [(.int .i64 (.var 0)), (.int .i64 (.var 1))], [], (.tuple [(.agg [(.complex .f64 (.var 2) (.var 3)), (.int .i64 (.var 4))]), (.int .i64 (.var 5))]), []⟩
def ball_PartsOf_s : Sig := ⟨93, ⟨3, 0, 0⟩, ⟨5, 0, 0⟩, [(.agg [(.complex .f64 (.var 0) (.var 1)), (.int .i64 (.var 2))])], [], (.tuple [(.agg [(.int .i64 (.var 3)), (.int .i64 (.var 4)), (.int .i64 (.var 5)), (.int .i64 (.var 6))]), (.int .i64 (.var 7))]), []⟩

def bs_t : Tr :=
  (.whole 0 67108864 (.rng 4 (-67108864) 67108864 (.whole 1 67108864 (.rng 5 (-67108864) 67108864 (.whole 2 67108864 (.rng 6 (-67108864) 67108864 (.whole 3 67108864 (.rng 7 (-67108864) 67108864 (.call whole_RootDown_s ⟨[(.bin .addI (.bin .mulI (.bin .addI (.var 4) (.var 6)) (.bin .addI (.var 4) (.var 6))) (.bin .mulI (.bin .addI (.var 5) (.var 7)) (.bin .addI (.var 5) (.var 7))))], [], []⟩ ⟨[(.bin .addI (.bin .mulI (.bin .addI (.var 4) (.var 6)) (.bin .addI (.var 4) (.var 6))) (.bin .mulI (.bin .addI (.var 5) (.var 7)) (.bin .addI (.var 5) (.var 7)))), (.var 8)], [], []⟩ ⟨116, [(.int .i64 (.bin .addI (.bin .mulI (.bin .addI (.var 4) (.var 6)) (.bin .addI (.var 4) (.var 6))) (.bin .mulI (.bin .addI (.var 5) (.var 7)) (.bin .addI (.var 5) (.var 7)))))], [], [], (.int .i64 (.var 8)), []⟩
  (.call whole_Lower_s ⟨[(.bin .addI (.var 4) (.var 6)), (.lit 67108864), (.var 8)], [], []⟩ ⟨[(.bin .addI (.var 4) (.var 6)), (.lit 67108864), (.var 8), (.var 9)], [], []⟩ ⟨89, [(.int .i64 (.bin .addI (.var 4) (.var 6))), (.int .i64 (.lit 67108864)), (.int .i64 (.var 8))], [], [none], (.int .i64 (.var 9)), []⟩
  (.call whole_Lower_s ⟨[(.bin .addI (.var 5) (.var 7)), (.lit 67108864), (.var 8)], [], []⟩ ⟨[(.bin .addI (.var 5) (.var 7)), (.lit 67108864), (.var 8), (.var 10)], [], []⟩ ⟨89, [(.int .i64 (.bin .addI (.var 5) (.var 7))), (.int .i64 (.lit 67108864)), (.int .i64 (.var 8))], [], [none], (.int .i64 (.var 10)), []⟩
  (.ret ⟨[(.toF .f64 (.var 9)), (.toF .f64 (.var 10))], [], []⟩ []))))))))))))
theorem bs {x0 x1 x2 x3 : Int} {R : Int → Int → Prop}
  (H : (∃ v4 : Int, (Rp (x0 : Int).toNat v4 ∧ v4.natAbs ≤ 67108864) ∧ (((-67108864) ≤ (v4 : Int) ∧ (v4 : Int) ≤ 67108864) ∧ (∃ v5 : Int, (Rp (x1 : Int).toNat v5 ∧ v5.natAbs ≤ 67108864) ∧ (((-67108864) ≤ (v5 : Int) ∧ (v5 : Int) ≤ 67108864) ∧ (∃ v6 : Int, (Rp (x2 : Int).toNat v6 ∧ v6.natAbs ≤ 67108864) ∧ (((-67108864) ≤ (v6 : Int) ∧ (v6 : Int) ≤ 67108864) ∧ (∃ v7 : Int, (Rp (x3 : Int).toNat v7 ∧ v7.natAbs ≤ 67108864) ∧ (((-67108864) ≤ (v7 : Int) ∧ (v7 : Int) ≤ 67108864) ∧ (∃ v8 : Int, Spec Try.prog whole_RootDown_s ⟨[(((v4 + v6) * (v4 + v6)) + ((v5 + v7) * (v5 + v7)))], [], []⟩ [v8] [] [] ∧
   (∃ v9 : Int, Spec Try.prog whole_Lower_s ⟨[(v4 + v6), 67108864, v8], [], []⟩ [v9] [] [] ∧
   (∃ v10 : Int, Spec Try.prog whole_Lower_s ⟨[(v5 + v7), 67108864, v8], [], []⟩ [v10] [] [] ∧
   R (((FloatKind.f64.nearest v9 : Nat) : Int)) (((FloatKind.f64.nearest v10 : Nat) : Int)))))))))))))) :
    ∃ v0 : Int, ∃ v1 : Int, R v0 v1 ∧ Spec Try.prog ball_bisector_s ⟨[x0, x1, x2, x3], [], []⟩ [v0, v1] [] [] :=
  Eq.mp (by kernel_rfl) (exV_of (K := fun d => app3 ball_bisector_s.out R d ∧ Spec Try.prog ball_bisector_s ⟨[x0, x1, x2, x3], [], []⟩ d.1 d.2.1 d.2.2) (tree_at mixed names S1_ok (S := S1 Try.prog) (lf := 100000) (d := 60) ball_bisector_s bs_t { ivs := [], aivs := [] } ⟨[x0, x1, x2, x3], [], []⟩ rfl (by kernel_rfl) (by kernel_rfl) (by kernel_rfl) ⟨fz, fz, fz, fz⟩ (R := fun d => app3 ball_bisector_s.out R d) (Eq.mp (by kernel_rfl) H)))

def hv_t : Tr :=
  (.ite (.icmp .eql (.var 0) (.lit 524288))
  (.ret ⟨[(.lit 4721637861420433408), (.lit 4721637861420433408)], [], []⟩ [])
  (.loop ⟨111, [0, 0, 1, 1, 1, 1], [(.int .i64 (.var 0)), (.tuple []), (.complex .f64 (.toF .f64 (.lit 0)) (.toF .f64 (.lit 0))), (.int .i64 (.lit 0)), (.int .i64 (.lit 524288)), (.complex .f64 (.lit 4724276009111650304) (.lit 0)), (.complex .f64 (.lit 4721637861420433408) (.lit 4721637861420433408)), (.tuple []), (.tuple []), (.complex .f64 (.lit 4724276009111650304) (.lit 0)), (.complex .f64 (.lit 4721637861420433408) (.lit 4721637861420433408)), (.int .i64 (.var 0)), (.int .i64 (.lit 524288)), (.bool (.icmp .eql (.var 0) (.lit 524288))), (.tuple []), (.tuple []), (.tuple []), (.tuple []), (.tuple []), (.tuple []), (.tuple []), (.tuple []), (.tuple []), (.tuple []), (.tuple []), (.tuple []), (.tuple []), (.tuple []), (.tuple []), (.tuple []), (.tuple []), (.tuple []), (.tuple [])], [], [], [(.int .i64 (.var 0)), (.tuple []), (.complex .f64 (.toF .f64 (.lit 0)) (.toF .f64 (.lit 0))), (.int .i64 (.var 1)), (.int .i64 (.var 2)), (.complex .f64 (.var 3) (.var 4)), (.complex .f64 (.var 5) (.var 6)), (.any 7), (.any 8), (.complex .f64 (.lit 4724276009111650304) (.lit 0)), (.complex .f64 (.lit 4721637861420433408) (.lit 4721637861420433408)), (.int .i64 (.var 0)), (.int .i64 (.lit 524288)), (.bool (.icmp .eql (.var 0) (.lit 524288))), (.tuple []), (.any 15), (.any 16), (.any 17), (.any 18), (.any 19), (.any 20), (.any 21), (.any 22), (.any 23), (.any 24), (.any 25), (.any 26), (.any 27), (.any 28), (.any 29), (.any 30), (.any 31), (.tuple [])], [], [], ⟨6, 0, 0⟩, ⟨[(.lit 0), (.lit 524288), (.lit 4724276009111650304), (.lit 0), (.lit 4721637861420433408), (.lit 4721637861420433408)], [], []⟩, []⟩
   (.rng 1 (-9223372036854775808) 9223372036854775807 (.rng 2 (-9223372036854775808) 9223372036854775807 (.ite (.icmp .eql (.var 1) (.var 0))
    (.out 0 ⟨[(.var 2), (.var 3), (.var 4), (.var 5), (.var 6)], [], []⟩ [])
    (.call ball_bisector_s ⟨[(.var 3), (.var 4), (.var 5), (.var 6)], [], []⟩ ⟨[(.var 3), (.var 4), (.var 5), (.var 6), (.var 7), (.var 8)], [], []⟩ ⟨113, [(.complex .f64 (.var 3) (.var 4)), (.complex .f64 (.var 5) (.var 6))], [], [], (.complex .f64 (.var 7) (.var 8)), []⟩
     (.ite (.icmp .leq (.bin .quoI (.bin (.addW .i64) (.var 1) (.var 2)) (.lit 2)) (.var 0))
     (.next ⟨[(.bin .quoI (.bin (.addW .i64) (.var 1) (.var 2)) (.lit 2)), (.var 2), (.var 7), (.var 8), (.var 5), (.var 6)], [], []⟩ [])
     (.next ⟨[(.var 1), (.bin .quoI (.bin (.addW .i64) (.var 1) (.var 2)) (.lit 2)), (.var 3), (.var 4), (.var 7), (.var 8)], [], []⟩ []))))))
   (.ex ((.exit 0), [(.int .i64 (.var 0)), (.tuple []), (.complex .f64 (.toF .f64 (.lit 0)) (.toF .f64 (.lit 0))), (.any 3), (.int .i64 (.var 1)), (.complex .f64 (.var 2) (.var 3)), (.complex .f64 (.var 4) (.var 5)), (.any 7), (.any 8), (.complex .f64 (.lit 4724276009111650304) (.lit 0)), (.complex .f64 (.lit 4721637861420433408) (.lit 4721637861420433408)), (.int .i64 (.var 0)), (.int .i64 (.lit 524288)), (.bool (.icmp .eql (.var 0) (.lit 524288))), (.tuple []), (.any 15), (.any 16), (.any 17), (.any 18), (.any 19), (.any 20), (.any 21), (.any 22), (.any 23), (.any 24), (.any 25), (.any 26), (.any 27), (.any 28), (.any 29), (.any 30), (.any 31), (.tuple [])], [], []) ⟨5, 0, 0⟩
   (.rng 1 (-9223372036854775808) 9223372036854775807 (.ret ⟨[(.var 2), (.var 3)], [], []⟩ []))
   .nil)))
theorem hv {x0 : Int} (r0 : 0 ≤ x0 ∧ x0 ≤ 524288) {R : Int → Int → Prop}
  (H : ((((x0 : Int) == 524288) = true → R (4721637861420433408) (4721637861420433408)) ∧
   (((x0 : Int) == 524288) = false → (∃ (I1 : Int → Int → Int → Int → Int → Int → Prop) (rk1 : Int → Int → Int → Int → Int → Int → Nat), I1 (0) (524288) (4724276009111650304) (0) (4721637861420433408) (4721637861420433408) ∧
    (∀ x1 : Int, ∀ x2 : Int, ∀ x3 : Int, ∀ x4 : Int, ∀ x5 : Int, ∀ x6 : Int, I1 x1 x2 x3 x4 x5 x6 → (((-9223372036854775808) ≤ (x1 : Int) ∧ (x1 : Int) ≤ 9223372036854775807) ∧ (((-9223372036854775808) ≤ (x2 : Int) ∧ (x2 : Int) ≤ 9223372036854775807) ∧ ((((x1 : Int) == x0) = true → (((-9223372036854775808) ≤ ((x2) : Int) ∧ ((x2) : Int) ≤ 9223372036854775807) ∧ R ((x3)) ((x4)))) ∧
     (((x1 : Int) == x0) = false → (∃ v7 : Int, ∃ v8 : Int, Spec Try.prog ball_bisector_s ⟨[x3, x4, x5, x6], [], []⟩ [v7, v8] [] [] ∧
      ((decide ((((IntKind.i64.wrap (x1 + x2) : Int).tdiv (2)) : Int) ≤ x0) = true → (I1 (((IntKind.i64.wrap (x1 + x2) : Int).tdiv (2))) (x2) (v7) (v8) (x5) (x6) ∧ rk1 (((IntKind.i64.wrap (x1 + x2) : Int).tdiv (2))) (x2) (v7) (v8) (x5) (x6) < rk1 x1 x2 x3 x4 x5 x6)) ∧
      (decide ((((IntKind.i64.wrap (x1 + x2) : Int).tdiv (2)) : Int) ≤ x0) = false → (I1 (x1) (((IntKind.i64.wrap (x1 + x2) : Int).tdiv (2))) (x3) (x4) (v7) (v8) ∧ rk1 (x1) (((IntKind.i64.wrap (x1 + x2) : Int).tdiv (2))) (x3) (x4) (v7) (v8) < rk1 x1 x2 x3 x4 x5 x6))))))))))))) :
    ∃ v0 : Int, ∃ v1 : Int, R v0 v1 ∧ Spec Try.prog ball_halved_s ⟨[x0], [], []⟩ [v0, v1] [] [] :=
  Eq.mp (by kernel_rfl) (exV_of (K := fun d => app3 ball_halved_s.out R d ∧ Spec Try.prog ball_halved_s ⟨[x0], [], []⟩ d.1 d.2.1 d.2.2) (tree_at mixed names S1_ok (S := S1 Try.prog) (lf := 100000) (d := 60) ball_halved_s hv_t { ivs := [(0, 0, 524288)], aivs := [] } ⟨[x0], [], []⟩ rfl (by kernel_rfl) (by kernel_rfl) (by kernel_rfl) ⟨(fc r0 fz), fz, fz, fz⟩ (R := fun d => app3 ball_halved_s.out R d) (Eq.mp (by kernel_rfl) H)))

def dr_t : Tr :=
  (.ite (.icmp .leq (.lit 2097152) (.bin (.andK .i64) (.var 0) (.lit 4194303)))
  (.call ball_direction_s ⟨[(.bin .subI (.bin (.andK .i64) (.var 0) (.lit 4194303)) (.lit 2097152))], [], []⟩ ⟨[(.bin .subI (.bin (.andK .i64) (.var 0) (.lit 4194303)) (.lit 2097152)), (.var 1), (.var 2)], [], []⟩ ⟨104, [(.int .i64 (.bin .subI (.bin (.andK .i64) (.var 0) (.lit 4194303)) (.lit 2097152)))], [], [], (.complex .f64 (.var 1) (.var 2)), []⟩
   (.whole 1 67108864 (.rng 3 (-67108864) 67108864 (.whole 2 67108864 (.rng 4 (-67108864) 67108864 (.ret ⟨[(.fop .sub .f64 (.fop .mul .f64 (.var 1) (.toF .f64 (.lit (-1)))) (.fop .mul .f64 (.var 2) (.toF .f64 (.lit 0)))), (.fop .add .f64 (.fop .mul .f64 (.var 1) (.toF .f64 (.lit 0))) (.fop .mul .f64 (.var 2) (.toF .f64 (.lit (-1)))))], [], []⟩ []))))))
  (.ite (.icmp .leq (.lit 1048576) (.bin (.andK .i64) (.var 0) (.lit 4194303)))
   (.call ball_direction_s ⟨[(.bin .subI (.bin (.andK .i64) (.var 0) (.lit 4194303)) (.lit 1048576))], [], []⟩ ⟨[(.bin .subI (.bin (.andK .i64) (.var 0) (.lit 4194303)) (.lit 1048576)), (.var 1), (.var 2)], [], []⟩ ⟨104, [(.int .i64 (.bin .subI (.bin (.andK .i64) (.var 0) (.lit 4194303)) (.lit 1048576)))], [], [], (.complex .f64 (.var 1) (.var 2)), []⟩
    (.whole 1 67108864 (.rng 3 (-67108864) 67108864 (.whole 2 67108864 (.rng 4 (-67108864) 67108864 (.ret ⟨[(.fop .sub .f64 (.fop .mul .f64 (.var 1) (.toF .f64 (.lit 0))) (.fop .mul .f64 (.var 2) (.toF .f64 (.lit 1)))), (.fop .add .f64 (.fop .mul .f64 (.var 1) (.toF .f64 (.lit 1))) (.fop .mul .f64 (.var 2) (.toF .f64 (.lit 0))))], [], []⟩ []))))))
   (.ite (.icmp .leq (.bin (.andK .i64) (.var 0) (.lit 4194303)) (.lit 524288))
    (.call ball_halved_s ⟨[(.bin (.andK .i64) (.var 0) (.lit 4194303))], [], []⟩ ⟨[(.bin (.andK .i64) (.var 0) (.lit 4194303)), (.var 1), (.var 2)], [], []⟩ ⟨111, [(.int .i64 (.bin (.andK .i64) (.var 0) (.lit 4194303)))], [], [], (.complex .f64 (.var 1) (.var 2)), []⟩
     (.ret ⟨[(.var 1), (.var 2)], [], []⟩ []))
    (.call ball_direction_s ⟨[(.bin .subI (.lit 1048576) (.bin (.andK .i64) (.var 0) (.lit 4194303)))], [], []⟩ ⟨[(.bin .subI (.lit 1048576) (.bin (.andK .i64) (.var 0) (.lit 4194303))), (.var 1), (.var 2)], [], []⟩ ⟨104, [(.int .i64 (.bin .subI (.lit 1048576) (.bin (.andK .i64) (.var 0) (.lit 4194303))))], [], [], (.complex .f64 (.var 1) (.var 2)), []⟩
     (.whole 1 67108864 (.rng 3 (-67108864) 67108864 (.whole 2 67108864 (.rng 4 (-67108864) 67108864 (.ret ⟨[(.toF .f64 (.var 4)), (.toF .f64 (.var 3))], [], []⟩ [])))))))))
theorem dr {x0 : Int} (r0 : 0 ≤ x0 ∧ x0 ≤ 2097152) {R : Int → Int → Prop}
  (H : ((decide ((2097152 : Int) ≤ (NOp.den (.andK .i64) x0 4194303)) = true → (∃ v1 : Int, ∃ v2 : Int, Spec Try.prog ball_direction_s ⟨[((NOp.den (.andK .i64) x0 4194303) - 2097152)], [], []⟩ [v1, v2] [] [] ∧
    (∃ v3 : Int, (Rp (v1 : Int).toNat v3 ∧ v3.natAbs ≤ 67108864) ∧ (((-67108864) ≤ (v3 : Int) ∧ (v3 : Int) ≤ 67108864) ∧ (∃ v4 : Int, (Rp (v2 : Int).toNat v4 ∧ v4.natAbs ≤ 67108864) ∧ (((-67108864) ≤ (v4 : Int) ∧ (v4 : Int) ≤ 67108864) ∧ R ((((fmt .sub .f64 ((((fmt .mul .f64 (v1 : Int).toNat (((FloatKind.f64.nearest (-1) : Nat) : Int) : Int).toNat).getD 0 : Nat) : Int) : Int).toNat ((((fmt .mul .f64 (v2 : Int).toNat (((FloatKind.f64.nearest 0 : Nat) : Int) : Int).toNat).getD 0 : Nat) : Int) : Int).toNat).getD 0 : Nat) : Int)) ((((fmt .add .f64 ((((fmt .mul .f64 (v1 : Int).toNat (((FloatKind.f64.nearest 0 : Nat) : Int) : Int).toNat).getD 0 : Nat) : Int) : Int).toNat ((((fmt .mul .f64 (v2 : Int).toNat (((FloatKind.f64.nearest (-1) : Nat) : Int) : Int).toNat).getD 0 : Nat) : Int) : Int).toNat).getD 0 : Nat) : Int)))))))) ∧
   (decide ((2097152 : Int) ≤ (NOp.den (.andK .i64) x0 4194303)) = false → ((decide ((1048576 : Int) ≤ (NOp.den (.andK .i64) x0 4194303)) = true → (∃ v1 : Int, ∃ v2 : Int, Spec Try.prog ball_direction_s ⟨[((NOp.den (.andK .i64) x0 4194303) - 1048576)], [], []⟩ [v1, v2] [] [] ∧
     (∃ v3 : Int, (Rp (v1 : Int).toNat v3 ∧ v3.natAbs ≤ 67108864) ∧ (((-67108864) ≤ (v3 : Int) ∧ (v3 : Int) ≤ 67108864) ∧ (∃ v4 : Int, (Rp (v2 : Int).toNat v4 ∧ v4.natAbs ≤ 67108864) ∧ (((-67108864) ≤ (v4 : Int) ∧ (v4 : Int) ≤ 67108864) ∧ R ((((fmt .sub .f64 ((((fmt .mul .f64 (v1 : Int).toNat (((FloatKind.f64.nearest 0 : Nat) : Int) : Int).toNat).getD 0 : Nat) : Int) : Int).toNat ((((fmt .mul .f64 (v2 : Int).toNat (((FloatKind.f64.nearest 1 : Nat) : Int) : Int).toNat).getD 0 : Nat) : Int) : Int).toNat).getD 0 : Nat) : Int)) ((((fmt .add .f64 ((((fmt .mul .f64 (v1 : Int).toNat (((FloatKind.f64.nearest 1 : Nat) : Int) : Int).toNat).getD 0 : Nat) : Int) : Int).toNat ((((fmt .mul .f64 (v2 : Int).toNat (((FloatKind.f64.nearest 0 : Nat) : Int) : Int).toNat).getD 0 : Nat) : Int) : Int).toNat).getD 0 : Nat) : Int)))))))) ∧
    (decide ((1048576 : Int) ≤ (NOp.den (.andK .i64) x0 4194303)) = false → ((decide (((NOp.den (.andK .i64) x0 4194303) : Int) ≤ 524288) = true → (∃ v1 : Int, ∃ v2 : Int, Spec Try.prog ball_halved_s ⟨[(NOp.den (.andK .i64) x0 4194303)], [], []⟩ [v1, v2] [] [] ∧
      R (v1) (v2))) ∧
     (decide (((NOp.den (.andK .i64) x0 4194303) : Int) ≤ 524288) = false → (∃ v1 : Int, ∃ v2 : Int, Spec Try.prog ball_direction_s ⟨[(1048576 - (NOp.den (.andK .i64) x0 4194303))], [], []⟩ [v1, v2] [] [] ∧
      (∃ v3 : Int, (Rp (v1 : Int).toNat v3 ∧ v3.natAbs ≤ 67108864) ∧ (((-67108864) ≤ (v3 : Int) ∧ (v3 : Int) ≤ 67108864) ∧ (∃ v4 : Int, (Rp (v2 : Int).toNat v4 ∧ v4.natAbs ≤ 67108864) ∧ (((-67108864) ≤ (v4 : Int) ∧ (v4 : Int) ≤ 67108864) ∧ R (((FloatKind.f64.nearest v4 : Nat) : Int)) (((FloatKind.f64.nearest v3 : Nat) : Int)))))))))))))) :
    ∃ v0 : Int, ∃ v1 : Int, R v0 v1 ∧ Spec Try.prog ball_direction_s ⟨[x0], [], []⟩ [v0, v1] [] [] :=
  Eq.mp (by kernel_rfl) (exV_of (K := fun d => app3 ball_direction_s.out R d ∧ Spec Try.prog ball_direction_s ⟨[x0], [], []⟩ d.1 d.2.1 d.2.2) (tree_at mixed names S1_ok (S := S1 Try.prog) (lf := 100000) (d := 60) ball_direction_s dr_t { ivs := [(0, 0, 2097152)], aivs := [] } ⟨[x0], [], []⟩ rfl (by kernel_rfl) (by kernel_rfl) (by kernel_rfl) ⟨(fc r0 fz), fz, fz, fz⟩ (R := fun d => app3 ball_direction_s.out R d) (Eq.mp (by kernel_rfl) H)))

def ar_t : Tr :=
  (.call whole_Lower_s ⟨[(.bin .addI (.var 0) (.var 1)), (.lit 1), (.lit 2)], [], []⟩ ⟨[(.bin .addI (.var 0) (.var 1)), (.lit 1), (.lit 2), (.var 2)], [], []⟩ ⟨89, [(.int .i64 (.bin .addI (.var 0) (.var 1))), (.int .i64 (.lit 1)), (.int .i64 (.lit 2))], [], [none, none], (.int .i64 (.var 2)), []⟩
  (.rng 2 0 2097152 (.call ball_direction_s ⟨[(.var 2)], [], []⟩ ⟨[(.var 2), (.var 3), (.var 4)], [], []⟩ ⟨104, [(.int .i64 (.var 2))], [], [none, none], (.complex .f64 (.var 3) (.var 4)), []⟩
  (.whole 3 67108864 (.rng 5 (-67108864) 67108864 (.whole 4 67108864 (.rng 6 (-67108864) 67108864 (.call whole_Nearest_s ⟨[(.var 5), (.lit 1), (.lit 64)], [], []⟩ ⟨[(.var 5), (.lit 1), (.lit 64), (.var 7)], [(.var 0)], []⟩ ⟨44, [(.int .i64 (.var 5)), (.int .i64 (.lit 1)), (.int .i64 (.lit 64))], [], [none, none, none], (.tuple [(.int .i64 (.var 7)), (.bool (.var 0))]), []⟩
  (.rng 7 (-1048576) 1048576 (.call whole_Nearest_s ⟨[(.var 6), (.lit 1), (.lit 64)], [], []⟩ ⟨[(.var 6), (.lit 1), (.lit 64), (.var 8)], [(.var 1)], []⟩ ⟨44, [(.int .i64 (.var 6)), (.int .i64 (.lit 1)), (.int .i64 (.lit 64))], [], [none, none, none], (.tuple [(.int .i64 (.var 8)), (.bool (.var 1))]), []⟩
  (.rng 8 (-1048576) 1048576 (.ite (.var 0)
  (.call whole_Upper_s ⟨[(.bin .subI (.var 1) (.var 2)), (.lit 11), (.lit 7)], [], []⟩ ⟨[(.bin .subI (.var 1) (.var 2)), (.lit 11), (.lit 7), (.var 9)], [], []⟩ ⟨90, [(.int .i64 (.bin .subI (.var 1) (.var 2))), (.int .i64 (.lit 11)), (.int .i64 (.lit 7))], [], [none, none], (.int .i64 (.var 9)), []⟩
   (.rng 9 0 10000000 (.ite (.icmp .eql (.var 0) (.var 1))
   (.ite (.icmp .eql (.bin .remK (.var 0) (.lit 1048576)) (.lit 0))
    (.ret ⟨[(.toF .f64 (.var 7)), (.toF .f64 (.var 8)), (.lit 0), (.lit 0)], [], []⟩ [])
    (.ret ⟨[(.toF .f64 (.var 7)), (.toF .f64 (.var 8)), (.bin .addI (.lit 2) (.var 9)), (.lit 0)], [], []⟩ []))
   (.ret ⟨[(.toF .f64 (.var 7)), (.toF .f64 (.var 8)), (.bin .addI (.lit 2) (.var 9)), (.lit 0)], [], []⟩ []))))
  (.call whole_Upper_s ⟨[(.bin .subI (.var 1) (.var 2)), (.lit 11), (.lit 7)], [], []⟩ ⟨[(.bin .subI (.var 1) (.var 2)), (.lit 11), (.lit 7), (.var 9)], [], []⟩ ⟨90, [(.int .i64 (.bin .subI (.var 1) (.var 2))), (.int .i64 (.lit 11)), (.int .i64 (.lit 7))], [], [none, none], (.int .i64 (.var 9)), []⟩
   (.rng 9 0 10000000 (.ite (.icmp .eql (.var 0) (.var 1))
   (.ite (.icmp .eql (.bin .remK (.var 0) (.lit 1048576)) (.lit 0))
    (.ret ⟨[(.toF .f64 (.var 7)), (.toF .f64 (.var 8)), (.lit 0), (.lit 0)], [], []⟩ [])
    (.ret ⟨[(.toF .f64 (.var 7)), (.toF .f64 (.var 8)), (.bin .addI (.lit 2) (.var 9)), (.lit 0)], [], []⟩ []))
   (.ret ⟨[(.toF .f64 (.var 7)), (.toF .f64 (.var 8)), (.bin .addI (.lit 2) (.var 9)), (.lit 0)], [], []⟩ []))))))))))))))))
theorem ar {x0 x1 : Int} (r0 : 0 ≤ x0 ∧ x0 ≤ 2097152) (r1 : 0 ≤ x1 ∧ x1 ≤ 2097152) {R : Int → Int → Int → Int → Prop}
  (H : (∃ v2 : Int, Spec Try.prog whole_Lower_s ⟨[(x0 + x1), 1, 2], [], []⟩ [v2] [] [] ∧
   ((0 ≤ (v2 : Int) ∧ (v2 : Int) ≤ 2097152) ∧ (∃ v3 : Int, ∃ v4 : Int, Spec Try.prog ball_direction_s ⟨[v2], [], []⟩ [v3, v4] [] [] ∧
   (∃ v5 : Int, (Rp (v3 : Int).toNat v5 ∧ v5.natAbs ≤ 67108864) ∧ (((-67108864) ≤ (v5 : Int) ∧ (v5 : Int) ≤ 67108864) ∧ (∃ v6 : Int, (Rp (v4 : Int).toNat v6 ∧ v6.natAbs ≤ 67108864) ∧ (((-67108864) ≤ (v6 : Int) ∧ (v6 : Int) ≤ 67108864) ∧ (∃ v7 : Int, ∃ u0 : Bool, Spec Try.prog whole_Nearest_s ⟨[v5, 1, 64], [], []⟩ [v7] [u0] [] ∧
   (((-1048576) ≤ (v7 : Int) ∧ (v7 : Int) ≤ 1048576) ∧ (∃ v8 : Int, ∃ u1 : Bool, Spec Try.prog whole_Nearest_s ⟨[v6, 1, 64], [], []⟩ [v8] [u1] [] ∧
   (((-1048576) ≤ (v8 : Int) ∧ (v8 : Int) ≤ 1048576) ∧ ((u0 = true → (∃ v9 : Int, Spec Try.prog whole_Upper_s ⟨[(x1 - v2), 11, 7], [], []⟩ [v9] [] [] ∧
    ((0 ≤ (v9 : Int) ∧ (v9 : Int) ≤ 10000000) ∧ ((((x0 : Int) == x1) = true → ((((((x0 : Int).tmod (1048576)) : Int) == 0) = true → R (((FloatKind.f64.nearest v7 : Nat) : Int)) (((FloatKind.f64.nearest v8 : Nat) : Int)) (0) (0)) ∧
     (((((x0 : Int).tmod (1048576)) : Int) == 0) = false → R (((FloatKind.f64.nearest v7 : Nat) : Int)) (((FloatKind.f64.nearest v8 : Nat) : Int)) ((2 + v9)) (0)))) ∧
    (((x0 : Int) == x1) = false → R (((FloatKind.f64.nearest v7 : Nat) : Int)) (((FloatKind.f64.nearest v8 : Nat) : Int)) ((2 + v9)) (0)))))) ∧
   (u0 = false → (∃ v9 : Int, Spec Try.prog whole_Upper_s ⟨[(x1 - v2), 11, 7], [], []⟩ [v9] [] [] ∧
    ((0 ≤ (v9 : Int) ∧ (v9 : Int) ≤ 10000000) ∧ ((((x0 : Int) == x1) = true → ((((((x0 : Int).tmod (1048576)) : Int) == 0) = true → R (((FloatKind.f64.nearest v7 : Nat) : Int)) (((FloatKind.f64.nearest v8 : Nat) : Int)) (0) (0)) ∧
     (((((x0 : Int).tmod (1048576)) : Int) == 0) = false → R (((FloatKind.f64.nearest v7 : Nat) : Int)) (((FloatKind.f64.nearest v8 : Nat) : Int)) ((2 + v9)) (0)))) ∧
    (((x0 : Int) == x1) = false → R (((FloatKind.f64.nearest v7 : Nat) : Int)) (((FloatKind.f64.nearest v8 : Nat) : Int)) ((2 + v9)) (0))))))))))))))))))) :
    ∃ v0 : Int, ∃ v1 : Int, ∃ v2 : Int, ∃ v3 : Int, R v0 v1 v2 v3 ∧ Spec Try.prog ball_arc_s ⟨[x0, x1], [], []⟩ [v0, v1, v2, v3] [] [] :=
  Eq.mp (by kernel_rfl) (exV_of (K := fun d => app3 ball_arc_s.out R d ∧ Spec Try.prog ball_arc_s ⟨[x0, x1], [], []⟩ d.1 d.2.1 d.2.2) (tree_at mixed names S1_ok (S := S1 Try.prog) (lf := 100000) (d := 60) ball_arc_s ar_t { ivs := [(0, 0, 2097152), (1, 0, 2097152)], aivs := [] } ⟨[x0, x1], [], []⟩ rfl (by kernel_rfl) (by kernel_rfl) (by kernel_rfl) ⟨(fc r0 (fc r1 fz)), fz, fz, fz⟩ (R := fun d => app3 ball_arc_s.out R d) (Eq.mp (by kernel_rfl) H)))

def un_t : Tr :=
  (.call whole_Lower_s ⟨[(.var 0), (.lit 4194304), (.var 1)], [], []⟩ ⟨[(.var 0), (.lit 4194304), (.var 1), (.var 2)], [], []⟩ ⟨89, [(.int .i64 (.var 0)), (.int .i64 (.lit 4194304)), (.int .i64 (.var 1))], [], [none], (.int .i64 (.var 2)), []⟩
  (.call whole_Upper_s ⟨[(.var 0), (.lit 4194304), (.var 1)], [], []⟩ ⟨[(.var 0), (.lit 4194304), (.var 1), (.var 3)], [], []⟩ ⟨90, [(.int .i64 (.var 0)), (.int .i64 (.lit 4194304)), (.int .i64 (.var 1))], [], [none], (.int .i64 (.var 3)), []⟩
  (.call ball_arc_s ⟨[(.var 2), (.var 3)], [], []⟩ ⟨[(.var 2), (.var 3), (.var 4), (.var 5), (.var 6), (.var 7)], [], []⟩ ⟨98, [(.agg [(.int .i64 (.var 2)), (.int .i64 (.var 3))])], [], [none], (.tuple [(.agg [(.complex .f64 (.var 4) (.var 5)), (.int .i64 (.var 6))]), (.int .i64 (.var 7))]), []⟩
  (.ret ⟨[(.var 4), (.var 5), (.var 6), (.var 7)], [], []⟩ []))))
theorem un {x0 x1 : Int} (r0 : 0 ≤ x0 ∧ x0 ≤ 1024) (r1 : 2048 ≤ x1 ∧ x1 ≤ 2048) {R : Int → Int → Int → Int → Prop}
  (H : (∃ v2 : Int, Spec Try.prog whole_Lower_s ⟨[x0, 4194304, x1], [], []⟩ [v2] [] [] ∧
   (∃ v3 : Int, Spec Try.prog whole_Upper_s ⟨[x0, 4194304, x1], [], []⟩ [v3] [] [] ∧
   (∃ v4 : Int, ∃ v5 : Int, ∃ v6 : Int, ∃ v7 : Int, Spec Try.prog ball_arc_s ⟨[v2, v3], [], []⟩ [v4, v5, v6, v7] [] [] ∧
   R (v4) (v5) (v6) (v7))))) :
    ∃ v0 : Int, ∃ v1 : Int, ∃ v2 : Int, ∃ v3 : Int, R v0 v1 v2 v3 ∧ Spec Try.prog ball_Unit_s ⟨[x0, x1], [], []⟩ [v0, v1, v2, v3] [] [] :=
  Eq.mp (by kernel_rfl) (exV_of (K := fun d => app3 ball_Unit_s.out R d ∧ Spec Try.prog ball_Unit_s ⟨[x0, x1], [], []⟩ d.1 d.2.1 d.2.2) (tree_at mixed names S1_ok (S := S1 Try.prog) (lf := 100000) (d := 60) ball_Unit_s un_t { ivs := [(0, 0, 1024), (1, 2048, 2048)], aivs := [] } ⟨[x0, x1], [], []⟩ rfl (by kernel_rfl) (by kernel_rfl) (by kernel_rfl) ⟨(fc r0 (fc r1 fz)), fz, fz, fz⟩ (R := fun d => app3 ball_Unit_s.out R d) (Eq.mp (by kernel_rfl) H)))

def po_t : Tr :=
  (.whole 0 67108864 (.rng 3 (-67108864) 67108864 (.whole 1 67108864 (.rng 4 (-67108864) 67108864 (.ret ⟨[(.bin .subI (.var 3) (.var 2)), (.bin .addI (.var 3) (.var 2)), (.bin .subI (.var 4) (.var 2)), (.bin .addI (.var 4) (.var 2)), (.lit 0)], [], []⟩ [])))))
theorem po {x0 x1 x2 : Int} (r2 : 0 ≤ x2 ∧ x2 ≤ 67108864) {R : Int → Int → Int → Int → Int → Prop}
  (H : (∃ v3 : Int, (Rp (x0 : Int).toNat v3 ∧ v3.natAbs ≤ 67108864) ∧ (((-67108864) ≤ (v3 : Int) ∧ (v3 : Int) ≤ 67108864) ∧ (∃ v4 : Int, (Rp (x1 : Int).toNat v4 ∧ v4.natAbs ≤ 67108864) ∧ (((-67108864) ≤ (v4 : Int) ∧ (v4 : Int) ≤ 67108864) ∧ R ((v3 - x2)) ((v3 + x2)) ((v4 - x2)) ((v4 + x2)) (0)))))) :
    ∃ v0 : Int, ∃ v1 : Int, ∃ v2 : Int, ∃ v3 : Int, ∃ v4 : Int, R v0 v1 v2 v3 v4 ∧ Spec Try.prog ball_PartsOf_s ⟨[x0, x1, x2], [], []⟩ [v0, v1, v2, v3, v4] [] [] :=
  Eq.mp (by kernel_rfl) (exV_of (K := fun d => app3 ball_PartsOf_s.out R d ∧ Spec Try.prog ball_PartsOf_s ⟨[x0, x1, x2], [], []⟩ d.1 d.2.1 d.2.2) (tree_at mixed names S1_ok (S := S1 Try.prog) (lf := 100000) (d := 60) ball_PartsOf_s po_t { ivs := [(2, 0, 67108864)], aivs := [] } ⟨[x0, x1, x2], [], []⟩ rfl (by kernel_rfl) (by kernel_rfl) (by kernel_rfl) ⟨(fc r2 fz), fz, fz, fz⟩ (R := fun d => app3 ball_PartsOf_s.out R d) (Eq.mp (by kernel_rfl) H)))

/-- The float of a whole number, as a number. -/

def F (a : Int) : Int := ((FloatKind.f64.nearest a : Nat) : Int)

theorem F_nat (a : Int) : (F a).toNat = fi a := by unfold F; rw [Int.toNat_natCast]; rfl

theorem F_rp (a : Int) : Rp (F a).toNat a := by rw [F_nat]; exact Rp_fi a

theorem okD_abs {a b : Int} (h : OkD a b) : (a.natAbs ≤ 67108864 ∧ b.natAbs ≤ 67108864) ∧ ((-67108864) ≤ a ∧ a ≤ 67108864) ∧ ((-67108864) ≤ b ∧ b ≤ 67108864) := by

  obtain ⟨h1, h2, h3, h4⟩ := h; omega

theorem bisector_s {a b c d : Int} (h : OkD a b) (g : OkD c d) : Spec Try.prog ball_bisector_s ⟨[F a, F b, F c, F d], [], []⟩ [F (bisX a b c d), F (bisY a b c d)] [] [] := by

  have hz := sizeD h g

  obtain ⟨a1, a2, a3⟩ := okD_abs h

  obtain ⟨c1, c2, c3⟩ := okD_abs g

  have hr := rootDown_s (n := sqD a b c d) hz.1 (by omega)

  have hx := lower_s (x := a + c) (y := 67108864) (d := rti (sqD a b c d)) (DvIn_by (X := 134217728) (Y := 67108864) (by omega) (by omega) (by omega) (by omega) (by omega) (by omega) (by decide) (by decide) (by decide))

  have hy := lower_s (x := b + d) (y := 67108864) (d := rti (sqD a b c d)) (DvIn_by (X := 134217728) (Y := 67108864) (by omega) (by omega) (by omega) (by omega) (by omega) (by omega) (by decide) (by decide) (by decide))

  obtain ⟨v, u, ⟨rfl, rfl⟩, hs⟩ := bs (x0 := F a) (x1 := F b) (x2 := F c) (x3 := F d) (R := fun v u => v = F (bisX a b c d) ∧ u = F (bisY a b c d))

    ⟨a, ⟨F_rp a, a1.1⟩, a2, b, ⟨F_rp b, a1.2⟩, a3, c, ⟨F_rp c, c1.1⟩, c2, d, ⟨F_rp d, c1.2⟩, c3, _, hr, _, hx, _, hy, rfl, rfl⟩

  exact hs

theorem F_max : F 67108864 = 4724276009111650304 := by decide +kernel

theorem F_eig : F 47453132 = 4721637861420433408 := by decide +kernel

theorem F_zero : F 0 = 0 := by decide +kernel

theorem wrapI {x : Int} (h : -9223372036854775808 ≤ x ∧ x ≤ 9223372036854775807) : IntKind.i64.wrap x = x := by rw [IntKind.wrap_i64]; omega

/-- Halves: the direction of m below an eighth. -/

theorem halved_s {m : Int} (h : 0 ≤ m ∧ m < 524288) : OkD (hvP m).1 (hvP m).2 ∧ Spec Try.prog ball_halved_s ⟨[m], [], []⟩ [F (hvP m).1, F (hvP m).2] [] [] := by

  obtain ⟨v, u, ⟨rfl, rfl, ho⟩, hs⟩ := hv (x0 := m) (by omega) (R := fun v u => v = F (hvP m).1 ∧ u = F (hvP m).2 ∧ OkD (hvP m).1 (hvP m).2)

    ⟨fun h9 => absurd (by simpa using h9) (show ¬ m = 524288 by omega), fun _ => ⟨fun l g x y z w => ∃ a b c d : Int, x = F a ∧ y = F b ∧ z = F c ∧ w = F d ∧ HvAt m (hvP m) l g a b c d, fun l g _ _ _ _ => (g - l).toNat,

      ⟨67108864, 0, 47453132, 47453132, F_max.symm, F_zero.symm, F_eig.symm, F_eig.symm, hvAt_start h.1 h.2⟩, by

    rintro l g x y z w ⟨a, b, c, d, rfl, rfl, rfl, rfl, hA⟩

    have hB := hA

    obtain ⟨q0, q1, q2, q3, qa, qc, k, qk⟩ := hB

    refine ⟨by omega, by omega, fun h9 => ⟨by omega, ?_⟩, fun h9 => ?_⟩

    · obtain ⟨e, eo⟩ := hvAt_fin hA (by simpa using h9)

      rw [e]; exact ⟨rfl, rfl, eo⟩

    · have hw : IntKind.i64.wrap (l + g) = l + g := wrapI (by omega)

      have ht : (l + g).tdiv 2 = (l + g) / 2 := Int.tdiv_eq_ediv_of_nonneg (by omega)

      obtain ⟨s1, s2, s3, s4, s5⟩ := hvAt_step hA (by simpa using h9)

      rw [hw, ht]

      refine ⟨_, _, bisector_s qa qc, fun h8 => ⟨⟨_, _, _, _, rfl, rfl, rfl, rfl, s4 (by simpa using h8)⟩, by dsimp only; omega⟩, fun h8 => ⟨⟨_, _, _, _, rfl, rfl, rfl, rfl, s5 (by simp at h8; omega)⟩, by dsimp only; omega⟩⟩⟩⟩

  exact ⟨ho, hs⟩

theorem halved_eig : Spec Try.prog ball_halved_s ⟨[524288], [], []⟩ [F 47453132, F 47453132] [] [] := by

  obtain ⟨v, u, ⟨rfl, rfl⟩, hs⟩ := hv (x0 := 524288) (by omega) (R := fun v u => v = F 47453132 ∧ u = F 47453132) ⟨fun _ => ⟨F_eig.symm, F_eig.symm⟩, fun h => absurd h (by decide)⟩

  exact hs

theorem and_low {x : Int} (h : 0 ≤ x ∧ x ≤ 4194303) : NOp.den (.andK .i64) x 4194303 = x := by

  obtain ⟨n, rfl⟩ := Int.eq_ofNat_of_zero_le h.1

  show IntKind.i64.wrap ((BitVec.ofInt 64 (n : Int) &&& BitVec.ofInt 64 4194303).toNat : Int) = n

  have e : (BitVec.ofInt 64 (n : Int) &&& BitVec.ofInt 64 4194303).toNat = n := by

    rw [BitVec.toNat_and, BitVec.toNat_ofInt, BitVec.toNat_ofInt]

    have e1 : ((n : Int) % (2 ^ 64 : Nat)).toNat = n := by omega

    have e2 : ((4194303 : Int) % (2 ^ 64 : Nat)).toNat = 4194303 := by decide

    rw [e1, e2]

    have := Nat.and_two_pow_sub_one_eq_mod n 22

    have e3 : (2 ^ 22 - 1 : Nat) = 4194303 := by decide

    rw [e3] at this

    rw [this]; exact Nat.mod_eq_of_lt (by omega)

  rw [e]; exact wrapI (by omega)

/-- The direction of m up to half a turn: its parts. -/

def drP (m : Int) : Int × Int :=

  if m < 524288 then hvP m else if m = 524288 then (47453132, 47453132) else if m < 1048576 then ((hvP (1048576 - m)).2, (hvP (1048576 - m)).1)

  else if m = 1048576 then (-(hvP 0).2, (hvP 0).1) else if m < 1572864 then (-(hvP (m - 1048576)).2, (hvP (m - 1048576)).1) else if m = 1572864 then (-47453132, 47453132)

  else if m < 2097152 then (-(hvP (2097152 - m)).1, (hvP (2097152 - m)).2) else (-(hvP 0).1, -(hvP 0).2)

theorem low_dir {m : Int} (h : 0 ≤ m ∧ m < 1048576) : ∃ x y : Int, drP m = (x, y) ∧ ((0 ≤ x ∧ x ≤ 67108864) ∧ (0 ≤ y ∧ y ≤ 67108864)) ∧ Spec Try.prog ball_direction_s ⟨[m], [], []⟩ [F x, F y] [] [] := by

  have ha := and_low (x := m) (by omega)

  by_cases h1 : m < 524288

  · obtain ⟨ho, hs⟩ := halved_s (m := m) (by omega)

    refine ⟨(hvP m).1, (hvP m).2, by unfold drP; rw [if_pos h1], ?_, ?_⟩

    · obtain ⟨o1, o2, o3, o4⟩ := ho; omega

    obtain ⟨v, u, ⟨rfl, rfl⟩, hd⟩ := dr (x0 := m) (by omega) (R := fun v u => v = F (hvP m).1 ∧ u = F (hvP m).2)

      (by rw [ha]; exact ⟨fun h9 => by simp at h9; omega, fun _ => ⟨fun h9 => by simp at h9; omega, fun _ => ⟨fun _ => ⟨_, _, hs, rfl, rfl⟩, fun h9 => by simp at h9; omega⟩⟩⟩)

    exact hd

  · by_cases h2 : m = 524288

    · subst h2

      refine ⟨47453132, 47453132, by decide +kernel, by omega, ?_⟩

      obtain ⟨v, u, ⟨rfl, rfl⟩, hd⟩ := dr (x0 := 524288) (by omega) (R := fun v u => v = F 47453132 ∧ u = F 47453132)

        (by rw [ha]; exact ⟨fun h9 => by simp at h9, fun _ => ⟨fun h9 => by simp at h9, fun _ => ⟨fun _ => ⟨_, _, halved_eig, rfl, rfl⟩, fun h9 => by simp at h9⟩⟩⟩)

      exact hd

    · have hb : (0 : Int) ≤ 1048576 - m ∧ 1048576 - m < 524288 := by omega

      have ha2 := and_low (x := 1048576 - m) (by omega)

      obtain ⟨ho, hs⟩ := halved_s (m := 1048576 - m) hb

      have hw : IntKind.i64.wrap (1048576 - m) = 1048576 - m := wrapI (by omega)

      have hp : drP m = ((hvP (1048576 - m)).2, (hvP (1048576 - m)).1) := by unfold drP; rw [if_neg h1, if_neg h2, if_pos h.2]

      generalize hvP (1048576 - m) = P at *

      obtain ⟨o1, o2, o3, o4⟩ := ho

      obtain ⟨v1, u1, ⟨rfl, rfl⟩, hd1⟩ := dr (x0 := 1048576 - m) (by omega) (R := fun v u => v = F P.1 ∧ u = F P.2)

        (by rw [ha2]; exact ⟨fun h9 => by simp at h9; omega, fun _ => ⟨fun h9 => by simp at h9; omega, fun _ => ⟨fun _ => ⟨_, _, hs, rfl, rfl⟩, fun h9 => by simp at h9; omega⟩⟩⟩)

      refine ⟨P.2, P.1, hp, by omega, ?_⟩

      obtain ⟨v, u, ⟨rfl, rfl⟩, hd⟩ := dr (x0 := m) (by omega) (R := fun v u => v = F P.2 ∧ u = F P.1)

        (by rw [ha]; (try rw [hw]); exact ⟨fun h9 => by simp at h9; omega, fun _ => ⟨fun h9 => by simp at h9; omega, fun _ => ⟨fun h9 => by simp at h9; omega, fun _ => ⟨_, _, hd1, P.1, ⟨F_rp _, by omega⟩, by omega, P.2, ⟨F_rp _, by omega⟩, by omega, rfl, rfl⟩⟩⟩⟩)

      exact hd

theorem fmt_mul {a b : Int} {x y : Int} (ha : Rp a.toNat x) (hb : Rp b.toNat y) (hx : InF x) (hy : InF y) (hi : InF (x * y)) : Rp ((((fmt .mul .f64 a.toNat b.toNat).getD 0 : Nat) : Int)).toNat (x * y) := by

  obtain ⟨r, hr, hp⟩ := mul_rp ha hb hx hy hi

  have e : fmt .mul .f64 a.toNat b.toNat = some r := hr

  rw [e]; exact hp

theorem fmt_add {a b : Int} {x y : Int} (ha : Rp a.toNat x) (hb : Rp b.toNat y) (hx : InF x) (hy : InF y) (hi : InF (x + y)) : Rp ((((fmt .add .f64 a.toNat b.toNat).getD 0 : Nat) : Int)).toNat (x + y) := by

  obtain ⟨r, hr, hp⟩ := add_rp ha hb hx hy hi

  have e : fmt .add .f64 a.toNat b.toNat = some r := hr

  rw [e]; exact hp

theorem fmt_sub {a b : Int} {x y : Int} (ha : Rp a.toNat x) (hb : Rp b.toNat y) (hx : InF x) (hy : InF y) (hi : InF (x - y)) : Rp ((((fmt .sub .f64 a.toNat b.toNat).getD 0 : Nat) : Int)).toNat (x - y) := by

  obtain ⟨r, hr, hp⟩ := sub_rp ha hb hx hy hi

  have e : fmt .sub .f64 a.toNat b.toNat = some r := hr

  rw [e]; exact hp

theorem drP_mid {m : Int} (h : 1048576 ≤ m ∧ m < 2097152) : drP m = (-(drP (m - 1048576)).2, (drP (m - 1048576)).1) := by

  unfold drP

  rw [if_neg (show ¬ m < 524288 by omega), if_neg (show ¬ m = 524288 by omega), if_neg (show ¬ m < 1048576 by omega)]

  by_cases h1 : m = 1048576

  · subst h1; rfl

  rw [if_neg h1]

  by_cases h2 : m < 1572864

  · rw [if_pos h2, if_pos (show m - 1048576 < 524288 by omega)]

  rw [if_neg h2, if_neg (show ¬ m - 1048576 < 524288 by omega)]

  by_cases h3 : m = 1572864

  · subst h3; rfl

  rw [if_neg h3, if_neg (show ¬ m - 1048576 = 524288 by omega), if_pos h.2, if_pos (show m - 1048576 < 1048576 by omega)]

  rw [show 1048576 - (m - 1048576) = 2097152 - m by omega]

/-- The direction of m, from 0 to half a turn. -/

theorem direction_s {m : Int} (h : 0 ≤ m ∧ m ≤ 2097152) : ∃ x y : Int, Rp x.toNat (drP m).1 ∧ Rp y.toNat (drP m).2 ∧ (((-67108864) ≤ (drP m).1 ∧ (drP m).1 ≤ 67108864) ∧ ((-67108864) ≤ (drP m).2 ∧ (drP m).2 ≤ 67108864)) ∧ Spec Try.prog ball_direction_s ⟨[m], [], []⟩ [x, y] [] [] := by

  by_cases h1 : m < 1048576

  · obtain ⟨x, y, hp, hb, hs⟩ := low_dir (m := m) (by omega)

    rw [hp]

    exact ⟨F x, F y, F_rp x, F_rp y, by dsimp only; omega, hs⟩

  have ha := and_low (x := m) (by omega)

  by_cases h2 : m < 2097152

  · obtain ⟨x, y, hp, hb, hs⟩ := low_dir (m := m - 1048576) (by omega)

    have hw : IntKind.i64.wrap (m - 1048576) = m - 1048576 := wrapI (by omega)

    have hm := drP_mid (m := m) (by omega)

    rw [hp] at hm

    obtain ⟨v, u, ⟨hv, hu⟩, hd⟩ := dr (x0 := m) (by omega) (R := fun v u => Rp v.toNat (-y) ∧ Rp u.toNat x)

      (by

        rw [ha]

        try rw [hw]

        refine ⟨fun h9 => by simp at h9; omega, fun _ => ⟨fun _ => ⟨_, _, hs, x, ⟨F_rp _, by omega⟩, by omega, y, ⟨F_rp _, by omega⟩, by omega, ?_, ?_⟩, fun h9 => by simp at h9; omega⟩⟩

        · have e : -y = x * 0 - y * 1 := by omega

          rw [e]

          exact fmt_sub (fmt_mul (F_rp x) (F_rp 0) ⟨by omega, by omega⟩ ⟨by omega, by omega⟩ ⟨by omega, by omega⟩) (fmt_mul (F_rp y) (F_rp 1) ⟨by omega, by omega⟩ ⟨by omega, by omega⟩ ⟨by omega, by omega⟩) ⟨by omega, by omega⟩ ⟨by omega, by omega⟩ ⟨by omega, by omega⟩

        · have e : x * 1 + y * 0 = x := by omega

          have q := fmt_add (fmt_mul (F_rp x) (F_rp 1) ⟨by omega, by omega⟩ ⟨by omega, by omega⟩ ⟨by omega, by omega⟩) (fmt_mul (F_rp y) (F_rp 0) ⟨by omega, by omega⟩ ⟨by omega, by omega⟩ ⟨by omega, by omega⟩) ⟨by omega, by omega⟩ ⟨by omega, by omega⟩ ⟨by omega, by omega⟩

          rw [e] at q

          exact q)

    rw [hm]

    exact ⟨v, u, hv, hu, by dsimp only; omega, hd⟩

  · obtain rfl : m = 2097152 := by omega

    obtain ⟨x, y, hp, hb, hs⟩ := low_dir (m := 0) (by omega)

    have hw : IntKind.i64.wrap ((2097152 : Int) - 2097152) = 0 := by decide +kernel

    have hm : drP 2097152 = (-(drP 0).1, -(drP 0).2) := rfl

    rw [hp] at hm

    obtain ⟨v, u, ⟨hv, hu⟩, hd⟩ := dr (x0 := 2097152) (by omega) (R := fun v u => Rp v.toNat (-x) ∧ Rp u.toNat (-y))

      (by

        rw [ha]

        try rw [hw]

        refine ⟨fun _ => ⟨_, _, hs, x, ⟨F_rp _, by omega⟩, by omega, y, ⟨F_rp _, by omega⟩, by omega, ?_, ?_⟩, fun h9 => by simp at h9⟩

        · have e : -x = x * (-1) - y * 0 := by omega

          rw [e]

          exact fmt_sub (fmt_mul (F_rp x) (F_rp (-1)) ⟨by omega, by omega⟩ ⟨by omega, by omega⟩ ⟨by omega, by omega⟩) (fmt_mul (F_rp y) (F_rp 0) ⟨by omega, by omega⟩ ⟨by omega, by omega⟩ ⟨by omega, by omega⟩) ⟨by omega, by omega⟩ ⟨by omega, by omega⟩ ⟨by omega, by omega⟩

        · have e : -y = x * 0 + y * (-1) := by omega

          rw [e]

          exact fmt_add (fmt_mul (F_rp x) (F_rp 0) ⟨by omega, by omega⟩ ⟨by omega, by omega⟩ ⟨by omega, by omega⟩) (fmt_mul (F_rp y) (F_rp (-1)) ⟨by omega, by omega⟩ ⟨by omega, by omega⟩ ⟨by omega, by omega⟩) ⟨by omega, by omega⟩ ⟨by omega, by omega⟩ ⟨by omega, by omega⟩)

    rw [hm]

    exact ⟨v, u, hv, hu, by dsimp only; omega, hd⟩

/-- The ball of the unit number of psi parts of 2048. -/

def uX (psi : Int) : Int := rdiv ((drP (2048 * psi)).1 * 1) 64

def uY (psi : Int) : Int := rdiv ((drP (2048 * psi)).2 * 1) 64

def uR (psi : Int) : Int := if (2048 * psi).tmod 1048576 = 0 then 0 else 2

theorem rdiv_bd {n : Int} (h : (-67108864) ≤ n ∧ n ≤ 67108864) : (-1048576) ≤ rdiv (n * 1) 64 ∧ rdiv (n * 1) 64 ≤ 1048576 := by unfold rdiv; omega

theorem unit_s {psi : Int} (h : 0 ≤ psi ∧ psi ≤ 1024) : ((-1048576) ≤ uX psi ∧ uX psi ≤ 1048576) ∧ ((-1048576) ≤ uY psi ∧ uY psi ≤ 1048576) ∧ Spec Try.prog ball_Unit_s ⟨[psi, 2048], [], []⟩ [F (uX psi), F (uY psi), uR psi, 0] [] [] := by

  obtain ⟨x, y, hx, hy, hb, hs⟩ := direction_s (m := 2048 * psi) (by omega)

  have bx := rdiv_bd hb.1

  have bY := rdiv_bd hb.2

  have hl := lower_s (x := psi) (y := 4194304) (d := 2048) (DvIn_by (X := 1024) (Y := 4194304) (by omega) (by omega) (by omega) (by omega) (by omega) (by omega) (by decide) (by decide) (by decide))

  have hu := upper_s (x := psi) (y := 4194304) (d := 2048) (DvIn_by (X := 1024) (Y := 4194304) (by omega) (by omega) (by omega) (by omega) (by omega) (by omega) (by decide) (by decide) (by decide))

  have e1 : psi * 4194304 / 2048 = 2048 * psi := by omega

  have e2 : cdiv (psi * 4194304) 2048 = 2048 * psi := by unfold cdiv; omega

  rw [e1] at hl

  rw [e2] at hu

  have hm := lower_s (x := 2048 * psi + 2048 * psi) (y := 1) (d := 2) (DvIn_by (X := 4194304) (Y := 1) (by omega) (by omega) (by omega) (by omega) (by omega) (by omega) (by decide) (by decide) (by decide))

  have e3 : (2048 * psi + 2048 * psi) * 1 / 2 = 2048 * psi := by omega

  rw [e3] at hm

  have hn1 := nearest_s (x := (drP (2048 * psi)).1) (y := 1) (d := 64) (DvIn_by (X := 67108864) (Y := 1) (by omega) (by omega) (by omega) (by omega) (by omega) (by omega) (by decide) (by decide) (by decide))

  have hn2 := nearest_s (x := (drP (2048 * psi)).2) (y := 1) (d := 64) (DvIn_by (X := 67108864) (Y := 1) (by omega) (by omega) (by omega) (by omega) (by omega) (by omega) (by decide) (by decide) (by decide))

  have hq := upper_s (x := 2048 * psi - 2048 * psi) (y := 11) (d := 7) (DvIn_by (X := 1) (Y := 11) (by omega) (by omega) (by omega) (by omega) (by omega) (by omega) (by decide) (by decide) (by decide))

  have e4 : cdiv ((2048 * psi - 2048 * psi) * 11) 7 = 0 := by rw [Int.sub_self]; decide

  rw [e4] at hq

  obtain ⟨v0, v1, v2, v3, ⟨rfl, rfl, rfl, rfl⟩, ha⟩ := ar (x0 := 2048 * psi) (x1 := 2048 * psi) (by omega) (by omega) (R := fun a b c d => a = F (uX psi) ∧ b = F (uY psi) ∧ c = uR psi ∧ d = 0)

    ⟨_, hm, by omega, x, y, hs, _, ⟨hx, by omega⟩, hb.1, _, ⟨hy, by omega⟩, hb.2, _, _, hn1, bx, _, _, hn2, bY, by

      refine ⟨fun _ => ⟨_, hq, by omega, fun _ => ⟨fun h9 => ⟨rfl, rfl, ?_, rfl⟩, fun h9 => ⟨rfl, rfl, ?_, rfl⟩⟩, fun h9 => by simp at h9⟩, fun _ => ⟨_, hq, by omega, fun _ => ⟨fun h9 => ⟨rfl, rfl, ?_, rfl⟩, fun h9 => ⟨rfl, rfl, ?_, rfl⟩⟩, fun h9 => by simp at h9⟩⟩

      all_goals (unfold uR; first | rw [if_pos (by simpa using h9)] | (rw [if_neg (by simpa using h9)]; rfl))⟩

  obtain ⟨v0, v1, v2, v3, ⟨rfl, rfl, rfl, rfl⟩, hU⟩ := un (x0 := psi) (x1 := 2048) h (by omega) (R := fun a b c d => a = F (uX psi) ∧ b = F (uY psi) ∧ c = uR psi ∧ d = 0)

    ⟨_, hl, _, hu, _, _, _, _, ha, rfl, rfl, rfl, rfl⟩

  exact ⟨bx, bY, hU⟩

theorem parts_s {x y r : Int} (hx : (-67108864) ≤ x ∧ x ≤ 67108864) (hy : (-67108864) ≤ y ∧ y ≤ 67108864) (hr : 0 ≤ r ∧ r ≤ 67108864) : Spec Try.prog ball_PartsOf_s ⟨[F x, F y, r], [], []⟩ [x - r, x + r, y - r, y + r, 0] [] [] := by

  obtain ⟨v0, v1, v2, v3, v4, ⟨rfl, rfl, rfl, rfl, rfl⟩, hs⟩ := po (x0 := F x) (x1 := F y) hr (R := fun a b c d e => a = x - r ∧ b = x + r ∧ c = y - r ∧ d = y + r ∧ e = 0) ⟨x, ⟨F_rp x, by omega⟩, hx, y, ⟨F_rp y, by omega⟩, hy, rfl, rfl, rfl, rfl, rfl⟩

  exact hs

end Go.Proofs.Ytafnplkablkepaa.Ev
