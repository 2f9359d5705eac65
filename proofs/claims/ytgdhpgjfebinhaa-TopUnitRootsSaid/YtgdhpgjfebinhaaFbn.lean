/- Directions, of the program and of the reference. -/
import Derived.Test.YtgdhpgjfebinhaaFba
namespace Go.Proofs.Ytgdhpgjfebinhaa.Ev
set_option linter.unusedSimpArgs false
open Go Go.RowKit
set_option linter.unusedVariables false
set_option maxRecDepth 100000
def ball_bisector_s : Sig := ⟨153, ⟨4, 0, 0⟩, ⟨2, 0, 0⟩, [(.complex .f64 (.var 0) (.var 1)), (.complex .f64 (.var 2) (.var 3))], [], (.complex .f64 (.var 4) (.var 5)), []⟩
def ball_halved_s : Sig := ⟨148, ⟨1, 0, 0⟩, ⟨2, 0, 0⟩, [(.int .i64 (.var 0))], [], (.complex .f64 (.var 1) (.var 2)), []⟩
def ball_direction_s : Sig := ⟨138, ⟨1, 0, 0⟩, ⟨2, 0, 0⟩, [(.int .i64 (.var 0))], [], (.complex .f64 (.var 1) (.var 2)), []⟩
def etalonref01_Direction_s : Sig := ⟨111, ⟨1, 0, 0⟩, ⟨2, 0, 0⟩, [(.int .i64 (.var 0))], [], (.agg [(.int .i64 (.var 1)), (.int .i64 (.var 2))]), []⟩

def bs_t : Tr :=
  (.whole 0 67108864 (.rng 4 (-67108864) 67108864 (.whole 1 67108864 (.rng 5 (-67108864) 67108864 (.whole 2 67108864 (.rng 6 (-67108864) 67108864 (.whole 3 67108864 (.rng 7 (-67108864) 67108864 (.call whole_RootDown_s ⟨[(.bin .addI (.bin .mulI (.bin .addI (.var 4) (.var 6)) (.bin .addI (.var 4) (.var 6))) (.bin .mulI (.bin .addI (.var 5) (.var 7)) (.bin .addI (.var 5) (.var 7))))], [], []⟩ ⟨[(.bin .addI (.bin .mulI (.bin .addI (.var 4) (.var 6)) (.bin .addI (.var 4) (.var 6))) (.bin .mulI (.bin .addI (.var 5) (.var 7)) (.bin .addI (.var 5) (.var 7)))), (.var 8)], [], []⟩ ⟨105, [(.int .i64 (.bin .addI (.bin .mulI (.bin .addI (.var 4) (.var 6)) (.bin .addI (.var 4) (.var 6))) (.bin .mulI (.bin .addI (.var 5) (.var 7)) (.bin .addI (.var 5) (.var 7)))))], [], [], (.int .i64 (.var 8)), []⟩
  (.call whole_Lower_s ⟨[(.bin .addI (.var 4) (.var 6)), (.lit 67108864), (.var 8)], [], []⟩ ⟨[(.bin .addI (.var 4) (.var 6)), (.lit 67108864), (.var 8), (.var 9)], [], []⟩ ⟨65, [(.int .i64 (.bin .addI (.var 4) (.var 6))), (.int .i64 (.lit 67108864)), (.int .i64 (.var 8))], [], [none], (.int .i64 (.var 9)), []⟩
  (.call whole_Lower_s ⟨[(.bin .addI (.var 5) (.var 7)), (.lit 67108864), (.var 8)], [], []⟩ ⟨[(.bin .addI (.var 5) (.var 7)), (.lit 67108864), (.var 8), (.var 10)], [], []⟩ ⟨65, [(.int .i64 (.bin .addI (.var 5) (.var 7))), (.int .i64 (.lit 67108864)), (.int .i64 (.var 8))], [], [none], (.int .i64 (.var 10)), []⟩
  (.ret ⟨[(.toF .f64 (.var 9)), (.toF .f64 (.var 10))], [], []⟩ []))))))))))))
theorem bs {x0 x1 x2 x3 : Int} {R : Int → Int → Prop}
  (H : (∃ v4 : Int, (Rp (x0 : Int).toNat v4 ∧ v4.natAbs ≤ 67108864) ∧ (((-67108864) ≤ (v4 : Int) ∧ (v4 : Int) ≤ 67108864) ∧ (∃ v5 : Int, (Rp (x1 : Int).toNat v5 ∧ v5.natAbs ≤ 67108864) ∧ (((-67108864) ≤ (v5 : Int) ∧ (v5 : Int) ≤ 67108864) ∧ (∃ v6 : Int, (Rp (x2 : Int).toNat v6 ∧ v6.natAbs ≤ 67108864) ∧ (((-67108864) ≤ (v6 : Int) ∧ (v6 : Int) ≤ 67108864) ∧ (∃ v7 : Int, (Rp (x3 : Int).toNat v7 ∧ v7.natAbs ≤ 67108864) ∧ (((-67108864) ≤ (v7 : Int) ∧ (v7 : Int) ≤ 67108864) ∧ (∃ v8 : Int, Spec Try.prog whole_RootDown_s ⟨[(((v4 + v6) * (v4 + v6)) + ((v5 + v7) * (v5 + v7)))], [], []⟩ [v8] [] [] ∧
   (∃ v9 : Int, Spec Try.prog whole_Lower_s ⟨[(v4 + v6), 67108864, v8], [], []⟩ [v9] [] [] ∧
   (∃ v10 : Int, Spec Try.prog whole_Lower_s ⟨[(v5 + v7), 67108864, v8], [], []⟩ [v10] [] [] ∧
   R (((FloatKind.f64.nearest v9 : Nat) : Int)) (((FloatKind.f64.nearest v10 : Nat) : Int)))))))))))))) :
    ∃ v0 : Int, ∃ v1 : Int, R v0 v1 ∧ Spec Try.prog ball_bisector_s ⟨[x0, x1, x2, x3], [], []⟩ [v0, v1] [] [] :=
  Eq.mp (by kernel_rfl) (exV_of (K := fun d => app3 ball_bisector_s.out R d ∧ Spec Try.prog ball_bisector_s ⟨[x0, x1, x2, x3], [], []⟩ d.1 d.2.1 d.2.2) (tree_at mixed names S1_ok (S := S1 Try.prog) (lf := 100000) (d := 60) ball_bisector_s bs_t { ivs := [], aivs := [] } ⟨[x0, x1, x2, x3], [], []⟩ rfl (by kernel_rfl) (by kernel_rfl) (by kernel_rfl) ⟨fz, fz, fz, fz⟩ (R := fun d => app3 ball_bisector_s.out R d) (Eq.mp (by kernel_rfl) H)))

def hv_t : Tr :=
  (.ite (.icmp .eql (.var 0) (.lit 524288))
  (.ret ⟨[(.lit 4721637861420433408), (.lit 4721637861420433408)], [], []⟩ [])
  (.loop ⟨148, [0, 0, 1, 1, 1, 1], [(.int .i64 (.var 0)), (.tuple []), (.complex .f64 (.toF .f64 (.lit 0)) (.toF .f64 (.lit 0))), (.int .i64 (.lit 0)), (.int .i64 (.lit 524288)), (.complex .f64 (.lit 4724276009111650304) (.lit 0)), (.complex .f64 (.lit 4721637861420433408) (.lit 4721637861420433408)), (.tuple []), (.tuple []), (.complex .f64 (.lit 4724276009111650304) (.lit 0)), (.complex .f64 (.lit 4721637861420433408) (.lit 4721637861420433408)), (.int .i64 (.var 0)), (.int .i64 (.lit 524288)), (.bool (.icmp .eql (.var 0) (.lit 524288))), (.tuple []), (.tuple []), (.tuple []), (.tuple []), (.tuple []), (.tuple []), (.tuple []), (.tuple []), (.tuple []), (.tuple []), (.tuple []), (.tuple []), (.tuple []), (.tuple []), (.tuple []), (.tuple []), (.tuple []), (.tuple []), (.tuple [])], [], [], [(.int .i64 (.var 0)), (.tuple []), (.complex .f64 (.toF .f64 (.lit 0)) (.toF .f64 (.lit 0))), (.int .i64 (.var 1)), (.int .i64 (.var 2)), (.complex .f64 (.var 3) (.var 4)), (.complex .f64 (.var 5) (.var 6)), (.any 7), (.any 8), (.complex .f64 (.lit 4724276009111650304) (.lit 0)), (.complex .f64 (.lit 4721637861420433408) (.lit 4721637861420433408)), (.int .i64 (.var 0)), (.int .i64 (.lit 524288)), (.bool (.icmp .eql (.var 0) (.lit 524288))), (.tuple []), (.any 15), (.any 16), (.any 17), (.any 18), (.any 19), (.any 20), (.any 21), (.any 22), (.any 23), (.any 24), (.any 25), (.any 26), (.any 27), (.any 28), (.any 29), (.any 30), (.any 31), (.tuple [])], [], [], ⟨6, 0, 0⟩, ⟨[(.lit 0), (.lit 524288), (.lit 4724276009111650304), (.lit 0), (.lit 4721637861420433408), (.lit 4721637861420433408)], [], []⟩, []⟩
   (.rng 1 (-9223372036854775808) 9223372036854775807 (.rng 2 (-9223372036854775808) 9223372036854775807 (.ite (.icmp .eql (.var 1) (.var 0))
    (.out 0 ⟨[(.var 2), (.var 3), (.var 4), (.var 5), (.var 6)], [], []⟩ [])
    (.call ball_bisector_s ⟨[(.var 3), (.var 4), (.var 5), (.var 6)], [], []⟩ ⟨[(.var 3), (.var 4), (.var 5), (.var 6), (.var 7), (.var 8)], [], []⟩ ⟨153, [(.complex .f64 (.var 3) (.var 4)), (.complex .f64 (.var 5) (.var 6))], [], [], (.complex .f64 (.var 7) (.var 8)), []⟩
     (.ite (.icmp .leq (.bin .quoI (.bin (.addW .i64) (.var 1) (.var 2)) (.lit 2)) (.var 0))
     (.next ⟨[(.bin .quoI (.bin (.addW .i64) (.var 1) (.var 2)) (.lit 2)), (.var 2), (.var 7), (.var 8), (.var 5), (.var 6)], [], []⟩ [])
     (.next ⟨[(.var 1), (.bin .quoI (.bin (.addW .i64) (.var 1) (.var 2)) (.lit 2)), (.var 3), (.var 4), (.var 7), (.var 8)], [], []⟩ []))))))
   (.ex ((.exit 0), [(.int .i64 (.var 0)), (.tuple []), (.complex .f64 (.toF .f64 (.lit 0)) (.toF .f64 (.lit 0))), (.any 3), (.int .i64 (.var 1)), (.complex .f64 (.var 2) (.var 3)), (.complex .f64 (.var 4) (.var 5)), (.any 7), (.any 8), (.complex .f64 (.lit 4724276009111650304) (.lit 0)), (.complex .f64 (.lit 4721637861420433408) (.lit 4721637861420433408)), (.int .i64 (.var 0)), (.int .i64 (.lit 524288)), (.bool (.icmp .eql (.var 0) (.lit 524288))), (.tuple []), (.any 15), (.any 16), (.any 17), (.any 18), (.any 19), (.any 20), (.any 21), (.any 22), (.any 23), (.any 24), (.any 25), (.any 26), (.any 27), (.any 28), (.any 29), (.any 30), (.any 31), (.tuple [])], [], []) ⟨5, 0, 0⟩
   (.rng 1 (-9223372036854775808) 9223372036854775807 (.ret ⟨[(.var 2), (.var 3)], [], []⟩ []))
   .nil)))
theorem hv {x0 : Int} (r0 : 0 ≤ x0 ∧ x0 ≤ 524288) {R : Int → Int → Prop}
  (H : ((((x0 : Int) == 524288) = true → R (4721637861420433408) (4721637861420433408)) ∧
   (((x0 : Int) == 524288) = false → (∃ (I1 : Int → Int → Int → Int → Int → Int → Prop) (rk1 : Int → Int → Int → Int → Int → Int → Nat), I1 (0) (524288) (4724276009111650304) (0) (4721637861420433408) (4721637861420433408) ∧
    (∀ x1 : Int, ∀ x2 : Int, ∀ x3 : Int, ∀ x4 : Int, ∀ x5 : Int, ∀ x6 : Int, I1 x1 x2 x3 x4 x5 x6 → (((-9223372036854775808) ≤ (x1 : Int) ∧ (x1 : Int) ≤ 9223372036854775807) ∧ (((-9223372036854775808) ≤ (x2 : Int) ∧ (x2 : Int) ≤ 9223372036854775807) ∧ ((((x1 : Int) == x0) = true → (((-9223372036854775808) ≤ ((x2) : Int) ∧ ((x2) : Int) ≤ 9223372036854775807) ∧ R ((x3)) ((x4)))) ∧
     (((x1 : Int) == x0) = false → (∃ v7 : Int, ∃ v8 : Int, Spec Try.prog ball_bisector_s ⟨[x3, x4, x5, x6], [], []⟩ [v7, v8] [] [] ∧
      ((decide ((((IntKind.i64.wrap (x1 + x2) : Int).tdiv 2) : Int) ≤ x0) = true → (I1 (((IntKind.i64.wrap (x1 + x2) : Int).tdiv 2)) (x2) (v7) (v8) (x5) (x6) ∧ rk1 (((IntKind.i64.wrap (x1 + x2) : Int).tdiv 2)) (x2) (v7) (v8) (x5) (x6) < rk1 x1 x2 x3 x4 x5 x6)) ∧
      (decide ((((IntKind.i64.wrap (x1 + x2) : Int).tdiv 2) : Int) ≤ x0) = false → (I1 (x1) (((IntKind.i64.wrap (x1 + x2) : Int).tdiv 2)) (x3) (x4) (v7) (v8) ∧ rk1 (x1) (((IntKind.i64.wrap (x1 + x2) : Int).tdiv 2)) (x3) (x4) (v7) (v8) < rk1 x1 x2 x3 x4 x5 x6))))))))))))) :
    ∃ v0 : Int, ∃ v1 : Int, R v0 v1 ∧ Spec Try.prog ball_halved_s ⟨[x0], [], []⟩ [v0, v1] [] [] :=
  Eq.mp (by kernel_rfl) (exV_of (K := fun d => app3 ball_halved_s.out R d ∧ Spec Try.prog ball_halved_s ⟨[x0], [], []⟩ d.1 d.2.1 d.2.2) (tree_at mixed names S1_ok (S := S1 Try.prog) (lf := 100000) (d := 60) ball_halved_s hv_t { ivs := [(0, 0, 524288)], aivs := [] } ⟨[x0], [], []⟩ rfl (by kernel_rfl) (by kernel_rfl) (by kernel_rfl) ⟨(fc r0 fz), fz, fz, fz⟩ (R := fun d => app3 ball_halved_s.out R d) (Eq.mp (by kernel_rfl) H)))

def drn_t : Tr :=
  (.ite (.icmp .leq (.lit 2097152) (.bin (.andK .i64) (.var 0) (.lit 4194303)))
  (.call ball_direction_s ⟨[(.bin .subI (.bin (.andK .i64) (.var 0) (.lit 4194303)) (.lit 2097152))], [], []⟩ ⟨[(.bin .subI (.bin (.andK .i64) (.var 0) (.lit 4194303)) (.lit 2097152)), (.var 1), (.var 2)], [], []⟩ ⟨138, [(.int .i64 (.bin .subI (.bin (.andK .i64) (.var 0) (.lit 4194303)) (.lit 2097152)))], [], [], (.complex .f64 (.var 1) (.var 2)), []⟩
   (.whole 1 67108864 (.rng 3 (-67108864) 67108864 (.whole 2 67108864 (.rng 4 (-67108864) 67108864 (.ret ⟨[(.fop .sub .f64 (.fop .mul .f64 (.var 1) (.toF .f64 (.lit (-1)))) (.fop .mul .f64 (.var 2) (.toF .f64 (.lit 0)))), (.fop .add .f64 (.fop .mul .f64 (.var 1) (.toF .f64 (.lit 0))) (.fop .mul .f64 (.var 2) (.toF .f64 (.lit (-1)))))], [], []⟩ []))))))
  (.ite (.icmp .leq (.lit 1048576) (.bin (.andK .i64) (.var 0) (.lit 4194303)))
   (.call ball_direction_s ⟨[(.bin .subI (.bin (.andK .i64) (.var 0) (.lit 4194303)) (.lit 1048576))], [], []⟩ ⟨[(.bin .subI (.bin (.andK .i64) (.var 0) (.lit 4194303)) (.lit 1048576)), (.var 1), (.var 2)], [], []⟩ ⟨138, [(.int .i64 (.bin .subI (.bin (.andK .i64) (.var 0) (.lit 4194303)) (.lit 1048576)))], [], [], (.complex .f64 (.var 1) (.var 2)), []⟩
    (.whole 1 67108864 (.rng 3 (-67108864) 67108864 (.whole 2 67108864 (.rng 4 (-67108864) 67108864 (.ret ⟨[(.fop .sub .f64 (.fop .mul .f64 (.var 1) (.toF .f64 (.lit 0))) (.fop .mul .f64 (.var 2) (.toF .f64 (.lit 1)))), (.fop .add .f64 (.fop .mul .f64 (.var 1) (.toF .f64 (.lit 1))) (.fop .mul .f64 (.var 2) (.toF .f64 (.lit 0))))], [], []⟩ []))))))
   (.ite (.icmp .leq (.bin (.andK .i64) (.var 0) (.lit 4194303)) (.lit 524288))
    (.call ball_halved_s ⟨[(.bin (.andK .i64) (.var 0) (.lit 4194303))], [], []⟩ ⟨[(.bin (.andK .i64) (.var 0) (.lit 4194303)), (.var 1), (.var 2)], [], []⟩ ⟨148, [(.int .i64 (.bin (.andK .i64) (.var 0) (.lit 4194303)))], [], [], (.complex .f64 (.var 1) (.var 2)), []⟩
     (.ret ⟨[(.var 1), (.var 2)], [], []⟩ []))
    (.call ball_direction_s ⟨[(.bin .subI (.lit 1048576) (.bin (.andK .i64) (.var 0) (.lit 4194303)))], [], []⟩ ⟨[(.bin .subI (.lit 1048576) (.bin (.andK .i64) (.var 0) (.lit 4194303))), (.var 1), (.var 2)], [], []⟩ ⟨138, [(.int .i64 (.bin .subI (.lit 1048576) (.bin (.andK .i64) (.var 0) (.lit 4194303))))], [], [], (.complex .f64 (.var 1) (.var 2)), []⟩
     (.whole 1 67108864 (.rng 3 (-67108864) 67108864 (.whole 2 67108864 (.rng 4 (-67108864) 67108864 (.ret ⟨[(.toF .f64 (.var 4)), (.toF .f64 (.var 3))], [], []⟩ [])))))))))
theorem drn {x0 : Int} (r0 : (-9223372036854775808) ≤ x0 ∧ x0 ≤ 9223372036854775807) {R : Int → Int → Prop}
  (H : ((decide ((2097152 : Int) ≤ (NOp.den (.andK .i64) x0 4194303)) = true → (∃ v1 : Int, ∃ v2 : Int, Spec Try.prog ball_direction_s ⟨[((NOp.den (.andK .i64) x0 4194303) - 2097152)], [], []⟩ [v1, v2] [] [] ∧
    (∃ v3 : Int, (Rp (v1 : Int).toNat v3 ∧ v3.natAbs ≤ 67108864) ∧ (((-67108864) ≤ (v3 : Int) ∧ (v3 : Int) ≤ 67108864) ∧ (∃ v4 : Int, (Rp (v2 : Int).toNat v4 ∧ v4.natAbs ≤ 67108864) ∧ (((-67108864) ≤ (v4 : Int) ∧ (v4 : Int) ≤ 67108864) ∧ R ((((fmt .sub .f64 ((((fmt .mul .f64 (v1 : Int).toNat (((FloatKind.f64.nearest (-1) : Nat) : Int) : Int).toNat).getD 0 : Nat) : Int) : Int).toNat ((((fmt .mul .f64 (v2 : Int).toNat (((FloatKind.f64.nearest 0 : Nat) : Int) : Int).toNat).getD 0 : Nat) : Int) : Int).toNat).getD 0 : Nat) : Int)) ((((fmt .add .f64 ((((fmt .mul .f64 (v1 : Int).toNat (((FloatKind.f64.nearest 0 : Nat) : Int) : Int).toNat).getD 0 : Nat) : Int) : Int).toNat ((((fmt .mul .f64 (v2 : Int).toNat (((FloatKind.f64.nearest (-1) : Nat) : Int) : Int).toNat).getD 0 : Nat) : Int) : Int).toNat).getD 0 : Nat) : Int)))))))) ∧
   (decide ((2097152 : Int) ≤ (NOp.den (.andK .i64) x0 4194303)) = false → ((decide ((1048576 : Int) ≤ (NOp.den (.andK .i64) x0 4194303)) = true → (∃ v1 : Int, ∃ v2 : Int, Spec Try.prog ball_direction_s ⟨[((NOp.den (.andK .i64) x0 4194303) - 1048576)], [], []⟩ [v1, v2] [] [] ∧
     (∃ v3 : Int, (Rp (v1 : Int).toNat v3 ∧ v3.natAbs ≤ 67108864) ∧ (((-67108864) ≤ (v3 : Int) ∧ (v3 : Int) ≤ 67108864) ∧ (∃ v4 : Int, (Rp (v2 : Int).toNat v4 ∧ v4.natAbs ≤ 67108864) ∧ (((-67108864) ≤ (v4 : Int) ∧ (v4 : Int) ≤ 67108864) ∧ R ((((fmt .sub .f64 ((((fmt .mul .f64 (v1 : Int).toNat (((FloatKind.f64.nearest 0 : Nat) : Int) : Int).toNat).getD 0 : Nat) : Int) : Int).toNat ((((fmt .mul .f64 (v2 : Int).toNat (((FloatKind.f64.nearest 1 : Nat) : Int) : Int).toNat).getD 0 : Nat) : Int) : Int).toNat).getD 0 : Nat) : Int)) ((((fmt .add .f64 ((((fmt .mul .f64 (v1 : Int).toNat (((FloatKind.f64.nearest 1 : Nat) : Int) : Int).toNat).getD 0 : Nat) : Int) : Int).toNat ((((fmt .mul .f64 (v2 : Int).toNat (((FloatKind.f64.nearest 0 : Nat) : Int) : Int).toNat).getD 0 : Nat) : Int) : Int).toNat).getD 0 : Nat) : Int)))))))) ∧
    (decide ((1048576 : Int) ≤ (NOp.den (.andK .i64) x0 4194303)) = false → ((decide (((NOp.den (.andK .i64) x0 4194303) : Int) ≤ 524288) = true → (∃ v1 : Int, ∃ v2 : Int, Spec Try.prog ball_halved_s ⟨[(NOp.den (.andK .i64) x0 4194303)], [], []⟩ [v1, v2] [] [] ∧
      R (v1) (v2))) ∧
     (decide (((NOp.den (.andK .i64) x0 4194303) : Int) ≤ 524288) = false → (∃ v1 : Int, ∃ v2 : Int, Spec Try.prog ball_direction_s ⟨[(1048576 - (NOp.den (.andK .i64) x0 4194303))], [], []⟩ [v1, v2] [] [] ∧
      (∃ v3 : Int, (Rp (v1 : Int).toNat v3 ∧ v3.natAbs ≤ 67108864) ∧ (((-67108864) ≤ (v3 : Int) ∧ (v3 : Int) ≤ 67108864) ∧ (∃ v4 : Int, (Rp (v2 : Int).toNat v4 ∧ v4.natAbs ≤ 67108864) ∧ (((-67108864) ≤ (v4 : Int) ∧ (v4 : Int) ≤ 67108864) ∧ R (((FloatKind.f64.nearest v4 : Nat) : Int)) (((FloatKind.f64.nearest v3 : Nat) : Int)))))))))))))) :
    ∃ v0 : Int, ∃ v1 : Int, R v0 v1 ∧ Spec Try.prog ball_direction_s ⟨[x0], [], []⟩ [v0, v1] [] [] :=
  Eq.mp (by kernel_rfl) (exV_of (K := fun d => app3 ball_direction_s.out R d ∧ Spec Try.prog ball_direction_s ⟨[x0], [], []⟩ d.1 d.2.1 d.2.2) (tree_at mixed names S1_ok (S := S1 Try.prog) (lf := 100000) (d := 60) ball_direction_s drn_t { ivs := [(0, (-9223372036854775808), 9223372036854775807)], aivs := [] } ⟨[x0], [], []⟩ rfl (by kernel_rfl) (by kernel_rfl) (by kernel_rfl) ⟨(fc r0 fz), fz, fz, fz⟩ (R := fun d => app3 ball_direction_s.out R d) (Eq.mp (by kernel_rfl) H)))

def rdr_t : Tr :=
  (.ite (.icmp .leq (.lit 0) (.bin .remK (.var 0) (.lit 4194304)))
  (.ite (.icmp .leq (.lit 2097152) (.bin .remK (.var 0) (.lit 4194304)))
   (.call etalonref01_Direction_s ⟨[(.bin .subI (.bin .remK (.var 0) (.lit 4194304)) (.lit 2097152))], [], []⟩ ⟨[(.bin .subI (.bin .remK (.var 0) (.lit 4194304)) (.lit 2097152)), (.var 1), (.var 2)], [], []⟩ ⟨111, [(.int .i64 (.bin .subI (.bin .remK (.var 0) (.lit 4194304)) (.lit 2097152)))], [], [none], (.agg [(.int .i64 (.var 1)), (.int .i64 (.var 2))]), []⟩
    (.rng 1 (-67108864) 67108864 (.rng 2 (-67108864) 67108864 (.ret ⟨[(.bin .subI (.lit 0) (.var 1)), (.bin .subI (.lit 0) (.var 2))], [], []⟩ []))))
   (.ite (.icmp .leq (.lit 1048576) (.bin .remK (.var 0) (.lit 4194304)))
    (.call etalonref01_Direction_s ⟨[(.bin .subI (.bin .remK (.var 0) (.lit 4194304)) (.lit 1048576))], [], []⟩ ⟨[(.bin .subI (.bin .remK (.var 0) (.lit 4194304)) (.lit 1048576)), (.var 1), (.var 2)], [], []⟩ ⟨111, [(.int .i64 (.bin .subI (.bin .remK (.var 0) (.lit 4194304)) (.lit 1048576)))], [], [none], (.agg [(.int .i64 (.var 1)), (.int .i64 (.var 2))]), []⟩
     (.rng 1 (-67108864) 67108864 (.rng 2 (-67108864) 67108864 (.ret ⟨[(.bin .subI (.lit 0) (.var 2)), (.var 1)], [], []⟩ []))))
    (.ite (.icmp .leq (.bin .remK (.var 0) (.lit 4194304)) (.lit 524288))
     (.call etalonbase_Root_s ⟨[(.lit 2251799813685248)], [], []⟩ ⟨[(.lit 2251799813685248), (.var 1)], [], []⟩ ⟨108, [(.int .i64 (.lit 2251799813685248))], [], [none], (.int .i64 (.var 1)), []⟩
      (.rng 1 0 268435456 (.ite (.icmp .eql (.bin .remK (.var 0) (.lit 4194304)) (.lit 0))
      (.ret ⟨[(.lit 67108864), (.lit 0)], [], []⟩ [])
      (.loop ⟨111, [0, 0, 1, 1, 1, 1, 1, 1, 1, 1, 1], [(.int .i64 (.bin .remK (.var 0) (.lit 4194304))), (.tuple []), (.ptr (some ⟨0, 0, none⟩)), (.tuple []), (.tuple []), (.tuple []), (.int .i64 (.var 1)), (.int .i64 (.lit 0)), (.int .i64 (.lit 524288)), (.ptr (some ⟨1, 0, none⟩)), (.ptr (some ⟨2, 0, none⟩)), (.tuple []), (.tuple []), (.tuple []), (.tuple []), (.tuple []), (.int .i64 (.var 0)), (.int .i64 (.bin .remK (.var 0) (.lit 4194304))), (.int .i64 (.bin .remK (.var 0) (.lit 4194304))), (.bool (.icmp .geq (.bin .remK (.var 0) (.lit 4194304)) (.lit 2097152))), (.tuple []), (.tuple []), (.tuple []), (.tuple []), (.tuple []), (.tuple []), (.tuple []), (.tuple []), (.tuple []), (.tuple []), (.int .i64 (.bin .remK (.var 0) (.lit 4194304))), (.bool (.icmp .geq (.bin .remK (.var 0) (.lit 4194304)) (.lit 1048576))), (.tuple []), (.tuple []), (.tuple []), (.tuple []), (.tuple []), (.tuple []), (.tuple []), (.tuple []), (.tuple []), (.int .i64 (.bin .remK (.var 0) (.lit 4194304))), (.bool (.icmp .gtr (.bin .remK (.var 0) (.lit 4194304)) (.lit 524288))), (.tuple []), (.tuple []), (.tuple []), (.tuple []), (.tuple []), (.tuple []), (.tuple []), (.tuple []), (.int .i64 (.var 1)), (.agg [(.int .i64 (.lit 67108864)), (.int .i64 (.lit 0))]), (.int .i64 (.var 1)), (.int .i64 (.var 1)), (.agg [(.int .i64 (.var 1)), (.int .i64 (.var 1))]), (.int .i64 (.bin .remK (.var 0) (.lit 4194304))), (.bool (.icmp .eql (.bin .remK (.var 0) (.lit 4194304)) (.lit 0))), (.tuple []), (.tuple []), (.tuple []), (.tuple []), (.tuple []), (.tuple []), (.tuple []), (.tuple []), (.tuple []), (.tuple []), (.tuple []), (.tuple []), (.tuple []), (.tuple []), (.tuple []), (.tuple []), (.tuple []), (.tuple []), (.tuple []), (.tuple []), (.tuple []), (.tuple []), (.tuple []), (.tuple []), (.tuple []), (.tuple []), (.tuple []), (.tuple []), (.tuple []), (.tuple []), (.tuple []), (.tuple []), (.tuple []), (.tuple []), (.tuple []), (.tuple []), (.tuple []), (.tuple []), (.tuple []), (.tuple []), (.tuple []), (.tuple []), (.tuple []), (.tuple []), (.tuple []), (.tuple []), (.tuple [])], [(some ⟨[(.int .i64 (.lit 0)), (.int .i64 (.lit 0))], 58, false, false, none⟩), (some ⟨[(.int .i64 (.lit 67108864)), (.int .i64 (.lit 0))], 58, false, false, none⟩), (some ⟨[(.int .i64 (.var 1)), (.int .i64 (.var 1))], 58, false, false, none⟩)], [], [(.int .i64 (.bin .remK (.var 0) (.lit 4194304))), (.tuple []), (.ptr (some ⟨0, 0, none⟩)), (.tuple []), (.tuple []), (.tuple []), (.int .i64 (.var 1)), (.int .i64 (.var 2)), (.int .i64 (.var 3)), (.ptr (some ⟨1, 0, none⟩)), (.ptr (some ⟨2, 0, none⟩)), (.any 11), (.any 12), (.any 13), (.any 14), (.any 15), (.int .i64 (.var 0)), (.int .i64 (.bin .remK (.var 0) (.lit 4194304))), (.int .i64 (.bin .remK (.var 0) (.lit 4194304))), (.bool (.icmp .geq (.bin .remK (.var 0) (.lit 4194304)) (.lit 2097152))), (.tuple []), (.tuple []), (.tuple []), (.tuple []), (.tuple []), (.tuple []), (.tuple []), (.tuple []), (.tuple []), (.tuple []), (.int .i64 (.bin .remK (.var 0) (.lit 4194304))), (.bool (.icmp .geq (.bin .remK (.var 0) (.lit 4194304)) (.lit 1048576))), (.tuple []), (.tuple []), (.tuple []), (.tuple []), (.tuple []), (.tuple []), (.tuple []), (.tuple []), (.tuple []), (.int .i64 (.bin .remK (.var 0) (.lit 4194304))), (.bool (.icmp .gtr (.bin .remK (.var 0) (.lit 4194304)) (.lit 524288))), (.tuple []), (.tuple []), (.tuple []), (.tuple []), (.tuple []), (.tuple []), (.tuple []), (.tuple []), (.int .i64 (.var 1)), (.agg [(.int .i64 (.lit 67108864)), (.int .i64 (.lit 0))]), (.int .i64 (.var 1)), (.int .i64 (.var 1)), (.agg [(.int .i64 (.var 1)), (.int .i64 (.var 1))]), (.int .i64 (.bin .remK (.var 0) (.lit 4194304))), (.bool (.icmp .eql (.bin .remK (.var 0) (.lit 4194304)) (.lit 0))), (.tuple []), (.any 59), (.any 60), (.any 61), (.any 62), (.any 63), (.any 64), (.any 65), (.any 66), (.any 67), (.any 68), (.any 69), (.any 70), (.any 71), (.any 72), (.any 73), (.any 74), (.any 75), (.any 76), (.any 77), (.any 78), (.any 79), (.any 80), (.any 81), (.any 82), (.any 83), (.any 84), (.any 85), (.any 86), (.any 87), (.any 88), (.any 89), (.any 90), (.any 91), (.any 92), (.any 93), (.any 94), (.any 95), (.tuple []), (.any 97), (.any 98), (.any 99), (.any 100), (.any 101), (.any 102), (.any 103), (.tuple [])], [(some ⟨[(.int .i64 (.lit 0)), (.int .i64 (.lit 0))], 58, false, false, none⟩), (some ⟨[(.int .i64 (.var 4)), (.int .i64 (.var 5))], 58, false, false, none⟩), (some ⟨[(.int .i64 (.var 6)), (.int .i64 (.var 7))], 58, false, false, none⟩)], [1, 2, 0], ⟨6, 0, 0⟩, ⟨[(.lit 0), (.lit 524288), (.lit 67108864), (.lit 0), (.var 1), (.var 1)], [], []⟩, []⟩
       (.rng 2 0 524288 (.rng 3 0 524288 (.rng 4 0 67108864 (.rng 5 0 67108864 (.rng 6 0 67108864 (.rng 7 0 67108864 (.ite (.icmp .eql (.bin .remK (.var 0) (.lit 4194304)) (.var 3))
        (.out 1 ⟨[(.var 4), (.var 5), (.var 6), (.var 7)], [], []⟩ [])
        (.call etalonbase_Root_s ⟨[(.bin .addI (.bin .mulI (.bin .addI (.var 4) (.var 6)) (.bin .addI (.var 4) (.var 6))) (.bin .mulI (.bin .addI (.var 5) (.var 7)) (.bin .addI (.var 5) (.var 7))))], [], []⟩ ⟨[(.bin .addI (.bin .mulI (.bin .addI (.var 4) (.var 6)) (.bin .addI (.var 4) (.var 6))) (.bin .mulI (.bin .addI (.var 5) (.var 7)) (.bin .addI (.var 5) (.var 7)))), (.var 8)], [], []⟩ ⟨108, [(.int .i64 (.bin .addI (.bin .mulI (.bin .addI (.var 4) (.var 6)) (.bin .addI (.var 4) (.var 6))) (.bin .mulI (.bin .addI (.var 5) (.var 7)) (.bin .addI (.var 5) (.var 7)))))], [], [none, none, none], (.int .i64 (.var 8)), []⟩
         (.rng 8 0 268435456 (.ite (.icmp .eql (.var 8) (.lit 0))
         .nil
         (.ite (.icmp .eql (.bin .quoI (.bin .addI (.var 2) (.var 3)) (.lit 2)) (.bin .remK (.var 0) (.lit 4194304)))
          (.out 0 ⟨[(.bin .quoI (.bin .mulI (.bin .addI (.var 4) (.var 6)) (.lit 67108864)) (.var 8)), (.bin .quoI (.bin .mulI (.bin .addI (.var 5) (.var 7)) (.lit 67108864)) (.var 8)), (.var 4), (.var 5), (.var 6), (.var 7)], [], []⟩ [])
          (.ite (.icmp .leq (.bin .remK (.var 0) (.lit 4194304)) (.bin .quoI (.bin .addI (.var 2) (.var 3)) (.lit 2)))
           (.next ⟨[(.var 2), (.bin .quoI (.bin .addI (.var 2) (.var 3)) (.lit 2)), (.var 4), (.var 5), (.bin .quoI (.bin .mulI (.bin .addI (.var 4) (.var 6)) (.lit 67108864)) (.var 8)), (.bin .quoI (.bin .mulI (.bin .addI (.var 5) (.var 7)) (.lit 67108864)) (.var 8))], [], []⟩ [])
           (.next ⟨[(.bin .quoI (.bin .addI (.var 2) (.var 3)) (.lit 2)), (.var 3), (.bin .quoI (.bin .mulI (.bin .addI (.var 4) (.var 6)) (.lit 67108864)) (.var 8)), (.bin .quoI (.bin .mulI (.bin .addI (.var 5) (.var 7)) (.lit 67108864)) (.var 8)), (.var 6), (.var 7)], [], []⟩ [])))))))))))))
       (.ex (.ret, [(.int .i64 (.bin .remK (.var 0) (.lit 4194304))), (.tuple []), (.ptr (some ⟨0, 0, none⟩)), (.tuple []), (.tuple []), (.tuple []), (.int .i64 (.var 1)), (.any 7), (.any 8), (.ptr (some ⟨1, 0, none⟩)), (.ptr (some ⟨2, 0, none⟩)), (.any 11), (.any 12), (.any 13), (.any 14), (.any 15), (.int .i64 (.var 0)), (.int .i64 (.bin .remK (.var 0) (.lit 4194304))), (.int .i64 (.bin .remK (.var 0) (.lit 4194304))), (.bool (.icmp .geq (.bin .remK (.var 0) (.lit 4194304)) (.lit 2097152))), (.tuple []), (.tuple []), (.tuple []), (.tuple []), (.tuple []), (.tuple []), (.tuple []), (.tuple []), (.tuple []), (.tuple []), (.int .i64 (.bin .remK (.var 0) (.lit 4194304))), (.bool (.icmp .geq (.bin .remK (.var 0) (.lit 4194304)) (.lit 1048576))), (.tuple []), (.tuple []), (.tuple []), (.tuple []), (.tuple []), (.tuple []), (.tuple []), (.tuple []), (.tuple []), (.int .i64 (.bin .remK (.var 0) (.lit 4194304))), (.bool (.icmp .gtr (.bin .remK (.var 0) (.lit 4194304)) (.lit 524288))), (.tuple []), (.tuple []), (.tuple []), (.tuple []), (.tuple []), (.tuple []), (.tuple []), (.tuple []), (.int .i64 (.var 1)), (.agg [(.int .i64 (.lit 67108864)), (.int .i64 (.lit 0))]), (.int .i64 (.var 1)), (.int .i64 (.var 1)), (.agg [(.int .i64 (.var 1)), (.int .i64 (.var 1))]), (.int .i64 (.bin .remK (.var 0) (.lit 4194304))), (.bool (.icmp .eql (.bin .remK (.var 0) (.lit 4194304)) (.lit 0))), (.tuple []), (.any 59), (.any 60), (.any 61), (.any 62), (.any 63), (.any 64), (.any 65), (.any 66), (.any 67), (.any 68), (.any 69), (.any 70), (.any 71), (.any 72), (.any 73), (.any 74), (.any 75), (.any 76), (.any 77), (.any 78), (.any 79), (.any 80), (.any 81), (.any 82), (.any 83), (.any 84), (.any 85), (.any 86), (.any 87), (.any 88), (.any 89), (.any 90), (.any 91), (.any 92), (.any 93), (.any 94), (.any 95), (.any 96), (.any 97), (.any 98), (.any 99), (.any 100), (.any 101), (.any 102), (.any 103), (.tuple [])], [(some ⟨[(.int .i64 (.var 2)), (.int .i64 (.var 3))], 58, false, false, none⟩), (some ⟨[(.int .i64 (.var 4)), (.int .i64 (.var 5))], 58, false, false, none⟩), (some ⟨[(.int .i64 (.var 6)), (.int .i64 (.var 7))], 58, false, false, none⟩)], [1, 2, 0]) ⟨6, 0, 0⟩
       (.rng 2 (-9223372036854775808) 9223372036854775807 (.rng 3 (-9223372036854775808) 9223372036854775807 (.rng 4 (-9223372036854775808) 9223372036854775807 (.rng 5 (-9223372036854775808) 9223372036854775807 (.rng 6 (-9223372036854775808) 9223372036854775807 (.rng 7 (-9223372036854775808) 9223372036854775807 (.ret ⟨[(.var 2), (.var 3)], [], []⟩ [])))))))
       (.ex ((.exit 0), [(.int .i64 (.bin .remK (.var 0) (.lit 4194304))), (.tuple []), (.ptr (some ⟨0, 0, none⟩)), (.tuple []), (.tuple []), (.tuple []), (.int .i64 (.var 1)), (.any 7), (.any 8), (.ptr (some ⟨1, 0, none⟩)), (.ptr (some ⟨2, 0, none⟩)), (.any 11), (.any 12), (.any 13), (.any 14), (.any 15), (.int .i64 (.var 0)), (.int .i64 (.bin .remK (.var 0) (.lit 4194304))), (.int .i64 (.bin .remK (.var 0) (.lit 4194304))), (.bool (.icmp .geq (.bin .remK (.var 0) (.lit 4194304)) (.lit 2097152))), (.tuple []), (.tuple []), (.tuple []), (.tuple []), (.tuple []), (.tuple []), (.tuple []), (.tuple []), (.tuple []), (.tuple []), (.int .i64 (.bin .remK (.var 0) (.lit 4194304))), (.bool (.icmp .geq (.bin .remK (.var 0) (.lit 4194304)) (.lit 1048576))), (.tuple []), (.tuple []), (.tuple []), (.tuple []), (.tuple []), (.tuple []), (.tuple []), (.tuple []), (.tuple []), (.int .i64 (.bin .remK (.var 0) (.lit 4194304))), (.bool (.icmp .gtr (.bin .remK (.var 0) (.lit 4194304)) (.lit 524288))), (.tuple []), (.tuple []), (.tuple []), (.tuple []), (.tuple []), (.tuple []), (.tuple []), (.tuple []), (.int .i64 (.var 1)), (.agg [(.int .i64 (.lit 67108864)), (.int .i64 (.lit 0))]), (.int .i64 (.var 1)), (.int .i64 (.var 1)), (.agg [(.int .i64 (.var 1)), (.int .i64 (.var 1))]), (.int .i64 (.bin .remK (.var 0) (.lit 4194304))), (.bool (.icmp .eql (.bin .remK (.var 0) (.lit 4194304)) (.lit 0))), (.tuple []), (.any 59), (.any 60), (.any 61), (.any 62), (.any 63), (.any 64), (.any 65), (.any 66), (.any 67), (.any 68), (.any 69), (.any 70), (.any 71), (.any 72), (.any 73), (.any 74), (.any 75), (.any 76), (.any 77), (.any 78), (.any 79), (.any 80), (.any 81), (.any 82), (.any 83), (.any 84), (.any 85), (.any 86), (.any 87), (.any 88), (.any 89), (.any 90), (.any 91), (.any 92), (.any 93), (.any 94), (.any 95), (.tuple []), (.any 97), (.any 98), (.any 99), (.any 100), (.any 101), (.any 102), (.any 103), (.tuple [])], [(some ⟨[(.int .i64 (.lit 0)), (.int .i64 (.lit 0))], 58, false, false, none⟩), (some ⟨[(.int .i64 (.var 2)), (.int .i64 (.var 3))], 58, false, false, none⟩), (some ⟨[(.int .i64 (.var 4)), (.int .i64 (.var 5))], 58, false, false, none⟩)], [1, 2, 0]) ⟨4, 0, 0⟩
       (.rng 2 (-9223372036854775808) 9223372036854775807 (.rng 3 (-9223372036854775808) 9223372036854775807 (.rng 4 (-9223372036854775808) 9223372036854775807 (.rng 5 (-9223372036854775808) 9223372036854775807 (.ret ⟨[(.var 4), (.var 5)], [], []⟩ [])))))
       .nil))))))
     (.call etalonref01_Direction_s ⟨[(.bin .subI (.lit 1048576) (.bin .remK (.var 0) (.lit 4194304)))], [], []⟩ ⟨[(.bin .subI (.lit 1048576) (.bin .remK (.var 0) (.lit 4194304))), (.var 1), (.var 2)], [], []⟩ ⟨111, [(.int .i64 (.bin .subI (.lit 1048576) (.bin .remK (.var 0) (.lit 4194304))))], [], [none], (.agg [(.int .i64 (.var 1)), (.int .i64 (.var 2))]), []⟩
      (.rng 1 (-67108864) 67108864 (.rng 2 (-67108864) 67108864 (.ret ⟨[(.var 2), (.var 1)], [], []⟩ [])))))))
  (.ite (.icmp .leq (.lit 2097152) (.bin .addI (.bin .remK (.var 0) (.lit 4194304)) (.lit 4194304)))
   (.call etalonref01_Direction_s ⟨[(.bin .subI (.bin .addI (.bin .remK (.var 0) (.lit 4194304)) (.lit 4194304)) (.lit 2097152))], [], []⟩ ⟨[(.bin .subI (.bin .addI (.bin .remK (.var 0) (.lit 4194304)) (.lit 4194304)) (.lit 2097152)), (.var 1), (.var 2)], [], []⟩ ⟨111, [(.int .i64 (.bin .subI (.bin .addI (.bin .remK (.var 0) (.lit 4194304)) (.lit 4194304)) (.lit 2097152)))], [], [none], (.agg [(.int .i64 (.var 1)), (.int .i64 (.var 2))]), []⟩
    (.rng 1 (-67108864) 67108864 (.rng 2 (-67108864) 67108864 (.ret ⟨[(.bin .subI (.lit 0) (.var 1)), (.bin .subI (.lit 0) (.var 2))], [], []⟩ []))))
   (.ite (.icmp .leq (.lit 1048576) (.bin .addI (.bin .remK (.var 0) (.lit 4194304)) (.lit 4194304)))
    (.call etalonref01_Direction_s ⟨[(.bin .subI (.bin .addI (.bin .remK (.var 0) (.lit 4194304)) (.lit 4194304)) (.lit 1048576))], [], []⟩ ⟨[(.bin .subI (.bin .addI (.bin .remK (.var 0) (.lit 4194304)) (.lit 4194304)) (.lit 1048576)), (.var 1), (.var 2)], [], []⟩ ⟨111, [(.int .i64 (.bin .subI (.bin .addI (.bin .remK (.var 0) (.lit 4194304)) (.lit 4194304)) (.lit 1048576)))], [], [none], (.agg [(.int .i64 (.var 1)), (.int .i64 (.var 2))]), []⟩
     (.rng 1 (-67108864) 67108864 (.rng 2 (-67108864) 67108864 (.ret ⟨[(.bin .subI (.lit 0) (.var 2)), (.var 1)], [], []⟩ []))))
    (.ite (.icmp .leq (.bin .addI (.bin .remK (.var 0) (.lit 4194304)) (.lit 4194304)) (.lit 524288))
     (.call etalonbase_Root_s ⟨[(.lit 2251799813685248)], [], []⟩ ⟨[(.lit 2251799813685248), (.var 1)], [], []⟩ ⟨108, [(.int .i64 (.lit 2251799813685248))], [], [none], (.int .i64 (.var 1)), []⟩
      (.rng 1 0 268435456 (.loop ⟨111, [0, 0, 1, 1, 1, 1, 1, 1, 1, 1, 1], [(.int .i64 (.bin .addI (.bin .remK (.var 0) (.lit 4194304)) (.lit 4194304))), (.tuple []), (.ptr (some ⟨0, 0, none⟩)), (.tuple []), (.tuple []), (.tuple []), (.int .i64 (.var 1)), (.int .i64 (.lit 0)), (.int .i64 (.lit 524288)), (.ptr (some ⟨1, 0, none⟩)), (.ptr (some ⟨2, 0, none⟩)), (.tuple []), (.tuple []), (.tuple []), (.tuple []), (.tuple []), (.int .i64 (.var 0)), (.int .i64 (.bin .addI (.bin .remK (.var 0) (.lit 4194304)) (.lit 4194304))), (.int .i64 (.bin .addI (.bin .remK (.var 0) (.lit 4194304)) (.lit 4194304))), (.bool (.icmp .geq (.bin .addI (.bin .remK (.var 0) (.lit 4194304)) (.lit 4194304)) (.lit 2097152))), (.tuple []), (.tuple []), (.tuple []), (.tuple []), (.tuple []), (.tuple []), (.tuple []), (.tuple []), (.tuple []), (.tuple []), (.int .i64 (.bin .addI (.bin .remK (.var 0) (.lit 4194304)) (.lit 4194304))), (.bool (.icmp .geq (.bin .addI (.bin .remK (.var 0) (.lit 4194304)) (.lit 4194304)) (.lit 1048576))), (.tuple []), (.tuple []), (.tuple []), (.tuple []), (.tuple []), (.tuple []), (.tuple []), (.tuple []), (.tuple []), (.int .i64 (.bin .addI (.bin .remK (.var 0) (.lit 4194304)) (.lit 4194304))), (.bool (.icmp .gtr (.bin .addI (.bin .remK (.var 0) (.lit 4194304)) (.lit 4194304)) (.lit 524288))), (.tuple []), (.tuple []), (.tuple []), (.tuple []), (.tuple []), (.tuple []), (.tuple []), (.tuple []), (.int .i64 (.var 1)), (.agg [(.int .i64 (.lit 67108864)), (.int .i64 (.lit 0))]), (.int .i64 (.var 1)), (.int .i64 (.var 1)), (.agg [(.int .i64 (.var 1)), (.int .i64 (.var 1))]), (.int .i64 (.bin .addI (.bin .remK (.var 0) (.lit 4194304)) (.lit 4194304))), (.bool (.icmp .eql (.bin .addI (.bin .remK (.var 0) (.lit 4194304)) (.lit 4194304)) (.lit 0))), (.tuple []), (.tuple []), (.tuple []), (.tuple []), (.tuple []), (.tuple []), (.tuple []), (.tuple []), (.tuple []), (.tuple []), (.tuple []), (.tuple []), (.tuple []), (.tuple []), (.tuple []), (.tuple []), (.tuple []), (.tuple []), (.tuple []), (.tuple []), (.tuple []), (.tuple []), (.tuple []), (.tuple []), (.tuple []), (.tuple []), (.tuple []), (.tuple []), (.tuple []), (.tuple []), (.tuple []), (.tuple []), (.tuple []), (.tuple []), (.tuple []), (.tuple []), (.tuple []), (.tuple []), (.tuple []), (.tuple []), (.tuple []), (.tuple []), (.tuple []), (.tuple []), (.tuple []), (.tuple []), (.tuple [])], [(some ⟨[(.int .i64 (.lit 0)), (.int .i64 (.lit 0))], 58, false, false, none⟩), (some ⟨[(.int .i64 (.lit 67108864)), (.int .i64 (.lit 0))], 58, false, false, none⟩), (some ⟨[(.int .i64 (.var 1)), (.int .i64 (.var 1))], 58, false, false, none⟩)], [], [(.int .i64 (.bin .addI (.bin .remK (.var 0) (.lit 4194304)) (.lit 4194304))), (.tuple []), (.ptr (some ⟨0, 0, none⟩)), (.tuple []), (.tuple []), (.tuple []), (.int .i64 (.var 1)), (.int .i64 (.var 2)), (.int .i64 (.var 3)), (.ptr (some ⟨1, 0, none⟩)), (.ptr (some ⟨2, 0, none⟩)), (.any 11), (.any 12), (.any 13), (.any 14), (.any 15), (.int .i64 (.var 0)), (.int .i64 (.bin .addI (.bin .remK (.var 0) (.lit 4194304)) (.lit 4194304))), (.int .i64 (.bin .addI (.bin .remK (.var 0) (.lit 4194304)) (.lit 4194304))), (.bool (.icmp .geq (.bin .addI (.bin .remK (.var 0) (.lit 4194304)) (.lit 4194304)) (.lit 2097152))), (.tuple []), (.tuple []), (.tuple []), (.tuple []), (.tuple []), (.tuple []), (.tuple []), (.tuple []), (.tuple []), (.tuple []), (.int .i64 (.bin .addI (.bin .remK (.var 0) (.lit 4194304)) (.lit 4194304))), (.bool (.icmp .geq (.bin .addI (.bin .remK (.var 0) (.lit 4194304)) (.lit 4194304)) (.lit 1048576))), (.tuple []), (.tuple []), (.tuple []), (.tuple []), (.tuple []), (.tuple []), (.tuple []), (.tuple []), (.tuple []), (.int .i64 (.bin .addI (.bin .remK (.var 0) (.lit 4194304)) (.lit 4194304))), (.bool (.icmp .gtr (.bin .addI (.bin .remK (.var 0) (.lit 4194304)) (.lit 4194304)) (.lit 524288))), (.tuple []), (.tuple []), (.tuple []), (.tuple []), (.tuple []), (.tuple []), (.tuple []), (.tuple []), (.int .i64 (.var 1)), (.agg [(.int .i64 (.lit 67108864)), (.int .i64 (.lit 0))]), (.int .i64 (.var 1)), (.int .i64 (.var 1)), (.agg [(.int .i64 (.var 1)), (.int .i64 (.var 1))]), (.int .i64 (.bin .addI (.bin .remK (.var 0) (.lit 4194304)) (.lit 4194304))), (.bool (.icmp .eql (.bin .addI (.bin .remK (.var 0) (.lit 4194304)) (.lit 4194304)) (.lit 0))), (.tuple []), (.any 59), (.any 60), (.any 61), (.any 62), (.any 63), (.any 64), (.any 65), (.any 66), (.any 67), (.any 68), (.any 69), (.any 70), (.any 71), (.any 72), (.any 73), (.any 74), (.any 75), (.any 76), (.any 77), (.any 78), (.any 79), (.any 80), (.any 81), (.any 82), (.any 83), (.any 84), (.any 85), (.any 86), (.any 87), (.any 88), (.any 89), (.any 90), (.any 91), (.any 92), (.any 93), (.any 94), (.any 95), (.tuple []), (.any 97), (.any 98), (.any 99), (.any 100), (.any 101), (.any 102), (.any 103), (.tuple [])], [(some ⟨[(.int .i64 (.lit 0)), (.int .i64 (.lit 0))], 58, false, false, none⟩), (some ⟨[(.int .i64 (.var 4)), (.int .i64 (.var 5))], 58, false, false, none⟩), (some ⟨[(.int .i64 (.var 6)), (.int .i64 (.var 7))], 58, false, false, none⟩)], [1, 2, 0], ⟨6, 0, 0⟩, ⟨[(.lit 0), (.lit 524288), (.lit 67108864), (.lit 0), (.var 1), (.var 1)], [], []⟩, []⟩
      (.rng 2 0 524288 (.rng 3 0 524288 (.rng 4 0 67108864 (.rng 5 0 67108864 (.rng 6 0 67108864 (.rng 7 0 67108864 (.ite (.icmp .eql (.bin .addI (.bin .remK (.var 0) (.lit 4194304)) (.lit 4194304)) (.var 3))
       (.out 1 ⟨[(.var 4), (.var 5), (.var 6), (.var 7)], [], []⟩ [])
       (.call etalonbase_Root_s ⟨[(.bin .addI (.bin .mulI (.bin .addI (.var 4) (.var 6)) (.bin .addI (.var 4) (.var 6))) (.bin .mulI (.bin .addI (.var 5) (.var 7)) (.bin .addI (.var 5) (.var 7))))], [], []⟩ ⟨[(.bin .addI (.bin .mulI (.bin .addI (.var 4) (.var 6)) (.bin .addI (.var 4) (.var 6))) (.bin .mulI (.bin .addI (.var 5) (.var 7)) (.bin .addI (.var 5) (.var 7)))), (.var 8)], [], []⟩ ⟨108, [(.int .i64 (.bin .addI (.bin .mulI (.bin .addI (.var 4) (.var 6)) (.bin .addI (.var 4) (.var 6))) (.bin .mulI (.bin .addI (.var 5) (.var 7)) (.bin .addI (.var 5) (.var 7)))))], [], [none, none, none], (.int .i64 (.var 8)), []⟩
        (.rng 8 0 268435456 (.ite (.icmp .eql (.var 8) (.lit 0))
        .nil
        (.ite (.icmp .eql (.bin .quoI (.bin .addI (.var 2) (.var 3)) (.lit 2)) (.bin .addI (.bin .remK (.var 0) (.lit 4194304)) (.lit 4194304)))
         (.out 0 ⟨[(.bin .quoI (.bin .mulI (.bin .addI (.var 4) (.var 6)) (.lit 67108864)) (.var 8)), (.bin .quoI (.bin .mulI (.bin .addI (.var 5) (.var 7)) (.lit 67108864)) (.var 8)), (.var 4), (.var 5), (.var 6), (.var 7)], [], []⟩ [])
         (.ite (.icmp .leq (.bin .addI (.bin .remK (.var 0) (.lit 4194304)) (.lit 4194304)) (.bin .quoI (.bin .addI (.var 2) (.var 3)) (.lit 2)))
          (.next ⟨[(.var 2), (.bin .quoI (.bin .addI (.var 2) (.var 3)) (.lit 2)), (.var 4), (.var 5), (.bin .quoI (.bin .mulI (.bin .addI (.var 4) (.var 6)) (.lit 67108864)) (.var 8)), (.bin .quoI (.bin .mulI (.bin .addI (.var 5) (.var 7)) (.lit 67108864)) (.var 8))], [], []⟩ [])
          (.next ⟨[(.bin .quoI (.bin .addI (.var 2) (.var 3)) (.lit 2)), (.var 3), (.bin .quoI (.bin .mulI (.bin .addI (.var 4) (.var 6)) (.lit 67108864)) (.var 8)), (.bin .quoI (.bin .mulI (.bin .addI (.var 5) (.var 7)) (.lit 67108864)) (.var 8)), (.var 6), (.var 7)], [], []⟩ [])))))))))))))
      (.ex (.ret, [(.int .i64 (.bin .addI (.bin .remK (.var 0) (.lit 4194304)) (.lit 4194304))), (.tuple []), (.ptr (some ⟨0, 0, none⟩)), (.tuple []), (.tuple []), (.tuple []), (.int .i64 (.var 1)), (.any 7), (.any 8), (.ptr (some ⟨1, 0, none⟩)), (.ptr (some ⟨2, 0, none⟩)), (.any 11), (.any 12), (.any 13), (.any 14), (.any 15), (.int .i64 (.var 0)), (.int .i64 (.bin .addI (.bin .remK (.var 0) (.lit 4194304)) (.lit 4194304))), (.int .i64 (.bin .addI (.bin .remK (.var 0) (.lit 4194304)) (.lit 4194304))), (.bool (.icmp .geq (.bin .addI (.bin .remK (.var 0) (.lit 4194304)) (.lit 4194304)) (.lit 2097152))), (.tuple []), (.tuple []), (.tuple []), (.tuple []), (.tuple []), (.tuple []), (.tuple []), (.tuple []), (.tuple []), (.tuple []), (.int .i64 (.bin .addI (.bin .remK (.var 0) (.lit 4194304)) (.lit 4194304))), (.bool (.icmp .geq (.bin .addI (.bin .remK (.var 0) (.lit 4194304)) (.lit 4194304)) (.lit 1048576))), (.tuple []), (.tuple []), (.tuple []), (.tuple []), (.tuple []), (.tuple []), (.tuple []), (.tuple []), (.tuple []), (.int .i64 (.bin .addI (.bin .remK (.var 0) (.lit 4194304)) (.lit 4194304))), (.bool (.icmp .gtr (.bin .addI (.bin .remK (.var 0) (.lit 4194304)) (.lit 4194304)) (.lit 524288))), (.tuple []), (.tuple []), (.tuple []), (.tuple []), (.tuple []), (.tuple []), (.tuple []), (.tuple []), (.int .i64 (.var 1)), (.agg [(.int .i64 (.lit 67108864)), (.int .i64 (.lit 0))]), (.int .i64 (.var 1)), (.int .i64 (.var 1)), (.agg [(.int .i64 (.var 1)), (.int .i64 (.var 1))]), (.int .i64 (.bin .addI (.bin .remK (.var 0) (.lit 4194304)) (.lit 4194304))), (.bool (.icmp .eql (.bin .addI (.bin .remK (.var 0) (.lit 4194304)) (.lit 4194304)) (.lit 0))), (.tuple []), (.any 59), (.any 60), (.any 61), (.any 62), (.any 63), (.any 64), (.any 65), (.any 66), (.any 67), (.any 68), (.any 69), (.any 70), (.any 71), (.any 72), (.any 73), (.any 74), (.any 75), (.any 76), (.any 77), (.any 78), (.any 79), (.any 80), (.any 81), (.any 82), (.any 83), (.any 84), (.any 85), (.any 86), (.any 87), (.any 88), (.any 89), (.any 90), (.any 91), (.any 92), (.any 93), (.any 94), (.any 95), (.any 96), (.any 97), (.any 98), (.any 99), (.any 100), (.any 101), (.any 102), (.any 103), (.tuple [])], [(some ⟨[(.int .i64 (.var 2)), (.int .i64 (.var 3))], 58, false, false, none⟩), (some ⟨[(.int .i64 (.var 4)), (.int .i64 (.var 5))], 58, false, false, none⟩), (some ⟨[(.int .i64 (.var 6)), (.int .i64 (.var 7))], 58, false, false, none⟩)], [1, 2, 0]) ⟨6, 0, 0⟩
      (.rng 2 (-9223372036854775808) 9223372036854775807 (.rng 3 (-9223372036854775808) 9223372036854775807 (.rng 4 (-9223372036854775808) 9223372036854775807 (.rng 5 (-9223372036854775808) 9223372036854775807 (.rng 6 (-9223372036854775808) 9223372036854775807 (.rng 7 (-9223372036854775808) 9223372036854775807 (.ret ⟨[(.var 2), (.var 3)], [], []⟩ [])))))))
      (.ex ((.exit 0), [(.int .i64 (.bin .addI (.bin .remK (.var 0) (.lit 4194304)) (.lit 4194304))), (.tuple []), (.ptr (some ⟨0, 0, none⟩)), (.tuple []), (.tuple []), (.tuple []), (.int .i64 (.var 1)), (.any 7), (.any 8), (.ptr (some ⟨1, 0, none⟩)), (.ptr (some ⟨2, 0, none⟩)), (.any 11), (.any 12), (.any 13), (.any 14), (.any 15), (.int .i64 (.var 0)), (.int .i64 (.bin .addI (.bin .remK (.var 0) (.lit 4194304)) (.lit 4194304))), (.int .i64 (.bin .addI (.bin .remK (.var 0) (.lit 4194304)) (.lit 4194304))), (.bool (.icmp .geq (.bin .addI (.bin .remK (.var 0) (.lit 4194304)) (.lit 4194304)) (.lit 2097152))), (.tuple []), (.tuple []), (.tuple []), (.tuple []), (.tuple []), (.tuple []), (.tuple []), (.tuple []), (.tuple []), (.tuple []), (.int .i64 (.bin .addI (.bin .remK (.var 0) (.lit 4194304)) (.lit 4194304))), (.bool (.icmp .geq (.bin .addI (.bin .remK (.var 0) (.lit 4194304)) (.lit 4194304)) (.lit 1048576))), (.tuple []), (.tuple []), (.tuple []), (.tuple []), (.tuple []), (.tuple []), (.tuple []), (.tuple []), (.tuple []), (.int .i64 (.bin .addI (.bin .remK (.var 0) (.lit 4194304)) (.lit 4194304))), (.bool (.icmp .gtr (.bin .addI (.bin .remK (.var 0) (.lit 4194304)) (.lit 4194304)) (.lit 524288))), (.tuple []), (.tuple []), (.tuple []), (.tuple []), (.tuple []), (.tuple []), (.tuple []), (.tuple []), (.int .i64 (.var 1)), (.agg [(.int .i64 (.lit 67108864)), (.int .i64 (.lit 0))]), (.int .i64 (.var 1)), (.int .i64 (.var 1)), (.agg [(.int .i64 (.var 1)), (.int .i64 (.var 1))]), (.int .i64 (.bin .addI (.bin .remK (.var 0) (.lit 4194304)) (.lit 4194304))), (.bool (.icmp .eql (.bin .addI (.bin .remK (.var 0) (.lit 4194304)) (.lit 4194304)) (.lit 0))), (.tuple []), (.any 59), (.any 60), (.any 61), (.any 62), (.any 63), (.any 64), (.any 65), (.any 66), (.any 67), (.any 68), (.any 69), (.any 70), (.any 71), (.any 72), (.any 73), (.any 74), (.any 75), (.any 76), (.any 77), (.any 78), (.any 79), (.any 80), (.any 81), (.any 82), (.any 83), (.any 84), (.any 85), (.any 86), (.any 87), (.any 88), (.any 89), (.any 90), (.any 91), (.any 92), (.any 93), (.any 94), (.any 95), (.tuple []), (.any 97), (.any 98), (.any 99), (.any 100), (.any 101), (.any 102), (.any 103), (.tuple [])], [(some ⟨[(.int .i64 (.lit 0)), (.int .i64 (.lit 0))], 58, false, false, none⟩), (some ⟨[(.int .i64 (.var 2)), (.int .i64 (.var 3))], 58, false, false, none⟩), (some ⟨[(.int .i64 (.var 4)), (.int .i64 (.var 5))], 58, false, false, none⟩)], [1, 2, 0]) ⟨4, 0, 0⟩
      (.rng 2 (-9223372036854775808) 9223372036854775807 (.rng 3 (-9223372036854775808) 9223372036854775807 (.rng 4 (-9223372036854775808) 9223372036854775807 (.rng 5 (-9223372036854775808) 9223372036854775807 (.ret ⟨[(.var 4), (.var 5)], [], []⟩ [])))))
      .nil)))))
     (.call etalonref01_Direction_s ⟨[(.bin .subI (.lit 1048576) (.bin .addI (.bin .remK (.var 0) (.lit 4194304)) (.lit 4194304)))], [], []⟩ ⟨[(.bin .subI (.lit 1048576) (.bin .addI (.bin .remK (.var 0) (.lit 4194304)) (.lit 4194304))), (.var 1), (.var 2)], [], []⟩ ⟨111, [(.int .i64 (.bin .subI (.lit 1048576) (.bin .addI (.bin .remK (.var 0) (.lit 4194304)) (.lit 4194304))))], [], [none], (.agg [(.int .i64 (.var 1)), (.int .i64 (.var 2))]), []⟩
      (.rng 1 (-67108864) 67108864 (.rng 2 (-67108864) 67108864 (.ret ⟨[(.var 2), (.var 1)], [], []⟩ []))))))))
theorem rdr {x0 : Int} (r0 : (-9223372036854775808) ≤ x0 ∧ x0 ≤ 9223372036854775807) {R : Int → Int → Prop}
  (H : ((decide ((0 : Int) ≤ ((x0 : Int).tmod 4194304)) = true → ((decide ((2097152 : Int) ≤ ((x0 : Int).tmod 4194304)) = true → (∃ v1 : Int, ∃ v2 : Int, Spec Try.prog etalonref01_Direction_s ⟨[(((x0 : Int).tmod 4194304) - 2097152)], [], []⟩ [v1, v2] [] [] ∧
     (((-67108864) ≤ (v1 : Int) ∧ (v1 : Int) ≤ 67108864) ∧ (((-67108864) ≤ (v2 : Int) ∧ (v2 : Int) ≤ 67108864) ∧ R ((0 - v1)) ((0 - v2)))))) ∧
    (decide ((2097152 : Int) ≤ ((x0 : Int).tmod 4194304)) = false → ((decide ((1048576 : Int) ≤ ((x0 : Int).tmod 4194304)) = true → (∃ v1 : Int, ∃ v2 : Int, Spec Try.prog etalonref01_Direction_s ⟨[(((x0 : Int).tmod 4194304) - 1048576)], [], []⟩ [v1, v2] [] [] ∧
      (((-67108864) ≤ (v1 : Int) ∧ (v1 : Int) ≤ 67108864) ∧ (((-67108864) ≤ (v2 : Int) ∧ (v2 : Int) ≤ 67108864) ∧ R ((0 - v2)) (v1))))) ∧
     (decide ((1048576 : Int) ≤ ((x0 : Int).tmod 4194304)) = false → ((decide ((((x0 : Int).tmod 4194304) : Int) ≤ 524288) = true → (∃ v1 : Int, Spec Try.prog etalonbase_Root_s ⟨[2251799813685248], [], []⟩ [v1] [] [] ∧
       ((0 ≤ (v1 : Int) ∧ (v1 : Int) ≤ 268435456) ∧ ((((((x0 : Int).tmod 4194304) : Int) == 0) = true → R (67108864) (0)) ∧
       (((((x0 : Int).tmod 4194304) : Int) == 0) = false → (∃ (I2 : Int → Int → Int → Int → Int → Int → Prop) (rk2 : Int → Int → Int → Int → Int → Int → Nat), I2 (0) (524288) (67108864) (0) (v1) (v1) ∧
        (∀ x2 : Int, ∀ x3 : Int, ∀ x4 : Int, ∀ x5 : Int, ∀ x6 : Int, ∀ x7 : Int, I2 x2 x3 x4 x5 x6 x7 → ((0 ≤ (x2 : Int) ∧ (x2 : Int) ≤ 524288) ∧ ((0 ≤ (x3 : Int) ∧ (x3 : Int) ≤ 524288) ∧ ((0 ≤ (x4 : Int) ∧ (x4 : Int) ≤ 67108864) ∧ ((0 ≤ (x5 : Int) ∧ (x5 : Int) ≤ 67108864) ∧ ((0 ≤ (x6 : Int) ∧ (x6 : Int) ≤ 67108864) ∧ ((0 ≤ (x7 : Int) ∧ (x7 : Int) ≤ 67108864) ∧ ((((((x0 : Int).tmod 4194304) : Int) == x3) = true → (((-9223372036854775808) ≤ ((x4) : Int) ∧ ((x4) : Int) ≤ 9223372036854775807) ∧ (((-9223372036854775808) ≤ ((x5) : Int) ∧ ((x5) : Int) ≤ 9223372036854775807) ∧ (((-9223372036854775808) ≤ ((x6) : Int) ∧ ((x6) : Int) ≤ 9223372036854775807) ∧ (((-9223372036854775808) ≤ ((x7) : Int) ∧ ((x7) : Int) ≤ 9223372036854775807) ∧ R ((x6)) ((x7))))))) ∧
         (((((x0 : Int).tmod 4194304) : Int) == x3) = false → (∃ v8 : Int, Spec Try.prog etalonbase_Root_s ⟨[(((x4 + x6) * (x4 + x6)) + ((x5 + x7) * (x5 + x7)))], [], []⟩ [v8] [] [] ∧
          ((0 ≤ (v8 : Int) ∧ (v8 : Int) ≤ 268435456) ∧ ((((v8 : Int) == 0) = true → False) ∧
          (((v8 : Int) == 0) = false → (((((((x2 + x3) : Int).tdiv 2) : Int) == ((x0 : Int).tmod 4194304)) = true → (((-9223372036854775808) ≤ ((((((x4 + x6) * 67108864) : Int).tdiv v8)) : Int) ∧ ((((((x4 + x6) * 67108864) : Int).tdiv v8)) : Int) ≤ 9223372036854775807) ∧ (((-9223372036854775808) ≤ ((((((x5 + x7) * 67108864) : Int).tdiv v8)) : Int) ∧ ((((((x5 + x7) * 67108864) : Int).tdiv v8)) : Int) ≤ 9223372036854775807) ∧ (((-9223372036854775808) ≤ ((x4) : Int) ∧ ((x4) : Int) ≤ 9223372036854775807) ∧ (((-9223372036854775808) ≤ ((x5) : Int) ∧ ((x5) : Int) ≤ 9223372036854775807) ∧ (((-9223372036854775808) ≤ ((x6) : Int) ∧ ((x6) : Int) ≤ 9223372036854775807) ∧ (((-9223372036854775808) ≤ ((x7) : Int) ∧ ((x7) : Int) ≤ 9223372036854775807) ∧ R ((((((x4 + x6) * 67108864) : Int).tdiv v8))) ((((((x5 + x7) * 67108864) : Int).tdiv v8)))))))))) ∧
           ((((((x2 + x3) : Int).tdiv 2) : Int) == ((x0 : Int).tmod 4194304)) = false → ((decide ((((x0 : Int).tmod 4194304) : Int) ≤ (((x2 + x3) : Int).tdiv 2)) = true → (I2 (x2) ((((x2 + x3) : Int).tdiv 2)) (x4) (x5) (((((x4 + x6) * 67108864) : Int).tdiv v8)) (((((x5 + x7) * 67108864) : Int).tdiv v8)) ∧ rk2 (x2) ((((x2 + x3) : Int).tdiv 2)) (x4) (x5) (((((x4 + x6) * 67108864) : Int).tdiv v8)) (((((x5 + x7) * 67108864) : Int).tdiv v8)) < rk2 x2 x3 x4 x5 x6 x7)) ∧
            (decide ((((x0 : Int).tmod 4194304) : Int) ≤ (((x2 + x3) : Int).tdiv 2)) = false → (I2 ((((x2 + x3) : Int).tdiv 2)) (x3) (((((x4 + x6) * 67108864) : Int).tdiv v8)) (((((x5 + x7) * 67108864) : Int).tdiv v8)) (x6) (x7) ∧ rk2 ((((x2 + x3) : Int).tdiv 2)) (x3) (((((x4 + x6) * 67108864) : Int).tdiv v8)) (((((x5 + x7) * 67108864) : Int).tdiv v8)) (x6) (x7) < rk2 x2 x3 x4 x5 x6 x7)))))))))))))))))))))))) ∧
      (decide ((((x0 : Int).tmod 4194304) : Int) ≤ 524288) = false → (∃ v1 : Int, ∃ v2 : Int, Spec Try.prog etalonref01_Direction_s ⟨[(1048576 - ((x0 : Int).tmod 4194304))], [], []⟩ [v1, v2] [] [] ∧
       (((-67108864) ≤ (v1 : Int) ∧ (v1 : Int) ≤ 67108864) ∧ (((-67108864) ≤ (v2 : Int) ∧ (v2 : Int) ≤ 67108864) ∧ R (v2) (v1))))))))))) ∧
   (decide ((0 : Int) ≤ ((x0 : Int).tmod 4194304)) = false → ((decide ((2097152 : Int) ≤ (((x0 : Int).tmod 4194304) + 4194304)) = true → (∃ v1 : Int, ∃ v2 : Int, Spec Try.prog etalonref01_Direction_s ⟨[((((x0 : Int).tmod 4194304) + 4194304) - 2097152)], [], []⟩ [v1, v2] [] [] ∧
     (((-67108864) ≤ (v1 : Int) ∧ (v1 : Int) ≤ 67108864) ∧ (((-67108864) ≤ (v2 : Int) ∧ (v2 : Int) ≤ 67108864) ∧ R ((0 - v1)) ((0 - v2)))))) ∧
    (decide ((2097152 : Int) ≤ (((x0 : Int).tmod 4194304) + 4194304)) = false → ((decide ((1048576 : Int) ≤ (((x0 : Int).tmod 4194304) + 4194304)) = true → (∃ v1 : Int, ∃ v2 : Int, Spec Try.prog etalonref01_Direction_s ⟨[((((x0 : Int).tmod 4194304) + 4194304) - 1048576)], [], []⟩ [v1, v2] [] [] ∧
      (((-67108864) ≤ (v1 : Int) ∧ (v1 : Int) ≤ 67108864) ∧ (((-67108864) ≤ (v2 : Int) ∧ (v2 : Int) ≤ 67108864) ∧ R ((0 - v2)) (v1))))) ∧
     (decide ((1048576 : Int) ≤ (((x0 : Int).tmod 4194304) + 4194304)) = false → ((decide (((((x0 : Int).tmod 4194304) + 4194304) : Int) ≤ 524288) = true → (∃ v1 : Int, Spec Try.prog etalonbase_Root_s ⟨[2251799813685248], [], []⟩ [v1] [] [] ∧
       ((0 ≤ (v1 : Int) ∧ (v1 : Int) ≤ 268435456) ∧ (∃ (I2 : Int → Int → Int → Int → Int → Int → Prop) (rk2 : Int → Int → Int → Int → Int → Int → Nat), I2 (0) (524288) (67108864) (0) (v1) (v1) ∧
       (∀ x2 : Int, ∀ x3 : Int, ∀ x4 : Int, ∀ x5 : Int, ∀ x6 : Int, ∀ x7 : Int, I2 x2 x3 x4 x5 x6 x7 → ((0 ≤ (x2 : Int) ∧ (x2 : Int) ≤ 524288) ∧ ((0 ≤ (x3 : Int) ∧ (x3 : Int) ≤ 524288) ∧ ((0 ≤ (x4 : Int) ∧ (x4 : Int) ≤ 67108864) ∧ ((0 ≤ (x5 : Int) ∧ (x5 : Int) ≤ 67108864) ∧ ((0 ≤ (x6 : Int) ∧ (x6 : Int) ≤ 67108864) ∧ ((0 ≤ (x7 : Int) ∧ (x7 : Int) ≤ 67108864) ∧ (((((((x0 : Int).tmod 4194304) + 4194304) : Int) == x3) = true → (((-9223372036854775808) ≤ ((x4) : Int) ∧ ((x4) : Int) ≤ 9223372036854775807) ∧ (((-9223372036854775808) ≤ ((x5) : Int) ∧ ((x5) : Int) ≤ 9223372036854775807) ∧ (((-9223372036854775808) ≤ ((x6) : Int) ∧ ((x6) : Int) ≤ 9223372036854775807) ∧ (((-9223372036854775808) ≤ ((x7) : Int) ∧ ((x7) : Int) ≤ 9223372036854775807) ∧ R ((x6)) ((x7))))))) ∧
        ((((((x0 : Int).tmod 4194304) + 4194304) : Int) == x3) = false → (∃ v8 : Int, Spec Try.prog etalonbase_Root_s ⟨[(((x4 + x6) * (x4 + x6)) + ((x5 + x7) * (x5 + x7)))], [], []⟩ [v8] [] [] ∧
         ((0 ≤ (v8 : Int) ∧ (v8 : Int) ≤ 268435456) ∧ ((((v8 : Int) == 0) = true → False) ∧
         (((v8 : Int) == 0) = false → (((((((x2 + x3) : Int).tdiv 2) : Int) == (((x0 : Int).tmod 4194304) + 4194304)) = true → (((-9223372036854775808) ≤ ((((((x4 + x6) * 67108864) : Int).tdiv v8)) : Int) ∧ ((((((x4 + x6) * 67108864) : Int).tdiv v8)) : Int) ≤ 9223372036854775807) ∧ (((-9223372036854775808) ≤ ((((((x5 + x7) * 67108864) : Int).tdiv v8)) : Int) ∧ ((((((x5 + x7) * 67108864) : Int).tdiv v8)) : Int) ≤ 9223372036854775807) ∧ (((-9223372036854775808) ≤ ((x4) : Int) ∧ ((x4) : Int) ≤ 9223372036854775807) ∧ (((-9223372036854775808) ≤ ((x5) : Int) ∧ ((x5) : Int) ≤ 9223372036854775807) ∧ (((-9223372036854775808) ≤ ((x6) : Int) ∧ ((x6) : Int) ≤ 9223372036854775807) ∧ (((-9223372036854775808) ≤ ((x7) : Int) ∧ ((x7) : Int) ≤ 9223372036854775807) ∧ R ((((((x4 + x6) * 67108864) : Int).tdiv v8))) ((((((x5 + x7) * 67108864) : Int).tdiv v8)))))))))) ∧
          ((((((x2 + x3) : Int).tdiv 2) : Int) == (((x0 : Int).tmod 4194304) + 4194304)) = false → ((decide (((((x0 : Int).tmod 4194304) + 4194304) : Int) ≤ (((x2 + x3) : Int).tdiv 2)) = true → (I2 (x2) ((((x2 + x3) : Int).tdiv 2)) (x4) (x5) (((((x4 + x6) * 67108864) : Int).tdiv v8)) (((((x5 + x7) * 67108864) : Int).tdiv v8)) ∧ rk2 (x2) ((((x2 + x3) : Int).tdiv 2)) (x4) (x5) (((((x4 + x6) * 67108864) : Int).tdiv v8)) (((((x5 + x7) * 67108864) : Int).tdiv v8)) < rk2 x2 x3 x4 x5 x6 x7)) ∧
           (decide (((((x0 : Int).tmod 4194304) + 4194304) : Int) ≤ (((x2 + x3) : Int).tdiv 2)) = false → (I2 ((((x2 + x3) : Int).tdiv 2)) (x3) (((((x4 + x6) * 67108864) : Int).tdiv v8)) (((((x5 + x7) * 67108864) : Int).tdiv v8)) (x6) (x7) ∧ rk2 ((((x2 + x3) : Int).tdiv 2)) (x3) (((((x4 + x6) * 67108864) : Int).tdiv v8)) (((((x5 + x7) * 67108864) : Int).tdiv v8)) (x6) (x7) < rk2 x2 x3 x4 x5 x6 x7)))))))))))))))))))))) ∧
      (decide (((((x0 : Int).tmod 4194304) + 4194304) : Int) ≤ 524288) = false → (∃ v1 : Int, ∃ v2 : Int, Spec Try.prog etalonref01_Direction_s ⟨[(1048576 - (((x0 : Int).tmod 4194304) + 4194304))], [], []⟩ [v1, v2] [] [] ∧
       (((-67108864) ≤ (v1 : Int) ∧ (v1 : Int) ≤ 67108864) ∧ (((-67108864) ≤ (v2 : Int) ∧ (v2 : Int) ≤ 67108864) ∧ R (v2) (v1))))))))))))) :
    ∃ v0 : Int, ∃ v1 : Int, R v0 v1 ∧ Spec Try.prog etalonref01_Direction_s ⟨[x0], [], []⟩ [v0, v1] [] [] :=
  Eq.mp (by kernel_rfl) (exV_of (K := fun d => app3 etalonref01_Direction_s.out R d ∧ Spec Try.prog etalonref01_Direction_s ⟨[x0], [], []⟩ d.1 d.2.1 d.2.2) (tree_at mixed names S1_ok (S := S1 Try.prog) (lf := 100000) (d := 60) etalonref01_Direction_s rdr_t { ivs := [(0, (-9223372036854775808), 9223372036854775807)], aivs := [] } ⟨[x0], [], []⟩ rfl (by kernel_rfl) (by kernel_rfl) (by kernel_rfl) ⟨(fc r0 fz), fz, fz, fz⟩ (R := fun d => app3 etalonref01_Direction_s.out R d) (Eq.mp (by kernel_rfl) H)))

theorem okD_abs {a b : Int} (h : OkD a b) : (a.natAbs ≤ 67108864 ∧ b.natAbs ≤ 67108864) ∧ ((-67108864) ≤ a ∧ a ≤ 67108864) ∧ ((-67108864) ≤ b ∧ b ≤ 67108864) := by

  obtain ⟨h1, h2, h3, h4⟩ := h; omega

theorem bisector_s {a b c d : Int} (h : OkD a b) (g : OkD c d) : Spec Try.prog ball_bisector_s ⟨[F a, F b, F c, F d], [], []⟩ [F (bisX a b c d), F (bisY a b c d)] [] [] := by

  have hz := sizeD h g

  obtain ⟨a1, a2, a3⟩ := okD_abs h

  obtain ⟨c1, c2, c3⟩ := okD_abs g

  have hr := rootDown_s (n := sqD a b c d) hz.1 (by omega)

  have hx := lower_s (x := a + c) (y := 67108864) (d := rti (sqD a b c d)) (DvIn_by (X := 134217728) (Y := 67108864) (by omega) (by omega) (by omega) (by omega) (by omega) (by omega) (by decide) (by decide) (by decide))

  have hy := lower_s (x := b + d) (y := 67108864) (d := rti (sqD a b c d)) (DvIn_by (X := 134217728) (Y := 67108864) (by omega) (by omega) (by omega) (by omega) (by omega) (by omega) (by decide) (by decide) (by decide))

  obtain ⟨v, u, ⟨rfl, rfl⟩, hs⟩ := bs (x0 := F a) (x1 := F b) (x2 := F c) (x3 := F d) (R := fun v u => v = F (bisX a b c d) ∧ u = F (bisY a b c d))

    ⟨a, ⟨F_rp a, a1.1⟩, a2, b, ⟨F_rp b, a1.2⟩, a3, c, ⟨F_rp c, c1.1⟩, c2, d, ⟨F_rp d, c1.2⟩, c3, _, hr, _, hx, _, hy, rfl, rfl⟩

  exact hs

theorem F_max : F 67108864 = 4724276009111650304 := by decide +kernel

theorem F_eig : F 47453132 = 4721637861420433408 := by decide +kernel

theorem halved_s {m : Int} (h : 0 ≤ m ∧ m < 524288) : OkD (hvP m).1 (hvP m).2 ∧ Spec Try.prog ball_halved_s ⟨[m], [], []⟩ [F (hvP m).1, F (hvP m).2] [] [] := by

  obtain ⟨v, u, ⟨rfl, rfl, ho⟩, hs⟩ := hv (x0 := m) (by omega) (R := fun v u => v = F (hvP m).1 ∧ u = F (hvP m).2 ∧ OkD (hvP m).1 (hvP m).2)

    ⟨fun h9 => absurd (by simpa using h9) (show ¬ m = 524288 by omega), fun _ => ⟨fun l g x y z w => ∃ a b c d : Int, x = F a ∧ y = F b ∧ z = F c ∧ w = F d ∧ HvAt m (hvP m) l g a b c d, fun l g _ _ _ _ => (g - l).toNat,

      ⟨67108864, 0, 47453132, 47453132, F_max.symm, F_zero.symm, F_eig.symm, F_eig.symm, hvAt_start h.1 h.2⟩, by

    rintro l g x y z w ⟨a, b, c, d, rfl, rfl, rfl, rfl, hA⟩

    have hB := hA

    obtain ⟨q0, q1, q2, q3, qa, qc, k, qk⟩ := hB

    refine ⟨by omega, by omega, fun h9 => ⟨by omega, ?_⟩, fun h9 => ?_⟩

    · obtain ⟨e, eo⟩ := hvAt_fin hA (by simpa using h9)

      rw [e]; exact ⟨rfl, rfl, eo⟩

    · have hw : IntKind.i64.wrap (l + g) = l + g := wrapI (by omega)

      have ht : (l + g).tdiv 2 = (l + g) / 2 := Int.tdiv_eq_ediv_of_nonneg (by omega)

      obtain ⟨s1, s2, s3, s4, s5⟩ := hvAt_step hA (by simpa using h9)

      rw [hw, ht]

      refine ⟨_, _, bisector_s qa qc, fun h8 => ⟨⟨_, _, _, _, rfl, rfl, rfl, rfl, s4 (by simpa using h8)⟩, by dsimp only; omega⟩, fun h8 => ⟨⟨_, _, _, _, rfl, rfl, rfl, rfl, s5 (by simp at h8; omega)⟩, by dsimp only; omega⟩⟩⟩⟩

  exact ⟨ho, hs⟩

theorem halved_eig : Spec Try.prog ball_halved_s ⟨[524288], [], []⟩ [F 47453132, F 47453132] [] [] := by

  obtain ⟨v, u, ⟨rfl, rfl⟩, hs⟩ := hv (x0 := 524288) (by omega) (R := fun v u => v = F 47453132 ∧ u = F 47453132) ⟨fun _ => ⟨F_eig.symm, F_eig.symm⟩, fun h => absurd h (by decide)⟩

  exact hs

theorem fmt_mul {a b : Int} {x y : Int} (ha : Rp a.toNat x) (hb : Rp b.toNat y) (hx : InF x) (hy : InF y) (hi : InF (x * y)) : Rp ((((fmt .mul .f64 a.toNat b.toNat).getD 0 : Nat) : Int)).toNat (x * y) := by

  obtain ⟨r, hr, hp⟩ := mul_rp ha hb hx hy hi

  have e : fmt .mul .f64 a.toNat b.toNat = some r := hr

  rw [e]; exact hp

theorem fmt_add {a b : Int} {x y : Int} (ha : Rp a.toNat x) (hb : Rp b.toNat y) (hx : InF x) (hy : InF y) (hi : InF (x + y)) : Rp ((((fmt .add .f64 a.toNat b.toNat).getD 0 : Nat) : Int)).toNat (x + y) := by

  obtain ⟨r, hr, hp⟩ := add_rp ha hb hx hy hi

  have e : fmt .add .f64 a.toNat b.toNat = some r := hr

  rw [e]; exact hp

theorem fmt_sub {a b : Int} {x y : Int} (ha : Rp a.toNat x) (hb : Rp b.toNat y) (hx : InF x) (hy : InF y) (hi : InF (x - y)) : Rp ((((fmt .sub .f64 a.toNat b.toNat).getD 0 : Nat) : Int)).toNat (x - y) := by

  obtain ⟨r, hr, hp⟩ := sub_rp ha hb hx hy hi

  have e : fmt .sub .f64 a.toNat b.toNat = some r := hr

  rw [e]; exact hp

theorem and_mod {x : Int} (h : I64 x) : NOp.den (.andK .i64) x 4194303 = x % 4194304 := by

  show IntKind.i64.wrap ((BitVec.ofInt 64 x &&& BitVec.ofInt 64 4194303).toNat : Int) = x % 4194304

  have e : ((BitVec.ofInt 64 x &&& BitVec.ofInt 64 4194303).toNat : Int) = x % 4194304 := by

    rw [BitVec.toNat_and, BitVec.toNat_ofInt, BitVec.toNat_ofInt]

    have e2 : ((4194303 : Int) % (2 ^ 64 : Nat)).toNat = 4194303 := by decide

    rw [e2]

    have := Nat.and_two_pow_sub_one_eq_mod (x % (2 ^ 64 : Nat)).toNat 22

    have e3 : (2 ^ 22 - 1 : Nat) = 4194303 := by decide

    rw [e3] at this

    rw [this]

    have e4 : (2 : Nat) ^ 22 = 4194304 := by decide

    have e5 : ((2 ^ 64 : Nat) : Int) = 18446744073709551616 := by decide

    rw [e4, e5]

    omega

  rw [e]; exact wrapI (by omega)

/-- The direction of m: in the first eighth, the first quarter, the first half, of all. -/

def oct (m : Int) : Int × Int := if m < 524288 then hvP m else (47453132, 47453132)

def quad (m : Int) : Int × Int := if m ≤ 524288 then oct m else ((oct (1048576 - m)).2, (oct (1048576 - m)).1)

def half (m : Int) : Int × Int := if m < 1048576 then quad m else (0 - (quad (m - 1048576)).2, (quad (m - 1048576)).1)

def dirQ (m : Int) : Int × Int := if m % 4194304 < 2097152 then half (m % 4194304) else (0 - (half (m % 4194304 - 2097152)).1, 0 - (half (m % 4194304 - 2097152)).2)

theorem oct_bd {m : Int} (h : 0 ≤ m) : (0 ≤ (oct m).1 ∧ (oct m).1 ≤ 67108864) ∧ (0 ≤ (oct m).2 ∧ (oct m).2 ≤ 67108864) := by

  unfold oct

  split

  · rename_i g

    obtain ⟨o1, o2, o3, o4⟩ := (halved_s ⟨h, g⟩).1

    omega

  · decide

theorem quad_bd {m : Int} (h : 0 ≤ m ∧ m < 1048576) : (0 ≤ (quad m).1 ∧ (quad m).1 ≤ 67108864) ∧ (0 ≤ (quad m).2 ∧ (quad m).2 ≤ 67108864) := by

  unfold quad

  split

  · exact oct_bd h.1

  · have := oct_bd (m := 1048576 - m) (by omega); exact ⟨this.2, this.1⟩

theorem half_bd {m : Int} (h : 0 ≤ m ∧ m < 2097152) : ((-67108864) ≤ (half m).1 ∧ (half m).1 ≤ 67108864) ∧ (0 ≤ (half m).2 ∧ (half m).2 ≤ 67108864) := by

  unfold half

  split

  · have := quad_bd (m := m) (by omega); omega

  · have := quad_bd (m := m - 1048576) (by omega); dsimp only; omega

theorem dirQ_bd (m : Int) : ((-67108864) ≤ (dirQ m).1 ∧ (dirQ m).1 ≤ 67108864) ∧ ((-67108864) ≤ (dirQ m).2 ∧ (dirQ m).2 ≤ 67108864) := by

  unfold dirQ

  split

  · have := half_bd (m := m % 4194304) (by omega); omega

  · have := half_bd (m := m % 4194304 - 2097152) (by omega); dsimp only; omega

theorem oct_p {m : Int} (h : 0 ≤ m ∧ m ≤ 524288) : Spec Try.prog ball_halved_s ⟨[m], [], []⟩ [F (oct m).1, F (oct m).2] [] [] := by

  unfold oct

  split

  · rename_i g; exact (halved_s ⟨h.1, g⟩).2

  · rename_i g

    obtain rfl : m = 524288 := by omega

    exact halved_eig

theorem mod_id {m : Int} (h : 0 ≤ m ∧ m < 4194304) : m % 4194304 = m := Int.emod_eq_of_lt h.1 h.2

/-- A direction that is returned. -/

structure DirR (p : Int × Int) (x y : Int) : Prop where

  hx : Rp x.toNat p.1

  hy : Rp y.toNat p.2

theorem dir_quad {m : Int} (hm : I64 m) (h : m % 4194304 < 1048576) : ∃ x y : Int, DirR (quad (m % 4194304)) x y ∧ Spec Try.prog ball_direction_s ⟨[m], [], []⟩ [x, y] [] [] := by

  have hb : 0 ≤ m % 4194304 := by omega

  by_cases h1 : m % 4194304 ≤ 524288

  · refine drn hm (R := DirR _) ?_

    rw [and_mod hm]

    generalize m % 4194304 = k at *

    have e : quad k = oct k := if_pos h1

    rw [e]

    exact ⟨fun g => absurd (of_decide_eq_true g) (by omega), fun _ => ⟨fun g => absurd (of_decide_eq_true g) (by omega), fun _ => ⟨fun _ => ⟨_, _, oct_p ⟨hb, h1⟩, F_rp _, F_rp _⟩, fun g => absurd (of_decide_eq_false g) (by omega)⟩⟩⟩

  · have ho : 0 ≤ 1048576 - m % 4194304 ∧ 1048576 - m % 4194304 < 524288 := by omega

    have inner : Spec Try.prog ball_direction_s ⟨[1048576 - m % 4194304], [], []⟩ [F (oct (1048576 - m % 4194304)).1, F (oct (1048576 - m % 4194304)).2] [] [] := by

      generalize 1048576 - m % 4194304 = j at *

      obtain ⟨x, y, ⟨rfl, rfl⟩, hs⟩ := drn (x0 := j) (by omega) (R := fun x y => x = F (oct j).1 ∧ y = F (oct j).2) (by

        rw [and_mod (by omega), mod_id (by omega)]

        exact ⟨fun g => absurd (of_decide_eq_true g) (by omega), fun _ => ⟨fun g => absurd (of_decide_eq_true g) (by omega), fun _ => ⟨fun _ => ⟨_, _, oct_p (by omega), rfl, rfl⟩, fun g => absurd (of_decide_eq_false g) (by omega)⟩⟩⟩)

      exact hs

    have bd := oct_bd ho.1

    refine drn hm (R := DirR _) ?_

    rw [and_mod hm]

    have e : quad (m % 4194304) = ((oct (1048576 - m % 4194304)).2, (oct (1048576 - m % 4194304)).1) := if_neg h1

    rw [e]

    generalize m % 4194304 = k at *

    exact ⟨fun g => absurd (of_decide_eq_true g) (by omega), fun _ => ⟨fun g => absurd (of_decide_eq_true g) (by omega), fun _ => ⟨fun g => absurd (of_decide_eq_true g) h1, fun _ => ⟨_, _, inner, _, ⟨F_rp _, by omega⟩, by omega, _, ⟨F_rp _, by omega⟩, by omega, F_rp _, F_rp _⟩⟩⟩⟩

theorem rp_int {x k : Int} (h : Rp x.toNat k) : Rp (x.toNat : Int).toNat k := by rw [Int.toNat_natCast]; exact h

theorem dir_half {m : Int} (hm : I64 m) (h : m % 4194304 < 2097152) : ∃ x y : Int, DirR (half (m % 4194304)) x y ∧ Spec Try.prog ball_direction_s ⟨[m], [], []⟩ [x, y] [] [] := by

  have hb : 0 ≤ m % 4194304 := by omega

  by_cases h1 : m % 4194304 < 1048576

  · have e : half (m % 4194304) = quad (m % 4194304) := if_pos h1

    rw [e]; exact dir_quad hm h1

  · have e : half (m % 4194304) = (0 - (quad (m % 4194304 - 1048576)).2, (quad (m % 4194304 - 1048576)).1) := if_neg h1

    obtain ⟨x, y, ⟨hx, hy⟩, hs⟩ := dir_quad (m := m % 4194304 - 1048576) (by omega) (by omega)

    rw [mod_id (m := m % 4194304 - 1048576) (by omega)] at hx hy

    have bd := quad_bd (m := m % 4194304 - 1048576) (by omega)

    refine drn hm (R := DirR _) ?_

    rw [and_mod hm, e]

    generalize quad (m % 4194304 - 1048576) = P at *

    refine ⟨fun g => absurd (of_decide_eq_true g) (by omega), fun _ => ⟨fun _ => ⟨_, _, hs, _, ⟨hx, by omega⟩, by omega, _, ⟨hy, by omega⟩, by omega, ?_, ?_⟩, fun g => absurd (of_decide_eq_false g) (by omega)⟩⟩

    · have q : 0 - P.2 = P.1 * 0 - P.2 * 1 := by omega

      show Rp _ (0 - P.2)

      rw [q]

      exact fmt_sub (fmt_mul hx (F_rp 0) ⟨by omega, by omega⟩ ⟨by omega, by omega⟩ ⟨by omega, by omega⟩) (fmt_mul hy (F_rp 1) ⟨by omega, by omega⟩ ⟨by omega, by omega⟩ ⟨by omega, by omega⟩) ⟨by omega, by omega⟩ ⟨by omega, by omega⟩ ⟨by omega, by omega⟩

    · have q : P.1 * 1 + P.2 * 0 = P.1 := by omega

      have k := fmt_add (fmt_mul hx (F_rp 1) ⟨by omega, by omega⟩ ⟨by omega, by omega⟩ ⟨by omega, by omega⟩) (fmt_mul hy (F_rp 0) ⟨by omega, by omega⟩ ⟨by omega, by omega⟩ ⟨by omega, by omega⟩) ⟨by omega, by omega⟩ ⟨by omega, by omega⟩ ⟨by omega, by omega⟩

      rw [q] at k

      exact k

/-- The program's direction. -/

theorem dir_p {m : Int} (hm : I64 m) : ∃ x y : Int, DirR (dirQ m) x y ∧ Spec Try.prog ball_direction_s ⟨[m], [], []⟩ [x, y] [] [] := by

  by_cases h1 : m % 4194304 < 2097152

  · have e : dirQ m = half (m % 4194304) := if_pos h1

    rw [e]; exact dir_half hm h1

  · have e : dirQ m = (0 - (half (m % 4194304 - 2097152)).1, 0 - (half (m % 4194304 - 2097152)).2) := if_neg h1

    obtain ⟨x, y, ⟨hx, hy⟩, hs⟩ := dir_half (m := m % 4194304 - 2097152) (by omega) (by omega)

    rw [mod_id (m := m % 4194304 - 2097152) (by omega)] at hx hy

    have bd := half_bd (m := m % 4194304 - 2097152) (by omega)

    refine drn hm (R := DirR _) ?_

    rw [and_mod hm, e]

    generalize half (m % 4194304 - 2097152) = P at *

    refine ⟨fun _ => ⟨_, _, hs, _, ⟨hx, by omega⟩, by omega, _, ⟨hy, by omega⟩, by omega, ?_, ?_⟩, fun g => absurd (of_decide_eq_false g) (by omega)⟩

    · have q : 0 - P.1 = P.1 * (-1) - P.2 * 0 := by omega

      show Rp _ (0 - P.1)

      rw [q]

      exact fmt_sub (fmt_mul hx (F_rp (-1)) ⟨by omega, by omega⟩ ⟨by omega, by omega⟩ ⟨by omega, by omega⟩) (fmt_mul hy (F_rp 0) ⟨by omega, by omega⟩ ⟨by omega, by omega⟩ ⟨by omega, by omega⟩) ⟨by omega, by omega⟩ ⟨by omega, by omega⟩ ⟨by omega, by omega⟩

    · have q : 0 - P.2 = P.1 * 0 + P.2 * (-1) := by omega

      show Rp _ (0 - P.2)

      rw [q]

      exact fmt_add (fmt_mul hx (F_rp 0) ⟨by omega, by omega⟩ ⟨by omega, by omega⟩ ⟨by omega, by omega⟩) (fmt_mul hy (F_rp (-1)) ⟨by omega, by omega⟩ ⟨by omega, by omega⟩ ⟨by omega, by omega⟩) ⟨by omega, by omega⟩ ⟨by omega, by omega⟩ ⟨by omega, by omega⟩

end Go.Proofs.Ytgdhpgjfebinhaa.Ev
