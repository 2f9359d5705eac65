/- Balls: the reference's sums, products and quotients. -/
import Derived.Test.YtgdlddmbfockpaaFbc
namespace Go.Proofs.Ytgdlddmbfockpaa.Ev
set_option linter.unusedSimpArgs false
open Go Go.RowKit
set_option linter.unusedVariables false
set_option maxRecDepth 100000
def _etalonref01_B__Checked_s : Sig := ⟨57, ⟨3, 0, 0⟩, ⟨4, 0, 0⟩, [(.agg [(.int .i64 (.var 0)), (.int .i64 (.var 1)), (.int .i64 (.var 2))])], [], (.tuple [(.agg [(.int .i64 (.var 3)), (.int .i64 (.var 4)), (.int .i64 (.var 5))]), (.int .i64 (.var 6))]), []⟩
def etalonref01_rounded_s : Sig := ⟨64, ⟨2, 0, 0⟩, ⟨1, 1, 0⟩, [(.int .i64 (.var 0)), (.int .i64 (.var 1))], [], (.tuple [(.int .i64 (.var 2)), (.bool (.var 0))]), []⟩
def etalonref01_scaled_s : Sig := ⟨101, ⟨2, 0, 0⟩, ⟨2, 0, 0⟩, [(.int .i64 (.var 0)), (.int .i64 (.var 1))], [], (.tuple [(.int .i64 (.var 2)), (.int .i64 (.var 3))]), []⟩
def etalonref01_scaledRounded_s : Sig := ⟨72, ⟨2, 0, 0⟩, ⟨1, 1, 0⟩, [(.int .i64 (.var 0)), (.int .i64 (.var 1))], [], (.tuple [(.int .i64 (.var 2)), (.bool (.var 0))]), []⟩
def etalonref01_scaledUp_s : Sig := ⟨73, ⟨2, 0, 0⟩, ⟨1, 0, 0⟩, [(.int .i64 (.var 0)), (.int .i64 (.var 1))], [], (.int .i64 (.var 2)), []⟩
def etalonref01_Plus_s : Sig := ⟨20, ⟨6, 0, 0⟩, ⟨4, 0, 0⟩, [(.agg [(.int .i64 (.var 0)), (.int .i64 (.var 1)), (.int .i64 (.var 2))]), (.agg [(.int .i64 (.var 3)), (.int .i64 (.var 4)), (.int .i64 (.var 5))])], [], (.tuple [(.agg [(.int .i64 (.var 6)), (.int .i64 (.var 7)), (.int .i64 (.var 8))]), (.int .i64 (.var 9))]), []⟩
def etalonref01_Minus_s : Sig := ⟨21, ⟨6, 0, 0⟩, ⟨4, 0, 0⟩, [(.agg [(.int .i64 (.var 0)), (.int .i64 (.var 1)), (.int .i64 (.var 2))]), (.agg [(.int .i64 (.var 3)), (.int .i64 (.var 4)), (.int .i64 (.var 5))])], [], (.tuple [(.agg [(.int .i64 (.var 6)), (.int .i64 (.var 7)), (.int .i64 (.var 8))]), (.int .i64 (.var 9))]), []⟩
def etalonref01_Times_s : Sig := ⟨26, ⟨6, 0, 0⟩, ⟨4, 0, 0⟩, [(.agg [(.int .i64 (.var 0)), (.int .i64 (.var 1)), (.int .i64 (.var 2))]), (.agg [(.int .i64 (.var 3)), (.int .i64 (.var 4)), (.int .i64 (.var 5))])], [], (.tuple [(.agg [(.int .i64 (.var 6)), (.int .i64 (.var 7)), (.int .i64 (.var 8))]), (.int .i64 (.var 9))]), []⟩
def etalonref01_Quotient_s : Sig := ⟨29, ⟨6, 0, 0⟩, ⟨4, 0, 0⟩, [(.agg [(.int .i64 (.var 0)), (.int .i64 (.var 1)), (.int .i64 (.var 2))]), (.agg [(.int .i64 (.var 3)), (.int .i64 (.var 4)), (.int .i64 (.var 5))])], [], (.tuple [(.agg [(.int .i64 (.var 6)), (.int .i64 (.var 7)), (.int .i64 (.var 8))]), (.int .i64 (.var 9))]), []⟩
def etalonref01_Conj_s : Sig := ⟨16, ⟨3, 0, 0⟩, ⟨3, 0, 0⟩, [(.agg [(.int .i64 (.var 0)), (.int .i64 (.var 1)), (.int .i64 (.var 2))])], [], (.agg [(.int .i64 (.var 3)), (.int .i64 (.var 4)), (.int .i64 (.var 5))]), []⟩
def _etalonref01_B__Down_s : Sig := ⟨71, ⟨3, 0, 0⟩, ⟨1, 0, 0⟩, [(.agg [(.int .i64 (.var 0)), (.int .i64 (.var 1)), (.int .i64 (.var 2))])], [], (.int .i64 (.var 3)), []⟩
def _etalonref01_B__Up_s : Sig := ⟨66, ⟨3, 0, 0⟩, ⟨1, 0, 0⟩, [(.agg [(.int .i64 (.var 0)), (.int .i64 (.var 1)), (.int .i64 (.var 2))])], [], (.int .i64 (.var 3)), []⟩

def rck_t : Tr :=
  (.ite (.icmp .leq (.lit (-67108864)) (.var 0))
  (.ite (.icmp .leq (.var 0) (.lit 67108864))
   (.ite (.icmp .leq (.lit (-67108864)) (.var 1))
    (.ite (.icmp .leq (.var 1) (.lit 67108864))
     (.ite (.icmp .leq (.lit 0) (.var 2))
      (.ite (.icmp .leq (.var 2) (.lit 67108864))
       (.ret ⟨[(.var 0), (.var 1), (.var 2), (.lit 0)], [], []⟩ [])
       (.ret ⟨[(.lit 0), (.lit 0), (.lit 0), (.lit 8)], [], []⟩ []))
      (.ret ⟨[(.lit 0), (.lit 0), (.lit 0), (.lit 8)], [], []⟩ []))
     (.ret ⟨[(.lit 0), (.lit 0), (.lit 0), (.lit 8)], [], []⟩ []))
    (.ret ⟨[(.lit 0), (.lit 0), (.lit 0), (.lit 8)], [], []⟩ []))
   (.ret ⟨[(.lit 0), (.lit 0), (.lit 0), (.lit 8)], [], []⟩ []))
  (.ret ⟨[(.lit 0), (.lit 0), (.lit 0), (.lit 8)], [], []⟩ []))
theorem rck {x0 x1 x2 : Int} (r0 : (-9223372036854775808) ≤ x0 ∧ x0 ≤ 9223372036854775807) (r1 : (-9223372036854775808) ≤ x1 ∧ x1 ≤ 9223372036854775807) (r2 : (-9223372036854775808) ≤ x2 ∧ x2 ≤ 9223372036854775807) {R : Int → Int → Int → Int → Prop}
  (H : ((decide (((-67108864) : Int) ≤ x0) = true → ((decide ((x0 : Int) ≤ 67108864) = true → ((decide (((-67108864) : Int) ≤ x1) = true → ((decide ((x1 : Int) ≤ 67108864) = true → ((decide ((0 : Int) ≤ x2) = true → ((decide ((x2 : Int) ≤ 67108864) = true → R (x0) (x1) (x2) (0)) ∧
        (decide ((x2 : Int) ≤ 67108864) = false → R (0) (0) (0) (8)))) ∧
       (decide ((0 : Int) ≤ x2) = false → R (0) (0) (0) (8)))) ∧
      (decide ((x1 : Int) ≤ 67108864) = false → R (0) (0) (0) (8)))) ∧
     (decide (((-67108864) : Int) ≤ x1) = false → R (0) (0) (0) (8)))) ∧
    (decide ((x0 : Int) ≤ 67108864) = false → R (0) (0) (0) (8)))) ∧
   (decide (((-67108864) : Int) ≤ x0) = false → R (0) (0) (0) (8)))) :
    ∃ v0 : Int, ∃ v1 : Int, ∃ v2 : Int, ∃ v3 : Int, R v0 v1 v2 v3 ∧ Spec Try.prog _etalonref01_B__Checked_s ⟨[x0, x1, x2], [], []⟩ [v0, v1, v2, v3] [] [] :=
  Eq.mp (by kernel_rfl) (exV_of (K := fun d => app3 _etalonref01_B__Checked_s.out R d ∧ Spec Try.prog _etalonref01_B__Checked_s ⟨[x0, x1, x2], [], []⟩ d.1 d.2.1 d.2.2) (tree_at mixed names S1_ok (S := S1 Try.prog) (lf := 100000) (d := 60) _etalonref01_B__Checked_s rck_t { ivs := [(0, (-9223372036854775808), 9223372036854775807), (1, (-9223372036854775808), 9223372036854775807), (2, (-9223372036854775808), 9223372036854775807)], aivs := [] } ⟨[x0, x1, x2], [], []⟩ rfl (by kernel_rfl) (by kernel_rfl) (by kernel_rfl) ⟨(fc r0 (fc r1 (fc r2 fz))), fz, fz, fz⟩ (R := fun d => app3 _etalonref01_B__Checked_s.out R d) (Eq.mp (by kernel_rfl) H)))

def rrd_t : Tr :=
  (.call etalonbase_Floor_s ⟨[(.var 0), (.var 1)], [], []⟩ ⟨[(.var 0), (.var 1), (.var 2)], [], []⟩ ⟨36, [(.int .i64 (.var 0)), (.int .i64 (.var 1))], [], [], (.int .i64 (.var 2)), []⟩
  (.rng 2 (-4611686018427387904) 4611686018427387904 (.ite (.icmp .leq (.bin (.subW .i64) (.var 1) (.bin (.subW .i64) (.var 0) (.bin (.mulW .i64) (.var 2) (.var 1)))) (.bin (.subW .i64) (.var 0) (.bin (.mulW .i64) (.var 2) (.var 1))))
  (.ret ⟨[(.bin .addI (.var 2) (.lit 1))], [(.lit true)], []⟩ [])
  (.ret ⟨[(.var 2)], [(.icmp .neq (.bin (.subW .i64) (.var 0) (.bin (.mulW .i64) (.var 2) (.var 1))) (.lit 0))], []⟩ []))))
theorem rrd {x0 x1 : Int} (r0 : (-4611686018427387904) ≤ x0 ∧ x0 ≤ 4611686018427387904) (r1 : 1 ≤ x1 ∧ x1 ≤ 2305843009213693952) {R : Int → Bool → Prop}
  (H : (∃ v2 : Int, Spec Try.prog etalonbase_Floor_s ⟨[x0, x1], [], []⟩ [v2] [] [] ∧
   (((-4611686018427387904) ≤ (v2 : Int) ∧ (v2 : Int) ≤ 4611686018427387904) ∧ ((decide ((IntKind.i64.wrap (x1 - IntKind.i64.wrap (x0 - IntKind.i64.wrap (v2 * x1))) : Int) ≤ IntKind.i64.wrap (x0 - IntKind.i64.wrap (v2 * x1))) = true → R ((v2 + 1)) (true)) ∧
   (decide ((IntKind.i64.wrap (x1 - IntKind.i64.wrap (x0 - IntKind.i64.wrap (v2 * x1))) : Int) ≤ IntKind.i64.wrap (x0 - IntKind.i64.wrap (v2 * x1))) = false → R (v2) (((IntKind.i64.wrap (x0 - IntKind.i64.wrap (v2 * x1)) : Int) != 0))))))) :
    ∃ v0 : Int, ∃ u0 : Bool, R v0 u0 ∧ Spec Try.prog etalonref01_rounded_s ⟨[x0, x1], [], []⟩ [v0] [u0] [] :=
  Eq.mp (by kernel_rfl) (exV_of (K := fun d => app3 etalonref01_rounded_s.out R d ∧ Spec Try.prog etalonref01_rounded_s ⟨[x0, x1], [], []⟩ d.1 d.2.1 d.2.2) (tree_at mixed names S1_ok (S := S1 Try.prog) (lf := 100000) (d := 60) etalonref01_rounded_s rrd_t { ivs := [(0, (-4611686018427387904), 4611686018427387904), (1, 1, 2305843009213693952)], aivs := [] } ⟨[x0, x1], [], []⟩ rfl (by kernel_rfl) (by kernel_rfl) (by kernel_rfl) ⟨(fc r0 (fc r1 fz)), fz, fz, fz⟩ (R := fun d => app3 etalonref01_rounded_s.out R d) (Eq.mp (by kernel_rfl) H)))

def rsc_t : Tr :=
  (.call etalonbase_Floor_s ⟨[(.var 0), (.var 1)], [], []⟩ ⟨[(.var 0), (.var 1), (.var 2)], [], []⟩ ⟨36, [(.int .i64 (.var 0)), (.int .i64 (.var 1))], [], [], (.int .i64 (.var 2)), []⟩
  (.rng 2 (-4611686018427387904) 4611686018427387904 (.ite (.icmp .leq (.var 2) (.lit 268435456))
  (.ite (.icmp .leq (.lit (-268435456)) (.var 2))
   (.loop ⟨101, [0, 1, 0, 1, 1, 1, 1], [(.int .i64 (.var 0)), (.int .i64 (.var 1)), (.tuple []), (.tuple []), (.int .i64 (.lit 0)), (.int .i64 (.lit 0)), (.int .i64 (.var 2)), (.int .i64 (.bin (.subW .i64) (.var 0) (.bin (.mulW .i64) (.var 2) (.var 1)))), (.int .i64 (.lit 0)), (.int .i64 (.var 0)), (.int .i64 (.var 1)), (.int .i64 (.var 2)), (.int .i64 (.var 0)), (.int .i64 (.var 2)), (.int .i64 (.var 1)), (.int .i64 (.bin (.mulW .i64) (.var 2) (.var 1))), (.int .i64 (.bin (.subW .i64) (.var 0) (.bin (.mulW .i64) (.var 2) (.var 1)))), (.int .i64 (.var 2)), (.bool (.icmp .gtr (.var 2) (.lit 268435456))), (.bool (.icmp .gtr (.var 2) (.lit 268435456))), (.int .i64 (.var 2)), (.bool (.icmp .lss (.var 2) (.lit (-268435456)))), (.bool (.icmp .lss (.var 2) (.lit (-268435456)))), (.tuple []), (.tuple []), (.tuple []), (.tuple []), (.tuple []), (.tuple []), (.tuple []), (.tuple []), (.tuple []), (.tuple []), (.tuple []), (.tuple []), (.tuple []), (.tuple []), (.tuple []), (.tuple []), (.tuple []), (.tuple []), (.tuple []), (.tuple [])], [], [], [(.int .i64 (.var 0)), (.int .i64 (.var 1)), (.tuple []), (.tuple []), (.int .i64 (.lit 0)), (.int .i64 (.lit 0)), (.int .i64 (.var 3)), (.int .i64 (.var 4)), (.int .i64 (.var 5)), (.int .i64 (.var 0)), (.int .i64 (.var 1)), (.int .i64 (.var 2)), (.int .i64 (.var 0)), (.int .i64 (.var 2)), (.int .i64 (.var 1)), (.int .i64 (.bin (.mulW .i64) (.var 2) (.var 1))), (.int .i64 (.bin (.subW .i64) (.var 0) (.bin (.mulW .i64) (.var 2) (.var 1)))), (.int .i64 (.var 2)), (.bool (.icmp .gtr (.var 2) (.lit 268435456))), (.bool (.icmp .gtr (.var 2) (.lit 268435456))), (.int .i64 (.var 2)), (.bool (.icmp .lss (.var 2) (.lit (-268435456)))), (.bool (.icmp .lss (.var 2) (.lit (-268435456)))), (.tuple []), (.tuple []), (.any 25), (.any 26), (.any 27), (.any 28), (.any 29), (.any 30), (.any 31), (.any 32), (.any 33), (.any 34), (.any 35), (.any 36), (.any 37), (.any 38), (.any 39), (.any 40), (.tuple []), (.tuple [])], [], [], ⟨3, 0, 0⟩, ⟨[(.var 2), (.bin (.subW .i64) (.var 0) (.bin (.mulW .i64) (.var 2) (.var 1))), (.lit 0)], [], []⟩, []⟩
    (.rng 3 (-1125899906842624) 1125899906842624 (.rng 4 0 2305843009213693952 (.rng 5 (-9223372036854775808) 9223372036854775807 (.ite (.icmp .leq (.lit 20) (.var 5))
     (.out 0 ⟨[(.var 3), (.var 4)], [], []⟩ [])
     (.ite (.icmp .leq (.var 1) (.bin .mulI (.lit 2) (.var 4)))
      (.next ⟨[(.bin .addI (.bin .mulI (.lit 2) (.var 3)) (.lit 1)), (.bin .subI (.bin .mulI (.lit 2) (.var 4)) (.var 1)), (.bin .addI (.var 5) (.lit 1))], [], []⟩ [])
      (.next ⟨[(.bin .mulI (.lit 2) (.var 3)), (.bin .mulI (.lit 2) (.var 4)), (.bin .addI (.var 5) (.lit 1))], [], []⟩ []))))))
    (.ex ((.exit 0), [(.int .i64 (.var 0)), (.int .i64 (.var 1)), (.tuple []), (.tuple []), (.int .i64 (.lit 0)), (.int .i64 (.lit 0)), (.int .i64 (.var 3)), (.int .i64 (.var 4)), (.any 8), (.int .i64 (.var 0)), (.int .i64 (.var 1)), (.int .i64 (.var 2)), (.int .i64 (.var 0)), (.int .i64 (.var 2)), (.int .i64 (.var 1)), (.int .i64 (.bin (.mulW .i64) (.var 2) (.var 1))), (.int .i64 (.bin (.subW .i64) (.var 0) (.bin (.mulW .i64) (.var 2) (.var 1)))), (.int .i64 (.var 2)), (.bool (.icmp .gtr (.var 2) (.lit 268435456))), (.bool (.icmp .gtr (.var 2) (.lit 268435456))), (.int .i64 (.var 2)), (.bool (.icmp .lss (.var 2) (.lit (-268435456)))), (.bool (.icmp .lss (.var 2) (.lit (-268435456)))), (.tuple []), (.tuple []), (.any 25), (.any 26), (.any 27), (.any 28), (.any 29), (.any 30), (.any 31), (.any 32), (.any 33), (.any 34), (.any 35), (.any 36), (.any 37), (.any 38), (.any 39), (.any 40), (.tuple []), (.tuple [])], [], []) ⟨2, 0, 0⟩
    (.rng 3 (-9223372036854775808) 9223372036854775807 (.rng 4 (-9223372036854775808) 9223372036854775807 (.ret ⟨[(.var 3), (.var 4)], [], []⟩ [])))
    .nil))
   (.ret ⟨[(.var 2), (.bin (.subW .i64) (.var 0) (.bin (.mulW .i64) (.var 2) (.var 1)))], [], []⟩ []))
  (.ret ⟨[(.var 2), (.bin (.subW .i64) (.var 0) (.bin (.mulW .i64) (.var 2) (.var 1)))], [], []⟩ []))))
theorem rsc {x0 x1 : Int} (r0 : (-4611686018427387904) ≤ x0 ∧ x0 ≤ 4611686018427387904) (r1 : 1 ≤ x1 ∧ x1 ≤ 2305843009213693952) {R : Int → Int → Prop}
  (H : (∃ v2 : Int, Spec Try.prog etalonbase_Floor_s ⟨[x0, x1], [], []⟩ [v2] [] [] ∧
   (((-4611686018427387904) ≤ (v2 : Int) ∧ (v2 : Int) ≤ 4611686018427387904) ∧ ((decide ((v2 : Int) ≤ 268435456) = true → ((decide (((-268435456) : Int) ≤ v2) = true → (∃ (I3 : Int → Int → Int → Prop) (rk3 : Int → Int → Int → Nat), I3 (v2) (IntKind.i64.wrap (x0 - IntKind.i64.wrap (v2 * x1))) (0) ∧
     (∀ x3 : Int, ∀ x4 : Int, ∀ x5 : Int, I3 x3 x4 x5 → (((-1125899906842624) ≤ (x3 : Int) ∧ (x3 : Int) ≤ 1125899906842624) ∧ ((0 ≤ (x4 : Int) ∧ (x4 : Int) ≤ 2305843009213693952) ∧ (((-9223372036854775808) ≤ (x5 : Int) ∧ (x5 : Int) ≤ 9223372036854775807) ∧ ((decide ((20 : Int) ≤ x5) = true → (((-9223372036854775808) ≤ ((x3) : Int) ∧ ((x3) : Int) ≤ 9223372036854775807) ∧ (((-9223372036854775808) ≤ ((x4) : Int) ∧ ((x4) : Int) ≤ 9223372036854775807) ∧ R ((x3)) ((x4))))) ∧
      (decide ((20 : Int) ≤ x5) = false → ((decide ((x1 : Int) ≤ (2 * x4)) = true → (I3 (((2 * x3) + 1)) (((2 * x4) - x1)) ((x5 + 1)) ∧ rk3 (((2 * x3) + 1)) (((2 * x4) - x1)) ((x5 + 1)) < rk3 x3 x4 x5)) ∧
       (decide ((x1 : Int) ≤ (2 * x4)) = false → (I3 ((2 * x3)) ((2 * x4)) ((x5 + 1)) ∧ rk3 ((2 * x3)) ((2 * x4)) ((x5 + 1)) < rk3 x3 x4 x5))))))))))) ∧
    (decide (((-268435456) : Int) ≤ v2) = false → R (v2) (IntKind.i64.wrap (x0 - IntKind.i64.wrap (v2 * x1)))))) ∧
   (decide ((v2 : Int) ≤ 268435456) = false → R (v2) (IntKind.i64.wrap (x0 - IntKind.i64.wrap (v2 * x1)))))))) :
    ∃ v0 : Int, ∃ v1 : Int, R v0 v1 ∧ Spec Try.prog etalonref01_scaled_s ⟨[x0, x1], [], []⟩ [v0, v1] [] [] :=
  Eq.mp (by kernel_rfl) (exV_of (K := fun d => app3 etalonref01_scaled_s.out R d ∧ Spec Try.prog etalonref01_scaled_s ⟨[x0, x1], [], []⟩ d.1 d.2.1 d.2.2) (tree_at mixed names S1_ok (S := S1 Try.prog) (lf := 100000) (d := 60) etalonref01_scaled_s rsc_t { ivs := [(0, (-4611686018427387904), 4611686018427387904), (1, 1, 2305843009213693952)], aivs := [] } ⟨[x0, x1], [], []⟩ rfl (by kernel_rfl) (by kernel_rfl) (by kernel_rfl) ⟨(fc r0 (fc r1 fz)), fz, fz, fz⟩ (R := fun d => app3 etalonref01_scaled_s.out R d) (Eq.mp (by kernel_rfl) H)))

def rsr_t : Tr :=
  (.call etalonref01_scaled_s ⟨[(.var 0), (.var 1)], [], []⟩ ⟨[(.var 0), (.var 1), (.var 2), (.var 3)], [], []⟩ ⟨101, [(.int .i64 (.var 0)), (.int .i64 (.var 1))], [], [], (.tuple [(.int .i64 (.var 2)), (.int .i64 (.var 3))]), []⟩
  (.rng 2 (-4611686018427387904) 4611686018427387904 (.rng 3 0 2305843009213693952 (.ite (.icmp .eql (.var 3) (.lit 0))
  (.ret ⟨[(.var 2)], [(.icmp .neq (.var 3) (.lit 0))], []⟩ [])
  (.ite (.icmp .leq (.bin .subI (.var 1) (.var 3)) (.var 3))
   (.ret ⟨[(.bin .addI (.var 2) (.lit 1))], [(.lit true)], []⟩ [])
   (.ret ⟨[(.var 2)], [(.icmp .neq (.var 3) (.lit 0))], []⟩ []))))))
theorem rsr {x0 x1 : Int} (r0 : (-4611686018427387904) ≤ x0 ∧ x0 ≤ 4611686018427387904) (r1 : 1 ≤ x1 ∧ x1 ≤ 2305843009213693952) {R : Int → Bool → Prop}
  (H : (∃ v2 : Int, ∃ v3 : Int, Spec Try.prog etalonref01_scaled_s ⟨[x0, x1], [], []⟩ [v2, v3] [] [] ∧
   (((-4611686018427387904) ≤ (v2 : Int) ∧ (v2 : Int) ≤ 4611686018427387904) ∧ ((0 ≤ (v3 : Int) ∧ (v3 : Int) ≤ 2305843009213693952) ∧ ((((v3 : Int) == 0) = true → R (v2) (((v3 : Int) != 0))) ∧
   (((v3 : Int) == 0) = false → ((decide (((x1 - v3) : Int) ≤ v3) = true → R ((v2 + 1)) (true)) ∧
    (decide (((x1 - v3) : Int) ≤ v3) = false → R (v2) (((v3 : Int) != 0)))))))))) :
    ∃ v0 : Int, ∃ u0 : Bool, R v0 u0 ∧ Spec Try.prog etalonref01_scaledRounded_s ⟨[x0, x1], [], []⟩ [v0] [u0] [] :=
  Eq.mp (by kernel_rfl) (exV_of (K := fun d => app3 etalonref01_scaledRounded_s.out R d ∧ Spec Try.prog etalonref01_scaledRounded_s ⟨[x0, x1], [], []⟩ d.1 d.2.1 d.2.2) (tree_at mixed names S1_ok (S := S1 Try.prog) (lf := 100000) (d := 60) etalonref01_scaledRounded_s rsr_t { ivs := [(0, (-4611686018427387904), 4611686018427387904), (1, 1, 2305843009213693952)], aivs := [] } ⟨[x0, x1], [], []⟩ rfl (by kernel_rfl) (by kernel_rfl) (by kernel_rfl) ⟨(fc r0 (fc r1 fz)), fz, fz, fz⟩ (R := fun d => app3 etalonref01_scaledRounded_s.out R d) (Eq.mp (by kernel_rfl) H)))

def rsu_t : Tr :=
  (.call etalonref01_scaled_s ⟨[(.var 0), (.var 1)], [], []⟩ ⟨[(.var 0), (.var 1), (.var 2), (.var 3)], [], []⟩ ⟨101, [(.int .i64 (.var 0)), (.int .i64 (.var 1))], [], [], (.tuple [(.int .i64 (.var 2)), (.int .i64 (.var 3))]), []⟩
  (.rng 2 (-4611686018427387904) 4611686018427387904 (.rng 3 0 2305843009213693952 (.ite (.icmp .eql (.var 3) (.lit 0))
  (.ret ⟨[(.var 2)], [], []⟩ [])
  (.ret ⟨[(.bin .addI (.var 2) (.lit 1))], [], []⟩ [])))))
theorem rsu {x0 x1 : Int} (r0 : (-4611686018427387904) ≤ x0 ∧ x0 ≤ 4611686018427387904) (r1 : 1 ≤ x1 ∧ x1 ≤ 2305843009213693952) {R : Int → Prop}
  (H : (∃ v2 : Int, ∃ v3 : Int, Spec Try.prog etalonref01_scaled_s ⟨[x0, x1], [], []⟩ [v2, v3] [] [] ∧
   (((-4611686018427387904) ≤ (v2 : Int) ∧ (v2 : Int) ≤ 4611686018427387904) ∧ ((0 ≤ (v3 : Int) ∧ (v3 : Int) ≤ 2305843009213693952) ∧ ((((v3 : Int) == 0) = true → R (v2)) ∧
   (((v3 : Int) == 0) = false → R ((v2 + 1)))))))) :
    ∃ v0 : Int, R v0 ∧ Spec Try.prog etalonref01_scaledUp_s ⟨[x0, x1], [], []⟩ [v0] [] [] :=
  Eq.mp (by kernel_rfl) (exV_of (K := fun d => app3 etalonref01_scaledUp_s.out R d ∧ Spec Try.prog etalonref01_scaledUp_s ⟨[x0, x1], [], []⟩ d.1 d.2.1 d.2.2) (tree_at mixed names S1_ok (S := S1 Try.prog) (lf := 100000) (d := 60) etalonref01_scaledUp_s rsu_t { ivs := [(0, (-4611686018427387904), 4611686018427387904), (1, 1, 2305843009213693952)], aivs := [] } ⟨[x0, x1], [], []⟩ rfl (by kernel_rfl) (by kernel_rfl) (by kernel_rfl) ⟨(fc r0 (fc r1 fz)), fz, fz, fz⟩ (R := fun d => app3 etalonref01_scaledUp_s.out R d) (Eq.mp (by kernel_rfl) H)))

def rpl_t : Tr :=
  (.call _etalonref01_B__Checked_s ⟨[(.bin .addI (.var 0) (.var 3)), (.bin .addI (.var 1) (.var 4)), (.bin .addI (.var 2) (.var 5))], [], []⟩ ⟨[(.bin .addI (.var 0) (.var 3)), (.bin .addI (.var 1) (.var 4)), (.bin .addI (.var 2) (.var 5)), (.var 6), (.var 7), (.var 8), (.var 9)], [], []⟩ ⟨57, [(.agg [(.int .i64 (.bin .addI (.var 0) (.var 3))), (.int .i64 (.bin .addI (.var 1) (.var 4))), (.int .i64 (.bin .addI (.var 2) (.var 5)))])], [], [none, none, none], (.tuple [(.agg [(.int .i64 (.var 6)), (.int .i64 (.var 7)), (.int .i64 (.var 8))]), (.int .i64 (.var 9))]), []⟩
  (.ret ⟨[(.var 6), (.var 7), (.var 8), (.var 9)], [], []⟩ []))
theorem rpl {x0 x1 x2 x3 x4 x5 : Int} (r0 : (-67108864) ≤ x0 ∧ x0 ≤ 67108864) (r1 : (-67108864) ≤ x1 ∧ x1 ≤ 67108864) (r2 : 0 ≤ x2 ∧ x2 ≤ 67108864) (r3 : (-67108864) ≤ x3 ∧ x3 ≤ 67108864) (r4 : (-67108864) ≤ x4 ∧ x4 ≤ 67108864) (r5 : 0 ≤ x5 ∧ x5 ≤ 67108864) {R : Int → Int → Int → Int → Prop}
  (H : (∃ v6 : Int, ∃ v7 : Int, ∃ v8 : Int, ∃ v9 : Int, Spec Try.prog _etalonref01_B__Checked_s ⟨[(x0 + x3), (x1 + x4), (x2 + x5)], [], []⟩ [v6, v7, v8, v9] [] [] ∧
   R (v6) (v7) (v8) (v9))) :
    ∃ v0 : Int, ∃ v1 : Int, ∃ v2 : Int, ∃ v3 : Int, R v0 v1 v2 v3 ∧ Spec Try.prog etalonref01_Plus_s ⟨[x0, x1, x2, x3, x4, x5], [], []⟩ [v0, v1, v2, v3] [] [] :=
  Eq.mp (by kernel_rfl) (exV_of (K := fun d => app3 etalonref01_Plus_s.out R d ∧ Spec Try.prog etalonref01_Plus_s ⟨[x0, x1, x2, x3, x4, x5], [], []⟩ d.1 d.2.1 d.2.2) (tree_at mixed names S1_ok (S := S1 Try.prog) (lf := 100000) (d := 60) etalonref01_Plus_s rpl_t { ivs := [(0, (-67108864), 67108864), (1, (-67108864), 67108864), (2, 0, 67108864), (3, (-67108864), 67108864), (4, (-67108864), 67108864), (5, 0, 67108864)], aivs := [] } ⟨[x0, x1, x2, x3, x4, x5], [], []⟩ rfl (by kernel_rfl) (by kernel_rfl) (by kernel_rfl) ⟨(fc r0 (fc r1 (fc r2 (fc r3 (fc r4 (fc r5 fz)))))), fz, fz, fz⟩ (R := fun d => app3 etalonref01_Plus_s.out R d) (Eq.mp (by kernel_rfl) H)))

def rmi_t : Tr :=
  (.call _etalonref01_B__Checked_s ⟨[(.bin .subI (.var 0) (.var 3)), (.bin .subI (.var 1) (.var 4)), (.bin .addI (.var 2) (.var 5))], [], []⟩ ⟨[(.bin .subI (.var 0) (.var 3)), (.bin .subI (.var 1) (.var 4)), (.bin .addI (.var 2) (.var 5)), (.var 6), (.var 7), (.var 8), (.var 9)], [], []⟩ ⟨57, [(.agg [(.int .i64 (.bin .subI (.var 0) (.var 3))), (.int .i64 (.bin .subI (.var 1) (.var 4))), (.int .i64 (.bin .addI (.var 2) (.var 5)))])], [], [none, none, none], (.tuple [(.agg [(.int .i64 (.var 6)), (.int .i64 (.var 7)), (.int .i64 (.var 8))]), (.int .i64 (.var 9))]), []⟩
  (.ret ⟨[(.var 6), (.var 7), (.var 8), (.var 9)], [], []⟩ []))
theorem rmi {x0 x1 x2 x3 x4 x5 : Int} (r0 : (-67108864) ≤ x0 ∧ x0 ≤ 67108864) (r1 : (-67108864) ≤ x1 ∧ x1 ≤ 67108864) (r2 : 0 ≤ x2 ∧ x2 ≤ 67108864) (r3 : (-67108864) ≤ x3 ∧ x3 ≤ 67108864) (r4 : (-67108864) ≤ x4 ∧ x4 ≤ 67108864) (r5 : 0 ≤ x5 ∧ x5 ≤ 67108864) {R : Int → Int → Int → Int → Prop}
  (H : (∃ v6 : Int, ∃ v7 : Int, ∃ v8 : Int, ∃ v9 : Int, Spec Try.prog _etalonref01_B__Checked_s ⟨[(x0 - x3), (x1 - x4), (x2 + x5)], [], []⟩ [v6, v7, v8, v9] [] [] ∧
   R (v6) (v7) (v8) (v9))) :
    ∃ v0 : Int, ∃ v1 : Int, ∃ v2 : Int, ∃ v3 : Int, R v0 v1 v2 v3 ∧ Spec Try.prog etalonref01_Minus_s ⟨[x0, x1, x2, x3, x4, x5], [], []⟩ [v0, v1, v2, v3] [] [] :=
  Eq.mp (by kernel_rfl) (exV_of (K := fun d => app3 etalonref01_Minus_s.out R d ∧ Spec Try.prog etalonref01_Minus_s ⟨[x0, x1, x2, x3, x4, x5], [], []⟩ d.1 d.2.1 d.2.2) (tree_at mixed names S1_ok (S := S1 Try.prog) (lf := 100000) (d := 60) etalonref01_Minus_s rmi_t { ivs := [(0, (-67108864), 67108864), (1, (-67108864), 67108864), (2, 0, 67108864), (3, (-67108864), 67108864), (4, (-67108864), 67108864), (5, 0, 67108864)], aivs := [] } ⟨[x0, x1, x2, x3, x4, x5], [], []⟩ rfl (by kernel_rfl) (by kernel_rfl) (by kernel_rfl) ⟨(fc r0 (fc r1 (fc r2 (fc r3 (fc r4 (fc r5 fz)))))), fz, fz, fz⟩ (R := fun d => app3 etalonref01_Minus_s.out R d) (Eq.mp (by kernel_rfl) H)))

def rtm_t : Tr :=
  (.call etalonref01_rounded_s ⟨[(.bin .subI (.bin .mulI (.var 0) (.var 3)) (.bin .mulI (.var 1) (.var 4))), (.lit 1048576)], [], []⟩ ⟨[(.bin .subI (.bin .mulI (.var 0) (.var 3)) (.bin .mulI (.var 1) (.var 4))), (.lit 1048576), (.var 6)], [(.var 0)], []⟩ ⟨64, [(.int .i64 (.bin .subI (.bin .mulI (.var 0) (.var 3)) (.bin .mulI (.var 1) (.var 4)))), (.int .i64 (.lit 1048576))], [], [none, none, none], (.tuple [(.int .i64 (.var 6)), (.bool (.var 0))]), []⟩
  (.call etalonref01_rounded_s ⟨[(.bin .addI (.bin .mulI (.var 0) (.var 4)) (.bin .mulI (.var 1) (.var 3))), (.lit 1048576)], [], []⟩ ⟨[(.bin .addI (.bin .mulI (.var 0) (.var 4)) (.bin .mulI (.var 1) (.var 3))), (.lit 1048576), (.var 7)], [(.var 1)], []⟩ ⟨64, [(.int .i64 (.bin .addI (.bin .mulI (.var 0) (.var 4)) (.bin .mulI (.var 1) (.var 3)))), (.int .i64 (.lit 1048576))], [], [none, none, none], (.tuple [(.int .i64 (.var 7)), (.bool (.var 1))]), []⟩
  (.call _etalonref01_B__Up_s ⟨[(.var 0), (.var 1), (.var 2)], [], []⟩ ⟨[(.var 0), (.var 1), (.var 2), (.var 8)], [], []⟩ ⟨66, [(.agg [(.int .i64 (.var 0)), (.int .i64 (.var 1)), (.int .i64 (.var 2))])], [], [none, none, none], (.int .i64 (.var 8)), []⟩
  (.rng 8 0 100000000 (.call _etalonref01_B__Up_s ⟨[(.var 3), (.var 4), (.var 5)], [], []⟩ ⟨[(.var 3), (.var 4), (.var 5), (.var 9)], [], []⟩ ⟨66, [(.agg [(.int .i64 (.var 3)), (.int .i64 (.var 4)), (.int .i64 (.var 5))])], [], [none, none, none], (.int .i64 (.var 9)), []⟩
  (.rng 9 0 100000000 (.call etalonbase_Ceil_s ⟨[(.bin .addI (.bin .addI (.bin .mulI (.var 8) (.var 5)) (.bin .mulI (.var 9) (.var 2))) (.bin .mulI (.var 2) (.var 5))), (.lit 1048576)], [], []⟩ ⟨[(.bin .addI (.bin .addI (.bin .mulI (.var 8) (.var 5)) (.bin .mulI (.var 9) (.var 2))) (.bin .mulI (.var 2) (.var 5))), (.lit 1048576), (.var 10)], [], []⟩ ⟨65, [(.int .i64 (.bin .addI (.bin .addI (.bin .mulI (.var 8) (.var 5)) (.bin .mulI (.var 9) (.var 2))) (.bin .mulI (.var 2) (.var 5)))), (.int .i64 (.lit 1048576))], [], [none, none, none], (.int .i64 (.var 10)), []⟩
  (.rng 10 0 9007199254740992 (.ite (.var 0)
  (.call _etalonref01_B__Checked_s ⟨[(.var 6), (.var 7), (.bin .addI (.var 10) (.lit 1))], [], []⟩ ⟨[(.var 6), (.var 7), (.bin .addI (.var 10) (.lit 1)), (.var 11), (.var 12), (.var 13), (.var 14)], [], []⟩ ⟨57, [(.agg [(.int .i64 (.var 6)), (.int .i64 (.var 7)), (.int .i64 (.bin .addI (.var 10) (.lit 1)))])], [], [none, none, none], (.tuple [(.agg [(.int .i64 (.var 11)), (.int .i64 (.var 12)), (.int .i64 (.var 13))]), (.int .i64 (.var 14))]), []⟩
   (.ret ⟨[(.var 11), (.var 12), (.var 13), (.var 14)], [], []⟩ []))
  (.ite (.var 1)
   (.call _etalonref01_B__Checked_s ⟨[(.var 6), (.var 7), (.bin .addI (.var 10) (.lit 1))], [], []⟩ ⟨[(.var 6), (.var 7), (.bin .addI (.var 10) (.lit 1)), (.var 11), (.var 12), (.var 13), (.var 14)], [], []⟩ ⟨57, [(.agg [(.int .i64 (.var 6)), (.int .i64 (.var 7)), (.int .i64 (.bin .addI (.var 10) (.lit 1)))])], [], [none, none, none], (.tuple [(.agg [(.int .i64 (.var 11)), (.int .i64 (.var 12)), (.int .i64 (.var 13))]), (.int .i64 (.var 14))]), []⟩
    (.ret ⟨[(.var 11), (.var 12), (.var 13), (.var 14)], [], []⟩ []))
   (.call _etalonref01_B__Checked_s ⟨[(.var 6), (.var 7), (.var 10)], [], []⟩ ⟨[(.var 6), (.var 7), (.var 10), (.var 11), (.var 12), (.var 13), (.var 14)], [], []⟩ ⟨57, [(.agg [(.int .i64 (.var 6)), (.int .i64 (.var 7)), (.int .i64 (.var 10))])], [], [none, none, none], (.tuple [(.agg [(.int .i64 (.var 11)), (.int .i64 (.var 12)), (.int .i64 (.var 13))]), (.int .i64 (.var 14))]), []⟩
    (.ret ⟨[(.var 11), (.var 12), (.var 13), (.var 14)], [], []⟩ []))))))))))))
theorem rtm {x0 x1 x2 x3 x4 x5 : Int} (r0 : (-67108864) ≤ x0 ∧ x0 ≤ 67108864) (r1 : (-67108864) ≤ x1 ∧ x1 ≤ 67108864) (r2 : 0 ≤ x2 ∧ x2 ≤ 67108864) (r3 : (-67108864) ≤ x3 ∧ x3 ≤ 67108864) (r4 : (-67108864) ≤ x4 ∧ x4 ≤ 67108864) (r5 : 0 ≤ x5 ∧ x5 ≤ 67108864) {R : Int → Int → Int → Int → Prop}
  (H : (∃ v6 : Int, ∃ u0 : Bool, Spec Try.prog etalonref01_rounded_s ⟨[((x0 * x3) - (x1 * x4)), 1048576], [], []⟩ [v6] [u0] [] ∧
   (∃ v7 : Int, ∃ u1 : Bool, Spec Try.prog etalonref01_rounded_s ⟨[((x0 * x4) + (x1 * x3)), 1048576], [], []⟩ [v7] [u1] [] ∧
   (∃ v8 : Int, Spec Try.prog _etalonref01_B__Up_s ⟨[x0, x1, x2], [], []⟩ [v8] [] [] ∧
   ((0 ≤ (v8 : Int) ∧ (v8 : Int) ≤ 100000000) ∧ (∃ v9 : Int, Spec Try.prog _etalonref01_B__Up_s ⟨[x3, x4, x5], [], []⟩ [v9] [] [] ∧
   ((0 ≤ (v9 : Int) ∧ (v9 : Int) ≤ 100000000) ∧ (∃ v10 : Int, Spec Try.prog etalonbase_Ceil_s ⟨[(((v8 * x5) + (v9 * x2)) + (x2 * x5)), 1048576], [], []⟩ [v10] [] [] ∧
   ((0 ≤ (v10 : Int) ∧ (v10 : Int) ≤ 9007199254740992) ∧ ((u0 = true → (∃ v11 : Int, ∃ v12 : Int, ∃ v13 : Int, ∃ v14 : Int, Spec Try.prog _etalonref01_B__Checked_s ⟨[v6, v7, (v10 + 1)], [], []⟩ [v11, v12, v13, v14] [] [] ∧
    R (v11) (v12) (v13) (v14))) ∧
   (u0 = false → ((u1 = true → (∃ v11 : Int, ∃ v12 : Int, ∃ v13 : Int, ∃ v14 : Int, Spec Try.prog _etalonref01_B__Checked_s ⟨[v6, v7, (v10 + 1)], [], []⟩ [v11, v12, v13, v14] [] [] ∧
     R (v11) (v12) (v13) (v14))) ∧
    (u1 = false → (∃ v11 : Int, ∃ v12 : Int, ∃ v13 : Int, ∃ v14 : Int, Spec Try.prog _etalonref01_B__Checked_s ⟨[v6, v7, v10], [], []⟩ [v11, v12, v13, v14] [] [] ∧
     R (v11) (v12) (v13) (v14))))))))))))))) :
    ∃ v0 : Int, ∃ v1 : Int, ∃ v2 : Int, ∃ v3 : Int, R v0 v1 v2 v3 ∧ Spec Try.prog etalonref01_Times_s ⟨[x0, x1, x2, x3, x4, x5], [], []⟩ [v0, v1, v2, v3] [] [] :=
  Eq.mp (by kernel_rfl) (exV_of (K := fun d => app3 etalonref01_Times_s.out R d ∧ Spec Try.prog etalonref01_Times_s ⟨[x0, x1, x2, x3, x4, x5], [], []⟩ d.1 d.2.1 d.2.2) (tree_at mixed names S1_ok (S := S1 Try.prog) (lf := 100000) (d := 60) etalonref01_Times_s rtm_t { ivs := [(0, (-67108864), 67108864), (1, (-67108864), 67108864), (2, 0, 67108864), (3, (-67108864), 67108864), (4, (-67108864), 67108864), (5, 0, 67108864)], aivs := [] } ⟨[x0, x1, x2, x3, x4, x5], [], []⟩ rfl (by kernel_rfl) (by kernel_rfl) (by kernel_rfl) ⟨(fc r0 (fc r1 (fc r2 (fc r3 (fc r4 (fc r5 fz)))))), fz, fz, fz⟩ (R := fun d => app3 etalonref01_Times_s.out R d) (Eq.mp (by kernel_rfl) H)))

def rqu_t : Tr :=
  (.call _etalonref01_B__Down_s ⟨[(.var 3), (.var 4), (.var 5)], [], []⟩ ⟨[(.var 3), (.var 4), (.var 5), (.var 6)], [], []⟩ ⟨71, [(.agg [(.int .i64 (.var 3)), (.int .i64 (.var 4)), (.int .i64 (.var 5))])], [], [none, none, none], (.int .i64 (.var 6)), []⟩
  (.rng 6 0 100000000 (.ite (.icmp .leq (.var 6) (.var 5))
  (.ret ⟨[(.lit 0), (.lit 0), (.lit 0), (.lit 9)], [], []⟩ [])
  (.call etalonref01_scaledRounded_s ⟨[(.bin .addI (.bin .mulI (.var 0) (.var 3)) (.bin .mulI (.var 1) (.var 4))), (.bin .addI (.bin .mulI (.var 3) (.var 3)) (.bin .mulI (.var 4) (.var 4)))], [], []⟩ ⟨[(.bin .addI (.bin .mulI (.var 0) (.var 3)) (.bin .mulI (.var 1) (.var 4))), (.bin .addI (.bin .mulI (.var 3) (.var 3)) (.bin .mulI (.var 4) (.var 4))), (.var 7)], [(.var 0)], []⟩ ⟨72, [(.int .i64 (.bin .addI (.bin .mulI (.var 0) (.var 3)) (.bin .mulI (.var 1) (.var 4)))), (.int .i64 (.bin .addI (.bin .mulI (.var 3) (.var 3)) (.bin .mulI (.var 4) (.var 4))))], [], [none, none, none], (.tuple [(.int .i64 (.var 7)), (.bool (.var 0))]), []⟩
   (.call etalonref01_scaledRounded_s ⟨[(.bin .subI (.bin .mulI (.var 1) (.var 3)) (.bin .mulI (.var 0) (.var 4))), (.bin .addI (.bin .mulI (.var 3) (.var 3)) (.bin .mulI (.var 4) (.var 4)))], [], []⟩ ⟨[(.bin .subI (.bin .mulI (.var 1) (.var 3)) (.bin .mulI (.var 0) (.var 4))), (.bin .addI (.bin .mulI (.var 3) (.var 3)) (.bin .mulI (.var 4) (.var 4))), (.var 8)], [(.var 1)], []⟩ ⟨72, [(.int .i64 (.bin .subI (.bin .mulI (.var 1) (.var 3)) (.bin .mulI (.var 0) (.var 4)))), (.int .i64 (.bin .addI (.bin .mulI (.var 3) (.var 3)) (.bin .mulI (.var 4) (.var 4))))], [], [none, none, none], (.tuple [(.int .i64 (.var 8)), (.bool (.var 1))]), []⟩
   (.call _etalonref01_B__Up_s ⟨[(.var 3), (.var 4), (.var 5)], [], []⟩ ⟨[(.var 3), (.var 4), (.var 5), (.var 9)], [], []⟩ ⟨66, [(.agg [(.int .i64 (.var 3)), (.int .i64 (.var 4)), (.int .i64 (.var 5))])], [], [none, none, none], (.int .i64 (.var 9)), []⟩
   (.rng 9 0 100000000 (.call _etalonref01_B__Up_s ⟨[(.var 0), (.var 1), (.var 2)], [], []⟩ ⟨[(.var 0), (.var 1), (.var 2), (.var 10)], [], []⟩ ⟨66, [(.agg [(.int .i64 (.var 0)), (.int .i64 (.var 1)), (.int .i64 (.var 2))])], [], [none, none, none], (.int .i64 (.var 10)), []⟩
   (.rng 10 0 100000000 (.call etalonref01_scaledUp_s ⟨[(.bin .addI (.bin .mulI (.var 2) (.var 9)) (.bin .mulI (.var 10) (.var 5))), (.bin .mulI (.bin .subI (.var 6) (.var 5)) (.var 6))], [], []⟩ ⟨[(.bin .addI (.bin .mulI (.var 2) (.var 9)) (.bin .mulI (.var 10) (.var 5))), (.bin .mulI (.bin .subI (.var 6) (.var 5)) (.var 6)), (.var 11)], [], []⟩ ⟨73, [(.int .i64 (.bin .addI (.bin .mulI (.var 2) (.var 9)) (.bin .mulI (.var 10) (.var 5)))), (.int .i64 (.bin .mulI (.bin .subI (.var 6) (.var 5)) (.var 6)))], [], [none, none, none], (.int .i64 (.var 11)), []⟩
   (.rng 11 0 4611686018427387904 (.ite (.var 0)
   (.call _etalonref01_B__Checked_s ⟨[(.var 7), (.var 8), (.bin .addI (.var 11) (.lit 1))], [], []⟩ ⟨[(.var 7), (.var 8), (.bin .addI (.var 11) (.lit 1)), (.var 12), (.var 13), (.var 14), (.var 15)], [], []⟩ ⟨57, [(.agg [(.int .i64 (.var 7)), (.int .i64 (.var 8)), (.int .i64 (.bin .addI (.var 11) (.lit 1)))])], [], [none, none, none], (.tuple [(.agg [(.int .i64 (.var 12)), (.int .i64 (.var 13)), (.int .i64 (.var 14))]), (.int .i64 (.var 15))]), []⟩
    (.ret ⟨[(.var 12), (.var 13), (.var 14), (.var 15)], [], []⟩ []))
   (.ite (.var 1)
    (.call _etalonref01_B__Checked_s ⟨[(.var 7), (.var 8), (.bin .addI (.var 11) (.lit 1))], [], []⟩ ⟨[(.var 7), (.var 8), (.bin .addI (.var 11) (.lit 1)), (.var 12), (.var 13), (.var 14), (.var 15)], [], []⟩ ⟨57, [(.agg [(.int .i64 (.var 7)), (.int .i64 (.var 8)), (.int .i64 (.bin .addI (.var 11) (.lit 1)))])], [], [none, none, none], (.tuple [(.agg [(.int .i64 (.var 12)), (.int .i64 (.var 13)), (.int .i64 (.var 14))]), (.int .i64 (.var 15))]), []⟩
     (.ret ⟨[(.var 12), (.var 13), (.var 14), (.var 15)], [], []⟩ []))
    (.call _etalonref01_B__Checked_s ⟨[(.var 7), (.var 8), (.var 11)], [], []⟩ ⟨[(.var 7), (.var 8), (.var 11), (.var 12), (.var 13), (.var 14), (.var 15)], [], []⟩ ⟨57, [(.agg [(.int .i64 (.var 7)), (.int .i64 (.var 8)), (.int .i64 (.var 11))])], [], [none, none, none], (.tuple [(.agg [(.int .i64 (.var 12)), (.int .i64 (.var 13)), (.int .i64 (.var 14))]), (.int .i64 (.var 15))]), []⟩
     (.ret ⟨[(.var 12), (.var 13), (.var 14), (.var 15)], [], []⟩ [])))))))))))))))
theorem rqu {x0 x1 x2 x3 x4 x5 : Int} (r0 : (-67108864) ≤ x0 ∧ x0 ≤ 67108864) (r1 : (-67108864) ≤ x1 ∧ x1 ≤ 67108864) (r2 : 0 ≤ x2 ∧ x2 ≤ 67108864) (r3 : (-67108864) ≤ x3 ∧ x3 ≤ 67108864) (r4 : (-67108864) ≤ x4 ∧ x4 ≤ 67108864) (r5 : 0 ≤ x5 ∧ x5 ≤ 67108864) {R : Int → Int → Int → Int → Prop}
  (H : (∃ v6 : Int, Spec Try.prog _etalonref01_B__Down_s ⟨[x3, x4, x5], [], []⟩ [v6] [] [] ∧
   ((0 ≤ (v6 : Int) ∧ (v6 : Int) ≤ 100000000) ∧ ((decide ((v6 : Int) ≤ x5) = true → R (0) (0) (0) (9)) ∧
   (decide ((v6 : Int) ≤ x5) = false → (∃ v7 : Int, ∃ u0 : Bool, Spec Try.prog etalonref01_scaledRounded_s ⟨[((x0 * x3) + (x1 * x4)), ((x3 * x3) + (x4 * x4))], [], []⟩ [v7] [u0] [] ∧
    (∃ v8 : Int, ∃ u1 : Bool, Spec Try.prog etalonref01_scaledRounded_s ⟨[((x1 * x3) - (x0 * x4)), ((x3 * x3) + (x4 * x4))], [], []⟩ [v8] [u1] [] ∧
    (∃ v9 : Int, Spec Try.prog _etalonref01_B__Up_s ⟨[x3, x4, x5], [], []⟩ [v9] [] [] ∧
    ((0 ≤ (v9 : Int) ∧ (v9 : Int) ≤ 100000000) ∧ (∃ v10 : Int, Spec Try.prog _etalonref01_B__Up_s ⟨[x0, x1, x2], [], []⟩ [v10] [] [] ∧
    ((0 ≤ (v10 : Int) ∧ (v10 : Int) ≤ 100000000) ∧ (∃ v11 : Int, Spec Try.prog etalonref01_scaledUp_s ⟨[((x2 * v9) + (v10 * x5)), ((v6 - x5) * v6)], [], []⟩ [v11] [] [] ∧
    ((0 ≤ (v11 : Int) ∧ (v11 : Int) ≤ 4611686018427387904) ∧ ((u0 = true → (∃ v12 : Int, ∃ v13 : Int, ∃ v14 : Int, ∃ v15 : Int, Spec Try.prog _etalonref01_B__Checked_s ⟨[v7, v8, (v11 + 1)], [], []⟩ [v12, v13, v14, v15] [] [] ∧
     R (v12) (v13) (v14) (v15))) ∧
    (u0 = false → ((u1 = true → (∃ v12 : Int, ∃ v13 : Int, ∃ v14 : Int, ∃ v15 : Int, Spec Try.prog _etalonref01_B__Checked_s ⟨[v7, v8, (v11 + 1)], [], []⟩ [v12, v13, v14, v15] [] [] ∧
      R (v12) (v13) (v14) (v15))) ∧
     (u1 = false → (∃ v12 : Int, ∃ v13 : Int, ∃ v14 : Int, ∃ v15 : Int, Spec Try.prog _etalonref01_B__Checked_s ⟨[v7, v8, v11], [], []⟩ [v12, v13, v14, v15] [] [] ∧
      R (v12) (v13) (v14) (v15))))))))))))))))))) :
    ∃ v0 : Int, ∃ v1 : Int, ∃ v2 : Int, ∃ v3 : Int, R v0 v1 v2 v3 ∧ Spec Try.prog etalonref01_Quotient_s ⟨[x0, x1, x2, x3, x4, x5], [], []⟩ [v0, v1, v2, v3] [] [] :=
  Eq.mp (by kernel_rfl) (exV_of (K := fun d => app3 etalonref01_Quotient_s.out R d ∧ Spec Try.prog etalonref01_Quotient_s ⟨[x0, x1, x2, x3, x4, x5], [], []⟩ d.1 d.2.1 d.2.2) (tree_at mixed names S1_ok (S := S1 Try.prog) (lf := 100000) (d := 60) etalonref01_Quotient_s rqu_t { ivs := [(0, (-67108864), 67108864), (1, (-67108864), 67108864), (2, 0, 67108864), (3, (-67108864), 67108864), (4, (-67108864), 67108864), (5, 0, 67108864)], aivs := [] } ⟨[x0, x1, x2, x3, x4, x5], [], []⟩ rfl (by kernel_rfl) (by kernel_rfl) (by kernel_rfl) ⟨(fc r0 (fc r1 (fc r2 (fc r3 (fc r4 (fc r5 fz)))))), fz, fz, fz⟩ (R := fun d => app3 etalonref01_Quotient_s.out R d) (Eq.mp (by kernel_rfl) H)))

def rdn_t : Tr :=
  (.call etalonbase_Root_s ⟨[(.bin .addI (.bin .mulI (.var 0) (.var 0)) (.bin .mulI (.var 1) (.var 1)))], [], []⟩ ⟨[(.bin .addI (.bin .mulI (.var 0) (.var 0)) (.bin .mulI (.var 1) (.var 1))), (.var 3)], [], []⟩ ⟨100, [(.int .i64 (.bin .addI (.bin .mulI (.var 0) (.var 0)) (.bin .mulI (.var 1) (.var 1))))], [], [none], (.int .i64 (.var 3)), []⟩
  (.ret ⟨[(.var 3)], [], []⟩ []))
theorem rdn {x0 x1 x2 : Int} (r0 : (-134217728) ≤ x0 ∧ x0 ≤ 134217728) (r1 : (-134217728) ≤ x1 ∧ x1 ≤ 134217728) (r2 : (-9223372036854775808) ≤ x2 ∧ x2 ≤ 9223372036854775807) {R : Int → Prop}
  (H : (∃ v3 : Int, Spec Try.prog etalonbase_Root_s ⟨[((x0 * x0) + (x1 * x1))], [], []⟩ [v3] [] [] ∧
   R (v3))) :
    ∃ v0 : Int, R v0 ∧ Spec Try.prog _etalonref01_B__Down_s ⟨[x0, x1, x2], [], []⟩ [v0] [] [] :=
  Eq.mp (by kernel_rfl) (exV_of (K := fun d => app3 _etalonref01_B__Down_s.out R d ∧ Spec Try.prog _etalonref01_B__Down_s ⟨[x0, x1, x2], [], []⟩ d.1 d.2.1 d.2.2) (tree_at mixed names S1_ok (S := S1 Try.prog) (lf := 100000) (d := 60) _etalonref01_B__Down_s rdn_t { ivs := [(0, (-134217728), 134217728), (1, (-134217728), 134217728), (2, (-9223372036854775808), 9223372036854775807)], aivs := [] } ⟨[x0, x1, x2], [], []⟩ rfl (by kernel_rfl) (by kernel_rfl) (by kernel_rfl) ⟨(fc r0 (fc r1 (fc r2 fz))), fz, fz, fz⟩ (R := fun d => app3 _etalonref01_B__Down_s.out R d) (Eq.mp (by kernel_rfl) H)))

def rup_t : Tr :=
  (.call etalonref01_RootUp_s ⟨[(.bin .addI (.bin .mulI (.var 0) (.var 0)) (.bin .mulI (.var 1) (.var 1)))], [], []⟩ ⟨[(.bin .addI (.bin .mulI (.var 0) (.var 0)) (.bin .mulI (.var 1) (.var 1))), (.var 3)], [], []⟩ ⟨99, [(.int .i64 (.bin .addI (.bin .mulI (.var 0) (.var 0)) (.bin .mulI (.var 1) (.var 1))))], [], [none], (.int .i64 (.var 3)), []⟩
  (.ret ⟨[(.var 3)], [], []⟩ []))
theorem rup {x0 x1 x2 : Int} (r0 : (-134217728) ≤ x0 ∧ x0 ≤ 134217728) (r1 : (-134217728) ≤ x1 ∧ x1 ≤ 134217728) (r2 : (-9223372036854775808) ≤ x2 ∧ x2 ≤ 9223372036854775807) {R : Int → Prop}
  (H : (∃ v3 : Int, Spec Try.prog etalonref01_RootUp_s ⟨[((x0 * x0) + (x1 * x1))], [], []⟩ [v3] [] [] ∧
   R (v3))) :
    ∃ v0 : Int, R v0 ∧ Spec Try.prog _etalonref01_B__Up_s ⟨[x0, x1, x2], [], []⟩ [v0] [] [] :=
  Eq.mp (by kernel_rfl) (exV_of (K := fun d => app3 _etalonref01_B__Up_s.out R d ∧ Spec Try.prog _etalonref01_B__Up_s ⟨[x0, x1, x2], [], []⟩ d.1 d.2.1 d.2.2) (tree_at mixed names S1_ok (S := S1 Try.prog) (lf := 100000) (d := 60) _etalonref01_B__Up_s rup_t { ivs := [(0, (-134217728), 134217728), (1, (-134217728), 134217728), (2, (-9223372036854775808), 9223372036854775807)], aivs := [] } ⟨[x0, x1, x2], [], []⟩ rfl (by kernel_rfl) (by kernel_rfl) (by kernel_rfl) ⟨(fc r0 (fc r1 (fc r2 fz))), fz, fz, fz⟩ (R := fun d => app3 _etalonref01_B__Up_s.out R d) (Eq.mp (by kernel_rfl) H)))

def rcj_t : Tr :=
  (.ret ⟨[(.var 0), (.bin .subI (.lit 0) (.var 1)), (.var 2)], [], []⟩ [])
theorem rcj {x0 x1 x2 : Int} (r0 : (-67108864) ≤ x0 ∧ x0 ≤ 67108864) (r1 : (-67108864) ≤ x1 ∧ x1 ≤ 67108864) (r2 : 0 ≤ x2 ∧ x2 ≤ 67108864) {R : Int → Int → Int → Prop}
  (H : R (x0) ((0 - x1)) (x2)) :
    ∃ v0 : Int, ∃ v1 : Int, ∃ v2 : Int, R v0 v1 v2 ∧ Spec Try.prog etalonref01_Conj_s ⟨[x0, x1, x2], [], []⟩ [v0, v1, v2] [] [] :=
  Eq.mp (by kernel_rfl) (exV_of (K := fun d => app3 etalonref01_Conj_s.out R d ∧ Spec Try.prog etalonref01_Conj_s ⟨[x0, x1, x2], [], []⟩ d.1 d.2.1 d.2.2) (tree_at mixed names S1_ok (S := S1 Try.prog) (lf := 100000) (d := 60) etalonref01_Conj_s rcj_t { ivs := [(0, (-67108864), 67108864), (1, (-67108864), 67108864), (2, 0, 67108864)], aivs := [] } ⟨[x0, x1, x2], [], []⟩ rfl (by kernel_rfl) (by kernel_rfl) (by kernel_rfl) ⟨(fc r0 (fc r1 (fc r2 fz))), fz, fz, fz⟩ (R := fun d => app3 etalonref01_Conj_s.out R d) (Eq.mp (by kernel_rfl) H)))

open Go.Proofs.Ytgdlddmbfockpaa.Gm

theorem checked_r {x y r : Int} (hx : I64 x) (hy : I64 y) (h0 : 0 ≤ r) (h1 : r ≤ 9223372036854775807) : Spec Try.prog _etalonref01_B__Checked_s ⟨[x, y, r], [], []⟩ [(bk x y r).x, (bk x y r).y, (bk x y r).r, (bk x y r).e] [] [] := by

  refine BqI.out (rck hx hy (by omega) (R := BqI _) ?_)

  simp only [decide_eq_true_eq, decide_eq_false_iff_not]

  refine ⟨fun h1 => ⟨fun h2 => ⟨fun h3 => ⟨fun h4 => ⟨fun _ => ⟨fun h5 => bki_ok ⟨⟨h1, h2⟩, ⟨h3, h4⟩, h5⟩ rfl, fun h => bki_no (fun g => h g.2.2) rfl⟩, fun h => absurd h0 h⟩, fun h => bki_no (fun g => h g.2.1.2) rfl⟩, fun h => bki_no (fun g => h g.2.1.1) rfl⟩, fun h => bki_no (fun g => h g.1.2) rfl⟩, fun h => bki_no (fun g => h g.1.1) rfl⟩

theorem out2 {P : Program} {S : Sig} {V : Vs} {x : Int} {u : Bool} (h : ∃ a : Int, ∃ b : Bool, (a = x ∧ b = u) ∧ Spec P S V [a] [b] []) : Spec P S V [x] [u] [] := by

  obtain ⟨a, b, ⟨rfl, rfl⟩, hs⟩ := h

  exact hs

theorem outp {P : Program} {S : Sig} {V : Vs} {x y : Int} (h : ∃ a b : Int, (a = x ∧ b = y) ∧ Spec P S V [a, b] [] []) : Spec P S V [x, y] [] [] := by

  obtain ⟨a, b, ⟨rfl, rfl⟩, hs⟩ := h

  exact hs

theorem wholeB_mod (n d : Int) : wholeB n d = decide (n % d = 0) := rfl

theorem rounded_r {n d : Int} (h0 : -1152921504606846976 ≤ n ∧ n ≤ 1152921504606846976) (h1 : 1 ≤ d ∧ d ≤ 2305843009213693952) : Spec Try.prog etalonref01_rounded_s ⟨[n, d], [], []⟩ [rdiv n d] [!wholeB n d] [] := by

  have e := rdiv_eq n (show 0 < d by omega)

  have e1 := Int.mul_ediv_add_emod n d

  have e2 := Int.emod_nonneg n (show d ≠ 0 by omega)

  have e3 := Int.emod_lt_of_pos n (show 0 < d by omega)

  have e4 := ediv_abs' (n := n) (d := d) (M := 1152921504606846976) (by omega) (by omega) (by omega) (by omega)

  have w1 : IntKind.i64.wrap (n / d * d) = n / d * d := wrapI (by rw [Int.mul_comm]; omega)

  have w2 : IntKind.i64.wrap (n - n / d * d) = n % d := by rw [wrapI (by rw [Int.mul_comm]; omega), Int.mul_comm]; omega

  have w3 : IntKind.i64.wrap (d - n % d) = d - n % d := wrapI (by omega)

  refine out2 (rrd (by omega) (by omega) (R := fun a b => a = rdiv n d ∧ b = !wholeB n d) ⟨_, floor_s (by omega) (by omega), by omega, ?_⟩)

  rw [w1, w2, w3, e, wholeB_mod]

  simp only [decide_eq_true_eq, decide_eq_false_iff_not]

  refine ⟨fun h => ⟨by rw [if_pos h], ?_⟩, fun h => ⟨by rw [if_neg h]; omega, ?_⟩⟩

  · rw [decide_eq_false (by omega)]; rfl

  · by_cases g : n % d = 0

    · rw [decide_eq_true g, g]; rfl

    · rw [decide_eq_false g]; simp only [Bool.not_false, bne_iff_ne, ne_eq]; exact g

/-- Where the reference's long division is under way. -/

def ScI (n d q s i : Int) : Prop := ∃ k : Nat, k ≤ 20 ∧ i = k ∧ q * d + s = n * 2 ^ k ∧ (0 ≤ s ∧ s < d) ∧ (-(268435456 * 2 ^ k) ≤ q ∧ q + 1 ≤ 268435457 * 2 ^ k)

theorem ScI.bd {n d q s i : Int} (h : ScI n d q s i) : (-1125899906842624) ≤ q ∧ q ≤ 1125899906842624 ∧ (0 ≤ s ∧ s < d) ∧ (0 ≤ i ∧ i ≤ 20) := by

  obtain ⟨k, hk, rfl, h1, h2, h3⟩ := h

  have p := pow_pos k

  have : (2 : Int) ^ k ≤ 2 ^ 20 := by exact_mod_cast Nat.pow_le_pow_right (n := 2) (by decide) hk

  omega

theorem ScI.last {n d q s : Int} {i : Int} (h : ScI n d q s i) (hi : 20 ≤ i) : q = n * 1048576 / d ∧ s = n * 1048576 % d := by

  obtain ⟨k, hk, rfl, h1, h2, h3⟩ := h

  have hk : k = 20 := by omega

  subst hk

  have e : (2 : Int) ^ 20 = 1048576 := by decide

  rw [e] at h1

  have := (Int.ediv_emod_unique (a := n * 1048576) (b := d) (r := s) (q := q) (by omega)).2 ⟨by rw [Int.mul_comm d]; omega, h2.1, h2.2⟩

  exact ⟨this.1.symm, this.2.symm⟩

theorem ScI.step {n d q s i : Int} (h : ScI n d q s i) (hi : ¬ 20 ≤ i) : (d ≤ 2 * s → ScI n d (2 * q + 1) (2 * s - d) (i + 1)) ∧ (¬ d ≤ 2 * s → ScI n d (2 * q) (2 * s) (i + 1)) := by

  obtain ⟨k, hk, rfl, h1, h2, h3⟩ := h

  have e : (2 : Int) ^ (k + 1) = 2 * 2 ^ k := by rw [Int.pow_succ]; omega

  have p := pow_pos k

  have e2 : n * 2 ^ (k + 1) = 2 * (n * 2 ^ k) := by rw [e, Int.mul_left_comm]

  refine ⟨fun g => ⟨k + 1, by omega, by omega, ?_, by omega, ?_⟩, fun g => ⟨k + 1, by omega, by omega, ?_, by omega, ?_⟩⟩

  · rw [e2, Int.add_mul, Int.mul_assoc, Int.one_mul]; omega

  · rw [e]; omega

  · rw [e2, Int.mul_assoc]; omega

  · rw [e]; omega

theorem scaled_r {n d : Int} (hn : -1152921504606846976 ≤ n ∧ n ≤ 1152921504606846976) (hd : 1 ≤ d ∧ d ≤ 1152921504606846976) (h : -268435456 ≤ n / d ∧ n / d ≤ 268435456) : Spec Try.prog etalonref01_scaled_s ⟨[n, d], [], []⟩ [n * 1048576 / d, n * 1048576 % d] [] [] := by

  have e1 := Int.mul_ediv_add_emod n d

  have e2 := Int.emod_nonneg n (show d ≠ 0 by omega)

  have e3 := Int.emod_lt_of_pos n (show 0 < d by omega)

  have w1 : IntKind.i64.wrap (n / d * d) = n / d * d := wrapI (by rw [Int.mul_comm]; omega)

  have w2 : IntKind.i64.wrap (n - n / d * d) = n % d := by rw [wrapI (by rw [Int.mul_comm]; omega), Int.mul_comm]; omega

  refine outp (rsc (by omega) (by omega) (R := fun a b => a = n * 1048576 / d ∧ b = n * 1048576 % d) ⟨_, floor_s (by omega) (by omega), by omega, fun _ => ⟨fun _ => ?_, fun h9 => ?_⟩, fun h9 => ?_⟩)

  · rw [w1, w2]

    refine ⟨fun q s i => ScI n d q s i, fun _ _ i => (20 - i).toNat, ⟨0, by omega, rfl, by rw [Int.mul_comm]; omega, by omega, by omega⟩, fun q s i hI => ?_⟩

    have hb := hI.bd

    have v1 : IntKind.i64.wrap (2 * s) = 2 * s := wrapI (by omega)

    have v2 : IntKind.i64.wrap (2 * s - d) = 2 * s - d := wrapI (by omega)

    simp only [v1, v2, decide_eq_true_eq, decide_eq_false_iff_not]

    refine ⟨by omega, by omega, by omega, fun h9 => ⟨by omega, by omega, hI.last h9⟩, fun h9 => ?_⟩

    obtain ⟨s1, s2⟩ := hI.step h9

    exact ⟨fun g => ⟨s1 g, by omega⟩, fun g => ⟨s2 g, by omega⟩⟩

  · simp only [decide_eq_false_iff_not] at h9; exact absurd h.1 h9

  · simp only [decide_eq_false_iff_not] at h9; exact absurd h.2 h9

theorem scaled_cut {n d : Int} (hn : -1152921504606846976 ≤ n ∧ n ≤ 1152921504606846976) (hd : 1 ≤ d ∧ d ≤ 1152921504606846976) (h : ¬ (-268435456 ≤ n / d ∧ n / d ≤ 268435456)) : Spec Try.prog etalonref01_scaled_s ⟨[n, d], [], []⟩ [n / d, n % d] [] [] := by

  have e1 := Int.mul_ediv_add_emod n d

  have e2 := Int.emod_nonneg n (show d ≠ 0 by omega)

  have e3 := Int.emod_lt_of_pos n (show 0 < d by omega)

  have e4 := ediv_abs' (n := n) (d := d) (M := 1152921504606846976) (by omega) (by omega) (by omega) (by omega)

  have w1 : IntKind.i64.wrap (n / d * d) = n / d * d := wrapI (by rw [Int.mul_comm]; omega)

  have w2 : IntKind.i64.wrap (n - n / d * d) = n % d := by rw [wrapI (by rw [Int.mul_comm]; omega), Int.mul_comm]; omega

  refine outp (rsc (by omega) (by omega) (R := fun a b => a = n / d ∧ b = n % d) ⟨_, floor_s (by omega) (by omega), by omega, fun g1 => ⟨fun g2 => ?_, fun h9 => ⟨rfl, by rw [w1, w2]⟩⟩, fun h9 => ⟨rfl, by rw [w1, w2]⟩⟩)

  simp only [decide_eq_true_eq] at g1 g2

  exact absurd ⟨g2, g1⟩ h

theorem scaledRounded_r {n d : Int} (hn : -1152921504606846976 ≤ n ∧ n ≤ 1152921504606846976) (hd : 1 ≤ d ∧ d ≤ 1152921504606846976) (h : -268435456 ≤ n / d ∧ n / d ≤ 268435456) : Spec Try.prog etalonref01_scaledRounded_s ⟨[n, d], [], []⟩ [rdiv (n * 1048576) d] [!wholeB (n * 1048576) d] [] := by

  have e := rdiv_eq (n * 1048576) (show 0 < d by omega)

  have e2 := Int.emod_nonneg (n * 1048576) (show d ≠ 0 by omega)

  have e3 := Int.emod_lt_of_pos (n * 1048576) (show 0 < d by omega)

  have hq : -562949953421312 ≤ n * 1048576 / d ∧ n * 1048576 / d ≤ 562949953421312 := by

    have g1 := Int.mul_ediv_add_emod n d

    have g2 := Int.emod_nonneg n (show d ≠ 0 by omega)

    have g3 := Int.emod_lt_of_pos n (show 0 < d by omega)

    have k1 : d * (-268435456) ≤ d * (n / d) := Int.mul_le_mul_of_nonneg_left h.1 (by omega)

    have k2 : d * (n / d) ≤ d * 268435456 := Int.mul_le_mul_of_nonneg_left h.2 (by omega)

    refine ⟨by rw [Int.le_ediv_iff_mul_le (by omega)]; omega, ?_⟩

    have : n * 1048576 / d < 562949953421313 := by rw [Int.ediv_lt_iff_lt_mul (by omega)]; omega

    omega

  refine out2 (rsr (by omega) (by omega) (R := fun a b => a = rdiv (n * 1048576) d ∧ b = !wholeB (n * 1048576) d) ⟨_, _, scaled_r hn hd h, by omega, by omega, ?_⟩)

  rw [e, wholeB_mod]

  generalize n * 1048576 / d = q at *

  generalize n * 1048576 % d = s at *

  simp only [decide_eq_true_eq, decide_eq_false_iff_not, beq_iff_eq, beq_eq_false_iff_ne, ne_eq]

  refine ⟨fun g => ⟨by rw [if_neg (by omega)]; omega, by rw [decide_eq_true g, g]; rfl⟩, fun g => ⟨fun k => ⟨by rw [if_pos k], by rw [decide_eq_false g]; rfl⟩, fun k => ⟨by rw [if_neg k]; omega, by rw [decide_eq_false g]; simpa using g⟩⟩⟩

theorem scaledUp_r {n d : Int} (hn : -1152921504606846976 ≤ n ∧ n ≤ 1152921504606846976) (hd : 1 ≤ d ∧ d ≤ 1152921504606846976) (h : -268435456 ≤ n / d ∧ n / d ≤ 268435456) : Spec Try.prog etalonref01_scaledUp_s ⟨[n, d], [], []⟩ [cdiv (n * 1048576) d] [] [] := by

  have g1 := Int.mul_ediv_add_emod n d

  have g2 := Int.emod_nonneg n (show d ≠ 0 by omega)

  have g3 := Int.emod_lt_of_pos n (show 0 < d by omega)

  have e1 := Int.mul_ediv_add_emod (n * 1048576) d

  have e2 := Int.emod_nonneg (n * 1048576) (show d ≠ 0 by omega)

  have e3 := Int.emod_lt_of_pos (n * 1048576) (show 0 < d by omega)

  have hq : -562949953421312 ≤ n * 1048576 / d ∧ n * 1048576 / d ≤ 562949953421312 := by

    have k1 : d * (-268435456) ≤ d * (n / d) := Int.mul_le_mul_of_nonneg_left h.1 (by omega)

    have k2 : d * (n / d) ≤ d * 268435456 := Int.mul_le_mul_of_nonneg_left h.2 (by omega)

    refine ⟨by rw [Int.le_ediv_iff_mul_le (by omega)]; omega, ?_⟩

    have : n * 1048576 / d < 562949953421313 := by rw [Int.ediv_lt_iff_lt_mul (by omega)]; omega

    omega

  have ec : cdiv (n * 1048576) d = if n * 1048576 % d = 0 then n * 1048576 / d else n * 1048576 / d + 1 := by

    have hc := cdiv_spec' (n * 1048576) (show 0 < d by omega)

    generalize cdiv (n * 1048576) d = c at *

    generalize n * 1048576 / d = q at *

    generalize n * 1048576 % d = s at *

    have key : ∀ a b : Int, d * a ≤ d * b → a ≤ b := fun a b h => Int.le_of_mul_le_mul_left h (by omega)

    have key2 : ∀ a b : Int, d * a < d * b → a < b := fun a b h => Int.lt_of_mul_lt_mul_left h (by omega)

    have m1 : d * (c - 1) = d * c - d := by rw [Int.mul_sub]; omega

    have m2 : d * (q + 1) = d * q + d := by rw [Int.mul_add]; omega

    split

    · have a1 := key q c (by omega)

      have a2 := key2 (c - 1) q (by omega)

      omega

    · have a1 := key2 q c (by omega)

      have a2 := key2 (c - 1) (q + 1) (by omega)

      omega

  refine out1 (rsu (by omega) (by omega) (R := (· = cdiv (n * 1048576) d)) ⟨_, _, scaled_r hn hd h, by omega, by omega, ?_⟩)

  rw [ec]

  simp only [beq_iff_eq, beq_eq_false_iff_ne, ne_eq]

  exact ⟨fun g => by rw [if_pos g], fun g => by rw [if_neg g]⟩

theorem outb3 {P : Program} {S : Sig} {V : Vs} {x y z : Int} (h : ∃ a b c : Int, (a = x ∧ b = y ∧ c = z) ∧ Spec P S V [a, b, c] [] []) : Spec P S V [x, y, z] [] [] := by

  obtain ⟨a, b, c, ⟨rfl, rfl, rfl⟩, hs⟩ := h

  exact hs

theorem down_r {x y r : Int} (hx : (-134217728) ≤ x ∧ x ≤ 134217728) (hy : (-134217728) ≤ y ∧ y ≤ 134217728) (hr : I64 r) : Spec Try.prog _etalonref01_B__Down_s ⟨[x, y, r], [], []⟩ [dn x y] [] [] := by

  have h1 := sq_bd hx

  have h2 := sq_bd hy

  exact out1 (rdn hx hy hr (R := (· = dn x y)) ⟨_, rroot_s (by omega) (by omega), rfl⟩)

theorem up_r {x y r : Int} (hx : (-134217728) ≤ x ∧ x ≤ 134217728) (hy : (-134217728) ≤ y ∧ y ≤ 134217728) (hr : I64 r) : Spec Try.prog _etalonref01_B__Up_s ⟨[x, y, r], [], []⟩ [upw x y] [] [] := by

  have h1 := sq_bd hx

  have h2 := sq_bd hy

  exact out1 (rup hx hy hr (R := (· = upw x y)) ⟨_, rrootUp_s (by omega) (by omega), rfl⟩)

theorem plus_r {r s X Y Z W : Int} (hx : (-67108864) ≤ X ∧ X ≤ 67108864) (hy : (-67108864) ≤ Y ∧ Y ≤ 67108864) (hr : 0 ≤ r ∧ r ≤ 67108864) (hz : (-67108864) ≤ Z ∧ Z ≤ 67108864) (hw : (-67108864) ≤ W ∧ W ≤ 67108864) (hs : 0 ≤ s ∧ s ≤ 67108864) :

    Spec Try.prog etalonref01_Plus_s ⟨[X, Y, r, Z, W, s], [], []⟩ [(plusQ X Y r Z W s).x, (plusQ X Y r Z W s).y, (plusQ X Y r Z W s).r, (plusQ X Y r Z W s).e] [] [] :=

  BqI.out (rpl hx hy hr hz hw hs (R := BqI _) ⟨_, _, _, _, checked_r (by omega) (by omega) (by omega) (by omega), rfl, rfl, rfl, rfl⟩)

theorem minus_r {r s X Y Z W : Int} (hx : (-67108864) ≤ X ∧ X ≤ 67108864) (hy : (-67108864) ≤ Y ∧ Y ≤ 67108864) (hr : 0 ≤ r ∧ r ≤ 67108864) (hz : (-67108864) ≤ Z ∧ Z ≤ 67108864) (hw : (-67108864) ≤ W ∧ W ≤ 67108864) (hs : 0 ≤ s ∧ s ≤ 67108864) :

    Spec Try.prog etalonref01_Minus_s ⟨[X, Y, r, Z, W, s], [], []⟩ [(minusQ X Y r Z W s).x, (minusQ X Y r Z W s).y, (minusQ X Y r Z W s).r, (minusQ X Y r Z W s).e] [] [] :=

  BqI.out (rmi hx hy hr hz hw hs (R := BqI _) ⟨_, _, _, _, checked_r (by omega) (by omega) (by omega) (by omega), rfl, rfl, rfl, rfl⟩)

theorem conj_r {r X Y : Int} (hx : (-67108864) ≤ X ∧ X ≤ 67108864) (hy : (-67108864) ≤ Y ∧ Y ≤ 67108864) (hr : 0 ≤ r ∧ r ≤ 67108864) :

    Spec Try.prog etalonref01_Conj_s ⟨[X, Y, r], [], []⟩ [(conjQ X Y r).x, (conjQ X Y r).y, (conjQ X Y r).r] [] [] :=

  outb3 (rcj hx hy hr (R := fun a b c => a = X ∧ b = 0 - Y ∧ c = r) ⟨rfl, rfl, rfl⟩)

theorem mo_not (u v : Bool) (c : Int) : (u = true → ∀ x, mo u v x = if v = true then x else x + 1) ∧ (u = false → ∀ x, mo u v x = x + 1) := by

  unfold mo

  refine ⟨fun h x => by rw [h]; simp, fun h x => by rw [h]; simp⟩

theorem times_r {r s X Y Z W : Int} (hx : (-67108864) ≤ X ∧ X ≤ 67108864) (hy : (-67108864) ≤ Y ∧ Y ≤ 67108864) (hr : 0 ≤ r ∧ r ≤ 67108864) (hz : (-67108864) ≤ Z ∧ Z ≤ 67108864) (hw : (-67108864) ≤ W ∧ W ≤ 67108864) (hs : 0 ≤ s ∧ s ≤ 67108864) :

    Spec Try.prog etalonref01_Times_s ⟨[X, Y, r, Z, W, s], [], []⟩ [(timesQ X Y r Z W s).x, (timesQ X Y r Z W s).y, (timesQ X Y r Z W s).r, (timesQ X Y r Z W s).e] [] [] := by

  have m1 := mb hx hz

  have m2 := mb hy hw

  have m3 := mb hx hw

  have m4 := mb hy hz

  obtain ⟨z1, _, u1⟩ := sz_bd hx hy

  obtain ⟨z2, _, u2⟩ := sz_bd hz hw

  have m5 := mb (n := upw X Y) (N := 94906266) (a := s) (A := 67108864) (by omega) (by omega)

  have m6 := mb (n := upw Z W) (N := 94906266) (a := r) (A := 67108864) (by omega) (by omega)

  have m7 := mb (n := r) (N := 67108864) (a := s) (A := 67108864) (by omega) (by omega)

  have p5 : 0 ≤ upw X Y * s := Int.mul_nonneg (by omega) (by omega)

  have p6 : 0 ≤ upw Z W * r := Int.mul_nonneg (by omega) (by omega)

  have p7 : 0 ≤ r * s := Int.mul_nonneg (by omega) (by omega)

  have n1 := rounded_r (n := X * Z - Y * W) (d := 1048576) (by omega) (by omega)

  have n2 := rounded_r (n := X * W + Y * Z) (d := 1048576) (by omega) (by omega)

  have b1 : (-8589934593) ≤ rdiv (X * Z - Y * W) 1048576 ∧ rdiv (X * Z - Y * W) 1048576 ≤ 8589934593 := by unfold rdiv; omega

  have b2 : (-8589934593) ≤ rdiv (X * W + Y * Z) 1048576 ∧ rdiv (X * W + Y * Z) 1048576 ≤ 8589934593 := by unfold rdiv; omega

  have q1 := ceil_s (n := upw X Y * s + upw Z W * r + r * s) (d := 1048576) (by omega) (by omega)

  have c1 : 0 ≤ cdiv (upw X Y * s + upw Z W * r + r * s) 1048576 ∧ cdiv (upw X Y * s + upw Z W * r + r * s) 1048576 ≤ 9007199254740992 := by unfold cdiv; omega

  have t1 := up_r (x := X) (y := Y) (r := r) (by omega) (by omega) (by omega)

  have t2 := up_r (x := Z) (y := W) (r := s) (by omega) (by omega) (by omega)

  have hq : timesQ X Y r Z W s = bk _ _ _ := rfl

  refine BqI.out (rtm hx hy hr hz hw hs (R := BqI _) ⟨_, _, n1, _, _, n2, _, t1, ⟨u1.1, by omega⟩, _, t2, ⟨u2.1, by omega⟩, _, q1, c1, ?_⟩)

  clear n1 n2 m1 m2 m3 m4 m5 m6 m7

  generalize timesQ X Y r Z W s = Q at *

  generalize wholeB (X * Z - Y * W) 1048576 = w1 at *

  generalize wholeB (X * W + Y * Z) 1048576 = w2 at *

  generalize rdiv (X * Z - Y * W) 1048576 = A at *

  generalize rdiv (X * W + Y * Z) 1048576 = B at *

  generalize cdiv _ 1048576 = C at *

  have k : ∀ x, mo w1 w2 x = if w1 = true ∧ w2 = true then x else x + 1 := fun _ => rfl

  rw [k] at hq

  have g1 := checked_r (x := A) (y := B) (r := C) (by omega) (by omega) (by omega) (by omega)

  have g2 := checked_r (x := A) (y := B) (r := C + 1) (by omega) (by omega) (by omega) (by omega)

  cases w1 <;> cases w2

  all_goals (simp only [Bool.not_true, Bool.not_false, reduceCtorEq, and_self, and_true, true_and, and_false, false_and, if_true, if_false, false_implies, true_implies, Bool.false_eq_true, Bool.true_eq_false] at hq ⊢)

  all_goals (subst hq; first | exact ⟨_, _, _, _, g1, rfl, rfl, rfl, rfl⟩ | exact ⟨_, _, _, _, g2, rfl, rfl, rfl, rfl⟩)

theorem quot_r {r s X Y Z W : Int} (hx : (-67108864) ≤ X ∧ X ≤ 67108864) (hy : (-67108864) ≤ Y ∧ Y ≤ 67108864) (hr : 0 ≤ r ∧ r ≤ 67108864) (hz : (-67108864) ≤ Z ∧ Z ≤ 67108864) (hw : (-67108864) ≤ W ∧ W ≤ 67108864) (hs : 0 ≤ s ∧ s ≤ 67108864) :

    Spec Try.prog etalonref01_Quotient_s ⟨[X, Y, r, Z, W, s], [], []⟩ [(quotQ X Y r Z W s).x, (quotQ X Y r Z W s).y, (quotQ X Y r Z W s).r, (quotQ X Y r Z W s).e] [] [] := by

  obtain ⟨z1, d1, u1⟩ := sz_bd hx hy

  obtain ⟨z2, d2, u2⟩ := sz_bd hz hw

  have t0 := down_r (x := Z) (y := W) (r := s) (by omega) (by omega) (by omega)

  have t1 := up_r (x := X) (y := Y) (r := r) (by omega) (by omega) (by omega)

  have t2 := up_r (x := Z) (y := W) (r := s) (by omega) (by omega) (by omega)

  by_cases hl : dn Z W - s ≤ 0

  · refine BqI.out (rqu hx hy hr hz hw hs (R := BqI _) ⟨_, t0, ⟨d2.1, by omega⟩, fun _ => bei_ok (e := 9) (by unfold quotQ; rw [if_pos hl]), fun h9 => ?_⟩)

    simp only [decide_eq_false_iff_not] at h9

    exact absurd (by omega) h9

  · obtain ⟨f1, f2, f3, f4, f5, f6, f7, f8⟩ := quot_facts hx hy hr hz hw hs hl

    have k1 : X * Z + Y * W = qn1 X Y Z W := by unfold qn1; rw [Int.mul_sub]; omega

    have k2 : Y * Z - X * W = qn2 X Y Z W := by unfold qn2; rw [Int.mul_sub]; omega

    have bq : ∀ {n d : Int}, 0 < d → -(134217728 * d) ≤ n → n ≤ 134217728 * d → -268435456 ≤ n / d ∧ n / d ≤ 268435456 := fun {n d} hd h0 h1 => by

      refine ⟨by rw [Int.le_ediv_iff_mul_le hd]; omega, ?_⟩

      have : n / d < 268435457 := by rw [Int.ediv_lt_iff_lt_mul hd]; omega

      omega

    have n1 := scaledRounded_r (n := qn1 X Y Z W) (d := Z * Z + W * W) (by omega) (by omega) (bq f1 f2.1 f2.2)

    have n2 := scaledRounded_r (n := qn2 X Y Z W) (d := Z * Z + W * W) (by omega) (by omega) (bq f1 f3.1 f3.2)

    have b1 := rdiv_rng (n := qn1 X Y Z W * 1048576) (M := 134217728 * 1048576) f1 (by omega) (by omega)

    have b2 := rdiv_rng (n := qn2 X Y Z W * 1048576) (M := 134217728 * 1048576) f1 (by omega) (by omega)

    have hg : -268435456 ≤ (r * upw Z W + upw X Y * s) / ((dn Z W - s) * dn Z W) ∧ (r * upw Z W + upw X Y * s) / ((dn Z W - s) * dn Z W) ≤ 268435456 := by

      generalize (dn Z W - s) * dn Z W = D at *

      generalize r * upw Z W + upw X Y * s = N at *

      refine ⟨by rw [Int.le_ediv_iff_mul_le f4.1]; omega, ?_⟩

      have : N / D < 268435457 := by rw [Int.ediv_lt_iff_lt_mul f4.1]; omega

      omega

    have q1 := scaledUp_r (n := r * upw Z W + upw X Y * s) (d := (dn Z W - s) * dn Z W) (by omega) (by omega) hg

    have c1 : 0 ≤ cdiv ((r * upw Z W + upw X Y * s) * 1048576) ((dn Z W - s) * dn Z W) ∧ cdiv ((r * upw Z W + upw X Y * s) * 1048576) ((dn Z W - s) * dn Z W) ≤ 4611686018427387904 := by

      have e := cdiv_spec' ((r * upw Z W + upw X Y * s) * 1048576) f4.1

      generalize (dn Z W - s) * dn Z W = D at *

      generalize r * upw Z W + upw X Y * s = N at *

      constructor

      · rcases Int.lt_or_le (cdiv (N * 1048576) D) 0 with h | h

        · have : D * cdiv (N * 1048576) D ≤ D * (-1) := Int.mul_le_mul_of_nonneg_left (by omega) (by omega)

          omega

        · exact h

      · rcases Int.lt_or_le 4611686018427387904 (cdiv (N * 1048576) D) with h | h

        · have : D * 4611686018427387904 ≤ D * (cdiv (N * 1048576) D - 1) := Int.mul_le_mul_of_nonneg_left (by omega) (by omega)

          omega

        · exact h

    have hq : quotQ X Y r Z W s = bk _ _ _ := if_neg hl

    refine BqI.out (rqu hx hy hr hz hw hs (R := BqI _) ⟨_, t0, ⟨d2.1, by omega⟩, fun h9 => absurd (of_decide_eq_true h9) (by omega), fun _ => ?_⟩)

    rw [k1, k2]

    refine ⟨_, _, n1, _, _, n2, _, t2, ⟨u2.1, by omega⟩, _, t1, ⟨u1.1, by omega⟩, _, q1, c1, ?_⟩

    clear n1 n2 q1 hg bq f1 f2 f3 f4 f5 f6 f7 f8 k1 k2

    generalize quotQ X Y r Z W s = Q at *

    generalize wholeB (qn1 X Y Z W * 1048576) (Z * Z + W * W) = w1 at *

    generalize wholeB (qn2 X Y Z W * 1048576) (Z * Z + W * W) = w2 at *

    generalize rdiv (qn1 X Y Z W * 1048576) _ = A at *

    generalize rdiv (qn2 X Y Z W * 1048576) _ = B at *

    generalize cdiv _ _ = C at *

    have k : ∀ x, mo w1 w2 x = if w1 = true ∧ w2 = true then x else x + 1 := fun _ => rfl

    rw [k] at hq

    have g1 := checked_r (x := A) (y := B) (r := C) (by omega) (by omega) (by omega) (by omega)

    have g2 := checked_r (x := A) (y := B) (r := C + 1) (by omega) (by omega) (by omega) (by omega)

    cases w1 <;> cases w2

    all_goals (simp only [Bool.not_true, Bool.not_false, reduceCtorEq, and_self, and_true, true_and, and_false, false_and, if_true, if_false, false_implies, true_implies, Bool.false_eq_true, Bool.true_eq_false] at hq ⊢)

    all_goals (subst hq; first | exact ⟨_, _, _, _, g1, rfl, rfl, rfl, rfl⟩ | exact ⟨_, _, _, _, g2, rfl, rfl, rfl, rfl⟩)

end Go.Proofs.Ytgdlddmbfockpaa.Ev
