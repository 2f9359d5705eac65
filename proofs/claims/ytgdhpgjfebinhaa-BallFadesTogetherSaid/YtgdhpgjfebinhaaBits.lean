/- The contract of Nearest of package whole, in this program's numbers. -/
import Derived.Test.YtgdhpgjfebinhaaBita

namespace Go.Proofs.Ytgdhpgjfebinhaa
open Go.RowKit Go.Lib

set_option maxHeartbeats 400000 in
theorem nearest_any (x y d : Int) (h : Hid (DvIn x y d)) (w : World) : Calls Try.prog 130 #[.int .i64 x, .int .i64 y, .int .i64 d] w (Quiet (.tuple #[.int .i64 (rdiv (x * y) d), .bool (wholeB (x * y) d)]) w) := by
  obtain ⟨b1, b2, b3, b4⟩ := div_bd h.out
  have hd : 0 < d := h.out.2.2.2.2.1
  have hd2 : d ≤ 4611686018427387904 := h.out.2.2.2.2.2.1
  have HE := Lib.hid (rdiv_eq (x * y) hd)
  by_cases hr : d - x * y % d ≤ x * y % d
  · go_enter Try.func130, Try.ntmps130
    go_wp2_with fail
    refine (divided_any x y d h _).mono ?_
    rintro e w' ⟨rfl, n, rfl⟩
    unfold dv
    go_wp2_with fail
    go_ret2
    rw [HE.out, if_pos hr]
    exact ⟨rfl, _, rfl⟩
  · go_enter Try.func130, Try.ntmps130
    go_wp2_with fail
    refine (divided_any x y d h _).mono ?_
    rintro e w' ⟨rfl, n, rfl⟩
    unfold dv
    go_wp2_with fail
    go_ret2
    rw [HE.out, if_neg (by omega)]
    exact ⟨by simp [wholeB], _, rfl⟩

end Go.Proofs.Ytgdhpgjfebinhaa
