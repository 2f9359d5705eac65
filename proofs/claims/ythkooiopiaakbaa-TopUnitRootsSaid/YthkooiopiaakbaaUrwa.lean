/- The statement on unit numbers that are roots of one: its walks. -/
import Derived.Test.YthkooiopiaakbaaBald
namespace Go.Proofs.Ythkooiopiaakbaa
open Go.RowKit Go.Lib
attribute [local go_sem] run_store_float run_store_complex
set_option linter.unusedVariables false

set_option maxRecDepth 100000 in
set_option maxHeartbeats 600000 in
theorem ur_n {n k : Int}
    (W0 : Hid (∀ w, Calls Try.prog 31 #[.int .i64 n, .int .i64 2, .int .i64 40] w (Mem (.bool false) w))) (w : World) :
    Calls Try.prog 16 #[.int .i64 n, .int .i64 k] w (Mem (.bool true) w) := by
  have HA := Lib.hid (fun w => balled_any w)
  go_enter Try.func16, Try.ntmps16
  go_wp2_with fail
  have K := Hold.start w
  refine (HA.out _).mono ?_
  rintro e_1 w1 ⟨rfl, hb⟩
  have K' := Hold.mem (K) hb
  clear hb K
  have K := K'
  clear K'
  have sz1 := K.size
  go_wp2_with fail
  refine (W0.out _).mono ?_
  rintro e_2 w2 ⟨rfl, hb⟩
  have K' := Hold.mem (K) hb
  clear hb K
  have K := K'
  clear K'
  clear sz1
  have sz2 := K.size
  go_wp2_with fail
  go_ret
  exact ⟨rfl, (K).below⟩

set_option maxRecDepth 100000 in
set_option maxHeartbeats 600000 in
theorem ur_k {n k n1 : Int}
    (W0 : Hid (∀ w, Calls Try.prog 31 #[.int .i64 n, .int .i64 2, .int .i64 40] w (Mem (.bool true) w)))
    (v0 : IntKind.i64.wrap (n - 1) = n1)
    (W1 : Hid (∀ w, Calls Try.prog 31 #[.int .i64 k, .int .i64 0, .int .i64 n1] w (Mem (.bool false) w))) (w : World) :
    Calls Try.prog 16 #[.int .i64 n, .int .i64 k] w (Mem (.bool true) w) := by
  have HA := Lib.hid (fun w => balled_any w)
  go_enter Try.func16, Try.ntmps16
  go_wp2_with fail
  have K := Hold.start w
  refine (HA.out _).mono ?_
  rintro e_1 w1 ⟨rfl, hb⟩
  have K' := Hold.mem (K) hb
  clear hb K
  have K := K'
  clear K'
  have sz1 := K.size
  go_wp2_with fail
  refine (W0.out _).mono ?_
  rintro e_2 w2 ⟨rfl, hb⟩
  have K' := Hold.mem (K) hb
  clear hb K
  have K := K'
  clear K'
  clear sz1
  have sz2 := K.size
  go_wp2_with fail
  refine (W1.out _).mono ?_
  rintro e_3 w3 ⟨rfl, hb⟩
  have K' := Hold.mem (K) hb
  clear hb K
  have K := K'
  clear K'
  clear sz2
  have sz3 := K.size
  go_wp2_with fail
  go_ret
  exact ⟨rfl, (K).below⟩

end Go.Proofs.Ythkooiopiaakbaa
