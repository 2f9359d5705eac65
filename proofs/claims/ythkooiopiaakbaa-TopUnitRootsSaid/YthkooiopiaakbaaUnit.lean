/- Unit of the program: its walks. -/
import Derived.Test.YthkooiopiaakbaaDirc
namespace Go.Proofs.Ythkooiopiaakbaa
open Go.RowKit Go.Lib
attribute [local go_sem] run_store_float run_store_complex
set_option linter.unusedVariables false
set_option maxRecDepth 100000 in
set_option maxHeartbeats 2000000 in
theorem Unit_ok {n d c lo hi : Int} {za zb : Nat} {zr ze : Int} (hc : c = 0)
    (HC : Hid (∀ w, Calls Try.prog 76 #[.int .i64 n, .int .i64 d] w (Quiet (.int .i64 c) w)))
    (HL : Hid (∀ w, Calls Try.prog 73 #[.int .i64 n, .int .i64 4194304, .int .i64 d] w (Quiet (.int .i64 lo) w)))
    (HU : Hid (∀ w, Calls Try.prog 100 #[.int .i64 n, .int .i64 4194304, .int .i64 d] w (Quiet (.int .i64 hi) w)))
    (HA : Hid (∀ w, Calls Try.prog 126 #[.agg #[.int .i64 lo, .int .i64 hi]] w (Mem (balV za zb zr ze) w))) (w : World) :
    Calls Try.prog 60 #[.int .i64 n, .int .i64 d] w (Mem (balV za zb zr ze) w) := by
  subst hc
  unfold balV at *
  go_enter Try.func60, Try.ntmps60
  go_wp2_with fail
  have K := (Hold.start w).new #[.complex .f64 0 0, .int .i64 0] 27 (n := w.heap.size) (by simp)
  refine (quiet_mem (HC.out _)).mono ?_
  rintro e_1 w1 ⟨rfl, hb⟩
  have K' := Hold.mem (K) hb
  clear hb K
  have K := K'
  clear K'
  obtain ⟨_, sz1, h0, _⟩ := id K
  have q0 := h0.cell; have f0 := h0.frozen; have z1_0 := h0.lt
  clear h0
  go_wp2_with fail
  refine (quiet_mem (HL.out _)).mono ?_
  rintro e_2 w2 ⟨rfl, hb⟩
  have K' := Hold.mem (K) hb
  clear hb K
  have K := K'
  clear K'
  clear q0 f0
  obtain ⟨_, sz2, h0, _⟩ := id K
  have q0 := h0.cell; have f0 := h0.frozen; have z2_0 := h0.lt
  clear h0
  go_wp2_with fail
  refine (quiet_mem (HU.out _)).mono ?_
  rintro e_3 w3 ⟨rfl, hb⟩
  have K' := Hold.mem (K) hb
  clear hb K
  have K := K'
  clear K'
  clear q0 f0
  obtain ⟨_, sz3, h0, _⟩ := id K
  have q0 := h0.cell; have f0 := h0.frozen; have z3_0 := h0.lt
  clear h0
  go_wp2_with fail
  refine (HA.out _).mono ?_
  rintro e_4 w4 ⟨rfl, hb⟩
  have K' := Hold.mem (K) hb
  clear hb K
  have K := K'
  clear K'
  clear q0 f0
  obtain ⟨_, sz4, h0, _⟩ := id K
  have q0 := h0.cell; have f0 := h0.frozen; have z4_0 := h0.lt
  clear h0
  go_wp2_with fail
  refine bodyPost_ret (v := .tuple #[.agg #[.complex .f64 za zb, .int .i64 zr], .int .i64 ze]) (by simp [results, Try.results60, go_sem, *]) rfl ⟨rfl, ?_⟩
  repeat (first | exact K.below | refine Below.setCell ?_ (by simp <;> omega) _ | refine Below.alloc ?_ (by first | exact K.size | (simp <;> omega)) _)

set_option maxHeartbeats 2000000 in
theorem Unit_bad {n d c : Int} (hc : ¬ c = 0)
    (HC : Hid (∀ w, Calls Try.prog 76 #[.int .i64 n, .int .i64 d] w (Quiet (.int .i64 c) w))) (w : World) :
    Calls Try.prog 60 #[.int .i64 n, .int .i64 d] w (Mem (balV 0 0 0 c) w) := by
  have hb0 : (c == 0) = false := by simpa using hc
  have hb1 : (c != 0) = true := by simpa using hc
  clear hc
  unfold balV at *
  go_enter Try.func60, Try.ntmps60
  go_wp2_with fail
  have K := (Hold.start w).new #[.complex .f64 0 0, .int .i64 0] 27 (n := w.heap.size) (by simp)
  refine (quiet_mem (HC.out _)).mono ?_
  rintro e_1 w1 ⟨rfl, hb⟩
  have K' := Hold.mem (K) hb
  clear hb K
  have K := K'
  clear K'
  obtain ⟨_, sz1, h0, _⟩ := id K
  have q0 := h0.cell; have f0 := h0.frozen; have z1_0 := h0.lt
  clear h0
  go_wp2_with fail
  refine bodyPost_ret (v := .tuple #[.agg #[.complex .f64 0 0, .int .i64 0], .int .i64 c]) (by simp [results, Try.results60, go_sem, *]) rfl ⟨rfl, ?_⟩
  repeat (first | exact K.below | refine Below.setCell ?_ (by simp <;> omega) _ | refine Below.alloc ?_ (by first | exact K.size | (simp <;> omega)) _)

end Go.Proofs.Ythkooiopiaakbaa
