/- Whether a ball is near, and whether a ball has a number, as the statement on what balls hold asks it. -/
import Derived.Test.YthkooiopiaakbaaMix
import Derived.Test.YthkooiopiaakbaaHold
import Derived.Test.YthkooiopiaakbaaWhoc
import Derived.Test.YthkooiopiaakbaaHld
namespace Go.Proofs.Ythkooiopiaakbaa
open Go.RowKit Go.Lib
attribute [local go_sem] run_store_float run_store_complex
set_option linter.unusedVariables false

theorem within_mem (n lo hi : Int) (w : World) : Calls Try.prog 31 #[.int .i64 n, .int .i64 lo, .int .i64 hi] w (Mem (.bool (wiB n lo hi)) w) :=
  (Within_any n lo hi w).mono fun _ _ ⟨he, hw⟩ => ⟨he, hw ▸ Below.refl _ _⟩

set_option maxHeartbeats 1000000 in
theorem near_0 {x y r : Int}
    (W0 : Hid (∀ w, Calls Try.prog 31 #[.int .i64 x, .int .i64 (-4194304), .int .i64 4194304] w (Mem (.bool false) w))) (w : World) : Calls Try.prog 47 #[.agg #[.int .i64 x, .int .i64 y, .int .i64 r]] w (Mem (.bool false) w) := by
  go_enter Try.func47, Try.ntmps47
  go_wp2_with fail
  have K := (Hold.start w).new #[.int .i64 x, .int .i64 y, .int .i64 r] 39 (n := w.heap.size) (by simp)
  obtain ⟨_, sz1, h0, _⟩ := id K
  have q0 := h0.cell; have f0 := h0.frozen; have z0 := h0.lt
  clear h0
  refine (W0.out _).mono ?_
  rintro e_1 w1 ⟨rfl, hb⟩
  have K' := Hold.mem (K) hb
  clear hb K
  have K := K'
  clear K'
  clear q0 f0 z0 sz1
  obtain ⟨_, sz2, h0, _⟩ := id K
  have q0 := h0.cell; have f0 := h0.frozen; have z0 := h0.lt
  clear h0
  go_wp2_with fail
  go_ret
  exact ⟨rfl, (K).below⟩

set_option maxHeartbeats 1000000 in
theorem near_1 {x y r : Int}
    (W0 : Hid (∀ w, Calls Try.prog 31 #[.int .i64 x, .int .i64 (-4194304), .int .i64 4194304] w (Mem (.bool true) w)))
    (W1 : Hid (∀ w, Calls Try.prog 31 #[.int .i64 y, .int .i64 (-4194304), .int .i64 4194304] w (Mem (.bool false) w))) (w : World) : Calls Try.prog 47 #[.agg #[.int .i64 x, .int .i64 y, .int .i64 r]] w (Mem (.bool false) w) := by
  go_enter Try.func47, Try.ntmps47
  go_wp2_with fail
  have K := (Hold.start w).new #[.int .i64 x, .int .i64 y, .int .i64 r] 39 (n := w.heap.size) (by simp)
  obtain ⟨_, sz1, h0, _⟩ := id K
  have q0 := h0.cell; have f0 := h0.frozen; have z0 := h0.lt
  clear h0
  refine (W0.out _).mono ?_
  rintro e_1 w1 ⟨rfl, hb⟩
  have K' := Hold.mem (K) hb
  clear hb K
  have K := K'
  clear K'
  clear q0 f0 z0 sz1
  obtain ⟨_, sz2, h0, _⟩ := id K
  have q0 := h0.cell; have f0 := h0.frozen; have z0 := h0.lt
  clear h0
  go_wp2_with fail
  refine (W1.out _).mono ?_
  rintro e_2 w2 ⟨rfl, hb⟩
  have K' := Hold.mem (K) hb
  clear hb K
  have K := K'
  clear K'
  clear q0 f0 z0 sz2
  obtain ⟨_, sz3, h0, _⟩ := id K
  have q0 := h0.cell; have f0 := h0.frozen; have z0 := h0.lt
  clear h0
  go_wp2_with fail
  go_ret
  exact ⟨rfl, (K).below⟩

set_option maxHeartbeats 1000000 in
theorem near_2 {x y r : Int}
    (W0 : Hid (∀ w, Calls Try.prog 31 #[.int .i64 x, .int .i64 (-4194304), .int .i64 4194304] w (Mem (.bool true) w)))
    (W1 : Hid (∀ w, Calls Try.prog 31 #[.int .i64 y, .int .i64 (-4194304), .int .i64 4194304] w (Mem (.bool true) w)))
    (W2 : Hid (∀ w, Calls Try.prog 31 #[.int .i64 r, .int .i64 0, .int .i64 100] w (Mem (.bool false) w))) (w : World) : Calls Try.prog 47 #[.agg #[.int .i64 x, .int .i64 y, .int .i64 r]] w (Mem (.bool false) w) := by
  go_enter Try.func47, Try.ntmps47
  go_wp2_with fail
  have K := (Hold.start w).new #[.int .i64 x, .int .i64 y, .int .i64 r] 39 (n := w.heap.size) (by simp)
  obtain ⟨_, sz1, h0, _⟩ := id K
  have q0 := h0.cell; have f0 := h0.frozen; have z0 := h0.lt
  clear h0
  refine (W0.out _).mono ?_
  rintro e_1 w1 ⟨rfl, hb⟩
  have K' := Hold.mem (K) hb
  clear hb K
  have K := K'
  clear K'
  clear q0 f0 z0 sz1
  obtain ⟨_, sz2, h0, _⟩ := id K
  have q0 := h0.cell; have f0 := h0.frozen; have z0 := h0.lt
  clear h0
  go_wp2_with fail
  refine (W1.out _).mono ?_
  rintro e_2 w2 ⟨rfl, hb⟩
  have K' := Hold.mem (K) hb
  clear hb K
  have K := K'
  clear K'
  clear q0 f0 z0 sz2
  obtain ⟨_, sz3, h0, _⟩ := id K
  have q0 := h0.cell; have f0 := h0.frozen; have z0 := h0.lt
  clear h0
  go_wp2_with fail
  refine (W2.out _).mono ?_
  rintro e_3 w3 ⟨rfl, hb⟩
  have K' := Hold.mem (K) hb
  clear hb K
  have K := K'
  clear K'
  clear q0 f0 z0 sz3
  obtain ⟨_, sz4, h0, _⟩ := id K
  have q0 := h0.cell; have f0 := h0.frozen; have z0 := h0.lt
  clear h0
  go_wp2_with fail
  go_ret
  exact ⟨rfl, (K).below⟩

set_option maxHeartbeats 1000000 in
theorem near_3 {x y r : Int}
    (W0 : Hid (∀ w, Calls Try.prog 31 #[.int .i64 x, .int .i64 (-4194304), .int .i64 4194304] w (Mem (.bool true) w)))
    (W1 : Hid (∀ w, Calls Try.prog 31 #[.int .i64 y, .int .i64 (-4194304), .int .i64 4194304] w (Mem (.bool true) w)))
    (W2 : Hid (∀ w, Calls Try.prog 31 #[.int .i64 r, .int .i64 0, .int .i64 100] w (Mem (.bool true) w))) (w : World) : Calls Try.prog 47 #[.agg #[.int .i64 x, .int .i64 y, .int .i64 r]] w (Mem (.bool true) w) := by
  go_enter Try.func47, Try.ntmps47
  go_wp2_with fail
  have K := (Hold.start w).new #[.int .i64 x, .int .i64 y, .int .i64 r] 39 (n := w.heap.size) (by simp)
  obtain ⟨_, sz1, h0, _⟩ := id K
  have q0 := h0.cell; have f0 := h0.frozen; have z0 := h0.lt
  clear h0
  refine (W0.out _).mono ?_
  rintro e_1 w1 ⟨rfl, hb⟩
  have K' := Hold.mem (K) hb
  clear hb K
  have K := K'
  clear K'
  clear q0 f0 z0 sz1
  obtain ⟨_, sz2, h0, _⟩ := id K
  have q0 := h0.cell; have f0 := h0.frozen; have z0 := h0.lt
  clear h0
  go_wp2_with fail
  refine (W1.out _).mono ?_
  rintro e_2 w2 ⟨rfl, hb⟩
  have K' := Hold.mem (K) hb
  clear hb K
  have K := K'
  clear K'
  clear q0 f0 z0 sz2
  obtain ⟨_, sz3, h0, _⟩ := id K
  have q0 := h0.cell; have f0 := h0.frozen; have z0 := h0.lt
  clear h0
  go_wp2_with fail
  refine (W2.out _).mono ?_
  rintro e_3 w3 ⟨rfl, hb⟩
  have K' := Hold.mem (K) hb
  clear hb K
  have K := K'
  clear K'
  clear q0 f0 z0 sz3
  obtain ⟨_, sz4, h0, _⟩ := id K
  have q0 := h0.cell; have f0 := h0.frozen; have z0 := h0.lt
  clear h0
  go_wp2_with fail
  go_ret
  exact ⟨rfl, (K).below⟩

def nearW (x y r : Int) : Bool := wiB x (-4194304) 4194304 && (wiB y (-4194304) 4194304 && wiB r 0 100)
theorem near_whole (x y r : Int) (w : World) : Calls Try.prog 47 #[.agg #[.int .i64 x, .int .i64 y, .int .i64 r]] w (Mem (.bool (nearW x y r)) w) := by
  have W0 := fun w => within_mem x (-4194304) 4194304 w
  have W1 := fun w => within_mem y (-4194304) 4194304 w
  have W2 := fun w => within_mem r 0 100 w
  unfold nearW
  generalize wiB x (-4194304) 4194304 = a at *
  generalize wiB y (-4194304) 4194304 = b at *
  generalize wiB r 0 100 = c at *
  cases a
  · exact near_0 (Lib.hid W0) w
  · cases b
    · exact near_1 (Lib.hid W0) (Lib.hid W1) w
    · cases c
      · exact near_2 (Lib.hid W0) (Lib.hid W1) (Lib.hid W2) w
      · exact near_3 (Lib.hid W0) (Lib.hid W1) (Lib.hid W2) w

set_option maxRecDepth 100000 in
set_option maxHeartbeats 2000000 in
theorem holds_far {x y b X Y r : Int} {fa fb : Nat} (hr : 2000 < r)
    (CK : Hid (∀ w, Calls Try.prog 70 #[.agg #[.complex .f64 fa fb, .int .i64 r]] w (Mem (.int .i64 0) w)))
    (OF : Hid (∀ w, Calls Try.prog 30 #[.agg #[.complex .f64 fa fb, .int .i64 r]] w (Mem (.agg #[.int .i64 X, .int .i64 Y, .int .i64 r]) w))) (w : World) : Calls Try.prog 48 #[.agg #[.complex .f64 fa fb, .int .i64 r], .int .i64 x, .int .i64 y, .int .i64 b] w (Mem (.bool true) w) := by
  have hq : decide (2000 < r) = true := by simp; omega
  clear hr
  go_enter Try.func48, Try.ntmps48
  go_wp2_with fail
  have K := (Hold.start w).new #[.complex .f64 fa fb, .int .i64 r] 27 (n := w.heap.size) (by simp)
  refine (CK.out _).mono ?_
  rintro e_1 w1 ⟨rfl, hb⟩
  have K' := Hold.mem (K) hb
  clear hb K
  have K := K'
  clear K'
  obtain ⟨_, sz1, h0, _⟩ := id K
  have q0 := h0.cell; have f0 := h0.frozen; have z0 := h0.lt
  clear h0
  go_wp2_with fail
  refine (OF.out _).mono ?_
  rintro e_2 w2 ⟨rfl, hb⟩
  have K' := Hold.mem (K) hb
  clear hb K
  have K := K'
  clear K'
  clear q0 f0 z0 sz1
  obtain ⟨_, sz2, _, _⟩ := id K
  go_wp2_with fail
  go_ret
  exact ⟨rfl, ((K).new #[.int .i64 X, .int .i64 Y, .int .i64 r] 33 (n := w2.heap.size) (by first | rfl | (simp <;> omega))).below⟩

set_option maxRecDepth 100000 in
set_option maxHeartbeats 2000000 in
theorem holds_near {x y b X Y r m1 m2 m3 dx dy sq1 sq2 : Int} {fa fb : Nat} (hr : r ≤ 2000) (e1 : X * b = m1) (e2 : Y * b = m2) (e3 : r * b = m3) (d1 : x - m1 = dx) (d2 : y - m2 = dy) (s1 : dx * dx + dy * dy = sq1) (s2 : m3 * m3 = sq2) (hs : sq1 ≤ sq2)
    (b1 : Sm 4611686018427387904 m1) (b2 : Sm 4611686018427387904 m2) (b3 : Sm 4611686018427387904 m3) (b4 : Sm 4611686018427387904 dx) (b5 : Sm 4611686018427387904 dy) (b6 : Sm 4611686018427387904 sq1) (b7 : Sm 4611686018427387904 sq2) (b8 : Sm 4611686018427387904 (dx * dx)) (b9 : Sm 4611686018427387904 (dy * dy))
    (CK : Hid (∀ w, Calls Try.prog 70 #[.agg #[.complex .f64 fa fb, .int .i64 r]] w (Mem (.int .i64 0) w)))
    (OF : Hid (∀ w, Calls Try.prog 30 #[.agg #[.complex .f64 fa fb, .int .i64 r]] w (Mem (.agg #[.int .i64 X, .int .i64 Y, .int .i64 r]) w)))
    (W1 : Hid (∀ w, Calls Try.prog 31 #[.int .i64 dx, .int .i64 (-m3), .int .i64 m3] w (Mem (.bool true) w)))
    (W2 : Hid (∀ w, Calls Try.prog 31 #[.int .i64 dy, .int .i64 (-m3), .int .i64 m3] w (Mem (.bool true) w))) (w : World) : Calls Try.prog 48 #[.agg #[.complex .f64 fa fb, .int .i64 r], .int .i64 x, .int .i64 y, .int .i64 b] w (Mem (.bool true) w) := by
  obtain ⟨b1, c1⟩ := b1; obtain ⟨b2, c2⟩ := b2; obtain ⟨b3, c3⟩ := b3; obtain ⟨b4, c4⟩ := b4; obtain ⟨b5, c5⟩ := b5; obtain ⟨b6, c6⟩ := b6; obtain ⟨b7, c7⟩ := b7; obtain ⟨b8, c8⟩ := b8; obtain ⟨b9, c9⟩ := b9
  have v0 : IntKind.i64.wrap (X * b) = m1 := by rw [e1]; exact IntWalk.i64_in _ (by constructor <;> omega)
  have v1 : IntKind.i64.wrap (Y * b) = m2 := by rw [e2]; exact IntWalk.i64_in _ (by constructor <;> omega)
  have v2 : IntKind.i64.wrap (r * b) = m3 := by rw [e3]; exact IntWalk.i64_in _ (by constructor <;> omega)
  have v3 : IntKind.i64.wrap (x - m1) = dx := by rw [d1]; exact IntWalk.i64_in _ (by constructor <;> omega)
  have v4 : IntKind.i64.wrap (y - m2) = dy := by rw [d2]; exact IntWalk.i64_in _ (by constructor <;> omega)
  have v5 : IntKind.i64.wrap (dx * dx) = dx * dx := by exact IntWalk.i64_in _ (by constructor <;> omega)
  have v6 : IntKind.i64.wrap (dy * dy) = dy * dy := by exact IntWalk.i64_in _ (by constructor <;> omega)
  have v7 : IntKind.i64.wrap (dx * dx + dy * dy) = sq1 := by rw [s1]; exact IntWalk.i64_in _ (by constructor <;> omega)
  have v8 : IntKind.i64.wrap (m3 * m3) = sq2 := by rw [s2]; exact IntWalk.i64_in _ (by constructor <;> omega)
  have v9 : IntKind.i64.wrap (-m3) = -m3 := by exact IntWalk.i64_in _ (by constructor <;> omega)
  have hd : decide (sq1 ≤ sq2) = true := by simpa using hs
  clear hs e1 e2 e3 d1 d2 s1 s2 b1 b2 b3 b4 b5 b6 b7 b8 b9 c1 c2 c3 c4 c5 c6 c7 c8 c9
  have hq : decide (2000 < r) = false := by simp; omega
  clear hr
  go_enter Try.func48, Try.ntmps48
  go_wp2_with fail
  have K := (Hold.start w).new #[.complex .f64 fa fb, .int .i64 r] 27 (n := w.heap.size) (by simp)
  refine (CK.out _).mono ?_
  rintro e_1 w1 ⟨rfl, hb⟩
  have K' := Hold.mem (K) hb
  clear hb K
  have K := K'
  clear K'
  obtain ⟨_, sz1, h0, _⟩ := id K
  have q0 := h0.cell; have f0 := h0.frozen; have z0 := h0.lt
  clear h0
  go_wp2_with fail
  refine (OF.out _).mono ?_
  rintro e_2 w2 ⟨rfl, hb⟩
  have K' := Hold.mem (K) hb
  clear hb K
  have K := K'
  clear K'
  clear q0 f0 z0 sz1
  obtain ⟨_, sz2, _, _⟩ := id K
  go_wp2_with fail
  clear sz2
  have K' := (K).new #[.int .i64 X, .int .i64 Y, .int .i64 r] 33 (n := w2.heap.size) (by first | rfl | (simp <;> omega))
  clear K
  have K := K'
  clear K'
  obtain ⟨_, sz3, h0, h1, _⟩ := id K
  have z3_0 := h0.lt; have z3_1 := h1.lt
  clear h0 h1
  have hne : Hid (∃ w', Hold w.heap.size w [(w2.heap.size, #[.int .i64 X, .int .i64 Y, .int .i64 r]), (w.heap.size, #[.complex .f64 fa fb, .int .i64 r])] w') := ⟨_, K.drew⟩
  refine wp_region_mix (Hold w.heap.size w [(w2.heap.size, #[.int .i64 X, .int .i64 Y, .int .i64 r]), (w.heap.size, #[.complex .f64 fa fb, .int .i64 r])]) 19 [] rfl (by decide) (by kernel_rfl) (by kernel_rfl) (Hold.lasting _ _ _) K.drew (fun x hx => by cases hx) ?_
  simp only [List.take_succ_cons, List.take_zero, List.drop_succ_cons, List.drop_zero, List.length_cons, List.length_nil, List.take_nil, List.drop_nil]
  clear K
  repeat (first
    | (refine calm_skip (by rfl) ?_; simp only [Act.put, List.setIfInBounds_toArray, List.set_cons_zero, List.set_cons_succ])
    | (refine calm_step hne.out (by rfl) rfl (by simp) ?_; apply Exists.intro; refine ⟨?_, ?_⟩
       · (intro r _ K hK; go_big_quiet_op; first
          | exact hK
          | (apply Exists.intro; refine ⟨fun _ hw => ?_, ?_⟩; (first
             | with_reducible exact rfl
             | (obtain ⟨_, _, h0, h1, _⟩ := hw.s; have q0 := h0.cell; have q1 := h1.cell; clear h0 h1; simp [q0, q1, go_sem]; exact rfl)); exact hK))))
  refine wpCalm_nil ?_
  try simp only [Fin]
  intro  w3 K hx
  clear hne
  clear hx
  try simp only [Act.put, List.setIfInBounds_toArray, List.set_cons_zero, List.set_cons_succ]
  obtain ⟨_, sz4, _, _, _⟩ := id K
  go_wp2_with fail
  refine (W1.out _).mono ?_
  rintro e_4 w4 ⟨rfl, hb⟩
  have K' := Hold.mem (K) hb
  clear hb K
  have K := K'
  clear K'
  clear sz4
  obtain ⟨_, sz5, _, _, _⟩ := id K
  go_wp2_with fail
  refine (W2.out _).mono ?_
  rintro e_5 w5 ⟨rfl, hb⟩
  have K' := Hold.mem (K) hb
  clear hb K
  have K := K'
  clear K'
  clear sz5
  obtain ⟨_, sz6, _, _, _⟩ := id K
  go_wp2_with fail
  go_ret
  exact ⟨rfl, (K).below⟩

end Go.Proofs.Ythkooiopiaakbaa
