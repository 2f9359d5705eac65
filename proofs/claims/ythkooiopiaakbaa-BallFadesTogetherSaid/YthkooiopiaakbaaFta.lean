/- The statement on what fades together answers true: its walks. -/
import Derived.Test.YthkooiopiaakbaaBald
import Derived.Test.YthkooiopiaakbaaFadq
namespace Go.Proofs.Ythkooiopiaakbaa
open Go.RowKit Go.Lib
attribute [local go_sem] run_store_float run_store_complex
set_option linter.unusedVariables false

set_option maxRecDepth 100000 in
set_option maxHeartbeats 1000000 in
theorem ft_1 {p q : Int}
    (W1 : Hid (∀ w, Calls Try.prog 31 #[.int .i64 p, .int .i64 0, .int .i64 10000000] w (Mem (.bool false) w))) (w : World) :
    Calls Try.prog 13 #[.int .i64 p, .int .i64 q] w (Mem (.bool true) w) := by
  have HA := Lib.hid (fun w => awake_any w)
  go_enter Try.func13, Try.ntmps13
  go_wp2_with fail
  have K := Hold.start w
  refine (HA.out _).mono ?_
  rintro e_1 w1 ⟨rfl, hb⟩
  have K' := Hold.mem (K) hb
  clear hb K
  have K := K'
  clear K'
  have sz1 := K.size
  go_wp2_with fail
  refine (W1.out _).mono ?_
  rintro e_2 w2 ⟨rfl, hb⟩
  have K' := Hold.mem (K) hb
  clear hb K
  have K := K'
  clear K'
  clear sz1
  have sz2 := K.size
  go_wp2_with fail
  go_ret
  exact ⟨rfl, (K).below⟩

set_option maxRecDepth 100000 in
set_option maxHeartbeats 1000000 in
theorem ft_2 {p q : Int}
    (W1 : Hid (∀ w, Calls Try.prog 31 #[.int .i64 p, .int .i64 0, .int .i64 10000000] w (Mem (.bool true) w)))
    (W2 : Hid (∀ w, Calls Try.prog 31 #[.int .i64 q, .int .i64 0, .int .i64 10000000] w (Mem (.bool false) w))) (w : World) :
    Calls Try.prog 13 #[.int .i64 p, .int .i64 q] w (Mem (.bool true) w) := by
  have HA := Lib.hid (fun w => awake_any w)
  go_enter Try.func13, Try.ntmps13
  go_wp2_with fail
  have K := Hold.start w
  refine (HA.out _).mono ?_
  rintro e_1 w1 ⟨rfl, hb⟩
  have K' := Hold.mem (K) hb
  clear hb K
  have K := K'
  clear K'
  have sz1 := K.size
  go_wp2_with fail
  refine (W1.out _).mono ?_
  rintro e_2 w2 ⟨rfl, hb⟩
  have K' := Hold.mem (K) hb
  clear hb K
  have K := K'
  clear K'
  clear sz1
  have sz2 := K.size
  go_wp2_with fail
  refine (W2.out _).mono ?_
  rintro e_3 w3 ⟨rfl, hb⟩
  have K' := Hold.mem (K) hb
  clear hb K
  have K := K'
  clear K'
  clear sz2
  have sz3 := K.size
  go_wp2_with fail
  go_ret
  exact ⟨rfl, (K).below⟩

set_option maxRecDepth 100000 in
set_option maxHeartbeats 1000000 in
theorem ft_le {p q s mi ma aL aH bL bH cL cH dL dH c1 c2 h1 l1 mH : Int}
    (W1 : Hid (∀ w, Calls Try.prog 31 #[.int .i64 p, .int .i64 0, .int .i64 10000000] w (Mem (.bool true) w)))
    (W2 : Hid (∀ w, Calls Try.prog 31 #[.int .i64 q, .int .i64 0, .int .i64 10000000] w (Mem (.bool true) w)))
    (FA : Hid (∀ w, Calls Try.prog 65 #[.agg #[.int .i64 p, .int .i64 p]] w (Mem (.tuple #[.agg #[.int .i64 aL, .int .i64 aH], .int .i64 0]) w)))
    (FB : Hid (∀ w, Calls Try.prog 65 #[.agg #[.int .i64 q, .int .i64 q]] w (Mem (.tuple #[.agg #[.int .i64 bL, .int .i64 bH], .int .i64 0]) w)))
    (v0 : IntKind.i64.wrap (p + q) = s)
    (FC : Hid (∀ w, Calls Try.prog 65 #[.agg #[.int .i64 s, .int .i64 s]] w (Mem (.tuple #[.agg #[.int .i64 cL, .int .i64 cH], .int .i64 0]) w)))
    (mn : (if p < q then p else q) = mi)
    (mn2 : (if q < p then q else p) = mi)
    (mx : (if p < q then q else p) = ma)
    (FD : Hid (∀ w, Calls Try.prog 65 #[.agg #[.int .i64 mi, .int .i64 ma]] w (Mem (.tuple #[.agg #[.int .i64 dL, .int .i64 dH], .int .i64 0]) w)))
    (WA : Hid (∀ w, Calls Try.prog 31 #[.int .i64 aL, .int .i64 0, .int .i64 aH] w (Mem (.bool true) w)))
    (WB : Hid (∀ w, Calls Try.prog 31 #[.int .i64 bL, .int .i64 0, .int .i64 bH] w (Mem (.bool true) w)))
    (gA : decide (1048576 < aH) = false)
    (gB : decide (1048576 < bH) = false)
    (v1 : IntKind.i64.wrap (cL * 1048576) = c1)
    (v2 : IntKind.i64.wrap (aH * bH) = h1)
    (g1 : decide (h1 < c1) = false)
    (v3 : IntKind.i64.wrap (aL * bL) = l1)
    (v4 : IntKind.i64.wrap (cH * 1048576) = c2)
    (g2 : decide (c2 < l1) = false)
    (gs : decide (q < p) = false)
    (e1 : (dL == bL) = true)
    (e2 : (dH == aH) = true)
    (mh : (if aH < bH then aH else bH) = mH)
    (mh2 : (if bH < aH then bH else aH) = mH)
    (g3 : decide (cL ≤ mH) = true) (w : World) :
    Calls Try.prog 13 #[.int .i64 p, .int .i64 q] w (Mem (.bool true) w) := by
  have HA := Lib.hid (fun w => awake_any w)
  go_enter Try.func13, Try.ntmps13
  go_wp2_with fail
  have K := Hold.start w
  refine (HA.out _).mono ?_
  rintro e_1 w1 ⟨rfl, hb⟩
  have K' := Hold.mem (K) hb
  clear hb K
  have K := K'
  clear K'
  have sz1 := K.size
  go_wp2_with fail
  refine (W1.out _).mono ?_
  rintro e_2 w2 ⟨rfl, hb⟩
  have K' := Hold.mem (K) hb
  clear hb K
  have K := K'
  clear K'
  clear sz1
  have sz2 := K.size
  go_wp2_with fail
  refine (W2.out _).mono ?_
  rintro e_3 w3 ⟨rfl, hb⟩
  have K' := Hold.mem (K) hb
  clear hb K
  have K := K'
  clear K'
  clear sz2
  have sz3 := K.size
  go_wp2_with fail
  refine (FA.out _).mono ?_
  rintro e_4 w4 ⟨rfl, hb⟩
  have K' := Hold.mem (K) hb
  clear hb K
  have K := K'
  clear K'
  clear sz3
  have sz4 := K.size
  go_wp2_with fail
  refine (FB.out _).mono ?_
  rintro e_5 w5 ⟨rfl, hb⟩
  have K' := Hold.mem ((K).new #[.int .i64 aL, .int .i64 aH] 23 (n := w4.heap.size) (by first | rfl | (simp <;> omega))) hb
  clear hb K
  have K := K'
  clear K'
  clear sz4
  obtain ⟨_, sz5, h0, _⟩ := id K
  have q0 := h0.cell; have f0 := h0.frozen; have z0 := h0.lt
  clear h0
  go_wp2_with fail
  refine (FC.out _).mono ?_
  rintro e_6 w6 ⟨rfl, hb⟩
  have K' := Hold.mem ((K).new #[.int .i64 bL, .int .i64 bH] 23 (n := w5.heap.size) (by first | rfl | (simp <;> omega))) hb
  clear hb K
  have K := K'
  clear K'
  clear q0 f0 z0 sz5
  obtain ⟨_, sz6, h0, h1, _⟩ := id K
  have q0 := h0.cell; have f0 := h0.frozen; have z0 := h0.lt
  have q1 := h1.cell; have f1 := h1.frozen; have z1 := h1.lt
  clear h0 h1
  go_wp2_with fail
  refine (FD.out _).mono ?_
  rintro e_7 w7 ⟨rfl, hb⟩
  have K' := Hold.mem ((K).new #[.int .i64 cL, .int .i64 cH] 23 (n := w6.heap.size) (by first | rfl | (simp <;> omega))) hb
  clear hb K
  have K := K'
  clear K'
  clear q0 f0 q1 f1 z0 z1 sz6
  obtain ⟨_, sz7, h0, h1, h2, _⟩ := id K
  have q0 := h0.cell; have f0 := h0.frozen; have z0 := h0.lt
  have q1 := h1.cell; have f1 := h1.frozen; have z1 := h1.lt
  have q2 := h2.cell; have f2 := h2.frozen; have z2 := h2.lt
  clear h0 h1 h2
  go_wp2_with fail
  refine (WA.out _).mono ?_
  rintro e_8 w8 ⟨rfl, hb⟩
  have K' := Hold.mem ((K).new #[.int .i64 dL, .int .i64 dH] 23 (n := w7.heap.size) (by first | rfl | (simp <;> omega))) hb
  clear hb K
  have K := K'
  clear K'
  clear q0 f0 q1 f1 q2 f2 z0 z1 z2 sz7
  obtain ⟨_, sz8, h0, h1, h2, h3, _⟩ := id K
  have q0 := h0.cell; have f0 := h0.frozen; have z0 := h0.lt
  have q1 := h1.cell; have f1 := h1.frozen; have z1 := h1.lt
  have q2 := h2.cell; have f2 := h2.frozen; have z2 := h2.lt
  have q3 := h3.cell; have f3 := h3.frozen; have z3 := h3.lt
  clear h0 h1 h2 h3
  go_wp2_with fail
  refine (WB.out _).mono ?_
  rintro e_9 w9 ⟨rfl, hb⟩
  have K' := Hold.mem (K) hb
  clear hb K
  have K := K'
  clear K'
  clear q0 f0 q1 f1 q2 f2 q3 f3 z0 z1 z2 z3 sz8
  obtain ⟨_, sz9, h0, h1, h2, h3, _⟩ := id K
  have q0 := h0.cell; have f0 := h0.frozen; have z0 := h0.lt
  have q1 := h1.cell; have f1 := h1.frozen; have z1 := h1.lt
  have q2 := h2.cell; have f2 := h2.frozen; have z2 := h2.lt
  have q3 := h3.cell; have f3 := h3.frozen; have z3 := h3.lt
  clear h0 h1 h2 h3
  go_wp2_with fail
  go_ret
  exact ⟨rfl, (K).below⟩

set_option maxRecDepth 100000 in
set_option maxHeartbeats 1000000 in
theorem ft_gt {p q s mi ma aL aH bL bH cL cH dL dH c1 c2 h1 l1 mH : Int}
    (W1 : Hid (∀ w, Calls Try.prog 31 #[.int .i64 p, .int .i64 0, .int .i64 10000000] w (Mem (.bool true) w)))
    (W2 : Hid (∀ w, Calls Try.prog 31 #[.int .i64 q, .int .i64 0, .int .i64 10000000] w (Mem (.bool true) w)))
    (FA : Hid (∀ w, Calls Try.prog 65 #[.agg #[.int .i64 p, .int .i64 p]] w (Mem (.tuple #[.agg #[.int .i64 aL, .int .i64 aH], .int .i64 0]) w)))
    (FB : Hid (∀ w, Calls Try.prog 65 #[.agg #[.int .i64 q, .int .i64 q]] w (Mem (.tuple #[.agg #[.int .i64 bL, .int .i64 bH], .int .i64 0]) w)))
    (v0 : IntKind.i64.wrap (p + q) = s)
    (FC : Hid (∀ w, Calls Try.prog 65 #[.agg #[.int .i64 s, .int .i64 s]] w (Mem (.tuple #[.agg #[.int .i64 cL, .int .i64 cH], .int .i64 0]) w)))
    (mn : (if p < q then p else q) = mi)
    (mn2 : (if q < p then q else p) = mi)
    (mx : (if p < q then q else p) = ma)
    (FD : Hid (∀ w, Calls Try.prog 65 #[.agg #[.int .i64 mi, .int .i64 ma]] w (Mem (.tuple #[.agg #[.int .i64 dL, .int .i64 dH], .int .i64 0]) w)))
    (WA : Hid (∀ w, Calls Try.prog 31 #[.int .i64 aL, .int .i64 0, .int .i64 aH] w (Mem (.bool true) w)))
    (WB : Hid (∀ w, Calls Try.prog 31 #[.int .i64 bL, .int .i64 0, .int .i64 bH] w (Mem (.bool true) w)))
    (gA : decide (1048576 < aH) = false)
    (gB : decide (1048576 < bH) = false)
    (v1 : IntKind.i64.wrap (cL * 1048576) = c1)
    (v2 : IntKind.i64.wrap (aH * bH) = h1)
    (g1 : decide (h1 < c1) = false)
    (v3 : IntKind.i64.wrap (aL * bL) = l1)
    (v4 : IntKind.i64.wrap (cH * 1048576) = c2)
    (g2 : decide (c2 < l1) = false)
    (gs : decide (q < p) = true)
    (e1 : (dL == aL) = true)
    (e2 : (dH == bH) = true)
    (mh : (if bH < aH then bH else aH) = mH)
    (mh2 : (if aH < bH then aH else bH) = mH)
    (g3 : decide (cL ≤ mH) = true) (w : World) :
    Calls Try.prog 13 #[.int .i64 p, .int .i64 q] w (Mem (.bool true) w) := by
  have HA := Lib.hid (fun w => awake_any w)
  go_enter Try.func13, Try.ntmps13
  go_wp2_with fail
  have K := Hold.start w
  refine (HA.out _).mono ?_
  rintro e_1 w1 ⟨rfl, hb⟩
  have K' := Hold.mem (K) hb
  clear hb K
  have K := K'
  clear K'
  have sz1 := K.size
  go_wp2_with fail
  refine (W1.out _).mono ?_
  rintro e_2 w2 ⟨rfl, hb⟩
  have K' := Hold.mem (K) hb
  clear hb K
  have K := K'
  clear K'
  clear sz1
  have sz2 := K.size
  go_wp2_with fail
  refine (W2.out _).mono ?_
  rintro e_3 w3 ⟨rfl, hb⟩
  have K' := Hold.mem (K) hb
  clear hb K
  have K := K'
  clear K'
  clear sz2
  have sz3 := K.size
  go_wp2_with fail
  refine (FA.out _).mono ?_
  rintro e_4 w4 ⟨rfl, hb⟩
  have K' := Hold.mem (K) hb
  clear hb K
  have K := K'
  clear K'
  clear sz3
  have sz4 := K.size
  have sA := sz4
  go_wp2_with fail
  refine (FB.out _).mono ?_
  rintro e_5 w5 ⟨rfl, hb⟩
  have K' := Hold.mem ((K).new #[.int .i64 aL, .int .i64 aH] 23 (n := w4.heap.size) (by first | rfl | (simp <;> omega))) hb
  clear hb K
  have K := K'
  clear K'
  clear sz4
  obtain ⟨_, sz5, h0, _⟩ := id K
  have q0 := h0.cell; have f0 := h0.frozen; have z0 := h0.lt
  clear h0
  have sB := sz5
  have naB : w4.heap.size ≠ w5.heap.size := Nat.ne_of_lt z0; have maB : w5.heap.size ≠ w4.heap.size := Ne.symm naB
  go_wp2_with fail
  refine (FC.out _).mono ?_
  rintro e_6 w6 ⟨rfl, hb⟩
  have K' := Hold.mem ((K).new #[.int .i64 bL, .int .i64 bH] 23 (n := w5.heap.size) (by first | rfl | (simp <;> omega))) hb
  clear hb K
  have K := K'
  clear K'
  clear q0 f0 z0 sz5
  obtain ⟨_, sz6, h0, h1, _⟩ := id K
  have q0 := h0.cell; have f0 := h0.frozen; have z0 := h0.lt
  have q1 := h1.cell; have f1 := h1.frozen; have z1 := h1.lt
  clear h0 h1
  have sC := sz6
  have naC : w4.heap.size ≠ w6.heap.size := Nat.ne_of_lt z1; have maC : w6.heap.size ≠ w4.heap.size := Ne.symm naC
  have nbC : w5.heap.size ≠ w6.heap.size := Nat.ne_of_lt z0; have mbC : w6.heap.size ≠ w5.heap.size := Ne.symm nbC
  go_wp2_with fail
  refine (FD.out _).mono ?_
  rintro e_7 w7 ⟨rfl, hb⟩
  have K' := Hold.mem ((K).new #[.int .i64 cL, .int .i64 cH] 23 (n := w6.heap.size) (by first | rfl | (simp <;> omega))) hb
  clear hb K
  have K := K'
  clear K'
  clear q0 f0 q1 f1 z0 z1 sz6
  obtain ⟨_, sz7, h0, h1, h2, _⟩ := id K
  have q0 := h0.cell; have f0 := h0.frozen; have z0 := h0.lt
  have q1 := h1.cell; have f1 := h1.frozen; have z1 := h1.lt
  have q2 := h2.cell; have f2 := h2.frozen; have z2 := h2.lt
  clear h0 h1 h2
  have sD := sz7
  have naD : w4.heap.size ≠ w7.heap.size := Nat.ne_of_lt z2; have maD : w7.heap.size ≠ w4.heap.size := Ne.symm naD
  have nbD : w5.heap.size ≠ w7.heap.size := Nat.ne_of_lt z1; have mbD : w7.heap.size ≠ w5.heap.size := Ne.symm nbD
  have ncD : w6.heap.size ≠ w7.heap.size := Nat.ne_of_lt z0; have mcD : w7.heap.size ≠ w6.heap.size := Ne.symm ncD
  go_wp2_with fail
  refine (WA.out _).mono ?_
  rintro e_8 w8 ⟨rfl, hb⟩
  have K' := Hold.mem ((K).new #[.int .i64 dL, .int .i64 dH] 23 (n := w7.heap.size) (by first | rfl | (simp <;> omega))) hb
  clear hb K
  have K := K'
  clear K'
  clear q0 f0 q1 f1 q2 f2 z0 z1 z2 sz7
  obtain ⟨_, sz8, h0, h1, h2, h3, _⟩ := id K
  have q0 := h0.cell; have f0 := h0.frozen; have z0 := h0.lt
  have q1 := h1.cell; have f1 := h1.frozen; have z1 := h1.lt
  have q2 := h2.cell; have f2 := h2.frozen; have z2 := h2.lt
  have q3 := h3.cell; have f3 := h3.frozen; have z3 := h3.lt
  clear h0 h1 h2 h3
  go_wp2_with fail
  refine (WB.out _).mono ?_
  rintro e_9 w9 ⟨rfl, hb⟩
  have K' := Hold.mem (K) hb
  clear hb K
  have K := K'
  clear K'
  clear q0 f0 q1 f1 q2 f2 q3 f3 z0 z1 z2 z3 sz8
  obtain ⟨_, sz9, h0, h1, h2, h3, _⟩ := id K
  have q0 := h0.cell; have f0 := h0.frozen; have z0 := h0.lt
  have q1 := h1.cell; have f1 := h1.frozen; have z1 := h1.lt
  have q2 := h2.cell; have f2 := h2.frozen; have z2 := h2.lt
  have q3 := h3.cell; have f3 := h3.frozen; have z3 := h3.lt
  clear h0 h1 h2 h3
  go_wp2_with fail
  go_ret
  exact ⟨rfl, by repeat (first | with_reducible exact K.below | with_reducible refine Below.setCell ?_ (by simp <;> omega) _ | with_reducible refine Below.alloc ?_ (by first | exact K.size | (simp <;> omega)) _)⟩

end Go.Proofs.Ythkooiopiaakbaa
