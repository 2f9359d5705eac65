/- The contracts of the balls of the statements, and of the examples that they begin with. -/
import Derived.Test.YthkooiopiaakbaaArc
namespace Go.Proofs.Ythkooiopiaakbaa
open Go.RowKit Go.Lib
attribute [local go_sem] run_store_float run_store_complex

set_option maxHeartbeats 400000 in
theorem Num_any (x y : Int) (w : World) : Calls Try.prog 36 #[.int .i64 x, .int .i64 y] w fun e w' => e = .returned (.complex .f64 (fi x) (fi y)) ∧ w = w' := by
  go_enter Try.func36, Try.ntmps36
  go_wp2
  go_ret
  exact ⟨rfl, rfl⟩

set_option maxHeartbeats 400000 in
theorem Ball_mk (x y r : Int) (w : World) : Calls Try.prog 49 #[.int .i64 x, .int .i64 y, .int .i64 r] w fun e w' => e = .returned (.agg #[.complex .f64 (fi x) (fi y), .int .i64 r]) ∧ w' = w.alloc (.cells #[.complex .f64 (fi x) (fi y), .int .i64 r] 27) := by
  have HN := Lib.hid (fun w => Num_any x y w)
  generalize fi x = fx at *
  generalize fi y = fy at *
  go_enter Try.func49, Try.ntmps49
  go_wp2_with fail
  refine (HN.out _).mono ?_
  rintro e w' ⟨rfl, rfl⟩
  go_wp2_with fail
  exact bodyPost_ret (v := .agg #[.complex .f64 fx fy, .int .i64 r]) (by simp [results, Try.results49, go_sem]) rfl ⟨rfl, rfl⟩

def sameC (a b c d : Nat) : Bool := ((a : Int) == (c : Int)) && ((b : Int) == (d : Int))
def sameB (a b c d : Nat) (r s : Int) : Bool := sameC a b c d && (r == s)

set_option maxRecDepth 100000 in
set_option maxHeartbeats 400000 in
theorem SameBits_any (a b c d : Nat) (w : World) : Calls Try.prog 35 #[.complex .f64 a b, .complex .f64 c d] w fun e w' => e = .returned (.bool (sameC a b c d)) ∧ w = w' := by
  have h1 := run_bits a
  have h2 := run_bits b
  have h3 := run_bits c
  have h4 := run_bits d
  have hs : Hid (sameC a b c d = (((a : Int) == (c : Int)) && ((b : Int) == (d : Int)))) := rfl
  generalize sameC a b c d = z at *
  by_cases k1 : (a : Int) = c
  · have b1 : ((a : Int) == (c : Int)) = true := by simpa using k1
    rw [b1] at hs
    clear k1
    have : z = ((b : Int) == (d : Int)) := by rw [hs.out]; rfl
    subst this
    clear hs
    go_enter Try.func35, Try.ntmps35
    go_wp2
    go_ret
    exact ⟨by simp, rfl⟩
  · have b1 : ((a : Int) == (c : Int)) = false := by simpa using k1
    rw [b1] at hs
    clear k1
    have : z = false := hs.out
    subst this
    clear hs
    go_enter Try.func35, Try.ntmps35
    go_wp2
    go_ret
    exact ⟨rfl, rfl⟩

set_option maxHeartbeats 400000 in
theorem SameBall_mk (a b c d : Nat) (r s : Int) (w : World) : Calls Try.prog 40 #[.agg #[.complex .f64 a b, .int .i64 r], .agg #[.complex .f64 c d, .int .i64 s]] w
    fun e w' => e = .returned (.bool (sameB a b c d r s)) ∧ w' = (w.alloc (.cells #[.complex .f64 a b, .int .i64 r] 27)).alloc (.cells #[.complex .f64 c d, .int .i64 s] 27) := by
  have HS := Lib.hid (fun w => SameBits_any a b c d w)
  have hs : Hid (sameB a b c d r s = (sameC a b c d && (r == s))) := rfl
  generalize sameB a b c d r s = z at *
  generalize sameC a b c d = q at *
  cases q
  · have : z = false := hs.out
    subst this
    clear hs
    go_enter Try.func40, Try.ntmps40
    go_wp2_with fail
    refine (HS.out _).mono ?_
    rintro e w' ⟨rfl, rfl⟩
    go_wp2_with fail
    go_ret
    exact ⟨rfl, rfl⟩
  · have : z = (r == s) := by rw [hs.out]; rfl
    subst this
    clear hs
    go_enter Try.func40, Try.ntmps40
    go_wp2_with fail
    refine (HS.out _).mono ?_
    rintro e w' ⟨rfl, rfl⟩
    go_wp2_with fail
    go_ret
    exact ⟨by simp, rfl⟩

theorem aw_times (w : World) : Calls Try.prog 37 #[.agg #[.complex .f64 (fi 3) (fi 0), .int .i64 2], .agg #[.complex .f64 (fi 524288) (fi 0), .int .i64 0]] w (Mem (balV (fi 2) (fi 0) 2 0) w) := by
  have h := Times_any (x := 3) (y := 0) (u := 524288) (v := 0) 2 0 ⟨Rp_fi 3, Rp_fi 0⟩ ⟨by decide, by decide⟩ ⟨by decide, by decide⟩ ⟨Rp_fi 524288, Rp_fi 0⟩ ⟨by decide, by decide⟩ ⟨by decide, by decide⟩ w
  have e : (if ckB 3 0 2 = 0 ∧ ckB 524288 0 0 = 0 then resB (prodX 3 0 524288 0) (prodY 3 0 524288 0) (prodR 3 0 524288 0 2 0) else balV 0 0 0 2) = balV (fi 2) (fi 0) 2 0 := by kernel_rfl
  rw [e] at h
  exact h

theorem quoIn_aw : QuoIn 3 0 2097152 0 0 0 := by
  have e1 : quoN1 3 0 2097152 0 = 6291456 := by kernel_rfl
  have e2 : quoN2 3 0 2097152 0 = 0 := by kernel_rfl
  have e3 : sq2 2097152 0 = 4398046511104 := by kernel_rfl
  have e4 : quoSpread 3 0 2097152 0 0 0 = 0 := by kernel_rfl
  have e5 : quoDen 2097152 0 0 = 4398046511104 := by kernel_rfl
  unfold QuoIn
  rw [e1, e2, e3, e4, e5]
  refine ⟨DvIn_by (X := 6291456) (Y := 1048576) (by decide) (by decide) (by decide) (by decide) (by decide) (by decide) (by decide) (by decide) (by decide), DvIn_by (X := 0) (Y := 1048576) (by decide) (by decide) (by decide) (by decide) (by decide) (by decide) (by decide) (by decide) (by decide), DvIn_by (X := 0) (Y := 1048576) (by decide) (by decide) (by decide) (by decide) (by decide) (by decide) (by decide) (by decide) (by decide), ?_, ?_, ?_, ?_⟩
  · exact ⟨by decide +kernel, by decide +kernel⟩
  · exact ⟨by decide +kernel, by decide +kernel⟩
  · decide +kernel
  · decide +kernel

theorem aw_quot (w : World) : Calls Try.prog 41 #[.agg #[.complex .f64 (fi 3) (fi 0), .int .i64 0], .agg #[.complex .f64 (fi 2097152) (fi 0), .int .i64 0]] w (Mem (balV (fi 2) (fi 0) 1 0) w) := by
  have h := Quotient_any (x := 3) (y := 0) (u := 2097152) (v := 0) 0 0 ⟨Rp_fi 3, Rp_fi 0⟩ ⟨by decide, by decide⟩ ⟨by decide, by decide⟩ ⟨Rp_fi 2097152, Rp_fi 0⟩ ⟨by decide, by decide⟩ ⟨by decide, by decide⟩ (fun _ _ _ => quoIn_aw) w
  have e : (if ckB 3 0 0 = 0 ∧ ckB 2097152 0 0 = 0 then quoV 3 0 2097152 0 0 0 else balV 0 0 0 2) = balV (fi 2) (fi 0) 1 0 := by kernel_rfl
  rw [e] at h
  exact h

theorem aw_arc (w : World) : Calls Try.prog 59 #[.agg #[.int .i64 524288, .int .i64 524288]] w (Mem (balV (fi 741455) (fi 741455) 2 0) w) := by
  have h := Arc_any (lo := 524288) (hi := 524288) (cx := 47453132) (cy := 47453132) (fun _ => dir_eighth) w
  have e : ArcV 47453132 47453132 524288 524288 = balV (fi 741455) (fi 741455) 2 0 := by kernel_rfl
  rw [e] at h
  exact h

theorem aw_real (w : World) : Calls Try.prog 44 #[.agg #[.int .i64 1048576, .int .i64 4194304]] w (Mem (balV (fi 1572864) (fi 0) 524288 0) w) := by
  have h := RealRoot_pos 1048576 4194304 (by decide +kernel) (by decide) w
  have e : ofRangeV (rti (1048576 * 1048576)) (rtu (4194304 * 1048576)) = balV (fi 1572864) (fi 0) 524288 0 := by kernel_rfl
  rw [e] at h
  exact h

theorem aw_size (w : World) : Calls Try.prog 71 #[.agg #[.complex .f64 (fi 3) (fi 4), .int .i64 1]] w (Mem (rngV 4 6 0) w) := by
  have h := SizeOf_any (x := 3) (y := 4) 1 ⟨Rp_fi 3, Rp_fi 4⟩ ⟨by decide, by decide⟩ ⟨by decide, by decide⟩ w
  have e : (if ckB 3 4 1 = 0 then rngV (szLo 3 4 1) (szHi 3 4 1) 0 else rngV 0 0 2) = rngV 4 6 0 := by kernel_rfl
  rw [e] at h
  exact h

theorem cell_at {W : World} {b o : Nat} {c : Array Value} {v : Value} (h : At W b c) (hc : c[o]? = some v) : W.cell? ⟨b, o, none⟩ = some v := by rw [h.cell]; exact hc

theorem keep5 {W : World} {b1 b2 b3 b4 b5 : Nat} {x1 y1 x2 y2 x3 y3 x4 y4 x5 y5 : Value} (h1 : At W b1 #[x1, y1]) (h2 : At W b2 #[x2, y2]) (h3 : At W b3 #[x3, y3]) (h4 : At W b4 #[x4, y4]) (h5 : At W b5 #[x5, y5]) :
    W.cell? ⟨b1, 0, none⟩ = some x1 ∧ W.cell? ⟨b1, 1, none⟩ = some y1 ∧ W.cell? ⟨b2, 0, none⟩ = some x2 ∧ W.cell? ⟨b2, 1, none⟩ = some y2 ∧ W.cell? ⟨b3, 0, none⟩ = some x3 ∧ W.cell? ⟨b3, 1, none⟩ = some y3 ∧
    W.cell? ⟨b4, 0, none⟩ = some x4 ∧ W.cell? ⟨b4, 1, none⟩ = some y4 ∧ W.cell? ⟨b5, 0, none⟩ = some x5 ∧ W.cell? ⟨b5, 1, none⟩ = some y5 :=
  ⟨h1.cell 0, h1.cell 1, h2.cell 0, h2.cell 1, h3.cell 0, h3.cell 1, h4.cell 0, h4.cell 1, h5.cell 0, h5.cell 1⟩

theorem Below.via {w W w1 : World} (h : Below w.heap.size w W) (hb : Below W.heap.size W w1) : Below w.heap.size w w1 := h.trans (hb.mono h.size)

set_option maxHeartbeats 2000000 in
theorem awake_any (w : World) : Calls Try.prog 17 #[] w (Mem (.bool true) w) := by
  have B1 := Lib.hid (fun w => Ball_mk 3 0 2 w)
  have B2 := Lib.hid (fun w => Ball_mk 524288 0 0 w)
  have B3 := Lib.hid (fun w => Ball_mk 3 0 0 w)
  have B4 := Lib.hid (fun w => Ball_mk 2097152 0 0 w)
  have B5 := Lib.hid (fun w => Ball_mk 3 4 1 w)
  have B6 := Lib.hid (fun w => Ball_mk 2 0 2 w)
  have B7 := Lib.hid (fun w => Ball_mk 2 0 1 w)
  have B8 := Lib.hid (fun w => Ball_mk 741455 741455 2 w)
  have B9 := Lib.hid (fun w => Ball_mk 1572864 0 524288 w)
  have T := Lib.hid (fun w => aw_times w)
  have Q := Lib.hid (fun w => aw_quot w)
  have A := Lib.hid (fun w => aw_arc w)
  have R := Lib.hid (fun w => aw_real w)
  have Z := Lib.hid (fun w => aw_size w)
  have s1 : sameB (fi 2) (fi 0) (fi 2) (fi 0) 2 2 = true := by kernel_rfl
  have s2 : sameB (fi 2) (fi 0) (fi 2) (fi 0) 1 1 = true := by kernel_rfl
  have s3 : sameB (fi 741455) (fi 741455) (fi 741455) (fi 741455) 2 2 = true := by kernel_rfl
  have s4 : sameB (fi 1572864) (fi 0) (fi 1572864) (fi 0) 524288 524288 = true := by kernel_rfl
  have S1 := fun w => SameBall_mk (fi 2) (fi 0) (fi 2) (fi 0) 2 2 w
  have S2 := fun w => SameBall_mk (fi 2) (fi 0) (fi 2) (fi 0) 1 1 w
  have S3 := fun w => SameBall_mk (fi 741455) (fi 741455) (fi 741455) (fi 741455) 2 2 w
  have S4 := fun w => SameBall_mk (fi 1572864) (fi 0) (fi 1572864) (fi 0) 524288 524288 w
  rw [s1] at S1
  rw [s2] at S2
  rw [s3] at S3
  rw [s4] at S4
  replace S1 := Lib.hid S1
  replace S2 := Lib.hid S2
  replace S3 := Lib.hid S3
  replace S4 := Lib.hid S4
  clear s1 s2 s3 s4
  unfold balV rngV at *
  generalize fi 0 = f0 at *
  generalize fi 2 = f2 at *
  generalize fi 3 = f3 at *
  generalize fi 4 = f4 at *
  generalize fi 524288 = f5 at *
  generalize fi 2097152 = f6 at *
  generalize fi 741455 = f7 at *
  generalize fi 1572864 = f8 at *
  go_enter Try.func17, Try.ntmps17
  go_wp2_with fail
  refine (B1.out _).mono ?_
  rintro e w' ⟨rfl, rfl⟩
  go_wp2_with fail
  refine (B2.out _).mono ?_
  rintro e w' ⟨rfl, rfl⟩
  go_wp2_with fail
  refine (T.out _).mono ?_
  rintro e w1 ⟨rfl, hb⟩
  have hb1 : Below w.heap.size w w1 := Below.via (((Below.refl _ _).alloc (by simp) _).alloc (by simp) _) hb
  clear hb
  go_wp2_with fail
  refine (B3.out _).mono ?_
  rintro e w' ⟨rfl, rfl⟩
  go_wp2_with fail
  refine (B4.out _).mono ?_
  rintro e w' ⟨rfl, rfl⟩
  go_wp2_with fail
  refine (Q.out _).mono ?_
  rintro e w2 ⟨rfl, hb⟩
  have L1 : Hid (At w2 w1.heap.size #[.complex .f64 f2 f0, .int .i64 2]) := Lib.hid (At.below (((At.new _ _ _).old _).old _) hb)
  have z1 := hb1.size
  have hb2 : Below w.heap.size w w2 := Below.via (((hb1.alloc (by first | exact z1 | (simp <;> omega)) _).alloc (by first | exact z1 | (simp <;> omega)) _).alloc (by first | exact z1 | (simp <;> omega)) _) hb
  clear hb hb1 z1
  go_wp2_with fail
  refine (A.out _).mono ?_
  rintro e w3 ⟨rfl, hb⟩
  have L1' := Lib.hid ((L1.out.old _).below hb)
  have L2 : Hid (At w3 w2.heap.size #[.complex .f64 f2 f0, .int .i64 1]) := Lib.hid (At.below (At.new _ _ _) hb)
  have z2 := hb2.size
  have hb3 : Below w.heap.size w w3 := Below.via (hb2.alloc (by first | exact z2 | (simp <;> omega)) _) hb
  clear hb hb2 z2 L1
  go_wp2_with fail
  refine (R.out _).mono ?_
  rintro e w4 ⟨rfl, hb⟩
  have L1 := Lib.hid ((L1'.out.old _).below hb)
  have L2' := Lib.hid ((L2.out.old _).below hb)
  have L3 : Hid (At w4 w3.heap.size #[.complex .f64 f7 f7, .int .i64 2]) := Lib.hid (At.below (At.new _ _ _) hb)
  have z3 := hb3.size
  have hb4 : Below w.heap.size w w4 := Below.via (hb3.alloc (by first | exact z3 | (simp <;> omega)) _) hb
  clear hb hb3 z3 L1' L2
  go_wp2_with fail
  refine (B5.out _).mono ?_
  rintro e w' ⟨rfl, rfl⟩
  go_wp2_with fail
  refine (Z.out _).mono ?_
  rintro e w5 ⟨rfl, hb⟩
  have a1 := ((L1.out.old _).old _).below hb
  have a2 := ((L2'.out.old _).old _).below hb
  have a3 := ((L3.out.old _).old _).below hb
  have a4 : At w5 w4.heap.size #[.complex .f64 f8 f0, .int .i64 524288] := At.below ((At.new _ _ _).old _) hb
  have z4 := hb4.size
  have hb5 : Below w.heap.size w w5 := Below.via ((hb4.alloc (by first | exact z4 | (simp <;> omega)) _).alloc (by first | exact z4 | (simp <;> omega)) _) hb
  have q1 := a1.cell; have q2 := a2.cell; have q3 := a3.cell; have q4 := a4.cell
  have y1 := a1.lt; have y2 := a2.lt; have y3 := a3.lt; have y4 := a4.lt
  have A1 := Lib.hid a1; have A2 := Lib.hid a2; have A3 := Lib.hid a3; have A4 := Lib.hid a4
  clear hb hb4 z4 L1 L2' L3 a1 a2 a3 a4 T Q A R Z B1 B2 B3 B4 B5
  go_wp2_with fail
  have hE : ∀ w, (binOp .eql 23 (.agg #[.int .i64 4, .int .i64 6]) (.agg #[.int .i64 4, .int .i64 6])).run Try.prog w = .ok (.bool true) w := fun _ => by kernel_rfl
  go_region_held3 (fun w' => w'.cell? ⟨w1.heap.size, 0, none⟩ = some (.complex .f64 f2 f0) ∧ w'.cell? ⟨w1.heap.size, 1, none⟩ = some (.int .i64 2) ∧ w'.cell? ⟨w2.heap.size, 0, none⟩ = some (.complex .f64 f2 f0) ∧ w'.cell? ⟨w2.heap.size, 1, none⟩ = some (.int .i64 1) ∧ w'.cell? ⟨w3.heap.size, 0, none⟩ = some (.complex .f64 f7 f7) ∧ w'.cell? ⟨w3.heap.size, 1, none⟩ = some (.int .i64 2) ∧ w'.cell? ⟨w4.heap.size, 0, none⟩ = some (.complex .f64 f8 f0) ∧ w'.cell? ⟨w4.heap.size, 1, none⟩ = some (.int .i64 524288) ∧ w'.cell? ⟨w5.heap.size, 0, none⟩ = some (.int .i64 4) ∧ w'.cell? ⟨w5.heap.size, 1, none⟩ = some (.int .i64 6)) (refine keep5 ?_ ?_ ?_ ?_ ?_ <;> (repeat (first | with_reducible exact A1.out | with_reducible exact A2.out | with_reducible exact A3.out | with_reducible exact A4.out | with_reducible exact At.new _ _ _ | with_reducible refine At.drewS ?_ | with_reducible refine At.drewN ?_ _ | with_reducible refine At.old ?_ _))) (first | (go_at_call_of 49 (Value.int IntKind.i64 1); refine (B7.out _).mono ?_; rintro e w' ⟨rfl, rfl⟩) | (go_at_call_of 49 (Value.int IntKind.i64 741455); refine (B8.out _).mono ?_; rintro e w' ⟨rfl, rfl⟩) | (go_at_call_of 49 (Value.int IntKind.i64 1572864); refine (B9.out _).mono ?_; rintro e w' ⟨rfl, rfl⟩) | (go_at_call_of 49 (Value.int IntKind.i64 2); refine (B6.out _).mono ?_; rintro e w' ⟨rfl, rfl⟩) | (go_at_call_of 40 (Value.int IntKind.i64 1); refine (S2.out _).mono ?_; rintro e w' ⟨rfl, rfl⟩) | (go_at_call_of 40 (Value.complex FloatKind.f64 f7 f7); refine (S3.out _).mono ?_; rintro e w' ⟨rfl, rfl⟩) | (go_at_call_of 40 (Value.complex FloatKind.f64 f8 f0); refine (S4.out _).mono ?_; rintro e w' ⟨rfl, rfl⟩) | (go_at_call_of 40 (Value.int IntKind.i64 2); refine (S1.out _).mono ?_; rintro e w' ⟨rfl, rfl⟩))
  go_wp2_with fail
  go_ret
  refine ⟨rfl, ?_⟩
  have z5 := hb5.size
  repeat (first | with_reducible exact hb5 | with_reducible refine Below.drew ?_ | with_reducible refine below_drewN ?_ _ | refine Below.alloc ?_ (by first | exact z5 | (simp <;> omega)) _)

end Go.Proofs.Ythkooiopiaakbaa
