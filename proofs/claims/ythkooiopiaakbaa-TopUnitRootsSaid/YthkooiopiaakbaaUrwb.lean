/- The statement on unit numbers that are roots of one: its walks. -/
import Derived.Test.YthkooiopiaakbaaBald
namespace Go.Proofs.Ythkooiopiaakbaa
open Go.RowKit Go.Lib
attribute [local go_sem] run_store_float run_store_complex
set_option linter.unusedVariables false

set_option maxRecDepth 100000 in
set_option maxHeartbeats 600000 in
theorem ur_early {n k n1 k2 Rk : Int} {N : Nat} {fS gS fU gU fP gP : Nat → Nat} {RS RU RP : Nat → Int} {fk gk fo go : Nat}
    (W0 : Hid (∀ w, Calls Try.prog 31 #[.int .i64 n, .int .i64 2, .int .i64 40] w (Mem (.bool true) w)))
    (v0 : IntKind.i64.wrap (n - 1) = n1)
    (W1 : Hid (∀ w, Calls Try.prog 31 #[.int .i64 k, .int .i64 0, .int .i64 n1] w (Mem (.bool true) w)))
    (hn : Hid (n = (N : Int)))
    (hN : N ≤ 40)
    (z0 : Hid (fS 0 = 0 ∧ gS 0 = 0 ∧ RS 0 = 0))
    (HU : ∀ i : Nat, i < N → Hid (∀ w, Calls Try.prog 60 #[.int .i64 (i : Int), .int .i64 n] w (Mem (.tuple #[.agg #[.complex .f64 (fU i) (gU i), .int .i64 (RU i)], .int .i64 0]) w)))
    (HP : ∀ i : Nat, i < N → Hid (∀ w, Calls Try.prog 24 #[.agg #[.complex .f64 (fS i) (gS i), .int .i64 (RS i)], .agg #[.complex .f64 (fU i) (gU i), .int .i64 (RU i)]] w (Mem (.tuple #[.agg #[.complex .f64 (fS (i + 1)) (gS (i + 1)), .int .i64 (RS (i + 1))], .int .i64 0]) w)))
    (HZ : Hid (∀ w, Calls Try.prog 50 #[.agg #[.complex .f64 (fS N) (gS N), .int .i64 (RS N)], .complex .f64 0 0] w (Mem (.tuple #[.bool true, .int .i64 0]) w)))
    (HK : Hid (∀ w, Calls Try.prog 60 #[.int .i64 k, .int .i64 n] w (Mem (.tuple #[.agg #[.complex .f64 fk gk, .int .i64 Rk], .int .i64 0]) w)))
    (HB : Hid (∀ w, Calls Try.prog 49 #[.int .i64 1048576, .int .i64 0, .int .i64 0] w (Mem (.agg #[.complex .f64 (fP 0) (gP 0), .int .i64 (RP 0)]) w)))
    (HT : ∀ i : Nat, i < N → Hid (∀ w, Calls Try.prog 37 #[.agg #[.complex .f64 (fP i) (gP i), .int .i64 (RP i)], .agg #[.complex .f64 fk gk, .int .i64 Rk]] w (Mem (.tuple #[.agg #[.complex .f64 (fP (i + 1)) (gP (i + 1)), .int .i64 (RP (i + 1))], .int .i64 0]) w)))
    (HO : Hid (∀ w, Calls Try.prog 36 #[.int .i64 1048576, .int .i64 0] w (Mem (.complex .f64 fo go) w)))
    (HC : Hid (∀ w, Calls Try.prog 50 #[.agg #[.complex .f64 (fP N) (gP N), .int .i64 (RP N)], .complex .f64 fo go] w (Mem (.tuple #[.bool true, .int .i64 0]) w)))
    (CK : Hid (∀ w, Calls Try.prog 70 #[.agg #[.complex .f64 (fP N) (gP N), .int .i64 (RP N)]] w (Mem (.int .i64 0) w)))
    (v1 : IntKind.i64.wrap (2 * k) = k2)
    (hgk : decide (n1 ≤ k2) = true) (w : World) :
    Calls Try.prog 16 #[.int .i64 n, .int .i64 k] w (Mem (.bool true) w) := by
  have HA := Lib.hid (fun w => balled_any w)
  go_enter Try.func16, Try.ntmps16
  go_wp2_with fail
  have K := Hold.start w
  refine (HA.out _).mono ?_
  rintro e_1 w1 ⟨rfl, hb⟩
  have K' := Hold.mem (K) hb
  clear hb K
  have K := K'
  clear K'
  have sz1 := K.size
  go_wp2_with fail
  refine (W0.out _).mono ?_
  rintro e_2 w2 ⟨rfl, hb⟩
  have K' := Hold.mem (K) hb
  clear hb K
  have K := K'
  clear K'
  clear sz1
  have sz2 := K.size
  go_wp2_with fail
  refine (W1.out _).mono ?_
  rintro e_3 w3 ⟨rfl, hb⟩
  have K' := Hold.mem (K) hb
  clear hb K
  have K := K'
  clear K'
  clear sz2
  have sz3 := K.size
  go_wp2_with fail
  have hsb' : w.heap.size ≤ w3.heap.size := by assumption
  have K' := (K).new #[.complex .f64 0 0, .int .i64 0] 27 (n := w3.heap.size) (by first | rfl | (simp <;> omega))
  clear K
  have K := K'
  clear K'
  clear sz3
  obtain ⟨sb, hsb⟩ : ∃ sb, sb = w3.heap.size := ⟨_, rfl⟩
  rw [← hsb] at K hsb'
  rw [← hsb]
  clear hsb
  go_loopw [6] (fun iv wr => ∃ (i : Nat) (f g : Nat) (R : Int), iv = .int .i64 (i : Int) ∧ i ≤ N ∧ Hid (f = fS i ∧ g = gS i ∧ R = RS i) ∧ Hold w.heap.size w [(sb, #[.complex .f64 f g, .int .i64 R])] wr) (fun iv _ => N - (RowKit.intOf iv).toNat)
  case atStart => exact ⟨0, 0, 0, 0, rfl, Nat.zero_le _, Lib.hid ⟨z0.out.1.symm, z0.out.2.1.symm, z0.out.2.2.symm⟩, K⟩
  case round =>
    clear K
    obtain ⟨i, f, g, R, rfl, hi, hq, K⟩ := hrel
    obtain ⟨rfl, rfl, rfl⟩ := hq.out
    clear hq
    by_cases e : i < N
    · have hlt : decide ((i : Int) < n) = true := by rw [hn.out]; simpa using e
      have HUi := HU i e; have HPi := HP i e
      have vi : IntKind.i64.wrap ((i : Int) + 1) = (i : Int) + 1 := IntWalk.i64_in _ (by constructor <;> omega)
      clear HU HP HZ HK HB HT HO HC CK W0 W1
      obtain ⟨_, sz4, h0, _⟩ := id K
      have q0 := h0.cell; have f0 := h0.frozen; have z0 := h0.lt
      clear h0
      go_wp2_with fail
      refine (HUi.out _).mono ?_
      rintro e_4 w4 ⟨rfl, hb⟩
      have K' := Hold.mem (K) hb
      clear hb K
      have K := K'
      clear K'
      clear q0 f0 z0 sz4
      obtain ⟨_, sz5, h0, _⟩ := id K
      have q0 := h0.cell; have f0 := h0.frozen; have z0 := h0.lt
      clear h0
      have zq := z0
      go_wp2_with fail
      refine (HPi.out _).mono ?_
      rintro e_5 w5 ⟨rfl, hb⟩
      have K' := Hold.mem ((K).new #[.complex .f64 (fU i) (gU i), .int .i64 (RU i)] 27 (n := w4.heap.size) (by first | rfl | (simp <;> omega))) hb
      clear hb K
      have K := K'
      clear K'
      clear q0 f0 z0 sz5
      obtain ⟨_, sz6, _, h1, _⟩ := id K
      have q1 := h1.cell; have f1 := h1.frozen; have z1 := h1.lt
      clear h1
      have zs := hsb'
      go_wp2_with fail
      have K' := ((K).sub (l' := [(sb, #[.complex .f64 (fS i) (gS i), .int .i64 (RS i)]), (w4.heap.size, #[.complex .f64 (fU i) (gU i), .int .i64 (RU i)])]) (by simp)).set2 (v0 := .complex .f64 (fS (i + 1)) (gS (i + 1))) (v1 := .int .i64 (RS (i + 1))) (by omega) (by simp <;> omega)
      clear K
      have K := K'
      clear K'
      go_roundw
      case rel => exact ⟨i + 1, _, _, _, by simp, by omega, Lib.hid ⟨rfl, rfl, rfl⟩, K.sub (by simp)⟩
      case measure => simp [RowKit.intOf]; omega
    · have hlt : decide ((i : Int) < n) = false := by rw [hn.out]; simp; omega
      obtain rfl : i = N := by omega
      clear HU HP
      obtain ⟨_, sz7, h0, _⟩ := id K
      have q0 := h0.cell; have f0 := h0.frozen; have z0 := h0.lt
      clear h0
      go_wp2_with fail
      refine (HZ.out _).mono ?_
      rintro e_6 w6 ⟨rfl, hb⟩
      have K' := Hold.mem (K) hb
      clear hb K
      have K := K'
      clear K'
      clear q0 f0 z0 sz7
      obtain ⟨_, sz8, _, _⟩ := id K
      go_wp2_with fail
      refine (HK.out _).mono ?_
      rintro e_7 w7 ⟨rfl, hb⟩
      have K' := Hold.mem (K) hb
      clear hb K
      have K := K'
      clear K'
      clear sz8
      obtain ⟨_, sz9, _, _⟩ := id K
      go_wp2_with fail
      refine (HB.out _).mono ?_
      rintro e_8 w8 ⟨rfl, hb⟩
      have K' := Hold.mem ((K).new #[.complex .f64 fk gk, .int .i64 Rk] 27 (n := w7.heap.size) (by first | rfl | (simp <;> omega))) hb
      clear hb K
      have K := K'
      clear K'
      clear sz9
      obtain ⟨_, sz10, h0, _, _⟩ := id K
      have q0 := h0.cell; have f0 := h0.frozen; have z0 := h0.lt
      clear h0
      have zub := z0; have szw := sz10
      go_wp2_with fail
      have K' := (K).new #[.complex .f64 (fP 0) (gP 0), .int .i64 (RP 0)] 27 (n := w8.heap.size) (by first | rfl | (simp <;> omega))
      clear K
      have K := K'
      clear K'
      clear q0 f0 z0 sz10
      obtain ⟨ub, hub⟩ : ∃ ub, ub = w7.heap.size := ⟨_, rfl⟩
      obtain ⟨pb, hpb⟩ : ∃ pb, pb = w8.heap.size := ⟨_, rfl⟩
      rw [← hub, ← hpb] at K
      rw [← hub, ← hpb]
      have hne : pb ≠ ub := by rw [hub, hpb]; exact Ne.symm (Nat.ne_of_lt zub)
      have hpb' : w.heap.size ≤ pb := by rw [hpb]; exact szw
      clear hub hpb szw zub
      go_loopw [14] (fun iv wr => ∃ (j : Nat) (f g : Nat) (R : Int), iv = .int .i64 (j : Int) ∧ j ≤ i ∧ Hid (f = fP j ∧ g = gP j ∧ R = RP j) ∧ Hold w.heap.size w [(pb, #[.complex .f64 f g, .int .i64 R]), (ub, #[.complex .f64 fk gk, .int .i64 Rk])] wr) (fun iv _ => i - (RowKit.intOf iv).toNat)
      case atStart => exact ⟨0, _, _, _, rfl, Nat.zero_le _, Lib.hid ⟨rfl, rfl, rfl⟩, K.sub (by simp)⟩
      case round =>
        clear K
        obtain ⟨j, f, g, R, rfl, hj, hq, K⟩ := hrel
        obtain ⟨rfl, rfl, rfl⟩ := hq.out
        clear hq
        by_cases e' : j < i
        · have hlt' : decide ((j : Int) < n) = true := by rw [hn.out]; simpa using e'
          have HTj := HT j e'
          have vj : IntKind.i64.wrap ((j : Int) + 1) = (j : Int) + 1 := IntWalk.i64_in _ (by constructor <;> omega)
          clear HT HO HC CK HZ HK HB W0 W1
          obtain ⟨_, sz11, h0, h1, _⟩ := id K
          have q0 := h0.cell; have f0 := h0.frozen; have z0 := h0.lt
          have q1 := h1.cell; have f1 := h1.frozen; have z1 := h1.lt
          clear h0 h1
          go_wp2_with fail
          refine (HTj.out _).mono ?_
          rintro e_9 w9 ⟨rfl, hb⟩
          have K' := Hold.mem (K) hb
          clear hb K
          have K := K'
          clear K'
          clear q0 f0 q1 f1 z0 z1 sz11
          obtain ⟨_, sz12, h0, h1, _⟩ := id K
          have q0 := h0.cell; have f0 := h0.frozen; have z0 := h0.lt
          have q1 := h1.cell; have f1 := h1.frozen; have z1 := h1.lt
          clear h0 h1
          have zs := hpb'; have zn := hne
          go_wp2_with fail
          have K' := (K).set2 (v0 := .complex .f64 (fP (j + 1)) (gP (j + 1))) (v1 := .int .i64 (RP (j + 1))) (by omega) (by simp <;> omega)
          clear K
          have K := K'
          clear K'
          go_roundw
          case rel => exact ⟨j + 1, _, _, _, by simp, by omega, Lib.hid ⟨rfl, rfl, rfl⟩, K⟩
          case measure => simp [RowKit.intOf]; omega
        · have hlt' : decide ((j : Int) < n) = false := by rw [hn.out]; simp; omega
          obtain rfl : j = i := by omega
          clear HT
          obtain ⟨_, sz13, h0, h1, _⟩ := id K
          have q0 := h0.cell; have f0 := h0.frozen; have z0 := h0.lt
          have q1 := h1.cell; have f1 := h1.frozen; have z1 := h1.lt
          clear h0 h1
          go_wp2_with fail
          clear q0 f0 q1 f1 z0 z1 sz13
          obtain ⟨_, sz14, h0, h1, _⟩ := id K
          have z14_0 := h0.lt; have z14_1 := h1.lt
          clear h0 h1
          have hne : Hid (∃ w', Hold w.heap.size w [(pb, #[.complex .f64 (fP j) (gP j), .int .i64 (RP j)]), (ub, #[.complex .f64 fk gk, .int .i64 Rk])] w') := ⟨_, K.drew⟩
          refine wp_region_tail (Hold w.heap.size w [(pb, #[.complex .f64 (fP j) (gP j), .int .i64 (RP j)]), (ub, #[.complex .f64 fk gk, .int .i64 Rk])]) 3 8 (by kernel_rfl) (by kernel_rfl) (fun _ _ d _ _ h => by cases d <;> exact h) (Hold.lasting _ _ _) K.drew ?_
          simp only [List.take_succ_cons, List.take_zero, List.drop_succ_cons, List.drop_zero]
          clear K
          repeat (first
            | (refine calm_skip (by rfl) ?_; simp only [Act.put, List.setIfInBounds_toArray, List.set_cons_zero, List.set_cons_succ])
            | (refine calm_step hne.out (by rfl) rfl (by simp) ?_; apply Exists.intro; refine ⟨?_, ?_⟩
               · (intro r _ K hK; go_big_quiet_op; first
                  | exact hK
                  | (apply Exists.intro; refine ⟨fun _ hw => ?_, ?_⟩; (first
                     | with_reducible exact rfl
                     | with_reducible exact cm_mem hw (HO.out _)
                     | with_reducible exact cm_mem hw (HC.out _)
                     | (obtain ⟨_, _, h0, h1, _⟩ := hw.s; have q0 := h0.cell; have q1 := h1.cell; clear h0 h1; simp [q0, q1, go_sem]; exact rfl)); exact hK))))
          refine wpCalm_nil ?_
          intro w10 K
          clear hne
          obtain ⟨_, sz15, h0, _, _⟩ := id K
          have q0 := h0.cell; have f0 := h0.frozen; have z0 := h0.lt
          clear h0
          go_wp2_with fail
          refine (CK.out _).mono ?_
          rintro e_11 w11 ⟨rfl, hb⟩
          have K' := Hold.mem (K) hb
          clear hb K
          have K := K'
          clear K'
          clear q0 f0 z0 sz15
          obtain ⟨_, sz16, _, h1, _⟩ := id K
          have q1 := h1.cell; have f1 := h1.frozen; have z1 := h1.lt
          clear h1
          go_wp2_with fail
          go_ret
          exact ⟨rfl, (K).below⟩

end Go.Proofs.Ythkooiopiaakbaa
