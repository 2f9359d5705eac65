/- Contains of package ball. -/
import Derived.Test.YthkooiopiaakbaaNear
namespace Go.Proofs.Ythkooiopiaakbaa
open Go.RowKit Go.Lib
attribute [local go_sem] run_store_float run_store_complex
set_option linter.unusedVariables false

theorem fi_most2 : fi 134217728 = 4728779608739020800 := by decide +kernel

set_option maxRecDepth 100000 in
set_option maxHeartbeats 2000000 in
theorem Contains_of {a b c d : Nat} {r e : Int} {v : Bool} {w : World}
    (HK : Hid (∀ W p, At W p #[.complex .f64 c d] → Calls Try.prog 117 #[.agg #[.complex .f64 a b, .int .i64 r], .func (.func 118) #[] #[.pointer (some ⟨p, 0, none⟩)]] W (Mem (bovV v e) W))) :
    Calls Try.prog 50 #[.agg #[.complex .f64 a b, .int .i64 r], .complex .f64 c d] w (Mem (bovV v e) w) := by
  unfold bovV at *
  go_enter Try.func50, Try.ntmps50
  go_wp2_with fail
  refine (HK.out _ _ (At.new' _ _ _ (by simp))).mono ?_
  rintro e_2 w2 ⟨rfl, hb2⟩
  have hbw2 : Below w.heap.size w w2 := (((Below.refl _ _).alloc (Nat.le_refl _) _).alloc (by simp) _).trans (hb2.mono (by simp; omega))
  go_wp2_with fail
  exact bodyPost_ret (v := .tuple #[.bool v, .int .i64 e]) (by simp [results, Try.results50, go_sem, *]) rfl ⟨rfl, hbw2⟩

set_option maxRecDepth 100000 in
set_option maxHeartbeats 2000000 in
theorem Contains1_bad {a b c d : Nat} {r k : Int} {v : Bool} {w : World} {p : Nat} (hp : At w p #[.complex .f64 c d]) (h : ¬ k = 0)
    (HC : Hid (∀ w, Calls Try.prog 119 #[.complex .f64 c d, .float .f64 4728779608739020800] w (Mem (.int .i64 k) w))) :
    Calls Try.prog 118 #[.agg #[.complex .f64 a b, .int .i64 r], .pointer (some ⟨p, 0, none⟩)] w (Mem (bovV false k) w) := by
  have HP := Lib.hid hp
  have p1 := hp.cell; have p2 := hp.lt
  clear hp
  unfold bovV at *
  go_enter Try.func118, Try.ntmps118
  go_wp2_with fail
  have K := (Hold.start w).new #[.complex .f64 a b, .int .i64 r] 95 (n := w.heap.size) (by simp)
  refine (HC.out _).mono ?_
  rintro e_1 w1 ⟨rfl, hb⟩
  have HQ := Lib.hid (At.below (HP.out.old _) hb)
  have K' := Hold.mem K hb
  clear hb K p1 HP
  have K := K'
  clear K'
  obtain ⟨_, sz1, h0, _⟩ := id K
  have q0 := h0.cell; have f0 := h0.frozen; have z1_0 := h0.lt
  clear h0
  have p1 := HQ.out.cell; have p3 := HQ.out.lt
  have g1 : (k == 0) = false := by simpa using h
  have g2 : (k != 0) = true := by simpa using h
  go_wp2_with fail
  exact bodyPost_ret (v := .tuple #[.bool false, .int .i64 k]) (by simp [results, Try.results118, go_sem, *]) rfl ⟨rfl, K.below⟩

set_option maxRecDepth 100000 in
set_option maxHeartbeats 2000000 in
theorem Contains1_ok {a b c d : Nat} {r k : Int} {v : Bool} {w : World} {p : Nat} (hp : At w p #[.complex .f64 c d]) (h : k = 0) (HN : Hid (∀ w, Calls Try.prog 120 #[.complex .f64 a b, .complex .f64 c d, .int .i64 r] w (Mem (.bool v) w)))
    (HC : Hid (∀ w, Calls Try.prog 119 #[.complex .f64 c d, .float .f64 4728779608739020800] w (Mem (.int .i64 k) w))) :
    Calls Try.prog 118 #[.agg #[.complex .f64 a b, .int .i64 r], .pointer (some ⟨p, 0, none⟩)] w (Mem (bovV v 0) w) := by
  have HP := Lib.hid hp
  have p1 := hp.cell; have p2 := hp.lt
  clear hp
  unfold bovV at *
  go_enter Try.func118, Try.ntmps118
  go_wp2_with fail
  have K := (Hold.start w).new #[.complex .f64 a b, .int .i64 r] 95 (n := w.heap.size) (by simp)
  refine (HC.out _).mono ?_
  rintro e_1 w1 ⟨rfl, hb⟩
  have HQ := Lib.hid (At.below (HP.out.old _) hb)
  have K' := Hold.mem K hb
  clear hb K p1 HP
  have K := K'
  clear K'
  obtain ⟨_, sz1, h0, _⟩ := id K
  have q0 := h0.cell; have f0 := h0.frozen; have z1_0 := h0.lt
  clear h0
  have p1 := HQ.out.cell; have p3 := HQ.out.lt
  subst h
  go_wp2_with fail
  refine (HN.out _).mono ?_
  rintro e_2 w2 ⟨rfl, hb⟩
  have K' := Hold.mem K hb
  clear hb K q0 f0 p1 p3 HQ
  go_wp2_with fail
  exact bodyPost_ret (v := .tuple #[.bool v, .int .i64 0]) (by simp [results, Try.results118, go_sem, *]) rfl ⟨rfl, K'.below⟩

/-- What Contains answers of a right ball: the error of the number, or whether it is near. -/
theorem Contains_any {a b c d : Nat} {x y u v : Int} (r : Int) (h : Cp a b x y) (hx : InF x) (hy : InF y) (g : Cp c d u v) (hu : InF u) (hv : InF v) (w : World) :
    Calls Try.prog 50 #[.agg #[.complex .f64 a b, .int .i64 r], .complex .f64 c d] w (Mem (if ckB x y r = 0 then (if ckP u v 134217728 = 0 then bovV (decide (sq2 (x - u) (y - v) ≤ r * r)) 0 else bovV false (ckP u v 134217728)) else bovV false 2) w) := by
  rcases ckB_cases x y r with h1 | h1
  · rw [if_pos h1]
    have HC := fun w => checkParts_any g hu hv (m := 134217728) ⟨by decide, by decide⟩ w
    rw [fi_most2] at HC
    by_cases hk : ckP u v 134217728 = 0
    · rw [if_pos hk]
      have hk' := hk
      unfold ckP szB at hk'
      have hb : -134217728 ≤ u ∧ u ≤ 134217728 ∧ -134217728 ≤ v ∧ v ≤ 134217728 := by
        split at hk'
        · rename_i hc
          simp at hc
          omega
        · cases hk'
      obtain ⟨⟨x1, x2⟩, ⟨y1, y2⟩, r1, r2⟩ := ckB_ok h1
      have HN := fun w => near_any (r := r) h g ⟨by omega, by omega⟩ ⟨by omega, by omega⟩ ⟨by omega, by omega⟩ ⟨by omega, by omega⟩ ⟨by omega, by omega⟩ w
      exact Contains_of (Lib.hid fun W p hp => ofOneBool_ok r h hx hy h1 (Lib.hid (ent_of Try.func118 (by kernel_rfl) rfl)) (Lib.hid fun W' hb => Contains1_ok (hp.below hb) hk (Lib.hid HN) (Lib.hid HC)))
    · rw [if_neg hk]
      exact Contains_of (Lib.hid fun W p hp => ofOneBool_ok r h hx hy h1 (Lib.hid (ent_of Try.func118 (by kernel_rfl) rfl)) (Lib.hid fun W' hb => Contains1_bad (v := true) (hp.below hb) hk (Lib.hid HC)))
  · rw [if_neg (by omega)]
    exact Contains_of (Lib.hid fun W p hp => ofOneBool_bad r h hx hy h1 _ W)

end Go.Proofs.Ythkooiopiaakbaa
