/- BallLies: the law. -/
import Derived.Test.YtgdhpgjfebinhaaGreatFzda
import Derived.Test.YtgdhpgjfebinhaaGreatFzdb
import Derived.Test.YtgdhpgjfebinhaaGreatFzdc
import Derived.Test.YtgdhpgjfebinhaaGreatFzdd
import Derived.Test.YtgdhpgjfebinhaaGreatFzde
import Derived.Test.YtgdhpgjfebinhaaGreatFzdf
namespace Go.Proofs.YtgdhpgjfebinhaaGreat.Ev
set_option linter.unusedSimpArgs false
open Go Go.RowKit
set_option linter.unusedVariables false
set_option maxRecDepth 100000
theorem both {u : Bool} {A B : Prop} (h : A) : ((u = true → ((u = true → A) ∧ (u = false → B))) ∧ (u = false → ((u = true → B) ∧ (u = false → A)))) :=

  ⟨fun e => ⟨fun _ => h, fun k => by simp [e] at k⟩, fun e => ⟨fun k => by simp [e] at k, fun _ => h⟩⟩

theorem bk_split {x y r : Int} : (okB x y r ∧ bk x y r = ⟨x, y, r, 0⟩) ∨ (¬ okB x y r ∧ bk x y r = be 8) := by

  by_cases h : okB x y r

  · exact .inl ⟨h, if_pos h⟩

  · exact .inr ⟨h, if_neg h⟩

theorem hull_in {X Y r Z W s : Int} (g : GB X Y r) (k : GB Z W s) : ∃ a b : Bool, Spec Tryz.prog ball_Inside_s ⟨[F X, F Y, r, F (hullQ X Y r Z W s).x, F (hullQ X Y r Z W s).y, (hullQ X Y r Z W s).r], [], []⟩ [0] [a] [] ∧ Spec Tryz.prog ball_Inside_s ⟨[F Z, F W, s, F (hullQ X Y r Z W s).x, F (hullQ X Y r Z W s).y, (hullQ X Y r Z W s).r], [], []⟩ [0] [b] [] ∧ ((hullQ X Y r Z W s).e = 0 → a = true ∧ b = true) := by

  have nn := hR_nn g k

  have gr := g.hr

  rcases bk_split (x := hX X Z) (y := hX Y W) (r := hR X Y r Z W s) with ⟨h1, h2⟩ | ⟨_, h2⟩

  · have e : hullQ X Y r Z W s = ⟨hX X Z, hX Y W, hR X Y r Z W s, 0⟩ := h2

    rw [e]

    have q : GB (hX X Z) (hX Y W) (hR X Y r Z W s) := ⟨h1.1, h1.2.1, by omega, h1.2.2⟩

    refine ⟨_, _, inside_g g q, inside_g k q, fun _ => ⟨?_, ?_⟩⟩

    · unfold isB; rw [decide_eq_true nn.1, decide_eq_true nn.2.2.1]; rfl

    · unfold isB; rw [decide_eq_true nn.2.1, decide_eq_true nn.2.2.2.1]; rfl

  · have e : hullQ X Y r Z W s = be 8 := h2

    rw [e]

    have q : GB (be 8).x (be 8).y (be 8).r := ⟨by decide, by decide, by decide⟩

    exact ⟨_, _, inside_g g q, inside_g k q, fun h => by simp [be] at h⟩

theorem hull_n {X Y r Z W s : Int} (g : GB X Y r) (k : GB Z W s) : BqN (hullQ X Y r Z W s) := bk_n (by have := (hR_nn g k).1; have := g.hr; omega)

theorem ofF {X Y r : Int} (hx : InF X) (hy : InF Y) (hr : I64 r) : Spec Tryz.prog etalonref01_Of_s ⟨[F X, F Y, r], [], []⟩ [X, Y, r] [] [] := of_s (Rp_fi X) (Rp_fi Y) hx hy hr

theorem stage2 {x0 x1 x2 x3 x4 x5 : Int} (r0 : I64 x0) (r1 : I64 x1) (r2 : I64 x2) (r3 : I64 x3) (r4 : I64 x4) (r5 : I64 x5) {R : Bool → Prop} (hT : R true) : (∃ v16 : Int, ∃ u2 : Bool, Spec Tryz.prog ball_Meets_s ⟨[(F (cutI x0)), (F (cutI x1)), x2, (F (cutI x3)), (F (cutI x4)), x5], [], []⟩ [v16] [u2] [] ∧ (∃ v17 : Int, ∃ u3 : Bool, Spec Tryz.prog ball_Inside_s ⟨[(F (cutI x0)), (F (cutI x1)), x2, (F (cutI x3)), (F (cutI x4)), x5], [], []⟩ [v17] [u3] [] ∧ (∃ v18 : Int, ∃ v19 : Int, ∃ v20 : Int, ∃ v21 : Int, Spec Tryz.prog ball_Hull_s ⟨[(F (cutI x0)), (F (cutI x1)), x2, (F (cutI x3)), (F (cutI x4)), x5], [], []⟩ [v18, v19, v20, v21] [] [] ∧ (∃ v22 : Int, Spec Tryz.prog _etalonlaw01_Whole__two_s ⟨[x0, x1, x2, x3, x4, x5], [], []⟩ [v22] [] [] ∧ ((((v22 : Int) == 0) = true → (∃ v23 : Int, ∃ v24 : Int, ∃ v25 : Int, Spec Tryz.prog etalonref01_Of_s ⟨[(F (cutI x0)), (F (cutI x1)), x2], [], []⟩ [v23, v24, v25] [] [] ∧ (∃ v26 : Int, ∃ v27 : Int, ∃ v28 : Int, Spec Tryz.prog etalonref01_Of_s ⟨[(F (cutI x3)), (F (cutI x4)), x5], [], []⟩ [v26, v27, v28] [] [] ∧ (∃ v29 : Int, ∃ v30 : Int, ∃ v31 : Int, ∃ v32 : Int, Spec Tryz.prog etalonref01_Hull_s ⟨[v23, v24, v25, v26, v27, v28], [], []⟩ [v29, v30, v31, v32] [] [] ∧ ((((v16 : Int) == 0) = true → ((((v17 : Int) == 0) = true → (∃ v33 : Int, ∃ v34 : Int, ∃ v35 : Int, Spec Tryz.prog etalonref01_Of_s ⟨[(F (cutI x0)), (F (cutI x1)), x2], [], []⟩ [v33, v34, v35] [] [] ∧ (∃ v36 : Int, ∃ v37 : Int, ∃ v38 : Int, Spec Tryz.prog etalonref01_Of_s ⟨[(F (cutI x3)), (F (cutI x4)), x5], [], []⟩ [v36, v37, v38] [] [] ∧ (∃ u4 : Bool, Spec Tryz.prog etalonref01_Meets_s ⟨[v33, v34, v35, v36, v37, v38], [], []⟩ [] [u4] [] ∧ ((u2 = true → ((u4 = true → (∃ u5 : Bool, Spec Tryz.prog etalonref01_Inside_s ⟨[v33, v34, v35, v36, v37, v38], [], []⟩ [] [u5] [] ∧ ((u3 = true → ((u5 = true → (∃ u6 : Bool, Spec Tryz.prog etalonlaw01_is_s ⟨[v18, v19, v20, v21, v29, v30, v31, v32], [], []⟩ [] [u6] [] ∧ ((u6 = true → (∃ v39 : Int, ∃ u7 : Bool, Spec Tryz.prog ball_Inside_s ⟨[(F (cutI x0)), (F (cutI x1)), x2, v18, v19, v20], [], []⟩ [v39] [u7] [] ∧ (∃ v40 : Int, ∃ u8 : Bool, Spec Tryz.prog ball_Inside_s ⟨[(F (cutI x3)), (F (cutI x4)), x5, v18, v19, v20], [], []⟩ [v40] [u8] [] ∧ ((((v32 : Int) == 0) = true → ((((v39 : Int) == 0) = true → ((((v40 : Int) == 0) = true → ((u7 = true → R (u8)) ∧ (u7 = false → R (false)))) ∧ (((v40 : Int) == 0) = false → R (false)))) ∧ (((v39 : Int) == 0) = false → R (false)))) ∧ (((v32 : Int) == 0) = false → R (true)))))) ∧ (u6 = false → R (false))))) ∧ (u5 = false → R (false)))) ∧ (u3 = false → ((u5 = true → R (false)) ∧ (u5 = false → (∃ u6 : Bool, Spec Tryz.prog etalonlaw01_is_s ⟨[v18, v19, v20, v21, v29, v30, v31, v32], [], []⟩ [] [u6] [] ∧ ((u6 = true → (∃ v39 : Int, ∃ u7 : Bool, Spec Tryz.prog ball_Inside_s ⟨[(F (cutI x0)), (F (cutI x1)), x2, v18, v19, v20], [], []⟩ [v39] [u7] [] ∧ (∃ v40 : Int, ∃ u8 : Bool, Spec Tryz.prog ball_Inside_s ⟨[(F (cutI x3)), (F (cutI x4)), x5, v18, v19, v20], [], []⟩ [v40] [u8] [] ∧ ((((v32 : Int) == 0) = true → ((((v39 : Int) == 0) = true → ((((v40 : Int) == 0) = true → ((u7 = true → R (u8)) ∧ (u7 = false → R (false)))) ∧ (((v40 : Int) == 0) = false → R (false)))) ∧ (((v39 : Int) == 0) = false → R (false)))) ∧ (((v32 : Int) == 0) = false → R (true)))))) ∧ (u6 = false → R (false)))))))))) ∧ (u4 = false → R (false)))) ∧ (u2 = false → ((u4 = true → R (false)) ∧ (u4 = false → (∃ u5 : Bool, Spec Tryz.prog etalonref01_Inside_s ⟨[v33, v34, v35, v36, v37, v38], [], []⟩ [] [u5] [] ∧ ((u3 = true → ((u5 = true → (∃ u6 : Bool, Spec Tryz.prog etalonlaw01_is_s ⟨[v18, v19, v20, v21, v29, v30, v31, v32], [], []⟩ [] [u6] [] ∧ ((u6 = true → (∃ v39 : Int, ∃ u7 : Bool, Spec Tryz.prog ball_Inside_s ⟨[(F (cutI x0)), (F (cutI x1)), x2, v18, v19, v20], [], []⟩ [v39] [u7] [] ∧ (∃ v40 : Int, ∃ u8 : Bool, Spec Tryz.prog ball_Inside_s ⟨[(F (cutI x3)), (F (cutI x4)), x5, v18, v19, v20], [], []⟩ [v40] [u8] [] ∧ ((((v32 : Int) == 0) = true → ((((v39 : Int) == 0) = true → ((((v40 : Int) == 0) = true → ((u7 = true → R (u8)) ∧ (u7 = false → R (false)))) ∧ (((v40 : Int) == 0) = false → R (false)))) ∧ (((v39 : Int) == 0) = false → R (false)))) ∧ (((v32 : Int) == 0) = false → R (true)))))) ∧ (u6 = false → R (false))))) ∧ (u5 = false → R (false)))) ∧ (u3 = false → ((u5 = true → R (false)) ∧ (u5 = false → (∃ u6 : Bool, Spec Tryz.prog etalonlaw01_is_s ⟨[v18, v19, v20, v21, v29, v30, v31, v32], [], []⟩ [] [u6] [] ∧ ((u6 = true → (∃ v39 : Int, ∃ u7 : Bool, Spec Tryz.prog ball_Inside_s ⟨[(F (cutI x0)), (F (cutI x1)), x2, v18, v19, v20], [], []⟩ [v39] [u7] [] ∧ (∃ v40 : Int, ∃ u8 : Bool, Spec Tryz.prog ball_Inside_s ⟨[(F (cutI x3)), (F (cutI x4)), x5, v18, v19, v20], [], []⟩ [v40] [u8] [] ∧ ((((v32 : Int) == 0) = true → ((((v39 : Int) == 0) = true → ((((v40 : Int) == 0) = true → ((u7 = true → R (u8)) ∧ (u7 = false → R (false)))) ∧ (((v40 : Int) == 0) = false → R (false)))) ∧ (((v39 : Int) == 0) = false → R (false)))) ∧ (((v32 : Int) == 0) = false → R (true)))))) ∧ (u6 = false → R (false))))))))))))))))) ∧ (((v17 : Int) == 0) = false → R (false)))) ∧ (((v16 : Int) == 0) = false → R (false))))))) ∧ (((v22 : Int) == 0) = false → ((((v16 : Int) == v22) = true → ((((v17 : Int) == v22) = true → ((u2 = true → R (false)) ∧ (u2 = false → ((u3 = true → R (false)) ∧ (u3 = false → (∃ u4 : Bool, Spec Tryz.prog etalonlaw01_is_s ⟨[v18, v19, v20, v21, 0, 0, 0, v22], [], []⟩ [] [u4] [] ∧ R (u4))))))) ∧ (((v17 : Int) == v22) = false → R (false)))) ∧ (((v16 : Int) == v22) = false → R (false))))))))) := by

  have iX := cutI_F x0

  have iY := cutI_F x1

  have iZ := cutI_F x3

  have iW := cutI_F x4

  have tw := wtwo_s r0 r1 r2 r3 r4 r5

  generalize cutI x0 = X at *

  generalize cutI x1 = Y at *

  generalize cutI x3 = Z at *

  generalize cutI x4 = W at *

  by_cases h : fe (ckW X Y x2) (ckW Z W x5) = 0

  · obtain ⟨h1, h2⟩ := fe_two h

    have g := ckW_gb h1

    have k := ckW_gb h2

    rw [h] at tw

    have o1 := ofF iX iY r2

    have o2 := ofF iZ iW r5

    obtain ⟨a, b, ha, hb, hab⟩ := hull_in g k

    refine ⟨_, _, meets_g g k, _, _, inside_g g k, _, _, _, _, hull_g g k, _, tw, fun _ => ⟨_, _, _, o1, _, _, _, o2, _, _, _, _, hull_r g k, fun _ => ⟨fun _ => ⟨_, _, _, o1, _, _, _, o2, _, meets_r g k, both ⟨_, inside_r g k, both ⟨_, (hull_n g k).is, fun _ => ⟨_, _, ha, _, _, hb, fun he => ⟨fun _ => ⟨fun _ => ⟨fun _ => ?_, fun hf => ?_⟩, fun h => by simp at h⟩, fun h => by simp at h⟩, fun _ => hT⟩, fun h => by cases h⟩⟩⟩, fun h => by simp at h⟩, fun h => by simp at h⟩, fun h => by simp at h⟩

    · have := hab (by simpa using he)

      rw [this.2]; exact hT

    · have := hab (by simpa using he)

      rw [this.1] at hf; cases hf

  · have hv := fe_v (ckW_v X Y x2) (ckW_v Z W x5)

    exact ⟨_, _, meets_b iX iY r2 iZ iW r5 h, _, _, inside_b iX iY r2 iZ iW r5 h, _, _, _, _, hull_b iX iY r2 iZ iW r5 h, _, tw, fun e => absurd (by simpa using e) h, fun _ => ⟨fun _ => ⟨fun _ => ⟨fun e => by (cases e), fun _ => ⟨fun e => by (cases e), fun _ => ⟨_, is_s (x := 0) (y := 0) (r := 0) (e := fe (ckW X Y x2) (ckW Z W x5)) (by decide) (by decide) (by decide) (by omega), hT⟩⟩⟩, fun e => by simp at e⟩, fun e => by simp at e⟩⟩

theorem lies {x0 x1 x2 x3 x4 x5 x6 x7 : Int} (r0 : I64 x0) (r1 : I64 x1) (r2 : I64 x2) (r3 : I64 x3) (r4 : I64 x4) (r5 : I64 x5) (r6 : I64 x6) (r7 : I64 x7) : Spec Tryz.prog etalonlaw01_BallLies_s ⟨[x0, x1, x2, x3, x4, x5, x6, x7], [], []⟩ [] [true] [] := by

  have w0 : Spec Tryz.prog _etalonlaw01_Whole__ball_s ⟨[x0, x1, x2], [], []⟩ [F (cutI x0), F (cutI x1), x2] [] [] := wball_s r0 r1 r2

  have w1 : Spec Tryz.prog _etalonlaw01_Whole__ball_s ⟨[x3, x4, x5], [], []⟩ [F (cutI x3), F (cutI x4), x5] [] [] := wball_s r3 r4 r5

  have e0 := werr_s r0 r1 r2

  have s2 := stage2 r0 r1 r2 r3 r4 r5 (R := (· = true)) rfl

  have iX := cutI_F x0

  have iY := cutI_F x1

  have iA := cutI_F x6

  have iB := cutI_F x7

  have q6 : cutI x6 = x6 ∨ (x6 < -9007199254740992 ∧ cutI x6 = -9007199254740992) ∨ (9007199254740992 < x6 ∧ cutI x6 = 9007199254740992) := by unfold cutI; split <;> split <;> omega

  have q7 : cutI x7 = x7 ∨ (x7 < -9007199254740992 ∧ cutI x7 = -9007199254740992) ∨ (9007199254740992 < x7 ∧ cutI x7 = 9007199254740992) := by unfold cutI; split <;> split <;> omega

  have m1 := ckW_v (cutI x0) (cutI x1) x2

  by_cases hp : ((-134217728) ≤ cutI x6 ∧ cutI x6 ≤ 134217728) ∧ ((-134217728) ≤ cutI x7 ∧ cutI x7 ≤ 134217728)

  · have p0 : ckP (cutI x6) (cutI x7) = 0 := if_pos hp

    obtain ⟨ha, hb⟩ := hp

    by_cases h1 : ckW (cutI x0) (cutI x1) x2 = 0

    · have g := ckW_gb h1

      have e6 : cutI x6 = x6 := by omega

      have e7 : cutI x7 = x7 := by omega

      have cr := contains_r (A := x6) (B := x7) g (by omega) (by omega)

      rw [show coB (cutI x0) (cutI x1) x2 x6 x7 = coB (cutI x0) (cutI x1) x2 (cutI x6) (cutI x7) by rw [e6, e7]] at cr

      have o1 := ofF iX iY r2

      rw [h1] at e0

      exact outt (blia r0 r1 r2 r3 r4 r5 (by omega) (by omega) (R := (· = true)) ⟨_, awake_t, fun _ => ⟨_, _, _, w0, _, _, _, w1, _, _, contains_g g ha hb, _, e0, by decide, fun _ => ⟨_, _, _, o1, _, cr, both s2⟩, fun e => by simp at e⟩, fun e => by cases e⟩)

    · have ev : fe (ckW (cutI x0) (cutI x1) x2) (ckP (cutI x6) (cutI x7)) = ckW (cutI x0) (cutI x1) x2 := if_neg h1

      have cb := contains_b iX iY r2 iA iB (by rw [ev]; exact h1)

      rw [ev] at cb

      exact outt (blif r0 r1 r2 r3 r4 r5 (by omega) (by omega) (R := (· = true)) ⟨_, awake_t, fun _ => ⟨_, _, _, w0, _, _, _, w1, _, _, cb, _, e0, fun e => absurd (by simpa using e) h1, fun _ => ⟨fun _ => ⟨fun e => by (cases e), fun _ => s2⟩, fun e => by simp at e⟩⟩, fun e => by cases e⟩)

  · have p0 : ckP (cutI x6) (cutI x7) = 2 := if_neg hp

    have key : ∃ a b : Int, Spec Tryz.prog ball_Contains_s ⟨[F (cutI x0), F (cutI x1), x2, F (cutI x6), F (cutI x7)], [], []⟩ [a] [false] [] ∧ Spec Tryz.prog _etalonlaw01_Whole__err_s ⟨[x0, x1, x2], [], []⟩ [b] [] [] ∧ ((b = 0 ∧ a = 2) ∨ (b ≠ 0 ∧ a = b)) := by

      by_cases h1 : ckW (cutI x0) (cutI x1) x2 = 0

      · have ev : fe (ckW (cutI x0) (cutI x1) x2) (ckP (cutI x6) (cutI x7)) = 2 := by unfold fe; rw [if_pos h1, p0]

        have cb := contains_b iX iY r2 iA iB (by rw [ev]; decide)

        exact ⟨_, _, cb, e0, .inl ⟨h1, ev⟩⟩

      · have ev : fe (ckW (cutI x0) (cutI x1) x2) (ckP (cutI x6) (cutI x7)) = ckW (cutI x0) (cutI x1) x2 := if_neg h1

        have cb := contains_b iX iY r2 iA iB (by rw [ev]; exact h1)

        exact ⟨_, _, cb, e0, .inr ⟨h1, ev⟩⟩

    obtain ⟨a, b, cb, eb, hab⟩ := key

    rcases Int.lt_or_le x6 (-134217728) with c1 | c1

    · exact outt (blib r0 r1 r2 r3 r4 r5 (by omega) r7 (R := (· = true)) ⟨_, awake_t, fun _ => ⟨_, _, _, w0, _, _, _, w1, _, _, cb, _, eb, fun e => ⟨fun _ => ⟨fun k => by (cases k), fun _ => s2⟩, fun k => by simp at e k; omega⟩, fun e => ⟨fun _ => ⟨fun k => by (cases k), fun _ => s2⟩, fun k => by simp at e k; omega⟩⟩, fun e => by cases e⟩)

    rcases Int.lt_or_le 134217728 x6 with c2 | c2

    · exact outt (blic r0 r1 r2 r3 r4 r5 (by omega) r7 (R := (· = true)) ⟨_, awake_t, fun _ => ⟨_, _, _, w0, _, _, _, w1, _, _, cb, _, eb, fun e => ⟨fun _ => ⟨fun k => by (cases k), fun _ => s2⟩, fun k => by simp at e k; omega⟩, fun e => ⟨fun _ => ⟨fun k => by (cases k), fun _ => s2⟩, fun k => by simp at e k; omega⟩⟩, fun e => by cases e⟩)

    rcases Int.lt_or_le x7 (-134217728) with c3 | c3

    · exact outt (blid r0 r1 r2 r3 r4 r5 (by omega) (by omega) (R := (· = true)) ⟨_, awake_t, fun _ => ⟨_, _, _, w0, _, _, _, w1, _, _, cb, _, eb, fun e => ⟨fun _ => ⟨fun k => by (cases k), fun _ => s2⟩, fun k => by simp at e k; omega⟩, fun e => ⟨fun _ => ⟨fun k => by (cases k), fun _ => s2⟩, fun k => by simp at e k; omega⟩⟩, fun e => by cases e⟩)

    rcases Int.lt_or_le 134217728 x7 with c4 | c4

    · exact outt (blie r0 r1 r2 r3 r4 r5 (by omega) (by omega) (R := (· = true)) ⟨_, awake_t, fun _ => ⟨_, _, _, w0, _, _, _, w1, _, _, cb, _, eb, fun e => ⟨fun _ => ⟨fun k => by (cases k), fun _ => s2⟩, fun k => by simp at e k; omega⟩, fun e => ⟨fun _ => ⟨fun k => by (cases k), fun _ => s2⟩, fun k => by simp at e k; omega⟩⟩, fun e => by cases e⟩)

    exact absurd ⟨by omega, by omega⟩ hp

end Go.Proofs.YtgdhpgjfebinhaaGreat.Ev
