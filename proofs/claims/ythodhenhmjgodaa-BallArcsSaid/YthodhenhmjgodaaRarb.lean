/- The arcs of the reference in general. -/
import Derived.Test.YthodhenhmjgodaaRarc
import Derived.Test.YthodhenhmjgodaaArc
import Derived.Test.YthodhenhmjgodaaRefd
namespace Go.Proofs.Ythodhenhmjgodaa
open Go.RowKit Go.Lib
attribute [local go_sem] run_store_float run_store_complex
set_option linter.unusedVariables false

def arcRefV (lo hi : Int) : Value := if ckR lo hi 1099511627776 = 0 then chkV (rdiv (dir1 ((lo + hi) / 2 % 4194304)).1 64) (rdiv (dir1 ((lo + hi) / 2 % 4194304)).2 64) (arcR lo hi) else refV 0 0 0 (ckR lo hi 1099511627776)

theorem chkV_eq (x y r : Int) : ∃ a b c e, chkV x y r = refV a b c e := by
  unfold chkV
  split
  · exact ⟨_, _, _, _, rfl⟩
  · exact ⟨_, _, _, _, rfl⟩

theorem refArc_any (lo hi : Int) (w : World) : Calls Try.prog 61 #[.agg #[.int .i64 lo, .int .i64 hi]] w (Mem (arcRefV lo hi) w) := by
  have HL := fun w => Within_any lo (-1099511627776) 1099511627776 w
  have HH := fun w => Within_any hi (-1099511627776) 1099511627776 w
  have eL : wiB lo (-1099511627776) 1099511627776 = szB lo 1099511627776 := rfl
  have eH : wiB hi (-1099511627776) 1099511627776 = szB hi 1099511627776 := rfl
  rw [eL] at HL
  rw [eH] at HH
  unfold arcRefV
  by_cases h1 : szB lo 1099511627776 = true
  · by_cases h2 : szB hi 1099511627776 = true
    · by_cases h3 : hi < lo
      · have hc : ckR lo hi 1099511627776 = 10 := by unfold ckR; rw [h1, h2]; simp [h3]
        rw [hc, if_neg (by decide)]
        rw [h1] at HL; rw [h2] at HH
        exact refArc_order (Lib.hid HL) (Lib.hid HH) h3 w
      · have hc : ckR lo hi 1099511627776 = 0 := by unfold ckR; rw [h1, h2]; simp [h3]
        obtain ⟨⟨l1, l2⟩, ⟨g1, g2⟩, hle⟩ := ckR_ok hc
        rw [if_pos hc]
        rw [h1] at HL; rw [h2] at HH
        clear h1 h2 hc eL eH
        have HF := Lib.hid fun w => Floor_any (lo + hi) 2 (by omega) (by omega) (by decide) (by decide) w
        obtain ⟨m, hm⟩ : ∃ m, (lo + hi) / 2 = m := ⟨_, rfl⟩
        have m1 : lo ≤ m := by omega
        have m2 : m ≤ hi := by omega
        have HD := refDir_any (m := m) (by omega) (by omega)
        have hs := dir1_si (m % 4194304)
        unfold arcR
        rw [hm] at HF ⊢
        generalize dir1 (m % 4194304) = p at *
        obtain ⟨C, hC⟩ : ∃ C, cdiv (11 * (hi - m)) 7 = C := ⟨_, rfl⟩
        have HC := Lib.hid fun w => Ceil_any (11 * (hi - m)) 7 (by omega) (by omega) (by decide) (by decide) w
        rw [hC] at HC
        have hk : 0 ≤ C ∧ C ≤ 9000000000000 := by unfold cdiv at hC; omega
        rw [show (hi - m) * 11 = 11 * (hi - m) by omega, hC]
        have H1 := Lib.hid fun w => refRounded_any (n := p.1) (d := 64) ⟨by have := hs.1.1; omega, by have := hs.1.2; omega⟩ (by decide) (by decide) _ _ rfl rfl w
        have H2 := Lib.hid fun w => refRounded_any (n := p.2) (d := 64) ⟨by have := hs.2.1; omega, by have := hs.2.2; omega⟩ (by decide) (by decide) _ _ rfl rfl w
        have HM := Lib.hid fun w => Mod_any m 1048576 (by omega) (by omega) (by decide) (by decide) w
        by_cases e : lo = hi
        · have hml : m = lo := by omega
          by_cases e0 : lo % 1048576 = 0
          · rw [if_pos ⟨e, e0⟩]
            obtain ⟨a, b, c, f, hz⟩ := chkV_eq (rdiv p.1 64) (rdiv p.2 64) 0
            have HK := fun w => Checked_any (rdiv p.1 64) (rdiv p.2 64) 0 w
            rw [hz] at HK ⊢
            exact refArc_eq0 e (by rw [hml]; exact e0) rfl (Lib.hid HL) (Lib.hid HH) hle l1 g2 hm m1 m2 hs.1 hs.2 hk HF (Lib.hid HD) H1 H2 HC HM (Lib.hid HK) w
          · rw [if_neg (by omega)]
            obtain ⟨a, b, c, f, hz⟩ := chkV_eq (rdiv p.1 64) (rdiv p.2 64) (2 + C)
            have HK := fun w => Checked_any (rdiv p.1 64) (rdiv p.2 64) (2 + C) w
            rw [hz] at HK ⊢
            exact refArc_eq e (by rw [hml]; exact e0) rfl (Lib.hid HL) (Lib.hid HH) hle l1 g2 hm m1 m2 hs.1 hs.2 hk HF (Lib.hid HD) H1 H2 HC HM (Lib.hid HK) w
        · rw [if_neg (by omega)]
          obtain ⟨a, b, c, f, hz⟩ := chkV_eq (rdiv p.1 64) (rdiv p.2 64) (2 + C)
          have HK := fun w => Checked_any (rdiv p.1 64) (rdiv p.2 64) (2 + C) w
          rw [hz] at HK ⊢
          exact refArc_ne e rfl (Lib.hid HL) (Lib.hid HH) hle l1 g2 hm m1 m2 hs.1 hs.2 hk HF (Lib.hid HD) H1 H2 HC HM (Lib.hid HK) w
    · have h2' : szB hi 1099511627776 = false := by simpa using h2
      have hc : ckR lo hi 1099511627776 = 2 := by unfold ckR; rw [h1, h2']; rfl
      rw [hc, if_neg (by decide)]
      rw [h1] at HL; rw [h2'] at HH
      exact refArc_bad2 (Lib.hid HL) (Lib.hid HH) w
  · have h1' : szB lo 1099511627776 = false := by simpa using h1
    have hc : ckR lo hi 1099511627776 = 2 := by unfold ckR; rw [h1']; rfl
    rw [hc, if_neg (by decide)]
    rw [h1'] at HL
    exact refArc_bad1 (Lib.hid HL) w

theorem arcR_nn {lo hi : Int} (h : lo ≤ hi) : 0 ≤ arcR lo hi := by
  unfold arcR cdiv
  split <;> omega

theorem pair_arc (lo hi : Int) : Pair (ArcV (dir1 ((lo + hi) / 2 % 4194304)).1 (dir1 ((lo + hi) / 2 % 4194304)).2 lo hi) (arcRefV lo hi) := by
  unfold ArcV arcRefV arcV
  by_cases hc : ckR lo hi 1099511627776 = 0
  · rw [if_pos hc, if_pos hc]; exact pair_res (arcR_nn (ckR_ok hc).2.2)
  · rw [if_neg hc, if_neg hc]; exact pair_bad _
end Go.Proofs.Ythodhenhmjgodaa
