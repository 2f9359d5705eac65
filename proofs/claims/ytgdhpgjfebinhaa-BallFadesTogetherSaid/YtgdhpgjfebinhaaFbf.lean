/- What fades; BallFades. -/
import Derived.Test.YtgdhpgjfebinhaaFbk
import Derived.Test.YtgdhpgjfebinhaaFadr
import Derived.Test.YtgdhpgjfebinhaaFqs
import Derived.Test.YtgdhpgjfebinhaaFre
namespace Go.Proofs.Ytgdhpgjfebinhaa.Ev
set_option linter.unusedSimpArgs false
open Go Go.RowKit
set_option linter.unusedVariables false
set_option maxRecDepth 100000
def ball_fadingUp_s : Sig := ⟨120, ⟨1, 0, 0⟩, ⟨1, 0, 0⟩, [(.int .i64 (.var 0))], [], (.int .i64 (.var 1)), []⟩
def ball_fadingDown_s : Sig := ⟨119, ⟨1, 0, 0⟩, ⟨1, 0, 0⟩, [(.int .i64 (.var 0))], [], (.int .i64 (.var 1)), []⟩
def etalonref01_fade_s : Sig := ⟨121, ⟨1, 1, 0⟩, ⟨1, 0, 0⟩, [(.int .i64 (.var 0)), (.bool (.var 0))], [], (.int .i64 (.var 1)), []⟩
def ball_Fading_s : Sig := ⟨56, ⟨2, 0, 0⟩, ⟨3, 0, 0⟩, [(.agg [(.int .i64 (.var 0)), (.int .i64 (.var 1))])], [], (.tuple [(.agg [(.int .i64 (.var 2)), (.int .i64 (.var 3))]), (.int .i64 (.var 4))]), []⟩
def etalonref01_Fading_s : Sig := ⟨57, ⟨2, 0, 0⟩, ⟨3, 0, 0⟩, [(.agg [(.int .i64 (.var 0)), (.int .i64 (.var 1))])], [], (.tuple [(.agg [(.int .i64 (.var 2)), (.int .i64 (.var 3))]), (.int .i64 (.var 4))]), []⟩
def etalonlaw01_BallFades_s : Sig := ⟨11, ⟨2, 0, 0⟩, ⟨0, 1, 0⟩, [(.agg [(.int .i64 (.var 0)), (.int .i64 (.var 1))])], [], (.bool (.var 0)), []⟩

def fg_t : Tr :=
  (.ite (.icmp .leq (.lit 0) (.var 0))
  (.ite (.icmp .leq (.bin .maxI (.var 0) (.var 1)) (.lit 1099511627776))
   (.ite (.icmp .leq (.var 0) (.var 1))
    (.ite (.icmp .leq (.var 1) (.lit 16777216))
     (.call ball_fadingDown_s ⟨[(.var 1)], [], []⟩ ⟨[(.var 1), (.var 2)], [], []⟩ ⟨119, [(.int .i64 (.var 1))], [], [none, none, none], (.int .i64 (.var 2)), []⟩
      (.rng 2 0 1073741824 (.call whole_Lower_s ⟨[(.var 2), (.lit 1048576), (.lit 1073741824)], [], []⟩ ⟨[(.var 2), (.lit 1048576), (.lit 1073741824), (.var 3)], [], []⟩ ⟨65, [(.int .i64 (.var 2)), (.int .i64 (.lit 1048576)), (.int .i64 (.lit 1073741824))], [], [none, none, none], (.int .i64 (.var 3)), []⟩
      (.ite (.icmp .leq (.var 0) (.lit 16777216))
      (.call ball_fadingUp_s ⟨[(.var 0)], [], []⟩ ⟨[(.var 0), (.var 4)], [], []⟩ ⟨120, [(.int .i64 (.var 0))], [], [none, none, none], (.int .i64 (.var 4)), []⟩
       (.rng 4 0 1073741824 (.call whole_Upper_s ⟨[(.var 4), (.lit 1048576), (.lit 1073741824)], [], []⟩ ⟨[(.var 4), (.lit 1048576), (.lit 1073741824), (.var 5)], [], []⟩ ⟨93, [(.int .i64 (.var 4)), (.int .i64 (.lit 1048576)), (.int .i64 (.lit 1073741824))], [], [none, none, none], (.int .i64 (.var 5)), []⟩
       (.ret ⟨[(.bin .maxI (.var 3) (.lit 0)), (.bin .minI (.var 5) (.lit 1048576)), (.lit 0)], [], []⟩ []))))
      (.ret ⟨[(.bin .maxI (.var 3) (.lit 0)), (.lit 1), (.lit 0)], [], []⟩ [])))))
     (.ite (.icmp .leq (.var 0) (.lit 16777216))
      (.call ball_fadingUp_s ⟨[(.var 0)], [], []⟩ ⟨[(.var 0), (.var 2)], [], []⟩ ⟨120, [(.int .i64 (.var 0))], [], [none, none, none], (.int .i64 (.var 2)), []⟩
       (.rng 2 0 1073741824 (.call whole_Upper_s ⟨[(.var 2), (.lit 1048576), (.lit 1073741824)], [], []⟩ ⟨[(.var 2), (.lit 1048576), (.lit 1073741824), (.var 3)], [], []⟩ ⟨93, [(.int .i64 (.var 2)), (.int .i64 (.lit 1048576)), (.int .i64 (.lit 1073741824))], [], [none, none, none], (.int .i64 (.var 3)), []⟩
       (.ret ⟨[(.lit 0), (.bin .minI (.var 3) (.lit 1048576)), (.lit 0)], [], []⟩ []))))
      (.ret ⟨[(.lit 0), (.lit 1), (.lit 0)], [], []⟩ [])))
    (.ret ⟨[(.lit 0), (.lit 0), (.lit 10)], [], []⟩ []))
   (.ret ⟨[(.lit 0), (.lit 0), (.lit 2)], [], []⟩ []))
  (.ret ⟨[(.lit 0), (.lit 0), (.lit 2)], [], []⟩ []))
theorem fg {x0 x1 : Int} (r0 : (-9223372036854775808) ≤ x0 ∧ x0 ≤ 9223372036854775807) (r1 : (-9223372036854775808) ≤ x1 ∧ x1 ≤ 9223372036854775807) {R : Int → Int → Int → Prop}
  (H : ((decide ((0 : Int) ≤ x0) = true → ((decide (((if (x1 : Int) > x0 then x1 else x0) : Int) ≤ 1099511627776) = true → ((decide ((x0 : Int) ≤ x1) = true → ((decide ((x1 : Int) ≤ 16777216) = true → (∃ v2 : Int, Spec Try.prog ball_fadingDown_s ⟨[x1], [], []⟩ [v2] [] [] ∧
       ((0 ≤ (v2 : Int) ∧ (v2 : Int) ≤ 1073741824) ∧ (∃ v3 : Int, Spec Try.prog whole_Lower_s ⟨[v2, 1048576, 1073741824], [], []⟩ [v3] [] [] ∧
       ((decide ((x0 : Int) ≤ 16777216) = true → (∃ v4 : Int, Spec Try.prog ball_fadingUp_s ⟨[x0], [], []⟩ [v4] [] [] ∧
        ((0 ≤ (v4 : Int) ∧ (v4 : Int) ≤ 1073741824) ∧ (∃ v5 : Int, Spec Try.prog whole_Upper_s ⟨[v4, 1048576, 1073741824], [], []⟩ [v5] [] [] ∧
        R ((if (0 : Int) > v3 then 0 else v3)) ((if (1048576 : Int) < v5 then 1048576 else v5)) (0))))) ∧
       (decide ((x0 : Int) ≤ 16777216) = false → R ((if (0 : Int) > v3 then 0 else v3)) (1) (0))))))) ∧
      (decide ((x1 : Int) ≤ 16777216) = false → ((decide ((x0 : Int) ≤ 16777216) = true → (∃ v2 : Int, Spec Try.prog ball_fadingUp_s ⟨[x0], [], []⟩ [v2] [] [] ∧
        ((0 ≤ (v2 : Int) ∧ (v2 : Int) ≤ 1073741824) ∧ (∃ v3 : Int, Spec Try.prog whole_Upper_s ⟨[v2, 1048576, 1073741824], [], []⟩ [v3] [] [] ∧
        R (0) ((if (1048576 : Int) < v3 then 1048576 else v3)) (0))))) ∧
       (decide ((x0 : Int) ≤ 16777216) = false → R (0) (1) (0)))))) ∧
     (decide ((x0 : Int) ≤ x1) = false → R (0) (0) (10)))) ∧
    (decide (((if (x1 : Int) > x0 then x1 else x0) : Int) ≤ 1099511627776) = false → R (0) (0) (2)))) ∧
   (decide ((0 : Int) ≤ x0) = false → R (0) (0) (2)))) :
    ∃ v0 : Int, ∃ v1 : Int, ∃ v2 : Int, R v0 v1 v2 ∧ Spec Try.prog ball_Fading_s ⟨[x0, x1], [], []⟩ [v0, v1, v2] [] [] :=
  Eq.mp (by kernel_rfl) (exV_of (K := fun d => app3 ball_Fading_s.out R d ∧ Spec Try.prog ball_Fading_s ⟨[x0, x1], [], []⟩ d.1 d.2.1 d.2.2) (tree_at mixed names S1_ok (S := S1 Try.prog) (lf := 100000) (d := 60) ball_Fading_s fg_t { ivs := [(0, (-9223372036854775808), 9223372036854775807), (1, (-9223372036854775808), 9223372036854775807)], aivs := [] } ⟨[x0, x1], [], []⟩ rfl (by kernel_rfl) (by kernel_rfl) (by kernel_rfl) ⟨(fc r0 (fc r1 fz)), fz, fz, fz⟩ (R := fun d => app3 ball_Fading_s.out R d) (Eq.mp (by kernel_rfl) H)))

def rfg_t : Tr :=
  (.ite (.icmp .leq (.lit 0) (.var 0))
  (.ite (.icmp .leq (.var 0) (.lit 1099511627776))
   (.ite (.icmp .leq (.var 1) (.lit 1099511627776))
    (.ite (.icmp .leq (.var 0) (.var 1))
     (.ite (.icmp .leq (.var 1) (.lit 16777216))
      (.call etalonref01_fade_s ⟨[(.var 1)], [(.lit false)], []⟩ ⟨[(.var 1), (.var 2)], [(.lit false)], []⟩ ⟨121, [(.int .i64 (.var 1)), (.bool (.lit false))], [], [none, none, none], (.int .i64 (.var 2)), []⟩
       (.call etalonbase_Floor_s ⟨[(.var 2), (.lit 1024)], [], []⟩ ⟨[(.var 2), (.lit 1024), (.var 3)], [], []⟩ ⟨55, [(.int .i64 (.var 2)), (.int .i64 (.lit 1024))], [], [none, none, none], (.int .i64 (.var 3)), []⟩
       (.ite (.icmp .leq (.var 0) (.lit 16777216))
       (.call etalonref01_fade_s ⟨[(.var 0)], [(.lit true)], []⟩ ⟨[(.var 0), (.var 4)], [(.lit true)], []⟩ ⟨121, [(.int .i64 (.var 0)), (.bool (.lit true))], [], [none, none, none], (.int .i64 (.var 4)), []⟩
        (.call etalonbase_Ceil_s ⟨[(.var 4), (.lit 1024)], [], []⟩ ⟨[(.var 4), (.lit 1024), (.var 5)], [], []⟩ ⟨95, [(.int .i64 (.var 4)), (.int .i64 (.lit 1024))], [], [none, none, none], (.int .i64 (.var 5)), []⟩
        (.ret ⟨[(.bin .maxI (.lit 0) (.var 3)), (.bin .minI (.lit 1048576) (.var 5)), (.lit 0)], [], []⟩ [])))
       (.ret ⟨[(.bin .maxI (.lit 0) (.var 3)), (.lit 1), (.lit 0)], [], []⟩ []))))
      (.ite (.icmp .leq (.var 0) (.lit 16777216))
       (.call etalonref01_fade_s ⟨[(.var 0)], [(.lit true)], []⟩ ⟨[(.var 0), (.var 2)], [(.lit true)], []⟩ ⟨121, [(.int .i64 (.var 0)), (.bool (.lit true))], [], [none, none, none], (.int .i64 (.var 2)), []⟩
        (.call etalonbase_Ceil_s ⟨[(.var 2), (.lit 1024)], [], []⟩ ⟨[(.var 2), (.lit 1024), (.var 3)], [], []⟩ ⟨95, [(.int .i64 (.var 2)), (.int .i64 (.lit 1024))], [], [none, none, none], (.int .i64 (.var 3)), []⟩
        (.ret ⟨[(.lit 0), (.bin .minI (.lit 1048576) (.var 3)), (.lit 0)], [], []⟩ [])))
       (.ret ⟨[(.lit 0), (.lit 1), (.lit 0)], [], []⟩ [])))
     (.ret ⟨[(.lit 0), (.lit 0), (.lit 10)], [], []⟩ []))
    (.ret ⟨[(.lit 0), (.lit 0), (.lit 2)], [], []⟩ []))
   (.ret ⟨[(.lit 0), (.lit 0), (.lit 2)], [], []⟩ []))
  (.ret ⟨[(.lit 0), (.lit 0), (.lit 2)], [], []⟩ []))
theorem rfg {x0 x1 : Int} (r0 : (-9223372036854775808) ≤ x0 ∧ x0 ≤ 9223372036854775807) (r1 : (-9223372036854775808) ≤ x1 ∧ x1 ≤ 9223372036854775807) {R : Int → Int → Int → Prop}
  (H : ((decide ((0 : Int) ≤ x0) = true → ((decide ((x0 : Int) ≤ 1099511627776) = true → ((decide ((x1 : Int) ≤ 1099511627776) = true → ((decide ((x0 : Int) ≤ x1) = true → ((decide ((x1 : Int) ≤ 16777216) = true → (∃ v2 : Int, Spec Try.prog etalonref01_fade_s ⟨[x1], [false], []⟩ [v2] [] [] ∧
        (∃ v3 : Int, Spec Try.prog etalonbase_Floor_s ⟨[v2, 1024], [], []⟩ [v3] [] [] ∧
        ((decide ((x0 : Int) ≤ 16777216) = true → (∃ v4 : Int, Spec Try.prog etalonref01_fade_s ⟨[x0], [true], []⟩ [v4] [] [] ∧
         (∃ v5 : Int, Spec Try.prog etalonbase_Ceil_s ⟨[v4, 1024], [], []⟩ [v5] [] [] ∧
         R ((if (v3 : Int) > 0 then v3 else 0)) ((if (v5 : Int) < 1048576 then v5 else 1048576)) (0)))) ∧
        (decide ((x0 : Int) ≤ 16777216) = false → R ((if (v3 : Int) > 0 then v3 else 0)) (1) (0)))))) ∧
       (decide ((x1 : Int) ≤ 16777216) = false → ((decide ((x0 : Int) ≤ 16777216) = true → (∃ v2 : Int, Spec Try.prog etalonref01_fade_s ⟨[x0], [true], []⟩ [v2] [] [] ∧
         (∃ v3 : Int, Spec Try.prog etalonbase_Ceil_s ⟨[v2, 1024], [], []⟩ [v3] [] [] ∧
         R (0) ((if (v3 : Int) < 1048576 then v3 else 1048576)) (0)))) ∧
        (decide ((x0 : Int) ≤ 16777216) = false → R (0) (1) (0)))))) ∧
      (decide ((x0 : Int) ≤ x1) = false → R (0) (0) (10)))) ∧
     (decide ((x1 : Int) ≤ 1099511627776) = false → R (0) (0) (2)))) ∧
    (decide ((x0 : Int) ≤ 1099511627776) = false → R (0) (0) (2)))) ∧
   (decide ((0 : Int) ≤ x0) = false → R (0) (0) (2)))) :
    ∃ v0 : Int, ∃ v1 : Int, ∃ v2 : Int, R v0 v1 v2 ∧ Spec Try.prog etalonref01_Fading_s ⟨[x0, x1], [], []⟩ [v0, v1, v2] [] [] :=
  Eq.mp (by kernel_rfl) (exV_of (K := fun d => app3 etalonref01_Fading_s.out R d ∧ Spec Try.prog etalonref01_Fading_s ⟨[x0, x1], [], []⟩ d.1 d.2.1 d.2.2) (tree_at mixed names S1_ok (S := S1 Try.prog) (lf := 100000) (d := 60) etalonref01_Fading_s rfg_t { ivs := [(0, (-9223372036854775808), 9223372036854775807), (1, (-9223372036854775808), 9223372036854775807)], aivs := [] } ⟨[x0, x1], [], []⟩ rfl (by kernel_rfl) (by kernel_rfl) (by kernel_rfl) ⟨(fc r0 (fc r1 fz)), fz, fz, fz⟩ (R := fun d => app3 etalonref01_Fading_s.out R d) (Eq.mp (by kernel_rfl) H)))

def bfl_t : Tr :=
  (.call etalonlaw01_awake_s ⟨[], [], []⟩ ⟨[], [(.var 0)], []⟩ ⟨16, [], [], [none], (.bool (.var 0)), []⟩
  (.ite (.var 0)
  (.call ball_Fading_s ⟨[(.var 0), (.var 1)], [], []⟩ ⟨[(.var 0), (.var 1), (.var 2), (.var 3), (.var 4)], [], []⟩ ⟨56, [(.agg [(.int .i64 (.var 0)), (.int .i64 (.var 1))])], [], [none], (.tuple [(.agg [(.int .i64 (.var 2)), (.int .i64 (.var 3))]), (.int .i64 (.var 4))]), []⟩
   (.call etalonref01_Fading_s ⟨[(.var 0), (.var 1)], [], []⟩ ⟨[(.var 0), (.var 1), (.var 5), (.var 6), (.var 7)], [], []⟩ ⟨57, [(.agg [(.int .i64 (.var 0)), (.int .i64 (.var 1))])], [], [none, none], (.tuple [(.agg [(.int .i64 (.var 5)), (.int .i64 (.var 6))]), (.int .i64 (.var 7))]), []⟩
   (.ite (.icmp .eql (.var 4) (.var 7))
   (.ret ⟨[], [(.and (.icmp .eql (.var 2) (.var 5)) (.icmp .eql (.var 3) (.var 6)))], []⟩ [])
   (.ret ⟨[], [(.lit false)], []⟩ []))))
  (.ret ⟨[], [(.lit false)], []⟩ [])))
theorem bfl {x0 x1 : Int} (r0 : (-9223372036854775808) ≤ x0 ∧ x0 ≤ 9223372036854775807) (r1 : (-9223372036854775808) ≤ x1 ∧ x1 ≤ 9223372036854775807) {R : Bool → Prop}
  (H : (∃ u0 : Bool, Spec Try.prog etalonlaw01_awake_s ⟨[], [], []⟩ [] [u0] [] ∧
   ((u0 = true → (∃ v2 : Int, ∃ v3 : Int, ∃ v4 : Int, Spec Try.prog ball_Fading_s ⟨[x0, x1], [], []⟩ [v2, v3, v4] [] [] ∧
    (∃ v5 : Int, ∃ v6 : Int, ∃ v7 : Int, Spec Try.prog etalonref01_Fading_s ⟨[x0, x1], [], []⟩ [v5, v6, v7] [] [] ∧
    ((((v4 : Int) == v7) = true → R ((((v2 : Int) == v5) && ((v3 : Int) == v6)))) ∧
    (((v4 : Int) == v7) = false → R (false)))))) ∧
   (u0 = false → R (false))))) :
    ∃ u0 : Bool, R u0 ∧ Spec Try.prog etalonlaw01_BallFades_s ⟨[x0, x1], [], []⟩ [] [u0] [] :=
  Eq.mp (by kernel_rfl) (exV_of (K := fun d => app3 etalonlaw01_BallFades_s.out R d ∧ Spec Try.prog etalonlaw01_BallFades_s ⟨[x0, x1], [], []⟩ d.1 d.2.1 d.2.2) (tree_at mixed names S1_ok (S := S1 Try.prog) (lf := 100000) (d := 60) etalonlaw01_BallFades_s bfl_t { ivs := [(0, (-9223372036854775808), 9223372036854775807), (1, (-9223372036854775808), 9223372036854775807)], aivs := [] } ⟨[x0, x1], [], []⟩ rfl (by kernel_rfl) (by kernel_rfl) (by kernel_rfl) ⟨(fc r0 (fc r1 fz)), fz, fz, fz⟩ (R := fun d => app3 etalonlaw01_BallFades_s.out R d) (Eq.mp (by kernel_rfl) H)))

open Go.Lib

/-- How often a number is to be halved. -/

def hkvF : Nat → Nat → Int → Nat

  | 0, k, _ => k

  | n + 1, k, x => if x ≤ 1048576 * 2 ^ k then k else hkvF n (k + 1) x

def hkv (x : Int) : Nat := hkvF 15 0 x

theorem hkvF_is {x : Int} : ∀ n k : Nat, (∀ j, j < k → 1048576 * 2 ^ j < x) → x ≤ 1048576 * 2 ^ (k + n) → hkvF n k x ≤ k + n ∧ IsH x (hkvF n k x)

  | 0, k, h, g => ⟨Nat.le_refl _, g, h⟩

  | n + 1, k, h, g => by

    unfold hkvF

    split

    · rename_i c; exact ⟨by omega, c, h⟩

    · rename_i c

      have hk : ∀ j, j < k + 1 → 1048576 * 2 ^ j < x := fun j hj => by

        by_cases e : j = k

        · rw [e]; exact Int.lt_of_not_ge c

        · exact h j (by omega)

      have := hkvF_is n (k + 1) hk (by rw [show k + 1 + n = k + (n + 1) by omega]; exact g)

      exact ⟨by omega, this.2⟩

theorem hkv_is {x : Int} (h : x ≤ 34359738368) : hkv x ≤ 15 ∧ IsH x (hkv x) := by

  have := hkvF_is (x := x) 15 0 (fun j hj => by omega) (by rw [show 0 + 15 = 15 by omega, show (2 : Int) ^ 15 = 32768 by decide]; omega)

  exact ⟨by unfold hkv; omega, this.2⟩

def fD (p : Int) : Int := fadeD p (hkv (dnX p))

def fU (p : Int) : Int := fadeU p (hkv (upX p))

theorem fU_bd {p : Int} (h0 : 0 ≤ p) (h1 : p ≤ 16777216) : 0 ≤ fU p ∧ fU p ≤ 1073741824 := by

  have bx := upX_bd h0 h1

  obtain ⟨hk, h⟩ := hkv_is bx.2

  have bu := fdiv_bd (n := upX p) (d := 2 ^ hkv (upX p)) (M := 1048576) (Int.pow_pos (by decide)) bx.1 h.1

  have b0 := firstU_bd bu.1 bu.2

  exact itr_bd (f := stepU) (fun x a b => stepU_bd a b) b0.1 b0.2 _

theorem fD_bd {p : Int} (h0 : 0 ≤ p) (h1 : p ≤ 16777216) : 0 ≤ fD p ∧ fD p ≤ 1073741824 := by

  have bx := dnX_bd h0 h1

  obtain ⟨hk, h⟩ := hkv_is bx.2

  have bv := cdiv_bd (n := dnX p) (d := 2 ^ hkv (dnX p)) (M := 1048576) (Int.pow_pos (by decide)) bx.1 h.1

  have b1 := firstD_bd bv.1 bv.2

  exact itr_bd (f := stepD) (fun x a b => stepD_bd a b) b1.1 b1.2 _

theorem fup_s {p : Int} (h0 : 0 ≤ p) (h1 : p ≤ 16777216) : Spec Try.prog ball_fadingUp_s ⟨[p], [], []⟩ [fU p] [] [] :=

  Spec.of rfl rfl rfl rfl fun w => (fadingUp_any h0 h1 (hkv_is (upX_bd h0 h1).2).1 (hkv_is (upX_bd h0 h1).2).2 w).mono fun e w' ⟨he, n, hw⟩ => ⟨he, hw ▸ Below.drewN w n⟩

theorem fdn_s {p : Int} (h0 : 0 ≤ p) (h1 : p ≤ 16777216) : Spec Try.prog ball_fadingDown_s ⟨[p], [], []⟩ [fD p] [] [] :=

  Spec.of rfl rfl rfl rfl fun w => (fadingDown_any h0 h1 (hkv_is (dnX_bd h0 h1).2).1 (hkv_is (dnX_bd h0 h1).2).2 w).mono fun e w' ⟨he, n, hw⟩ => ⟨he, hw ▸ Below.drewN w n⟩

theorem rup_s {p : Int} (h0 : 0 ≤ p) (h1 : p ≤ 16777216) : Spec Try.prog etalonref01_fade_s ⟨[p], [true], []⟩ [fU p] [] [] :=

  Spec.of rfl rfl rfl rfl fun w => (fadeRefUp_any h0 h1 (hkv_is (upX_bd h0 h1).2).1 (hkv_is (upX_bd h0 h1).2).2 w).mono fun e w' ⟨he, hw⟩ => ⟨he, hw ▸ Below.refl _ _⟩

theorem rdn_s {p : Int} (h0 : 0 ≤ p) (h1 : p ≤ 16777216) : Spec Try.prog etalonref01_fade_s ⟨[p], [false], []⟩ [fD p] [] [] :=

  Spec.of rfl rfl rfl rfl fun w => (fadeRefDown_any h0 h1 (hkv_is (dnX_bd h0 h1).2).1 (hkv_is (dnX_bd h0 h1).2).2 w).mono fun e w' ⟨he, hw⟩ => ⟨he, hw ▸ Below.refl _ _⟩

def fadL (p : Int) : Int := if p ≤ 16777216 then fD p / 1024 else 0

def fadH (p : Int) : Int := if p ≤ 16777216 then cdiv (fU p) 1024 else 1

def fadE (lo hi : Int) : Int := if 0 ≤ lo then (if lo ≤ 1099511627776 ∧ hi ≤ 1099511627776 then (if lo ≤ hi then 0 else 10) else 2) else 2

/-- What an enclosure of what fades is. -/

structure FadR (lo hi a b c : Int) : Prop where

  hc : c = fadE lo hi

  h0 : c = 0 → a = fadL hi ∧ b = fadH lo

  h1 : c ≠ 0 → a = 0 ∧ b = 0

theorem FadR.uniq {lo hi a b c a' b' c' : Int} (h : FadR lo hi a b c) (g : FadR lo hi a' b' c') : a = a' ∧ b = b' ∧ c = c' := by

  have e : c = c' := by rw [h.hc, g.hc]

  subst e

  by_cases k : c = 0

  · rw [(h.h0 k).1, (h.h0 k).2, (g.h0 k).1, (g.h0 k).2]; exact ⟨rfl, rfl, rfl⟩

  · rw [(h.h1 k).1, (h.h1 k).2, (g.h1 k).1, (g.h1 k).2]; exact ⟨rfl, rfl, rfl⟩

theorem fading_p {lo hi : Int} (r0 : I64 lo) (r1 : I64 hi) : ∃ a b c : Int, FadR lo hi a b c ∧ Spec Try.prog ball_Fading_s ⟨[lo, hi], [], []⟩ [a, b, c] [] [] := by

  refine fg r0 r1 (R := FadR lo hi) ?_

  simp only [decide_eq_true_eq, decide_eq_false_iff_not]

  have bad : ∀ e : Int, e ≠ 0 → fadE lo hi = e → FadR lo hi 0 0 e := fun e h g => ⟨g.symm, fun k => absurd k h, fun _ => ⟨rfl, rfl⟩⟩

  have mx : (if hi > lo then hi else lo) ≤ 1099511627776 ↔ (lo ≤ 1099511627776 ∧ hi ≤ 1099511627776) := by split <;> omega

  refine ⟨fun a => ⟨fun b => ⟨fun c => ?_, fun c => bad 10 (by decide) (by unfold fadE; rw [if_pos a, if_pos (mx.1 b), if_neg c])⟩, fun b => bad 2 (by decide) (by unfold fadE; rw [if_pos a, if_neg (fun k => b (mx.2 k))])⟩, fun a => bad 2 (by decide) (by unfold fadE; rw [if_neg a])⟩

  have he : fadE lo hi = 0 := by unfold fadE; rw [if_pos a, if_pos (mx.1 b), if_pos c]

  have good : ∀ x y : Int, x = fadL hi → y = fadH lo → FadR lo hi x y 0 := fun x y h g => ⟨he.symm, fun _ => ⟨h, g⟩, fun k => absurd rfl k⟩

  have up : ∀ p, 0 ≤ p → p ≤ 16777216 → Spec Try.prog whole_Upper_s ⟨[fU p, 1048576, 1073741824], [], []⟩ [cdiv (fU p) 1024] [] [] ∧ (if (1048576 : Int) < cdiv (fU p) 1024 then 1048576 else cdiv (fU p) 1024) = fadH p := fun p h0 h1 => by

    have bd := fU_bd h0 h1

    have := upper_s (x := fU p) (y := 1048576) (d := 1073741824) (DvIn_by (X := 1073741824) (Y := 1048576) (by omega) (by omega) (by omega) (by omega) (by omega) (by omega) (by decide) (by decide) (by decide))

    have e : cdiv (fU p * 1048576) 1073741824 = cdiv (fU p) 1024 := by unfold cdiv; omega

    rw [e] at this

    refine ⟨this, ?_⟩

    unfold fadH; rw [if_pos h1, if_neg (by unfold cdiv; omega)]

  have dn : ∀ p, 0 ≤ p → p ≤ 16777216 → Spec Try.prog whole_Lower_s ⟨[fD p, 1048576, 1073741824], [], []⟩ [fD p / 1024] [] [] ∧ (if (0 : Int) > fD p / 1024 then 0 else fD p / 1024) = fadL p := fun p h0 h1 => by

    have bd := fD_bd h0 h1

    have := lower_s (x := fD p) (y := 1048576) (d := 1073741824) (DvIn_by (X := 1073741824) (Y := 1048576) (by omega) (by omega) (by omega) (by omega) (by omega) (by omega) (by decide) (by decide) (by decide))

    have e : fD p * 1048576 / 1073741824 = fD p / 1024 := by omega

    rw [e] at this

    refine ⟨this, ?_⟩

    unfold fadL; rw [if_pos h1, if_neg (by omega)]

  refine ⟨fun d => ⟨_, fdn_s (by omega) d, fD_bd (by omega) d, _, (dn hi (by omega) d).1, fun e => ⟨_, fup_s a e, fU_bd a e, _, (up lo a e).1, good _ _ (dn hi (by omega) d).2 (up lo a e).2⟩, fun e => absurd (by omega) e⟩, fun d => ⟨fun e => ⟨_, fup_s a e, fU_bd a e, _, (up lo a e).1, good _ _ (by unfold fadL; rw [if_neg d]) (up lo a e).2⟩, fun e => good _ _ (by unfold fadL; rw [if_neg d]) (by unfold fadH; rw [if_neg e])⟩⟩

theorem fading_r {lo hi : Int} (r0 : I64 lo) (r1 : I64 hi) : ∃ a b c : Int, FadR lo hi a b c ∧ Spec Try.prog etalonref01_Fading_s ⟨[lo, hi], [], []⟩ [a, b, c] [] [] := by

  refine rfg r0 r1 (R := FadR lo hi) ?_

  simp only [decide_eq_true_eq, decide_eq_false_iff_not]

  have bad : ∀ e : Int, e ≠ 0 → fadE lo hi = e → FadR lo hi 0 0 e := fun e h g => ⟨g.symm, fun k => absurd k h, fun _ => ⟨rfl, rfl⟩⟩

  refine ⟨fun a => ⟨fun b1 => ⟨fun b2 => ⟨fun c => ?_, fun c => bad 10 (by decide) (by unfold fadE; rw [if_pos a, if_pos ⟨b1, b2⟩, if_neg c])⟩, fun b => bad 2 (by decide) (by unfold fadE; rw [if_pos a, if_neg (fun k => b k.2)])⟩, fun b => bad 2 (by decide) (by unfold fadE; rw [if_pos a, if_neg (fun k => b k.1)])⟩, fun a => bad 2 (by decide) (by unfold fadE; rw [if_neg a])⟩

  have he : fadE lo hi = 0 := by unfold fadE; rw [if_pos a, if_pos ⟨b1, b2⟩, if_pos c]

  have good : ∀ x y : Int, x = fadL hi → y = fadH lo → FadR lo hi x y 0 := fun x y h g => ⟨he.symm, fun _ => ⟨h, g⟩, fun k => absurd rfl k⟩

  have up : ∀ p, 0 ≤ p → p ≤ 16777216 → Spec Try.prog etalonbase_Ceil_s ⟨[fU p, 1024], [], []⟩ [cdiv (fU p) 1024] [] [] ∧ (if cdiv (fU p) 1024 < 1048576 then cdiv (fU p) 1024 else 1048576) = fadH p := fun p h0 h1 => by

    have bd := fU_bd h0 h1

    refine ⟨ceil_s (by omega) (by omega), ?_⟩

    unfold fadH; rw [if_pos h1]

    have : cdiv (fU p) 1024 ≤ 1048576 := by unfold cdiv; omega

    split <;> omega

  have dn : ∀ p, 0 ≤ p → p ≤ 16777216 → Spec Try.prog etalonbase_Floor_s ⟨[fD p, 1024], [], []⟩ [fD p / 1024] [] [] ∧ (if fD p / 1024 > 0 then fD p / 1024 else 0) = fadL p := fun p h0 h1 => by

    have bd := fD_bd h0 h1

    refine ⟨floor_s (by omega) (by omega), ?_⟩

    unfold fadL; rw [if_pos h1]

    split <;> omega

  refine ⟨fun d => ⟨_, rdn_s (by omega) d, _, (dn hi (by omega) d).1, fun e => ⟨_, rup_s a e, _, (up lo a e).1, good _ _ (dn hi (by omega) d).2 (up lo a e).2⟩, fun e => absurd (by omega) e⟩, fun d => ⟨fun e => ⟨_, rup_s a e, _, (up lo a e).1, good _ _ (by unfold fadL; rw [if_neg d]) (up lo a e).2⟩, fun e => good _ _ (by unfold fadL; rw [if_neg d]) (by unfold fadH; rw [if_neg e])⟩⟩

theorem fades {x0 x1 : Int} (r0 : I64 x0) (r1 : I64 x1) : Spec Try.prog etalonlaw01_BallFades_s ⟨[x0, x1], [], []⟩ [] [true] [] := by

  obtain ⟨a, b, c, h, hs⟩ := fading_p r0 r1

  obtain ⟨a', b', c', g, gs⟩ := fading_r r0 r1

  obtain ⟨rfl, rfl, rfl⟩ := h.uniq g

  exact outt (bfl r0 r1 (R := (· = true)) ⟨_, awake_t, fun _ => ⟨_, _, _, hs, _, _, _, gs, fun _ => by simp, fun h => by simp at h⟩, fun h => by cases h⟩)

end Go.Proofs.Ytgdhpgjfebinhaa.Ev
