/- Names: what the program and the reference say of a text. -/
import Derived.Test.YtafnplkablkepaaFvw1
namespace Go.Proofs.Ytafnplkablkepaa.Ev
set_option linter.unusedSimpArgs false
open Go Go.RowKit
set_option linter.unusedVariables false
set_option maxRecDepth 100000
def text_isLetter_s : Sig := ⟨86, ⟨1, 0, 0⟩, ⟨0, 1, 0⟩, [(.int .u8 (.var 0))], [], (.bool (.var 0)), []⟩
def text_isDigit_s : Sig := ⟨87, ⟨1, 0, 0⟩, ⟨0, 1, 0⟩, [(.int .u8 (.var 0))], [], (.bool (.var 0)), []⟩
def text_IsName_s : Sig := ⟨69, ⟨1, 0, 0⟩, ⟨0, 1, 0⟩, [(.strn (.var 0))], [], (.bool (.var 0)), []⟩
def il_t : Tr :=
  (.ite (.icmp .leq (.lit 65) (.var 0))
  (.ite (.icmp .leq (.var 0) (.lit 90))
   (.ret ⟨[], [(.lit true)], []⟩ [])
   (.ite (.icmp .leq (.lit 97) (.var 0))
    (.ret ⟨[], [(.icmp .leq (.var 0) (.lit 122))], []⟩ [])
    (.ret ⟨[], [(.lit false)], []⟩ [])))
  (.ret ⟨[], [(.lit false)], []⟩ []))
theorem il {x0 : Int} (r0 : 0 ≤ x0 ∧ x0 ≤ 255) {R : Bool → Prop}
  (H : ((decide ((65 : Int) ≤ x0) = true → ((decide ((x0 : Int) ≤ 90) = true → R (true)) ∧
    (decide ((x0 : Int) ≤ 90) = false → ((decide ((97 : Int) ≤ x0) = true → R (decide ((x0 : Int) ≤ 122))) ∧
     (decide ((97 : Int) ≤ x0) = false → R (false)))))) ∧
   (decide ((65 : Int) ≤ x0) = false → R (false)))) :
    ∃ u0 : Bool, R u0 ∧ Spec Try.prog text_isLetter_s ⟨[x0], [], []⟩ [] [u0] [] :=
  Eq.mp (by kernel_rfl) (exV_of (K := fun d => app3 text_isLetter_s.out R d ∧ Spec Try.prog text_isLetter_s ⟨[x0], [], []⟩ d.1 d.2.1 d.2.2) (tree_at mixed names S1_ok (S := S1 Try.prog) (lf := 100000) (d := 60) text_isLetter_s il_t { ivs := [(0, 0, 255)], aivs := [] } ⟨[x0], [], []⟩ rfl (by kernel_rfl) (by kernel_rfl) (by kernel_rfl) ⟨(fc r0 fz), fz, fz, fz⟩ (R := fun d => app3 text_isLetter_s.out R d) (Eq.mp (by kernel_rfl) H)))

def id__t : Tr :=
  (.ite (.icmp .leq (.lit 48) (.var 0))
  (.ret ⟨[], [(.icmp .leq (.var 0) (.lit 57))], []⟩ [])
  (.ret ⟨[], [(.lit false)], []⟩ []))
theorem id_ {x0 : Int} (r0 : 0 ≤ x0 ∧ x0 ≤ 255) {R : Bool → Prop}
  (H : ((decide ((48 : Int) ≤ x0) = true → R (decide ((x0 : Int) ≤ 57))) ∧
   (decide ((48 : Int) ≤ x0) = false → R (false)))) :
    ∃ u0 : Bool, R u0 ∧ Spec Try.prog text_isDigit_s ⟨[x0], [], []⟩ [] [u0] [] :=
  Eq.mp (by kernel_rfl) (exV_of (K := fun d => app3 text_isDigit_s.out R d ∧ Spec Try.prog text_isDigit_s ⟨[x0], [], []⟩ d.1 d.2.1 d.2.2) (tree_at mixed names S1_ok (S := S1 Try.prog) (lf := 100000) (d := 60) text_isDigit_s id__t { ivs := [(0, 0, 255)], aivs := [] } ⟨[x0], [], []⟩ rfl (by kernel_rfl) (by kernel_rfl) (by kernel_rfl) ⟨(fc r0 fz), fz, fz, fz⟩ (R := fun d => app3 text_isDigit_s.out R d) (Eq.mp (by kernel_rfl) H)))

def nmp_t : Tr :=
  (.ite (.icmp .leq (.lit 1) (.bin .sLen (.var 0) (.lit 0)))
  (.ite (.icmp .leq (.bin .sLen (.var 0) (.lit 0)) (.lit 12))
   (.ite (.icmp .leq (.bin .sLen (.var 0) (.lit 0)) (.lit 0))
    .nil
    (.call text_isLetter_s ⟨[(.bin .sAt (.var 0) (.lit 0))], [], []⟩ ⟨[(.bin .sAt (.var 0) (.lit 0))], [(.var 0)], []⟩ ⟨86, [(.int .u8 (.bin .sAt (.var 0) (.lit 0)))], [], [], (.bool (.var 0)), []⟩
     (.ite (.var 0)
     (.loop ⟨69, [0, 1, 0, 1, 1], [(.strn (.var 0)), (.tuple []), (.bool (.lit false)), (.tuple []), (.strn (.var 0)), (.int .i64 (.bin .sLen (.var 0) (.lit 0))), (.bool (.icmp .lss (.bin .sLen (.var 0) (.lit 0)) (.lit 1))), (.bool (.icmp .lss (.bin .sLen (.var 0) (.lit 0)) (.lit 1))), (.strn (.var 0)), (.int .i64 (.bin .sLen (.var 0) (.lit 0))), (.bool (.icmp .gtr (.bin .sLen (.var 0) (.lit 0)) (.lit 12))), (.bool (.icmp .gtr (.bin .sLen (.var 0) (.lit 0)) (.lit 12))), (.bool (.icmp .gtr (.bin .sLen (.var 0) (.lit 0)) (.lit 12))), (.strn (.var 0)), (.int .u8 (.bin .sAt (.var 0) (.lit 0))), (.bool (.var 0)), (.bool (.not (.var 0))), (.bool (.not (.var 0))), (.strn (.var 0)), (.int .i64 (.bin .sLen (.var 0) (.lit 0))), (.int .i64 (.lit 0)), (.tuple []), (.tuple []), (.tuple []), (.tuple []), (.tuple []), (.tuple []), (.tuple []), (.tuple []), (.tuple []), (.tuple []), (.tuple []), (.tuple []), (.tuple []), (.tuple []), (.tuple []), (.tuple []), (.tuple []), (.tuple []), (.tuple []), (.tuple []), (.tuple [])], [], [], [(.strn (.var 0)), (.tuple []), (.bool (.lit false)), (.any 3), (.strn (.var 0)), (.int .i64 (.bin .sLen (.var 0) (.lit 0))), (.bool (.icmp .lss (.bin .sLen (.var 0) (.lit 0)) (.lit 1))), (.bool (.icmp .lss (.bin .sLen (.var 0) (.lit 0)) (.lit 1))), (.strn (.var 0)), (.int .i64 (.bin .sLen (.var 0) (.lit 0))), (.bool (.icmp .gtr (.bin .sLen (.var 0) (.lit 0)) (.lit 12))), (.bool (.icmp .gtr (.bin .sLen (.var 0) (.lit 0)) (.lit 12))), (.bool (.icmp .gtr (.bin .sLen (.var 0) (.lit 0)) (.lit 12))), (.strn (.var 0)), (.int .u8 (.bin .sAt (.var 0) (.lit 0))), (.bool (.var 0)), (.bool (.not (.var 0))), (.bool (.not (.var 0))), (.strn (.var 0)), (.int .i64 (.bin .sLen (.var 0) (.lit 0))), (.int .i64 (.var 1)), (.any 21), (.any 22), (.any 23), (.any 24), (.any 25), (.any 26), (.any 27), (.any 28), (.any 29), (.any 30), (.any 31), (.any 32), (.any 33), (.any 34), (.any 35), (.any 36), (.any 37), (.any 38), (.any 39), (.any 40), (.any 41)], [], [], ⟨1, 0, 0⟩, ⟨[(.lit 0)], [], []⟩, []⟩
      (.rng 1 (-9223372036854775808) 9223372036854775807 (.ite (.icmp .leq (.bin .sLen (.var 0) (.lit 0)) (.var 1))
       (.out 1 ⟨[], [], []⟩ [])
       (.ite (.icmp .leq (.lit 0) (.var 1))
        (.call text_isLetter_s ⟨[(.bin .sAt (.var 0) (.var 1))], [], []⟩ ⟨[(.bin .sAt (.var 0) (.var 1))], [(.var 1)], []⟩ ⟨86, [(.int .u8 (.bin .sAt (.var 0) (.var 1)))], [], [], (.bool (.var 1)), []⟩
         (.ite (.var 1)
         (.next ⟨[(.bin (.addW .i64) (.var 1) (.lit 1))], [], []⟩ [])
         (.call text_isDigit_s ⟨[(.bin .sAt (.var 0) (.var 1))], [], []⟩ ⟨[(.bin .sAt (.var 0) (.var 1))], [(.var 2)], []⟩ ⟨87, [(.int .u8 (.bin .sAt (.var 0) (.var 1)))], [], [], (.bool (.var 2)), []⟩
          (.ite (.var 2)
          (.next ⟨[(.bin (.addW .i64) (.var 1) (.lit 1))], [], []⟩ [])
          (.ite (.icmp .eql (.bin .sAt (.var 0) (.var 1)) (.lit 45))
           (.next ⟨[(.bin (.addW .i64) (.var 1) (.lit 1))], [], []⟩ [])
           (.out 0 ⟨[], [], []⟩ []))))))
        .nil)))
      (.ex (.ret, [(.strn (.var 0)), (.tuple []), (.bool (.lit false)), (.any 3), (.strn (.var 0)), (.int .i64 (.bin .sLen (.var 0) (.lit 0))), (.bool (.icmp .lss (.bin .sLen (.var 0) (.lit 0)) (.lit 1))), (.bool (.icmp .lss (.bin .sLen (.var 0) (.lit 0)) (.lit 1))), (.strn (.var 0)), (.int .i64 (.bin .sLen (.var 0) (.lit 0))), (.bool (.icmp .gtr (.bin .sLen (.var 0) (.lit 0)) (.lit 12))), (.bool (.icmp .gtr (.bin .sLen (.var 0) (.lit 0)) (.lit 12))), (.bool (.icmp .gtr (.bin .sLen (.var 0) (.lit 0)) (.lit 12))), (.strn (.var 0)), (.int .u8 (.bin .sAt (.var 0) (.lit 0))), (.bool (.var 0)), (.bool (.not (.var 0))), (.bool (.not (.var 0))), (.strn (.var 0)), (.int .i64 (.bin .sLen (.var 0) (.lit 0))), (.any 20), (.any 21), (.any 22), (.any 23), (.any 24), (.any 25), (.any 26), (.any 27), (.any 28), (.any 29), (.any 30), (.any 31), (.any 32), (.any 33), (.any 34), (.any 35), (.any 36), (.any 37), (.any 38), (.any 39), (.any 40), (.any 41)], [], []) ⟨0, 0, 0⟩
      (.ret ⟨[], [(.lit false)], []⟩ [])
      (.ex ((.exit 0), [(.strn (.var 0)), (.tuple []), (.bool (.lit false)), (.any 3), (.strn (.var 0)), (.int .i64 (.bin .sLen (.var 0) (.lit 0))), (.bool (.icmp .lss (.bin .sLen (.var 0) (.lit 0)) (.lit 1))), (.bool (.icmp .lss (.bin .sLen (.var 0) (.lit 0)) (.lit 1))), (.strn (.var 0)), (.int .i64 (.bin .sLen (.var 0) (.lit 0))), (.bool (.icmp .gtr (.bin .sLen (.var 0) (.lit 0)) (.lit 12))), (.bool (.icmp .gtr (.bin .sLen (.var 0) (.lit 0)) (.lit 12))), (.bool (.icmp .gtr (.bin .sLen (.var 0) (.lit 0)) (.lit 12))), (.strn (.var 0)), (.int .u8 (.bin .sAt (.var 0) (.lit 0))), (.bool (.var 0)), (.bool (.not (.var 0))), (.bool (.not (.var 0))), (.strn (.var 0)), (.int .i64 (.bin .sLen (.var 0) (.lit 0))), (.any 20), (.any 21), (.any 22), (.any 23), (.any 24), (.any 25), (.any 26), (.any 27), (.any 28), (.any 29), (.any 30), (.any 31), (.any 32), (.any 33), (.any 34), (.any 35), (.any 36), (.any 37), (.any 38), (.any 39), (.any 40), (.any 41)], [], []) ⟨0, 0, 0⟩
      (.ret ⟨[], [(.lit true)], []⟩ [])
      .nil)))
     (.ret ⟨[], [(.lit false)], []⟩ []))))
   (.ret ⟨[], [(.lit false)], []⟩ []))
  (.ret ⟨[], [(.lit false)], []⟩ []))
theorem nmp {x0 : Int} {R : Bool → Prop}
  (H : ((decide ((1 : Int) ≤ (NOp.den .sLen x0 0)) = true → ((decide (((NOp.den .sLen x0 0) : Int) ≤ 12) = true → ((decide (((NOp.den .sLen x0 0) : Int) ≤ 0) = true → False) ∧
     (decide (((NOp.den .sLen x0 0) : Int) ≤ 0) = false → (∃ u0 : Bool, Spec Try.prog text_isLetter_s ⟨[(NOp.den .sAt x0 0)], [], []⟩ [] [u0] [] ∧
      ((u0 = true → (∃ (I1 : Int → Prop) (rk1 : Int → Nat), I1 (0) ∧
       (∀ x1 : Int, I1 x1 → (((-9223372036854775808) ≤ (x1 : Int) ∧ (x1 : Int) ≤ 9223372036854775807) ∧ ((decide (((NOp.den .sLen x0 0) : Int) ≤ x1) = true → R (true)) ∧
        (decide (((NOp.den .sLen x0 0) : Int) ≤ x1) = false → ((decide ((0 : Int) ≤ x1) = true → (∃ u1 : Bool, Spec Try.prog text_isLetter_s ⟨[(NOp.den .sAt x0 x1)], [], []⟩ [] [u1] [] ∧
          ((u1 = true → (I1 (IntKind.i64.wrap (x1 + 1)) ∧ rk1 (IntKind.i64.wrap (x1 + 1)) < rk1 x1)) ∧
          (u1 = false → (∃ u2 : Bool, Spec Try.prog text_isDigit_s ⟨[(NOp.den .sAt x0 x1)], [], []⟩ [] [u2] [] ∧
           ((u2 = true → (I1 (IntKind.i64.wrap (x1 + 1)) ∧ rk1 (IntKind.i64.wrap (x1 + 1)) < rk1 x1)) ∧
           (u2 = false → (((((NOp.den .sAt x0 x1) : Int) == 45) = true → (I1 (IntKind.i64.wrap (x1 + 1)) ∧ rk1 (IntKind.i64.wrap (x1 + 1)) < rk1 x1)) ∧
            ((((NOp.den .sAt x0 x1) : Int) == 45) = false → R (false)))))))))) ∧
         (decide ((0 : Int) ≤ x1) = false → False)))))))) ∧
      (u0 = false → R (false))))))) ∧
    (decide (((NOp.den .sLen x0 0) : Int) ≤ 12) = false → R (false)))) ∧
   (decide ((1 : Int) ≤ (NOp.den .sLen x0 0)) = false → R (false)))) :
    ∃ u0 : Bool, R u0 ∧ Spec Try.prog text_IsName_s ⟨[x0], [], []⟩ [] [u0] [] :=
  Eq.mp (by kernel_rfl) (exV_of (K := fun d => app3 text_IsName_s.out R d ∧ Spec Try.prog text_IsName_s ⟨[x0], [], []⟩ d.1 d.2.1 d.2.2) (tree_at mixed names S1_ok (S := S1 Try.prog) (lf := 100000) (d := 60) text_IsName_s nmp_t { ivs := [], aivs := [] } ⟨[x0], [], []⟩ rfl (by kernel_rfl) (by kernel_rfl) (by kernel_rfl) ⟨fz, fz, fz, fz⟩ (R := fun d => app3 text_IsName_s.out R d) (Eq.mp (by kernel_rfl) H)))

/-- A letter; what a name may have behind its first letter; a name, by its number. -/

def chL (c : Int) : Prop := (65 ≤ c ∧ c ≤ 90) ∨ (97 ≤ c ∧ c ≤ 122)

def chN (c : Int) : Prop := chL c ∨ (48 ≤ c ∧ c ≤ 57) ∨ c = 45

def tLen (x : Int) : Int := NOp.den .sLen x 0

def tAt (x i : Int) : Int := NOp.den .sAt x i

theorem tLen_e (x : Int) : NOp.den .sLen x 0 = tLen x := rfl

theorem tAt_e (x i : Int) : NOp.den .sAt x i = tAt x i := rfl

def nmP (x : Int) : Prop := 1 ≤ tLen x ∧ tLen x ≤ 12 ∧ chL (tAt x 0) ∧ ∀ i, 0 ≤ i → i < tLen x → chN (tAt x i)

def nmR (x : Int) (u : Bool) : Prop := u = true ↔ nmP x

theorem nmR_t {x : Int} (h : nmP x) : nmR x true := ⟨fun _ => h, fun _ => rfl⟩

theorem nmR_f {x : Int} (h : ¬ nmP x) : nmR x false := ⟨fun h => absurd h (by decide), fun g => absurd g h⟩

theorem tAt_rng (x i : Int) : 0 ≤ tAt x i ∧ tAt x i ≤ 255 := by

  show 0 ≤ atS (deS x) i ∧ atS (deS x) i ≤ 255

  unfold atS

  split

  · split

    · rename_i b _

      have := b.toNat_lt

      omega

    · omega

  · omega

theorem isLetter_s {c : Int} (h : 0 ≤ c ∧ c ≤ 255) : ∃ u : Bool, (u = true ↔ chL c) ∧ Spec Try.prog text_isLetter_s ⟨[c], [], []⟩ [] [u] [] := by

  refine il h (R := fun u => u = true ↔ chL c) ?_

  simp only [decide_eq_true_eq, decide_eq_false_iff_not, chL]

  (repeat' (first | apply And.intro | intro _ | fail)) <;> (try simp) <;> omega

theorem isDigit_s {c : Int} (h : 0 ≤ c ∧ c ≤ 255) : ∃ u : Bool, (u = true ↔ 48 ≤ c ∧ c ≤ 57) ∧ Spec Try.prog text_isDigit_s ⟨[c], [], []⟩ [] [u] [] := by

  refine id_ h (R := fun u => u = true ↔ 48 ≤ c ∧ c ≤ 57) ?_

  simp only [decide_eq_true_eq, decide_eq_false_iff_not]

  (repeat' (first | apply And.intro | intro _ | fail)) <;> (try simp) <;> omega

theorem isName_p (x : Int) : ∃ u : Bool, (u = true ↔ nmP x) ∧ Spec Try.prog text_IsName_s ⟨[x], [], []⟩ [] [u] [] := by

  refine nmp (R := nmR x) ?_

  have hr := tAt_rng x

  simp only [decide_eq_true_eq, decide_eq_false_iff_not, beq_iff_eq, beq_eq_false_iff_ne, ne_eq]

  simp only [tLen_e, tAt_e]

  refine ⟨fun h1 => ⟨fun h2 => ⟨fun h3 => ?_, fun h3 => ?_⟩, fun h2 => ?_⟩, fun h1 => ?_⟩

  · omega

  · obtain ⟨u0, hu0, s0⟩ := isLetter_s (hr 0)

    refine ⟨u0, s0, fun e0 => ⟨fun i => 0 ≤ i ∧ i ≤ tLen x ∧ ∀ j, 0 ≤ j → j < i → chN (tAt x j), fun i => (tLen x - i).toNat, ⟨by omega, by omega, fun j _ _ => by omega⟩, ?_⟩, fun e0 => ?_⟩

    · rintro i ⟨i0, i1, i2⟩

      refine ⟨by omega, fun h4 => ?_, fun h4 => ⟨fun _ => ?_, fun h5 => by omega⟩⟩

      · exact nmR_t ⟨h1, h2, hu0.1 e0, fun j j0 j1 => i2 j j0 (by omega)⟩

      · have hw : IntKind.i64.wrap (i + 1) = i + 1 := by rw [IntKind.wrap_i64]; omega

        rw [hw]

        have step : chN (tAt x i) → (0 ≤ i + 1 ∧ i + 1 ≤ tLen x ∧ ∀ j, 0 ≤ j → j < i + 1 → chN (tAt x j)) ∧ (tLen x - (i + 1)).toNat < (tLen x - i).toNat := fun hc =>

          ⟨⟨by omega, by omega, fun j j0 j1 => by

            by_cases e : j = i

            · rw [e]; exact hc

            · exact i2 j j0 (by omega)⟩, by omega⟩

        obtain ⟨u1, hu1, s1⟩ := isLetter_s (hr i)

        obtain ⟨u2, hu2, s2⟩ := isDigit_s (hr i)

        refine ⟨u1, s1, fun e1 => step (.inl (hu1.1 e1)), fun e1 => ⟨u2, s2, fun e2 => step (.inr (.inl (hu2.1 e2))), fun e2 => ⟨fun e3 => step (.inr (.inr e3)), fun e3 => ?_⟩⟩⟩

        refine nmR_f fun hn => ?_

        have := hn.2.2.2 i i0 (by omega)

        rcases this with h | h | h

        · rw [hu1.2 h] at e1; cases e1

        · rw [hu2.2 h] at e2; cases e2

        · exact absurd h e3

    · refine nmR_f fun hn => ?_

      rw [hu0.2 hn.2.2.1] at e0; cases e0

  · exact nmR_f fun hn => absurd hn.2.1 h2

  · exact nmR_f fun hn => absurd hn.1 h1

end Go.Proofs.Ytafnplkablkepaa.Ev
