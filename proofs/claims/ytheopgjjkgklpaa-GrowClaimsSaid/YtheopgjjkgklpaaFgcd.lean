/- Changes of a chamber: their checks, and which sequences the program accepts. -/
import Derived.Test.YtheopgjjkgklpaaFgcb
namespace Go.Proofs.Ytheopgjjkgklpaa.Ev
set_option linter.unusedSimpArgs false
open Go Go.RowKit
set_option linter.unusedVariables false
set_option maxRecDepth 100000
def grow_checkState_s : Sig := ⟨44, ⟨3, 0, 6⟩, ⟨1, 0, 0⟩, [(.agg [(.asl 0 (.var 0)), (.asl 1 (.var 1))]), (.asl 2 (.var 2))], [(some ⟨[], 9, true, false, (some ⟨(.var 0), [.str], [(.avar 0)]⟩)⟩), (some ⟨[], 91, true, false, (some ⟨(.var 1), [(.int .i64), .bool, (.int .i64), .bool], [(.avar 1), (.avar 2), (.avar 3), (.avar 4)]⟩)⟩), (some ⟨[], 4, true, false, (some ⟨(.var 2), [.bool], [(.avar 5)]⟩)⟩)], (.int .i64 (.var 3)), []⟩
def _grow_change__isSafe_s : Sig := ⟨53, ⟨5, 0, 5⟩, ⟨0, 1, 0⟩, [(.agg [(.asl 0 (.var 0)), (.asl 1 (.var 1)), (.int .i64 (.var 2)), (.int .i64 (.var 3))]), (.int .i64 (.var 4))], [(some ⟨[], 9, true, false, (some ⟨(.var 0), [.str], [(.avar 0)]⟩)⟩), (some ⟨[], 91, true, false, (some ⟨(.var 1), [(.int .i64), .bool, (.int .i64), .bool], [(.avar 1), (.avar 2), (.avar 3), (.avar 4)]⟩)⟩)], (.bool (.var 0)), []⟩
def grow_CheckSequence_s : Sig := ⟨21, ⟨5, 0, 8⟩, ⟨2, 0, 0⟩, [(.agg [(.asl 0 (.var 0)), (.asl 1 (.var 1))]), (.agg [(.asl 2 (.var 2)), (.asl 3 (.var 3))]), (.asl 4 (.var 4))], [(some ⟨[], 9, true, false, (some ⟨(.var 0), [.str], [(.avar 0)]⟩)⟩), (some ⟨[], 91, true, false, (some ⟨(.var 1), [(.int .i64), .bool, (.int .i64), .bool], [(.avar 1), (.avar 2), (.avar 3), (.avar 4)]⟩)⟩), (some ⟨[], 4, true, false, (some ⟨(.var 2), [.bool], [(.avar 5)]⟩)⟩), (some ⟨[], 4, true, false, (some ⟨(.var 3), [.bool], [(.avar 6)]⟩)⟩), (some ⟨[], 3, true, false, (some ⟨(.var 4), [(.int .i64)], [(.avar 7)]⟩)⟩)], (.tuple [(.int .i64 (.var 5)), (.int .i64 (.var 6))]), []⟩

def cks_t : Tr :=
  (.call grow_CheckChamber_s ⟨[(.var 0), (.var 1)], [], [(.avar 0), (.avar 1), (.avar 2), (.avar 3), (.avar 4)]⟩ ⟨[(.var 0), (.var 1), (.var 3), (.var 4)], [], [(.avar 0), (.avar 1), (.avar 2), (.avar 3), (.avar 4)]⟩ ⟨10, [(.agg [(.asl 0 (.var 0)), (.asl 1 (.var 1))])], [0, 1], [(some ⟨[], 9, true, false, (some ⟨(.var 0), [.str], [(.avar 0)]⟩)⟩), (some ⟨[], 91, true, false, (some ⟨(.var 1), [(.int .i64), .bool, (.int .i64), .bool], [(.avar 1), (.avar 2), (.avar 3), (.avar 4)]⟩)⟩), none, none], (.tuple [(.int .i64 (.var 3)), (.int .i64 (.var 4))]), []⟩
  (.ite (.icmp .eql (.var 4) (.lit 0))
  (.ite (.icmp .eql (.var 2) (.var 0))
   (.ret ⟨[(.lit 0)], [], []⟩ [])
   (.ret ⟨[(.lit 12)], [], []⟩ []))
  (.ret ⟨[(.var 4)], [], []⟩ [])))
theorem cks {x0 x1 x2 : Int} {f0 f1 f2 f3 f4 f5 : Int → Int} (r0 : 0 ≤ x0 ∧ x0 ≤ 10) (r1 : 0 ≤ x1 ∧ x1 ≤ 32) (r2 : 0 ≤ x2 ∧ x2 ≤ 12) (s1 : ∀ q, (-9223372036854775808) ≤ f1 q ∧ f1 q ≤ 9223372036854775807) (s3 : ∀ q, (-9223372036854775808) ≤ f3 q ∧ f3 q ≤ 9223372036854775807) {R : Int → Prop}
  (H : (∃ v3 : Int, ∃ v4 : Int, Spec Try.prog grow_CheckChamber_s ⟨[x0, x1], [], [f0, f1, f2, f3, f4]⟩ [v3, v4] [] [] ∧
   ((((v4 : Int) == 0) = true → ((((x2 : Int) == x0) = true → R (0)) ∧
    (((x2 : Int) == x0) = false → R (12)))) ∧
   (((v4 : Int) == 0) = false → R (v4))))) :
    ∃ v0 : Int, R v0 ∧ Spec Try.prog grow_checkState_s ⟨[x0, x1, x2], [], [f0, f1, f2, f3, f4, f5]⟩ [v0] [] [] :=
  Eq.mp (by kernel_rfl) (exV_of (K := fun d => app3 grow_checkState_s.out R d ∧ Spec Try.prog grow_checkState_s ⟨[x0, x1, x2], [], [f0, f1, f2, f3, f4, f5]⟩ d.1 d.2.1 d.2.2) (tree_at mixed names S1_ok (S := S1 Try.prog) (lf := 100000) (d := 60) grow_checkState_s cks_t { ivs := [(0, 0, 10), (1, 0, 32), (2, 0, 12)], aivs := [(1, (-9223372036854775808), 9223372036854775807), (3, (-9223372036854775808), 9223372036854775807)] } ⟨[x0, x1, x2], [], [f0, f1, f2, f3, f4, f5]⟩ rfl (by kernel_rfl) (by kernel_rfl) (by kernel_rfl) ⟨(fc r0 (fc r1 (fc r2 fz))), fz, (fc s1 (fc s3 fz)), fz⟩ (R := fun d => app3 grow_checkState_s.out R d) (Eq.mp (by kernel_rfl) H)))

def isf_t : Tr :=
  (.loop ⟨45, [0, 1, 0, 1], [(.asl 1 (.var 1)), (.func (.func 85) [] [(.ptr (some ⟨4, 0, none⟩))]), (.tuple []), (.tuple []), (.int .i64 (.lit 0)), (.tuple []), (.asl 1 (.var 1)), (.int .i64 (.var 1)), (.int .i64 (.lit 0)), (.tuple []), (.tuple []), (.tuple []), (.tuple []), (.tuple []), (.tuple []), (.tuple []), (.tuple []), (.tuple []), (.tuple [])], [none, (some ⟨[], 91, true, false, (some ⟨(.var 1), [(.int .i64), .bool, (.int .i64), .bool], [(.avar 1), (.avar 2), (.avar 3), (.avar 4)]⟩)⟩), none, (some ⟨[(.int .i64 (.var 4))], 3, false, false, none⟩), (some ⟨[(.func (.func 84) [] [(.ptr (some ⟨3, 0, none⟩))])], 104, false, false, none⟩)], [], [(.asl 1 (.var 1)), (.func (.func 85) [] [(.ptr (some ⟨4, 0, none⟩))]), (.tuple []), (.tuple []), (.int .i64 (.lit 0)), (.any 5), (.asl 1 (.var 1)), (.int .i64 (.var 1)), (.int .i64 (.var 5)), (.any 9), (.any 10), (.any 11), (.any 12), (.any 13), (.any 14), (.any 15), (.any 16), (.tuple []), (.any 18)], [none, (some ⟨[], 91, true, false, (some ⟨(.var 1), [(.int .i64), .bool, (.int .i64), .bool], [(.avar 1), (.avar 2), (.avar 3), (.avar 4)]⟩)⟩), none, (some ⟨[(.int .i64 (.var 4))], 3, false, false, none⟩), (some ⟨[(.func (.func 84) [] [(.ptr (some ⟨3, 0, none⟩))])], 104, false, false, none⟩)], [], ⟨1, 0, 0⟩, ⟨[(.lit 0)], [], []⟩, []⟩
  (.rng 5 0 32 (.ite (.icmp .leq (.var 1) (.var 5))
   (.out 1 ⟨[], [], []⟩ [])
   (.ite (.icmp .leq (.lit 0) (.sel (.avar 1) (.var 5)))
    (.ite (.icmp .eql (.bin (.andK .i64) (.bin (.shrK .i64) (.var 4) (.sel (.avar 1) (.var 5))) (.lit 1)) (.lit 1))
     (.ite (.icmp .eql (.sel (.avar 2) (.var 5)) (.lit 0))
      (.next ⟨[(.bin .addI (.var 5) (.lit 1))], [], []⟩ [])
      (.ite (.icmp .leq (.lit 0) (.sel (.avar 3) (.var 5)))
       (.ite (.icmp .eql (.bin (.andK .i64) (.bin (.shrK .i64) (.var 4) (.sel (.avar 3) (.var 5))) (.lit 1)) (.lit 1))
        (.ite (.icmp .eql (.sel (.avar 4) (.var 5)) (.lit 0))
         (.out 0 ⟨[(.var 5)], [], []⟩ [])
         (.next ⟨[(.bin .addI (.var 5) (.lit 1))], [], []⟩ []))
        (.ite (.icmp .eql (.sel (.avar 4) (.var 5)) (.lit 0))
         (.next ⟨[(.bin .addI (.var 5) (.lit 1))], [], []⟩ [])
         (.out 0 ⟨[(.var 5)], [], []⟩ [])))
       .nil))
     (.ite (.icmp .eql (.sel (.avar 2) (.var 5)) (.lit 0))
      (.ite (.icmp .leq (.lit 0) (.sel (.avar 3) (.var 5)))
       (.ite (.icmp .eql (.bin (.andK .i64) (.bin (.shrK .i64) (.var 4) (.sel (.avar 3) (.var 5))) (.lit 1)) (.lit 1))
        (.ite (.icmp .eql (.sel (.avar 4) (.var 5)) (.lit 0))
         (.out 0 ⟨[(.var 5)], [], []⟩ [])
         (.next ⟨[(.bin .addI (.var 5) (.lit 1))], [], []⟩ []))
        (.ite (.icmp .eql (.sel (.avar 4) (.var 5)) (.lit 0))
         (.next ⟨[(.bin .addI (.var 5) (.lit 1))], [], []⟩ [])
         (.out 0 ⟨[(.var 5)], [], []⟩ [])))
       .nil)
      (.next ⟨[(.bin .addI (.var 5) (.lit 1))], [], []⟩ [])))
    .nil)))
  (.ex (.ret, [(.asl 1 (.var 1)), (.func (.func 85) [] [(.ptr (some ⟨4, 0, none⟩))]), (.tuple []), (.tuple []), (.int .i64 (.var 5)), (.any 5), (.asl 1 (.var 1)), (.int .i64 (.var 1)), (.any 8), (.any 9), (.any 10), (.any 11), (.any 12), (.any 13), (.any 14), (.any 15), (.any 16), (.any 17), (.any 18)], [none, (some ⟨[], 91, true, false, (some ⟨(.var 1), [(.int .i64), .bool, (.int .i64), .bool], [(.avar 1), (.avar 2), (.avar 3), (.avar 4)]⟩)⟩), none, (some ⟨[(.int .i64 (.var 4))], 3, false, false, none⟩), (some ⟨[(.func (.func 84) [] [(.ptr (some ⟨3, 0, none⟩))])], 104, false, false, none⟩)], []) ⟨1, 0, 0⟩
  (.rng 5 (-9223372036854775808) 9223372036854775807 (.ret ⟨[], [(.not (.icmp .geq (.var 5) (.lit 0)))], []⟩ []))
  (.ex ((.exit 0), [(.asl 1 (.var 1)), (.func (.func 85) [] [(.ptr (some ⟨4, 0, none⟩))]), (.tuple []), (.tuple []), (.int .i64 (.lit 0)), (.any 5), (.asl 1 (.var 1)), (.int .i64 (.var 1)), (.any 8), (.any 9), (.any 10), (.any 11), (.any 12), (.any 13), (.any 14), (.any 15), (.any 16), (.tuple []), (.any 18)], [none, (some ⟨[], 91, true, false, (some ⟨(.var 1), [(.int .i64), .bool, (.int .i64), .bool], [(.avar 1), (.avar 2), (.avar 3), (.avar 4)]⟩)⟩), none, (some ⟨[(.int .i64 (.var 4))], 3, false, false, none⟩), (some ⟨[(.func (.func 84) [] [(.ptr (some ⟨3, 0, none⟩))])], 104, false, false, none⟩)], []) ⟨0, 0, 0⟩
  (.ret ⟨[], [(.lit true)], []⟩ [])
  .nil)))
theorem isf {x0 x1 x2 x3 x4 : Int} {f0 f1 f2 f3 f4 : Int → Int} (r0 : 0 ≤ x0 ∧ x0 ≤ 8) (r1 : 0 ≤ x1 ∧ x1 ≤ 30) (r2 : (-9223372036854775808) ≤ x2 ∧ x2 ≤ 9223372036854775807) (r3 : (-9223372036854775808) ≤ x3 ∧ x3 ≤ 9223372036854775807) (r4 : (-9223372036854775808) ≤ x4 ∧ x4 ≤ 9223372036854775807) (s1 : ∀ q, (-9223372036854775808) ≤ f1 q ∧ f1 q ≤ 9223372036854775807) (s3 : ∀ q, (-9223372036854775808) ≤ f3 q ∧ f3 q ≤ 9223372036854775807) {R : Bool → Prop}
  (H : (∃ (I5 : Int → Prop) (rk5 : Int → Nat), I5 (0) ∧
   (∀ x5 : Int, I5 x5 → ((0 ≤ (x5 : Int) ∧ (x5 : Int) ≤ 32) ∧ ((decide ((x1 : Int) ≤ x5) = true → R (true)) ∧
    (decide ((x1 : Int) ≤ x5) = false → ((decide ((0 : Int) ≤ (f1 x5)) = true → (((((NOp.den (.andK .i64) (NOp.den (.shrK .i64) x4 (f1 x5)) 1) : Int) == 1) = true → (((((f2 x5) : Int) == 0) = true → (I5 ((x5 + 1)) ∧ rk5 ((x5 + 1)) < rk5 x5)) ∧
       ((((f2 x5) : Int) == 0) = false → ((decide ((0 : Int) ≤ (f3 x5)) = true → (((((NOp.den (.andK .i64) (NOp.den (.shrK .i64) x4 (f3 x5)) 1) : Int) == 1) = true → (((((f4 x5) : Int) == 0) = true → (((-9223372036854775808) ≤ ((x5) : Int) ∧ ((x5) : Int) ≤ 9223372036854775807) ∧ R ((!decide (((x5) : Int) ≥ 0))))) ∧
          ((((f4 x5) : Int) == 0) = false → (I5 ((x5 + 1)) ∧ rk5 ((x5 + 1)) < rk5 x5)))) ∧
         ((((NOp.den (.andK .i64) (NOp.den (.shrK .i64) x4 (f3 x5)) 1) : Int) == 1) = false → (((((f4 x5) : Int) == 0) = true → (I5 ((x5 + 1)) ∧ rk5 ((x5 + 1)) < rk5 x5)) ∧
          ((((f4 x5) : Int) == 0) = false → (((-9223372036854775808) ≤ ((x5) : Int) ∧ ((x5) : Int) ≤ 9223372036854775807) ∧ R ((!decide (((x5) : Int) ≥ 0))))))))) ∧
        (decide ((0 : Int) ≤ (f3 x5)) = false → False))))) ∧
      ((((NOp.den (.andK .i64) (NOp.den (.shrK .i64) x4 (f1 x5)) 1) : Int) == 1) = false → (((((f2 x5) : Int) == 0) = true → ((decide ((0 : Int) ≤ (f3 x5)) = true → (((((NOp.den (.andK .i64) (NOp.den (.shrK .i64) x4 (f3 x5)) 1) : Int) == 1) = true → (((((f4 x5) : Int) == 0) = true → (((-9223372036854775808) ≤ ((x5) : Int) ∧ ((x5) : Int) ≤ 9223372036854775807) ∧ R ((!decide (((x5) : Int) ≥ 0))))) ∧
          ((((f4 x5) : Int) == 0) = false → (I5 ((x5 + 1)) ∧ rk5 ((x5 + 1)) < rk5 x5)))) ∧
         ((((NOp.den (.andK .i64) (NOp.den (.shrK .i64) x4 (f3 x5)) 1) : Int) == 1) = false → (((((f4 x5) : Int) == 0) = true → (I5 ((x5 + 1)) ∧ rk5 ((x5 + 1)) < rk5 x5)) ∧
          ((((f4 x5) : Int) == 0) = false → (((-9223372036854775808) ≤ ((x5) : Int) ∧ ((x5) : Int) ≤ 9223372036854775807) ∧ R ((!decide (((x5) : Int) ≥ 0))))))))) ∧
        (decide ((0 : Int) ≤ (f3 x5)) = false → False))) ∧
       ((((f2 x5) : Int) == 0) = false → (I5 ((x5 + 1)) ∧ rk5 ((x5 + 1)) < rk5 x5)))))) ∧
     (decide ((0 : Int) ≤ (f1 x5)) = false → False)))))))) :
    ∃ u0 : Bool, R u0 ∧ Spec Try.prog _grow_change__isSafe_s ⟨[x0, x1, x2, x3, x4], [], [f0, f1, f2, f3, f4]⟩ [] [u0] [] :=
  Eq.mp (by kernel_rfl) (exV_of (K := fun d => app3 _grow_change__isSafe_s.out R d ∧ Spec Try.prog _grow_change__isSafe_s ⟨[x0, x1, x2, x3, x4], [], [f0, f1, f2, f3, f4]⟩ d.1 d.2.1 d.2.2) (tree_at mixed names S1_ok (S := S1 Try.prog) (lf := 100000) (d := 60) _grow_change__isSafe_s isf_t { ivs := [(0, 0, 8), (1, 0, 30), (2, (-9223372036854775808), 9223372036854775807), (3, (-9223372036854775808), 9223372036854775807), (4, (-9223372036854775808), 9223372036854775807)], aivs := [(1, (-9223372036854775808), 9223372036854775807), (3, (-9223372036854775808), 9223372036854775807)] } ⟨[x0, x1, x2, x3, x4], [], [f0, f1, f2, f3, f4]⟩ rfl (by kernel_rfl) (by kernel_rfl) (by kernel_rfl) ⟨(fc r0 (fc r1 (fc r2 (fc r3 (fc r4 fz))))), fz, (fc s1 (fc s3 fz)), fz⟩ (R := fun d => app3 _grow_change__isSafe_s.out R d) (Eq.mp (by kernel_rfl) H)))

def csq_t : Tr :=
  (.call grow_checkState_s ⟨[(.var 0), (.var 1), (.var 2)], [], [(.avar 0), (.avar 1), (.avar 2), (.avar 3), (.avar 4), (.avar 5)]⟩ ⟨[(.var 0), (.var 1), (.var 2), (.var 5)], [], [(.avar 0), (.avar 1), (.avar 2), (.avar 3), (.avar 4), (.avar 5)]⟩ ⟨44, [(.agg [(.asl 0 (.var 0)), (.asl 1 (.var 1))]), (.asl 2 (.var 2))], [0, 1, 2], [(some ⟨[], 9, true, false, (some ⟨(.var 0), [.str], [(.avar 0)]⟩)⟩), (some ⟨[], 91, true, false, (some ⟨(.var 1), [(.int .i64), .bool, (.int .i64), .bool], [(.avar 1), (.avar 2), (.avar 3), (.avar 4)]⟩)⟩), (some ⟨[], 4, true, false, (some ⟨(.var 2), [.bool], [(.avar 5)]⟩)⟩), none, none, none, none, none, none, none], (.int .i64 (.var 5)), []⟩
  (.call grow_checkState_s ⟨[(.var 0), (.var 1), (.var 3)], [], [(.avar 0), (.avar 1), (.avar 2), (.avar 3), (.avar 4), (.avar 6)]⟩ ⟨[(.var 0), (.var 1), (.var 3), (.var 6)], [], [(.avar 0), (.avar 1), (.avar 2), (.avar 3), (.avar 4), (.avar 6)]⟩ ⟨44, [(.agg [(.asl 0 (.var 0)), (.asl 1 (.var 1))]), (.asl 3 (.var 3))], [0, 1, 3], [(some ⟨[], 9, true, false, (some ⟨(.var 0), [.str], [(.avar 0)]⟩)⟩), (some ⟨[], 91, true, false, (some ⟨(.var 1), [(.int .i64), .bool, (.int .i64), .bool], [(.avar 1), (.avar 2), (.avar 3), (.avar 4)]⟩)⟩), none, (some ⟨[], 4, true, false, (some ⟨(.var 3), [.bool], [(.avar 6)]⟩)⟩), none, none, none, none, none, none], (.int .i64 (.var 6)), []⟩
  (.ite (.icmp .eql (.var 5) (.lit 0))
  (.ite (.icmp .eql (.var 6) (.lit 0))
   (.call grow_numberOf_s ⟨[(.var 2)], [], [(.avar 5)]⟩ ⟨[(.var 2), (.var 7)], [], [(.avar 5)]⟩ ⟨47, [(.asl 2 (.var 2))], [2], [none, none, (some ⟨[], 4, true, false, (some ⟨(.var 2), [.bool], [(.avar 5)]⟩)⟩), none, none, none, none, none, none, none, none], (.int .i64 (.var 7)), []⟩
    (.rng 7 0 255 (.call grow_numberOf_s ⟨[(.var 3)], [], [(.avar 6)]⟩ ⟨[(.var 3), (.var 8)], [], [(.avar 6)]⟩ ⟨47, [(.asl 3 (.var 3))], [3], [none, none, none, (some ⟨[], 4, true, false, (some ⟨(.var 3), [.bool], [(.avar 6)]⟩)⟩), none, none, none, none, none, none, none], (.int .i64 (.var 8)), []⟩
    (.rng 8 0 255 (.call _grow_change__isSafe_s ⟨[(.var 0), (.var 1), (.var 7), (.var 8), (.var 7)], [], [(.avar 0), (.avar 1), (.avar 2), (.avar 3), (.avar 4)]⟩ ⟨[(.var 0), (.var 1), (.var 7), (.var 8), (.var 7)], [(.var 0)], [(.avar 0), (.avar 1), (.avar 2), (.avar 3), (.avar 4)]⟩ ⟨53, [(.agg [(.asl 0 (.var 0)), (.asl 1 (.var 1)), (.int .i64 (.var 7)), (.int .i64 (.var 8))]), (.int .i64 (.var 7))], [0, 1], [(some ⟨[], 9, true, false, (some ⟨(.var 0), [.str], [(.avar 0)]⟩)⟩), (some ⟨[], 91, true, false, (some ⟨(.var 1), [(.int .i64), .bool, (.int .i64), .bool], [(.avar 1), (.avar 2), (.avar 3), (.avar 4)]⟩)⟩), none, none, none, none, none, none, none, none, none, none], (.bool (.var 0)), []⟩
    (.ite (.var 0)
    (.call _grow_change__isSafe_s ⟨[(.var 0), (.var 1), (.var 7), (.var 8), (.var 8)], [], [(.avar 0), (.avar 1), (.avar 2), (.avar 3), (.avar 4)]⟩ ⟨[(.var 0), (.var 1), (.var 7), (.var 8), (.var 8)], [(.var 1)], [(.avar 0), (.avar 1), (.avar 2), (.avar 3), (.avar 4)]⟩ ⟨53, [(.agg [(.asl 0 (.var 0)), (.asl 1 (.var 1)), (.int .i64 (.var 7)), (.int .i64 (.var 8))]), (.int .i64 (.var 8))], [0, 1], [(some ⟨[], 9, true, false, (some ⟨(.var 0), [.str], [(.avar 0)]⟩)⟩), (some ⟨[], 91, true, false, (some ⟨(.var 1), [(.int .i64), .bool, (.int .i64), .bool], [(.avar 1), (.avar 2), (.avar 3), (.avar 4)]⟩)⟩), none, none, none, none, none, none, none, none, none, none], (.bool (.var 1)), []⟩
     (.ite (.var 1)
     (.ite (.icmp .leq (.var 4) (.lit 1000))
      (.loop ⟨21, [0, 1, 0, 1, 1, 1, 1, 1], [(.agg [(.asl 0 (.var 0)), (.asl 1 (.var 1))]), (.agg [(.asl 2 (.var 2)), (.asl 3 (.var 3))]), (.asl 4 (.var 4)), (.ptr (some ⟨5, 0, none⟩)), (.ptr (some ⟨6, 0, none⟩)), (.tuple []), (.int .i64 (.lit 0)), (.int .i64 (.lit 0)), (.ptr (some ⟨7, 0, none⟩)), (.int .i64 (.lit 0)), (.int .i64 (.var 7)), (.tuple []), (.tuple []), (.tuple [(.agg [(.asl 0 (.var 0)), (.asl 1 (.var 1)), (.int .i64 (.var 7)), (.int .i64 (.var 8))]), (.int .i64 (.lit 0))]), (.agg [(.asl 0 (.var 0)), (.asl 1 (.var 1))]), (.agg [(.asl 2 (.var 2)), (.asl 3 (.var 3))]), (.tuple [(.agg [(.asl 0 (.var 0)), (.asl 1 (.var 1)), (.int .i64 (.var 7)), (.int .i64 (.var 8))]), (.int .i64 (.lit 0))]), (.agg [(.asl 0 (.var 0)), (.asl 1 (.var 1)), (.int .i64 (.var 7)), (.int .i64 (.var 8))]), (.int .i64 (.lit 0)), (.int .i64 (.lit 0)), (.bool (.lit false)), (.tuple []), (.asl 4 (.var 4)), (.int .i64 (.var 4)), (.bool (.icmp .gtr (.var 4) (.lit 1000))), (.ptr (some ⟨7, 2, none⟩)), (.int .i64 (.var 7)), (.asl 4 (.var 4)), (.int .i64 (.var 4)), (.int .i64 (.lit 0)), (.tuple []), (.tuple []), (.tuple []), (.tuple []), (.tuple []), (.tuple []), (.tuple []), (.tuple []), (.tuple []), (.tuple []), (.tuple []), (.tuple []), (.tuple []), (.tuple []), (.tuple []), (.tuple []), (.tuple []), (.tuple []), (.tuple []), (.tuple []), (.tuple [])], [(some ⟨[], 9, true, false, (some ⟨(.var 0), [.str], [(.avar 0)]⟩)⟩), (some ⟨[], 91, true, false, (some ⟨(.var 1), [(.int .i64), .bool, (.int .i64), .bool], [(.avar 1), (.avar 2), (.avar 3), (.avar 4)]⟩)⟩), (some ⟨[], 4, true, false, (some ⟨(.var 2), [.bool], [(.avar 5)]⟩)⟩), (some ⟨[], 4, true, false, (some ⟨(.var 3), [.bool], [(.avar 6)]⟩)⟩), (some ⟨[], 3, true, false, (some ⟨(.var 4), [(.int .i64)], [(.avar 7)]⟩)⟩), (some ⟨[(.asl 0 (.var 0)), (.asl 1 (.var 1))], 25, false, false, none⟩), (some ⟨[(.asl 2 (.var 2)), (.asl 3 (.var 3))], 45, false, false, none⟩), (some ⟨[(.asl 0 (.var 0)), (.asl 1 (.var 1)), (.int .i64 (.var 7)), (.int .i64 (.var 8))], 100, false, false, none⟩)], [], [(.agg [(.asl 0 (.var 0)), (.asl 1 (.var 1))]), (.agg [(.asl 2 (.var 2)), (.asl 3 (.var 3))]), (.asl 4 (.var 4)), (.ptr (some ⟨5, 0, none⟩)), (.ptr (some ⟨6, 0, none⟩)), (.tuple []), (.int .i64 (.lit 0)), (.int .i64 (.lit 0)), (.ptr (some ⟨7, 0, none⟩)), (.int .i64 (.lit 0)), (.int .i64 (.var 9)), (.tuple []), (.any 12), (.tuple [(.agg [(.asl 0 (.var 0)), (.asl 1 (.var 1)), (.int .i64 (.var 7)), (.int .i64 (.var 8))]), (.int .i64 (.lit 0))]), (.agg [(.asl 0 (.var 0)), (.asl 1 (.var 1))]), (.agg [(.asl 2 (.var 2)), (.asl 3 (.var 3))]), (.tuple [(.agg [(.asl 0 (.var 0)), (.asl 1 (.var 1)), (.int .i64 (.var 7)), (.int .i64 (.var 8))]), (.int .i64 (.lit 0))]), (.agg [(.asl 0 (.var 0)), (.asl 1 (.var 1)), (.int .i64 (.var 7)), (.int .i64 (.var 8))]), (.int .i64 (.lit 0)), (.int .i64 (.lit 0)), (.bool (.lit false)), (.tuple []), (.asl 4 (.var 4)), (.int .i64 (.var 4)), (.bool (.icmp .gtr (.var 4) (.lit 1000))), (.ptr (some ⟨7, 2, none⟩)), (.int .i64 (.var 7)), (.asl 4 (.var 4)), (.int .i64 (.var 4)), (.int .i64 (.var 10)), (.any 30), (.any 31), (.any 32), (.any 33), (.any 34), (.any 35), (.any 36), (.any 37), (.any 38), (.any 39), (.any 40), (.any 41), (.any 42), (.any 43), (.any 44), (.tuple []), (.tuple []), (.tuple []), (.tuple []), (.tuple []), (.tuple [])], [(some ⟨[], 9, true, false, (some ⟨(.var 0), [.str], [(.avar 0)]⟩)⟩), (some ⟨[], 91, true, false, (some ⟨(.var 1), [(.int .i64), .bool, (.int .i64), .bool], [(.avar 1), (.avar 2), (.avar 3), (.avar 4)]⟩)⟩), (some ⟨[], 4, true, false, (some ⟨(.var 2), [.bool], [(.avar 5)]⟩)⟩), (some ⟨[], 4, true, false, (some ⟨(.var 3), [.bool], [(.avar 6)]⟩)⟩), (some ⟨[], 3, true, false, (some ⟨(.var 4), [(.int .i64)], [(.avar 7)]⟩)⟩), (some ⟨[(.asl 0 (.var 0)), (.asl 1 (.var 1))], 25, false, false, none⟩), (some ⟨[(.asl 2 (.var 2)), (.asl 3 (.var 3))], 45, false, false, none⟩), (some ⟨[(.asl 0 (.var 0)), (.asl 1 (.var 1)), (.int .i64 (.var 7)), (.int .i64 (.var 8))], 100, false, false, none⟩)], [], ⟨2, 0, 0⟩, ⟨[(.var 7), (.lit 0)], [], []⟩, []⟩
       (.rng 9 0 255 (.rng 10 0 1000 (.ite (.icmp .leq (.var 4) (.var 10))
        (.out 1 ⟨[(.var 9)], [], []⟩ [])
        (.ite (.icmp .leq (.lit 0) (.sel (.avar 7) (.var 10)))
         (.ite (.icmp .leq (.sel (.avar 7) (.var 10)) (.bin .subI (.var 0) (.lit 1)))
          (.call _grow_change__isSafe_s ⟨[(.var 0), (.var 1), (.var 7), (.var 8), (.bin (.xorK .i64) (.var 9) (.bin (.shlK .i64) (.lit 1) (.sel (.avar 7) (.var 10))))], [], [(.avar 0), (.avar 1), (.avar 2), (.avar 3), (.avar 4)]⟩ ⟨[(.var 0), (.var 1), (.var 7), (.var 8), (.bin (.xorK .i64) (.var 9) (.bin (.shlK .i64) (.lit 1) (.sel (.avar 7) (.var 10))))], [(.var 2)], [(.avar 0), (.avar 1), (.avar 2), (.avar 3), (.avar 4)]⟩ ⟨53, [(.agg [(.asl 0 (.var 0)), (.asl 1 (.var 1)), (.int .i64 (.var 7)), (.int .i64 (.var 8))]), (.int .i64 (.bin (.xorK .i64) (.var 9) (.bin (.shlK .i64) (.lit 1) (.sel (.avar 7) (.var 10)))))], [0, 1], [(some ⟨[], 9, true, false, (some ⟨(.var 0), [.str], [(.avar 0)]⟩)⟩), (some ⟨[], 91, true, false, (some ⟨(.var 1), [(.int .i64), .bool, (.int .i64), .bool], [(.avar 1), (.avar 2), (.avar 3), (.avar 4)]⟩)⟩), none, none, none, none, none, none], (.bool (.var 2)), []⟩
           (.ite (.var 2)
           (.next ⟨[(.bin (.xorK .i64) (.var 9) (.bin (.shlK .i64) (.lit 1) (.sel (.avar 7) (.var 10)))), (.bin .addI (.var 10) (.lit 1))], [], []⟩ [])
           (.out 0 ⟨[(.lit 24), (.bin (.xorK .i64) (.var 9) (.bin (.shlK .i64) (.lit 1) (.sel (.avar 7) (.var 10))))], [], []⟩ [])))
          (.out 0 ⟨[(.lit 6), (.var 9)], [], []⟩ []))
         (.out 0 ⟨[(.lit 6), (.var 9)], [], []⟩ [])))))
       (.ex (.ret, [(.agg [(.asl 0 (.var 0)), (.asl 1 (.var 1))]), (.agg [(.asl 2 (.var 2)), (.asl 3 (.var 3))]), (.asl 4 (.var 4)), (.ptr (some ⟨5, 0, none⟩)), (.ptr (some ⟨6, 0, none⟩)), (.tuple []), (.int .i64 (.lit 0)), (.int .i64 (.var 9)), (.ptr (some ⟨7, 0, none⟩)), (.int .i64 (.lit 0)), (.int .i64 (.var 10)), (.tuple []), (.any 12), (.tuple [(.agg [(.asl 0 (.var 0)), (.asl 1 (.var 1)), (.int .i64 (.var 7)), (.int .i64 (.var 8))]), (.int .i64 (.lit 0))]), (.agg [(.asl 0 (.var 0)), (.asl 1 (.var 1))]), (.agg [(.asl 2 (.var 2)), (.asl 3 (.var 3))]), (.tuple [(.agg [(.asl 0 (.var 0)), (.asl 1 (.var 1)), (.int .i64 (.var 7)), (.int .i64 (.var 8))]), (.int .i64 (.lit 0))]), (.agg [(.asl 0 (.var 0)), (.asl 1 (.var 1)), (.int .i64 (.var 7)), (.int .i64 (.var 8))]), (.int .i64 (.lit 0)), (.int .i64 (.lit 0)), (.bool (.lit false)), (.tuple []), (.asl 4 (.var 4)), (.int .i64 (.var 4)), (.bool (.icmp .gtr (.var 4) (.lit 1000))), (.ptr (some ⟨7, 2, none⟩)), (.int .i64 (.var 7)), (.asl 4 (.var 4)), (.int .i64 (.var 4)), (.any 29), (.any 30), (.any 31), (.any 32), (.any 33), (.any 34), (.any 35), (.any 36), (.any 37), (.any 38), (.any 39), (.any 40), (.any 41), (.any 42), (.any 43), (.any 44), (.tuple []), (.tuple []), (.tuple []), (.tuple []), (.tuple []), (.tuple [])], [(some ⟨[], 9, true, false, (some ⟨(.var 0), [.str], [(.avar 0)]⟩)⟩), (some ⟨[], 91, true, false, (some ⟨(.var 1), [(.int .i64), .bool, (.int .i64), .bool], [(.avar 1), (.avar 2), (.avar 3), (.avar 4)]⟩)⟩), (some ⟨[], 4, true, false, (some ⟨(.var 2), [.bool], [(.avar 5)]⟩)⟩), (some ⟨[], 4, true, false, (some ⟨(.var 3), [.bool], [(.avar 6)]⟩)⟩), (some ⟨[], 3, true, false, (some ⟨(.var 4), [(.int .i64)], [(.avar 7)]⟩)⟩), (some ⟨[(.asl 0 (.var 0)), (.asl 1 (.var 1))], 25, false, false, none⟩), (some ⟨[(.asl 2 (.var 2)), (.asl 3 (.var 3))], 45, false, false, none⟩), (some ⟨[(.asl 0 (.var 0)), (.asl 1 (.var 1)), (.int .i64 (.var 7)), (.int .i64 (.var 8))], 100, false, false, none⟩)], []) ⟨2, 0, 0⟩
       (.rng 9 (-9223372036854775808) 9223372036854775807 (.rng 10 (-9223372036854775808) 9223372036854775807 (.ret ⟨[(.lit 0), (.var 9)], [], []⟩ [])))
       (.ex ((.exit 0), [(.agg [(.asl 0 (.var 0)), (.asl 1 (.var 1))]), (.agg [(.asl 2 (.var 2)), (.asl 3 (.var 3))]), (.asl 4 (.var 4)), (.ptr (some ⟨5, 0, none⟩)), (.ptr (some ⟨6, 0, none⟩)), (.tuple []), (.int .i64 (.lit 0)), (.int .i64 (.lit 0)), (.ptr (some ⟨7, 0, none⟩)), (.int .i64 (.lit 0)), (.int .i64 (.var 9)), (.tuple []), (.any 12), (.tuple [(.agg [(.asl 0 (.var 0)), (.asl 1 (.var 1)), (.int .i64 (.var 7)), (.int .i64 (.var 8))]), (.int .i64 (.lit 0))]), (.agg [(.asl 0 (.var 0)), (.asl 1 (.var 1))]), (.agg [(.asl 2 (.var 2)), (.asl 3 (.var 3))]), (.tuple [(.agg [(.asl 0 (.var 0)), (.asl 1 (.var 1)), (.int .i64 (.var 7)), (.int .i64 (.var 8))]), (.int .i64 (.lit 0))]), (.agg [(.asl 0 (.var 0)), (.asl 1 (.var 1)), (.int .i64 (.var 7)), (.int .i64 (.var 8))]), (.int .i64 (.lit 0)), (.int .i64 (.lit 0)), (.bool (.lit false)), (.tuple []), (.asl 4 (.var 4)), (.int .i64 (.var 4)), (.bool (.icmp .gtr (.var 4) (.lit 1000))), (.ptr (some ⟨7, 2, none⟩)), (.int .i64 (.var 7)), (.asl 4 (.var 4)), (.int .i64 (.var 4)), (.any 29), (.any 30), (.any 31), (.any 32), (.any 33), (.any 34), (.any 35), (.any 36), (.any 37), (.any 38), (.any 39), (.any 40), (.any 41), (.any 42), (.any 43), (.any 44), (.tuple []), (.tuple []), (.tuple []), (.tuple []), (.tuple []), (.tuple [])], [(some ⟨[], 9, true, false, (some ⟨(.var 0), [.str], [(.avar 0)]⟩)⟩), (some ⟨[], 91, true, false, (some ⟨(.var 1), [(.int .i64), .bool, (.int .i64), .bool], [(.avar 1), (.avar 2), (.avar 3), (.avar 4)]⟩)⟩), (some ⟨[], 4, true, false, (some ⟨(.var 2), [.bool], [(.avar 5)]⟩)⟩), (some ⟨[], 4, true, false, (some ⟨(.var 3), [.bool], [(.avar 6)]⟩)⟩), (some ⟨[], 3, true, false, (some ⟨(.var 4), [(.int .i64)], [(.avar 7)]⟩)⟩), (some ⟨[(.asl 0 (.var 0)), (.asl 1 (.var 1))], 25, false, false, none⟩), (some ⟨[(.asl 2 (.var 2)), (.asl 3 (.var 3))], 45, false, false, none⟩), (some ⟨[(.asl 0 (.var 0)), (.asl 1 (.var 1)), (.int .i64 (.var 7)), (.int .i64 (.var 8))], 100, false, false, none⟩)], []) ⟨1, 0, 0⟩
       (.rng 9 (-9223372036854775808) 9223372036854775807 (.ite (.icmp .eql (.var 9) (.var 8))
        (.ret ⟨[(.var 4), (.lit 0)], [], []⟩ [])
        (.ret ⟨[(.lit 0), (.lit 23)], [], []⟩ [])))
       .nil)))
      (.ret ⟨[(.lit 0), (.lit 8)], [], []⟩ []))
     (.ret ⟨[(.lit 0), (.lit 24)], [], []⟩ [])))
    (.ret ⟨[(.lit 0), (.lit 24)], [], []⟩ [])))))))
   (.ret ⟨[(.lit 0), (.var 6)], [], []⟩ []))
  (.ret ⟨[(.lit 0), (.var 5)], [], []⟩ []))))
theorem csq {x0 x1 x2 x3 x4 : Int} {f0 f1 f2 f3 f4 f5 f6 f7 : Int → Int} (r0 : 0 ≤ x0 ∧ x0 ≤ 10) (r1 : 0 ≤ x1 ∧ x1 ≤ 32) (r2 : 0 ≤ x2 ∧ x2 ≤ 12) (r3 : 0 ≤ x3 ∧ x3 ≤ 12) (r4 : 0 ≤ x4 ∧ x4 ≤ 1002) (s1 : ∀ q, (-9223372036854775808) ≤ f1 q ∧ f1 q ≤ 9223372036854775807) (s3 : ∀ q, (-9223372036854775808) ≤ f3 q ∧ f3 q ≤ 9223372036854775807) (s7 : ∀ q, (-9223372036854775808) ≤ f7 q ∧ f7 q ≤ 9223372036854775807) {R : Int → Int → Prop}
  (H : (∃ v5 : Int, Spec Try.prog grow_checkState_s ⟨[x0, x1, x2], [], [f0, f1, f2, f3, f4, f5]⟩ [v5] [] [] ∧
   (∃ v6 : Int, Spec Try.prog grow_checkState_s ⟨[x0, x1, x3], [], [f0, f1, f2, f3, f4, f6]⟩ [v6] [] [] ∧
   ((((v5 : Int) == 0) = true → ((((v6 : Int) == 0) = true → (∃ v7 : Int, Spec Try.prog grow_numberOf_s ⟨[x2], [], [f5]⟩ [v7] [] [] ∧
     ((0 ≤ (v7 : Int) ∧ (v7 : Int) ≤ 255) ∧ (∃ v8 : Int, Spec Try.prog grow_numberOf_s ⟨[x3], [], [f6]⟩ [v8] [] [] ∧
     ((0 ≤ (v8 : Int) ∧ (v8 : Int) ≤ 255) ∧ (∃ u0 : Bool, Spec Try.prog _grow_change__isSafe_s ⟨[x0, x1, v7, v8, v7], [], [f0, f1, f2, f3, f4]⟩ [] [u0] [] ∧
     ((u0 = true → (∃ u1 : Bool, Spec Try.prog _grow_change__isSafe_s ⟨[x0, x1, v7, v8, v8], [], [f0, f1, f2, f3, f4]⟩ [] [u1] [] ∧
      ((u1 = true → ((decide ((x4 : Int) ≤ 1000) = true → (∃ (I9 : Int → Int → Prop) (rk9 : Int → Int → Nat), I9 (v7) (0) ∧
        (∀ x9 : Int, ∀ x10 : Int, I9 x9 x10 → ((0 ≤ (x9 : Int) ∧ (x9 : Int) ≤ 255) ∧ ((0 ≤ (x10 : Int) ∧ (x10 : Int) ≤ 1000) ∧ ((decide ((x4 : Int) ≤ x10) = true → (((-9223372036854775808) ≤ ((x9) : Int) ∧ ((x9) : Int) ≤ 9223372036854775807) ∧ (((((x9) : Int) == v8) = true → R (x4) (0)) ∧
         ((((x9) : Int) == v8) = false → R (0) (23))))) ∧
         (decide ((x4 : Int) ≤ x10) = false → ((decide ((0 : Int) ≤ (f7 x10)) = true → ((decide (((f7 x10) : Int) ≤ (x0 - 1)) = true → (∃ u2 : Bool, Spec Try.prog _grow_change__isSafe_s ⟨[x0, x1, v7, v8, (NOp.den (.xorK .i64) x9 (NOp.den (.shlK .i64) 1 (f7 x10)))], [], [f0, f1, f2, f3, f4]⟩ [] [u2] [] ∧
            ((u2 = true → (I9 ((NOp.den (.xorK .i64) x9 (NOp.den (.shlK .i64) 1 (f7 x10)))) ((x10 + 1)) ∧ rk9 ((NOp.den (.xorK .i64) x9 (NOp.den (.shlK .i64) 1 (f7 x10)))) ((x10 + 1)) < rk9 x9 x10)) ∧
            (u2 = false → (((-9223372036854775808) ≤ ((24) : Int) ∧ ((24) : Int) ≤ 9223372036854775807) ∧ (((-9223372036854775808) ≤ (((NOp.den (.xorK .i64) x9 (NOp.den (.shlK .i64) 1 (f7 x10)))) : Int) ∧ (((NOp.den (.xorK .i64) x9 (NOp.den (.shlK .i64) 1 (f7 x10)))) : Int) ≤ 9223372036854775807) ∧ R (0) ((24)))))))) ∧
           (decide (((f7 x10) : Int) ≤ (x0 - 1)) = false → (((-9223372036854775808) ≤ ((6) : Int) ∧ ((6) : Int) ≤ 9223372036854775807) ∧ (((-9223372036854775808) ≤ ((x9) : Int) ∧ ((x9) : Int) ≤ 9223372036854775807) ∧ R (0) ((6))))))) ∧
          (decide ((0 : Int) ≤ (f7 x10)) = false → (((-9223372036854775808) ≤ ((6) : Int) ∧ ((6) : Int) ≤ 9223372036854775807) ∧ (((-9223372036854775808) ≤ ((x9) : Int) ∧ ((x9) : Int) ≤ 9223372036854775807) ∧ R (0) ((6))))))))))))) ∧
       (decide ((x4 : Int) ≤ 1000) = false → R (0) (8)))) ∧
      (u1 = false → R (0) (24))))) ∧
     (u0 = false → R (0) (24))))))))) ∧
    (((v6 : Int) == 0) = false → R (0) (v6)))) ∧
   (((v5 : Int) == 0) = false → R (0) (v5)))))) :
    ∃ v0 : Int, ∃ v1 : Int, R v0 v1 ∧ Spec Try.prog grow_CheckSequence_s ⟨[x0, x1, x2, x3, x4], [], [f0, f1, f2, f3, f4, f5, f6, f7]⟩ [v0, v1] [] [] :=
  Eq.mp (by kernel_rfl) (exV_of (K := fun d => app3 grow_CheckSequence_s.out R d ∧ Spec Try.prog grow_CheckSequence_s ⟨[x0, x1, x2, x3, x4], [], [f0, f1, f2, f3, f4, f5, f6, f7]⟩ d.1 d.2.1 d.2.2) (tree_at mixed names S1_ok (S := S1 Try.prog) (lf := 100000) (d := 60) grow_CheckSequence_s csq_t { ivs := [(0, 0, 10), (1, 0, 32), (2, 0, 12), (3, 0, 12), (4, 0, 1002)], aivs := [(1, (-9223372036854775808), 9223372036854775807), (3, (-9223372036854775808), 9223372036854775807), (7, (-9223372036854775808), 9223372036854775807)] } ⟨[x0, x1, x2, x3, x4], [], [f0, f1, f2, f3, f4, f5, f6, f7]⟩ rfl (by kernel_rfl) (by kernel_rfl) (by kernel_rfl) ⟨(fc r0 (fc r1 (fc r2 (fc r3 (fc r4 fz))))), fz, (fc s1 (fc s3 (fc s7 fz))), fz⟩ (R := fun d => app3 grow_CheckSequence_s.out R d) (Eq.mp (by kernel_rfl) H)))

def xorS (v d : Int) : Int := NOp.den (.xorK .i64) v (NOp.den (.shlK .i64) 1 d)

def xorChk (v d c : Nat) : Bool := decide (0 ≤ xorS v d ∧ xorS v d ≤ 255) && (bitOf (xorS v d) c == if c = d then 1 - bitOf v c else bitOf v c) && decide (bitOf v c = 0 ∨ bitOf v c = 1)

theorem xor_all : ∀ v < 256, ∀ d < 8, ∀ c < 8, xorChk v d c = true := by decide +kernel

theorem bits_all : ∀ v < 256, ((v : Nat) : Int) = bitOf v 0 + 2 * bitOf v 1 + 4 * bitOf v 2 + 8 * bitOf v 3 + 16 * bitOf v 4 + 32 * bitOf v 5 + 64 * bitOf v 6 + 128 * bitOf v 7 := by decide +kernel

theorem bit_two {v d : Int} (h0 : 0 ≤ v ∧ v ≤ 255) (h1 : 0 ≤ d ∧ d < 8) : bitOf v d = 0 ∨ bitOf v d = 1 := by

  obtain ⟨n, rfl⟩ := Int.eq_ofNat_of_zero_le h0.1

  obtain ⟨c, rfl⟩ := Int.eq_ofNat_of_zero_le h1.1

  have a := xor_all n (by omega) 0 (by decide) c (by omega)

  simp only [xorChk, Bool.and_eq_true, decide_eq_true_eq, beq_iff_eq] at a

  exact a.2

/-- A number is that of a state. -/

def numIs (x0 : Int) (f : Int → Int) (v : Int) : Prop := (0 ≤ v ∧ v ≤ 255) ∧ ∀ d, 0 ≤ d → d < 8 → (bitOf v d = 1 ↔ d < x0 ∧ f d ≠ 0)

theorem stN.num {x0 v : Int} {f : Int → Int} (h0 : 0 ≤ x0) (h8 : x0 ≤ 8) (h : stN f x0 v) : numIs x0 f v := ⟨⟨h.1.1, by have := pow_le8 h0 h8; have := h.1.2; omega⟩, h.2⟩

theorem numIs.xor {x0 v d : Int} {f : Int → Int} (h8 : x0 ≤ 8) (hd : 0 ≤ d ∧ d ≤ x0 - 1) (h : numIs x0 f v) : numIs x0 (flip f d) (xorS v d) := by

  obtain ⟨hv, hb⟩ := h

  obtain ⟨n, rfl⟩ := Int.eq_ofNat_of_zero_le hv.1

  obtain ⟨c, rfl⟩ := Int.eq_ofNat_of_zero_le hd.1

  have a := xor_all n (by omega) c (by omega) 0 (by decide)

  simp only [xorChk, Bool.and_eq_true, decide_eq_true_eq, beq_iff_eq] at a

  refine ⟨a.1.1, fun q q0 q1 => ?_⟩

  obtain ⟨b, rfl⟩ := Int.eq_ofNat_of_zero_le q0

  have e := xor_all n (by omega) c (by omega) b (by omega)

  simp only [xorChk, Bool.and_eq_true, decide_eq_true_eq, beq_iff_eq] at e

  have e2 := e.1.2

  have hq := hb ((b : Nat) : Int) q0 q1

  have hz := e.2

  rw [e2]

  by_cases hc : b = c

  · subst hc

    rw [if_pos rfl]

    unfold flip

    split

    · rename_i hf

      dsimp only

      rw [if_pos rfl]

      omega

    · rename_i hf

      dsimp only

      rw [if_pos rfl]

      omega

  · rw [if_neg hc]

    have : flip f ((c : Nat) : Int) ((b : Nat) : Int) = f ((b : Nat) : Int) := by

      unfold flip

      split <;> (dsimp only; rw [if_neg (by omega)])

    rw [this]; exact hq

def sameSt (x0 : Int) (f g : Int → Int) : Prop := ∀ d, 0 ≤ d → d < x0 → (f d ≠ 0 ↔ g d ≠ 0)

theorem num_uniq {x0 v w : Int} {f g : Int → Int} (h8 : x0 ≤ 8) (h : numIs x0 f v) (k : numIs x0 g w) : v = w ↔ sameSt x0 f g := by

  constructor

  · rintro rfl d d0 d1

    have a := h.2 d d0 (by omega)

    have b := k.2 d d0 (by omega)

    constructor

    · intro n; exact (b.1 (a.2 ⟨d1, n⟩)).2

    · intro n; exact (a.1 (b.2 ⟨d1, n⟩)).2

  · intro s

    have key : ∀ d, 0 ≤ d → d < 8 → bitOf v d = bitOf w d := by

      intro d d0 d1

      have a := h.2 d d0 d1

      have b := k.2 d d0 d1

      have z1 := bit_two h.1 ⟨d0, d1⟩

      have z2 := bit_two k.1 ⟨d0, d1⟩

      by_cases hd : d < x0

      · have c := s d d0 hd

        have : bitOf v d = 1 ↔ bitOf w d = 1 := by

          rw [a, b]

          exact ⟨fun n => ⟨hd, c.1 n.2⟩, fun n => ⟨hd, c.2 n.2⟩⟩

        omega

      · have n1 : ¬ bitOf v d = 1 := fun n => hd (a.1 n).1

        have n2 : ¬ bitOf w d = 1 := fun n => hd (b.1 n).1

        omega

    obtain ⟨n, rfl⟩ := Int.eq_ofNat_of_zero_le h.1.1

    obtain ⟨m, rfl⟩ := Int.eq_ofNat_of_zero_le k.1.1

    have a := bits_all n (by have := h.1.2; omega)

    have b := bits_all m (by have := k.1.2; omega)

    rw [a, b, key 0 (by decide) (by decide), key 1 (by decide) (by decide), key 2 (by decide) (by decide), key 3 (by decide) (by decide), key 4 (by decide) (by decide), key 5 (by decide) (by decide), key 6 (by decide) (by decide), key 7 (by decide) (by decide)]

def safe (x1 : Int) (f1 f2 f3 f4 f : Int → Int) : Prop := ∀ j, 0 ≤ j → j < x1 → ¬ brk f1 f2 f3 f4 f j

theorem safe_congr {x0 x1 : Int} {f1 f2 f3 f4 f g : Int → Int} (rl : rulesOk x0 x1 f1 f3) (s : sameSt x0 f g) (h : safe x1 f1 f2 f3 f4 f) : safe x1 f1 f2 f3 f4 g := by

  intro j j0 j1

  have ro := rl.2 j j0 j1

  have a := s (f1 j) ro.1.1 (by have := ro.1.2; omega)

  have b := s (f3 j) ro.2.1 (by have := ro.2.2; omega)

  have n := h j j0 j1

  unfold brk at n ⊢

  omega

theorem isSafe_s {x0 x1 x2 x3 v : Int} {f0 f1 f2 f3 f4 f : Int → Int} (r0 : 0 ≤ x0 ∧ x0 ≤ 8) (r1 : 0 ≤ x1) (r2 : I64 x2) (r3 : I64 x3) (s1 : ∀ q, I64 (f1 q)) (s3 : ∀ q, I64 (f3 q)) (rl : rulesOk x0 x1 f1 f3) (hv : numIs x0 f v) :

    ∃ u : Bool, (u = true ↔ safe x1 f1 f2 f3 f4 f) ∧ Spec Try.prog _grow_change__isSafe_s ⟨[x0, x1, x2, x3, v], [], [f0, f1, f2, f3, f4]⟩ [] [u] [] := by

  have l30 := rl.1

  refine isf r0 ⟨r1, l30⟩ r2 r3 (by have := hv.1; omega) s1 s3 (R := fun u => u = true ↔ safe x1 f1 f2 f3 f4 f) ⟨fun i => (0 ≤ i ∧ i ≤ x1) ∧ ∀ j, 0 ≤ j → j < i → ¬ brk f1 f2 f3 f4 f j, fun i => (x1 - i).toNat, ⟨⟨by omega, by omega⟩, fun j a b => by omega⟩, ?_⟩

  rintro i ⟨hi, hb⟩

  simp only [decide_eq_true_eq, decide_eq_false_iff_not, beq_iff_eq, beq_eq_false_iff_ne, ne_eq]

  refine ⟨by omega, fun h => ⟨fun _ j a b => hb j a (by omega), fun _ => by trivial⟩, fun h => ?_⟩

  have ro := rl.2 i hi.1 (by omega)

  have b1 := hv.2 (f1 i) ro.1.1 (by have := ro.1.2; omega)

  have b3 := hv.2 (f3 i) ro.2.1 (by have := ro.2.2; omega)

  have c1 : bitOf v (f1 i) = 1 ↔ f (f1 i) ≠ 0 := by rw [b1]; have := ro.1.2; exact ⟨fun h => h.2, fun h => ⟨by omega, h⟩⟩

  have c3 : bitOf v (f3 i) = 1 ↔ f (f3 i) ≠ 0 := by rw [b3]; have := ro.2.2; exact ⟨fun h => h.2, fun h => ⟨by omega, h⟩⟩

  clear b1 b3

  have p1 := ro.1.1

  have p3 := ro.2.1

  have go : ¬ brk f1 f2 f3 f4 f i → (((0 ≤ i + 1 ∧ i + 1 ≤ x1) ∧ ∀ j, 0 ≤ j → j < i + 1 → ¬ brk f1 f2 f3 f4 f j) ∧ (x1 - (i + 1)).toNat < (x1 - i).toNat) := fun n => ⟨⟨⟨by omega, by omega⟩, fun j a b => by

    by_cases e : j = i

    · subst e; exact n

    · exact hb j a (by omega)⟩, by omega⟩

  have stop : brk f1 f2 f3 f4 f i → (((-9223372036854775808) ≤ i ∧ i ≤ 9223372036854775807) ∧ ((!decide (i ≥ 0)) = true ↔ safe x1 f1 f2 f3 f4 f)) := fun b => ⟨by omega, fun n => absurd hi.1 (by simpa using n), fun n => absurd b (n i hi.1 (by omega))⟩

  show (0 ≤ f1 i → (bitOf v (f1 i) = 1 → _) ∧ (¬ bitOf v (f1 i) = 1 → _)) ∧ _

  have d3 : (NOp.den (.andK .i64) (NOp.den (.shrK .i64) v (f3 i)) 1) = bitOf v (f3 i) := rfl

  rw [d3]

  generalize bitOf v (f1 i) = m1 at *

  generalize bitOf v (f3 i) = m3 at *

  repeat' (first | exact go (by unfold brk; omega) | exact stop (by unfold brk; omega) | (exfalso; omega) | (refine ⟨fun _ => ?_, fun _ => ?_⟩))

theorem checkState_s {x0 x1 x2 k e : Int} {f0 f1 f2 f3 f4 f5 : Int → Int} (r0 : 0 ≤ x0 ∧ x0 ≤ 10) (r1 : 0 ≤ x1 ∧ x1 ≤ 32) (r2 : 0 ≤ x2 ∧ x2 ≤ 12) (s1 : ∀ q, I64 (f1 q)) (s3 : ∀ q, I64 (f3 q)) (h : chamIs x0 x1 f0 f1 f3 k e) :

    Spec Try.prog grow_checkState_s ⟨[x0, x1, x2], [], [f0, f1, f2, f3, f4, f5]⟩ [if e = 0 then (if x2 = x0 then 0 else 12) else e] [] [] := by

  obtain ⟨k', e', hc, hcs⟩ := chamber_p (f2 := f2) (f4 := f4) r0 r1 s1 s3

  obtain ⟨rfl, rfl⟩ := chamIs_uniq h hc

  obtain ⟨a, rfl, hs⟩ := cks (f5 := f5) r0 r1 r2 s1 s3 (R := (· = if e = 0 then (if x2 = x0 then 0 else 12) else e)) ⟨_, _, hcs, fun h => ⟨fun g => by rw [if_pos (eq_of_beq h), if_pos (eq_of_beq g)], fun g => by rw [if_pos (eq_of_beq h), if_neg (by simpa using g)]⟩, fun h => by rw [if_neg (by simpa using h)]⟩

  exact hs

/-- A change is right, or its first error. -/

inductive chgIs (x0 x1 x2 x3 : Int) (f0 f1 f2 f3 f4 f5 f6 : Int → Int) : Int → Prop where

  | cham {k e : Int} : chamIs x0 x1 f0 f1 f3 k e → e ≠ 0 → chgIs x0 x1 x2 x3 f0 f1 f2 f3 f4 f5 f6 e

  | shape : devsOk x0 f0 → rulesOk x0 x1 f1 f3 → ¬ (x2 = x0 ∧ x3 = x0) → chgIs x0 x1 x2 x3 f0 f1 f2 f3 f4 f5 f6 12

  | hurt : devsOk x0 f0 → rulesOk x0 x1 f1 f3 → x2 = x0 → x3 = x0 → ¬ (safe x1 f1 f2 f3 f4 f5 ∧ safe x1 f1 f2 f3 f4 f6) → chgIs x0 x1 x2 x3 f0 f1 f2 f3 f4 f5 f6 24

  | ok : devsOk x0 f0 → rulesOk x0 x1 f1 f3 → x2 = x0 → x3 = x0 → safe x1 f1 f2 f3 f4 f5 → safe x1 f1 f2 f3 f4 f6 → chgIs x0 x1 x2 x3 f0 f1 f2 f3 f4 f5 f6 0

theorem chamIs_nil {x0 x1 k : Int} {f0 f1 f3 : Int → Int} (h : chamIs x0 x1 f0 f1 f3 k 0) : k = 0 ∧ devsOk x0 f0 ∧ rulesOk x0 x1 f1 f3 := by

  generalize he : (0 : Int) = e at h

  cases h with

  | many g => omega

  | dev g => rcases g.2 with ⟨_, h⟩ | ⟨_, _, h⟩ <;> omega

  | long _ _ => omega

  | rule _ _ => omega

  | ok d r => exact ⟨he.symm, d, r⟩

theorem chgIs_uniq {x0 x1 x2 x3 e e' : Int} {f0 f1 f2 f3 f4 f5 f6 : Int → Int} (h : chgIs x0 x1 x2 x3 f0 f1 f2 f3 f4 f5 f6 e) (h' : chgIs x0 x1 x2 x3 f0 f1 f2 f3 f4 f5 f6 e') : e = e' := by

  have no : ∀ {k e}, chamIs x0 x1 f0 f1 f3 k e → e ≠ 0 → devsOk x0 f0 → rulesOk x0 x1 f1 f3 → False := fun h n d r => n (chamIs_uniq h (.ok d r)).2

  cases h with

  | cham a b => cases h' with

    | cham c d => exact (chamIs_uniq a c).2

    | shape c d _ => exact (no a b c d).elim

    | hurt c d _ _ _ => exact (no a b c d).elim

    | ok c d _ _ _ _ => exact (no a b c d).elim

  | shape a b c => cases h' with

    | cham d e => exact (no d e a b).elim

    | shape _ _ _ => rfl

    | hurt _ _ p q _ => exact absurd ⟨p, q⟩ c

    | ok _ _ p q _ _ => exact absurd ⟨p, q⟩ c

  | hurt a b p q n => cases h' with

    | cham d e => exact (no d e a b).elim

    | shape _ _ c => exact absurd ⟨p, q⟩ c

    | hurt _ _ _ _ _ => rfl

    | ok _ _ _ _ s t => exact absurd ⟨s, t⟩ n

  | ok a b p q s t => cases h' with

    | cham d e => exact (no d e a b).elim

    | shape _ _ c => exact absurd ⟨p, q⟩ c

    | hurt _ _ _ _ n => exact absurd ⟨s, t⟩ n

    | ok _ _ _ _ _ _ => rfl

/-- The state behind so many switches. -/

def stS (f l : Int → Int) : Nat → Int → Int

  | 0 => f

  | n + 1 => flip (stS f l n) (l ((n : Nat) : Int))

theorem stS_next {f l : Int → Int} {i : Int} (h : 0 ≤ i) : stS f l (i + 1).toNat = flip (stS f l i.toNat) (l i) := by

  obtain ⟨n, rfl⟩ := Int.eq_ofNat_of_zero_le h

  rfl

def okTo (x0 x1 : Int) (f1 f2 f3 f4 f5 f7 : Int → Int) (k : Int) : Prop := ∀ j, 0 ≤ j → j < k → (0 ≤ f7 j ∧ f7 j ≤ x0 - 1) ∧ safe x1 f1 f2 f3 f4 (stS f5 f7 (j + 1).toNat)

inductive seqIs (x0 x1 x4 : Int) (f1 f2 f3 f4 f5 f6 f7 : Int → Int) : Int → Int → Prop where

  | far : 1000 < x4 → seqIs x0 x1 x4 f1 f2 f3 f4 f5 f6 f7 0 8

  | miss {k : Int} : x4 ≤ 1000 → 0 ≤ k → k < x4 → okTo x0 x1 f1 f2 f3 f4 f5 f7 k → ¬ (0 ≤ f7 k ∧ f7 k ≤ x0 - 1) → seqIs x0 x1 x4 f1 f2 f3 f4 f5 f6 f7 0 6

  | hurt {k : Int} : x4 ≤ 1000 → 0 ≤ k → k < x4 → okTo x0 x1 f1 f2 f3 f4 f5 f7 k → (0 ≤ f7 k ∧ f7 k ≤ x0 - 1) → ¬ safe x1 f1 f2 f3 f4 (stS f5 f7 (k + 1).toNat) → seqIs x0 x1 x4 f1 f2 f3 f4 f5 f6 f7 0 24

  | left : x4 ≤ 1000 → okTo x0 x1 f1 f2 f3 f4 f5 f7 x4 → ¬ sameSt x0 (stS f5 f7 x4.toNat) f6 → seqIs x0 x1 x4 f1 f2 f3 f4 f5 f6 f7 0 23

  | done : x4 ≤ 1000 → okTo x0 x1 f1 f2 f3 f4 f5 f7 x4 → sameSt x0 (stS f5 f7 x4.toNat) f6 → seqIs x0 x1 x4 f1 f2 f3 f4 f5 f6 f7 x4 0

theorem okTo_next {x0 x1 k : Int} {f1 f2 f3 f4 f5 f7 : Int → Int} (h0 : 0 ≤ k) (h : okTo x0 x1 f1 f2 f3 f4 f5 f7 k) (h1 : 0 ≤ f7 k ∧ f7 k ≤ x0 - 1) (h2 : safe x1 f1 f2 f3 f4 (stS f5 f7 (k + 1).toNat)) : okTo x0 x1 f1 f2 f3 f4 f5 f7 (k + 1) := by

  intro j a b

  by_cases e : j = k

  · subst e; exact ⟨h1, h2⟩

  · exact h j a (by omega)

/-- The beginning of what looks at a change. -/

theorem head_tree {x0 x1 x2 x3 : Int} {f0 f1 f2 f3 f4 f5 f6 : Int → Int} (r0 : 0 ≤ x0 ∧ x0 ≤ 10) (r1 : 0 ≤ x1 ∧ x1 ≤ 32) (r2 : 0 ≤ x2 ∧ x2 ≤ 12) (r3 : 0 ≤ x3 ∧ x3 ≤ 12) (s1 : ∀ q, I64 (f1 q)) (s3 : ∀ q, I64 (f3 q)) {E : Int → Prop} {K : Int → Int → Prop}

    (hE : ∀ e, chgIs x0 x1 x2 x3 f0 f1 f2 f3 f4 f5 f6 e → e ≠ 0 → E e) (hK : ∀ v w, chgIs x0 x1 x2 x3 f0 f1 f2 f3 f4 f5 f6 0 → numIs x0 f5 v → numIs x0 f6 w → K v w) :

    (∃ v5 : Int, Spec Try.prog grow_checkState_s ⟨[x0, x1, x2], [], [f0, f1, f2, f3, f4, f5]⟩ [v5] [] [] ∧ (∃ v6 : Int, Spec Try.prog grow_checkState_s ⟨[x0, x1, x3], [], [f0, f1, f2, f3, f4, f6]⟩ [v6] [] [] ∧

      (((v5 == (0 : Int)) = true → (((v6 == (0 : Int)) = true → (∃ v7 : Int, Spec Try.prog grow_numberOf_s ⟨[x2], [], [f5]⟩ [v7] [] [] ∧ ((0 ≤ v7 ∧ v7 ≤ 255) ∧ (∃ v8 : Int, Spec Try.prog grow_numberOf_s ⟨[x3], [], [f6]⟩ [v8] [] [] ∧ ((0 ≤ v8 ∧ v8 ≤ 255) ∧

        (∃ u0 : Bool, Spec Try.prog _grow_change__isSafe_s ⟨[x0, x1, v7, v8, v7], [], [f0, f1, f2, f3, f4]⟩ [] [u0] [] ∧ ((u0 = true → (∃ u1 : Bool, Spec Try.prog _grow_change__isSafe_s ⟨[x0, x1, v7, v8, v8], [], [f0, f1, f2, f3, f4]⟩ [] [u1] [] ∧ ((u1 = true → K v7 v8) ∧ (u1 = false → E 24)))) ∧ (u0 = false → E 24))))))))

        ∧ ((v6 == (0 : Int)) = false → E v6))) ∧ ((v5 == (0 : Int)) = false → E v5)))) := by

  obtain ⟨k, e, hc, -⟩ := chamber_p (f2 := f2) (f4 := f4) r0 r1 s1 s3

  have c1 := checkState_s (f2 := f2) (f4 := f4) (f5 := f5) r0 r1 r2 s1 s3 hc

  have c2 := checkState_s (f2 := f2) (f4 := f4) (f5 := f6) r0 r1 r3 s1 s3 hc

  by_cases he : e = 0

  · subst he

    obtain ⟨hk, dv, rl⟩ := chamIs_nil hc

    rw [if_pos rfl] at c1 c2

    by_cases h2 : x2 = x0

    · rw [if_pos h2] at c1

      by_cases h3 : x3 = x0

      · rw [if_pos h3] at c2

        obtain ⟨v, hv, hvs⟩ := numberOf_s (f0 := f5) ⟨r2.1, by have := dv.1; omega⟩

        obtain ⟨w, hw, hws⟩ := numberOf_s (f0 := f6) ⟨r3.1, by have := dv.1; omega⟩

        have nv : numIs x0 f5 v := by rw [h2] at hv; exact hv.num r0.1 dv.1

        have nw : numIs x0 f6 w := by rw [h3] at hw; exact hw.num r0.1 dv.1

        have iv : I64 v := by have := nv.1; exact ⟨by omega, by omega⟩

        have iw : I64 w := by have := nw.1; exact ⟨by omega, by omega⟩

        obtain ⟨u, hu, us⟩ := isSafe_s (x2 := v) (x3 := w) (f0 := f0) (f2 := f2) (f4 := f4) ⟨r0.1, dv.1⟩ r1.1 iv iw s1 s3 rl nv

        obtain ⟨u', hu', us'⟩ := isSafe_s (x2 := v) (x3 := w) (f0 := f0) (f2 := f2) (f4 := f4) ⟨r0.1, dv.1⟩ r1.1 iv iw s1 s3 rl nw

        refine ⟨_, c1, _, c2, fun _ => ⟨fun _ => ⟨_, hvs, nv.1, _, hws, nw.1, _, us, fun g => ⟨_, us', fun g' => hK v w (.ok dv rl h2 h3 (hu.1 g) (hu'.1 g')) nv nw, fun g' => hE 24 (.hurt dv rl h2 h3 fun m => ?_) (by decide)⟩, fun g => hE 24 (.hurt dv rl h2 h3 fun m => ?_) (by decide)⟩, fun h => by simp at h⟩, fun h => by simp at h⟩

        · have := hu'.2 m.2; rw [this] at g'; cases g'

        · have := hu.2 m.1; rw [this] at g; cases g

      · rw [if_neg h3] at c2

        exact ⟨_, c1, _, c2, fun _ => ⟨fun h => by simp at h, fun _ => hE 12 (.shape dv rl (fun g => h3 g.2)) (by decide)⟩, fun h => by simp at h⟩

    · rw [if_neg h2] at c1

      exact ⟨_, c1, _, c2, fun h => by simp at h, fun _ => hE 12 (.shape dv rl (fun g => h2 g.1)) (by decide)⟩

  · rw [if_neg he] at c1 c2

    exact ⟨_, c1, _, c2, fun h => absurd (eq_of_beq h) he, fun _ => hE e (.cham hc he) he⟩

theorem chgIs_zero {x0 x1 x2 x3 : Int} {f0 f1 f2 f3 f4 f5 f6 : Int → Int} (hc : chgIs x0 x1 x2 x3 f0 f1 f2 f3 f4 f5 f6 0) : (devsOk x0 f0 ∧ rulesOk x0 x1 f1 f3) ∧ (x2 = x0 ∧ x3 = x0) ∧ safe x1 f1 f2 f3 f4 f5 ∧ safe x1 f1 f2 f3 f4 f6 := by

  generalize hz : (0 : Int) = z at hc

  cases hc with

  | cham a b => exact absurd hz.symm b

  | shape _ _ _ => omega

  | hurt _ _ _ _ _ => omega

  | ok a b c d e f => exact ⟨⟨a, b⟩, ⟨c, d⟩, e, f⟩

/-- What is said of a sequence. -/

def seqR (x0 x1 x2 x3 x4 : Int) (f0 f1 f2 f3 f4 f5 f6 f7 : Int → Int) (n e : Int) : Prop :=

  (chgIs x0 x1 x2 x3 f0 f1 f2 f3 f4 f5 f6 e ∧ e ≠ 0 ∧ n = 0) ∨ (chgIs x0 x1 x2 x3 f0 f1 f2 f3 f4 f5 f6 0 ∧ seqIs x0 x1 x4 f1 f2 f3 f4 f5 f6 f7 n e)

theorem seq_p {x0 x1 x2 x3 x4 : Int} {f0 f1 f2 f3 f4 f5 f6 f7 : Int → Int} (r0 : 0 ≤ x0 ∧ x0 ≤ 10) (r1 : 0 ≤ x1 ∧ x1 ≤ 32) (r2 : 0 ≤ x2 ∧ x2 ≤ 12) (r3 : 0 ≤ x3 ∧ x3 ≤ 12) (r4 : 0 ≤ x4 ∧ x4 ≤ 1002) (s1 : ∀ q, I64 (f1 q)) (s3 : ∀ q, I64 (f3 q)) (s7 : ∀ q, I64 (f7 q)) :

    ∃ n e, seqR x0 x1 x2 x3 x4 f0 f1 f2 f3 f4 f5 f6 f7 n e ∧ Spec Try.prog grow_CheckSequence_s ⟨[x0, x1, x2, x3, x4], [], [f0, f1, f2, f3, f4, f5, f6, f7]⟩ [n, e] [] [] := by

  refine csq r0 r1 r2 r3 r4 s1 s3 s7 (R := seqR x0 x1 x2 x3 x4 f0 f1 f2 f3 f4 f5 f6 f7) (head_tree r0 r1 r2 r3 s1 s3 (E := seqR x0 x1 x2 x3 x4 f0 f1 f2 f3 f4 f5 f6 f7 0) (fun e hc he => .inl ⟨hc, he, rfl⟩) fun v0 w hc nv nw => ?_)

  obtain ⟨⟨dv, rl⟩, ⟨h2, h3⟩, _⟩ := chgIs_zero hc

  have d8 := dv.1

  have l30 := rl.1

  have nv1 := nv.1

  have nw1 := nw.1

  have fin : ∀ {n e}, seqIs x0 x1 x4 f1 f2 f3 f4 f5 f6 f7 n e → seqR x0 x1 x2 x3 x4 f0 f1 f2 f3 f4 f5 f6 f7 n e := fun h => .inr ⟨hc, h⟩

  refine ⟨fun h => ?_, fun h => fin (.far (by have := of_decide_eq_false h; omega))⟩

  have h4 := of_decide_eq_true h

  refine ⟨fun v i => (0 ≤ i ∧ i ≤ x4) ∧ numIs x0 (stS f5 f7 i.toNat) v ∧ okTo x0 x1 f1 f2 f3 f4 f5 f7 i, fun v i => (x4 - i).toNat, ⟨⟨by omega, by omega⟩, nv, fun j a b => by omega⟩, ?_⟩

  rintro v i ⟨hi, hv, ho⟩

  have hv1 := hv.1

  simp only [decide_eq_true_eq, decide_eq_false_iff_not, beq_iff_eq, beq_eq_false_iff_ne, ne_eq]

  refine ⟨hv1, by omega, fun h1 => ⟨by omega, ?_⟩, fun h1 => ⟨fun a => ⟨fun b => ?_, fun b => ⟨by omega, by omega, fin (.miss h4 hi.1 (by omega) ho (fun g => b g.2))⟩⟩, fun a => ⟨by omega, by omega, fin (.miss h4 hi.1 (by omega) ho (fun g => a g.1))⟩⟩⟩

  · have e : i = x4 := by omega

    subst e

    have k := num_uniq d8 hv nw

    exact ⟨fun g => fin (.done h4 ho (k.1 g)), fun g => fin (.left h4 ho (fun m => g (k.2 m)))⟩

  · have nx := hv.xor d8 ⟨a, b⟩

    rw [← stS_next hi.1] at nx

    obtain ⟨u, hu, us⟩ := isSafe_s (x2 := v0) (x3 := w) (f0 := f0) (f2 := f2) (f4 := f4) ⟨r0.1, d8⟩ r1.1 ⟨by omega, by omega⟩ ⟨by omega, by omega⟩ s1 s3 rl nx

    have nx1 := nx.1

    refine ⟨_, us, fun g => ⟨⟨⟨by omega, by omega⟩, nx, okTo_next hi.1 ho ⟨a, b⟩ (hu.1 g)⟩, ?_⟩, fun g => ⟨by omega, ?_, fin (.hurt h4 hi.1 (by omega) ho ⟨a, b⟩ fun m => ?_)⟩⟩

    · show (x4 - (i + 1)).toNat < (x4 - i).toNat; omega

    · show (-9223372036854775808) ≤ xorS v (f7 i) ∧ xorS v (f7 i) ≤ 9223372036854775807; omega

    · have := hu.2 m; rw [this] at g; cases g

end Go.Proofs.Ytheopgjjkgklpaa.Ev
