/- Chambers: the number of a state, the first broken rule, a device switched (program, reference). -/
import Derived.Test.YtheopgjjkgklpaaFgca
namespace Go.Proofs.Ytheopgjjkgklpaa.Ev
set_option linter.unusedSimpArgs false
open Go Go.RowKit
set_option linter.unusedVariables false
set_option maxRecDepth 100000
def grow_numberOf_s : Sig := ⟨47, ⟨1, 0, 1⟩, ⟨1, 0, 0⟩, [(.asl 0 (.var 0))], [(some ⟨[], 4, true, false, (some ⟨(.var 0), [.bool], [(.avar 0)]⟩)⟩)], (.int .i64 (.var 1)), []⟩
def grow_FirstBroken_s : Sig := ⟨12, ⟨3, 0, 6⟩, ⟨2, 0, 0⟩, [(.agg [(.asl 0 (.var 0)), (.asl 1 (.var 1))]), (.asl 2 (.var 2))], [(some ⟨[], 9, true, false, (some ⟨(.var 0), [.str], [(.avar 0)]⟩)⟩), (some ⟨[], 91, true, false, (some ⟨(.var 1), [(.int .i64), .bool, (.int .i64), .bool], [(.avar 1), (.avar 2), (.avar 3), (.avar 4)]⟩)⟩), (some ⟨[], 4, true, false, (some ⟨(.var 2), [.bool], [(.avar 5)]⟩)⟩)], (.tuple [(.int .i64 (.var 3)), (.int .i64 (.var 4))]), []⟩
def grow_Switched_s : Sig := ⟨14, ⟨4, 0, 6⟩, ⟨3, 0, 1⟩, [(.agg [(.asl 0 (.var 0)), (.asl 1 (.var 1))]), (.asl 2 (.var 2)), (.int .i64 (.var 3))], [(some ⟨[], 9, true, false, (some ⟨(.var 0), [.str], [(.avar 0)]⟩)⟩), (some ⟨[], 91, true, false, (some ⟨(.var 1), [(.int .i64), .bool, (.int .i64), .bool], [(.avar 1), (.avar 2), (.avar 3), (.avar 4)]⟩)⟩), (some ⟨[], 4, true, false, (some ⟨(.var 2), [.bool], [(.avar 5)]⟩)⟩)], (.tuple [(.asl 3 (.var 4)), (.int .i64 (.var 5)), (.int .i64 (.var 6))]), [(some ⟨[], 4, false, true, (some ⟨(.var 4), [.bool], [(.avar 6)]⟩)⟩)]⟩
def etalonref08_FirstBroken_s : Sig := ⟨17, ⟨3, 0, 6⟩, ⟨1, 0, 0⟩, [(.agg [(.asl 0 (.var 0)), (.asl 1 (.var 1))]), (.asl 2 (.var 2))], [(some ⟨[], 9, true, false, (some ⟨(.var 0), [.str], [(.avar 0)]⟩)⟩), (some ⟨[], 91, true, false, (some ⟨(.var 1), [(.int .i64), .bool, (.int .i64), .bool], [(.avar 1), (.avar 2), (.avar 3), (.avar 4)]⟩)⟩), (some ⟨[], 4, true, false, (some ⟨(.var 2), [.bool], [(.avar 5)]⟩)⟩)], (.int .i64 (.var 3)), []⟩
def etalonref08_Switched_s : Sig := ⟨19, ⟨2, 0, 1⟩, ⟨1, 0, 1⟩, [(.asl 0 (.var 0)), (.int .i64 (.var 1))], [(some ⟨[], 4, true, false, (some ⟨(.var 0), [.bool], [(.avar 0)]⟩)⟩)], (.asl 1 (.var 2)), [(some ⟨[], 4, false, true, (some ⟨(.var 2), [.bool], [(.avar 1)]⟩)⟩)]⟩
def etalonref08_StateErr_s : Sig := ⟨16, ⟨3, 0, 6⟩, ⟨1, 0, 0⟩, [(.agg [(.asl 0 (.var 0)), (.asl 1 (.var 1))]), (.asl 2 (.var 2))], [(some ⟨[], 9, true, false, (some ⟨(.var 0), [.str], [(.avar 0)]⟩)⟩), (some ⟨[], 91, true, false, (some ⟨(.var 1), [(.int .i64), .bool, (.int .i64), .bool], [(.avar 1), (.avar 2), (.avar 3), (.avar 4)]⟩)⟩), (some ⟨[], 4, true, false, (some ⟨(.var 2), [.bool], [(.avar 5)]⟩)⟩)], (.int .i64 (.var 3)), []⟩
def etalonref08_Same_s : Sig := ⟨20, ⟨2, 0, 2⟩, ⟨0, 1, 0⟩, [(.asl 0 (.var 0)), (.asl 1 (.var 1))], [(some ⟨[], 4, true, false, (some ⟨(.var 0), [.bool], [(.avar 0)]⟩)⟩), (some ⟨[], 4, true, false, (some ⟨(.var 1), [.bool], [(.avar 1)]⟩)⟩)], (.bool (.var 0)), []⟩
def etalonref08_CopyChamber_s : Sig := ⟨11, ⟨2, 0, 5⟩, ⟨2, 0, 5⟩, [(.agg [(.asl 0 (.var 0)), (.asl 1 (.var 1))])], [(some ⟨[], 9, true, false, (some ⟨(.var 0), [.str], [(.avar 0)]⟩)⟩), (some ⟨[], 91, true, false, (some ⟨(.var 1), [(.int .i64), .bool, (.int .i64), .bool], [(.avar 1), (.avar 2), (.avar 3), (.avar 4)]⟩)⟩)], (.agg [(.asl 2 (.var 2)), (.asl 3 (.var 3))]), [(some ⟨[], 9, false, true, (some ⟨(.var 2), [.str], [(.avar 5)]⟩)⟩), (some ⟨[], 91, false, true, (some ⟨(.var 3), [(.int .i64), .bool, (.int .i64), .bool], [(.avar 6), (.avar 7), (.avar 8), (.avar 9)]⟩)⟩)]⟩
def etalonref08_CopyState_s : Sig := ⟨13, ⟨1, 0, 1⟩, ⟨1, 0, 1⟩, [(.asl 0 (.var 0))], [(some ⟨[], 4, true, false, (some ⟨(.var 0), [.bool], [(.avar 0)]⟩)⟩)], (.asl 1 (.var 1)), [(some ⟨[], 4, false, true, (some ⟨(.var 1), [.bool], [(.avar 1)]⟩)⟩)]⟩
def etalonlaw08_small_s : Sig := ⟨9, ⟨2, 0, 5⟩, ⟨0, 1, 0⟩, [(.agg [(.asl 0 (.var 0)), (.asl 1 (.var 1))])], [(some ⟨[], 9, true, false, (some ⟨(.var 0), [.str], [(.avar 0)]⟩)⟩), (some ⟨[], 91, true, false, (some ⟨(.var 1), [(.int .i64), .bool, (.int .i64), .bool], [(.avar 1), (.avar 2), (.avar 3), (.avar 4)]⟩)⟩)], (.bool (.var 0)), []⟩

def nu_t : Tr :=
  (.loop ⟨47, [0, 1, 0, 1, 1], [(.asl 0 (.var 0)), (.tuple []), (.int .i64 (.lit 0)), (.int .i64 (.lit 0)), (.tuple []), (.tuple []), (.asl 0 (.var 0)), (.int .i64 (.var 0)), (.int .i64 (.lit 0)), (.tuple []), (.tuple []), (.tuple []), (.tuple []), (.tuple []), (.tuple []), (.tuple []), (.tuple []), (.tuple []), (.tuple []), (.tuple [])], [(some ⟨[], 4, true, false, (some ⟨(.var 0), [.bool], [(.avar 0)]⟩)⟩)], [], [(.asl 0 (.var 0)), (.tuple []), (.int .i64 (.lit 0)), (.int .i64 (.var 1)), (.any 4), (.any 5), (.asl 0 (.var 0)), (.int .i64 (.var 0)), (.int .i64 (.var 2)), (.any 9), (.any 10), (.any 11), (.any 12), (.any 13), (.any 14), (.any 15), (.any 16), (.any 17), (.any 18), (.tuple [])], [(some ⟨[], 4, true, false, (some ⟨(.var 0), [.bool], [(.avar 0)]⟩)⟩)], [], ⟨2, 0, 0⟩, ⟨[(.lit 0), (.lit 0)], [], []⟩, []⟩
  (.rng 1 0 255 (.rng 2 0 8 (.ite (.icmp .leq (.var 0) (.var 2))
   (.out 0 ⟨[(.var 1)], [], []⟩ [])
   (.ite (.icmp .eql (.sel (.avar 0) (.var 2)) (.lit 0))
    (.next ⟨[(.var 1), (.bin .addI (.var 2) (.lit 1))], [], []⟩ [])
    (.next ⟨[(.bin (.orK .i64) (.var 1) (.bin (.shlK .i64) (.lit 1) (.var 2))), (.bin .addI (.var 2) (.lit 1))], [], []⟩ [])))))
  (.ex ((.exit 0), [(.asl 0 (.var 0)), (.tuple []), (.int .i64 (.lit 0)), (.int .i64 (.var 1)), (.any 4), (.any 5), (.asl 0 (.var 0)), (.int .i64 (.var 0)), (.any 8), (.any 9), (.any 10), (.any 11), (.any 12), (.any 13), (.any 14), (.any 15), (.any 16), (.any 17), (.any 18), (.tuple [])], [(some ⟨[], 4, true, false, (some ⟨(.var 0), [.bool], [(.avar 0)]⟩)⟩)], []) ⟨1, 0, 0⟩
  (.rng 1 (-9223372036854775808) 9223372036854775807 (.ret ⟨[(.var 1)], [], []⟩ []))
  .nil))
theorem nu {x0 : Int} {f0 : Int → Int} (r0 : 0 ≤ x0 ∧ x0 ≤ 8) {R : Int → Prop}
  (H : (∃ (I1 : Int → Int → Prop) (rk1 : Int → Int → Nat), I1 (0) (0) ∧
   (∀ x1 : Int, ∀ x2 : Int, I1 x1 x2 → ((0 ≤ (x1 : Int) ∧ (x1 : Int) ≤ 255) ∧ ((0 ≤ (x2 : Int) ∧ (x2 : Int) ≤ 8) ∧ ((decide ((x0 : Int) ≤ x2) = true → (((-9223372036854775808) ≤ ((x1) : Int) ∧ ((x1) : Int) ≤ 9223372036854775807) ∧ R ((x1)))) ∧
    (decide ((x0 : Int) ≤ x2) = false → (((((f0 x2) : Int) == 0) = true → (I1 (x1) ((x2 + 1)) ∧ rk1 (x1) ((x2 + 1)) < rk1 x1 x2)) ∧
     ((((f0 x2) : Int) == 0) = false → (I1 ((NOp.den (.orK .i64) x1 (NOp.den (.shlK .i64) 1 x2))) ((x2 + 1)) ∧ rk1 ((NOp.den (.orK .i64) x1 (NOp.den (.shlK .i64) 1 x2))) ((x2 + 1)) < rk1 x1 x2)))))))))) :
    ∃ v0 : Int, R v0 ∧ Spec Try.prog grow_numberOf_s ⟨[x0], [], [f0]⟩ [v0] [] [] :=
  Eq.mp (by kernel_rfl) (exV_of (K := fun d => app3 grow_numberOf_s.out R d ∧ Spec Try.prog grow_numberOf_s ⟨[x0], [], [f0]⟩ d.1 d.2.1 d.2.2) (tree_at mixed names S1_ok (S := S1 Try.prog) (lf := 100000) (d := 60) grow_numberOf_s nu_t { ivs := [(0, 0, 8)], aivs := [] } ⟨[x0], [], [f0]⟩ rfl (by kernel_rfl) (by kernel_rfl) (by kernel_rfl) ⟨(fc r0 fz), fz, fz, fz⟩ (R := fun d => app3 grow_numberOf_s.out R d) (Eq.mp (by kernel_rfl) H)))

def fb_t : Tr :=
  (.call grow_CheckChamber_s ⟨[(.var 0), (.var 1)], [], [(.avar 0), (.avar 1), (.avar 2), (.avar 3), (.avar 4)]⟩ ⟨[(.var 0), (.var 1), (.var 3), (.var 4)], [], [(.avar 0), (.avar 1), (.avar 2), (.avar 3), (.avar 4)]⟩ ⟨10, [(.agg [(.asl 0 (.var 0)), (.asl 1 (.var 1))])], [0, 1], [(some ⟨[], 9, true, false, (some ⟨(.var 0), [.str], [(.avar 0)]⟩)⟩), (some ⟨[], 91, true, false, (some ⟨(.var 1), [(.int .i64), .bool, (.int .i64), .bool], [(.avar 1), (.avar 2), (.avar 3), (.avar 4)]⟩)⟩), none, none, none], (.tuple [(.int .i64 (.var 3)), (.int .i64 (.var 4))]), []⟩
  (.ite (.icmp .eql (.var 4) (.lit 0))
  (.ite (.icmp .eql (.var 2) (.var 0))
   (.call grow_numberOf_s ⟨[(.var 2)], [], [(.avar 5)]⟩ ⟨[(.var 2), (.var 5)], [], [(.avar 5)]⟩ ⟨47, [(.asl 2 (.var 2))], [2], [none, none, (some ⟨[], 4, true, false, (some ⟨(.var 2), [.bool], [(.avar 5)]⟩)⟩), none], (.int .i64 (.var 5)), []⟩
    (.loop ⟨45, [0, 1, 0, 1], [(.asl 1 (.var 1)), (.func (.func 85) [] [(.ptr (some ⟨5, 0, none⟩))]), (.tuple []), (.tuple []), (.int .i64 (.lit 0)), (.tuple []), (.asl 1 (.var 1)), (.int .i64 (.var 1)), (.int .i64 (.lit 0)), (.tuple []), (.tuple []), (.tuple []), (.tuple []), (.tuple []), (.tuple []), (.tuple []), (.tuple []), (.tuple []), (.tuple [])], [none, (some ⟨[], 91, true, false, (some ⟨(.var 1), [(.int .i64), .bool, (.int .i64), .bool], [(.avar 1), (.avar 2), (.avar 3), (.avar 4)]⟩)⟩), none, none, (some ⟨[(.int .i64 (.var 5))], 3, false, false, none⟩), (some ⟨[(.func (.func 84) [] [(.ptr (some ⟨4, 0, none⟩))])], 104, false, false, none⟩)], [], [(.asl 1 (.var 1)), (.func (.func 85) [] [(.ptr (some ⟨5, 0, none⟩))]), (.tuple []), (.tuple []), (.int .i64 (.lit 0)), (.any 5), (.asl 1 (.var 1)), (.int .i64 (.var 1)), (.int .i64 (.var 6)), (.any 9), (.any 10), (.any 11), (.any 12), (.any 13), (.any 14), (.any 15), (.any 16), (.tuple []), (.any 18)], [none, (some ⟨[], 91, true, false, (some ⟨(.var 1), [(.int .i64), .bool, (.int .i64), .bool], [(.avar 1), (.avar 2), (.avar 3), (.avar 4)]⟩)⟩), none, none, (some ⟨[(.int .i64 (.var 5))], 3, false, false, none⟩), (some ⟨[(.func (.func 84) [] [(.ptr (some ⟨4, 0, none⟩))])], 104, false, false, none⟩)], [], ⟨1, 0, 0⟩, ⟨[(.lit 0)], [], []⟩, []⟩
    (.rng 6 0 32 (.ite (.icmp .leq (.var 1) (.var 6))
     (.out 1 ⟨[], [], []⟩ [])
     (.ite (.icmp .leq (.lit 0) (.sel (.avar 1) (.var 6)))
      (.ite (.icmp .eql (.bin (.andK .i64) (.bin (.shrK .i64) (.var 5) (.sel (.avar 1) (.var 6))) (.lit 1)) (.lit 1))
       (.ite (.icmp .eql (.sel (.avar 2) (.var 6)) (.lit 0))
        (.next ⟨[(.bin .addI (.var 6) (.lit 1))], [], []⟩ [])
        (.ite (.icmp .leq (.lit 0) (.sel (.avar 3) (.var 6)))
         (.ite (.icmp .eql (.bin (.andK .i64) (.bin (.shrK .i64) (.var 5) (.sel (.avar 3) (.var 6))) (.lit 1)) (.lit 1))
          (.ite (.icmp .eql (.sel (.avar 4) (.var 6)) (.lit 0))
           (.out 0 ⟨[(.var 6)], [], []⟩ [])
           (.next ⟨[(.bin .addI (.var 6) (.lit 1))], [], []⟩ []))
          (.ite (.icmp .eql (.sel (.avar 4) (.var 6)) (.lit 0))
           (.next ⟨[(.bin .addI (.var 6) (.lit 1))], [], []⟩ [])
           (.out 0 ⟨[(.var 6)], [], []⟩ [])))
         .nil))
       (.ite (.icmp .eql (.sel (.avar 2) (.var 6)) (.lit 0))
        (.ite (.icmp .leq (.lit 0) (.sel (.avar 3) (.var 6)))
         (.ite (.icmp .eql (.bin (.andK .i64) (.bin (.shrK .i64) (.var 5) (.sel (.avar 3) (.var 6))) (.lit 1)) (.lit 1))
          (.ite (.icmp .eql (.sel (.avar 4) (.var 6)) (.lit 0))
           (.out 0 ⟨[(.var 6)], [], []⟩ [])
           (.next ⟨[(.bin .addI (.var 6) (.lit 1))], [], []⟩ []))
          (.ite (.icmp .eql (.sel (.avar 4) (.var 6)) (.lit 0))
           (.next ⟨[(.bin .addI (.var 6) (.lit 1))], [], []⟩ [])
           (.out 0 ⟨[(.var 6)], [], []⟩ [])))
         .nil)
        (.next ⟨[(.bin .addI (.var 6) (.lit 1))], [], []⟩ [])))
      .nil)))
    (.ex (.ret, [(.asl 1 (.var 1)), (.func (.func 85) [] [(.ptr (some ⟨5, 0, none⟩))]), (.tuple []), (.tuple []), (.int .i64 (.var 6)), (.any 5), (.asl 1 (.var 1)), (.int .i64 (.var 1)), (.any 8), (.any 9), (.any 10), (.any 11), (.any 12), (.any 13), (.any 14), (.any 15), (.any 16), (.any 17), (.any 18)], [none, (some ⟨[], 91, true, false, (some ⟨(.var 1), [(.int .i64), .bool, (.int .i64), .bool], [(.avar 1), (.avar 2), (.avar 3), (.avar 4)]⟩)⟩), none, none, (some ⟨[(.int .i64 (.var 5))], 3, false, false, none⟩), (some ⟨[(.func (.func 84) [] [(.ptr (some ⟨4, 0, none⟩))])], 104, false, false, none⟩)], []) ⟨1, 0, 0⟩
    (.rng 6 (-9223372036854775808) 9223372036854775807 (.ite (.icmp .leq (.lit 0) (.var 6))
     (.ret ⟨[(.var 6), (.lit 0)], [], []⟩ [])
     (.ret ⟨[(.lit 0), (.lit 17)], [], []⟩ [])))
    (.ex ((.exit 0), [(.asl 1 (.var 1)), (.func (.func 85) [] [(.ptr (some ⟨5, 0, none⟩))]), (.tuple []), (.tuple []), (.int .i64 (.lit 0)), (.any 5), (.asl 1 (.var 1)), (.int .i64 (.var 1)), (.any 8), (.any 9), (.any 10), (.any 11), (.any 12), (.any 13), (.any 14), (.any 15), (.any 16), (.tuple []), (.any 18)], [none, (some ⟨[], 91, true, false, (some ⟨(.var 1), [(.int .i64), .bool, (.int .i64), .bool], [(.avar 1), (.avar 2), (.avar 3), (.avar 4)]⟩)⟩), none, none, (some ⟨[(.int .i64 (.var 5))], 3, false, false, none⟩), (some ⟨[(.func (.func 84) [] [(.ptr (some ⟨4, 0, none⟩))])], 104, false, false, none⟩)], []) ⟨0, 0, 0⟩
    (.ret ⟨[(.lit 0), (.lit 17)], [], []⟩ [])
    .nil))))
   (.ret ⟨[(.lit 0), (.lit 12)], [], []⟩ []))
  (.ret ⟨[(.lit 0), (.var 4)], [], []⟩ [])))
theorem fb {x0 x1 x2 : Int} {f0 f1 f2 f3 f4 f5 : Int → Int} (r0 : 0 ≤ x0 ∧ x0 ≤ 10) (r1 : 0 ≤ x1 ∧ x1 ≤ 32) (r2 : 0 ≤ x2 ∧ x2 ≤ 12) (s1 : ∀ q, (-9223372036854775808) ≤ f1 q ∧ f1 q ≤ 9223372036854775807) (s3 : ∀ q, (-9223372036854775808) ≤ f3 q ∧ f3 q ≤ 9223372036854775807) {R : Int → Int → Prop}
  (H : (∃ v3 : Int, ∃ v4 : Int, Spec Try.prog grow_CheckChamber_s ⟨[x0, x1], [], [f0, f1, f2, f3, f4]⟩ [v3, v4] [] [] ∧
   ((((v4 : Int) == 0) = true → ((((x2 : Int) == x0) = true → (∃ v5 : Int, Spec Try.prog grow_numberOf_s ⟨[x2], [], [f5]⟩ [v5] [] [] ∧
     (∃ (I6 : Int → Prop) (rk6 : Int → Nat), I6 (0) ∧
     (∀ x6 : Int, I6 x6 → ((0 ≤ (x6 : Int) ∧ (x6 : Int) ≤ 32) ∧ ((decide ((x1 : Int) ≤ x6) = true → R (0) (17)) ∧
      (decide ((x1 : Int) ≤ x6) = false → ((decide ((0 : Int) ≤ (f1 x6)) = true → (((((NOp.den (.andK .i64) (NOp.den (.shrK .i64) v5 (f1 x6)) 1) : Int) == 1) = true → (((((f2 x6) : Int) == 0) = true → (I6 ((x6 + 1)) ∧ rk6 ((x6 + 1)) < rk6 x6)) ∧
         ((((f2 x6) : Int) == 0) = false → ((decide ((0 : Int) ≤ (f3 x6)) = true → (((((NOp.den (.andK .i64) (NOp.den (.shrK .i64) v5 (f3 x6)) 1) : Int) == 1) = true → (((((f4 x6) : Int) == 0) = true → (((-9223372036854775808) ≤ ((x6) : Int) ∧ ((x6) : Int) ≤ 9223372036854775807) ∧ ((decide ((0 : Int) ≤ (x6)) = true → R ((x6)) (0)) ∧
      (decide ((0 : Int) ≤ (x6)) = false → R (0) (17))))) ∧
            ((((f4 x6) : Int) == 0) = false → (I6 ((x6 + 1)) ∧ rk6 ((x6 + 1)) < rk6 x6)))) ∧
           ((((NOp.den (.andK .i64) (NOp.den (.shrK .i64) v5 (f3 x6)) 1) : Int) == 1) = false → (((((f4 x6) : Int) == 0) = true → (I6 ((x6 + 1)) ∧ rk6 ((x6 + 1)) < rk6 x6)) ∧
            ((((f4 x6) : Int) == 0) = false → (((-9223372036854775808) ≤ ((x6) : Int) ∧ ((x6) : Int) ≤ 9223372036854775807) ∧ ((decide ((0 : Int) ≤ (x6)) = true → R ((x6)) (0)) ∧
      (decide ((0 : Int) ≤ (x6)) = false → R (0) (17))))))))) ∧
          (decide ((0 : Int) ≤ (f3 x6)) = false → False))))) ∧
        ((((NOp.den (.andK .i64) (NOp.den (.shrK .i64) v5 (f1 x6)) 1) : Int) == 1) = false → (((((f2 x6) : Int) == 0) = true → ((decide ((0 : Int) ≤ (f3 x6)) = true → (((((NOp.den (.andK .i64) (NOp.den (.shrK .i64) v5 (f3 x6)) 1) : Int) == 1) = true → (((((f4 x6) : Int) == 0) = true → (((-9223372036854775808) ≤ ((x6) : Int) ∧ ((x6) : Int) ≤ 9223372036854775807) ∧ ((decide ((0 : Int) ≤ (x6)) = true → R ((x6)) (0)) ∧
      (decide ((0 : Int) ≤ (x6)) = false → R (0) (17))))) ∧
            ((((f4 x6) : Int) == 0) = false → (I6 ((x6 + 1)) ∧ rk6 ((x6 + 1)) < rk6 x6)))) ∧
           ((((NOp.den (.andK .i64) (NOp.den (.shrK .i64) v5 (f3 x6)) 1) : Int) == 1) = false → (((((f4 x6) : Int) == 0) = true → (I6 ((x6 + 1)) ∧ rk6 ((x6 + 1)) < rk6 x6)) ∧
            ((((f4 x6) : Int) == 0) = false → (((-9223372036854775808) ≤ ((x6) : Int) ∧ ((x6) : Int) ≤ 9223372036854775807) ∧ ((decide ((0 : Int) ≤ (x6)) = true → R ((x6)) (0)) ∧
      (decide ((0 : Int) ≤ (x6)) = false → R (0) (17))))))))) ∧
          (decide ((0 : Int) ≤ (f3 x6)) = false → False))) ∧
         ((((f2 x6) : Int) == 0) = false → (I6 ((x6 + 1)) ∧ rk6 ((x6 + 1)) < rk6 x6)))))) ∧
       (decide ((0 : Int) ≤ (f1 x6)) = false → False))))))))) ∧
    (((x2 : Int) == x0) = false → R (0) (12)))) ∧
   (((v4 : Int) == 0) = false → R (0) (v4))))) :
    ∃ v0 : Int, ∃ v1 : Int, R v0 v1 ∧ Spec Try.prog grow_FirstBroken_s ⟨[x0, x1, x2], [], [f0, f1, f2, f3, f4, f5]⟩ [v0, v1] [] [] :=
  Eq.mp (by kernel_rfl) (exV_of (K := fun d => app3 grow_FirstBroken_s.out R d ∧ Spec Try.prog grow_FirstBroken_s ⟨[x0, x1, x2], [], [f0, f1, f2, f3, f4, f5]⟩ d.1 d.2.1 d.2.2) (tree_at mixed names S1_ok (S := S1 Try.prog) (lf := 100000) (d := 60) grow_FirstBroken_s fb_t { ivs := [(0, 0, 10), (1, 0, 32), (2, 0, 12)], aivs := [(1, (-9223372036854775808), 9223372036854775807), (3, (-9223372036854775808), 9223372036854775807)] } ⟨[x0, x1, x2], [], [f0, f1, f2, f3, f4, f5]⟩ rfl (by kernel_rfl) (by kernel_rfl) (by kernel_rfl) ⟨(fc r0 (fc r1 (fc r2 fz))), fz, (fc s1 (fc s3 fz)), fz⟩ (R := fun d => app3 grow_FirstBroken_s.out R d) (Eq.mp (by kernel_rfl) H)))

def sw_t : Tr :=
  (.call grow_CheckChamber_s ⟨[(.var 0), (.var 1)], [], [(.avar 0), (.avar 1), (.avar 2), (.avar 3), (.avar 4)]⟩ ⟨[(.var 0), (.var 1), (.var 4), (.var 5)], [], [(.avar 0), (.avar 1), (.avar 2), (.avar 3), (.avar 4)]⟩ ⟨10, [(.agg [(.asl 0 (.var 0)), (.asl 1 (.var 1))])], [0, 1], [(some ⟨[], 9, true, false, (some ⟨(.var 0), [.str], [(.avar 0)]⟩)⟩), (some ⟨[], 91, true, false, (some ⟨(.var 1), [(.int .i64), .bool, (.int .i64), .bool], [(.avar 1), (.avar 2), (.avar 3), (.avar 4)]⟩)⟩), none, none, none], (.tuple [(.int .i64 (.var 4)), (.int .i64 (.var 5))]), []⟩
  (.ite (.icmp .eql (.var 5) (.lit 0))
  (.ite (.icmp .eql (.var 2) (.var 0))
   (.ite (.icmp .leq (.lit 0) (.var 3))
    (.ite (.icmp .leq (.var 3) (.bin .subI (.var 0) (.lit 1)))
     (.ite (.icmp .leq (.var 2) (.var 3))
      .nil
      (.ite (.icmp .eql (.sel (.avar 5) (.var 3)) (.lit 0))
       (.call grow_FirstBroken_s ⟨[(.var 0), (.var 1), (.var 2)], [], [(.avar 0), (.avar 1), (.avar 2), (.avar 3), (.avar 4), (.aupd (.avar 5) (.var 3) (.lit 1))]⟩ ⟨[(.var 0), (.var 1), (.var 2), (.var 6), (.var 7)], [], [(.avar 0), (.avar 1), (.avar 2), (.avar 3), (.avar 4), (.aupd (.avar 5) (.var 3) (.lit 1))]⟩ ⟨12, [(.agg [(.asl 0 (.var 0)), (.asl 1 (.var 1))]), (.asl 5 (.var 2))], [0, 1, 5], [(some ⟨[], 9, true, false, (some ⟨(.var 0), [.str], [(.avar 0)]⟩)⟩), (some ⟨[], 91, true, false, (some ⟨(.var 1), [(.int .i64), .bool, (.int .i64), .bool], [(.avar 1), (.avar 2), (.avar 3), (.avar 4)]⟩)⟩), none, none, none, (some ⟨[], 4, false, true, (some ⟨(.var 2), [.bool], [(.aupd (.avar 5) (.var 3) (.lit 1))]⟩)⟩)], (.tuple [(.int .i64 (.var 6)), (.int .i64 (.var 7))]), []⟩
        (.ite (.icmp .eql (.var 7) (.lit 0))
        (.ret ⟨[(.lit 0), (.var 6), (.lit 24)], [], [(.acst (.lit 0))]⟩ [3])
        (.ret ⟨[(.var 2), (.lit 0), (.lit 0)], [], [(.aupd (.avar 5) (.var 3) (.lit 1))]⟩ [5])))
       (.call grow_FirstBroken_s ⟨[(.var 0), (.var 1), (.var 2)], [], [(.avar 0), (.avar 1), (.avar 2), (.avar 3), (.avar 4), (.aupd (.avar 5) (.var 3) (.lit 0))]⟩ ⟨[(.var 0), (.var 1), (.var 2), (.var 6), (.var 7)], [], [(.avar 0), (.avar 1), (.avar 2), (.avar 3), (.avar 4), (.aupd (.avar 5) (.var 3) (.lit 0))]⟩ ⟨12, [(.agg [(.asl 0 (.var 0)), (.asl 1 (.var 1))]), (.asl 5 (.var 2))], [0, 1, 5], [(some ⟨[], 9, true, false, (some ⟨(.var 0), [.str], [(.avar 0)]⟩)⟩), (some ⟨[], 91, true, false, (some ⟨(.var 1), [(.int .i64), .bool, (.int .i64), .bool], [(.avar 1), (.avar 2), (.avar 3), (.avar 4)]⟩)⟩), none, none, none, (some ⟨[], 4, false, true, (some ⟨(.var 2), [.bool], [(.aupd (.avar 5) (.var 3) (.lit 0))]⟩)⟩)], (.tuple [(.int .i64 (.var 6)), (.int .i64 (.var 7))]), []⟩
        (.ite (.icmp .eql (.var 7) (.lit 0))
        (.ret ⟨[(.lit 0), (.var 6), (.lit 24)], [], [(.acst (.lit 0))]⟩ [3])
        (.ret ⟨[(.var 2), (.lit 0), (.lit 0)], [], [(.aupd (.avar 5) (.var 3) (.lit 0))]⟩ [5])))))
     (.ret ⟨[(.lit 0), (.lit 0), (.lit 6)], [], [(.acst (.lit 0))]⟩ [3]))
    (.ret ⟨[(.lit 0), (.lit 0), (.lit 6)], [], [(.acst (.lit 0))]⟩ [3]))
   (.ret ⟨[(.lit 0), (.lit 0), (.lit 12)], [], [(.acst (.lit 0))]⟩ [3]))
  (.ret ⟨[(.lit 0), (.lit 0), (.var 5)], [], [(.acst (.lit 0))]⟩ [3])))
theorem sw {x0 x1 x2 x3 : Int} {f0 f1 f2 f3 f4 f5 : Int → Int} (r0 : 0 ≤ x0 ∧ x0 ≤ 10) (r1 : 0 ≤ x1 ∧ x1 ≤ 32) (r2 : 1 ≤ x2 ∧ x2 ≤ 12) (r3 : (-9223372036854775808) ≤ x3 ∧ x3 ≤ 9223372036854775807) (s1 : ∀ q, (-9223372036854775808) ≤ f1 q ∧ f1 q ≤ 9223372036854775807) (s3 : ∀ q, (-9223372036854775808) ≤ f3 q ∧ f3 q ≤ 9223372036854775807) {R : Int → Int → Int → (Int → Int) → Prop}
  (H : (∃ v4 : Int, ∃ v5 : Int, Spec Try.prog grow_CheckChamber_s ⟨[x0, x1], [], [f0, f1, f2, f3, f4]⟩ [v4, v5] [] [] ∧
   ((((v5 : Int) == 0) = true → ((((x2 : Int) == x0) = true → ((decide ((0 : Int) ≤ x3) = true → ((decide ((x3 : Int) ≤ (x0 - 1)) = true → ((decide ((x2 : Int) ≤ x3) = true → False) ∧
       (decide ((x2 : Int) ≤ x3) = false → (((((f5 x3) : Int) == 0) = true → (∃ v6 : Int, ∃ v7 : Int, Spec Try.prog grow_FirstBroken_s ⟨[x0, x1, x2], [], [f0, f1, f2, f3, f4, (fun q => if q = x3 then 1 else f5 q)]⟩ [v6, v7] [] [] ∧
         ((((v7 : Int) == 0) = true → R (0) (v6) (24) ((fun _ => 0))) ∧
         (((v7 : Int) == 0) = false → R (x2) (0) (0) ((fun q => if q = x3 then 1 else f5 q)))))) ∧
        ((((f5 x3) : Int) == 0) = false → (∃ v6 : Int, ∃ v7 : Int, Spec Try.prog grow_FirstBroken_s ⟨[x0, x1, x2], [], [f0, f1, f2, f3, f4, (fun q => if q = x3 then 0 else f5 q)]⟩ [v6, v7] [] [] ∧
         ((((v7 : Int) == 0) = true → R (0) (v6) (24) ((fun _ => 0))) ∧
         (((v7 : Int) == 0) = false → R (x2) (0) (0) ((fun q => if q = x3 then 0 else f5 q)))))))))) ∧
      (decide ((x3 : Int) ≤ (x0 - 1)) = false → R (0) (0) (6) ((fun _ => 0))))) ∧
     (decide ((0 : Int) ≤ x3) = false → R (0) (0) (6) ((fun _ => 0))))) ∧
    (((x2 : Int) == x0) = false → R (0) (0) (12) ((fun _ => 0))))) ∧
   (((v5 : Int) == 0) = false → R (0) (0) (v5) ((fun _ => 0)))))) :
    ∃ v0 : Int, ∃ v1 : Int, ∃ v2 : Int, ∃ g0 : Int → Int, R v0 v1 v2 g0 ∧ Spec Try.prog grow_Switched_s ⟨[x0, x1, x2, x3], [], [f0, f1, f2, f3, f4, f5]⟩ [v0, v1, v2] [] [g0] :=
  Eq.mp (by kernel_rfl) (exV_of (K := fun d => app3 grow_Switched_s.out R d ∧ Spec Try.prog grow_Switched_s ⟨[x0, x1, x2, x3], [], [f0, f1, f2, f3, f4, f5]⟩ d.1 d.2.1 d.2.2) (tree_at mixed names S1_ok (S := S1 Try.prog) (lf := 100000) (d := 60) grow_Switched_s sw_t { ivs := [(0, 0, 10), (1, 0, 32), (2, 1, 12), (3, (-9223372036854775808), 9223372036854775807)], aivs := [(1, (-9223372036854775808), 9223372036854775807), (3, (-9223372036854775808), 9223372036854775807)] } ⟨[x0, x1, x2, x3], [], [f0, f1, f2, f3, f4, f5]⟩ rfl (by kernel_rfl) (by kernel_rfl) (by kernel_rfl) ⟨(fc r0 (fc r1 (fc r2 (fc r3 fz)))), fz, (fc s1 (fc s3 fz)), fz⟩ (R := fun d => app3 grow_Switched_s.out R d) (Eq.mp (by kernel_rfl) H)))

def sw0_t : Tr :=
  (.call grow_CheckChamber_s ⟨[(.var 0), (.var 1)], [], [(.avar 0), (.avar 1), (.avar 2), (.avar 3), (.avar 4)]⟩ ⟨[(.var 0), (.var 1), (.var 4), (.var 5)], [], [(.avar 0), (.avar 1), (.avar 2), (.avar 3), (.avar 4)]⟩ ⟨10, [(.agg [(.asl 0 (.var 0)), (.asl 1 (.var 1))])], [0, 1], [(some ⟨[], 9, true, false, (some ⟨(.var 0), [.str], [(.avar 0)]⟩)⟩), (some ⟨[], 91, true, false, (some ⟨(.var 1), [(.int .i64), .bool, (.int .i64), .bool], [(.avar 1), (.avar 2), (.avar 3), (.avar 4)]⟩)⟩), none, none, none], (.tuple [(.int .i64 (.var 4)), (.int .i64 (.var 5))]), []⟩
  (.ite (.icmp .eql (.var 5) (.lit 0))
  (.ite (.icmp .eql (.var 2) (.var 0))
   (.ite (.icmp .leq (.lit 0) (.var 3))
    (.ite (.icmp .leq (.var 3) (.bin .subI (.var 0) (.lit 1)))
     .nil
     (.ret ⟨[(.lit 0), (.lit 0), (.lit 6)], [], [(.acst (.lit 0))]⟩ [3]))
    (.ret ⟨[(.lit 0), (.lit 0), (.lit 6)], [], [(.acst (.lit 0))]⟩ [3]))
   (.ret ⟨[(.lit 0), (.lit 0), (.lit 12)], [], [(.acst (.lit 0))]⟩ [3]))
  (.ret ⟨[(.lit 0), (.lit 0), (.var 5)], [], [(.acst (.lit 0))]⟩ [3])))
theorem sw0 {x0 x1 x2 x3 : Int} {f0 f1 f2 f3 f4 f5 : Int → Int} (r0 : 0 ≤ x0 ∧ x0 ≤ 10) (r1 : 0 ≤ x1 ∧ x1 ≤ 32) (r2 : 0 ≤ x2 ∧ x2 ≤ 0) (r3 : (-9223372036854775808) ≤ x3 ∧ x3 ≤ 9223372036854775807) (s1 : ∀ q, (-9223372036854775808) ≤ f1 q ∧ f1 q ≤ 9223372036854775807) (s3 : ∀ q, (-9223372036854775808) ≤ f3 q ∧ f3 q ≤ 9223372036854775807) {R : Int → Int → Int → (Int → Int) → Prop}
  (H : (∃ v4 : Int, ∃ v5 : Int, Spec Try.prog grow_CheckChamber_s ⟨[x0, x1], [], [f0, f1, f2, f3, f4]⟩ [v4, v5] [] [] ∧
   ((((v5 : Int) == 0) = true → ((((x2 : Int) == x0) = true → ((decide ((0 : Int) ≤ x3) = true → ((decide ((x3 : Int) ≤ (x0 - 1)) = true → False) ∧
      (decide ((x3 : Int) ≤ (x0 - 1)) = false → R (0) (0) (6) ((fun _ => 0))))) ∧
     (decide ((0 : Int) ≤ x3) = false → R (0) (0) (6) ((fun _ => 0))))) ∧
    (((x2 : Int) == x0) = false → R (0) (0) (12) ((fun _ => 0))))) ∧
   (((v5 : Int) == 0) = false → R (0) (0) (v5) ((fun _ => 0)))))) :
    ∃ v0 : Int, ∃ v1 : Int, ∃ v2 : Int, ∃ g0 : Int → Int, R v0 v1 v2 g0 ∧ Spec Try.prog grow_Switched_s ⟨[x0, x1, x2, x3], [], [f0, f1, f2, f3, f4, f5]⟩ [v0, v1, v2] [] [g0] :=
  Eq.mp (by kernel_rfl) (exV_of (K := fun d => app3 grow_Switched_s.out R d ∧ Spec Try.prog grow_Switched_s ⟨[x0, x1, x2, x3], [], [f0, f1, f2, f3, f4, f5]⟩ d.1 d.2.1 d.2.2) (tree_at mixed names S1_ok (S := S1 Try.prog) (lf := 100000) (d := 60) grow_Switched_s sw0_t { ivs := [(0, 0, 10), (1, 0, 32), (2, 0, 0), (3, (-9223372036854775808), 9223372036854775807)], aivs := [(1, (-9223372036854775808), 9223372036854775807), (3, (-9223372036854775808), 9223372036854775807)] } ⟨[x0, x1, x2, x3], [], [f0, f1, f2, f3, f4, f5]⟩ rfl (by kernel_rfl) (by kernel_rfl) (by kernel_rfl) ⟨(fc r0 (fc r1 (fc r2 (fc r3 fz)))), fz, (fc s1 (fc s3 fz)), fz⟩ (R := fun d => app3 grow_Switched_s.out R d) (Eq.mp (by kernel_rfl) H)))

def rfb_t : Tr :=
  (.loop ⟨17, [0, 1, 0, 1], [(.agg [(.asl 0 (.var 0)), (.asl 1 (.var 1))]), (.asl 2 (.var 2)), (.ptr (some ⟨3, 0, none⟩)), (.tuple []), (.int .i64 (.lit 0)), (.int .i64 (.lit 0)), (.tuple []), (.tuple []), (.tuple []), (.tuple []), (.tuple []), (.tuple []), (.tuple []), (.tuple []), (.tuple []), (.tuple []), (.tuple []), (.tuple []), (.tuple []), (.tuple []), (.tuple []), (.tuple []), (.tuple []), (.tuple []), (.tuple []), (.tuple []), (.tuple []), (.tuple []), (.tuple []), (.tuple []), (.tuple []), (.tuple []), (.tuple []), (.tuple []), (.tuple []), (.tuple []), (.tuple []), (.tuple [])], [(some ⟨[], 9, true, false, (some ⟨(.var 0), [.str], [(.avar 0)]⟩)⟩), (some ⟨[], 91, true, false, (some ⟨(.var 1), [(.int .i64), .bool, (.int .i64), .bool], [(.avar 1), (.avar 2), (.avar 3), (.avar 4)]⟩)⟩), (some ⟨[], 4, true, false, (some ⟨(.var 2), [.bool], [(.avar 5)]⟩)⟩), (some ⟨[(.asl 0 (.var 0)), (.asl 1 (.var 1))], 25, false, false, none⟩)], [], [(.agg [(.asl 0 (.var 0)), (.asl 1 (.var 1))]), (.asl 2 (.var 2)), (.ptr (some ⟨3, 0, none⟩)), (.tuple []), (.int .i64 (.lit 0)), (.int .i64 (.var 3)), (.any 6), (.any 7), (.any 8), (.any 9), (.any 10), (.any 11), (.any 12), (.any 13), (.any 14), (.any 15), (.any 16), (.any 17), (.any 18), (.any 19), (.any 20), (.any 21), (.any 22), (.any 23), (.any 24), (.any 25), (.any 26), (.any 27), (.any 28), (.any 29), (.any 30), (.any 31), (.any 32), (.any 33), (.any 34), (.any 35), (.any 36), (.tuple [])], [(some ⟨[], 9, true, false, (some ⟨(.var 0), [.str], [(.avar 0)]⟩)⟩), (some ⟨[], 91, true, false, (some ⟨(.var 1), [(.int .i64), .bool, (.int .i64), .bool], [(.avar 1), (.avar 2), (.avar 3), (.avar 4)]⟩)⟩), (some ⟨[], 4, true, false, (some ⟨(.var 2), [.bool], [(.avar 5)]⟩)⟩), (some ⟨[(.asl 0 (.var 0)), (.asl 1 (.var 1))], 25, false, false, none⟩)], [], ⟨1, 0, 0⟩, ⟨[(.lit 0)], [], []⟩, []⟩
  (.rng 3 0 32 (.ite (.icmp .leq (.var 1) (.var 3))
   (.out 1 ⟨[], [], []⟩ [])
   (.ite (.icmp .leq (.lit 0) (.sel (.avar 1) (.var 3)))
    (.ite (.icmp .leq (.var 2) (.sel (.avar 1) (.var 3)))
     .nil
     (.ite (.icmp .eql (.sel (.avar 5) (.sel (.avar 1) (.var 3))) (.lit 0))
      (.ite (.icmp .eql (.sel (.avar 2) (.var 3)) (.lit 0))
       (.ite (.icmp .leq (.lit 0) (.sel (.avar 3) (.var 3)))
        (.ite (.icmp .leq (.var 2) (.sel (.avar 3) (.var 3)))
         .nil
         (.ite (.icmp .eql (.sel (.avar 5) (.sel (.avar 3) (.var 3))) (.lit 0))
          (.ite (.icmp .eql (.sel (.avar 4) (.var 3)) (.lit 0))
           (.next ⟨[(.bin .addI (.var 3) (.lit 1))], [], []⟩ [])
           (.out 0 ⟨[(.var 3)], [], []⟩ []))
          (.ite (.icmp .eql (.sel (.avar 4) (.var 3)) (.lit 0))
           (.out 0 ⟨[(.var 3)], [], []⟩ [])
           (.next ⟨[(.bin .addI (.var 3) (.lit 1))], [], []⟩ []))))
        .nil)
       (.next ⟨[(.bin .addI (.var 3) (.lit 1))], [], []⟩ []))
      (.ite (.icmp .eql (.sel (.avar 2) (.var 3)) (.lit 0))
       (.next ⟨[(.bin .addI (.var 3) (.lit 1))], [], []⟩ [])
       (.ite (.icmp .leq (.lit 0) (.sel (.avar 3) (.var 3)))
        (.ite (.icmp .leq (.var 2) (.sel (.avar 3) (.var 3)))
         .nil
         (.ite (.icmp .eql (.sel (.avar 5) (.sel (.avar 3) (.var 3))) (.lit 0))
          (.ite (.icmp .eql (.sel (.avar 4) (.var 3)) (.lit 0))
           (.next ⟨[(.bin .addI (.var 3) (.lit 1))], [], []⟩ [])
           (.out 0 ⟨[(.var 3)], [], []⟩ []))
          (.ite (.icmp .eql (.sel (.avar 4) (.var 3)) (.lit 0))
           (.out 0 ⟨[(.var 3)], [], []⟩ [])
           (.next ⟨[(.bin .addI (.var 3) (.lit 1))], [], []⟩ []))))
        .nil))))
    .nil)))
  (.ex (.ret, [(.agg [(.asl 0 (.var 0)), (.asl 1 (.var 1))]), (.asl 2 (.var 2)), (.ptr (some ⟨3, 0, none⟩)), (.tuple []), (.int .i64 (.var 3)), (.any 5), (.any 6), (.any 7), (.any 8), (.any 9), (.any 10), (.any 11), (.any 12), (.any 13), (.any 14), (.any 15), (.any 16), (.any 17), (.any 18), (.any 19), (.any 20), (.any 21), (.any 22), (.any 23), (.any 24), (.any 25), (.any 26), (.any 27), (.any 28), (.any 29), (.any 30), (.any 31), (.any 32), (.any 33), (.any 34), (.any 35), (.any 36), (.any 37)], [(some ⟨[], 9, true, false, (some ⟨(.var 0), [.str], [(.avar 0)]⟩)⟩), (some ⟨[], 91, true, false, (some ⟨(.var 1), [(.int .i64), .bool, (.int .i64), .bool], [(.avar 1), (.avar 2), (.avar 3), (.avar 4)]⟩)⟩), (some ⟨[], 4, true, false, (some ⟨(.var 2), [.bool], [(.avar 5)]⟩)⟩), (some ⟨[(.asl 0 (.var 0)), (.asl 1 (.var 1))], 25, false, false, none⟩)], []) ⟨1, 0, 0⟩
  (.rng 3 (-9223372036854775808) 9223372036854775807 (.ret ⟨[(.var 3)], [], []⟩ []))
  (.ex ((.exit 0), [(.agg [(.asl 0 (.var 0)), (.asl 1 (.var 1))]), (.asl 2 (.var 2)), (.ptr (some ⟨3, 0, none⟩)), (.tuple []), (.int .i64 (.lit 0)), (.any 5), (.any 6), (.any 7), (.any 8), (.any 9), (.any 10), (.any 11), (.any 12), (.any 13), (.any 14), (.any 15), (.any 16), (.any 17), (.any 18), (.any 19), (.any 20), (.any 21), (.any 22), (.any 23), (.any 24), (.any 25), (.any 26), (.any 27), (.any 28), (.any 29), (.any 30), (.any 31), (.any 32), (.any 33), (.any 34), (.any 35), (.any 36), (.tuple [])], [(some ⟨[], 9, true, false, (some ⟨(.var 0), [.str], [(.avar 0)]⟩)⟩), (some ⟨[], 91, true, false, (some ⟨(.var 1), [(.int .i64), .bool, (.int .i64), .bool], [(.avar 1), (.avar 2), (.avar 3), (.avar 4)]⟩)⟩), (some ⟨[], 4, true, false, (some ⟨(.var 2), [.bool], [(.avar 5)]⟩)⟩), (some ⟨[(.asl 0 (.var 0)), (.asl 1 (.var 1))], 25, false, false, none⟩)], []) ⟨0, 0, 0⟩
  (.ret ⟨[(.lit (-1))], [], []⟩ [])
  .nil)))
theorem rfb {x0 x1 x2 : Int} {f0 f1 f2 f3 f4 f5 : Int → Int} (r0 : 0 ≤ x0 ∧ x0 ≤ 10) (r1 : 0 ≤ x1 ∧ x1 ≤ 32) (r2 : 0 ≤ x2 ∧ x2 ≤ 12) (s1 : ∀ q, (-9223372036854775808) ≤ f1 q ∧ f1 q ≤ 9223372036854775807) (s3 : ∀ q, (-9223372036854775808) ≤ f3 q ∧ f3 q ≤ 9223372036854775807) {R : Int → Prop}
  (H : (∃ (I3 : Int → Prop) (rk3 : Int → Nat), I3 (0) ∧
   (∀ x3 : Int, I3 x3 → ((0 ≤ (x3 : Int) ∧ (x3 : Int) ≤ 32) ∧ ((decide ((x1 : Int) ≤ x3) = true → R ((-1))) ∧
    (decide ((x1 : Int) ≤ x3) = false → ((decide ((0 : Int) ≤ (f1 x3)) = true → ((decide ((x2 : Int) ≤ (f1 x3)) = true → False) ∧
      (decide ((x2 : Int) ≤ (f1 x3)) = false → (((((f5 (f1 x3)) : Int) == 0) = true → (((((f2 x3) : Int) == 0) = true → ((decide ((0 : Int) ≤ (f3 x3)) = true → ((decide ((x2 : Int) ≤ (f3 x3)) = true → False) ∧
          (decide ((x2 : Int) ≤ (f3 x3)) = false → (((((f5 (f3 x3)) : Int) == 0) = true → (((((f4 x3) : Int) == 0) = true → (I3 ((x3 + 1)) ∧ rk3 ((x3 + 1)) < rk3 x3)) ∧
            ((((f4 x3) : Int) == 0) = false → (((-9223372036854775808) ≤ ((x3) : Int) ∧ ((x3) : Int) ≤ 9223372036854775807) ∧ R ((x3)))))) ∧
           ((((f5 (f3 x3)) : Int) == 0) = false → (((((f4 x3) : Int) == 0) = true → (((-9223372036854775808) ≤ ((x3) : Int) ∧ ((x3) : Int) ≤ 9223372036854775807) ∧ R ((x3)))) ∧
            ((((f4 x3) : Int) == 0) = false → (I3 ((x3 + 1)) ∧ rk3 ((x3 + 1)) < rk3 x3)))))))) ∧
         (decide ((0 : Int) ≤ (f3 x3)) = false → False))) ∧
        ((((f2 x3) : Int) == 0) = false → (I3 ((x3 + 1)) ∧ rk3 ((x3 + 1)) < rk3 x3)))) ∧
       ((((f5 (f1 x3)) : Int) == 0) = false → (((((f2 x3) : Int) == 0) = true → (I3 ((x3 + 1)) ∧ rk3 ((x3 + 1)) < rk3 x3)) ∧
        ((((f2 x3) : Int) == 0) = false → ((decide ((0 : Int) ≤ (f3 x3)) = true → ((decide ((x2 : Int) ≤ (f3 x3)) = true → False) ∧
          (decide ((x2 : Int) ≤ (f3 x3)) = false → (((((f5 (f3 x3)) : Int) == 0) = true → (((((f4 x3) : Int) == 0) = true → (I3 ((x3 + 1)) ∧ rk3 ((x3 + 1)) < rk3 x3)) ∧
            ((((f4 x3) : Int) == 0) = false → (((-9223372036854775808) ≤ ((x3) : Int) ∧ ((x3) : Int) ≤ 9223372036854775807) ∧ R ((x3)))))) ∧
           ((((f5 (f3 x3)) : Int) == 0) = false → (((((f4 x3) : Int) == 0) = true → (((-9223372036854775808) ≤ ((x3) : Int) ∧ ((x3) : Int) ≤ 9223372036854775807) ∧ R ((x3)))) ∧
            ((((f4 x3) : Int) == 0) = false → (I3 ((x3 + 1)) ∧ rk3 ((x3 + 1)) < rk3 x3)))))))) ∧
         (decide ((0 : Int) ≤ (f3 x3)) = false → False))))))))) ∧
     (decide ((0 : Int) ≤ (f1 x3)) = false → False)))))))) :
    ∃ v0 : Int, R v0 ∧ Spec Try.prog etalonref08_FirstBroken_s ⟨[x0, x1, x2], [], [f0, f1, f2, f3, f4, f5]⟩ [v0] [] [] :=
  Eq.mp (by kernel_rfl) (exV_of (K := fun d => app3 etalonref08_FirstBroken_s.out R d ∧ Spec Try.prog etalonref08_FirstBroken_s ⟨[x0, x1, x2], [], [f0, f1, f2, f3, f4, f5]⟩ d.1 d.2.1 d.2.2) (tree_at mixed names S1_ok (S := S1 Try.prog) (lf := 100000) (d := 60) etalonref08_FirstBroken_s rfb_t { ivs := [(0, 0, 10), (1, 0, 32), (2, 0, 12)], aivs := [(1, (-9223372036854775808), 9223372036854775807), (3, (-9223372036854775808), 9223372036854775807)] } ⟨[x0, x1, x2], [], [f0, f1, f2, f3, f4, f5]⟩ rfl (by kernel_rfl) (by kernel_rfl) (by kernel_rfl) ⟨(fc r0 (fc r1 (fc r2 fz))), fz, (fc s1 (fc s3 fz)), fz⟩ (R := fun d => app3 etalonref08_FirstBroken_s.out R d) (Eq.mp (by kernel_rfl) H)))

def rsw_t : Tr :=
  (.ite (.icmp .leq (.var 0) (.var 1))
  .nil
  (.ite (.icmp .eql (.sel (.avar 0) (.var 1)) (.lit 0))
   (.ret ⟨[(.var 0)], [], [(.aupd (.avar 0) (.var 1) (.lit 1))]⟩ [2])
   (.ret ⟨[(.var 0)], [], [(.aupd (.avar 0) (.var 1) (.lit 0))]⟩ [2])))
theorem rsw {x0 x1 : Int} {f0 : Int → Int} (r0 : 0 ≤ x0 ∧ x0 ≤ 12) (r1 : 0 ≤ x1 ∧ x1 ≤ 11) {R : Int → (Int → Int) → Prop}
  (H : ((decide ((x0 : Int) ≤ x1) = true → False) ∧
   (decide ((x0 : Int) ≤ x1) = false → (((((f0 x1) : Int) == 0) = true → R (x0) ((fun q => if q = x1 then 1 else f0 q))) ∧
    ((((f0 x1) : Int) == 0) = false → R (x0) ((fun q => if q = x1 then 0 else f0 q))))))) :
    ∃ v0 : Int, ∃ g0 : Int → Int, R v0 g0 ∧ Spec Try.prog etalonref08_Switched_s ⟨[x0, x1], [], [f0]⟩ [v0] [] [g0] :=
  Eq.mp (by kernel_rfl) (exV_of (K := fun d => app3 etalonref08_Switched_s.out R d ∧ Spec Try.prog etalonref08_Switched_s ⟨[x0, x1], [], [f0]⟩ d.1 d.2.1 d.2.2) (tree_at mixed names S1_ok (S := S1 Try.prog) (lf := 100000) (d := 60) etalonref08_Switched_s rsw_t { ivs := [(0, 0, 12), (1, 0, 11)], aivs := [] } ⟨[x0, x1], [], [f0]⟩ rfl (by kernel_rfl) (by kernel_rfl) (by kernel_rfl) ⟨(fc r0 (fc r1 fz)), fz, fz, fz⟩ (R := fun d => app3 etalonref08_Switched_s.out R d) (Eq.mp (by kernel_rfl) H)))

def rse_t : Tr :=
  (.ite (.icmp .eql (.var 2) (.var 0))
  (.ret ⟨[(.lit 0)], [], []⟩ [])
  (.ret ⟨[(.lit 12)], [], []⟩ []))
theorem rse {x0 x1 x2 : Int} {f0 f1 f2 f3 f4 f5 : Int → Int} (r0 : 0 ≤ x0 ∧ x0 ≤ 140737488355328) (r1 : 0 ≤ x1 ∧ x1 ≤ 140737488355328) (r2 : 0 ≤ x2 ∧ x2 ≤ 140737488355328) (s1 : ∀ q, (-9223372036854775808) ≤ f1 q ∧ f1 q ≤ 9223372036854775807) (s3 : ∀ q, (-9223372036854775808) ≤ f3 q ∧ f3 q ≤ 9223372036854775807) {R : Int → Prop}
  (H : ((((x2 : Int) == x0) = true → R (0)) ∧
   (((x2 : Int) == x0) = false → R (12)))) :
    ∃ v0 : Int, R v0 ∧ Spec Try.prog etalonref08_StateErr_s ⟨[x0, x1, x2], [], [f0, f1, f2, f3, f4, f5]⟩ [v0] [] [] :=
  Eq.mp (by kernel_rfl) (exV_of (K := fun d => app3 etalonref08_StateErr_s.out R d ∧ Spec Try.prog etalonref08_StateErr_s ⟨[x0, x1, x2], [], [f0, f1, f2, f3, f4, f5]⟩ d.1 d.2.1 d.2.2) (tree_at mixed names S1_ok (S := S1 Try.prog) (lf := 100000) (d := 60) etalonref08_StateErr_s rse_t { ivs := [(0, 0, 140737488355328), (1, 0, 140737488355328), (2, 0, 140737488355328)], aivs := [(1, (-9223372036854775808), 9223372036854775807), (3, (-9223372036854775808), 9223372036854775807)] } ⟨[x0, x1, x2], [], [f0, f1, f2, f3, f4, f5]⟩ rfl (by kernel_rfl) (by kernel_rfl) (by kernel_rfl) ⟨(fc r0 (fc r1 (fc r2 fz))), fz, (fc s1 (fc s3 fz)), fz⟩ (R := fun d => app3 etalonref08_StateErr_s.out R d) (Eq.mp (by kernel_rfl) H)))

def rsm_t : Tr :=
  (.ite (.icmp .eql (.var 0) (.var 1))
  (.loop ⟨20, [0, 1, 0, 1, 1], [(.asl 0 (.var 0)), (.asl 1 (.var 1)), (.tuple []), (.tuple []), (.bool (.lit false)), (.int .i64 (.lit 0)), (.asl 0 (.var 0)), (.int .i64 (.var 0)), (.asl 1 (.var 1)), (.int .i64 (.var 1)), (.bool (.icmp .neq (.var 0) (.var 1))), (.tuple []), (.tuple []), (.tuple []), (.tuple []), (.tuple []), (.tuple []), (.tuple []), (.tuple []), (.tuple []), (.tuple []), (.tuple []), (.tuple []), (.tuple []), (.tuple []), (.tuple [])], [(some ⟨[], 4, true, false, (some ⟨(.var 0), [.bool], [(.avar 0)]⟩)⟩), (some ⟨[], 4, true, false, (some ⟨(.var 1), [.bool], [(.avar 1)]⟩)⟩)], [], [(.asl 0 (.var 0)), (.asl 1 (.var 1)), (.tuple []), (.tuple []), (.bool (.lit false)), (.int .i64 (.var 2)), (.asl 0 (.var 0)), (.int .i64 (.var 0)), (.asl 1 (.var 1)), (.int .i64 (.var 1)), (.bool (.icmp .neq (.var 0) (.var 1))), (.any 11), (.any 12), (.any 13), (.any 14), (.any 15), (.any 16), (.any 17), (.any 18), (.any 19), (.any 20), (.any 21), (.any 22), (.any 23), (.any 24), (.any 25)], [(some ⟨[], 4, true, false, (some ⟨(.var 0), [.bool], [(.avar 0)]⟩)⟩), (some ⟨[], 4, true, false, (some ⟨(.var 1), [.bool], [(.avar 1)]⟩)⟩)], [], ⟨1, 0, 0⟩, ⟨[(.lit 0)], [], []⟩, []⟩
   (.rng 2 0 12 (.ite (.icmp .leq (.var 0) (.var 2))
    (.out 1 ⟨[], [], []⟩ [])
    (.ite (.icmp .leq (.var 1) (.var 2))
     .nil
     (.ite (.icmp .eql (.sel (.avar 0) (.var 2)) (.lit 0))
      (.ite (.icmp .eql (.sel (.avar 1) (.var 2)) (.lit 0))
       (.next ⟨[(.bin .addI (.var 2) (.lit 1))], [], []⟩ [])
       (.out 0 ⟨[], [], []⟩ []))
      (.ite (.icmp .eql (.sel (.avar 1) (.var 2)) (.lit 0))
       (.out 0 ⟨[], [], []⟩ [])
       (.next ⟨[(.bin .addI (.var 2) (.lit 1))], [], []⟩ []))))))
   (.ex (.ret, [(.asl 0 (.var 0)), (.asl 1 (.var 1)), (.tuple []), (.tuple []), (.bool (.lit false)), (.any 5), (.asl 0 (.var 0)), (.int .i64 (.var 0)), (.asl 1 (.var 1)), (.int .i64 (.var 1)), (.bool (.icmp .neq (.var 0) (.var 1))), (.any 11), (.any 12), (.any 13), (.any 14), (.any 15), (.any 16), (.any 17), (.any 18), (.any 19), (.any 20), (.any 21), (.any 22), (.any 23), (.any 24), (.any 25)], [(some ⟨[], 4, true, false, (some ⟨(.var 0), [.bool], [(.avar 0)]⟩)⟩), (some ⟨[], 4, true, false, (some ⟨(.var 1), [.bool], [(.avar 1)]⟩)⟩)], []) ⟨0, 0, 0⟩
   (.ret ⟨[], [(.lit false)], []⟩ [])
   (.ex ((.exit 0), [(.asl 0 (.var 0)), (.asl 1 (.var 1)), (.tuple []), (.tuple []), (.bool (.lit false)), (.any 5), (.asl 0 (.var 0)), (.int .i64 (.var 0)), (.asl 1 (.var 1)), (.int .i64 (.var 1)), (.bool (.icmp .neq (.var 0) (.var 1))), (.any 11), (.any 12), (.any 13), (.any 14), (.any 15), (.any 16), (.any 17), (.any 18), (.any 19), (.any 20), (.any 21), (.any 22), (.any 23), (.any 24), (.any 25)], [(some ⟨[], 4, true, false, (some ⟨(.var 0), [.bool], [(.avar 0)]⟩)⟩), (some ⟨[], 4, true, false, (some ⟨(.var 1), [.bool], [(.avar 1)]⟩)⟩)], []) ⟨0, 0, 0⟩
   (.ret ⟨[], [(.lit true)], []⟩ [])
   .nil)))
  (.ret ⟨[], [(.lit false)], []⟩ []))
theorem rsm {x0 x1 : Int} {f0 f1 : Int → Int} (r0 : 0 ≤ x0 ∧ x0 ≤ 12) (r1 : 0 ≤ x1 ∧ x1 ≤ 12) {R : Bool → Prop}
  (H : ((((x0 : Int) == x1) = true → (∃ (I2 : Int → Prop) (rk2 : Int → Nat), I2 (0) ∧
    (∀ x2 : Int, I2 x2 → ((0 ≤ (x2 : Int) ∧ (x2 : Int) ≤ 12) ∧ ((decide ((x0 : Int) ≤ x2) = true → R (true)) ∧
     (decide ((x0 : Int) ≤ x2) = false → ((decide ((x1 : Int) ≤ x2) = true → False) ∧
      (decide ((x1 : Int) ≤ x2) = false → (((((f0 x2) : Int) == 0) = true → (((((f1 x2) : Int) == 0) = true → (I2 ((x2 + 1)) ∧ rk2 ((x2 + 1)) < rk2 x2)) ∧
        ((((f1 x2) : Int) == 0) = false → R (false)))) ∧
       ((((f0 x2) : Int) == 0) = false → (((((f1 x2) : Int) == 0) = true → R (false)) ∧
        ((((f1 x2) : Int) == 0) = false → (I2 ((x2 + 1)) ∧ rk2 ((x2 + 1)) < rk2 x2))))))))))))) ∧
   (((x0 : Int) == x1) = false → R (false)))) :
    ∃ u0 : Bool, R u0 ∧ Spec Try.prog etalonref08_Same_s ⟨[x0, x1], [], [f0, f1]⟩ [] [u0] [] :=
  Eq.mp (by kernel_rfl) (exV_of (K := fun d => app3 etalonref08_Same_s.out R d ∧ Spec Try.prog etalonref08_Same_s ⟨[x0, x1], [], [f0, f1]⟩ d.1 d.2.1 d.2.2) (tree_at mixed names S1_ok (S := S1 Try.prog) (lf := 100000) (d := 60) etalonref08_Same_s rsm_t { ivs := [(0, 0, 12), (1, 0, 12)], aivs := [] } ⟨[x0, x1], [], [f0, f1]⟩ rfl (by kernel_rfl) (by kernel_rfl) (by kernel_rfl) ⟨(fc r0 (fc r1 fz)), fz, fz, fz⟩ (R := fun d => app3 etalonref08_Same_s.out R d) (Eq.mp (by kernel_rfl) H)))

def rcc_t : Tr :=
  (.ret ⟨[(.var 0), (.var 1)], [], [(.avar 0), (.avar 1), (.avar 2), (.avar 3), (.avar 4)]⟩ [5, 7])
theorem rcc {x0 x1 : Int} {f0 f1 f2 f3 f4 : Int → Int} (r0 : 0 ≤ x0 ∧ x0 ≤ 10) (r1 : 0 ≤ x1 ∧ x1 ≤ 32) (s1 : ∀ q, (-9223372036854775808) ≤ f1 q ∧ f1 q ≤ 9223372036854775807) (s3 : ∀ q, (-9223372036854775808) ≤ f3 q ∧ f3 q ≤ 9223372036854775807) {R : Int → Int → (Int → Int) → (Int → Int) → (Int → Int) → (Int → Int) → (Int → Int) → Prop}
  (H : R (x0) (x1) (f0) (f1) (f2) (f3) (f4)) :
    ∃ v0 : Int, ∃ v1 : Int, ∃ g0 : Int → Int, ∃ g1 : Int → Int, ∃ g2 : Int → Int, ∃ g3 : Int → Int, ∃ g4 : Int → Int, R v0 v1 g0 g1 g2 g3 g4 ∧ Spec Try.prog etalonref08_CopyChamber_s ⟨[x0, x1], [], [f0, f1, f2, f3, f4]⟩ [v0, v1] [] [g0, g1, g2, g3, g4] :=
  Eq.mp (by kernel_rfl) (exV_of (K := fun d => app3 etalonref08_CopyChamber_s.out R d ∧ Spec Try.prog etalonref08_CopyChamber_s ⟨[x0, x1], [], [f0, f1, f2, f3, f4]⟩ d.1 d.2.1 d.2.2) (tree_at mixed names S1_ok (S := S1 Try.prog) (lf := 100000) (d := 60) etalonref08_CopyChamber_s rcc_t { ivs := [(0, 0, 10), (1, 0, 32)], aivs := [(1, (-9223372036854775808), 9223372036854775807), (3, (-9223372036854775808), 9223372036854775807)] } ⟨[x0, x1], [], [f0, f1, f2, f3, f4]⟩ rfl (by kernel_rfl) (by kernel_rfl) (by kernel_rfl) ⟨(fc r0 (fc r1 fz)), fz, (fc s1 (fc s3 fz)), fz⟩ (R := fun d => app3 etalonref08_CopyChamber_s.out R d) (Eq.mp (by kernel_rfl) H)))

def rcs_t : Tr :=
  (.ret ⟨[(.var 0)], [], [(.avar 0)]⟩ [2])
theorem rcs {x0 : Int} {f0 : Int → Int} (r0 : 0 ≤ x0 ∧ x0 ≤ 12) {R : Int → (Int → Int) → Prop}
  (H : R (x0) (f0)) :
    ∃ v0 : Int, ∃ g0 : Int → Int, R v0 g0 ∧ Spec Try.prog etalonref08_CopyState_s ⟨[x0], [], [f0]⟩ [v0] [] [g0] :=
  Eq.mp (by kernel_rfl) (exV_of (K := fun d => app3 etalonref08_CopyState_s.out R d ∧ Spec Try.prog etalonref08_CopyState_s ⟨[x0], [], [f0]⟩ d.1 d.2.1 d.2.2) (tree_at mixed names S1_ok (S := S1 Try.prog) (lf := 100000) (d := 60) etalonref08_CopyState_s rcs_t { ivs := [(0, 0, 12)], aivs := [] } ⟨[x0], [], [f0]⟩ rfl (by kernel_rfl) (by kernel_rfl) (by kernel_rfl) ⟨(fc r0 fz), fz, fz, fz⟩ (R := fun d => app3 etalonref08_CopyState_s.out R d) (Eq.mp (by kernel_rfl) H)))

def sml_t : Tr :=
  (.ite (.icmp .leq (.var 0) (.lit 5))
  (.ret ⟨[], [(.icmp .leq (.var 1) (.lit 32))], []⟩ [])
  (.ite (.icmp .leq (.var 0) (.lit 8))
   (.ret ⟨[], [(.lit false)], []⟩ [])
   (.ite (.icmp .leq (.var 0) (.lit 10))
    (.ret ⟨[], [(.icmp .leq (.var 1) (.lit 32))], []⟩ [])
    (.ret ⟨[], [(.lit false)], []⟩ []))))
theorem sml {x0 x1 : Int} {f0 f1 f2 f3 f4 : Int → Int} (r0 : 0 ≤ x0 ∧ x0 ≤ 9223372036854775807) (r1 : 0 ≤ x1 ∧ x1 ≤ 9223372036854775807) (s1 : ∀ q, (-9223372036854775808) ≤ f1 q ∧ f1 q ≤ 9223372036854775807) (s3 : ∀ q, (-9223372036854775808) ≤ f3 q ∧ f3 q ≤ 9223372036854775807) {R : Bool → Prop}
  (H : ((decide ((x0 : Int) ≤ 5) = true → R (decide ((x1 : Int) ≤ 32))) ∧
   (decide ((x0 : Int) ≤ 5) = false → ((decide ((x0 : Int) ≤ 8) = true → R (false)) ∧
    (decide ((x0 : Int) ≤ 8) = false → ((decide ((x0 : Int) ≤ 10) = true → R (decide ((x1 : Int) ≤ 32))) ∧
     (decide ((x0 : Int) ≤ 10) = false → R (false)))))))) :
    ∃ u0 : Bool, R u0 ∧ Spec Try.prog etalonlaw08_small_s ⟨[x0, x1], [], [f0, f1, f2, f3, f4]⟩ [] [u0] [] :=
  Eq.mp (by kernel_rfl) (exV_of (K := fun d => app3 etalonlaw08_small_s.out R d ∧ Spec Try.prog etalonlaw08_small_s ⟨[x0, x1], [], [f0, f1, f2, f3, f4]⟩ d.1 d.2.1 d.2.2) (tree_at mixed names S1_ok (S := S1 Try.prog) (lf := 100000) (d := 60) etalonlaw08_small_s sml_t { ivs := [(0, 0, 9223372036854775807), (1, 0, 9223372036854775807)], aivs := [(1, (-9223372036854775808), 9223372036854775807), (3, (-9223372036854775808), 9223372036854775807)] } ⟨[x0, x1], [], [f0, f1, f2, f3, f4]⟩ rfl (by kernel_rfl) (by kernel_rfl) (by kernel_rfl) ⟨(fc r0 (fc r1 fz)), fz, (fc s1 (fc s3 fz)), fz⟩ (R := fun d => app3 etalonlaw08_small_s.out R d) (Eq.mp (by kernel_rfl) H)))

def bitOf (v d : Int) : Int := NOp.den (.andK .i64) (NOp.den (.shrK .i64) v d) 1

def setBit (v i : Int) : Int := NOp.den (.orK .i64) v (NOp.den (.shlK .i64) 1 i)

def bitChk (v i d : Nat) : Bool := decide (0 ≤ setBit v i) && decide (setBit v i < 2 ^ (i + 1)) && (bitOf (setBit v i) d == if d = i then 1 else bitOf v d)

theorem bit_all : ∀ i < 8, ∀ v < 2 ^ i, ∀ d < 8, bitChk v i d = true := by decide +kernel

theorem bit_zero : ∀ d < 8, bitOf 0 ((d : Nat) : Int) = 0 := by decide +kernel

/-- The bits of a number up to i are those of a state. -/

def stN (f : Int → Int) (i v : Int) : Prop := (0 ≤ v ∧ v < 2 ^ i.toNat) ∧ ∀ d, 0 ≤ d → d < 8 → (bitOf v d = 1 ↔ d < i ∧ f d ≠ 0)

theorem stN_zero (f : Int → Int) : stN f 0 0 := by

  refine ⟨⟨by omega, by decide⟩, fun d h0 h1 => ?_⟩

  obtain ⟨n, rfl⟩ := Int.eq_ofNat_of_zero_le h0

  rw [bit_zero n (by omega)]

  omega

theorem stN_set {f : Int → Int} {i v : Int} (h0 : 0 ≤ i) (h1 : i < 8) (h : stN f i v) (hf : f i ≠ 0) : stN f (i + 1) (setBit v i) := by

  obtain ⟨n, rfl⟩ := Int.eq_ofNat_of_zero_le h0

  obtain ⟨⟨v0, v1⟩, hb⟩ := h

  obtain ⟨m, rfl⟩ := Int.eq_ofNat_of_zero_le v0

  have e : (((n : Nat) : Int) + 1).toNat = n + 1 := by omega

  have vn : m < 2 ^ n := by

    have : ((m : Nat) : Int) < ((2 ^ n : Nat) : Int) := by rw [Int.natCast_pow]; exact v1

    exact Int.ofNat_lt.1 this

  have a := bit_all n (by omega) m vn 0 (by decide)

  simp only [bitChk, Bool.and_eq_true, decide_eq_true_eq, beq_iff_eq] at a

  refine ⟨⟨a.1.1, by rw [e]; exact a.1.2⟩, fun d d0 d1 => ?_⟩

  obtain ⟨c, rfl⟩ := Int.eq_ofNat_of_zero_le d0

  have b := bit_all n (by omega) m vn c (by omega)

  simp only [bitChk, Bool.and_eq_true, decide_eq_true_eq, beq_iff_eq] at b

  have b2 := b.2

  have hc := hb ((c : Nat) : Int) d0 d1

  rw [b2]

  by_cases hcn : c = n

  · subst hcn

    rw [if_pos rfl]

    exact ⟨fun _ => ⟨by omega, hf⟩, fun _ => rfl⟩

  · rw [if_neg hcn, hc]

    constructor

    · rintro ⟨p, q⟩; exact ⟨by omega, q⟩

    · rintro ⟨p, q⟩; exact ⟨by omega, q⟩

theorem stN_skip {f : Int → Int} {i v : Int} (h0 : 0 ≤ i) (h : stN f i v) (hf : f i = 0) : stN f (i + 1) v := by

  obtain ⟨⟨v0, v1⟩, hb⟩ := h

  obtain ⟨n, rfl⟩ := Int.eq_ofNat_of_zero_le h0

  have e : (((n : Nat) : Int) + 1).toNat = n + 1 := by omega

  refine ⟨⟨v0, ?_⟩, fun d d0 d1 => ?_⟩

  · rw [e]

    have e2 : ((n : Nat) : Int).toNat = n := by omega

    rw [e2] at v1

    have : (2 : Int) ^ (n + 1) = 2 ^ n * 2 := Int.pow_succ 2 n

    omega

  · rw [hb d d0 d1]

    constructor

    · rintro ⟨p, q⟩; exact ⟨by omega, q⟩

    · rintro ⟨p, q⟩

      refine ⟨?_, q⟩

      rcases Int.lt_or_le d ((n : Nat) : Int) with g | g

      · exact g

      · have : d = ((n : Nat) : Int) := by omega

        subst this

        exact absurd hf q

theorem pow_le8 {i : Int} (h0 : 0 ≤ i) (h1 : i ≤ 8) : (2 : Int) ^ i.toNat ≤ 256 := by

  have : ∀ n ≤ 8, (2 : Int) ^ n ≤ 256 := by decide

  exact this i.toNat (by omega)

theorem numberOf_s {x0 : Int} {f0 : Int → Int} (r0 : 0 ≤ x0 ∧ x0 ≤ 8) : ∃ v, stN f0 x0 v ∧ Spec Try.prog grow_numberOf_s ⟨[x0], [], [f0]⟩ [v] [] [] := by

  refine nu r0 (R := stN f0 x0) ⟨fun v i => ((0 ≤ i ∧ i ≤ x0) ∧ stN f0 i v) ∧ (0 ≤ v ∧ v ≤ 255), fun v i => (x0 - i).toNat, ⟨⟨⟨by omega, by omega⟩, stN_zero f0⟩, by omega, by omega⟩, ?_⟩

  rintro v i ⟨⟨hi, hs⟩, hv⟩

  simp only [decide_eq_true_eq, decide_eq_false_iff_not, beq_iff_eq, beq_eq_false_iff_ne, ne_eq]

  have wi : i < x0 → IntKind.i64.wrap (i + 1) = i + 1 := fun h => by rw [IntKind.wrap_i64]; omega

  refine ⟨by omega, by omega, fun h => ?_, fun h => ?_⟩

  · have : i = x0 := by omega

    subst this

    exact ⟨by omega, hs⟩

  · first

    | rw [wi (by omega)]

    | skip

    refine ⟨fun f => ?_, fun f => ?_⟩

    · have k := stN_skip hi.1 hs f

      exact ⟨⟨⟨⟨by omega, by omega⟩, k⟩, hv⟩, by show (x0 - (i + 1)).toNat < (x0 - i).toNat; omega⟩

    · have k := stN_set hi.1 (by omega) hs f

      have p := pow_le8 (i := i + 1) (by omega) (by omega)

      exact ⟨⟨⟨⟨by omega, by omega⟩, k⟩, by have := k.1; exact ⟨this.1, by show setBit v i ≤ 255; omega⟩⟩, by show (x0 - (i + 1)).toNat < (x0 - i).toNat; omega⟩

/-- A rule is broken in a state; the first one is. -/

def brk (f1 f2 f3 f4 f5 : Int → Int) (q : Int) : Prop := (f5 (f1 q) ≠ 0 ↔ f2 q ≠ 0) ∧ ¬ (f5 (f3 q) ≠ 0 ↔ f4 q ≠ 0)

def fbIs (x1 : Int) (f1 f2 f3 f4 f5 : Int → Int) (k e : Int) : Prop :=

  (e = 0 ∧ (0 ≤ k ∧ k < x1) ∧ (∀ j, 0 ≤ j → j < k → ¬ brk f1 f2 f3 f4 f5 j) ∧ brk f1 f2 f3 f4 f5 k) ∨ (e = 17 ∧ k = 0 ∧ ∀ j, 0 ≤ j → j < x1 → ¬ brk f1 f2 f3 f4 f5 j)

theorem fbIs_uniq {x1 k e k' e' : Int} {f1 f2 f3 f4 f5 : Int → Int} (h : fbIs x1 f1 f2 f3 f4 f5 k e) (h' : fbIs x1 f1 f2 f3 f4 f5 k' e') : k = k' ∧ e = e' := by

  rcases h with ⟨h1, h2, h3, h4⟩ | ⟨h1, h2, h3⟩ <;> rcases h' with ⟨g1, g2, g3, g4⟩ | ⟨g1, g2, g3⟩

  · exact ⟨first_uniq (P := fun j => ¬ brk f1 f2 f3 f4 f5 j) h2.1 h3 (fun n => n h4) g2.1 g3 (fun n => n g4), by omega⟩

  · exact absurd h4 (g3 _ h2.1 h2.2)

  · exact absurd g4 (h3 _ g2.1 g2.2)

  · exact ⟨by omega, by omega⟩

theorem firstBroken_p {x0 x1 : Int} {f0 f1 f2 f3 f4 f5 : Int → Int} (r0 : 0 ≤ x0) (r1 : 0 ≤ x1) (s1 : ∀ q, I64 (f1 q)) (s3 : ∀ q, I64 (f3 q)) (dv : devsOk x0 f0) (rl : rulesOk x0 x1 f1 f3) :

    ∃ k e, fbIs x1 f1 f2 f3 f4 f5 k e ∧ Spec Try.prog grow_FirstBroken_s ⟨[x0, x1, x0], [], [f0, f1, f2, f3, f4, f5]⟩ [k, e] [] [] := by

  have d8 := dv.1

  have l30 := rl.1

  obtain ⟨k0, e0, hc, hcs⟩ := chamber_p (f2 := f2) (f4 := f4) ⟨r0, by omega⟩ ⟨r1, by omega⟩ s1 s3

  obtain ⟨rfl, rfl⟩ := chamIs_uniq hc (.ok dv rl)

  obtain ⟨v, hv, hvs⟩ := numberOf_s (f0 := f5) ⟨r0, d8⟩

  refine fb ⟨r0, by omega⟩ ⟨r1, by omega⟩ ⟨r0, by omega⟩ s1 s3 (R := fbIs x1 f1 f2 f3 f4 f5) ⟨_, _, hcs, fun _ => ⟨fun _ => ⟨v, hvs, fun i => (0 ≤ i ∧ i ≤ x1) ∧ ∀ j, 0 ≤ j → j < i → ¬ brk f1 f2 f3 f4 f5 j, fun i => (x1 - i).toNat, ⟨⟨by omega, by omega⟩, fun j a b => by omega⟩, ?_⟩, fun h => by simp at h⟩, fun h => by simp at h⟩

  rintro i ⟨hi, hb⟩

  simp only [decide_eq_true_eq, decide_eq_false_iff_not, beq_iff_eq, beq_eq_false_iff_ne, ne_eq]

  refine ⟨by omega, fun h => .inr ⟨rfl, rfl, fun j a b => hb j a (by omega)⟩, fun h => ?_⟩

  have ro := rl.2 i hi.1 (by omega)

  have b1 := hv.2 (f1 i) ro.1.1 (by have := ro.1.2; omega)

  have b3 := hv.2 (f3 i) ro.2.1 (by have := ro.2.2; omega)

  have c1 : bitOf v (f1 i) = 1 ↔ f5 (f1 i) ≠ 0 := by rw [b1]; have := ro.1.2; exact ⟨fun h => h.2, fun h => ⟨by omega, h⟩⟩

  have c3 : bitOf v (f3 i) = 1 ↔ f5 (f3 i) ≠ 0 := by rw [b3]; have := ro.2.2; exact ⟨fun h => h.2, fun h => ⟨by omega, h⟩⟩

  clear b1 b3

  have p1 := ro.1.1

  have p3 := ro.2.1

  have go : ¬ brk f1 f2 f3 f4 f5 i → (((0 ≤ i + 1 ∧ i + 1 ≤ x1) ∧ ∀ j, 0 ≤ j → j < i + 1 → ¬ brk f1 f2 f3 f4 f5 j) ∧ (x1 - (i + 1)).toNat < (x1 - i).toNat) := fun n => ⟨⟨⟨by omega, by omega⟩, fun j a b => by

    by_cases e : j = i

    · subst e; exact n

    · exact hb j a (by omega)⟩, by omega⟩

  have stop : brk f1 f2 f3 f4 f5 i → (((-9223372036854775808) ≤ i ∧ i ≤ 9223372036854775807) ∧ ((0 ≤ i → fbIs x1 f1 f2 f3 f4 f5 i 0) ∧ (¬ 0 ≤ i → fbIs x1 f1 f2 f3 f4 f5 0 17))) := fun b => ⟨by omega, fun _ => .inl ⟨rfl, ⟨hi.1, by omega⟩, hb, b⟩, fun n => absurd hi.1 n⟩

  show (0 ≤ f1 i → (bitOf v (f1 i) = 1 → _) ∧ (¬ bitOf v (f1 i) = 1 → _)) ∧ _

  have d1 : (NOp.den (.andK .i64) (NOp.den (.shrK .i64) v (f1 i)) 1) = bitOf v (f1 i) := rfl

  have d3 : (NOp.den (.andK .i64) (NOp.den (.shrK .i64) v (f3 i)) 1) = bitOf v (f3 i) := rfl

  rw [d3]

  generalize bitOf v (f1 i) = m1 at *

  generalize bitOf v (f3 i) = m3 at *

  repeat' (first | exact go (by unfold brk; omega) | exact stop (by unfold brk; omega) | (exfalso; omega) | (refine ⟨fun _ => ?_, fun _ => ?_⟩))

theorem firstBroken_r {x0 x1 : Int} {f0 f1 f2 f3 f4 f5 : Int → Int} (r0 : 0 ≤ x0) (r1 : 0 ≤ x1) (s1 : ∀ q, I64 (f1 q)) (s3 : ∀ q, I64 (f3 q)) (dv : devsOk x0 f0) (rl : rulesOk x0 x1 f1 f3) :

    ∃ k, (fbIs x1 f1 f2 f3 f4 f5 k 0 ∨ (k = -1 ∧ fbIs x1 f1 f2 f3 f4 f5 0 17)) ∧ Spec Try.prog etalonref08_FirstBroken_s ⟨[x0, x1, x0], [], [f0, f1, f2, f3, f4, f5]⟩ [k] [] [] := by

  have d8 := dv.1

  have l30 := rl.1

  refine rfb ⟨r0, by omega⟩ ⟨r1, by omega⟩ ⟨r0, by omega⟩ s1 s3 (R := fun k => fbIs x1 f1 f2 f3 f4 f5 k 0 ∨ (k = -1 ∧ fbIs x1 f1 f2 f3 f4 f5 0 17)) ⟨fun i => (0 ≤ i ∧ i ≤ x1) ∧ ∀ j, 0 ≤ j → j < i → ¬ brk f1 f2 f3 f4 f5 j, fun i => (x1 - i).toNat, ⟨⟨by omega, by omega⟩, fun j a b => by omega⟩, ?_⟩

  rintro i ⟨hi, hb⟩

  simp only [decide_eq_true_eq, decide_eq_false_iff_not, beq_iff_eq, beq_eq_false_iff_ne, ne_eq]

  refine ⟨by omega, fun h => .inr ⟨by trivial, .inr ⟨rfl, rfl, fun j a b => hb j a (by omega)⟩⟩, fun h => ?_⟩

  have ro := rl.2 i hi.1 (by omega)

  obtain ⟨⟨p1, q1⟩, p3, q3⟩ := ro

  have go : ¬ brk f1 f2 f3 f4 f5 i → (((0 ≤ i + 1 ∧ i + 1 ≤ x1) ∧ ∀ j, 0 ≤ j → j < i + 1 → ¬ brk f1 f2 f3 f4 f5 j) ∧ (x1 - (i + 1)).toNat < (x1 - i).toNat) := fun n => ⟨⟨⟨by omega, by omega⟩, fun j a b => by

    by_cases e : j = i

    · subst e; exact n

    · exact hb j a (by omega)⟩, by omega⟩

  have stop : brk f1 f2 f3 f4 f5 i → (((-9223372036854775808) ≤ i ∧ i ≤ 9223372036854775807) ∧ (fbIs x1 f1 f2 f3 f4 f5 i 0 ∨ (i = -1 ∧ fbIs x1 f1 f2 f3 f4 f5 0 17))) := fun b => ⟨by omega, .inl (.inl ⟨rfl, ⟨hi.1, by omega⟩, hb, b⟩)⟩

  repeat' (first | exact go (by unfold brk; omega) | exact stop (by unfold brk; omega) | (exfalso; omega) | (refine ⟨fun _ => ?_, fun _ => ?_⟩))

/-- A state with a device switched. -/

def flip (f : Int → Int) (d : Int) : Int → Int := if f d = 0 then (fun q => if q = d then 1 else f q) else (fun q => if q = d then 0 else f q)

theorem shape_no {x0 x1 x2 k e : Int} {f0 f1 f2 f3 f4 f5 : Int → Int} (r0 : 0 ≤ x0 ∧ x0 ≤ 10) (r1 : 0 ≤ x1 ∧ x1 ≤ 32) (r2 : 0 ≤ x2 ∧ x2 ≤ 12) (s1 : ∀ q, I64 (f1 q)) (s3 : ∀ q, I64 (f3 q)) (h : chamIs x0 x1 f0 f1 f3 k e) (hn : ¬ (e = 0 ∧ x2 = x0)) :

    Spec Try.prog grow_FirstBroken_s ⟨[x0, x1, x2], [], [f0, f1, f2, f3, f4, f5]⟩ [0, if e = 0 then 12 else e] [] [] := by

  obtain ⟨k', e', hc, hcs⟩ := chamber_p (f2 := f2) (f4 := f4) r0 r1 s1 s3

  obtain ⟨rfl, rfl⟩ := chamIs_uniq h hc

  obtain ⟨a, b, ⟨rfl, rfl⟩, hs⟩ := fb (f5 := f5) r0 r1 r2 s1 s3 (R := fun a b => a = 0 ∧ b = if e = 0 then 12 else e) ⟨_, _, hcs, fun h => ⟨fun g => absurd ⟨eq_of_beq h, eq_of_beq g⟩ hn, fun g => ⟨rfl, by rw [if_pos (eq_of_beq h)]⟩⟩, fun h => ⟨rfl, by rw [if_neg (by simpa using h)]⟩⟩

  exact hs

theorem switched_no {x0 x1 x2 x3 k e : Int} {f0 f1 f2 f3 f4 f5 : Int → Int} (r0 : 0 ≤ x0 ∧ x0 ≤ 10) (r1 : 0 ≤ x1 ∧ x1 ≤ 32) (r2 : 0 ≤ x2 ∧ x2 ≤ 12) (r3 : I64 x3) (s1 : ∀ q, I64 (f1 q)) (s3 : ∀ q, I64 (f3 q)) (h : chamIs x0 x1 f0 f1 f3 k e) (hn : ¬ (e = 0 ∧ x2 = x0 ∧ 0 ≤ x3 ∧ x3 ≤ x0 - 1)) :

    Spec Try.prog grow_Switched_s ⟨[x0, x1, x2, x3], [], [f0, f1, f2, f3, f4, f5]⟩ [0, 0, if e = 0 then (if x2 = x0 then 6 else 12) else e] [] [(fun _ => 0)] := by

  obtain ⟨k', e', hc, hcs⟩ := chamber_p (f2 := f2) (f4 := f4) r0 r1 s1 s3

  obtain ⟨rfl, rfl⟩ := chamIs_uniq h hc

  suffices hh : ∃ a b c g, (a = 0 ∧ b = 0 ∧ (c = if e = 0 then (if x2 = x0 then 6 else 12) else e) ∧ g = (fun _ => 0)) ∧ Spec Try.prog grow_Switched_s ⟨[x0, x1, x2, x3], [], [f0, f1, f2, f3, f4, f5]⟩ [a, b, c] [] [g] by

    obtain ⟨a, b, c, g, ⟨rfl, rfl, rfl, rfl⟩, hs⟩ := hh

    exact hs

  by_cases z : x2 = 0

  · refine sw0 r0 r1 ⟨r2.1, by omega⟩ r3 s1 s3 ⟨_, _, hcs, ?_⟩

    simp only [decide_eq_true_eq, decide_eq_false_iff_not, beq_iff_eq, beq_eq_false_iff_ne, ne_eq]

    refine ⟨fun h0 => ⟨fun h1 => ⟨fun h2 => ⟨fun h3 => hn ⟨h0, h1, h2, h3⟩, fun h3 => ⟨by trivial, by trivial, by rw [if_pos h0, if_pos h1], by trivial⟩⟩, fun h2 => ⟨by trivial, by trivial, by rw [if_pos h0, if_pos h1], by trivial⟩⟩, fun h1 => ⟨by trivial, by trivial, by rw [if_pos h0, if_neg h1], by trivial⟩⟩, fun h0 => ⟨by trivial, by trivial, by rw [if_neg h0], by trivial⟩⟩

  · refine sw r0 r1 ⟨by omega, r2.2⟩ r3 s1 s3 ⟨_, _, hcs, ?_⟩

    simp only [decide_eq_true_eq, decide_eq_false_iff_not, beq_iff_eq, beq_eq_false_iff_ne, ne_eq]

    refine ⟨fun h0 => ⟨fun h1 => ⟨fun h2 => ⟨fun h3 => absurd ⟨h0, h1, h2, h3⟩ hn, fun h3 => ⟨by trivial, by trivial, by rw [if_pos h0, if_pos h1], by trivial⟩⟩, fun h2 => ⟨by trivial, by trivial, by rw [if_pos h0, if_pos h1], by trivial⟩⟩, fun h1 => ⟨by trivial, by trivial, by rw [if_pos h0, if_neg h1], by trivial⟩⟩, fun h0 => ⟨by trivial, by trivial, by rw [if_neg h0], by trivial⟩⟩

theorem switched_p {x0 x1 x3 : Int} {f0 f1 f2 f3 f4 f5 : Int → Int} (r0 : 0 ≤ x0) (r1 : 0 ≤ x1) (s1 : ∀ q, I64 (f1 q)) (s3 : ∀ q, I64 (f3 q)) (dv : devsOk x0 f0) (rl : rulesOk x0 x1 f1 f3) (h3 : 0 ≤ x3 ∧ x3 ≤ x0 - 1) :

    ∃ k e, fbIs x1 f1 f2 f3 f4 (flip f5 x3) k e ∧ ((e = 0 ∧ Spec Try.prog grow_Switched_s ⟨[x0, x1, x0, x3], [], [f0, f1, f2, f3, f4, f5]⟩ [0, k, 24] [] [(fun _ => 0)]) ∨ (e = 17 ∧ Spec Try.prog grow_Switched_s ⟨[x0, x1, x0, x3], [], [f0, f1, f2, f3, f4, f5]⟩ [x0, 0, 0] [] [flip f5 x3])) := by

  have d8 := dv.1

  have l30 := rl.1

  obtain ⟨k0, e0, hc, hcs⟩ := chamber_p (f2 := f2) (f4 := f4) ⟨r0, by omega⟩ ⟨r1, by omega⟩ s1 s3

  obtain ⟨rfl, rfl⟩ := chamIs_uniq hc (.ok dv rl)

  obtain ⟨k, e, hf, hfs⟩ := firstBroken_p (f2 := f2) (f4 := f4) (f5 := flip f5 x3) r0 r1 s1 s3 dv rl

  refine ⟨k, e, hf, ?_⟩

  suffices hh : ∃ a b c g, ((e = 0 ∧ a = 0 ∧ b = k ∧ c = 24 ∧ g = (fun _ => 0)) ∨ (e = 17 ∧ a = x0 ∧ b = 0 ∧ c = 0 ∧ g = flip f5 x3)) ∧ Spec Try.prog grow_Switched_s ⟨[x0, x1, x0, x3], [], [f0, f1, f2, f3, f4, f5]⟩ [a, b, c] [] [g] by

    obtain ⟨a, b, c, g, ⟨h0, rfl, rfl, rfl, rfl⟩ | ⟨h0, rfl, rfl, rfl, rfl⟩, hs⟩ := hh

    · exact .inl ⟨h0, hs⟩

    · exact .inr ⟨h0, hs⟩

  have e17 : e = 0 ∨ e = 17 := by rcases hf with ⟨h, _⟩ | ⟨h, _⟩ <;> omega

  refine sw ⟨r0, by omega⟩ ⟨r1, by omega⟩ ⟨by omega, by omega⟩ ⟨by omega, by omega⟩ s1 s3 ⟨_, _, hcs, ?_⟩

  simp only [decide_eq_true_eq, decide_eq_false_iff_not, beq_iff_eq, beq_eq_false_iff_ne, ne_eq]

  refine ⟨fun _ => ⟨fun _ => ⟨fun _ => ⟨fun _ => ⟨fun g => by omega, fun _ => ⟨fun g => ?_, fun g => ?_⟩⟩, fun g => by omega⟩, fun g => by omega⟩, fun g => absurd trivial g⟩, fun g => absurd trivial g⟩

  · have ef : flip f5 x3 = (fun q => if q = x3 then 1 else f5 q) := by unfold flip; rw [if_pos g]

    rw [ef] at hfs ⊢

    exact ⟨_, _, hfs, fun h => .inl ⟨h, by trivial, by trivial, by trivial, by trivial⟩, fun h => .inr ⟨by omega, by trivial, by trivial, by trivial, by trivial⟩⟩

  · have ef : flip f5 x3 = (fun q => if q = x3 then 0 else f5 q) := by unfold flip; rw [if_neg g]

    rw [ef] at hfs ⊢

    exact ⟨_, _, hfs, fun h => .inl ⟨h, by trivial, by trivial, by trivial, by trivial⟩, fun h => .inr ⟨by omega, by trivial, by trivial, by trivial, by trivial⟩⟩

theorem switched_r {x0 x1 : Int} {f0 : Int → Int} (r0 : 0 ≤ x0 ∧ x0 ≤ 12) (r1 : 0 ≤ x1 ∧ x1 < x0) : Spec Try.prog etalonref08_Switched_s ⟨[x0, x1], [], [f0]⟩ [x0] [] [flip f0 x1] := by

  suffices hh : ∃ a g, (a = x0 ∧ g = flip f0 x1) ∧ Spec Try.prog etalonref08_Switched_s ⟨[x0, x1], [], [f0]⟩ [a] [] [g] by

    obtain ⟨a, g, ⟨rfl, rfl⟩, hs⟩ := hh

    exact hs

  refine rsw r0 ⟨r1.1, by omega⟩ ?_

  simp only [decide_eq_true_eq, decide_eq_false_iff_not, beq_iff_eq, beq_eq_false_iff_ne, ne_eq]

  refine ⟨fun g => by omega, fun _ => ⟨fun g => ⟨by trivial, ?_⟩, fun g => ⟨by trivial, ?_⟩⟩⟩

  · unfold flip; rw [if_pos g]

  · unfold flip; rw [if_neg g]

theorem stateErr_r {x0 x1 x2 : Int} {f0 f1 f2 f3 f4 f5 : Int → Int} (r0 : 0 ≤ x0 ∧ x0 ≤ 140737488355328) (r1 : 0 ≤ x1 ∧ x1 ≤ 140737488355328) (r2 : 0 ≤ x2 ∧ x2 ≤ 140737488355328) (s1 : ∀ q, I64 (f1 q)) (s3 : ∀ q, I64 (f3 q)) : Spec Try.prog etalonref08_StateErr_s ⟨[x0, x1, x2], [], [f0, f1, f2, f3, f4, f5]⟩ [if x2 = x0 then 0 else 12] [] [] := by

  suffices hh : ∃ a, (a = if x2 = x0 then 0 else 12) ∧ Spec Try.prog etalonref08_StateErr_s ⟨[x0, x1, x2], [], [f0, f1, f2, f3, f4, f5]⟩ [a] [] [] by

    obtain ⟨a, rfl, hs⟩ := hh

    exact hs

  refine rse r0 r1 r2 s1 s3 ⟨fun g => ?_, fun g => ?_⟩

  · rw [if_pos (eq_of_beq g)]

  · rw [if_neg (by simpa using g)]

theorem same_r {n : Int} {f : Int → Int} (r0 : 0 ≤ n ∧ n ≤ 12) : Spec Try.prog etalonref08_Same_s ⟨[n, n], [], [f, f]⟩ [] [true] [] := by

  suffices hh : ∃ b : Bool, b = true ∧ Spec Try.prog etalonref08_Same_s ⟨[n, n], [], [f, f]⟩ [] [b] [] by

    obtain ⟨a, rfl, hs⟩ := hh

    exact hs

  refine rsm r0 r0 ⟨fun _ => ⟨fun i => 0 ≤ i ∧ i ≤ n, fun i => (n - i).toNat, ⟨by omega, by omega⟩, ?_⟩, fun h => by simp at h⟩

  rintro i hi

  simp only [decide_eq_true_eq, decide_eq_false_iff_not, beq_iff_eq, beq_eq_false_iff_ne, ne_eq]

  have go : ¬ n ≤ i → ((0 ≤ i + 1 ∧ i + 1 ≤ n) ∧ (n - (i + 1)).toNat < (n - i).toNat) := fun h => ⟨⟨by omega, by omega⟩, by omega⟩

  refine ⟨by omega, fun _ => by trivial, fun h => ⟨fun g => absurd g h, fun _ => ⟨fun a => ⟨fun b => go h, fun b => absurd a b⟩, fun a => ⟨fun b => absurd b a, fun b => go h⟩⟩⟩⟩

theorem copyChamber_s {x0 x1 : Int} {f0 f1 f2 f3 f4 : Int → Int} (r0 : 0 ≤ x0 ∧ x0 ≤ 10) (r1 : 0 ≤ x1 ∧ x1 ≤ 32) (s1 : ∀ q, I64 (f1 q)) (s3 : ∀ q, I64 (f3 q)) : Spec Try.prog etalonref08_CopyChamber_s ⟨[x0, x1], [], [f0, f1, f2, f3, f4]⟩ [x0, x1] [] [f0, f1, f2, f3, f4] := by

  obtain ⟨a, b, g0, g1, g2, g3, g4, ⟨rfl, rfl, rfl, rfl, rfl, rfl, rfl⟩, hs⟩ := rcc (f0 := f0) (f2 := f2) (f4 := f4) r0 r1 s1 s3 (R := fun a b g0 g1 g2 g3 g4 => a = x0 ∧ b = x1 ∧ g0 = f0 ∧ g1 = f1 ∧ g2 = f2 ∧ g3 = f3 ∧ g4 = f4) ⟨rfl, rfl, rfl, rfl, rfl, rfl, rfl⟩

  exact hs

theorem copyState_s {x0 : Int} {f0 : Int → Int} (r0 : 0 ≤ x0 ∧ x0 ≤ 12) : Spec Try.prog etalonref08_CopyState_s ⟨[x0], [], [f0]⟩ [x0] [] [f0] := by

  obtain ⟨a, g0, ⟨rfl, rfl⟩, hs⟩ := rcs (f0 := f0) r0 (R := fun a g0 => a = x0 ∧ g0 = f0) ⟨rfl, rfl⟩

  exact hs

end Go.Proofs.Ytheopgjjkgklpaa.Ev
