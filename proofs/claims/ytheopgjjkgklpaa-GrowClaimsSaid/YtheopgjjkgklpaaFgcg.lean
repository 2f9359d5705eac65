/- Labels of a change's states: which the reference accepts. -/
import Derived.Test.YtheopgjjkgklpaaFgcf
namespace Go.Proofs.Ytheopgjjkgklpaa.Ev
set_option linter.unusedSimpArgs false
open Go Go.RowKit
set_option linter.unusedVariables false
set_option maxRecDepth 100000
def etalonref08_Number_s : Sig := ⟨60, ⟨1, 0, 1⟩, ⟨1, 0, 0⟩, [(.asl 0 (.var 0))], [(some ⟨[], 4, true, false, (some ⟨(.var 0), [.bool], [(.avar 0)]⟩)⟩)], (.int .i64 (.var 1)), []⟩
def etalonref08_State_s : Sig := ⟨61, ⟨2, 0, 0⟩, ⟨1, 0, 1⟩, [(.int .i64 (.var 0)), (.int .i64 (.var 1))], [], (.asl 0 (.var 2)), [(some ⟨[], 4, false, true, (some ⟨(.var 2), [.bool], [(.avar 0)]⟩)⟩)]⟩
def etalonref08_CheckLabels_s : Sig := ⟨27, ⟨5, 0, 8⟩, ⟨2, 0, 0⟩, [(.agg [(.asl 0 (.var 0)), (.asl 1 (.var 1))]), (.agg [(.asl 2 (.var 2)), (.asl 3 (.var 3))]), (.asl 4 (.var 4))], [(some ⟨[], 9, true, false, (some ⟨(.var 0), [.str], [(.avar 0)]⟩)⟩), (some ⟨[], 91, true, false, (some ⟨(.var 1), [(.int .i64), .bool, (.int .i64), .bool], [(.avar 1), (.avar 2), (.avar 3), (.avar 4)]⟩)⟩), (some ⟨[], 4, true, false, (some ⟨(.var 2), [.bool], [(.avar 5)]⟩)⟩), (some ⟨[], 4, true, false, (some ⟨(.var 3), [.bool], [(.avar 6)]⟩)⟩), (some ⟨[], 3, true, false, (some ⟨(.var 4), [(.int .i64)], [(.avar 7)]⟩)⟩)], (.tuple [(.int .i64 (.var 5)), (.int .i64 (.var 6))]), []⟩

def rnm_t : Tr :=
  (.loop ⟨60, [0, 1, 0, 1, 1], [(.asl 0 (.var 0)), (.tuple []), (.int .i64 (.lit 0)), (.int .i64 (.lit 0)), (.int .i64 (.lit 1)), (.int .i64 (.lit 0)), (.tuple []), (.tuple []), (.tuple []), (.tuple []), (.tuple []), (.tuple []), (.tuple []), (.tuple []), (.tuple []), (.tuple []), (.tuple []), (.tuple []), (.tuple []), (.tuple []), (.tuple []), (.tuple [])], [(some ⟨[], 4, true, false, (some ⟨(.var 0), [.bool], [(.avar 0)]⟩)⟩)], [], [(.asl 0 (.var 0)), (.tuple []), (.int .i64 (.lit 0)), (.int .i64 (.var 1)), (.int .i64 (.var 2)), (.int .i64 (.var 3)), (.any 6), (.any 7), (.any 8), (.any 9), (.any 10), (.any 11), (.any 12), (.any 13), (.any 14), (.any 15), (.any 16), (.any 17), (.any 18), (.any 19), (.any 20), (.tuple [])], [(some ⟨[], 4, true, false, (some ⟨(.var 0), [.bool], [(.avar 0)]⟩)⟩)], [], ⟨3, 0, 0⟩, ⟨[(.lit 0), (.lit 1), (.lit 0)], [], []⟩, []⟩
  (.rng 1 0 255 (.rng 2 0 256 (.rng 3 0 8 (.ite (.icmp .leq (.var 0) (.var 3))
   (.out 0 ⟨[(.var 1)], [], []⟩ [])
   (.ite (.icmp .eql (.sel (.avar 0) (.var 3)) (.lit 0))
    (.next ⟨[(.var 1), (.bin .mulI (.lit 2) (.var 2)), (.bin .addI (.var 3) (.lit 1))], [], []⟩ [])
    (.next ⟨[(.bin .addI (.var 1) (.var 2)), (.bin .mulI (.lit 2) (.var 2)), (.bin .addI (.var 3) (.lit 1))], [], []⟩ []))))))
  (.ex ((.exit 0), [(.asl 0 (.var 0)), (.tuple []), (.int .i64 (.lit 0)), (.int .i64 (.var 1)), (.any 4), (.any 5), (.any 6), (.any 7), (.any 8), (.any 9), (.any 10), (.any 11), (.any 12), (.any 13), (.any 14), (.any 15), (.any 16), (.any 17), (.any 18), (.any 19), (.any 20), (.tuple [])], [(some ⟨[], 4, true, false, (some ⟨(.var 0), [.bool], [(.avar 0)]⟩)⟩)], []) ⟨1, 0, 0⟩
  (.rng 1 (-9223372036854775808) 9223372036854775807 (.ret ⟨[(.var 1)], [], []⟩ []))
  .nil))
theorem rnm {x0 : Int} {f0 : Int → Int} (r0 : 0 ≤ x0 ∧ x0 ≤ 8) {R : Int → Prop}
  (H : (∃ (I1 : Int → Int → Int → Prop) (rk1 : Int → Int → Int → Nat), I1 (0) (1) (0) ∧
   (∀ x1 : Int, ∀ x2 : Int, ∀ x3 : Int, I1 x1 x2 x3 → ((0 ≤ (x1 : Int) ∧ (x1 : Int) ≤ 255) ∧ ((0 ≤ (x2 : Int) ∧ (x2 : Int) ≤ 256) ∧ ((0 ≤ (x3 : Int) ∧ (x3 : Int) ≤ 8) ∧ ((decide ((x0 : Int) ≤ x3) = true → (((-9223372036854775808) ≤ ((x1) : Int) ∧ ((x1) : Int) ≤ 9223372036854775807) ∧ R ((x1)))) ∧
    (decide ((x0 : Int) ≤ x3) = false → (((((f0 x3) : Int) == 0) = true → (I1 (x1) ((2 * x2)) ((x3 + 1)) ∧ rk1 (x1) ((2 * x2)) ((x3 + 1)) < rk1 x1 x2 x3)) ∧
     ((((f0 x3) : Int) == 0) = false → (I1 ((x1 + x2)) ((2 * x2)) ((x3 + 1)) ∧ rk1 ((x1 + x2)) ((2 * x2)) ((x3 + 1)) < rk1 x1 x2 x3))))))))))) :
    ∃ v0 : Int, R v0 ∧ Spec Try.prog etalonref08_Number_s ⟨[x0], [], [f0]⟩ [v0] [] [] :=
  Eq.mp (by kernel_rfl) (exV_of (K := fun d => app3 etalonref08_Number_s.out R d ∧ Spec Try.prog etalonref08_Number_s ⟨[x0], [], [f0]⟩ d.1 d.2.1 d.2.2) (tree_at mixed names S1_ok (S := S1 Try.prog) (lf := 100000) (d := 60) etalonref08_Number_s rnm_t { ivs := [(0, 0, 8)], aivs := [] } ⟨[x0], [], [f0]⟩ rfl (by kernel_rfl) (by kernel_rfl) (by kernel_rfl) ⟨(fc r0 fz), fz, fz, fz⟩ (R := fun d => app3 etalonref08_Number_s.out R d) (Eq.mp (by kernel_rfl) H)))

def rst_t : Tr :=
  (.loop ⟨61, [0, 1, 0, 1, 1], [(.int .i64 (.var 0)), (.int .i64 (.var 1)), (.tuple []), (.tuple []), (.slice none 0 0), (.slice none 0 0), (.int .i64 (.lit 0)), (.tuple []), (.tuple []), (.tuple []), (.tuple []), (.tuple []), (.tuple []), (.tuple []), (.tuple []), (.tuple []), (.tuple []), (.tuple []), (.tuple []), (.tuple []), (.tuple [])], [], [(.gh 5 4 [.bool])], [(.int .i64 (.var 2)), (.int .i64 (.var 1)), (.tuple []), (.tuple []), (.slice none 0 0), (.asl 0 (.var 4)), (.int .i64 (.var 3)), (.any 7), (.any 8), (.any 9), (.any 10), (.any 11), (.any 12), (.any 13), (.any 14), (.any 15), (.any 16), (.any 17), (.any 18), (.any 19), (.tuple [])], [(some ⟨[], 4, false, true, (some ⟨(.var 4), [.bool], [(.avar 0)]⟩)⟩)], [], ⟨3, 0, 1⟩, ⟨[(.var 0), (.lit 0), (.lit 0)], [], [(.acst (.lit 0))]⟩, [0]⟩
  (.rng 2 0 255 (.rng 3 0 8 (.rng 4 0 8 (.ite (.icmp .leq (.var 1) (.var 3))
   (.out 0 ⟨[(.var 4)], [], [(.avar 0)]⟩ [0])
   (.ite (.icmp .eql (.bin .remK (.var 2) (.lit 2)) (.lit 1))
    (.next ⟨[(.bin .quoI (.var 2) (.lit 2)), (.bin .addI (.var 3) (.lit 1)), (.bin .addI (.var 4) (.lit 1))], [], [(.aupd (.avar 0) (.var 4) (.lit 1))]⟩ [2])
    (.next ⟨[(.bin .quoI (.var 2) (.lit 2)), (.bin .addI (.var 3) (.lit 1)), (.bin .addI (.var 4) (.lit 1))], [], [(.aupd (.avar 0) (.var 4) (.lit 0))]⟩ [2]))))))
  (.ex ((.exit 0), [(.any 0), (.int .i64 (.var 1)), (.tuple []), (.tuple []), (.slice none 0 0), (.asl 0 (.var 2)), (.any 6), (.any 7), (.any 8), (.any 9), (.any 10), (.any 11), (.any 12), (.any 13), (.any 14), (.any 15), (.any 16), (.any 17), (.any 18), (.any 19), (.tuple [])], [(some ⟨[], 4, false, true, (some ⟨(.var 2), [.bool], [(.avar 0)]⟩)⟩)], []) ⟨1, 0, 1⟩
  (.rng 2 0 140737488355328 (.ret ⟨[(.var 2)], [], [(.avar 0)]⟩ [0]))
  .nil))
theorem rst {x0 x1 : Int} (r0 : 0 ≤ x0 ∧ x0 ≤ 255) (r1 : 0 ≤ x1 ∧ x1 ≤ 8) {R : Int → (Int → Int) → Prop}
  (H : (∃ (I2 : Int → Int → Int → (Int → Int) → Prop) (rk2 : Int → Int → Int → (Int → Int) → Nat), I2 (x0) (0) (0) ((fun _ => 0)) ∧
   (∀ x2 : Int, ∀ x3 : Int, ∀ x4 : Int, ∀ f0 : Int → Int, I2 x2 x3 x4 f0 → ((0 ≤ (x2 : Int) ∧ (x2 : Int) ≤ 255) ∧ ((0 ≤ (x3 : Int) ∧ (x3 : Int) ≤ 8) ∧ ((0 ≤ (x4 : Int) ∧ (x4 : Int) ≤ 8) ∧ ((decide ((x1 : Int) ≤ x3) = true → ((0 ≤ ((x4) : Int) ∧ ((x4) : Int) ≤ 140737488355328) ∧ R ((x4)) (f0))) ∧
    (decide ((x1 : Int) ≤ x3) = false → ((((((x2 : Int).tmod 2) : Int) == 1) = true → (I2 (((x2 : Int).tdiv 2)) ((x3 + 1)) ((x4 + 1)) ((fun q => if q = x4 then 1 else f0 q)) ∧ rk2 (((x2 : Int).tdiv 2)) ((x3 + 1)) ((x4 + 1)) ((fun q => if q = x4 then 1 else f0 q)) < rk2 x2 x3 x4 f0)) ∧
     (((((x2 : Int).tmod 2) : Int) == 1) = false → (I2 (((x2 : Int).tdiv 2)) ((x3 + 1)) ((x4 + 1)) ((fun q => if q = x4 then 0 else f0 q)) ∧ rk2 (((x2 : Int).tdiv 2)) ((x3 + 1)) ((x4 + 1)) ((fun q => if q = x4 then 0 else f0 q)) < rk2 x2 x3 x4 f0))))))))))) :
    ∃ v0 : Int, ∃ g0 : Int → Int, R v0 g0 ∧ Spec Try.prog etalonref08_State_s ⟨[x0, x1], [], []⟩ [v0] [] [g0] :=
  Eq.mp (by kernel_rfl) (exV_of (K := fun d => app3 etalonref08_State_s.out R d ∧ Spec Try.prog etalonref08_State_s ⟨[x0, x1], [], []⟩ d.1 d.2.1 d.2.2) (tree_at mixed names S1_ok (S := S1 Try.prog) (lf := 100000) (d := 60) etalonref08_State_s rst_t { ivs := [(0, 0, 255), (1, 0, 8)], aivs := [] } ⟨[x0, x1], [], []⟩ rfl (by kernel_rfl) (by kernel_rfl) (by kernel_rfl) ⟨(fc r0 (fc r1 fz)), fz, fz, fz⟩ (R := fun d => app3 etalonref08_State_s.out R d) (Eq.mp (by kernel_rfl) H)))

def rclb_t : Tr :=
  (.loop ⟨27, [0, 1, 0, 1, 1], [(.agg [(.asl 0 (.var 0)), (.asl 1 (.var 1))]), (.agg [(.asl 2 (.var 2)), (.asl 3 (.var 3))]), (.asl 4 (.var 4)), (.ptr (some ⟨5, 0, none⟩)), (.ptr (some ⟨6, 0, none⟩)), (.tuple []), (.int .i64 (.lit 0)), (.int .i64 (.lit 0)), (.int .i64 (.lit 1)), (.int .i64 (.lit 0)), (.tuple []), (.tuple []), (.tuple []), (.tuple []), (.tuple []), (.tuple []), (.tuple []), (.tuple []), (.tuple []), (.tuple []), (.tuple []), (.tuple []), (.tuple []), (.tuple []), (.tuple []), (.tuple []), (.tuple []), (.tuple []), (.tuple []), (.tuple []), (.tuple []), (.tuple []), (.tuple []), (.tuple []), (.tuple []), (.tuple []), (.tuple []), (.tuple []), (.tuple []), (.tuple []), (.tuple []), (.tuple []), (.tuple []), (.tuple []), (.tuple []), (.tuple []), (.tuple []), (.tuple []), (.tuple []), (.tuple []), (.tuple []), (.tuple []), (.tuple []), (.tuple []), (.tuple []), (.tuple []), (.tuple []), (.tuple []), (.tuple []), (.tuple []), (.tuple []), (.tuple []), (.tuple []), (.tuple []), (.tuple []), (.tuple []), (.tuple []), (.tuple []), (.tuple []), (.tuple []), (.tuple []), (.tuple []), (.tuple []), (.tuple []), (.tuple []), (.tuple []), (.tuple []), (.tuple []), (.tuple []), (.tuple []), (.tuple []), (.tuple []), (.tuple []), (.tuple []), (.tuple []), (.tuple []), (.tuple []), (.tuple []), (.tuple []), (.tuple []), (.tuple []), (.tuple []), (.tuple []), (.tuple [])], [(some ⟨[], 9, true, false, (some ⟨(.var 0), [.str], [(.avar 0)]⟩)⟩), (some ⟨[], 91, true, false, (some ⟨(.var 1), [(.int .i64), .bool, (.int .i64), .bool], [(.avar 1), (.avar 2), (.avar 3), (.avar 4)]⟩)⟩), (some ⟨[], 4, true, false, (some ⟨(.var 2), [.bool], [(.avar 5)]⟩)⟩), (some ⟨[], 4, true, false, (some ⟨(.var 3), [.bool], [(.avar 6)]⟩)⟩), (some ⟨[], 3, true, false, (some ⟨(.var 4), [(.int .i64)], [(.avar 7)]⟩)⟩), (some ⟨[(.asl 0 (.var 0)), (.asl 1 (.var 1))], 25, false, false, none⟩), (some ⟨[(.asl 2 (.var 2)), (.asl 3 (.var 3))], 45, false, false, none⟩)], [], [(.agg [(.asl 0 (.var 0)), (.asl 1 (.var 1))]), (.agg [(.asl 2 (.var 2)), (.asl 3 (.var 3))]), (.asl 4 (.var 4)), (.ptr (some ⟨5, 0, none⟩)), (.ptr (some ⟨6, 0, none⟩)), (.tuple []), (.int .i64 (.lit 0)), (.int .i64 (.lit 0)), (.int .i64 (.var 5)), (.int .i64 (.var 6)), (.tuple []), (.tuple []), (.tuple []), (.tuple []), (.tuple []), (.any 15), (.any 16), (.any 17), (.any 18), (.any 19), (.any 20), (.any 21), (.any 22), (.any 23), (.tuple []), (.tuple []), (.tuple []), (.tuple []), (.tuple []), (.tuple []), (.tuple []), (.tuple []), (.tuple []), (.tuple []), (.tuple []), (.tuple []), (.tuple []), (.tuple []), (.tuple []), (.tuple []), (.tuple []), (.tuple []), (.tuple []), (.tuple []), (.tuple []), (.tuple []), (.tuple []), (.tuple []), (.tuple []), (.tuple []), (.tuple []), (.tuple []), (.tuple []), (.tuple []), (.tuple []), (.tuple []), (.tuple []), (.tuple []), (.tuple []), (.tuple []), (.tuple []), (.tuple []), (.tuple []), (.tuple []), (.tuple []), (.tuple []), (.tuple []), (.tuple []), (.tuple []), (.tuple []), (.tuple []), (.tuple []), (.tuple []), (.tuple []), (.tuple []), (.tuple []), (.tuple []), (.tuple []), (.tuple []), (.tuple []), (.tuple []), (.tuple []), (.tuple []), (.tuple []), (.tuple []), (.tuple []), (.tuple []), (.tuple []), (.tuple []), (.tuple []), (.tuple []), (.tuple []), (.tuple []), (.tuple [])], [(some ⟨[], 9, true, false, (some ⟨(.var 0), [.str], [(.avar 0)]⟩)⟩), (some ⟨[], 91, true, false, (some ⟨(.var 1), [(.int .i64), .bool, (.int .i64), .bool], [(.avar 1), (.avar 2), (.avar 3), (.avar 4)]⟩)⟩), (some ⟨[], 4, true, false, (some ⟨(.var 2), [.bool], [(.avar 5)]⟩)⟩), (some ⟨[], 4, true, false, (some ⟨(.var 3), [.bool], [(.avar 6)]⟩)⟩), (some ⟨[], 3, true, false, (some ⟨(.var 4), [(.int .i64)], [(.avar 7)]⟩)⟩), (some ⟨[(.asl 0 (.var 0)), (.asl 1 (.var 1))], 25, false, false, none⟩), (some ⟨[(.asl 2 (.var 2)), (.asl 3 (.var 3))], 45, false, false, none⟩)], [], ⟨2, 0, 0⟩, ⟨[(.lit 1), (.lit 0)], [], []⟩, []⟩
  (.rng 5 0 256 (.rng 6 0 8 (.ite (.icmp .leq (.var 0) (.var 6))
   (.out 0 ⟨[(.var 5)], [], []⟩ [])
   (.next ⟨[(.bin .mulI (.lit 2) (.var 5)), (.bin .addI (.var 6) (.lit 1))], [], []⟩ []))))
  (.ex ((.exit 0), [(.agg [(.asl 0 (.var 0)), (.asl 1 (.var 1))]), (.agg [(.asl 2 (.var 2)), (.asl 3 (.var 3))]), (.asl 4 (.var 4)), (.ptr (some ⟨5, 0, none⟩)), (.ptr (some ⟨6, 0, none⟩)), (.tuple []), (.int .i64 (.lit 0)), (.int .i64 (.lit 0)), (.int .i64 (.var 5)), (.any 9), (.tuple []), (.tuple []), (.tuple []), (.tuple []), (.tuple []), (.any 15), (.any 16), (.any 17), (.any 18), (.any 19), (.any 20), (.any 21), (.any 22), (.any 23), (.tuple []), (.tuple []), (.tuple []), (.tuple []), (.tuple []), (.tuple []), (.tuple []), (.tuple []), (.tuple []), (.tuple []), (.tuple []), (.tuple []), (.tuple []), (.tuple []), (.tuple []), (.tuple []), (.tuple []), (.tuple []), (.tuple []), (.tuple []), (.tuple []), (.tuple []), (.tuple []), (.tuple []), (.tuple []), (.tuple []), (.tuple []), (.tuple []), (.tuple []), (.tuple []), (.tuple []), (.tuple []), (.tuple []), (.tuple []), (.tuple []), (.tuple []), (.tuple []), (.tuple []), (.tuple []), (.tuple []), (.tuple []), (.tuple []), (.tuple []), (.tuple []), (.tuple []), (.tuple []), (.tuple []), (.tuple []), (.tuple []), (.tuple []), (.tuple []), (.tuple []), (.tuple []), (.tuple []), (.tuple []), (.tuple []), (.tuple []), (.tuple []), (.tuple []), (.tuple []), (.tuple []), (.tuple []), (.tuple []), (.tuple []), (.tuple []), (.tuple []), (.tuple []), (.tuple []), (.tuple []), (.tuple [])], [(some ⟨[], 9, true, false, (some ⟨(.var 0), [.str], [(.avar 0)]⟩)⟩), (some ⟨[], 91, true, false, (some ⟨(.var 1), [(.int .i64), .bool, (.int .i64), .bool], [(.avar 1), (.avar 2), (.avar 3), (.avar 4)]⟩)⟩), (some ⟨[], 4, true, false, (some ⟨(.var 2), [.bool], [(.avar 5)]⟩)⟩), (some ⟨[], 4, true, false, (some ⟨(.var 3), [.bool], [(.avar 6)]⟩)⟩), (some ⟨[], 3, true, false, (some ⟨(.var 4), [(.int .i64)], [(.avar 7)]⟩)⟩), (some ⟨[(.asl 0 (.var 0)), (.asl 1 (.var 1))], 25, false, false, none⟩), (some ⟨[(.asl 2 (.var 2)), (.asl 3 (.var 3))], 45, false, false, none⟩)], []) ⟨1, 0, 0⟩
  (.rng 5 (-9223372036854775808) 9223372036854775807 (.ite (.icmp .eql (.var 4) (.var 5))
   (.loop ⟨27, [0, 1, 0, 1, 1, 1, 1], [(.agg [(.asl 0 (.var 0)), (.asl 1 (.var 1))]), (.agg [(.asl 2 (.var 2)), (.asl 3 (.var 3))]), (.asl 4 (.var 4)), (.ptr (some ⟨5, 0, none⟩)), (.ptr (some ⟨6, 0, none⟩)), (.tuple []), (.int .i64 (.lit 0)), (.int .i64 (.lit 0)), (.int .i64 (.var 5)), (.any 9), (.int .i64 (.lit 0)), (.tuple []), (.tuple []), (.tuple []), (.tuple []), (.any 15), (.any 16), (.any 17), (.any 18), (.any 19), (.any 20), (.any 21), (.any 22), (.any 23), (.asl 4 (.var 4)), (.int .i64 (.var 4)), (.int .i64 (.var 5)), (.bool (.icmp .neq (.var 4) (.var 5))), (.tuple []), (.tuple []), (.tuple []), (.tuple []), (.tuple []), (.tuple []), (.tuple []), (.tuple []), (.tuple []), (.tuple []), (.tuple []), (.tuple []), (.tuple []), (.tuple []), (.tuple []), (.tuple []), (.tuple []), (.tuple []), (.tuple []), (.tuple []), (.tuple []), (.tuple []), (.tuple []), (.tuple []), (.tuple []), (.tuple []), (.tuple []), (.tuple []), (.tuple []), (.tuple []), (.tuple []), (.tuple []), (.tuple []), (.tuple []), (.tuple []), (.tuple []), (.tuple []), (.tuple []), (.tuple []), (.tuple []), (.tuple []), (.tuple []), (.tuple []), (.tuple []), (.tuple []), (.tuple []), (.tuple []), (.tuple []), (.tuple []), (.tuple []), (.tuple []), (.tuple []), (.tuple []), (.tuple []), (.tuple []), (.tuple []), (.tuple []), (.tuple []), (.tuple []), (.tuple []), (.tuple []), (.tuple []), (.tuple []), (.tuple []), (.tuple []), (.tuple [])], [(some ⟨[], 9, true, false, (some ⟨(.var 0), [.str], [(.avar 0)]⟩)⟩), (some ⟨[], 91, true, false, (some ⟨(.var 1), [(.int .i64), .bool, (.int .i64), .bool], [(.avar 1), (.avar 2), (.avar 3), (.avar 4)]⟩)⟩), (some ⟨[], 4, true, false, (some ⟨(.var 2), [.bool], [(.avar 5)]⟩)⟩), (some ⟨[], 4, true, false, (some ⟨(.var 3), [.bool], [(.avar 6)]⟩)⟩), (some ⟨[], 3, true, false, (some ⟨(.var 4), [(.int .i64)], [(.avar 7)]⟩)⟩), (some ⟨[(.asl 0 (.var 0)), (.asl 1 (.var 1))], 25, false, false, none⟩), (some ⟨[(.asl 2 (.var 2)), (.asl 3 (.var 3))], 45, false, false, none⟩)], [], [(.agg [(.asl 0 (.var 0)), (.asl 1 (.var 1))]), (.agg [(.asl 2 (.var 2)), (.asl 3 (.var 3))]), (.asl 4 (.var 4)), (.ptr (some ⟨5, 0, none⟩)), (.ptr (some ⟨6, 0, none⟩)), (.tuple []), (.int .i64 (.lit 0)), (.int .i64 (.lit 0)), (.int .i64 (.var 5)), (.any 9), (.int .i64 (.var 6)), (.tuple []), (.tuple []), (.tuple []), (.tuple []), (.any 15), (.any 16), (.any 17), (.any 18), (.any 19), (.any 20), (.any 21), (.any 22), (.any 23), (.asl 4 (.var 4)), (.int .i64 (.var 4)), (.int .i64 (.var 5)), (.bool (.icmp .neq (.var 4) (.var 5))), (.any 28), (.any 29), (.any 30), (.any 31), (.any 32), (.any 33), (.any 34), (.any 35), (.any 36), (.any 37), (.any 38), (.any 39), (.tuple []), (.tuple []), (.tuple []), (.tuple []), (.tuple []), (.tuple []), (.tuple []), (.tuple []), (.tuple []), (.tuple []), (.tuple []), (.tuple []), (.tuple []), (.tuple []), (.tuple []), (.tuple []), (.tuple []), (.tuple []), (.tuple []), (.tuple []), (.tuple []), (.tuple []), (.tuple []), (.tuple []), (.tuple []), (.tuple []), (.tuple []), (.tuple []), (.tuple []), (.tuple []), (.tuple []), (.tuple []), (.tuple []), (.tuple []), (.tuple []), (.tuple []), (.tuple []), (.tuple []), (.tuple []), (.tuple []), (.tuple []), (.tuple []), (.tuple []), (.tuple []), (.tuple []), (.tuple []), (.tuple []), (.tuple []), (.tuple []), (.tuple []), (.tuple []), (.tuple []), (.tuple []), (.tuple [])], [(some ⟨[], 9, true, false, (some ⟨(.var 0), [.str], [(.avar 0)]⟩)⟩), (some ⟨[], 91, true, false, (some ⟨(.var 1), [(.int .i64), .bool, (.int .i64), .bool], [(.avar 1), (.avar 2), (.avar 3), (.avar 4)]⟩)⟩), (some ⟨[], 4, true, false, (some ⟨(.var 2), [.bool], [(.avar 5)]⟩)⟩), (some ⟨[], 4, true, false, (some ⟨(.var 3), [.bool], [(.avar 6)]⟩)⟩), (some ⟨[], 3, true, false, (some ⟨(.var 4), [(.int .i64)], [(.avar 7)]⟩)⟩), (some ⟨[(.asl 0 (.var 0)), (.asl 1 (.var 1))], 25, false, false, none⟩), (some ⟨[(.asl 2 (.var 2)), (.asl 3 (.var 3))], 45, false, false, none⟩)], [], ⟨1, 0, 0⟩, ⟨[(.lit 0)], [], []⟩, []⟩
    (.rng 6 0 40 (.ite (.icmp .leq (.var 4) (.var 6))
     (.out 1 ⟨[], [], []⟩ [])
     (.ite (.icmp .leq (.lit 0) (.sel (.avar 7) (.var 6)))
      (.ite (.icmp .leq (.sel (.avar 7) (.var 6)) (.lit 1000))
       (.next ⟨[(.bin .addI (.var 6) (.lit 1))], [], []⟩ [])
       (.out 0 ⟨[], [], []⟩ []))
      (.out 0 ⟨[], [], []⟩ []))))
    (.ex (.ret, [(.agg [(.asl 0 (.var 0)), (.asl 1 (.var 1))]), (.agg [(.asl 2 (.var 2)), (.asl 3 (.var 3))]), (.asl 4 (.var 4)), (.ptr (some ⟨5, 0, none⟩)), (.ptr (some ⟨6, 0, none⟩)), (.tuple []), (.int .i64 (.lit 0)), (.int .i64 (.lit 2)), (.int .i64 (.var 5)), (.any 9), (.any 10), (.tuple []), (.tuple []), (.tuple []), (.tuple []), (.any 15), (.any 16), (.any 17), (.any 18), (.any 19), (.any 20), (.any 21), (.any 22), (.any 23), (.asl 4 (.var 4)), (.int .i64 (.var 4)), (.int .i64 (.var 5)), (.bool (.icmp .neq (.var 4) (.var 5))), (.any 28), (.any 29), (.any 30), (.any 31), (.any 32), (.any 33), (.any 34), (.any 35), (.any 36), (.any 37), (.any 38), (.any 39), (.tuple []), (.tuple []), (.tuple []), (.tuple []), (.tuple []), (.tuple []), (.tuple []), (.tuple []), (.tuple []), (.tuple []), (.tuple []), (.tuple []), (.tuple []), (.tuple []), (.tuple []), (.tuple []), (.tuple []), (.tuple []), (.tuple []), (.tuple []), (.tuple []), (.tuple []), (.tuple []), (.tuple []), (.tuple []), (.tuple []), (.tuple []), (.tuple []), (.tuple []), (.tuple []), (.tuple []), (.tuple []), (.tuple []), (.tuple []), (.tuple []), (.tuple []), (.tuple []), (.tuple []), (.tuple []), (.tuple []), (.tuple []), (.tuple []), (.tuple []), (.tuple []), (.tuple []), (.tuple []), (.tuple []), (.tuple []), (.tuple []), (.tuple []), (.tuple []), (.tuple []), (.tuple []), (.tuple [])], [(some ⟨[], 9, true, false, (some ⟨(.var 0), [.str], [(.avar 0)]⟩)⟩), (some ⟨[], 91, true, false, (some ⟨(.var 1), [(.int .i64), .bool, (.int .i64), .bool], [(.avar 1), (.avar 2), (.avar 3), (.avar 4)]⟩)⟩), (some ⟨[], 4, true, false, (some ⟨(.var 2), [.bool], [(.avar 5)]⟩)⟩), (some ⟨[], 4, true, false, (some ⟨(.var 3), [.bool], [(.avar 6)]⟩)⟩), (some ⟨[], 3, true, false, (some ⟨(.var 4), [(.int .i64)], [(.avar 7)]⟩)⟩), (some ⟨[(.asl 0 (.var 0)), (.asl 1 (.var 1))], 25, false, false, none⟩), (some ⟨[(.asl 2 (.var 2)), (.asl 3 (.var 3))], 45, false, false, none⟩)], []) ⟨0, 0, 0⟩
    (.ret ⟨[(.lit 0), (.lit 2)], [], []⟩ [])
    (.ex ((.exit 2), [(.agg [(.asl 0 (.var 0)), (.asl 1 (.var 1))]), (.agg [(.asl 2 (.var 2)), (.asl 3 (.var 3))]), (.asl 4 (.var 4)), (.ptr (some ⟨5, 0, none⟩)), (.ptr (some ⟨6, 0, none⟩)), (.tuple []), (.int .i64 (.lit 0)), (.int .i64 (.lit 0)), (.int .i64 (.var 5)), (.any 9), (.any 10), (.tuple []), (.tuple []), (.tuple []), (.tuple []), (.any 15), (.any 16), (.any 17), (.any 18), (.any 19), (.any 20), (.any 21), (.any 22), (.any 23), (.asl 4 (.var 4)), (.int .i64 (.var 4)), (.int .i64 (.var 5)), (.bool (.icmp .neq (.var 4) (.var 5))), (.any 28), (.any 29), (.any 30), (.any 31), (.any 32), (.any 33), (.any 34), (.any 35), (.any 36), (.any 37), (.any 38), (.any 39), (.tuple []), (.tuple []), (.tuple []), (.tuple []), (.tuple []), (.tuple []), (.tuple []), (.tuple []), (.tuple []), (.tuple []), (.tuple []), (.tuple []), (.tuple []), (.tuple []), (.tuple []), (.tuple []), (.tuple []), (.tuple []), (.tuple []), (.tuple []), (.tuple []), (.tuple []), (.tuple []), (.tuple []), (.tuple []), (.tuple []), (.tuple []), (.tuple []), (.tuple []), (.tuple []), (.tuple []), (.tuple []), (.tuple []), (.tuple []), (.tuple []), (.tuple []), (.tuple []), (.tuple []), (.tuple []), (.tuple []), (.tuple []), (.tuple []), (.tuple []), (.tuple []), (.tuple []), (.tuple []), (.tuple []), (.tuple []), (.tuple []), (.tuple []), (.tuple []), (.tuple []), (.tuple []), (.tuple [])], [(some ⟨[], 9, true, false, (some ⟨(.var 0), [.str], [(.avar 0)]⟩)⟩), (some ⟨[], 91, true, false, (some ⟨(.var 1), [(.int .i64), .bool, (.int .i64), .bool], [(.avar 1), (.avar 2), (.avar 3), (.avar 4)]⟩)⟩), (some ⟨[], 4, true, false, (some ⟨(.var 2), [.bool], [(.avar 5)]⟩)⟩), (some ⟨[], 4, true, false, (some ⟨(.var 3), [.bool], [(.avar 6)]⟩)⟩), (some ⟨[], 3, true, false, (some ⟨(.var 4), [(.int .i64)], [(.avar 7)]⟩)⟩), (some ⟨[(.asl 0 (.var 0)), (.asl 1 (.var 1))], 25, false, false, none⟩), (some ⟨[(.asl 2 (.var 2)), (.asl 3 (.var 3))], 45, false, false, none⟩)], []) ⟨0, 0, 0⟩
    (.call etalonref08_Number_s ⟨[(.var 2)], [], [(.avar 5)]⟩ ⟨[(.var 2), (.var 6)], [], [(.avar 5)]⟩ ⟨60, [(.asl 2 (.var 2))], [2], [none, none, (some ⟨[], 4, true, false, (some ⟨(.var 2), [.bool], [(.avar 5)]⟩)⟩), none, none, none, none], (.int .i64 (.var 6)), []⟩
     (.rng 6 0 255 (.ite (.icmp .leq (.var 4) (.var 6))
     .nil
     (.ite (.icmp .eql (.sel (.avar 7) (.var 6)) (.lit 0))
      (.loop ⟨27, [0, 1, 0, 1, 1, 1, 1, 1, 1], [(.agg [(.asl 0 (.var 0)), (.asl 1 (.var 1))]), (.agg [(.asl 2 (.var 2)), (.asl 3 (.var 3))]), (.asl 4 (.var 4)), (.ptr (some ⟨5, 0, none⟩)), (.ptr (some ⟨6, 0, none⟩)), (.tuple []), (.int .i64 (.lit 0)), (.int .i64 (.lit 0)), (.int .i64 (.var 5)), (.any 9), (.any 10), (.int .i64 (.lit 0)), (.tuple []), (.tuple []), (.tuple []), (.any 15), (.any 16), (.any 17), (.any 18), (.any 19), (.any 20), (.any 21), (.any 22), (.any 23), (.asl 4 (.var 4)), (.int .i64 (.var 4)), (.int .i64 (.var 5)), (.bool (.icmp .neq (.var 4) (.var 5))), (.any 28), (.any 29), (.any 30), (.any 31), (.any 32), (.any 33), (.any 34), (.any 35), (.any 36), (.any 37), (.any 38), (.any 39), (.asl 4 (.var 4)), (.ptr (some ⟨6, 0, none⟩)), (.asl 2 (.var 2)), (.int .i64 (.var 6)), (.eptr 4 (.var 6) 1 0), (.int .i64 (.sel (.avar 7) (.var 6))), (.bool (.icmp .neq (.sel (.avar 7) (.var 6)) (.lit 0))), (.tuple []), (.tuple []), (.tuple []), (.tuple []), (.tuple []), (.tuple []), (.tuple []), (.tuple []), (.tuple []), (.tuple []), (.tuple []), (.tuple []), (.tuple []), (.tuple []), (.tuple []), (.tuple []), (.tuple []), (.tuple []), (.tuple []), (.tuple []), (.tuple []), (.tuple []), (.tuple []), (.tuple []), (.tuple []), (.tuple []), (.tuple []), (.tuple []), (.tuple []), (.tuple []), (.tuple []), (.tuple []), (.tuple []), (.tuple []), (.tuple []), (.tuple []), (.tuple []), (.tuple []), (.tuple []), (.tuple []), (.tuple []), (.tuple []), (.tuple []), (.tuple []), (.tuple []), (.tuple []), (.tuple [])], [(some ⟨[], 9, true, false, (some ⟨(.var 0), [.str], [(.avar 0)]⟩)⟩), (some ⟨[], 91, true, false, (some ⟨(.var 1), [(.int .i64), .bool, (.int .i64), .bool], [(.avar 1), (.avar 2), (.avar 3), (.avar 4)]⟩)⟩), (some ⟨[], 4, true, false, (some ⟨(.var 2), [.bool], [(.avar 5)]⟩)⟩), (some ⟨[], 4, true, false, (some ⟨(.var 3), [.bool], [(.avar 6)]⟩)⟩), (some ⟨[], 3, true, false, (some ⟨(.var 4), [(.int .i64)], [(.avar 7)]⟩)⟩), (some ⟨[(.asl 0 (.var 0)), (.asl 1 (.var 1))], 25, false, false, none⟩), (some ⟨[(.asl 2 (.var 2)), (.asl 3 (.var 3))], 45, false, false, none⟩)], [], [(.agg [(.asl 0 (.var 0)), (.asl 1 (.var 1))]), (.agg [(.asl 2 (.var 2)), (.asl 3 (.var 3))]), (.asl 4 (.var 4)), (.ptr (some ⟨5, 0, none⟩)), (.ptr (some ⟨6, 0, none⟩)), (.tuple []), (.int .i64 (.lit 0)), (.int .i64 (.lit 0)), (.int .i64 (.var 5)), (.any 9), (.any 10), (.int .i64 (.var 7)), (.any 12), (.any 13), (.any 14), (.any 15), (.any 16), (.any 17), (.any 18), (.any 19), (.any 20), (.any 21), (.any 22), (.any 23), (.asl 4 (.var 4)), (.int .i64 (.var 4)), (.int .i64 (.var 5)), (.bool (.icmp .neq (.var 4) (.var 5))), (.any 28), (.any 29), (.any 30), (.any 31), (.any 32), (.any 33), (.any 34), (.any 35), (.any 36), (.any 37), (.any 38), (.any 39), (.asl 4 (.var 4)), (.ptr (some ⟨6, 0, none⟩)), (.asl 2 (.var 2)), (.int .i64 (.var 6)), (.eptr 4 (.var 6) 1 0), (.int .i64 (.sel (.avar 7) (.var 6))), (.bool (.icmp .neq (.sel (.avar 7) (.var 6)) (.lit 0))), (.any 47), (.any 48), (.any 49), (.any 50), (.any 51), (.any 52), (.any 53), (.any 54), (.any 55), (.any 56), (.any 57), (.any 58), (.any 59), (.any 60), (.any 61), (.any 62), (.any 63), (.any 64), (.any 65), (.any 66), (.any 67), (.any 68), (.any 69), (.any 70), (.any 71), (.any 72), (.any 73), (.any 74), (.any 75), (.any 76), (.any 77), (.any 78), (.any 79), (.any 80), (.any 81), (.any 82), (.any 83), (.any 84), (.any 85), (.any 86), (.any 87), (.tuple []), (.tuple []), (.tuple []), (.tuple []), (.tuple []), (.tuple [])], [(some ⟨[], 9, true, false, (some ⟨(.var 0), [.str], [(.avar 0)]⟩)⟩), (some ⟨[], 91, true, false, (some ⟨(.var 1), [(.int .i64), .bool, (.int .i64), .bool], [(.avar 1), (.avar 2), (.avar 3), (.avar 4)]⟩)⟩), (some ⟨[], 4, true, false, (some ⟨(.var 2), [.bool], [(.avar 5)]⟩)⟩), (some ⟨[], 4, true, false, (some ⟨(.var 3), [.bool], [(.avar 6)]⟩)⟩), (some ⟨[], 3, true, false, (some ⟨(.var 4), [(.int .i64)], [(.avar 7)]⟩)⟩), (some ⟨[(.asl 0 (.var 0)), (.asl 1 (.var 1))], 25, false, false, none⟩), (some ⟨[(.asl 2 (.var 2)), (.asl 3 (.var 3))], 45, false, false, none⟩)], [], ⟨1, 0, 0⟩, ⟨[(.lit 0)], [], []⟩, []⟩
       (.rng 7 0 40 (.ite (.icmp .leq (.var 5) (.var 7))
        (.out 1 ⟨[], [], []⟩ [])
        (.call etalonref08_State_s ⟨[(.var 7), (.var 0)], [], []⟩ ⟨[(.var 7), (.var 0), (.var 8)], [], [(.avar 8)]⟩ ⟨61, [(.int .i64 (.var 7)), (.int .i64 (.var 0))], [], [none, none, none, none, none, none, none], (.asl 7 (.var 8)), [(some ⟨[], 4, false, true, (some ⟨(.var 8), [.bool], [(.avar 8)]⟩)⟩)]⟩
         (.rng 8 0 140737488355328 (.call etalonref08_FirstBroken_s ⟨[(.var 0), (.var 1), (.var 8)], [], [(.avar 0), (.avar 1), (.avar 2), (.avar 3), (.avar 4), (.avar 8)]⟩ ⟨[(.var 0), (.var 1), (.var 8), (.var 9)], [], [(.avar 0), (.avar 1), (.avar 2), (.avar 3), (.avar 4), (.avar 8)]⟩ ⟨17, [(.agg [(.asl 0 (.var 0)), (.asl 1 (.var 1))]), (.asl 7 (.var 8))], [0, 1, 7], [(some ⟨[], 9, true, false, (some ⟨(.var 0), [.str], [(.avar 0)]⟩)⟩), (some ⟨[], 91, true, false, (some ⟨(.var 1), [(.int .i64), .bool, (.int .i64), .bool], [(.avar 1), (.avar 2), (.avar 3), (.avar 4)]⟩)⟩), none, none, none, none, none, (some ⟨[], 4, false, true, (some ⟨(.var 8), [.bool], [(.avar 8)]⟩)⟩)], (.int .i64 (.var 9)), []⟩
         (.ite (.icmp .leq (.lit 0) (.var 9))
         (.next ⟨[(.bin .addI (.var 7) (.lit 1))], [], []⟩ [])
         (.loop ⟨27, [0, 1, 1, 1, 0, 0, 1, 0, 0, 1, 0, 1, 1, 1, 1, 1, 1], [(.agg [(.asl 0 (.var 0)), (.asl 1 (.var 1))]), (.agg [(.asl 2 (.var 2)), (.asl 3 (.var 3))]), (.asl 4 (.var 4)), (.ptr (some ⟨5, 0, none⟩)), (.ptr (some ⟨6, 0, none⟩)), (.tuple []), (.int .i64 (.lit 0)), (.int .i64 (.lit 0)), (.int .i64 (.var 5)), (.any 9), (.any 10), (.int .i64 (.var 7)), (.asl 7 (.var 8)), (.int .i64 (.lit 0)), (.any 14), (.any 15), (.any 16), (.any 17), (.any 18), (.any 19), (.any 20), (.any 21), (.any 22), (.any 23), (.asl 4 (.var 4)), (.int .i64 (.var 4)), (.int .i64 (.var 5)), (.bool (.icmp .neq (.var 4) (.var 5))), (.any 28), (.any 29), (.any 30), (.any 31), (.any 32), (.any 33), (.any 34), (.any 35), (.any 36), (.any 37), (.any 38), (.any 39), (.asl 4 (.var 4)), (.ptr (some ⟨6, 0, none⟩)), (.asl 2 (.var 2)), (.int .i64 (.var 6)), (.eptr 4 (.var 6) 1 0), (.int .i64 (.sel (.avar 7) (.var 6))), (.bool (.icmp .neq (.sel (.avar 7) (.var 6)) (.lit 0))), (.int .i64 (.var 7)), (.int .i64 (.var 5)), (.bool (.icmp .lss (.var 7) (.var 5))), (.any 50), (.any 51), (.int .i64 (.var 7)), (.ptr (some ⟨5, 0, none⟩)), (.asl 0 (.var 0)), (.int .i64 (.var 0)), (.asl 7 (.var 8)), (.agg [(.asl 0 (.var 0)), (.asl 1 (.var 1))]), (.asl 7 (.var 8)), (.int .i64 (.var 9)), (.bool (.icmp .geq (.var 9) (.lit 0))), (.any 61), (.any 62), (.any 63), (.any 64), (.any 65), (.any 66), (.any 67), (.any 68), (.any 69), (.any 70), (.any 71), (.any 72), (.any 73), (.any 74), (.any 75), (.any 76), (.any 77), (.any 78), (.any 79), (.any 80), (.any 81), (.any 82), (.any 83), (.any 84), (.any 85), (.any 86), (.any 87), (.tuple []), (.tuple []), (.tuple []), (.tuple []), (.tuple []), (.tuple [])], [(some ⟨[], 9, true, false, (some ⟨(.var 0), [.str], [(.avar 0)]⟩)⟩), (some ⟨[], 91, true, false, (some ⟨(.var 1), [(.int .i64), .bool, (.int .i64), .bool], [(.avar 1), (.avar 2), (.avar 3), (.avar 4)]⟩)⟩), (some ⟨[], 4, true, false, (some ⟨(.var 2), [.bool], [(.avar 5)]⟩)⟩), (some ⟨[], 4, true, false, (some ⟨(.var 3), [.bool], [(.avar 6)]⟩)⟩), (some ⟨[], 3, true, false, (some ⟨(.var 4), [(.int .i64)], [(.avar 7)]⟩)⟩), (some ⟨[(.asl 0 (.var 0)), (.asl 1 (.var 1))], 25, false, false, none⟩), (some ⟨[(.asl 2 (.var 2)), (.asl 3 (.var 3))], 45, false, false, none⟩), (some ⟨[], 4, false, true, (some ⟨(.var 8), [.bool], [(.avar 8)]⟩)⟩)], [], [(.agg [(.asl 0 (.var 0)), (.asl 1 (.var 1))]), (.agg [(.asl 2 (.var 2)), (.asl 3 (.var 3))]), (.asl 4 (.var 4)), (.ptr (some ⟨5, 0, none⟩)), (.ptr (some ⟨6, 0, none⟩)), (.tuple []), (.int .i64 (.lit 0)), (.int .i64 (.lit 0)), (.int .i64 (.var 5)), (.any 9), (.any 10), (.int .i64 (.var 7)), (.asl 7 (.var 8)), (.int .i64 (.var 10)), (.any 14), (.any 15), (.any 16), (.any 17), (.any 18), (.any 19), (.any 20), (.any 21), (.any 22), (.any 23), (.asl 4 (.var 4)), (.int .i64 (.var 4)), (.int .i64 (.var 5)), (.bool (.icmp .neq (.var 4) (.var 5))), (.any 28), (.any 29), (.any 30), (.any 31), (.any 32), (.any 33), (.any 34), (.any 35), (.any 36), (.any 37), (.any 38), (.any 39), (.asl 4 (.var 4)), (.ptr (some ⟨6, 0, none⟩)), (.asl 2 (.var 2)), (.int .i64 (.var 6)), (.eptr 4 (.var 6) 1 0), (.int .i64 (.sel (.avar 7) (.var 6))), (.bool (.icmp .neq (.sel (.avar 7) (.var 6)) (.lit 0))), (.int .i64 (.var 7)), (.int .i64 (.var 5)), (.bool (.icmp .lss (.var 7) (.var 5))), (.any 50), (.any 51), (.int .i64 (.var 7)), (.ptr (some ⟨5, 0, none⟩)), (.asl 0 (.var 0)), (.int .i64 (.var 0)), (.asl 7 (.var 8)), (.agg [(.asl 0 (.var 0)), (.asl 1 (.var 1))]), (.asl 7 (.var 8)), (.int .i64 (.var 9)), (.bool (.icmp .geq (.var 9) (.lit 0))), (.any 61), (.any 62), (.any 63), (.any 64), (.any 65), (.any 66), (.any 67), (.any 68), (.any 69), (.any 70), (.any 71), (.any 72), (.any 73), (.any 74), (.any 75), (.any 76), (.any 77), (.any 78), (.any 79), (.any 80), (.any 81), (.any 82), (.any 83), (.any 84), (.any 85), (.any 86), (.any 87), (.tuple []), (.tuple []), (.tuple []), (.tuple []), (.tuple []), (.tuple [])], [(some ⟨[], 9, true, false, (some ⟨(.var 0), [.str], [(.avar 0)]⟩)⟩), (some ⟨[], 91, true, false, (some ⟨(.var 1), [(.int .i64), .bool, (.int .i64), .bool], [(.avar 1), (.avar 2), (.avar 3), (.avar 4)]⟩)⟩), (some ⟨[], 4, true, false, (some ⟨(.var 2), [.bool], [(.avar 5)]⟩)⟩), (some ⟨[], 4, true, false, (some ⟨(.var 3), [.bool], [(.avar 6)]⟩)⟩), (some ⟨[], 3, true, false, (some ⟨(.var 4), [(.int .i64)], [(.avar 7)]⟩)⟩), (some ⟨[(.asl 0 (.var 0)), (.asl 1 (.var 1))], 25, false, false, none⟩), (some ⟨[(.asl 2 (.var 2)), (.asl 3 (.var 3))], 45, false, false, none⟩), (some ⟨[], 4, false, true, (some ⟨(.var 8), [.bool], [(.avar 8)]⟩)⟩)], [], ⟨1, 0, 0⟩, ⟨[(.lit 0)], [], []⟩, []⟩
          (.rng 10 0 8 (.ite (.icmp .leq (.var 0) (.var 10))
           (.out 1 ⟨[], [], []⟩ [])
           (.call etalonref08_Switched_s ⟨[(.var 8), (.var 10)], [], [(.avar 8)]⟩ ⟨[(.var 8), (.var 10), (.var 11)], [], [(.avar 8), (.avar 9)]⟩ ⟨19, [(.asl 7 (.var 8)), (.int .i64 (.var 10))], [7], [none, none, none, none, none, none, none, (some ⟨[], 4, false, true, (some ⟨(.var 8), [.bool], [(.avar 8)]⟩)⟩)], (.asl 8 (.var 11)), [(some ⟨[], 4, false, true, (some ⟨(.var 11), [.bool], [(.avar 9)]⟩)⟩)]⟩
            (.rng 11 0 140737488355328 (.call etalonref08_FirstBroken_s ⟨[(.var 0), (.var 1), (.var 11)], [], [(.avar 0), (.avar 1), (.avar 2), (.avar 3), (.avar 4), (.avar 9)]⟩ ⟨[(.var 0), (.var 1), (.var 11), (.var 12)], [], [(.avar 0), (.avar 1), (.avar 2), (.avar 3), (.avar 4), (.avar 9)]⟩ ⟨17, [(.agg [(.asl 0 (.var 0)), (.asl 1 (.var 1))]), (.asl 8 (.var 11))], [0, 1, 8], [(some ⟨[], 9, true, false, (some ⟨(.var 0), [.str], [(.avar 0)]⟩)⟩), (some ⟨[], 91, true, false, (some ⟨(.var 1), [(.int .i64), .bool, (.int .i64), .bool], [(.avar 1), (.avar 2), (.avar 3), (.avar 4)]⟩)⟩), none, none, none, none, none, none, (some ⟨[], 4, false, true, (some ⟨(.var 11), [.bool], [(.avar 9)]⟩)⟩)], (.int .i64 (.var 12)), []⟩
            (.ite (.icmp .leq (.lit 0) (.var 12))
            (.next ⟨[(.bin .addI (.var 10) (.lit 1))], [], []⟩ [])
            (.call etalonref08_Number_s ⟨[(.var 11)], [], [(.avar 9)]⟩ ⟨[(.var 11), (.var 13)], [], [(.avar 9)]⟩ ⟨60, [(.asl 8 (.var 11))], [8], [none, none, none, none, none, none, none, none, (some ⟨[], 4, false, true, (some ⟨(.var 11), [.bool], [(.avar 9)]⟩)⟩)], (.int .i64 (.var 13)), []⟩
             (.rng 13 0 255 (.ite (.icmp .leq (.var 4) (.var 13))
             .nil
             (.ite (.icmp .leq (.var 4) (.var 7))
              .nil
              (.ite (.icmp .leq (.sel (.avar 7) (.var 13)) (.bin (.addW .i64) (.sel (.avar 7) (.var 7)) (.lit 1)))
               (.next ⟨[(.bin .addI (.var 10) (.lit 1))], [], []⟩ [])
               (.out 0 ⟨[], [], []⟩ []))))))))))))
          (.ex (.ret, [(.agg [(.asl 0 (.var 0)), (.asl 1 (.var 1))]), (.agg [(.asl 2 (.var 2)), (.asl 3 (.var 3))]), (.asl 4 (.var 4)), (.ptr (some ⟨5, 0, none⟩)), (.ptr (some ⟨6, 0, none⟩)), (.tuple []), (.int .i64 (.lit 0)), (.int .i64 (.lit 20)), (.int .i64 (.var 5)), (.any 9), (.any 10), (.int .i64 (.var 7)), (.asl 7 (.var 8)), (.any 13), (.any 14), (.any 15), (.any 16), (.any 17), (.any 18), (.any 19), (.any 20), (.any 21), (.any 22), (.any 23), (.asl 4 (.var 4)), (.int .i64 (.var 4)), (.int .i64 (.var 5)), (.bool (.icmp .neq (.var 4) (.var 5))), (.any 28), (.any 29), (.any 30), (.any 31), (.any 32), (.any 33), (.any 34), (.any 35), (.any 36), (.any 37), (.any 38), (.any 39), (.asl 4 (.var 4)), (.ptr (some ⟨6, 0, none⟩)), (.asl 2 (.var 2)), (.int .i64 (.var 6)), (.eptr 4 (.var 6) 1 0), (.int .i64 (.sel (.avar 7) (.var 6))), (.bool (.icmp .neq (.sel (.avar 7) (.var 6)) (.lit 0))), (.int .i64 (.var 7)), (.int .i64 (.var 5)), (.bool (.icmp .lss (.var 7) (.var 5))), (.any 50), (.any 51), (.int .i64 (.var 7)), (.ptr (some ⟨5, 0, none⟩)), (.asl 0 (.var 0)), (.int .i64 (.var 0)), (.asl 7 (.var 8)), (.agg [(.asl 0 (.var 0)), (.asl 1 (.var 1))]), (.asl 7 (.var 8)), (.int .i64 (.var 9)), (.bool (.icmp .geq (.var 9) (.lit 0))), (.any 61), (.any 62), (.any 63), (.any 64), (.any 65), (.any 66), (.any 67), (.any 68), (.any 69), (.any 70), (.any 71), (.any 72), (.any 73), (.any 74), (.any 75), (.any 76), (.any 77), (.any 78), (.any 79), (.any 80), (.any 81), (.any 82), (.any 83), (.any 84), (.any 85), (.any 86), (.any 87), (.tuple []), (.tuple []), (.tuple []), (.tuple []), (.tuple []), (.tuple [])], [(some ⟨[], 9, true, false, (some ⟨(.var 0), [.str], [(.avar 0)]⟩)⟩), (some ⟨[], 91, true, false, (some ⟨(.var 1), [(.int .i64), .bool, (.int .i64), .bool], [(.avar 1), (.avar 2), (.avar 3), (.avar 4)]⟩)⟩), (some ⟨[], 4, true, false, (some ⟨(.var 2), [.bool], [(.avar 5)]⟩)⟩), (some ⟨[], 4, true, false, (some ⟨(.var 3), [.bool], [(.avar 6)]⟩)⟩), (some ⟨[], 3, true, false, (some ⟨(.var 4), [(.int .i64)], [(.avar 7)]⟩)⟩), (some ⟨[(.asl 0 (.var 0)), (.asl 1 (.var 1))], 25, false, false, none⟩), (some ⟨[(.asl 2 (.var 2)), (.asl 3 (.var 3))], 45, false, false, none⟩), (some ⟨[], 4, false, true, (some ⟨(.var 8), [.bool], [(.avar 8)]⟩)⟩)], []) ⟨0, 0, 0⟩
          (.out 0 ⟨[], [], []⟩ [])
          (.ex ((.exit 6), [(.agg [(.asl 0 (.var 0)), (.asl 1 (.var 1))]), (.agg [(.asl 2 (.var 2)), (.asl 3 (.var 3))]), (.asl 4 (.var 4)), (.ptr (some ⟨5, 0, none⟩)), (.ptr (some ⟨6, 0, none⟩)), (.tuple []), (.int .i64 (.lit 0)), (.int .i64 (.lit 0)), (.int .i64 (.var 5)), (.any 9), (.any 10), (.int .i64 (.var 7)), (.asl 7 (.var 8)), (.any 13), (.any 14), (.any 15), (.any 16), (.any 17), (.any 18), (.any 19), (.any 20), (.any 21), (.any 22), (.any 23), (.asl 4 (.var 4)), (.int .i64 (.var 4)), (.int .i64 (.var 5)), (.bool (.icmp .neq (.var 4) (.var 5))), (.any 28), (.any 29), (.any 30), (.any 31), (.any 32), (.any 33), (.any 34), (.any 35), (.any 36), (.any 37), (.any 38), (.any 39), (.asl 4 (.var 4)), (.ptr (some ⟨6, 0, none⟩)), (.asl 2 (.var 2)), (.int .i64 (.var 6)), (.eptr 4 (.var 6) 1 0), (.int .i64 (.sel (.avar 7) (.var 6))), (.bool (.icmp .neq (.sel (.avar 7) (.var 6)) (.lit 0))), (.int .i64 (.var 7)), (.int .i64 (.var 5)), (.bool (.icmp .lss (.var 7) (.var 5))), (.any 50), (.any 51), (.int .i64 (.var 7)), (.ptr (some ⟨5, 0, none⟩)), (.asl 0 (.var 0)), (.int .i64 (.var 0)), (.asl 7 (.var 8)), (.agg [(.asl 0 (.var 0)), (.asl 1 (.var 1))]), (.asl 7 (.var 8)), (.int .i64 (.var 9)), (.bool (.icmp .geq (.var 9) (.lit 0))), (.any 61), (.any 62), (.any 63), (.any 64), (.any 65), (.any 66), (.any 67), (.any 68), (.any 69), (.any 70), (.any 71), (.any 72), (.any 73), (.any 74), (.any 75), (.any 76), (.any 77), (.any 78), (.any 79), (.any 80), (.any 81), (.any 82), (.any 83), (.any 84), (.any 85), (.any 86), (.any 87), (.tuple []), (.tuple []), (.tuple []), (.tuple []), (.tuple []), (.tuple [])], [(some ⟨[], 9, true, false, (some ⟨(.var 0), [.str], [(.avar 0)]⟩)⟩), (some ⟨[], 91, true, false, (some ⟨(.var 1), [(.int .i64), .bool, (.int .i64), .bool], [(.avar 1), (.avar 2), (.avar 3), (.avar 4)]⟩)⟩), (some ⟨[], 4, true, false, (some ⟨(.var 2), [.bool], [(.avar 5)]⟩)⟩), (some ⟨[], 4, true, false, (some ⟨(.var 3), [.bool], [(.avar 6)]⟩)⟩), (some ⟨[], 3, true, false, (some ⟨(.var 4), [(.int .i64)], [(.avar 7)]⟩)⟩), (some ⟨[(.asl 0 (.var 0)), (.asl 1 (.var 1))], 25, false, false, none⟩), (some ⟨[(.asl 2 (.var 2)), (.asl 3 (.var 3))], 45, false, false, none⟩), (some ⟨[], 4, false, true, (some ⟨(.var 8), [.bool], [(.avar 8)]⟩)⟩)], []) ⟨0, 0, 0⟩
          (.next ⟨[(.bin .addI (.var 7) (.lit 1))], [], []⟩ [])
          .nil)))))))))
       (.ex (.ret, [(.agg [(.asl 0 (.var 0)), (.asl 1 (.var 1))]), (.agg [(.asl 2 (.var 2)), (.asl 3 (.var 3))]), (.asl 4 (.var 4)), (.ptr (some ⟨5, 0, none⟩)), (.ptr (some ⟨6, 0, none⟩)), (.tuple []), (.int .i64 (.lit 0)), (.int .i64 (.lit 20)), (.int .i64 (.var 5)), (.any 9), (.any 10), (.any 11), (.any 12), (.any 13), (.any 14), (.any 15), (.any 16), (.any 17), (.any 18), (.any 19), (.any 20), (.any 21), (.any 22), (.any 23), (.asl 4 (.var 4)), (.int .i64 (.var 4)), (.int .i64 (.var 5)), (.bool (.icmp .neq (.var 4) (.var 5))), (.any 28), (.any 29), (.any 30), (.any 31), (.any 32), (.any 33), (.any 34), (.any 35), (.any 36), (.any 37), (.any 38), (.any 39), (.asl 4 (.var 4)), (.ptr (some ⟨6, 0, none⟩)), (.asl 2 (.var 2)), (.int .i64 (.var 6)), (.eptr 4 (.var 6) 1 0), (.int .i64 (.sel (.avar 7) (.var 6))), (.bool (.icmp .neq (.sel (.avar 7) (.var 6)) (.lit 0))), (.any 47), (.any 48), (.any 49), (.any 50), (.any 51), (.any 52), (.any 53), (.any 54), (.any 55), (.any 56), (.any 57), (.any 58), (.any 59), (.any 60), (.any 61), (.any 62), (.any 63), (.any 64), (.any 65), (.any 66), (.any 67), (.any 68), (.any 69), (.any 70), (.any 71), (.any 72), (.any 73), (.any 74), (.any 75), (.any 76), (.any 77), (.any 78), (.any 79), (.any 80), (.any 81), (.any 82), (.any 83), (.any 84), (.any 85), (.any 86), (.any 87), (.tuple []), (.tuple []), (.tuple []), (.tuple []), (.tuple []), (.tuple [])], [(some ⟨[], 9, true, false, (some ⟨(.var 0), [.str], [(.avar 0)]⟩)⟩), (some ⟨[], 91, true, false, (some ⟨(.var 1), [(.int .i64), .bool, (.int .i64), .bool], [(.avar 1), (.avar 2), (.avar 3), (.avar 4)]⟩)⟩), (some ⟨[], 4, true, false, (some ⟨(.var 2), [.bool], [(.avar 5)]⟩)⟩), (some ⟨[], 4, true, false, (some ⟨(.var 3), [.bool], [(.avar 6)]⟩)⟩), (some ⟨[], 3, true, false, (some ⟨(.var 4), [(.int .i64)], [(.avar 7)]⟩)⟩), (some ⟨[(.asl 0 (.var 0)), (.asl 1 (.var 1))], 25, false, false, none⟩), (some ⟨[(.asl 2 (.var 2)), (.asl 3 (.var 3))], 45, false, false, none⟩)], []) ⟨0, 0, 0⟩
       (.ret ⟨[(.lit 0), (.lit 20)], [], []⟩ [])
       (.ex ((.exit 4), [(.agg [(.asl 0 (.var 0)), (.asl 1 (.var 1))]), (.agg [(.asl 2 (.var 2)), (.asl 3 (.var 3))]), (.asl 4 (.var 4)), (.ptr (some ⟨5, 0, none⟩)), (.ptr (some ⟨6, 0, none⟩)), (.tuple []), (.int .i64 (.lit 0)), (.int .i64 (.lit 0)), (.int .i64 (.var 5)), (.any 9), (.any 10), (.any 11), (.any 12), (.any 13), (.any 14), (.any 15), (.any 16), (.any 17), (.any 18), (.any 19), (.any 20), (.any 21), (.any 22), (.any 23), (.asl 4 (.var 4)), (.int .i64 (.var 4)), (.int .i64 (.var 5)), (.bool (.icmp .neq (.var 4) (.var 5))), (.any 28), (.any 29), (.any 30), (.any 31), (.any 32), (.any 33), (.any 34), (.any 35), (.any 36), (.any 37), (.any 38), (.any 39), (.asl 4 (.var 4)), (.ptr (some ⟨6, 0, none⟩)), (.asl 2 (.var 2)), (.int .i64 (.var 6)), (.eptr 4 (.var 6) 1 0), (.int .i64 (.sel (.avar 7) (.var 6))), (.bool (.icmp .neq (.sel (.avar 7) (.var 6)) (.lit 0))), (.any 47), (.any 48), (.any 49), (.any 50), (.any 51), (.any 52), (.any 53), (.any 54), (.any 55), (.any 56), (.any 57), (.any 58), (.any 59), (.any 60), (.any 61), (.any 62), (.any 63), (.any 64), (.any 65), (.any 66), (.any 67), (.any 68), (.any 69), (.any 70), (.any 71), (.any 72), (.any 73), (.any 74), (.any 75), (.any 76), (.any 77), (.any 78), (.any 79), (.any 80), (.any 81), (.any 82), (.any 83), (.any 84), (.any 85), (.any 86), (.any 87), (.tuple []), (.tuple []), (.tuple []), (.tuple []), (.tuple []), (.tuple [])], [(some ⟨[], 9, true, false, (some ⟨(.var 0), [.str], [(.avar 0)]⟩)⟩), (some ⟨[], 91, true, false, (some ⟨(.var 1), [(.int .i64), .bool, (.int .i64), .bool], [(.avar 1), (.avar 2), (.avar 3), (.avar 4)]⟩)⟩), (some ⟨[], 4, true, false, (some ⟨(.var 2), [.bool], [(.avar 5)]⟩)⟩), (some ⟨[], 4, true, false, (some ⟨(.var 3), [.bool], [(.avar 6)]⟩)⟩), (some ⟨[], 3, true, false, (some ⟨(.var 4), [(.int .i64)], [(.avar 7)]⟩)⟩), (some ⟨[(.asl 0 (.var 0)), (.asl 1 (.var 1))], 25, false, false, none⟩), (some ⟨[(.asl 2 (.var 2)), (.asl 3 (.var 3))], 45, false, false, none⟩)], []) ⟨0, 0, 0⟩
       (.call etalonref08_Number_s ⟨[(.var 3)], [], [(.avar 6)]⟩ ⟨[(.var 3), (.var 7)], [], [(.avar 6)]⟩ ⟨60, [(.asl 3 (.var 3))], [3], [none, none, none, (some ⟨[], 4, true, false, (some ⟨(.var 3), [.bool], [(.avar 6)]⟩)⟩), none, none, none], (.int .i64 (.var 7)), []⟩
        (.rng 7 0 255 (.ite (.icmp .leq (.var 4) (.var 7))
        .nil
        (.ret ⟨[(.sel (.avar 7) (.var 7)), (.lit 0)], [], []⟩ []))))
       .nil)))
      (.ret ⟨[(.lit 0), (.lit 20)], [], []⟩ [])))))
    .nil)))
   (.ret ⟨[(.lit 0), (.lit 12)], [], []⟩ [])))
  .nil))
theorem rclb {x0 x1 x2 x3 x4 : Int} {f0 f1 f2 f3 f4 f5 f6 f7 : Int → Int} (r0 : 0 ≤ x0 ∧ x0 ≤ 8) (r1 : 0 ≤ x1 ∧ x1 ≤ 30) (r2 : 0 ≤ x2 ∧ x2 ≤ 8) (r3 : 0 ≤ x3 ∧ x3 ≤ 8) (r4 : 0 ≤ x4 ∧ x4 ≤ 40) (s1 : ∀ q, (-9223372036854775808) ≤ f1 q ∧ f1 q ≤ 9223372036854775807) (s3 : ∀ q, (-9223372036854775808) ≤ f3 q ∧ f3 q ≤ 9223372036854775807) (s7 : ∀ q, (-9223372036854775808) ≤ f7 q ∧ f7 q ≤ 9223372036854775807) {R : Int → Int → Prop}
  (H : (∃ (I5 : Int → Int → Prop) (rk5 : Int → Int → Nat), I5 (1) (0) ∧
   (∀ x5 : Int, ∀ x6 : Int, I5 x5 x6 → ((0 ≤ (x5 : Int) ∧ (x5 : Int) ≤ 256) ∧ ((0 ≤ (x6 : Int) ∧ (x6 : Int) ≤ 8) ∧ ((decide ((x0 : Int) ≤ x6) = true → (((-9223372036854775808) ≤ ((x5) : Int) ∧ ((x5) : Int) ≤ 9223372036854775807) ∧ ((((x4 : Int) == (x5)) = true → (∃ (I6' : Int → Prop) (rk6' : Int → Nat), I6' (0) ∧
     (∀ x6' : Int, I6' x6' → ((0 ≤ (x6' : Int) ∧ (x6' : Int) ≤ 40) ∧ ((decide ((x4 : Int) ≤ x6') = true → (∃ v6'' : Int, Spec Try.prog etalonref08_Number_s ⟨[x2], [], [f5]⟩ [v6''] [] [] ∧
      ((0 ≤ (v6'' : Int) ∧ (v6'' : Int) ≤ 255) ∧ ((decide ((x4 : Int) ≤ v6'') = true → False) ∧
      (decide ((x4 : Int) ≤ v6'') = false → (((((f7 v6'') : Int) == 0) = true → (∃ (I7'' : Int → Prop) (rk7'' : Int → Nat), I7'' (0) ∧
        (∀ x7'' : Int, I7'' x7'' → ((0 ≤ (x7'' : Int) ∧ (x7'' : Int) ≤ 40) ∧ ((decide (((x5) : Int) ≤ x7'') = true → (∃ v7''' : Int, Spec Try.prog etalonref08_Number_s ⟨[x3], [], [f6]⟩ [v7'''] [] [] ∧
         ((0 ≤ (v7''' : Int) ∧ (v7''' : Int) ≤ 255) ∧ ((decide ((x4 : Int) ≤ v7''') = true → False) ∧
         (decide ((x4 : Int) ≤ v7''') = false → R ((f7 v7''')) (0)))))) ∧
         (decide (((x5) : Int) ≤ x7'') = false → (∃ v8'' : Int, ∃ g8'' : Int → Int, Spec Try.prog etalonref08_State_s ⟨[x7'', x0], [], []⟩ [v8''] [] [g8''] ∧
          ((0 ≤ (v8'' : Int) ∧ (v8'' : Int) ≤ 140737488355328) ∧ (∃ v9'' : Int, Spec Try.prog etalonref08_FirstBroken_s ⟨[x0, x1, v8''], [], [f0, f1, f2, f3, f4, g8'']⟩ [v9''] [] [] ∧
          ((decide ((0 : Int) ≤ v9'') = true → (I7'' ((x7'' + 1)) ∧ rk7'' ((x7'' + 1)) < rk7'' x7'')) ∧
          (decide ((0 : Int) ≤ v9'') = false → (∃ (I10'' : Int → Prop) (rk10'' : Int → Nat), I10'' (0) ∧
           (∀ x10'' : Int, I10'' x10'' → ((0 ≤ (x10'' : Int) ∧ (x10'' : Int) ≤ 8) ∧ ((decide ((x0 : Int) ≤ x10'') = true → (I7'' ((x7'' + 1)) ∧ rk7'' ((x7'' + 1)) < rk7'' x7'')) ∧
            (decide ((x0 : Int) ≤ x10'') = false → (∃ v11'' : Int, ∃ g9'' : Int → Int, Spec Try.prog etalonref08_Switched_s ⟨[v8'', x10''], [], [g8'']⟩ [v11''] [] [g9''] ∧
             ((0 ≤ (v11'' : Int) ∧ (v11'' : Int) ≤ 140737488355328) ∧ (∃ v12'' : Int, Spec Try.prog etalonref08_FirstBroken_s ⟨[x0, x1, v11''], [], [f0, f1, f2, f3, f4, g9'']⟩ [v12''] [] [] ∧
             ((decide ((0 : Int) ≤ v12'') = true → (I10'' ((x10'' + 1)) ∧ rk10'' ((x10'' + 1)) < rk10'' x10'')) ∧
             (decide ((0 : Int) ≤ v12'') = false → (∃ v13'' : Int, Spec Try.prog etalonref08_Number_s ⟨[v11''], [], [g9'']⟩ [v13''] [] [] ∧
              ((0 ≤ (v13'' : Int) ∧ (v13'' : Int) ≤ 255) ∧ ((decide ((x4 : Int) ≤ v13'') = true → False) ∧
              (decide ((x4 : Int) ≤ v13'') = false → ((decide ((x4 : Int) ≤ x7'') = true → False) ∧
               (decide ((x4 : Int) ≤ x7'') = false → ((decide (((f7 v13'') : Int) ≤ IntKind.i64.wrap ((f7 x7'') + 1)) = true → (I10'' ((x10'' + 1)) ∧ rk10'' ((x10'' + 1)) < rk10'' x10'')) ∧
                (decide (((f7 v13'') : Int) ≤ IntKind.i64.wrap ((f7 x7'') + 1)) = false → R (0) (20)))))))))))))))))))))))))))))) ∧
       ((((f7 v6'') : Int) == 0) = false → R (0) (20)))))))) ∧
      (decide ((x4 : Int) ≤ x6') = false → ((decide ((0 : Int) ≤ (f7 x6')) = true → ((decide (((f7 x6') : Int) ≤ 1000) = true → (I6' ((x6' + 1)) ∧ rk6' ((x6' + 1)) < rk6' x6')) ∧
        (decide (((f7 x6') : Int) ≤ 1000) = false → R (0) (2)))) ∧
       (decide ((0 : Int) ≤ (f7 x6')) = false → R (0) (2))))))))) ∧
    (((x4 : Int) == (x5)) = false → R (0) (12))))) ∧
    (decide ((x0 : Int) ≤ x6) = false → (I5 ((2 * x5)) ((x6 + 1)) ∧ rk5 ((2 * x5)) ((x6 + 1)) < rk5 x5 x6)))))))) :
    ∃ v0 : Int, ∃ v1 : Int, R v0 v1 ∧ Spec Try.prog etalonref08_CheckLabels_s ⟨[x0, x1, x2, x3, x4], [], [f0, f1, f2, f3, f4, f5, f6, f7]⟩ [v0, v1] [] [] :=
  Eq.mp (by kernel_rfl) (exV_of (K := fun d => app3 etalonref08_CheckLabels_s.out R d ∧ Spec Try.prog etalonref08_CheckLabels_s ⟨[x0, x1, x2, x3, x4], [], [f0, f1, f2, f3, f4, f5, f6, f7]⟩ d.1 d.2.1 d.2.2) (tree_at mixed names S1_ok (S := S1 Try.prog) (lf := 100000) (d := 60) etalonref08_CheckLabels_s rclb_t { ivs := [(0, 0, 8), (1, 0, 30), (2, 0, 8), (3, 0, 8), (4, 0, 40)], aivs := [(1, (-9223372036854775808), 9223372036854775807), (3, (-9223372036854775808), 9223372036854775807), (7, (-9223372036854775808), 9223372036854775807)] } ⟨[x0, x1, x2, x3, x4], [], [f0, f1, f2, f3, f4, f5, f6, f7]⟩ rfl (by kernel_rfl) (by kernel_rfl) (by kernel_rfl) ⟨(fc r0 (fc r1 (fc r2 (fc r3 (fc r4 fz))))), fz, (fc s1 (fc s3 (fc s7 fz))), fz⟩ (R := fun d => app3 etalonref08_CheckLabels_s.out R d) (Eq.mp (by kernel_rfl) H)))

theorem setBit_all : ∀ i < 8, ∀ v < 2 ^ i, setBit ((v : Nat) : Int) ((i : Nat) : Int) = v + 2 ^ i := by decide +kernel

theorem bitDiv_all : ∀ v < 256, ∀ i < 8, bitOf ((v : Nat) : Int) ((i : Nat) : Int) = ((v / 2 ^ i % 2 : Nat) : Int) := by decide +kernel

theorem pow_next {i : Int} (h : 0 ≤ i) : (2 : Int) ^ (i + 1).toNat = 2 * 2 ^ i.toNat := by

  have e : (i + 1).toNat = i.toNat + 1 := by omega

  rw [e, Int.pow_succ, Int.mul_comm]

theorem setBit_add {f : Int → Int} {i v : Int} (h0 : 0 ≤ i) (h1 : i < 8) (h : stN f i v) : setBit v i = v + 2 ^ i.toNat := by

  obtain ⟨n, rfl⟩ := Int.eq_ofNat_of_zero_le h0

  obtain ⟨m, rfl⟩ := Int.eq_ofNat_of_zero_le h.1.1

  have vn : m < 2 ^ n := by

    have : ((m : Nat) : Int) < ((2 ^ n : Nat) : Int) := by rw [Int.natCast_pow]; exact h.1.2

    exact Int.ofNat_lt.1 this

  exact setBit_all n (by omega) m vn

theorem number_r {x0 : Int} {f : Int → Int} (r0 : 0 ≤ x0 ∧ x0 ≤ 8) : ∃ v, numIs x0 f v ∧ Spec Try.prog etalonref08_Number_s ⟨[x0], [], [f]⟩ [v] [] [] := by

  refine rnm r0 (R := numIs x0 f) ⟨fun v b i => ((0 ≤ i ∧ i ≤ x0) ∧ b = 2 ^ i.toNat) ∧ stN f i v, fun v b i => (x0 - i).toNat, ⟨⟨⟨by omega, by omega⟩, rfl⟩, stN_zero f⟩, ?_⟩

  rintro v b i ⟨⟨hi, hb⟩, hs⟩

  have p := pow_le8 (i := i) hi.1 (by omega)

  have p0 : (0 : Int) < 2 ^ i.toNat := Int.pow_pos (by decide)

  have hs1 := hs.1

  simp only [decide_eq_true_eq, decide_eq_false_iff_not, beq_iff_eq, beq_eq_false_iff_ne, ne_eq]

  refine ⟨by omega, by omega, ⟨hi.1, by omega⟩, fun h => ⟨by omega, ?_⟩, fun h => ?_⟩

  · have : i = x0 := by omega

    subst this

    exact hs.num r0.1 r0.2

  · have pn := pow_next hi.1

    refine ⟨fun f0 => ⟨⟨⟨⟨by omega, by omega⟩, by omega⟩, stN_skip hi.1 hs f0⟩, ?_⟩, fun f0 => ⟨⟨⟨⟨by omega, by omega⟩, by omega⟩, ?_⟩, ?_⟩⟩

    · show (x0 - (i + 1)).toNat < (x0 - i).toNat; omega

    · rw [hb, ← setBit_add hi.1 (by omega) hs]; exact stN_set hi.1 (by omega) hs f0

    · show (x0 - (i + 1)).toNat < (x0 - i).toNat; omega

theorem state_r {x0 n : Int} (r0 : 0 ≤ x0 ∧ x0 ≤ 8) (hn : 0 ≤ n ∧ n ≤ 255) : ∃ g : Int → Int, (∀ d, 0 ≤ d → d < x0 → g d = bitOf n d) ∧ Spec Try.prog etalonref08_State_s ⟨[n, x0], [], []⟩ [x0] [] [g] := by

  suffices hh : ∃ a g, (a = x0 ∧ ∀ d, 0 ≤ d → d < x0 → g d = bitOf n d) ∧ Spec Try.prog etalonref08_State_s ⟨[n, x0], [], []⟩ [a] [] [g] by

    obtain ⟨a, g, ⟨rfl, hg⟩, hs⟩ := hh

    exact ⟨g, hg, hs⟩

  obtain ⟨m, rfl⟩ := Int.eq_ofNat_of_zero_le hn.1

  refine rst hn r0 ⟨fun v i l g => (0 ≤ i ∧ i ≤ x0) ∧ l = i ∧ v = ((m / 2 ^ i.toNat : Nat) : Int) ∧ ∀ d, 0 ≤ d → d < i → g d = bitOf ((m : Nat) : Int) d, fun v i _ _ => (x0 - i).toNat, ⟨⟨by omega, by omega⟩, rfl, by simp, fun d a b => by omega⟩, ?_⟩

  rintro v i l g ⟨hi, hl, hv, hg⟩

  subst hl

  have vb : 0 ≤ v ∧ v ≤ 255 := by

    subst hv

    have := Nat.div_le_self m (2 ^ l.toNat)

    generalize m / 2 ^ l.toNat = z at *

    omega

  refine ⟨vb, ⟨hi.1, by omega⟩, ⟨hi.1, by omega⟩, fun h => ⟨⟨hi.1, by omega⟩, ?_⟩, fun h => ?_⟩

  · have h := of_decide_eq_true h

    exact ⟨by omega, fun d a b => hg d a (by omega)⟩

  have h := of_decide_eq_false h

  have td : v.tdiv 2 = ((m / 2 ^ (l + 1).toNat : Nat) : Int) := by

    have e : (l + 1).toNat = l.toNat + 1 := by omega

    rw [e, Nat.pow_succ, ← Nat.div_div_eq_div_mul, hv]

    rw [Int.tdiv_eq_ediv_of_nonneg (by omega)]

    rfl

  have tm : v.tmod 2 = bitOf ((m : Nat) : Int) l := by

    have b := bitDiv_all m (by omega) l.toNat (by omega)

    have el : ((l.toNat : Nat) : Int) = l := by omega

    rw [el] at b

    rw [b, hv, Int.tmod_eq_emod_of_nonneg (by omega)]

    rfl

  have two := bit_two (v := ((m : Nat) : Int)) (d := l) hn ⟨hi.1, by omega⟩

  rw [td, tm]

  have key : ∀ x : Int, bitOf ((m : Nat) : Int) l = x → (((0 ≤ l + 1 ∧ l + 1 ≤ x0) ∧ l + 1 = l + 1 ∧ ((m / 2 ^ (l + 1).toNat : Nat) : Int) = ((m / 2 ^ (l + 1).toNat : Nat) : Int) ∧ ∀ d, 0 ≤ d → d < l + 1 → (fun q => if q = l then x else g q) d = bitOf ((m : Nat) : Int) d) ∧ (x0 - (l + 1)).toNat < (x0 - l).toNat) := fun x hx => ⟨⟨⟨by omega, by omega⟩, rfl, rfl, fun d a b => by

    dsimp only

    by_cases e : d = l

    · rw [if_pos e, e]; exact hx.symm

    · rw [if_neg e]; exact hg d a (by omega)⟩, by omega⟩

  exact ⟨fun a => key 1 (eq_of_beq a), fun a => key 0 (two.resolve_right (by simpa using a))⟩

theorem fb_safe {x1 k : Int} {f1 f2 f3 f4 f : Int → Int} (h : fbIs x1 f1 f2 f3 f4 f k 0 ∨ (k = -1 ∧ fbIs x1 f1 f2 f3 f4 f 0 17)) : (0 ≤ k ∧ ¬ safe x1 f1 f2 f3 f4 f) ∨ (¬ 0 ≤ k ∧ safe x1 f1 f2 f3 f4 f) := by

  rcases h with h | ⟨h1, h⟩

  · rcases h with ⟨_, a, _, b⟩ | ⟨a, _⟩

    · exact .inl ⟨a.1, fun s => s k a.1 a.2 b⟩

    · omega

  · rcases h with ⟨a, _⟩ | ⟨_, _, b⟩

    · omega

    · exact .inr ⟨by omega, b⟩

theorem labels_r {x0 x1 x4 : Int} {f0 f1 f2 f3 f4 f5 f6 f7 : Int → Int} (r0 : 0 ≤ x0) (r1 : 0 ≤ x1) (r4 : 0 ≤ x4 ∧ x4 ≤ 40) (s1 : ∀ q, I64 (f1 q)) (s3 : ∀ q, I64 (f3 q)) (s7 : ∀ q, I64 (f7 q)) (dv : devsOk x0 f0) (rl : rulesOk x0 x1 f1 f3) :

    ∃ n e, labIs x0 x1 x4 f1 f2 f3 f4 f5 f6 f7 n e ∧ Spec Try.prog etalonref08_CheckLabels_s ⟨[x0, x1, x0, x0, x4], [], [f0, f1, f2, f3, f4, f5, f6, f7]⟩ [n, e] [] [] := by

  have d8 := dv.1

  have l30 := rl.1

  have q0 : 0 ≤ x0 ∧ x0 ≤ 8 := ⟨r0, d8⟩

  obtain ⟨vf, nf, sf⟩ := number_r (f := f5) q0

  obtain ⟨vt, nt, st⟩ := number_r (f := f6) q0

  have nf1 := nf.1

  have nt1 := nt.1

  have fl := num_lt r0 d8 nf

  have tl := num_lt r0 d8 nt

  have l0 : 0 ≤ x0 ∧ x0 ≤ 140737488355328 := ⟨r0, by omega⟩

  refine rclb q0 ⟨r1, l30⟩ q0 q0 r4 s1 s3 s7 (R := labIs x0 x1 x4 f1 f2 f3 f4 f5 f6 f7) ⟨fun c i => (0 ≤ i ∧ i ≤ x0) ∧ c = 2 ^ i.toNat, fun c i => (x0 - i).toNat, ⟨⟨by omega, by omega⟩, rfl⟩, ?_⟩

  rintro c i ⟨hi, hc⟩

  have pc := pow_le8 (i := i) hi.1 (by omega)

  have pc0 : (0 : Int) < 2 ^ i.toNat := Int.pow_pos (by decide)

  refine ⟨by omega, ⟨hi.1, by omega⟩, fun h => ⟨by omega, ?_⟩, fun h => ?_⟩

  · have h := of_decide_eq_true h

    have ei : i = x0 := by omega

    rw [ei] at hc

    refine ⟨fun h4 => ?_, fun h4 => .shape (by rw [← hc]; simpa using h4)⟩

    have h4 : x4 = c := eq_of_beq h4

    have h4' : x4 = 2 ^ x0.toNat := by rw [h4, hc]

    refine ⟨fun q => (0 ≤ q ∧ q ≤ x4) ∧ ∀ p, 0 ≤ p → p < q → 0 ≤ f7 p ∧ f7 p ≤ 1000, fun q => (x4 - q).toNat, ⟨⟨by omega, by omega⟩, fun p a b => by omega⟩, ?_⟩

    rintro q ⟨hq, hb⟩

    refine ⟨⟨hq.1, by omega⟩, fun g => ?_, fun g => ⟨fun a => ⟨fun b => ⟨⟨⟨by omega, by have := of_decide_eq_false g; omega⟩, fun p p0 p1 => ?_⟩, ?_⟩, fun b => .range h4' fun m => of_decide_eq_false b (m q hq.1 (by have := of_decide_eq_false g; omega)).2⟩, fun a => .range h4' fun m => of_decide_eq_false a (m q hq.1 (by have := of_decide_eq_false g; omega)).1⟩⟩

    · have g := of_decide_eq_true g

      have li : labIn f7 x4 := fun p a b => hb p a (by omega)

      refine ⟨_, sf, nf1, fun k => ?_, fun _ => ⟨fun z => ?_, fun z => .proof h4' li nf fun m => ?_⟩⟩

      · have := of_decide_eq_true k; omega

      · have z : f7 vf = 0 := eq_of_beq z

        refine ⟨fun n => (0 ≤ n ∧ n ≤ x4) ∧ ∀ m, 0 ≤ m → m < n → edge x0 x1 f1 f2 f3 f4 f7 m, fun n => (x4 - n).toNat, ⟨⟨by omega, by omega⟩, fun m a b => by omega⟩, ?_⟩

        rintro n ⟨hn, he⟩

        refine ⟨⟨hn.1, by omega⟩, fun k => ⟨_, st, nt1, fun k2 => ?_, fun _ => ?_⟩, fun k => ?_⟩

        · have := of_decide_eq_true k2; omega

        · have k := of_decide_eq_true k

          exact .ok h4' li nf nt ⟨z, fun m a b => he m a (by omega)⟩

        have k := of_decide_eq_false k

        have nb : 0 ≤ n ∧ n < 2 ^ x0.toNat := ⟨hn.1, by omega⟩

        obtain ⟨gs, hgs, ss⟩ := state_r (n := n) q0 ⟨hn.1, by omega⟩

        have same : sameSt x0 gs (bitsF n) := fun d a b => by rw [hgs d a b]; exact Iff.rfl

        have ng : numIs x0 gs n := by

          have ns := num_self r0 d8 nb

          refine ⟨ns.1, fun d a b => ?_⟩

          rw [ns.2 d a b]

          constructor

          · rintro ⟨p, w⟩; exact ⟨p, (same d a p).2 w⟩

          · rintro ⟨p, w⟩; exact ⟨p, (same d a p).1 w⟩

        obtain ⟨kb, hkb, sb⟩ := firstBroken_r (f0 := f0) (f2 := f2) (f4 := f4) (f5 := gs) r0 r1 s1 s3 dv rl

        have next : edge x0 x1 f1 f2 f3 f4 f7 n → (((0 ≤ n + 1 ∧ n + 1 ≤ x4) ∧ ∀ m, 0 ≤ m → m < n + 1 → edge x0 x1 f1 f2 f3 f4 f7 m) ∧ (x4 - (n + 1)).toNat < (x4 - n).toNat) := fun e => ⟨⟨⟨by omega, by omega⟩, fun m a b => by

          by_cases c : m = n

          · subst c; exact e

          · exact he m a (by omega)⟩, by omega⟩

        refine ⟨_, _, ss, l0, _, sb, fun w => next fun s => ?_, fun w => ?_⟩

        · have w := of_decide_eq_true w

          rcases fb_safe hkb with ⟨_, ns⟩ | ⟨nk, _⟩

          · exact absurd (safe_congr rl (fun d a b => (same d a b).symm) s) ns

          · exact absurd w nk

        have w := of_decide_eq_false w

        have sg : safe x1 f1 f2 f3 f4 gs := by

          rcases fb_safe hkb with ⟨p, _⟩ | ⟨_, s⟩

          · exact absurd p w

          · exact s

        have sn : safeN x1 f1 f2 f3 f4 n := safe_congr rl same sg

        refine ⟨fun d => (0 ≤ d ∧ d ≤ x0) ∧ ∀ c, 0 ≤ c → c < d → safeN x1 f1 f2 f3 f4 (xorS n c) → f7 (xorS n c) ≤ f7 n + 1, fun d => (x0 - d).toNat, ⟨⟨by omega, by omega⟩, fun c a b => by omega⟩, ?_⟩

        rintro d ⟨hd, hcs⟩

        refine ⟨⟨hd.1, by omega⟩, fun y => ?_, fun y => ?_⟩

        · have y := of_decide_eq_true y

          exact next fun _ c a b => hcs c a (by omega)

        have y := of_decide_eq_false y

        have sw := switched_r (f0 := gs) (x0 := x0) (x1 := d) ⟨r0, by omega⟩ ⟨hd.1, by omega⟩

        obtain ⟨kc, hkc, sc⟩ := firstBroken_r (f0 := f0) (f2 := f2) (f4 := f4) (f5 := flip gs d) r0 r1 s1 s3 dv rl

        obtain ⟨vn, nn, sv⟩ := number_r (f := flip gs d) q0

        have nx := ng.xor d8 (d := d) ⟨hd.1, by omega⟩

        have ev : vn = xorS n d := num_one d8 nn nx

        have xl := xor_low d8 nb ⟨hd.1, by omega⟩

        have nself := num_self r0 d8 xl

        have samex : sameSt x0 (flip gs d) (bitsF (xorS n d)) := (num_uniq d8 nx nself).1 rfl

        have step : (safeN x1 f1 f2 f3 f4 (xorS n d) → f7 (xorS n d) ≤ f7 n + 1) → (((0 ≤ d + 1 ∧ d + 1 ≤ x0) ∧ ∀ c, 0 ≤ c → c < d + 1 → safeN x1 f1 f2 f3 f4 (xorS n c) → f7 (xorS n c) ≤ f7 n + 1) ∧ (x0 - (d + 1)).toNat < (x0 - d).toNat) := fun e => ⟨⟨⟨by omega, by omega⟩, fun c a b => by

          by_cases cc : c = d

          · subst cc; exact e

          · exact hcs c a (by omega)⟩, by omega⟩

        have ln := li n hn.1 (by omega)

        have wr : IntKind.i64.wrap (f7 n + 1) = f7 n + 1 := by rw [IntKind.wrap_i64]; omega

        have nn1 := nn.1

        rw [ev] at nn1 sv

        refine ⟨_, _, sw, l0, _, sc, fun u => step fun s => ?_, fun u => ⟨_, sv, nn1, fun a => ?_, fun _ => ⟨fun a => ?_, fun _ => ?_⟩⟩⟩

        · have u := of_decide_eq_true u

          rcases fb_safe hkc with ⟨_, ns⟩ | ⟨nk, _⟩

          · exact absurd (safe_congr rl (fun d a b => (samex d a b).symm) s) ns

          · exact absurd u nk

        · have := of_decide_eq_true a; omega

        · have := of_decide_eq_true a; omega

        · rw [wr]

          refine ⟨fun a => step fun _ => of_decide_eq_true a, fun a => .proof h4' li nf fun m => ?_⟩

          have a := of_decide_eq_false a

          have u := of_decide_eq_false u

          have sx : safe x1 f1 f2 f3 f4 (flip gs d) := by

            rcases fb_safe hkc with ⟨p, _⟩ | ⟨_, s⟩

            · exact absurd p u

            · exact s

          exact a (m.2 n hn.1 nb.2 sn d hd.1 (by omega) (safe_congr rl samex sx))

      · have z : ¬ f7 vf = 0 := by simpa using z

        exact z m.1

    · by_cases e : p = q

      · subst e; exact ⟨of_decide_eq_true a, of_decide_eq_true b⟩

      · exact hb p p0 (by omega)

    · have := of_decide_eq_false g

      show (x4 - (q + 1)).toNat < (x4 - q).toNat; omega

  · have h := of_decide_eq_false h

    have pn := pow_next hi.1

    refine ⟨⟨⟨by omega, by omega⟩, by omega⟩, ?_⟩

    show (x0 - (i + 1)).toNat < (x0 - i).toNat; omega

end Go.Proofs.Ytheopgjjkgklpaa.Ev
