/- The contracts of quarters, rates and ends. -/
import Derived.Test.YtnkajbaejojcgaaFqs
namespace Go.Proofs.Ytnkajbaejojcgaa.Ev
set_option linter.unusedSimpArgs false
open Go Go.RowKit
set_option linter.unusedVariables false
set_option maxRecDepth 100000
def grow_checkQuarter_s : Sig := ⟨96, ⟨3, 0, 0⟩, ⟨1, 0, 0⟩, [(.agg [(.int .i64 (.var 0)), (.int .i64 (.var 1)), (.int .i64 (.var 2))])], [], (.int .i64 (.var 3)), []⟩
def grow_checkRate_s : Sig := ⟨76, ⟨2, 0, 0⟩, ⟨1, 0, 0⟩, [(.agg [(.int .i64 (.var 0)), (.int .i64 (.var 1))])], [], (.int .i64 (.var 2)), []⟩
def grow_checkSeconds_s : Sig := ⟨77, ⟨2, 0, 0⟩, ⟨1, 0, 0⟩, [(.agg [(.int .i64 (.var 0)), (.int .i64 (.var 1))])], [], (.int .i64 (.var 2)), []⟩
def etalonref08_QuarterErr_s : Sig := ⟨41, ⟨3, 0, 0⟩, ⟨1, 0, 0⟩, [(.agg [(.int .i64 (.var 0)), (.int .i64 (.var 1)), (.int .i64 (.var 2))])], [], (.int .i64 (.var 3)), []⟩
def etalonref08_RateErr_s : Sig := ⟨18, ⟨2, 0, 0⟩, ⟨1, 0, 0⟩, [(.agg [(.int .i64 (.var 0)), (.int .i64 (.var 1))])], [], (.int .i64 (.var 2)), []⟩
def etalonref08_SecondsErr_s : Sig := ⟨19, ⟨2, 0, 0⟩, ⟨1, 0, 0⟩, [(.agg [(.int .i64 (.var 0)), (.int .i64 (.var 1))])], [], (.int .i64 (.var 2)), []⟩
def grow_QuarterThick_s : Sig := ⟨38, ⟨3, 0, 0⟩, ⟨3, 0, 0⟩, [(.agg [(.int .i64 (.var 0)), (.int .i64 (.var 1)), (.int .i64 (.var 2))])], [], (.tuple [(.agg [(.int .i64 (.var 3)), (.int .i64 (.var 4))]), (.int .i64 (.var 5))]), []⟩
def grow_RateOf_s : Sig := ⟨39, ⟨5, 0, 0⟩, ⟨3, 0, 0⟩, [(.agg [(.int .i64 (.var 0)), (.int .i64 (.var 1)), (.int .i64 (.var 2))]), (.agg [(.int .i64 (.var 3)), (.int .i64 (.var 4))])], [], (.tuple [(.agg [(.int .i64 (.var 5)), (.int .i64 (.var 6))]), (.int .i64 (.var 7))]), []⟩
def grow_EndAt_s : Sig := ⟨40, ⟨7, 0, 0⟩, ⟨3, 0, 0⟩, [(.agg [(.int .i64 (.var 0)), (.int .i64 (.var 1)), (.int .i64 (.var 2))]), (.agg [(.int .i64 (.var 3)), (.int .i64 (.var 4))]), (.agg [(.int .i64 (.var 5)), (.int .i64 (.var 6))])], [], (.tuple [(.agg [(.int .i64 (.var 7)), (.int .i64 (.var 8))]), (.int .i64 (.var 9))]), []⟩
def etalonref08_QuarterThick_s : Sig := ⟨42, ⟨3, 0, 0⟩, ⟨2, 0, 0⟩, [(.agg [(.int .i64 (.var 0)), (.int .i64 (.var 1)), (.int .i64 (.var 2))])], [], (.agg [(.int .i64 (.var 3)), (.int .i64 (.var 4))]), []⟩
def etalonref08_RateOf_s : Sig := ⟨43, ⟨5, 0, 0⟩, ⟨2, 0, 0⟩, [(.agg [(.int .i64 (.var 0)), (.int .i64 (.var 1)), (.int .i64 (.var 2))]), (.agg [(.int .i64 (.var 3)), (.int .i64 (.var 4))])], [], (.agg [(.int .i64 (.var 5)), (.int .i64 (.var 6))]), []⟩
def etalonref08_EndAt_s : Sig := ⟨44, ⟨7, 0, 0⟩, ⟨2, 0, 0⟩, [(.agg [(.int .i64 (.var 0)), (.int .i64 (.var 1)), (.int .i64 (.var 2))]), (.agg [(.int .i64 (.var 3)), (.int .i64 (.var 4))]), (.agg [(.int .i64 (.var 5)), (.int .i64 (.var 6))])], [], (.agg [(.int .i64 (.var 7)), (.int .i64 (.var 8))]), []⟩

def cq_t : Tr :=
  (.ite (.icmp .leq (.lit 5000) (.var 0))
  (.ite (.icmp .leq (.var 0) (.lit 80000))
   (.ite (.icmp .leq (.lit 1000) (.var 1))
    (.ite (.icmp .leq (.var 1) (.lit 200000))
     (.ite (.icmp .leq (.lit 1) (.var 2))
      (.ite (.icmp .leq (.var 2) (.lit 200))
       (.ret ⟨[(.lit 0)], [], []⟩ [])
       (.ret ⟨[(.lit 2)], [], []⟩ []))
      (.ret ⟨[(.lit 2)], [], []⟩ []))
     (.ret ⟨[(.lit 2)], [], []⟩ []))
    (.ret ⟨[(.lit 2)], [], []⟩ []))
   (.ret ⟨[(.lit 2)], [], []⟩ []))
  (.ret ⟨[(.lit 2)], [], []⟩ []))
theorem cq {x0 x1 x2 : Int} (r0 : (-9223372036854775808) ≤ x0 ∧ x0 ≤ 9223372036854775807) (r1 : (-9223372036854775808) ≤ x1 ∧ x1 ≤ 9223372036854775807) (r2 : (-9223372036854775808) ≤ x2 ∧ x2 ≤ 9223372036854775807) {R : Int → Prop}
  (H : ((decide ((5000 : Int) ≤ x0) = true → ((decide ((x0 : Int) ≤ 80000) = true → ((decide ((1000 : Int) ≤ x1) = true → ((decide ((x1 : Int) ≤ 200000) = true → ((decide ((1 : Int) ≤ x2) = true → ((decide ((x2 : Int) ≤ 200) = true → R (0)) ∧
        (decide ((x2 : Int) ≤ 200) = false → R (2)))) ∧
       (decide ((1 : Int) ≤ x2) = false → R (2)))) ∧
      (decide ((x1 : Int) ≤ 200000) = false → R (2)))) ∧
     (decide ((1000 : Int) ≤ x1) = false → R (2)))) ∧
    (decide ((x0 : Int) ≤ 80000) = false → R (2)))) ∧
   (decide ((5000 : Int) ≤ x0) = false → R (2)))) :
    ∃ v0 : Int, R v0 ∧ Spec Try.prog grow_checkQuarter_s ⟨[x0, x1, x2], [], []⟩ [v0] [] [] :=
  Eq.mp (by kernel_rfl) (exV_of (K := fun d => app3 grow_checkQuarter_s.out R d ∧ Spec Try.prog grow_checkQuarter_s ⟨[x0, x1, x2], [], []⟩ d.1 d.2.1 d.2.2) (tree_at mixed names S1_ok (S := S1 Try.prog) (lf := 100000) (d := 60) grow_checkQuarter_s cq_t { ivs := [(0, (-9223372036854775808), 9223372036854775807), (1, (-9223372036854775808), 9223372036854775807), (2, (-9223372036854775808), 9223372036854775807)], aivs := [] } ⟨[x0, x1, x2], [], []⟩ rfl (by kernel_rfl) (by kernel_rfl) (by kernel_rfl) ⟨(fc r0 (fc r1 (fc r2 fz))), fz, fz, fz⟩ (R := fun d => app3 grow_checkQuarter_s.out R d) (Eq.mp (by kernel_rfl) H)))

def cr_t : Tr :=
  (.ite (.icmp .leq (.lit 1) (.var 0))
  (.ite (.icmp .leq (.var 0) (.lit 1000000))
   (.ite (.icmp .leq (.lit 1) (.var 1))
    (.ite (.icmp .leq (.var 1) (.lit 1000000))
     (.ite (.icmp .leq (.var 0) (.var 1))
      (.ret ⟨[(.lit 0)], [], []⟩ [])
      (.ret ⟨[(.lit 10)], [], []⟩ []))
     (.ret ⟨[(.lit 2)], [], []⟩ []))
    (.ret ⟨[(.lit 2)], [], []⟩ []))
   (.ret ⟨[(.lit 2)], [], []⟩ []))
  (.ret ⟨[(.lit 2)], [], []⟩ []))
theorem cr {x0 x1 : Int} (r0 : (-9223372036854775808) ≤ x0 ∧ x0 ≤ 9223372036854775807) (r1 : (-9223372036854775808) ≤ x1 ∧ x1 ≤ 9223372036854775807) {R : Int → Prop}
  (H : ((decide ((1 : Int) ≤ x0) = true → ((decide ((x0 : Int) ≤ 1000000) = true → ((decide ((1 : Int) ≤ x1) = true → ((decide ((x1 : Int) ≤ 1000000) = true → ((decide ((x0 : Int) ≤ x1) = true → R (0)) ∧
       (decide ((x0 : Int) ≤ x1) = false → R (10)))) ∧
      (decide ((x1 : Int) ≤ 1000000) = false → R (2)))) ∧
     (decide ((1 : Int) ≤ x1) = false → R (2)))) ∧
    (decide ((x0 : Int) ≤ 1000000) = false → R (2)))) ∧
   (decide ((1 : Int) ≤ x0) = false → R (2)))) :
    ∃ v0 : Int, R v0 ∧ Spec Try.prog grow_checkRate_s ⟨[x0, x1], [], []⟩ [v0] [] [] :=
  Eq.mp (by kernel_rfl) (exV_of (K := fun d => app3 grow_checkRate_s.out R d ∧ Spec Try.prog grow_checkRate_s ⟨[x0, x1], [], []⟩ d.1 d.2.1 d.2.2) (tree_at mixed names S1_ok (S := S1 Try.prog) (lf := 100000) (d := 60) grow_checkRate_s cr_t { ivs := [(0, (-9223372036854775808), 9223372036854775807), (1, (-9223372036854775808), 9223372036854775807)], aivs := [] } ⟨[x0, x1], [], []⟩ rfl (by kernel_rfl) (by kernel_rfl) (by kernel_rfl) ⟨(fc r0 (fc r1 fz)), fz, fz, fz⟩ (R := fun d => app3 grow_checkRate_s.out R d) (Eq.mp (by kernel_rfl) H)))

def cs_t : Tr :=
  (.ite (.icmp .leq (.lit 0) (.var 0))
  (.ite (.icmp .leq (.var 0) (.lit 100000))
   (.ite (.icmp .leq (.lit 0) (.var 1))
    (.ite (.icmp .leq (.var 1) (.lit 100000))
     (.ite (.icmp .leq (.var 0) (.var 1))
      (.ret ⟨[(.lit 0)], [], []⟩ [])
      (.ret ⟨[(.lit 10)], [], []⟩ []))
     (.ret ⟨[(.lit 2)], [], []⟩ []))
    (.ret ⟨[(.lit 2)], [], []⟩ []))
   (.ret ⟨[(.lit 2)], [], []⟩ []))
  (.ret ⟨[(.lit 2)], [], []⟩ []))
theorem cs {x0 x1 : Int} (r0 : (-9223372036854775808) ≤ x0 ∧ x0 ≤ 9223372036854775807) (r1 : (-9223372036854775808) ≤ x1 ∧ x1 ≤ 9223372036854775807) {R : Int → Prop}
  (H : ((decide ((0 : Int) ≤ x0) = true → ((decide ((x0 : Int) ≤ 100000) = true → ((decide ((0 : Int) ≤ x1) = true → ((decide ((x1 : Int) ≤ 100000) = true → ((decide ((x0 : Int) ≤ x1) = true → R (0)) ∧
       (decide ((x0 : Int) ≤ x1) = false → R (10)))) ∧
      (decide ((x1 : Int) ≤ 100000) = false → R (2)))) ∧
     (decide ((0 : Int) ≤ x1) = false → R (2)))) ∧
    (decide ((x0 : Int) ≤ 100000) = false → R (2)))) ∧
   (decide ((0 : Int) ≤ x0) = false → R (2)))) :
    ∃ v0 : Int, R v0 ∧ Spec Try.prog grow_checkSeconds_s ⟨[x0, x1], [], []⟩ [v0] [] [] :=
  Eq.mp (by kernel_rfl) (exV_of (K := fun d => app3 grow_checkSeconds_s.out R d ∧ Spec Try.prog grow_checkSeconds_s ⟨[x0, x1], [], []⟩ d.1 d.2.1 d.2.2) (tree_at mixed names S1_ok (S := S1 Try.prog) (lf := 100000) (d := 60) grow_checkSeconds_s cs_t { ivs := [(0, (-9223372036854775808), 9223372036854775807), (1, (-9223372036854775808), 9223372036854775807)], aivs := [] } ⟨[x0, x1], [], []⟩ rfl (by kernel_rfl) (by kernel_rfl) (by kernel_rfl) ⟨(fc r0 (fc r1 fz)), fz, fz, fz⟩ (R := fun d => app3 grow_checkSeconds_s.out R d) (Eq.mp (by kernel_rfl) H)))

def rq_t : Tr :=
  (.ite (.icmp .leq (.lit 5000) (.var 0))
  (.ite (.icmp .leq (.var 0) (.lit 80000))
   (.ite (.icmp .leq (.lit 1000) (.var 1))
    (.ite (.icmp .leq (.var 1) (.lit 200000))
     (.ite (.icmp .leq (.lit 1) (.var 2))
      (.ite (.icmp .leq (.var 2) (.lit 200))
       (.ret ⟨[(.lit 0)], [], []⟩ [])
       (.ret ⟨[(.lit 2)], [], []⟩ []))
      (.ret ⟨[(.lit 2)], [], []⟩ []))
     (.ret ⟨[(.lit 2)], [], []⟩ []))
    (.ret ⟨[(.lit 2)], [], []⟩ []))
   (.ret ⟨[(.lit 2)], [], []⟩ []))
  (.ret ⟨[(.lit 2)], [], []⟩ []))
theorem rq {x0 x1 x2 : Int} (r0 : (-9223372036854775808) ≤ x0 ∧ x0 ≤ 9223372036854775807) (r1 : (-9223372036854775808) ≤ x1 ∧ x1 ≤ 9223372036854775807) (r2 : (-9223372036854775808) ≤ x2 ∧ x2 ≤ 9223372036854775807) {R : Int → Prop}
  (H : ((decide ((5000 : Int) ≤ x0) = true → ((decide ((x0 : Int) ≤ 80000) = true → ((decide ((1000 : Int) ≤ x1) = true → ((decide ((x1 : Int) ≤ 200000) = true → ((decide ((1 : Int) ≤ x2) = true → ((decide ((x2 : Int) ≤ 200) = true → R (0)) ∧
        (decide ((x2 : Int) ≤ 200) = false → R (2)))) ∧
       (decide ((1 : Int) ≤ x2) = false → R (2)))) ∧
      (decide ((x1 : Int) ≤ 200000) = false → R (2)))) ∧
     (decide ((1000 : Int) ≤ x1) = false → R (2)))) ∧
    (decide ((x0 : Int) ≤ 80000) = false → R (2)))) ∧
   (decide ((5000 : Int) ≤ x0) = false → R (2)))) :
    ∃ v0 : Int, R v0 ∧ Spec Try.prog etalonref08_QuarterErr_s ⟨[x0, x1, x2], [], []⟩ [v0] [] [] :=
  Eq.mp (by kernel_rfl) (exV_of (K := fun d => app3 etalonref08_QuarterErr_s.out R d ∧ Spec Try.prog etalonref08_QuarterErr_s ⟨[x0, x1, x2], [], []⟩ d.1 d.2.1 d.2.2) (tree_at mixed names S1_ok (S := S1 Try.prog) (lf := 100000) (d := 60) etalonref08_QuarterErr_s rq_t { ivs := [(0, (-9223372036854775808), 9223372036854775807), (1, (-9223372036854775808), 9223372036854775807), (2, (-9223372036854775808), 9223372036854775807)], aivs := [] } ⟨[x0, x1, x2], [], []⟩ rfl (by kernel_rfl) (by kernel_rfl) (by kernel_rfl) ⟨(fc r0 (fc r1 (fc r2 fz))), fz, fz, fz⟩ (R := fun d => app3 etalonref08_QuarterErr_s.out R d) (Eq.mp (by kernel_rfl) H)))

def rr_t : Tr :=
  (.ite (.icmp .leq (.lit 1) (.var 0))
  (.ite (.icmp .leq (.var 0) (.lit 1000000))
   (.ite (.icmp .leq (.lit 1) (.var 1))
    (.ite (.icmp .leq (.var 1) (.lit 1000000))
     (.ite (.icmp .leq (.var 0) (.var 1))
      (.ret ⟨[(.lit 0)], [], []⟩ [])
      (.ret ⟨[(.lit 10)], [], []⟩ []))
     (.ret ⟨[(.lit 2)], [], []⟩ []))
    (.ret ⟨[(.lit 2)], [], []⟩ []))
   (.ret ⟨[(.lit 2)], [], []⟩ []))
  (.ret ⟨[(.lit 2)], [], []⟩ []))
theorem rr {x0 x1 : Int} (r0 : (-9223372036854775808) ≤ x0 ∧ x0 ≤ 9223372036854775807) (r1 : (-9223372036854775808) ≤ x1 ∧ x1 ≤ 9223372036854775807) {R : Int → Prop}
  (H : ((decide ((1 : Int) ≤ x0) = true → ((decide ((x0 : Int) ≤ 1000000) = true → ((decide ((1 : Int) ≤ x1) = true → ((decide ((x1 : Int) ≤ 1000000) = true → ((decide ((x0 : Int) ≤ x1) = true → R (0)) ∧
       (decide ((x0 : Int) ≤ x1) = false → R (10)))) ∧
      (decide ((x1 : Int) ≤ 1000000) = false → R (2)))) ∧
     (decide ((1 : Int) ≤ x1) = false → R (2)))) ∧
    (decide ((x0 : Int) ≤ 1000000) = false → R (2)))) ∧
   (decide ((1 : Int) ≤ x0) = false → R (2)))) :
    ∃ v0 : Int, R v0 ∧ Spec Try.prog etalonref08_RateErr_s ⟨[x0, x1], [], []⟩ [v0] [] [] :=
  Eq.mp (by kernel_rfl) (exV_of (K := fun d => app3 etalonref08_RateErr_s.out R d ∧ Spec Try.prog etalonref08_RateErr_s ⟨[x0, x1], [], []⟩ d.1 d.2.1 d.2.2) (tree_at mixed names S1_ok (S := S1 Try.prog) (lf := 100000) (d := 60) etalonref08_RateErr_s rr_t { ivs := [(0, (-9223372036854775808), 9223372036854775807), (1, (-9223372036854775808), 9223372036854775807)], aivs := [] } ⟨[x0, x1], [], []⟩ rfl (by kernel_rfl) (by kernel_rfl) (by kernel_rfl) ⟨(fc r0 (fc r1 fz)), fz, fz, fz⟩ (R := fun d => app3 etalonref08_RateErr_s.out R d) (Eq.mp (by kernel_rfl) H)))

def rs_t : Tr :=
  (.ite (.icmp .leq (.lit 0) (.var 0))
  (.ite (.icmp .leq (.var 0) (.lit 100000))
   (.ite (.icmp .leq (.lit 0) (.var 1))
    (.ite (.icmp .leq (.var 1) (.lit 100000))
     (.ite (.icmp .leq (.var 0) (.var 1))
      (.ret ⟨[(.lit 0)], [], []⟩ [])
      (.ret ⟨[(.lit 10)], [], []⟩ []))
     (.ret ⟨[(.lit 2)], [], []⟩ []))
    (.ret ⟨[(.lit 2)], [], []⟩ []))
   (.ret ⟨[(.lit 2)], [], []⟩ []))
  (.ret ⟨[(.lit 2)], [], []⟩ []))
theorem rs {x0 x1 : Int} (r0 : (-9223372036854775808) ≤ x0 ∧ x0 ≤ 9223372036854775807) (r1 : (-9223372036854775808) ≤ x1 ∧ x1 ≤ 9223372036854775807) {R : Int → Prop}
  (H : ((decide ((0 : Int) ≤ x0) = true → ((decide ((x0 : Int) ≤ 100000) = true → ((decide ((0 : Int) ≤ x1) = true → ((decide ((x1 : Int) ≤ 100000) = true → ((decide ((x0 : Int) ≤ x1) = true → R (0)) ∧
       (decide ((x0 : Int) ≤ x1) = false → R (10)))) ∧
      (decide ((x1 : Int) ≤ 100000) = false → R (2)))) ∧
     (decide ((0 : Int) ≤ x1) = false → R (2)))) ∧
    (decide ((x0 : Int) ≤ 100000) = false → R (2)))) ∧
   (decide ((0 : Int) ≤ x0) = false → R (2)))) :
    ∃ v0 : Int, R v0 ∧ Spec Try.prog etalonref08_SecondsErr_s ⟨[x0, x1], [], []⟩ [v0] [] [] :=
  Eq.mp (by kernel_rfl) (exV_of (K := fun d => app3 etalonref08_SecondsErr_s.out R d ∧ Spec Try.prog etalonref08_SecondsErr_s ⟨[x0, x1], [], []⟩ d.1 d.2.1 d.2.2) (tree_at mixed names S1_ok (S := S1 Try.prog) (lf := 100000) (d := 60) etalonref08_SecondsErr_s rs_t { ivs := [(0, (-9223372036854775808), 9223372036854775807), (1, (-9223372036854775808), 9223372036854775807)], aivs := [] } ⟨[x0, x1], [], []⟩ rfl (by kernel_rfl) (by kernel_rfl) (by kernel_rfl) ⟨(fc r0 (fc r1 fz)), fz, fz, fz⟩ (R := fun d => app3 etalonref08_SecondsErr_s.out R d) (Eq.mp (by kernel_rfl) H)))

def qtg_t : Tr :=
  (.call whole_Lower_s ⟨[(.bin .mulI (.bin .mulI (.var 2) (.var 1)) (.lit 10000)), (.lit 1), (.bin .mulI (.lit 4) (.var 0))], [], []⟩ ⟨[(.bin .mulI (.bin .mulI (.var 2) (.var 1)) (.lit 10000)), (.lit 1), (.bin .mulI (.lit 4) (.var 0)), (.var 3)], [], []⟩ ⟨78, [(.int .i64 (.bin .mulI (.bin .mulI (.var 2) (.var 1)) (.lit 10000))), (.int .i64 (.lit 1)), (.int .i64 (.bin .mulI (.lit 4) (.var 0)))], [], [none, none, none], (.int .i64 (.var 3)), []⟩
  (.call whole_Upper_s ⟨[(.bin .mulI (.bin .mulI (.var 2) (.var 1)) (.lit 10000)), (.lit 1), (.bin .mulI (.lit 4) (.var 0))], [], []⟩ ⟨[(.bin .mulI (.bin .mulI (.var 2) (.var 1)) (.lit 10000)), (.lit 1), (.bin .mulI (.lit 4) (.var 0)), (.var 4)], [], []⟩ ⟨79, [(.int .i64 (.bin .mulI (.bin .mulI (.var 2) (.var 1)) (.lit 10000))), (.int .i64 (.lit 1)), (.int .i64 (.bin .mulI (.lit 4) (.var 0)))], [], [none, none, none], (.int .i64 (.var 4)), []⟩
  (.ret ⟨[(.var 3), (.var 4), (.lit 0)], [], []⟩ [])))
theorem qtg {x0 x1 x2 : Int} (r0 : 5000 ≤ x0 ∧ x0 ≤ 80000) (r1 : 1000 ≤ x1 ∧ x1 ≤ 200000) (r2 : 1 ≤ x2 ∧ x2 ≤ 200) {R : Int → Int → Int → Prop}
  (H : (∃ v3 : Int, Spec Try.prog whole_Lower_s ⟨[((x2 * x1) * 10000), 1, (4 * x0)], [], []⟩ [v3] [] [] ∧
   (∃ v4 : Int, Spec Try.prog whole_Upper_s ⟨[((x2 * x1) * 10000), 1, (4 * x0)], [], []⟩ [v4] [] [] ∧
   R (v3) (v4) (0)))) :
    ∃ v0 : Int, ∃ v1 : Int, ∃ v2 : Int, R v0 v1 v2 ∧ Spec Try.prog grow_QuarterThick_s ⟨[x0, x1, x2], [], []⟩ [v0, v1, v2] [] [] :=
  Eq.mp (by kernel_rfl) (exV_of (K := fun d => app3 grow_QuarterThick_s.out R d ∧ Spec Try.prog grow_QuarterThick_s ⟨[x0, x1, x2], [], []⟩ d.1 d.2.1 d.2.2) (tree_at mixed names S1_ok (S := S1 Try.prog) (lf := 100000) (d := 60) grow_QuarterThick_s qtg_t { ivs := [(0, 5000, 80000), (1, 1000, 200000), (2, 1, 200)], aivs := [] } ⟨[x0, x1, x2], [], []⟩ rfl (by kernel_rfl) (by kernel_rfl) (by kernel_rfl) ⟨(fc r0 (fc r1 (fc r2 fz))), fz, fz, fz⟩ (R := fun d => app3 grow_QuarterThick_s.out R d) (Eq.mp (by kernel_rfl) H)))

def qtb_t : Tr :=
  (.call grow_checkQuarter_s ⟨[(.var 0), (.var 1), (.var 2)], [], []⟩ ⟨[(.var 0), (.var 1), (.var 2), (.var 3)], [], []⟩ ⟨96, [(.agg [(.int .i64 (.var 0)), (.int .i64 (.var 1)), (.int .i64 (.var 2))])], [], [none, none], (.int .i64 (.var 3)), []⟩
  (.ite (.icmp .eql (.var 3) (.lit 0))
  (.ite (.icmp .leq (.lit 0) (.bin (.mulW .i64) (.lit 4) (.var 0)))
   .nil
   .nil)
  (.ret ⟨[(.lit 0), (.lit 0), (.var 3)], [], []⟩ [])))
theorem qtb {x0 x1 x2 : Int} (r0 : (-9223372036854775808) ≤ x0 ∧ x0 ≤ 9223372036854775807) (r1 : (-9223372036854775808) ≤ x1 ∧ x1 ≤ 9223372036854775807) (r2 : (-9223372036854775808) ≤ x2 ∧ x2 ≤ 9223372036854775807) {R : Int → Int → Int → Prop}
  (H : (∃ v3 : Int, Spec Try.prog grow_checkQuarter_s ⟨[x0, x1, x2], [], []⟩ [v3] [] [] ∧
   ((((v3 : Int) == 0) = true → ((decide ((0 : Int) ≤ IntKind.i64.wrap (4 * x0)) = true → False) ∧
    (decide ((0 : Int) ≤ IntKind.i64.wrap (4 * x0)) = false → False))) ∧
   (((v3 : Int) == 0) = false → R (0) (0) (v3))))) :
    ∃ v0 : Int, ∃ v1 : Int, ∃ v2 : Int, R v0 v1 v2 ∧ Spec Try.prog grow_QuarterThick_s ⟨[x0, x1, x2], [], []⟩ [v0, v1, v2] [] [] :=
  Eq.mp (by kernel_rfl) (exV_of (K := fun d => app3 grow_QuarterThick_s.out R d ∧ Spec Try.prog grow_QuarterThick_s ⟨[x0, x1, x2], [], []⟩ d.1 d.2.1 d.2.2) (tree_at mixed names S1_ok (S := S1 Try.prog) (lf := 100000) (d := 60) grow_QuarterThick_s qtb_t { ivs := [(0, (-9223372036854775808), 9223372036854775807), (1, (-9223372036854775808), 9223372036854775807), (2, (-9223372036854775808), 9223372036854775807)], aivs := [] } ⟨[x0, x1, x2], [], []⟩ rfl (by kernel_rfl) (by kernel_rfl) (by kernel_rfl) ⟨(fc r0 (fc r1 (fc r2 fz))), fz, fz, fz⟩ (R := fun d => app3 grow_QuarterThick_s.out R d) (Eq.mp (by kernel_rfl) H)))

def rog_t : Tr :=
  (.ite (.icmp .leq (.var 3) (.var 4))
  (.ite (.icmp .eql (.var 3) (.lit 0))
   (.ret ⟨[(.lit 0), (.lit 0), (.lit 9)], [], []⟩ [])
   (.call whole_Lower_s ⟨[(.bin .mulI (.bin .mulI (.var 2) (.var 1)) (.lit 10000)), (.lit 1000), (.bin .mulI (.bin .mulI (.lit 4) (.var 0)) (.var 4))], [], []⟩ ⟨[(.bin .mulI (.bin .mulI (.var 2) (.var 1)) (.lit 10000)), (.lit 1000), (.bin .mulI (.bin .mulI (.lit 4) (.var 0)) (.var 4)), (.var 5)], [], []⟩ ⟨78, [(.int .i64 (.bin .mulI (.bin .mulI (.var 2) (.var 1)) (.lit 10000))), (.int .i64 (.lit 1000)), (.int .i64 (.bin .mulI (.bin .mulI (.lit 4) (.var 0)) (.var 4)))], [], [none, none, none, none], (.int .i64 (.var 5)), []⟩
    (.call whole_Upper_s ⟨[(.bin .mulI (.bin .mulI (.var 2) (.var 1)) (.lit 10000)), (.lit 1000), (.bin .mulI (.bin .mulI (.lit 4) (.var 0)) (.var 3))], [], []⟩ ⟨[(.bin .mulI (.bin .mulI (.var 2) (.var 1)) (.lit 10000)), (.lit 1000), (.bin .mulI (.bin .mulI (.lit 4) (.var 0)) (.var 3)), (.var 6)], [], []⟩ ⟨79, [(.int .i64 (.bin .mulI (.bin .mulI (.var 2) (.var 1)) (.lit 10000))), (.int .i64 (.lit 1000)), (.int .i64 (.bin .mulI (.bin .mulI (.lit 4) (.var 0)) (.var 3)))], [], [none, none, none, none], (.int .i64 (.var 6)), []⟩
    (.ret ⟨[(.var 5), (.var 6), (.lit 0)], [], []⟩ []))))
  (.ret ⟨[(.lit 0), (.lit 0), (.lit 10)], [], []⟩ []))
theorem rog {x0 x1 x2 x3 x4 : Int} (r0 : 5000 ≤ x0 ∧ x0 ≤ 80000) (r1 : 1000 ≤ x1 ∧ x1 ≤ 200000) (r2 : 1 ≤ x2 ∧ x2 ≤ 200) (r3 : 0 ≤ x3 ∧ x3 ≤ 100000) (r4 : 0 ≤ x4 ∧ x4 ≤ 100000) {R : Int → Int → Int → Prop}
  (H : ((decide ((x3 : Int) ≤ x4) = true → ((((x3 : Int) == 0) = true → R (0) (0) (9)) ∧
    (((x3 : Int) == 0) = false → (∃ v5 : Int, Spec Try.prog whole_Lower_s ⟨[((x2 * x1) * 10000), 1000, ((4 * x0) * x4)], [], []⟩ [v5] [] [] ∧
     (∃ v6 : Int, Spec Try.prog whole_Upper_s ⟨[((x2 * x1) * 10000), 1000, ((4 * x0) * x3)], [], []⟩ [v6] [] [] ∧
     R (v5) (v6) (0)))))) ∧
   (decide ((x3 : Int) ≤ x4) = false → R (0) (0) (10)))) :
    ∃ v0 : Int, ∃ v1 : Int, ∃ v2 : Int, R v0 v1 v2 ∧ Spec Try.prog grow_RateOf_s ⟨[x0, x1, x2, x3, x4], [], []⟩ [v0, v1, v2] [] [] :=
  Eq.mp (by kernel_rfl) (exV_of (K := fun d => app3 grow_RateOf_s.out R d ∧ Spec Try.prog grow_RateOf_s ⟨[x0, x1, x2, x3, x4], [], []⟩ d.1 d.2.1 d.2.2) (tree_at mixed names S1_ok (S := S1 Try.prog) (lf := 100000) (d := 60) grow_RateOf_s rog_t { ivs := [(0, 5000, 80000), (1, 1000, 200000), (2, 1, 200), (3, 0, 100000), (4, 0, 100000)], aivs := [] } ⟨[x0, x1, x2, x3, x4], [], []⟩ rfl (by kernel_rfl) (by kernel_rfl) (by kernel_rfl) ⟨(fc r0 (fc r1 (fc r2 (fc r3 (fc r4 fz))))), fz, fz, fz⟩ (R := fun d => app3 grow_RateOf_s.out R d) (Eq.mp (by kernel_rfl) H)))

def rob_t : Tr :=
  (.call grow_checkQuarter_s ⟨[(.var 0), (.var 1), (.var 2)], [], []⟩ ⟨[(.var 0), (.var 1), (.var 2), (.var 5)], [], []⟩ ⟨96, [(.agg [(.int .i64 (.var 0)), (.int .i64 (.var 1)), (.int .i64 (.var 2))])], [], [none, none, none], (.int .i64 (.var 5)), []⟩
  (.call grow_checkSeconds_s ⟨[(.var 3), (.var 4)], [], []⟩ ⟨[(.var 3), (.var 4), (.var 6)], [], []⟩ ⟨77, [(.agg [(.int .i64 (.var 3)), (.int .i64 (.var 4))])], [], [none, none, none], (.int .i64 (.var 6)), []⟩
  (.ite (.icmp .eql (.var 5) (.lit 0))
  (.ite (.icmp .eql (.var 6) (.lit 0))
   (.ite (.icmp .eql (.var 3) (.lit 0))
    (.ret ⟨[(.lit 0), (.lit 0), (.lit 9)], [], []⟩ [])
    .nil)
   (.ret ⟨[(.lit 0), (.lit 0), (.var 6)], [], []⟩ []))
  (.ret ⟨[(.lit 0), (.lit 0), (.var 5)], [], []⟩ []))))
theorem rob {x0 x1 x2 x3 x4 : Int} (r0 : (-9223372036854775808) ≤ x0 ∧ x0 ≤ 9223372036854775807) (r1 : (-9223372036854775808) ≤ x1 ∧ x1 ≤ 9223372036854775807) (r2 : (-9223372036854775808) ≤ x2 ∧ x2 ≤ 9223372036854775807) (r3 : (-9223372036854775808) ≤ x3 ∧ x3 ≤ 9223372036854775807) (r4 : (-9223372036854775808) ≤ x4 ∧ x4 ≤ 9223372036854775807) {R : Int → Int → Int → Prop}
  (H : (∃ v5 : Int, Spec Try.prog grow_checkQuarter_s ⟨[x0, x1, x2], [], []⟩ [v5] [] [] ∧
   (∃ v6 : Int, Spec Try.prog grow_checkSeconds_s ⟨[x3, x4], [], []⟩ [v6] [] [] ∧
   ((((v5 : Int) == 0) = true → ((((v6 : Int) == 0) = true → ((((x3 : Int) == 0) = true → R (0) (0) (9)) ∧
     (((x3 : Int) == 0) = false → False))) ∧
    (((v6 : Int) == 0) = false → R (0) (0) (v6)))) ∧
   (((v5 : Int) == 0) = false → R (0) (0) (v5)))))) :
    ∃ v0 : Int, ∃ v1 : Int, ∃ v2 : Int, R v0 v1 v2 ∧ Spec Try.prog grow_RateOf_s ⟨[x0, x1, x2, x3, x4], [], []⟩ [v0, v1, v2] [] [] :=
  Eq.mp (by kernel_rfl) (exV_of (K := fun d => app3 grow_RateOf_s.out R d ∧ Spec Try.prog grow_RateOf_s ⟨[x0, x1, x2, x3, x4], [], []⟩ d.1 d.2.1 d.2.2) (tree_at mixed names S1_ok (S := S1 Try.prog) (lf := 100000) (d := 60) grow_RateOf_s rob_t { ivs := [(0, (-9223372036854775808), 9223372036854775807), (1, (-9223372036854775808), 9223372036854775807), (2, (-9223372036854775808), 9223372036854775807), (3, (-9223372036854775808), 9223372036854775807), (4, (-9223372036854775808), 9223372036854775807)], aivs := [] } ⟨[x0, x1, x2, x3, x4], [], []⟩ rfl (by kernel_rfl) (by kernel_rfl) (by kernel_rfl) ⟨(fc r0 (fc r1 (fc r2 (fc r3 (fc r4 fz))))), fz, fz, fz⟩ (R := fun d => app3 grow_RateOf_s.out R d) (Eq.mp (by kernel_rfl) H)))

def eag_t : Tr :=
  (.ite (.icmp .leq (.var 3) (.var 4))
  (.ite (.icmp .leq (.var 5) (.var 6))
   (.call whole_Lower_s ⟨[(.bin .addI (.bin .mulI (.bin .mulI (.bin .mulI (.var 2) (.var 1)) (.lit 10000)) (.lit 1000)) (.bin .mulI (.bin .mulI (.var 3) (.var 5)) (.bin .mulI (.lit 4) (.var 0)))), (.lit 1), (.bin .mulI (.bin .mulI (.lit 4) (.var 0)) (.lit 1000))], [], []⟩ ⟨[(.bin .addI (.bin .mulI (.bin .mulI (.bin .mulI (.var 2) (.var 1)) (.lit 10000)) (.lit 1000)) (.bin .mulI (.bin .mulI (.var 3) (.var 5)) (.bin .mulI (.lit 4) (.var 0)))), (.lit 1), (.bin .mulI (.bin .mulI (.lit 4) (.var 0)) (.lit 1000)), (.var 7)], [], []⟩ ⟨78, [(.int .i64 (.bin .addI (.bin .mulI (.bin .mulI (.bin .mulI (.var 2) (.var 1)) (.lit 10000)) (.lit 1000)) (.bin .mulI (.bin .mulI (.var 3) (.var 5)) (.bin .mulI (.lit 4) (.var 0))))), (.int .i64 (.lit 1)), (.int .i64 (.bin .mulI (.bin .mulI (.lit 4) (.var 0)) (.lit 1000)))], [], [none, none, none, none, none], (.int .i64 (.var 7)), []⟩
    (.call whole_Upper_s ⟨[(.bin .addI (.bin .mulI (.bin .mulI (.bin .mulI (.var 2) (.var 1)) (.lit 10000)) (.lit 1000)) (.bin .mulI (.bin .mulI (.var 4) (.var 6)) (.bin .mulI (.lit 4) (.var 0)))), (.lit 1), (.bin .mulI (.bin .mulI (.lit 4) (.var 0)) (.lit 1000))], [], []⟩ ⟨[(.bin .addI (.bin .mulI (.bin .mulI (.bin .mulI (.var 2) (.var 1)) (.lit 10000)) (.lit 1000)) (.bin .mulI (.bin .mulI (.var 4) (.var 6)) (.bin .mulI (.lit 4) (.var 0)))), (.lit 1), (.bin .mulI (.bin .mulI (.lit 4) (.var 0)) (.lit 1000)), (.var 8)], [], []⟩ ⟨79, [(.int .i64 (.bin .addI (.bin .mulI (.bin .mulI (.bin .mulI (.var 2) (.var 1)) (.lit 10000)) (.lit 1000)) (.bin .mulI (.bin .mulI (.var 4) (.var 6)) (.bin .mulI (.lit 4) (.var 0))))), (.int .i64 (.lit 1)), (.int .i64 (.bin .mulI (.bin .mulI (.lit 4) (.var 0)) (.lit 1000)))], [], [none, none, none, none, none], (.int .i64 (.var 8)), []⟩
    (.ret ⟨[(.var 7), (.var 8), (.lit 0)], [], []⟩ [])))
   (.ret ⟨[(.lit 0), (.lit 0), (.lit 10)], [], []⟩ []))
  (.ite (.icmp .leq (.var 5) (.var 6))
   (.ret ⟨[(.lit 0), (.lit 0), (.lit 10)], [], []⟩ [])
   (.ret ⟨[(.lit 0), (.lit 0), (.lit 10)], [], []⟩ [])))
theorem eag {x0 x1 x2 x3 x4 x5 x6 : Int} (r0 : 5000 ≤ x0 ∧ x0 ≤ 80000) (r1 : 1000 ≤ x1 ∧ x1 ≤ 200000) (r2 : 1 ≤ x2 ∧ x2 ≤ 200) (r3 : 1 ≤ x3 ∧ x3 ≤ 1000000) (r4 : 1 ≤ x4 ∧ x4 ≤ 1000000) (r5 : 0 ≤ x5 ∧ x5 ≤ 100000) (r6 : 0 ≤ x6 ∧ x6 ≤ 100000) {R : Int → Int → Int → Prop}
  (H : ((decide ((x3 : Int) ≤ x4) = true → ((decide ((x5 : Int) ≤ x6) = true → (∃ v7 : Int, Spec Try.prog whole_Lower_s ⟨[((((x2 * x1) * 10000) * 1000) + ((x3 * x5) * (4 * x0))), 1, ((4 * x0) * 1000)], [], []⟩ [v7] [] [] ∧
     (∃ v8 : Int, Spec Try.prog whole_Upper_s ⟨[((((x2 * x1) * 10000) * 1000) + ((x4 * x6) * (4 * x0))), 1, ((4 * x0) * 1000)], [], []⟩ [v8] [] [] ∧
     R (v7) (v8) (0)))) ∧
    (decide ((x5 : Int) ≤ x6) = false → R (0) (0) (10)))) ∧
   (decide ((x3 : Int) ≤ x4) = false → ((decide ((x5 : Int) ≤ x6) = true → R (0) (0) (10)) ∧
    (decide ((x5 : Int) ≤ x6) = false → R (0) (0) (10)))))) :
    ∃ v0 : Int, ∃ v1 : Int, ∃ v2 : Int, R v0 v1 v2 ∧ Spec Try.prog grow_EndAt_s ⟨[x0, x1, x2, x3, x4, x5, x6], [], []⟩ [v0, v1, v2] [] [] :=
  Eq.mp (by kernel_rfl) (exV_of (K := fun d => app3 grow_EndAt_s.out R d ∧ Spec Try.prog grow_EndAt_s ⟨[x0, x1, x2, x3, x4, x5, x6], [], []⟩ d.1 d.2.1 d.2.2) (tree_at mixed names S1_ok (S := S1 Try.prog) (lf := 100000) (d := 60) grow_EndAt_s eag_t { ivs := [(0, 5000, 80000), (1, 1000, 200000), (2, 1, 200), (3, 1, 1000000), (4, 1, 1000000), (5, 0, 100000), (6, 0, 100000)], aivs := [] } ⟨[x0, x1, x2, x3, x4, x5, x6], [], []⟩ rfl (by kernel_rfl) (by kernel_rfl) (by kernel_rfl) ⟨(fc r0 (fc r1 (fc r2 (fc r3 (fc r4 (fc r5 (fc r6 fz))))))), fz, fz, fz⟩ (R := fun d => app3 grow_EndAt_s.out R d) (Eq.mp (by kernel_rfl) H)))

def eab_t : Tr :=
  (.call grow_checkQuarter_s ⟨[(.var 0), (.var 1), (.var 2)], [], []⟩ ⟨[(.var 0), (.var 1), (.var 2), (.var 7)], [], []⟩ ⟨96, [(.agg [(.int .i64 (.var 0)), (.int .i64 (.var 1)), (.int .i64 (.var 2))])], [], [none, none, none, none], (.int .i64 (.var 7)), []⟩
  (.call grow_checkRate_s ⟨[(.var 3), (.var 4)], [], []⟩ ⟨[(.var 3), (.var 4), (.var 8)], [], []⟩ ⟨76, [(.agg [(.int .i64 (.var 3)), (.int .i64 (.var 4))])], [], [none, none, none, none], (.int .i64 (.var 8)), []⟩
  (.call grow_checkSeconds_s ⟨[(.var 5), (.var 6)], [], []⟩ ⟨[(.var 5), (.var 6), (.var 9)], [], []⟩ ⟨77, [(.agg [(.int .i64 (.var 5)), (.int .i64 (.var 6))])], [], [none, none, none, none], (.int .i64 (.var 9)), []⟩
  (.ite (.icmp .eql (.var 7) (.lit 0))
  (.ite (.icmp .eql (.var 8) (.lit 0))
   (.ite (.icmp .eql (.var 9) (.lit 0))
    .nil
    (.ret ⟨[(.lit 0), (.lit 0), (.var 9)], [], []⟩ []))
   (.ret ⟨[(.lit 0), (.lit 0), (.var 8)], [], []⟩ []))
  (.ret ⟨[(.lit 0), (.lit 0), (.var 7)], [], []⟩ [])))))
theorem eab {x0 x1 x2 x3 x4 x5 x6 : Int} (r0 : (-9223372036854775808) ≤ x0 ∧ x0 ≤ 9223372036854775807) (r1 : (-9223372036854775808) ≤ x1 ∧ x1 ≤ 9223372036854775807) (r2 : (-9223372036854775808) ≤ x2 ∧ x2 ≤ 9223372036854775807) (r3 : (-9223372036854775808) ≤ x3 ∧ x3 ≤ 9223372036854775807) (r4 : (-9223372036854775808) ≤ x4 ∧ x4 ≤ 9223372036854775807) (r5 : (-9223372036854775808) ≤ x5 ∧ x5 ≤ 9223372036854775807) (r6 : (-9223372036854775808) ≤ x6 ∧ x6 ≤ 9223372036854775807) {R : Int → Int → Int → Prop}
  (H : (∃ v7 : Int, Spec Try.prog grow_checkQuarter_s ⟨[x0, x1, x2], [], []⟩ [v7] [] [] ∧
   (∃ v8 : Int, Spec Try.prog grow_checkRate_s ⟨[x3, x4], [], []⟩ [v8] [] [] ∧
   (∃ v9 : Int, Spec Try.prog grow_checkSeconds_s ⟨[x5, x6], [], []⟩ [v9] [] [] ∧
   ((((v7 : Int) == 0) = true → ((((v8 : Int) == 0) = true → ((((v9 : Int) == 0) = true → False) ∧
     (((v9 : Int) == 0) = false → R (0) (0) (v9)))) ∧
    (((v8 : Int) == 0) = false → R (0) (0) (v8)))) ∧
   (((v7 : Int) == 0) = false → R (0) (0) (v7))))))) :
    ∃ v0 : Int, ∃ v1 : Int, ∃ v2 : Int, R v0 v1 v2 ∧ Spec Try.prog grow_EndAt_s ⟨[x0, x1, x2, x3, x4, x5, x6], [], []⟩ [v0, v1, v2] [] [] :=
  Eq.mp (by kernel_rfl) (exV_of (K := fun d => app3 grow_EndAt_s.out R d ∧ Spec Try.prog grow_EndAt_s ⟨[x0, x1, x2, x3, x4, x5, x6], [], []⟩ d.1 d.2.1 d.2.2) (tree_at mixed names S1_ok (S := S1 Try.prog) (lf := 100000) (d := 60) grow_EndAt_s eab_t { ivs := [(0, (-9223372036854775808), 9223372036854775807), (1, (-9223372036854775808), 9223372036854775807), (2, (-9223372036854775808), 9223372036854775807), (3, (-9223372036854775808), 9223372036854775807), (4, (-9223372036854775808), 9223372036854775807), (5, (-9223372036854775808), 9223372036854775807), (6, (-9223372036854775808), 9223372036854775807)], aivs := [] } ⟨[x0, x1, x2, x3, x4, x5, x6], [], []⟩ rfl (by kernel_rfl) (by kernel_rfl) (by kernel_rfl) ⟨(fc r0 (fc r1 (fc r2 (fc r3 (fc r4 (fc r5 (fc r6 fz))))))), fz, fz, fz⟩ (R := fun d => app3 grow_EndAt_s.out R d) (Eq.mp (by kernel_rfl) H)))

def rqt_t : Tr :=
  (.call etalonbase_Floor_s ⟨[(.bin .mulI (.bin .mulI (.var 2) (.var 1)) (.lit 10000)), (.bin .mulI (.lit 4) (.var 0))], [], []⟩ ⟨[(.bin .mulI (.bin .mulI (.var 2) (.var 1)) (.lit 10000)), (.bin .mulI (.lit 4) (.var 0)), (.var 3)], [], []⟩ ⟨82, [(.int .i64 (.bin .mulI (.bin .mulI (.var 2) (.var 1)) (.lit 10000))), (.int .i64 (.bin .mulI (.lit 4) (.var 0)))], [], [none, none], (.int .i64 (.var 3)), []⟩
  (.call etalonbase_Ceil_s ⟨[(.bin .mulI (.bin .mulI (.var 2) (.var 1)) (.lit 10000)), (.bin .mulI (.lit 4) (.var 0))], [], []⟩ ⟨[(.bin .mulI (.bin .mulI (.var 2) (.var 1)) (.lit 10000)), (.bin .mulI (.lit 4) (.var 0)), (.var 4)], [], []⟩ ⟨83, [(.int .i64 (.bin .mulI (.bin .mulI (.var 2) (.var 1)) (.lit 10000))), (.int .i64 (.bin .mulI (.lit 4) (.var 0)))], [], [none, none], (.int .i64 (.var 4)), []⟩
  (.ret ⟨[(.var 3), (.var 4)], [], []⟩ [])))
theorem rqt {x0 x1 x2 : Int} (r0 : 5000 ≤ x0 ∧ x0 ≤ 80000) (r1 : 1000 ≤ x1 ∧ x1 ≤ 200000) (r2 : 1 ≤ x2 ∧ x2 ≤ 200) {R : Int → Int → Prop}
  (H : (∃ v3 : Int, Spec Try.prog etalonbase_Floor_s ⟨[((x2 * x1) * 10000), (4 * x0)], [], []⟩ [v3] [] [] ∧
   (∃ v4 : Int, Spec Try.prog etalonbase_Ceil_s ⟨[((x2 * x1) * 10000), (4 * x0)], [], []⟩ [v4] [] [] ∧
   R (v3) (v4)))) :
    ∃ v0 : Int, ∃ v1 : Int, R v0 v1 ∧ Spec Try.prog etalonref08_QuarterThick_s ⟨[x0, x1, x2], [], []⟩ [v0, v1] [] [] :=
  Eq.mp (by kernel_rfl) (exV_of (K := fun d => app3 etalonref08_QuarterThick_s.out R d ∧ Spec Try.prog etalonref08_QuarterThick_s ⟨[x0, x1, x2], [], []⟩ d.1 d.2.1 d.2.2) (tree_at mixed names S1_ok (S := S1 Try.prog) (lf := 100000) (d := 60) etalonref08_QuarterThick_s rqt_t { ivs := [(0, 5000, 80000), (1, 1000, 200000), (2, 1, 200)], aivs := [] } ⟨[x0, x1, x2], [], []⟩ rfl (by kernel_rfl) (by kernel_rfl) (by kernel_rfl) ⟨(fc r0 (fc r1 (fc r2 fz))), fz, fz, fz⟩ (R := fun d => app3 etalonref08_QuarterThick_s.out R d) (Eq.mp (by kernel_rfl) H)))

def rro_t : Tr :=
  (.call etalonbase_Floor_s ⟨[(.bin .mulI (.bin .mulI (.bin .mulI (.lit 1000) (.var 2)) (.var 1)) (.lit 10000)), (.bin .mulI (.bin .mulI (.lit 4) (.var 0)) (.var 4))], [], []⟩ ⟨[(.bin .mulI (.bin .mulI (.bin .mulI (.lit 1000) (.var 2)) (.var 1)) (.lit 10000)), (.bin .mulI (.bin .mulI (.lit 4) (.var 0)) (.var 4)), (.var 5)], [], []⟩ ⟨82, [(.int .i64 (.bin .mulI (.bin .mulI (.bin .mulI (.lit 1000) (.var 2)) (.var 1)) (.lit 10000))), (.int .i64 (.bin .mulI (.bin .mulI (.lit 4) (.var 0)) (.var 4)))], [], [none, none, none], (.int .i64 (.var 5)), []⟩
  (.call etalonbase_Ceil_s ⟨[(.bin .mulI (.bin .mulI (.bin .mulI (.lit 1000) (.var 2)) (.var 1)) (.lit 10000)), (.bin .mulI (.bin .mulI (.lit 4) (.var 0)) (.var 3))], [], []⟩ ⟨[(.bin .mulI (.bin .mulI (.bin .mulI (.lit 1000) (.var 2)) (.var 1)) (.lit 10000)), (.bin .mulI (.bin .mulI (.lit 4) (.var 0)) (.var 3)), (.var 6)], [], []⟩ ⟨83, [(.int .i64 (.bin .mulI (.bin .mulI (.bin .mulI (.lit 1000) (.var 2)) (.var 1)) (.lit 10000))), (.int .i64 (.bin .mulI (.bin .mulI (.lit 4) (.var 0)) (.var 3)))], [], [none, none, none], (.int .i64 (.var 6)), []⟩
  (.ret ⟨[(.var 5), (.var 6)], [], []⟩ [])))
theorem rro {x0 x1 x2 x3 x4 : Int} (r0 : 5000 ≤ x0 ∧ x0 ≤ 80000) (r1 : 1000 ≤ x1 ∧ x1 ≤ 200000) (r2 : 1 ≤ x2 ∧ x2 ≤ 200) (r3 : 1 ≤ x3 ∧ x3 ≤ 100000) (r4 : 1 ≤ x4 ∧ x4 ≤ 100000) {R : Int → Int → Prop}
  (H : (∃ v5 : Int, Spec Try.prog etalonbase_Floor_s ⟨[(((1000 * x2) * x1) * 10000), ((4 * x0) * x4)], [], []⟩ [v5] [] [] ∧
   (∃ v6 : Int, Spec Try.prog etalonbase_Ceil_s ⟨[(((1000 * x2) * x1) * 10000), ((4 * x0) * x3)], [], []⟩ [v6] [] [] ∧
   R (v5) (v6)))) :
    ∃ v0 : Int, ∃ v1 : Int, R v0 v1 ∧ Spec Try.prog etalonref08_RateOf_s ⟨[x0, x1, x2, x3, x4], [], []⟩ [v0, v1] [] [] :=
  Eq.mp (by kernel_rfl) (exV_of (K := fun d => app3 etalonref08_RateOf_s.out R d ∧ Spec Try.prog etalonref08_RateOf_s ⟨[x0, x1, x2, x3, x4], [], []⟩ d.1 d.2.1 d.2.2) (tree_at mixed names S1_ok (S := S1 Try.prog) (lf := 100000) (d := 60) etalonref08_RateOf_s rro_t { ivs := [(0, 5000, 80000), (1, 1000, 200000), (2, 1, 200), (3, 1, 100000), (4, 1, 100000)], aivs := [] } ⟨[x0, x1, x2, x3, x4], [], []⟩ rfl (by kernel_rfl) (by kernel_rfl) (by kernel_rfl) ⟨(fc r0 (fc r1 (fc r2 (fc r3 (fc r4 fz))))), fz, fz, fz⟩ (R := fun d => app3 etalonref08_RateOf_s.out R d) (Eq.mp (by kernel_rfl) H)))

def rea_t : Tr :=
  (.call etalonbase_Floor_s ⟨[(.bin .addI (.bin .mulI (.bin .mulI (.bin .mulI (.lit 1000) (.var 2)) (.var 1)) (.lit 10000)) (.bin .mulI (.bin .mulI (.bin .mulI (.lit 4) (.var 0)) (.var 3)) (.var 5))), (.bin .mulI (.lit 1000) (.bin .mulI (.lit 4) (.var 0)))], [], []⟩ ⟨[(.bin .addI (.bin .mulI (.bin .mulI (.bin .mulI (.lit 1000) (.var 2)) (.var 1)) (.lit 10000)) (.bin .mulI (.bin .mulI (.bin .mulI (.lit 4) (.var 0)) (.var 3)) (.var 5))), (.bin .mulI (.lit 1000) (.bin .mulI (.lit 4) (.var 0))), (.var 7)], [], []⟩ ⟨82, [(.int .i64 (.bin .addI (.bin .mulI (.bin .mulI (.bin .mulI (.lit 1000) (.var 2)) (.var 1)) (.lit 10000)) (.bin .mulI (.bin .mulI (.bin .mulI (.lit 4) (.var 0)) (.var 3)) (.var 5)))), (.int .i64 (.bin .mulI (.lit 1000) (.bin .mulI (.lit 4) (.var 0))))], [], [none, none, none, none], (.int .i64 (.var 7)), []⟩
  (.call etalonbase_Ceil_s ⟨[(.bin .addI (.bin .mulI (.bin .mulI (.bin .mulI (.lit 1000) (.var 2)) (.var 1)) (.lit 10000)) (.bin .mulI (.bin .mulI (.bin .mulI (.lit 4) (.var 0)) (.var 4)) (.var 6))), (.bin .mulI (.lit 1000) (.bin .mulI (.lit 4) (.var 0)))], [], []⟩ ⟨[(.bin .addI (.bin .mulI (.bin .mulI (.bin .mulI (.lit 1000) (.var 2)) (.var 1)) (.lit 10000)) (.bin .mulI (.bin .mulI (.bin .mulI (.lit 4) (.var 0)) (.var 4)) (.var 6))), (.bin .mulI (.lit 1000) (.bin .mulI (.lit 4) (.var 0))), (.var 8)], [], []⟩ ⟨83, [(.int .i64 (.bin .addI (.bin .mulI (.bin .mulI (.bin .mulI (.lit 1000) (.var 2)) (.var 1)) (.lit 10000)) (.bin .mulI (.bin .mulI (.bin .mulI (.lit 4) (.var 0)) (.var 4)) (.var 6)))), (.int .i64 (.bin .mulI (.lit 1000) (.bin .mulI (.lit 4) (.var 0))))], [], [none, none, none, none], (.int .i64 (.var 8)), []⟩
  (.ret ⟨[(.var 7), (.var 8)], [], []⟩ [])))
theorem rea {x0 x1 x2 x3 x4 x5 x6 : Int} (r0 : 5000 ≤ x0 ∧ x0 ≤ 80000) (r1 : 1000 ≤ x1 ∧ x1 ≤ 200000) (r2 : 1 ≤ x2 ∧ x2 ≤ 200) (r3 : 1 ≤ x3 ∧ x3 ≤ 1000000) (r4 : 1 ≤ x4 ∧ x4 ≤ 1000000) (r5 : 0 ≤ x5 ∧ x5 ≤ 100000) (r6 : 0 ≤ x6 ∧ x6 ≤ 100000) {R : Int → Int → Prop}
  (H : (∃ v7 : Int, Spec Try.prog etalonbase_Floor_s ⟨[((((1000 * x2) * x1) * 10000) + (((4 * x0) * x3) * x5)), (1000 * (4 * x0))], [], []⟩ [v7] [] [] ∧
   (∃ v8 : Int, Spec Try.prog etalonbase_Ceil_s ⟨[((((1000 * x2) * x1) * 10000) + (((4 * x0) * x4) * x6)), (1000 * (4 * x0))], [], []⟩ [v8] [] [] ∧
   R (v7) (v8)))) :
    ∃ v0 : Int, ∃ v1 : Int, R v0 v1 ∧ Spec Try.prog etalonref08_EndAt_s ⟨[x0, x1, x2, x3, x4, x5, x6], [], []⟩ [v0, v1] [] [] :=
  Eq.mp (by kernel_rfl) (exV_of (K := fun d => app3 etalonref08_EndAt_s.out R d ∧ Spec Try.prog etalonref08_EndAt_s ⟨[x0, x1, x2, x3, x4, x5, x6], [], []⟩ d.1 d.2.1 d.2.2) (tree_at mixed names S1_ok (S := S1 Try.prog) (lf := 100000) (d := 60) etalonref08_EndAt_s rea_t { ivs := [(0, 5000, 80000), (1, 1000, 200000), (2, 1, 200), (3, 1, 1000000), (4, 1, 1000000), (5, 0, 100000), (6, 0, 100000)], aivs := [] } ⟨[x0, x1, x2, x3, x4, x5, x6], [], []⟩ rfl (by kernel_rfl) (by kernel_rfl) (by kernel_rfl) ⟨(fc r0 (fc r1 (fc r2 (fc r3 (fc r4 (fc r5 (fc r6 fz))))))), fz, fz, fz⟩ (R := fun d => app3 etalonref08_EndAt_s.out R d) (Eq.mp (by kernel_rfl) H)))

def I64 (x : Int) : Prop := (-9223372036854775808) ≤ x ∧ x ≤ 9223372036854775807

/-- The error of quarters. -/

def qe (i w o : Int) : Int := if 5000 ≤ i ∧ i ≤ 80000 ∧ 1000 ≤ w ∧ w ≤ 200000 ∧ 1 ≤ o ∧ o ≤ 200 then 0 else 2

/-- The error of a range whose ends are to be from L to M. -/

def re (L M lo hi : Int) : Int := if L ≤ lo ∧ lo ≤ M ∧ L ≤ hi ∧ hi ≤ M then (if lo ≤ hi then 0 else 10) else 2

theorem qe_ok {i w o : Int} (h : qe i w o = 0) : (5000 ≤ i ∧ i ≤ 80000) ∧ (1000 ≤ w ∧ w ≤ 200000) ∧ (1 ≤ o ∧ o ≤ 200) := by

  unfold qe at h; split at h

  · rename_i h'; omega

  · omega

theorem re_ok {L M lo hi : Int} (h : re L M lo hi = 0) : (L ≤ lo ∧ lo ≤ M) ∧ (L ≤ hi ∧ hi ≤ M) ∧ lo ≤ hi := by

  unfold re at h; split at h

  · split at h <;> omega

  · omega

theorem qe_vals (i w o : Int) : qe i w o = 0 ∨ qe i w o = 2 := by unfold qe; split <;> simp

theorem re_vals (L M lo hi : Int) : re L M lo hi = 0 ∨ re L M lo hi = 2 ∨ re L M lo hi = 10 := by

  unfold re; split

  · split <;> simp

  · simp

theorem checkQuarter_s {x0 x1 x2 : Int} (r0 : I64 x0) (r1 : I64 x1) (r2 : I64 x2) : Spec Try.prog grow_checkQuarter_s ⟨[x0, x1, x2], [], []⟩ [qe x0 x1 x2] [] [] := by

  obtain ⟨v, rfl, hs⟩ : ∃ v : Int, v = qe x0 x1 x2 ∧ Spec Try.prog grow_checkQuarter_s ⟨[x0, x1, x2], [], []⟩ [v] [] [] := by

    refine cq r0 r1 r2 (R := (· = qe x0 x1 x2)) ?_

    simp only [decide_eq_true_eq, decide_eq_false_iff_not, qe]

    (repeat' (first | apply And.intro | intro _ | fail)) <;> (split <;> omega)

  exact hs

theorem rQuarterErr_s {x0 x1 x2 : Int} (r0 : I64 x0) (r1 : I64 x1) (r2 : I64 x2) : Spec Try.prog etalonref08_QuarterErr_s ⟨[x0, x1, x2], [], []⟩ [qe x0 x1 x2] [] [] := by

  obtain ⟨v, rfl, hs⟩ : ∃ v : Int, v = qe x0 x1 x2 ∧ Spec Try.prog etalonref08_QuarterErr_s ⟨[x0, x1, x2], [], []⟩ [v] [] [] := by

    refine rq r0 r1 r2 (R := (· = qe x0 x1 x2)) ?_

    simp only [decide_eq_true_eq, decide_eq_false_iff_not, qe]

    (repeat' (first | apply And.intro | intro _ | fail)) <;> (split <;> omega)

  exact hs

theorem checkRate_s {x0 x1 : Int} (r0 : I64 x0) (r1 : I64 x1) : Spec Try.prog grow_checkRate_s ⟨[x0, x1], [], []⟩ [re 1 1000000 x0 x1] [] [] := by

  obtain ⟨v, rfl, hs⟩ : ∃ v : Int, v = re 1 1000000 x0 x1 ∧ Spec Try.prog grow_checkRate_s ⟨[x0, x1], [], []⟩ [v] [] [] := by

    refine cr r0 r1 (R := (· = re 1 1000000 x0 x1)) ?_

    simp only [decide_eq_true_eq, decide_eq_false_iff_not, re]

    (repeat' (first | apply And.intro | intro _ | fail)) <;> (split <;> (try split) <;> omega)

  exact hs

theorem rRateErr_s {x0 x1 : Int} (r0 : I64 x0) (r1 : I64 x1) : Spec Try.prog etalonref08_RateErr_s ⟨[x0, x1], [], []⟩ [re 1 1000000 x0 x1] [] [] := by

  obtain ⟨v, rfl, hs⟩ : ∃ v : Int, v = re 1 1000000 x0 x1 ∧ Spec Try.prog etalonref08_RateErr_s ⟨[x0, x1], [], []⟩ [v] [] [] := by

    refine rr r0 r1 (R := (· = re 1 1000000 x0 x1)) ?_

    simp only [decide_eq_true_eq, decide_eq_false_iff_not, re]

    (repeat' (first | apply And.intro | intro _ | fail)) <;> (split <;> (try split) <;> omega)

  exact hs

theorem checkSeconds_s {x0 x1 : Int} (r0 : I64 x0) (r1 : I64 x1) : Spec Try.prog grow_checkSeconds_s ⟨[x0, x1], [], []⟩ [re 0 100000 x0 x1] [] [] := by

  obtain ⟨v, rfl, hs⟩ : ∃ v : Int, v = re 0 100000 x0 x1 ∧ Spec Try.prog grow_checkSeconds_s ⟨[x0, x1], [], []⟩ [v] [] [] := by

    refine cs r0 r1 (R := (· = re 0 100000 x0 x1)) ?_

    simp only [decide_eq_true_eq, decide_eq_false_iff_not, re]

    (repeat' (first | apply And.intro | intro _ | fail)) <;> (split <;> (try split) <;> omega)

  exact hs

theorem rSecondsErr_s {x0 x1 : Int} (r0 : I64 x0) (r1 : I64 x1) : Spec Try.prog etalonref08_SecondsErr_s ⟨[x0, x1], [], []⟩ [re 0 100000 x0 x1] [] [] := by

  obtain ⟨v, rfl, hs⟩ : ∃ v : Int, v = re 0 100000 x0 x1 ∧ Spec Try.prog etalonref08_SecondsErr_s ⟨[x0, x1], [], []⟩ [v] [] [] := by

    refine rs r0 r1 (R := (· = re 0 100000 x0 x1)) ?_

    simp only [decide_eq_true_eq, decide_eq_false_iff_not, re]

    (repeat' (first | apply And.intro | intro _ | fail)) <;> (split <;> (try split) <;> omega)

  exact hs

theorem mul_rng' {x y X Y : Int} (hx : 0 ≤ x ∧ x ≤ X) (hy : 0 ≤ y ∧ y ≤ Y) : 0 ≤ x * y ∧ x * y ≤ X * Y :=

  ⟨Int.mul_nonneg hx.1 hy.1, Int.mul_le_mul hx.2 hy.2 hy.1 (by omega)⟩

theorem cdiv_least {n d k : Int} (hd : 0 < d) (h : n ≤ d * k) : cdiv n d ≤ k := by

  have := (cdiv_spec' n hd).2

  rcases Int.lt_or_le k (cdiv n d) with h2 | h2

  · have h3 : d * k ≤ d * (cdiv n d - 1) := Int.mul_le_mul_of_nonneg_left (by omega) (by omega)

    omega

  · exact h2

theorem N_rng {x1 x2 : Int} (r1 : 1000 ≤ x1 ∧ x1 ≤ 200000) (r2 : 1 ≤ x2 ∧ x2 ≤ 200) : 0 ≤ (x2 * x1) * 10000 ∧ (x2 * x1) * 10000 ≤ 400000000000 := by

  have := mul_rng' (x := x2) (y := x1) (X := 200) (Y := 200000) (by omega) (by omega)

  omega

theorem dvq {x y d X Y D : Int} (hx : 0 ≤ x ∧ x ≤ X) (hy : 0 ≤ y ∧ y ≤ Y) (hd : 1 ≤ d ∧ d ≤ D) (h1 : X * Y ≤ 4611686018427387904) (h2 : X ≤ 4611686018427387904) (h3 : Y ≤ 4611686018427387904) (h4 : D ≤ 4611686018427387904) : DvIn x y d :=

  DvIn_by (X := X) (Y := Y) (by omega) (by omega) (by omega) (by omega) (by omega) (by omega) h1 h2 h3

theorem quarterThick {x0 x1 x2 : Int} (h : qe x0 x1 x2 = 0) : Spec Try.prog grow_QuarterThick_s ⟨[x0, x1, x2], [], []⟩ [(x2 * x1) * 10000 / (4 * x0), cdiv ((x2 * x1) * 10000) (4 * x0), 0] [] [] ∧ Spec Try.prog etalonref08_QuarterThick_s ⟨[x0, x1, x2], [], []⟩ [(x2 * x1) * 10000 / (4 * x0), cdiv ((x2 * x1) * 10000) (4 * x0)] [] [] := by

  obtain ⟨r0, r1, r2⟩ := qe_ok h

  have hN := N_rng r1 r2

  have hd : DvIn ((x2 * x1) * 10000) 1 (4 * x0) := dvq (X := 400000000000) (Y := 1) (D := 320000) hN (by omega) (by omega) (by decide) (by decide) (by decide) (by decide)

  have hl := lower_s hd

  have hu := upper_s hd

  rw [Int.mul_one] at hl hu

  obtain ⟨a, b, e, ⟨rfl, rfl, rfl⟩, hs⟩ := qtg r0 r1 r2 (R := fun a b e => a = (x2 * x1) * 10000 / (4 * x0) ∧ b = cdiv ((x2 * x1) * 10000) (4 * x0) ∧ e = 0) ⟨_, hl, _, hu, rfl, rfl, rfl⟩

  obtain ⟨a, b, ⟨rfl, rfl⟩, hs'⟩ := rqt r0 r1 r2 (R := fun a b => a = (x2 * x1) * 10000 / (4 * x0) ∧ b = cdiv ((x2 * x1) * 10000) (4 * x0)) ⟨_, floor_s (by omega) (by omega), _, ceil_s (by omega) (by omega), rfl, rfl⟩

  exact ⟨hs, hs'⟩

theorem quarterThick_no {x0 x1 x2 : Int} (r0 : I64 x0) (r1 : I64 x1) (r2 : I64 x2) (h : qe x0 x1 x2 ≠ 0) : Spec Try.prog grow_QuarterThick_s ⟨[x0, x1, x2], [], []⟩ [0, 0, qe x0 x1 x2] [] [] := by

  obtain ⟨a, b, e, ⟨rfl, rfl, rfl⟩, hs⟩ := qtb r0 r1 r2 (R := fun a b e => a = 0 ∧ b = 0 ∧ e = qe x0 x1 x2) ⟨_, checkQuarter_s r0 r1 r2, fun h' => absurd (by simpa using h') h, fun _ => ⟨rfl, rfl, rfl⟩⟩

  exact hs

theorem rateOf {x0 x1 x2 x3 x4 : Int} (h : qe x0 x1 x2 = 0) (h' : re 0 100000 x3 x4 = 0) (h0 : x3 ≠ 0) : ∃ a b, Spec Try.prog grow_RateOf_s ⟨[x0, x1, x2, x3, x4], [], []⟩ [a, b, 0] [] [] ∧ Spec Try.prog etalonref08_RateOf_s ⟨[x0, x1, x2, x3, x4], [], []⟩ [a, b] [] [] := by

  obtain ⟨r0, r1, r2⟩ := qe_ok h

  obtain ⟨r3, r4, h34⟩ := re_ok h'

  have hN := N_rng r1 r2

  have e1 : (((1000 * x2) * x1) * 10000) = (x2 * x1) * 10000 * 1000 := by grind

  have d4 := mul_rng' (x := 4 * x0) (y := x4) (X := 320000) (Y := 100000) (by omega) (by omega)

  have d3 := mul_rng' (x := 4 * x0) (y := x3) (X := 320000) (Y := 100000) (by omega) (by omega)

  have p4 : 1 ≤ (4 * x0) * x4 := Int.mul_pos (by omega) (by omega)

  have p3 : 1 ≤ (4 * x0) * x3 := Int.mul_pos (by omega) (by omega)

  have hl := lower_s (x := (x2 * x1) * 10000) (y := 1000) (d := (4 * x0) * x4) (dvq (X := 400000000000) (Y := 1000) (D := 32000000000) hN (by omega) (by omega) (by decide) (by decide) (by decide) (by decide))

  have hu := upper_s (x := (x2 * x1) * 10000) (y := 1000) (d := (4 * x0) * x3) (dvq (X := 400000000000) (Y := 1000) (D := 32000000000) hN (by omega) (by omega) (by decide) (by decide) (by decide) (by decide))

  refine ⟨(x2 * x1) * 10000 * 1000 / ((4 * x0) * x4), cdiv ((x2 * x1) * 10000 * 1000) ((4 * x0) * x3), ?_, ?_⟩

  · obtain ⟨a, b, e, ⟨rfl, rfl, rfl⟩, hs⟩ := rog r0 r1 r2 r3 r4 (R := fun a b e => a = (x2 * x1) * 10000 * 1000 / ((4 * x0) * x4) ∧ b = cdiv ((x2 * x1) * 10000 * 1000) ((4 * x0) * x3) ∧ e = 0)

      ⟨fun _ => ⟨fun h9 => absurd (by simpa using h9) h0, fun _ => ⟨_, hl, _, hu, rfl, rfl, rfl⟩⟩, fun h9 => absurd h34 (by simpa using h9)⟩

    exact hs

  · obtain ⟨a, b, ⟨rfl, rfl⟩, hs'⟩ := rro (x3 := x3) (x4 := x4) r0 r1 r2 (by omega) (by omega) (R := fun a b => a = (x2 * x1) * 10000 * 1000 / ((4 * x0) * x4) ∧ b = cdiv ((x2 * x1) * 10000 * 1000) ((4 * x0) * x3)) (by rw [e1]; exact ⟨_, floor_s (by omega) (by omega), _, ceil_s (by omega) (by omega), rfl, rfl⟩)

    exact hs'

theorem rateOf_no {x0 x1 x2 x3 x4 : Int} (r0 : I64 x0) (r1 : I64 x1) (r2 : I64 x2) (r3 : I64 x3) (r4 : I64 x4) (h : ¬ (qe x0 x1 x2 = 0 ∧ re 0 100000 x3 x4 = 0 ∧ x3 ≠ 0)) :

    Spec Try.prog grow_RateOf_s ⟨[x0, x1, x2, x3, x4], [], []⟩ [0, 0, if qe x0 x1 x2 ≠ 0 then qe x0 x1 x2 else if re 0 100000 x3 x4 ≠ 0 then re 0 100000 x3 x4 else 9] [] [] := by

  obtain ⟨a, b, e, ⟨rfl, rfl, rfl⟩, hs⟩ : ∃ a b e : Int, (a = 0 ∧ b = 0 ∧ e = if qe x0 x1 x2 ≠ 0 then qe x0 x1 x2 else if re 0 100000 x3 x4 ≠ 0 then re 0 100000 x3 x4 else 9) ∧ Spec Try.prog grow_RateOf_s ⟨[x0, x1, x2, x3, x4], [], []⟩ [a, b, e] [] [] := by

    refine rob r0 r1 r2 r3 r4 (R := fun a b e => a = 0 ∧ b = 0 ∧ e = if qe x0 x1 x2 ≠ 0 then qe x0 x1 x2 else if re 0 100000 x3 x4 ≠ 0 then re 0 100000 x3 x4 else 9) ⟨_, checkQuarter_s r0 r1 r2, _, checkSeconds_s r3 r4, ?_⟩

    simp only [beq_iff_eq, beq_eq_false_iff_ne, ne_eq]

    refine ⟨fun h1 => ⟨fun h2 => ⟨fun h3 => ?_, fun h3 => h ⟨h1, h2, h3⟩⟩, fun h2 => ?_⟩, fun h1 => ?_⟩

    · simp [h1, h2]

    · simp [h1, h2]

    · simp [h1]

  exact hs

theorem endAt {x0 x1 x2 x3 x4 x5 x6 : Int} (h : qe x0 x1 x2 = 0) (h' : re 1 1000000 x3 x4 = 0) (h2 : re 0 100000 x5 x6 = 0) : ∃ a b, (x2 * x1) * 10000 / (4 * x0) ≤ a ∧ cdiv ((x2 * x1) * 10000) (4 * x0) ≤ b ∧

    Spec Try.prog grow_EndAt_s ⟨[x0, x1, x2, x3, x4, x5, x6], [], []⟩ [a, b, 0] [] [] ∧ Spec Try.prog etalonref08_EndAt_s ⟨[x0, x1, x2, x3, x4, x5, x6], [], []⟩ [a, b] [] [] := by

  obtain ⟨r0, r1, r2⟩ := qe_ok h

  obtain ⟨r3, r4, h34⟩ := re_ok h'

  obtain ⟨r5, r6, h56⟩ := re_ok h2

  have hN := N_rng r1 r2

  have a1 := mul_rng' (x := x3) (y := x5) (X := 1000000) (Y := 100000) (by omega) (by omega)

  have a2 := mul_rng' (x := x4) (y := x6) (X := 1000000) (Y := 100000) (by omega) (by omega)

  have b1 := mul_rng' (x := x3 * x5) (y := 4 * x0) (X := 100000000000) (Y := 320000) (by omega) (by omega)

  have b2 := mul_rng' (x := x4 * x6) (y := 4 * x0) (X := 100000000000) (Y := 320000) (by omega) (by omega)

  have e1 : ((((1000 * x2) * x1) * 10000) + (((4 * x0) * x3) * x5)) = ((((x2 * x1) * 10000) * 1000) + ((x3 * x5) * (4 * x0))) := by grind

  have e2 : ((((1000 * x2) * x1) * 10000) + (((4 * x0) * x4) * x6)) = ((((x2 * x1) * 10000) * 1000) + ((x4 * x6) * (4 * x0))) := by grind

  have e3 : 1000 * (4 * x0) = (4 * x0) * 1000 := Int.mul_comm _ _

  have hl := lower_s (x := ((((x2 * x1) * 10000) * 1000) + ((x3 * x5) * (4 * x0)))) (y := 1) (d := (4 * x0) * 1000) (dvq (X := 40000000000000000) (Y := 1) (D := 320000000) (by omega) (by omega) (by omega) (by decide) (by decide) (by decide) (by decide))

  have hu := upper_s (x := ((((x2 * x1) * 10000) * 1000) + ((x4 * x6) * (4 * x0)))) (y := 1) (d := (4 * x0) * 1000) (dvq (X := 40000000000000000) (Y := 1) (D := 320000000) (by omega) (by omega) (by omega) (by decide) (by decide) (by decide) (by decide))

  rw [Int.mul_one] at hl hu

  generalize hn : (x2 * x1) * 10000 = N at *

  generalize hp : (x3 * x5) * (4 * x0) = p at *

  generalize hq : (x4 * x6) * (4 * x0) = q at *

  have f1 := Int.mul_ediv_add_emod N (4 * x0)

  have f2 := Int.emod_nonneg N (show 4 * x0 ≠ 0 by omega)

  refine ⟨(N * 1000 + p) / (4 * x0 * 1000), cdiv (N * 1000 + q) (4 * x0 * 1000), ?_, ?_, ?_, ?_⟩

  · rw [Int.le_ediv_iff_mul_le (by omega)]

    have : N / (4 * x0) * (4 * x0 * 1000) = 4 * x0 * (N / (4 * x0)) * 1000 := by grind

    rw [this]; omega

  · refine cdiv_least (by omega) ?_

    have g := (cdiv_spec' (N * 1000 + q) (d := 4 * x0 * 1000) (by omega)).1

    have : 4 * x0 * 1000 * cdiv (N * 1000 + q) (4 * x0 * 1000) = 4 * x0 * cdiv (N * 1000 + q) (4 * x0 * 1000) * 1000 := by grind

    rw [this] at g; omega

  · obtain ⟨a, b, e, ⟨rfl, rfl, rfl⟩, hs⟩ := eag r0 r1 r2 r3 r4 r5 r6 (R := fun a b e => a = (N * 1000 + p) / (4 * x0 * 1000) ∧ b = cdiv (N * 1000 + q) (4 * x0 * 1000) ∧ e = 0)

      (by rw [hn, hp, hq]; exact ⟨fun _ => ⟨fun _ => ⟨_, hl, _, hu, rfl, rfl, rfl⟩, fun h9 => absurd h56 (by simpa using h9)⟩, fun h9 => absurd h34 (by simpa using h9)⟩)

    exact hs

  · obtain ⟨a, b, ⟨rfl, rfl⟩, hs'⟩ := rea r0 r1 r2 r3 r4 r5 r6 (R := fun a b => a = (N * 1000 + p) / (4 * x0 * 1000) ∧ b = cdiv (N * 1000 + q) (4 * x0 * 1000)) (by rw [e1, e2, e3]; exact ⟨_, floor_s (by omega) (by omega), _, ceil_s (by omega) (by omega), rfl, rfl⟩)

    exact hs'

theorem endAt_no {x0 x1 x2 x3 x4 x5 x6 : Int} (r0 : I64 x0) (r1 : I64 x1) (r2 : I64 x2) (r3 : I64 x3) (r4 : I64 x4) (r5 : I64 x5) (r6 : I64 x6) (h : ¬ (qe x0 x1 x2 = 0 ∧ re 1 1000000 x3 x4 = 0 ∧ re 0 100000 x5 x6 = 0)) :

    Spec Try.prog grow_EndAt_s ⟨[x0, x1, x2, x3, x4, x5, x6], [], []⟩ [0, 0, if qe x0 x1 x2 ≠ 0 then qe x0 x1 x2 else if re 1 1000000 x3 x4 ≠ 0 then re 1 1000000 x3 x4 else re 0 100000 x5 x6] [] [] := by

  obtain ⟨a, b, e, ⟨rfl, rfl, rfl⟩, hs⟩ : ∃ a b e : Int, (a = 0 ∧ b = 0 ∧ e = if qe x0 x1 x2 ≠ 0 then qe x0 x1 x2 else if re 1 1000000 x3 x4 ≠ 0 then re 1 1000000 x3 x4 else re 0 100000 x5 x6) ∧ Spec Try.prog grow_EndAt_s ⟨[x0, x1, x2, x3, x4, x5, x6], [], []⟩ [a, b, e] [] [] := by

    refine eab r0 r1 r2 r3 r4 r5 r6 (R := fun a b e => a = 0 ∧ b = 0 ∧ e = if qe x0 x1 x2 ≠ 0 then qe x0 x1 x2 else if re 1 1000000 x3 x4 ≠ 0 then re 1 1000000 x3 x4 else re 0 100000 x5 x6) ⟨_, checkQuarter_s r0 r1 r2, _, checkRate_s r3 r4, _, checkSeconds_s r5 r6, ?_⟩

    simp only [beq_iff_eq, beq_eq_false_iff_ne, ne_eq]

    refine ⟨fun h1 => ⟨fun h2 => ⟨fun h3 => h ⟨h1, h2, h3⟩, fun h3 => ?_⟩, fun h2 => ?_⟩, fun h1 => ?_⟩

    · simp [h1, h2]

    · simp [h1, h2]

    · simp [h1]

  exact hs

end Go.Proofs.Ytnkajbaejojcgaa.Ev
