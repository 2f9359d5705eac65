/- Walks of group index and permittivity. -/
import Derived.Test.YtfgdockgdbdoiaaGreatFgq
namespace Go.Proofs.YtfgdockgdbdoiaaGreat.Ev
set_option linter.unusedSimpArgs false
open Go Go.RowKit
set_option linter.unusedVariables false
set_option maxRecDepth 100000
def _glass_table__group_s : Sig := ⟨144, ⟨8, 0, 3⟩, ⟨3, 0, 0⟩, [(.agg [(.strn (.var 0)), (.int .i64 (.var 1)), (.asl 0 (.var 2)), (.asl 1 (.var 3)), (.asl 2 (.var 4)), (.int .i64 (.var 5)), (.int .i64 (.var 6))]), (.int .i64 (.var 7))], [(some ⟨[], 3, true, false, (some ⟨(.var 2), [(.int .i64)], [(.avar 0)]⟩)⟩), (some ⟨[], 98, true, false, (some ⟨(.var 3), [(.float .f32)], [(.avar 1)]⟩)⟩), (some ⟨[], 98, true, false, (some ⟨(.var 4), [(.float .f32)], [(.avar 2)]⟩)⟩)], (.tuple [(.agg [(.int .i64 (.var 8)), (.int .i64 (.var 9))]), (.int .i64 (.var 10))]), []⟩
def _glass_formula__group_s : Sig := ⟨152, ⟨8, 0, 3⟩, ⟨3, 0, 0⟩, [(.agg [(.strn (.var 0)), (.int .i64 (.var 1)), (.asl 0 (.var 2)), (.asl 1 (.var 3)), (.asl 2 (.var 4)), (.int .i64 (.var 5)), (.int .i64 (.var 6))]), (.int .i64 (.var 7))], [(some ⟨[], 3, true, false, (some ⟨(.var 2), [(.int .i64)], [(.avar 0)]⟩)⟩), (some ⟨[], 98, true, false, (some ⟨(.var 3), [(.float .f32)], [(.avar 1)]⟩)⟩), (some ⟨[], 98, true, false, (some ⟨(.var 4), [(.float .f32)], [(.avar 2)]⟩)⟩)], (.tuple [(.agg [(.int .i64 (.var 8)), (.int .i64 (.var 9))]), (.int .i64 (.var 10))]), []⟩
def span_Quotient_s : Sig := ⟨72, ⟨2, 0, 0⟩, ⟨2, 0, 0⟩, [(.int .i64 (.var 0)), (.int .i64 (.var 1))], [], (.agg [(.int .i64 (.var 2)), (.int .i64 (.var 3))]), []⟩
def glass_GroupIndex_s : Sig := ⟨12, ⟨8, 0, 3⟩, ⟨3, 0, 0⟩, [(.agg [(.strn (.var 0)), (.int .i64 (.var 1)), (.asl 0 (.var 2)), (.asl 1 (.var 3)), (.asl 2 (.var 4)), (.int .i64 (.var 5)), (.int .i64 (.var 6))]), (.int .i64 (.var 7))], [(some ⟨[], 3, true, false, (some ⟨(.var 2), [(.int .i64)], [(.avar 0)]⟩)⟩), (some ⟨[], 98, true, false, (some ⟨(.var 3), [(.float .f32)], [(.avar 1)]⟩)⟩), (some ⟨[], 98, true, false, (some ⟨(.var 4), [(.float .f32)], [(.avar 2)]⟩)⟩)], (.tuple [(.agg [(.int .i64 (.var 8)), (.int .i64 (.var 9))]), (.int .i64 (.var 10))]), []⟩
def etalonref02_GroupIndex_s : Sig := ⟨18, ⟨8, 0, 3⟩, ⟨3, 0, 0⟩, [(.agg [(.strn (.var 0)), (.int .i64 (.var 1)), (.asl 0 (.var 2)), (.asl 1 (.var 3)), (.asl 2 (.var 4)), (.int .i64 (.var 5)), (.int .i64 (.var 6))]), (.int .i64 (.var 7))], [(some ⟨[], 3, true, false, (some ⟨(.var 2), [(.int .i64)], [(.avar 0)]⟩)⟩), (some ⟨[], 98, true, false, (some ⟨(.var 3), [(.float .f32)], [(.avar 1)]⟩)⟩), (some ⟨[], 98, true, false, (some ⟨(.var 4), [(.float .f32)], [(.avar 2)]⟩)⟩)], (.tuple [(.agg [(.int .i64 (.var 8)), (.int .i64 (.var 9))]), (.int .i64 (.var 10))]), []⟩
def glass_Permittivity_s : Sig := ⟨11, ⟨8, 0, 3⟩, ⟨4, 0, 0⟩, [(.agg [(.strn (.var 0)), (.int .i64 (.var 1)), (.asl 0 (.var 2)), (.asl 1 (.var 3)), (.asl 2 (.var 4)), (.int .i64 (.var 5)), (.int .i64 (.var 6))]), (.int .i64 (.var 7))], [(some ⟨[], 3, true, false, (some ⟨(.var 2), [(.int .i64)], [(.avar 0)]⟩)⟩), (some ⟨[], 98, true, false, (some ⟨(.var 3), [(.float .f32)], [(.avar 1)]⟩)⟩), (some ⟨[], 98, true, false, (some ⟨(.var 4), [(.float .f32)], [(.avar 2)]⟩)⟩)], (.tuple [(.agg [(.complex .f64 (.var 8) (.var 9)), (.int .i64 (.var 10))]), (.int .i64 (.var 11))]), []⟩
def etalonref02_Permittivity_s : Sig := ⟨16, ⟨2, 0, 0⟩, ⟨4, 0, 0⟩, [(.agg [(.int .i64 (.var 0)), (.int .i64 (.var 1))])], [], (.tuple [(.agg [(.int .i64 (.var 2)), (.int .i64 (.var 3)), (.int .i64 (.var 4))]), (.int .i64 (.var 5))]), []⟩
def ball_CheckBall_s : Sig := ⟨71, ⟨3, 0, 0⟩, ⟨1, 0, 0⟩, [(.agg [(.complex .f64 (.var 0) (.var 1)), (.int .i64 (.var 2))])], [], (.int .i64 (.var 3)), []⟩
def _etalonref01_B__Checked_s : Sig := ⟨45, ⟨3, 0, 0⟩, ⟨4, 0, 0⟩, [(.agg [(.int .i64 (.var 0)), (.int .i64 (.var 1)), (.int .i64 (.var 2))])], [], (.tuple [(.agg [(.int .i64 (.var 3)), (.int .i64 (.var 4)), (.int .i64 (.var 5))]), (.int .i64 (.var 6))]), []⟩
def etalonbase_Mod_s : Sig := ⟨74, ⟨2, 0, 0⟩, ⟨1, 0, 0⟩, [(.int .i64 (.var 0)), (.int .i64 (.var 1))], [], (.int .i64 (.var 2)), []⟩

def grp0_t : Tr :=
  (.ite (.icmp .eql (.var 2) (.lit 1))
  (.ret ⟨[(.lit 0), (.lit 0), (.lit 12)], [], []⟩ [])
  (.call _glass_table__gap_s ⟨[(.var 0), (.var 1), (.var 2), (.var 3), (.var 4), (.var 5), (.var 6), (.var 7)], [], [(.avar 0), (.avar 1), (.avar 2)]⟩ ⟨[(.var 0), (.var 1), (.var 2), (.var 3), (.var 4), (.var 5), (.var 6), (.var 7), (.var 8)], [], [(.avar 0), (.avar 1), (.avar 2)]⟩ ⟨148, [(.agg [(.strn (.var 0)), (.int .i64 (.var 1)), (.asl 0 (.var 2)), (.asl 1 (.var 3)), (.asl 2 (.var 4)), (.int .i64 (.var 5)), (.int .i64 (.var 6))]), (.int .i64 (.var 7))], [0, 1, 2], [(some ⟨[], 3, true, false, (some ⟨(.var 2), [(.int .i64)], [(.avar 0)]⟩)⟩), (some ⟨[], 98, true, false, (some ⟨(.var 3), [(.float .f32)], [(.avar 1)]⟩)⟩), (some ⟨[], 98, true, false, (some ⟨(.var 4), [(.float .f32)], [(.avar 2)]⟩)⟩), none, none], (.int .i64 (.var 8)), []⟩
   (.rng 8 0 62 (.ite (.icmp .leq (.var 3) (.var 8))
   .nil
   (.ite (.icmp .eql (.bin .f2iO (.sel (.avar 1) (.var 8)) (.lit 0)) (.lit 1))
    (.ite (.icmp .leq (.var 3) (.bin .addI (.var 8) (.lit 1)))
     .nil
     (.ite (.icmp .eql (.bin .f2iO (.sel (.avar 1) (.bin .addI (.var 8) (.lit 1))) (.lit 0)) (.lit 1))
      (.ite (.icmp .leq (.var 2) (.bin .addI (.var 8) (.lit 1)))
       .nil
       (.ite (.icmp .leq (.var 2) (.var 8))
        .nil
        (.ret ⟨[(.bin (.subW .i64) (.bin (.mulW .i64) (.bin .f2iV (.sel (.avar 1) (.var 8)) (.lit 0)) (.bin (.subW .i64) (.sel (.avar 0) (.bin .addI (.var 8) (.lit 1))) (.sel (.avar 0) (.var 8)))) (.bin (.mulW .i64) (.bin (.subW .i64) (.bin .f2iV (.sel (.avar 1) (.bin .addI (.var 8) (.lit 1))) (.lit 0)) (.bin .f2iV (.sel (.avar 1) (.var 8)) (.lit 0))) (.sel (.avar 0) (.var 8)))), (.bin (.subW .i64) (.sel (.avar 0) (.bin .addI (.var 8) (.lit 1))) (.sel (.avar 0) (.var 8))), (.lit 0)], [], []⟩ [])))
      .nil))
    .nil)))))
theorem grp0 {x0 x1 x2 x3 x4 x5 x6 x7 : Int} {f0 f1 f2 : Int → Int} (r1 : (-9223372036854775808) ≤ x1 ∧ x1 ≤ 9223372036854775807) (r2 : 1 ≤ x2 ∧ x2 ≤ 64) (r3 : 0 ≤ x3 ∧ x3 ≤ 140737488355328) (r4 : 0 ≤ x4 ∧ x4 ≤ 140737488355328) (r5 : (-9223372036854775808) ≤ x5 ∧ x5 ≤ 9223372036854775807) (r6 : (-9223372036854775808) ≤ x6 ∧ x6 ≤ 9223372036854775807) (r7 : (-9223372036854775808) ≤ x7 ∧ x7 ≤ 9223372036854775807) (s0 : ∀ q, (-9223372036854775808) ≤ f0 q ∧ f0 q ≤ 9223372036854775807) {R : Int → Int → Int → Prop}
  (H : ((((x2 : Int) == 1) = true → R (0) (0) (12)) ∧
   (((x2 : Int) == 1) = false → (∃ v8 : Int, Spec Tryz.prog _glass_table__gap_s ⟨[x0, x1, x2, x3, x4, x5, x6, x7], [], [f0, f1, f2]⟩ [v8] [] [] ∧
    ((0 ≤ (v8 : Int) ∧ (v8 : Int) ≤ 62) ∧ ((decide ((x3 : Int) ≤ v8) = true → False) ∧
    (decide ((x3 : Int) ≤ v8) = false → (((((NOp.den .f2iO (f1 v8) 0) : Int) == 1) = true → ((decide ((x3 : Int) ≤ (v8 + 1)) = true → False) ∧
      (decide ((x3 : Int) ≤ (v8 + 1)) = false → (((((NOp.den .f2iO (f1 (v8 + 1)) 0) : Int) == 1) = true → ((decide ((x2 : Int) ≤ (v8 + 1)) = true → False) ∧
        (decide ((x2 : Int) ≤ (v8 + 1)) = false → ((decide ((x2 : Int) ≤ v8) = true → False) ∧
         (decide ((x2 : Int) ≤ v8) = false → R (IntKind.i64.wrap (IntKind.i64.wrap ((NOp.den .f2iV (f1 v8) 0) * IntKind.i64.wrap ((f0 (v8 + 1)) - (f0 v8))) - IntKind.i64.wrap (IntKind.i64.wrap ((NOp.den .f2iV (f1 (v8 + 1)) 0) - (NOp.den .f2iV (f1 v8) 0)) * (f0 v8)))) (IntKind.i64.wrap ((f0 (v8 + 1)) - (f0 v8))) (0)))))) ∧
       ((((NOp.den .f2iO (f1 (v8 + 1)) 0) : Int) == 1) = false → False))))) ∧
     ((((NOp.den .f2iO (f1 v8) 0) : Int) == 1) = false → False))))))))) :
    ∃ v0 : Int, ∃ v1 : Int, ∃ v2 : Int, R v0 v1 v2 ∧ Spec Tryz.prog _glass_table__group_s ⟨[x0, x1, x2, x3, x4, x5, x6, x7], [], [f0, f1, f2]⟩ [v0, v1, v2] [] [] :=
  Eq.mp (by kernel_rfl) (exV_of (K := fun d => app3 _glass_table__group_s.out R d ∧ Spec Tryz.prog _glass_table__group_s ⟨[x0, x1, x2, x3, x4, x5, x6, x7], [], [f0, f1, f2]⟩ d.1 d.2.1 d.2.2) (tree_at mixed names S2_ok (S := S2 Tryz.prog) (lf := 100000) (d := 60) _glass_table__group_s grp0_t { ivs := [(1, (-9223372036854775808), 9223372036854775807), (2, 1, 64), (3, 0, 140737488355328), (4, 0, 140737488355328), (5, (-9223372036854775808), 9223372036854775807), (6, (-9223372036854775808), 9223372036854775807), (7, (-9223372036854775808), 9223372036854775807)], aivs := [(0, (-9223372036854775808), 9223372036854775807)] } ⟨[x0, x1, x2, x3, x4, x5, x6, x7], [], [f0, f1, f2]⟩ rfl (by kernel_rfl) (by kernel_rfl) (by kernel_rfl) ⟨(fc r1 (fc r2 (fc r3 (fc r4 (fc r5 (fc r6 (fc r7 fz))))))), fz, (fc s0 fz), fz⟩ (R := fun d => app3 _glass_table__group_s.out R d) (Eq.mp (by kernel_rfl) H)))

def frg0_t : Tr :=
  (.ret ⟨[(.bin .addI (.bin .mulI (.var 5) (.bin .mulI (.var 7) (.var 7))) (.bin .mulI (.bin .mulI (.lit 3) (.var 6)) (.lit 1000000))), (.bin .mulI (.var 7) (.var 7)), (.lit 0)], [], []⟩ [])
theorem frg0 {x0 x1 x2 x3 x4 x5 x6 x7 : Int} {f0 f1 f2 : Int → Int} (r1 : (-9223372036854775808) ≤ x1 ∧ x1 ≤ 9223372036854775807) (r2 : 0 ≤ x2 ∧ x2 ≤ 140737488355328) (r3 : 0 ≤ x3 ∧ x3 ≤ 140737488355328) (r4 : 0 ≤ x4 ∧ x4 ≤ 140737488355328) (r5 : 5000 ≤ x5 ∧ x5 ≤ 60000) (r6 : 0 ≤ x6 ∧ x6 ≤ 20000) (r7 : 1000 ≤ x7 ∧ x7 ≤ 200000) (s0 : ∀ q, (-9223372036854775808) ≤ f0 q ∧ f0 q ≤ 9223372036854775807) {R : Int → Int → Int → Prop}
  (H : R (((x5 * (x7 * x7)) + ((3 * x6) * 1000000))) ((x7 * x7)) (0)) :
    ∃ v0 : Int, ∃ v1 : Int, ∃ v2 : Int, R v0 v1 v2 ∧ Spec Tryz.prog _glass_formula__group_s ⟨[x0, x1, x2, x3, x4, x5, x6, x7], [], [f0, f1, f2]⟩ [v0, v1, v2] [] [] :=
  Eq.mp (by kernel_rfl) (exV_of (K := fun d => app3 _glass_formula__group_s.out R d ∧ Spec Tryz.prog _glass_formula__group_s ⟨[x0, x1, x2, x3, x4, x5, x6, x7], [], [f0, f1, f2]⟩ d.1 d.2.1 d.2.2) (tree_at mixed names S1_ok (S := S1 Tryz.prog) (lf := 100000) (d := 60) _glass_formula__group_s frg0_t { ivs := [(1, (-9223372036854775808), 9223372036854775807), (2, 0, 140737488355328), (3, 0, 140737488355328), (4, 0, 140737488355328), (5, 5000, 60000), (6, 0, 20000), (7, 1000, 200000)], aivs := [(0, (-9223372036854775808), 9223372036854775807)] } ⟨[x0, x1, x2, x3, x4, x5, x6, x7], [], [f0, f1, f2]⟩ rfl (by kernel_rfl) (by kernel_rfl) (by kernel_rfl) ⟨(fc r1 (fc r2 (fc r3 (fc r4 (fc r5 (fc r6 (fc r7 fz))))))), fz, (fc s0 fz), fz⟩ (R := fun d => app3 _glass_formula__group_s.out R d) (Eq.mp (by kernel_rfl) H)))

def quo0_t : Tr :=
  (.call whole_Lower_s ⟨[(.var 0), (.lit 1), (.var 1)], [], []⟩ ⟨[(.var 0), (.lit 1), (.var 1), (.var 2)], [], []⟩ ⟨59, [(.int .i64 (.var 0)), (.int .i64 (.lit 1)), (.int .i64 (.var 1))], [], [none], (.int .i64 (.var 2)), []⟩
  (.call whole_Upper_s ⟨[(.var 0), (.lit 1), (.var 1)], [], []⟩ ⟨[(.var 0), (.lit 1), (.var 1), (.var 3)], [], []⟩ ⟨60, [(.int .i64 (.var 0)), (.int .i64 (.lit 1)), (.int .i64 (.var 1))], [], [none], (.int .i64 (.var 3)), []⟩
  (.ret ⟨[(.var 2), (.var 3)], [], []⟩ [])))
theorem quo0 {x0 x1 : Int} (r0 : (-4000000000000000000) ≤ x0 ∧ x0 ≤ 4000000000000000000) (r1 : 1 ≤ x1 ∧ x1 ≤ 9000000000000000000) {R : Int → Int → Prop}
  (H : (∃ v2 : Int, Spec Tryz.prog whole_Lower_s ⟨[x0, 1, x1], [], []⟩ [v2] [] [] ∧
   (∃ v3 : Int, Spec Tryz.prog whole_Upper_s ⟨[x0, 1, x1], [], []⟩ [v3] [] [] ∧
   R (v2) (v3)))) :
    ∃ v0 : Int, ∃ v1 : Int, R v0 v1 ∧ Spec Tryz.prog span_Quotient_s ⟨[x0, x1], [], []⟩ [v0, v1] [] [] :=
  Eq.mp (by kernel_rfl) (exV_of (K := fun d => app3 span_Quotient_s.out R d ∧ Spec Tryz.prog span_Quotient_s ⟨[x0, x1], [], []⟩ d.1 d.2.1 d.2.2) (tree_at mixed names S1_ok (S := S1 Tryz.prog) (lf := 100000) (d := 60) span_Quotient_s quo0_t { ivs := [(0, (-4000000000000000000), 4000000000000000000), (1, 1, 9000000000000000000)], aivs := [] } ⟨[x0, x1], [], []⟩ rfl (by kernel_rfl) (by kernel_rfl) (by kernel_rfl) ⟨(fc r0 (fc r1 fz)), fz, fz, fz⟩ (R := fun d => app3 span_Quotient_s.out R d) (Eq.mp (by kernel_rfl) H)))

def gin0_t : Tr :=
  (.call glass_CheckGlass_s ⟨[(.var 0), (.var 1), (.var 2), (.var 3), (.var 4), (.var 5), (.var 6)], [], [(.avar 0), (.avar 1), (.avar 2)]⟩ ⟨[(.var 0), (.var 1), (.var 2), (.var 3), (.var 4), (.var 5), (.var 6), (.var 8), (.var 9)], [], [(.avar 0), (.avar 1), (.avar 2)]⟩ ⟨79, [(.agg [(.strn (.var 0)), (.int .i64 (.var 1)), (.asl 0 (.var 2)), (.asl 1 (.var 3)), (.asl 2 (.var 4)), (.int .i64 (.var 5)), (.int .i64 (.var 6))])], [0, 1, 2], [(some ⟨[], 3, true, false, (some ⟨(.var 2), [(.int .i64)], [(.avar 0)]⟩)⟩), (some ⟨[], 98, true, false, (some ⟨(.var 3), [(.float .f32)], [(.avar 1)]⟩)⟩), (some ⟨[], 98, true, false, (some ⟨(.var 4), [(.float .f32)], [(.avar 2)]⟩)⟩), none, none, none, none], (.tuple [(.int .i64 (.var 8)), (.int .i64 (.var 9))]), []⟩
  (.ite (.icmp .eql (.var 9) (.lit 0))
  (.ite (.icmp .eql (.var 1) (.lit 1))
   (.ite (.icmp .leq (.lit 1000) (.var 7))
    (.ite (.icmp .leq (.var 7) (.lit 200000))
     (.ite (.icmp .leq (.var 2) (.lit 0))
      .nil
      (.fact (.icmp .leq (.var 2) (.bin .subI (.var 2) (.lit 1))) false (.ite (.icmp .leq (.sel (.avar 0) (.lit 0)) (.var 7))
       (.ite (.icmp .leq (.var 7) (.sel (.avar 0) (.bin .subI (.var 2) (.lit 1))))
        (.call _glass_table__group_s ⟨[(.var 0), (.var 1), (.var 2), (.var 3), (.var 4), (.var 5), (.var 6), (.var 7)], [], [(.avar 0), (.avar 1), (.avar 2)]⟩ ⟨[(.var 0), (.var 1), (.var 2), (.var 3), (.var 4), (.var 5), (.var 6), (.var 7), (.var 10), (.var 11), (.var 12)], [], [(.avar 0), (.avar 1), (.avar 2)]⟩ ⟨144, [(.agg [(.strn (.var 0)), (.int .i64 (.var 1)), (.asl 0 (.var 2)), (.asl 1 (.var 3)), (.asl 2 (.var 4)), (.int .i64 (.var 5)), (.int .i64 (.var 6))]), (.int .i64 (.var 7))], [0, 1, 2], [(some ⟨[], 3, true, false, (some ⟨(.var 2), [(.int .i64)], [(.avar 0)]⟩)⟩), (some ⟨[], 98, true, false, (some ⟨(.var 3), [(.float .f32)], [(.avar 1)]⟩)⟩), (some ⟨[], 98, true, false, (some ⟨(.var 4), [(.float .f32)], [(.avar 2)]⟩)⟩), none, none], (.tuple [(.agg [(.int .i64 (.var 10)), (.int .i64 (.var 11))]), (.int .i64 (.var 12))]), []⟩
         (.ite (.icmp .eql (.var 12) (.lit 0))
         (.call span_Quotient_s ⟨[(.var 10), (.var 11)], [], []⟩ ⟨[(.var 10), (.var 11), (.var 13), (.var 14)], [], []⟩ ⟨72, [(.int .i64 (.var 10)), (.int .i64 (.var 11))], [], [none, none, none, none, none, none, none, none], (.agg [(.int .i64 (.var 13)), (.int .i64 (.var 14))]), []⟩
          (.ret ⟨[(.var 13), (.var 14), (.lit 0)], [], []⟩ []))
         (.ret ⟨[(.lit 0), (.lit 0), (.var 12)], [], []⟩ [])))
        (.ret ⟨[(.lit 0), (.lit 0), (.lit 17)], [], []⟩ []))
       (.ret ⟨[(.lit 0), (.lit 0), (.lit 17)], [], []⟩ []))))
     (.ret ⟨[(.lit 0), (.lit 0), (.lit 2)], [], []⟩ []))
    (.ret ⟨[(.lit 0), (.lit 0), (.lit 2)], [], []⟩ []))
   (.ite (.icmp .eql (.var 1) (.lit 2))
    (.ite (.icmp .leq (.lit 1000) (.var 7))
     (.ite (.icmp .leq (.var 7) (.lit 200000))
      (.call _glass_formula__group_s ⟨[(.var 0), (.var 1), (.var 2), (.var 3), (.var 4), (.var 5), (.var 6), (.var 7)], [], [(.avar 0), (.avar 1), (.avar 2)]⟩ ⟨[(.var 0), (.var 1), (.var 2), (.var 3), (.var 4), (.var 5), (.var 6), (.var 7), (.var 10), (.var 11), (.var 12)], [], [(.avar 0), (.avar 1), (.avar 2)]⟩ ⟨152, [(.agg [(.strn (.var 0)), (.int .i64 (.var 1)), (.asl 0 (.var 2)), (.asl 1 (.var 3)), (.asl 2 (.var 4)), (.int .i64 (.var 5)), (.int .i64 (.var 6))]), (.int .i64 (.var 7))], [0, 1, 2], [(some ⟨[], 3, true, false, (some ⟨(.var 2), [(.int .i64)], [(.avar 0)]⟩)⟩), (some ⟨[], 98, true, false, (some ⟨(.var 3), [(.float .f32)], [(.avar 1)]⟩)⟩), (some ⟨[], 98, true, false, (some ⟨(.var 4), [(.float .f32)], [(.avar 2)]⟩)⟩), none, none], (.tuple [(.agg [(.int .i64 (.var 10)), (.int .i64 (.var 11))]), (.int .i64 (.var 12))]), []⟩
       (.ite (.icmp .eql (.var 12) (.lit 0))
       (.call span_Quotient_s ⟨[(.var 10), (.var 11)], [], []⟩ ⟨[(.var 10), (.var 11), (.var 13), (.var 14)], [], []⟩ ⟨72, [(.int .i64 (.var 10)), (.int .i64 (.var 11))], [], [none, none, none, none, none, none, none, none], (.agg [(.int .i64 (.var 13)), (.int .i64 (.var 14))]), []⟩
        (.ret ⟨[(.var 13), (.var 14), (.lit 0)], [], []⟩ []))
       (.ret ⟨[(.lit 0), (.lit 0), (.var 12)], [], []⟩ [])))
      (.ret ⟨[(.lit 0), (.lit 0), (.lit 2)], [], []⟩ []))
     (.ret ⟨[(.lit 0), (.lit 0), (.lit 2)], [], []⟩ []))
    (.ite (.icmp .leq (.lit 1000) (.var 7))
     (.ite (.icmp .leq (.var 7) (.lit 200000))
      .nil
      (.ret ⟨[(.lit 0), (.lit 0), (.lit 2)], [], []⟩ []))
     (.ret ⟨[(.lit 0), (.lit 0), (.lit 2)], [], []⟩ []))))
  (.ret ⟨[(.lit 0), (.lit 0), (.var 9)], [], []⟩ [])))
theorem gin0 {x0 x1 x2 x3 x4 x5 x6 x7 : Int} {f0 f1 f2 : Int → Int} (r1 : (-9223372036854775808) ≤ x1 ∧ x1 ≤ 9223372036854775807) (r2 : 0 ≤ x2 ∧ x2 ≤ 140737488355328) (r3 : 0 ≤ x3 ∧ x3 ≤ 140737488355328) (r4 : 0 ≤ x4 ∧ x4 ≤ 140737488355328) (r5 : (-9223372036854775808) ≤ x5 ∧ x5 ≤ 9223372036854775807) (r6 : (-9223372036854775808) ≤ x6 ∧ x6 ≤ 9223372036854775807) (r7 : (-9223372036854775808) ≤ x7 ∧ x7 ≤ 9223372036854775807) (s0 : ∀ q, (-9223372036854775808) ≤ f0 q ∧ f0 q ≤ 9223372036854775807) {R : Int → Int → Int → Prop}
  (H : (∃ v8 : Int, ∃ v9 : Int, Spec Tryz.prog glass_CheckGlass_s ⟨[x0, x1, x2, x3, x4, x5, x6], [], [f0, f1, f2]⟩ [v8, v9] [] [] ∧
   ((((v9 : Int) == 0) = true → ((((x1 : Int) == 1) = true → ((decide ((1000 : Int) ≤ x7) = true → ((decide ((x7 : Int) ≤ 200000) = true → ((decide ((x2 : Int) ≤ 0) = true → False) ∧
       (decide ((x2 : Int) ≤ 0) = false → (decide ((x2 : Int) ≤ (x2 - 1)) = false ∧ ((decide (((f0 0) : Int) ≤ x7) = true → ((decide ((x7 : Int) ≤ (f0 (x2 - 1))) = true → (∃ v10 : Int, ∃ v11 : Int, ∃ v12 : Int, Spec Tryz.prog _glass_table__group_s ⟨[x0, x1, x2, x3, x4, x5, x6, x7], [], [f0, f1, f2]⟩ [v10, v11, v12] [] [] ∧
          ((((v12 : Int) == 0) = true → (∃ v13 : Int, ∃ v14 : Int, Spec Tryz.prog span_Quotient_s ⟨[v10, v11], [], []⟩ [v13, v14] [] [] ∧
           R (v13) (v14) (0))) ∧
          (((v12 : Int) == 0) = false → R (0) (0) (v12))))) ∧
         (decide ((x7 : Int) ≤ (f0 (x2 - 1))) = false → R (0) (0) (17)))) ∧
        (decide (((f0 0) : Int) ≤ x7) = false → R (0) (0) (17))))))) ∧
      (decide ((x7 : Int) ≤ 200000) = false → R (0) (0) (2)))) ∧
     (decide ((1000 : Int) ≤ x7) = false → R (0) (0) (2)))) ∧
    (((x1 : Int) == 1) = false → ((((x1 : Int) == 2) = true → ((decide ((1000 : Int) ≤ x7) = true → ((decide ((x7 : Int) ≤ 200000) = true → (∃ v10 : Int, ∃ v11 : Int, ∃ v12 : Int, Spec Tryz.prog _glass_formula__group_s ⟨[x0, x1, x2, x3, x4, x5, x6, x7], [], [f0, f1, f2]⟩ [v10, v11, v12] [] [] ∧
        ((((v12 : Int) == 0) = true → (∃ v13 : Int, ∃ v14 : Int, Spec Tryz.prog span_Quotient_s ⟨[v10, v11], [], []⟩ [v13, v14] [] [] ∧
         R (v13) (v14) (0))) ∧
        (((v12 : Int) == 0) = false → R (0) (0) (v12))))) ∧
       (decide ((x7 : Int) ≤ 200000) = false → R (0) (0) (2)))) ∧
      (decide ((1000 : Int) ≤ x7) = false → R (0) (0) (2)))) ∧
     (((x1 : Int) == 2) = false → ((decide ((1000 : Int) ≤ x7) = true → ((decide ((x7 : Int) ≤ 200000) = true → False) ∧
       (decide ((x7 : Int) ≤ 200000) = false → R (0) (0) (2)))) ∧
      (decide ((1000 : Int) ≤ x7) = false → R (0) (0) (2)))))))) ∧
   (((v9 : Int) == 0) = false → R (0) (0) (v9))))) :
    ∃ v0 : Int, ∃ v1 : Int, ∃ v2 : Int, R v0 v1 v2 ∧ Spec Tryz.prog glass_GroupIndex_s ⟨[x0, x1, x2, x3, x4, x5, x6, x7], [], [f0, f1, f2]⟩ [v0, v1, v2] [] [] :=
  Eq.mp (by kernel_rfl) (exV_of (K := fun d => app3 glass_GroupIndex_s.out R d ∧ Spec Tryz.prog glass_GroupIndex_s ⟨[x0, x1, x2, x3, x4, x5, x6, x7], [], [f0, f1, f2]⟩ d.1 d.2.1 d.2.2) (tree_at mixed names S2_ok (S := S2 Tryz.prog) (lf := 100000) (d := 60) glass_GroupIndex_s gin0_t { ivs := [(1, (-9223372036854775808), 9223372036854775807), (2, 0, 140737488355328), (3, 0, 140737488355328), (4, 0, 140737488355328), (5, (-9223372036854775808), 9223372036854775807), (6, (-9223372036854775808), 9223372036854775807), (7, (-9223372036854775808), 9223372036854775807)], aivs := [(0, (-9223372036854775808), 9223372036854775807)] } ⟨[x0, x1, x2, x3, x4, x5, x6, x7], [], [f0, f1, f2]⟩ rfl (by kernel_rfl) (by kernel_rfl) (by kernel_rfl) ⟨(fc r1 (fc r2 (fc r3 (fc r4 (fc r5 (fc r6 (fc r7 fz))))))), fz, (fc s0 fz), fz⟩ (R := fun d => app3 glass_GroupIndex_s.out R d) (Eq.mp (by kernel_rfl) H)))

def rgi0_t : Tr :=
  (.ite (.icmp .eql (.var 1) (.lit 2))
  (.call etalonbase_Floor_s ⟨[(.bin (.addW .i64) (.bin (.mulW .i64) (.bin (.mulW .i64) (.var 5) (.var 7)) (.var 7)) (.bin (.mulW .i64) (.bin (.mulW .i64) (.lit 3) (.var 6)) (.lit 1000000))), (.bin (.mulW .i64) (.var 7) (.var 7))], [], []⟩ ⟨[(.bin (.addW .i64) (.bin (.mulW .i64) (.bin (.mulW .i64) (.var 5) (.var 7)) (.var 7)) (.bin (.mulW .i64) (.bin (.mulW .i64) (.lit 3) (.var 6)) (.lit 1000000))), (.bin (.mulW .i64) (.var 7) (.var 7)), (.var 8)], [], []⟩ ⟨49, [(.int .i64 (.bin (.addW .i64) (.bin (.mulW .i64) (.bin (.mulW .i64) (.var 5) (.var 7)) (.var 7)) (.bin (.mulW .i64) (.bin (.mulW .i64) (.lit 3) (.var 6)) (.lit 1000000)))), (.int .i64 (.bin (.mulW .i64) (.var 7) (.var 7)))], [], [none, none, none, none, none, none], (.int .i64 (.var 8)), []⟩
   (.call etalonbase_Ceil_s ⟨[(.bin (.addW .i64) (.bin (.mulW .i64) (.bin (.mulW .i64) (.var 5) (.var 7)) (.var 7)) (.bin (.mulW .i64) (.bin (.mulW .i64) (.lit 3) (.var 6)) (.lit 1000000))), (.bin (.mulW .i64) (.var 7) (.var 7))], [], []⟩ ⟨[(.bin (.addW .i64) (.bin (.mulW .i64) (.bin (.mulW .i64) (.var 5) (.var 7)) (.var 7)) (.bin (.mulW .i64) (.bin (.mulW .i64) (.lit 3) (.var 6)) (.lit 1000000))), (.bin (.mulW .i64) (.var 7) (.var 7)), (.var 9)], [], []⟩ ⟨50, [(.int .i64 (.bin (.addW .i64) (.bin (.mulW .i64) (.bin (.mulW .i64) (.var 5) (.var 7)) (.var 7)) (.bin (.mulW .i64) (.bin (.mulW .i64) (.lit 3) (.var 6)) (.lit 1000000)))), (.int .i64 (.bin (.mulW .i64) (.var 7) (.var 7)))], [], [none, none, none, none, none, none], (.int .i64 (.var 9)), []⟩
   (.ret ⟨[(.var 8), (.var 9), (.lit 0)], [], []⟩ [])))
  (.ite (.icmp .eql (.var 2) (.lit 1))
   (.ret ⟨[(.lit 0), (.lit 0), (.lit 12)], [], []⟩ [])
   (.call etalonref02_row_s ⟨[(.var 0), (.var 1), (.var 2), (.var 3), (.var 4), (.var 5), (.var 6), (.var 7)], [], [(.avar 0), (.avar 1), (.avar 2)]⟩ ⟨[(.var 0), (.var 1), (.var 2), (.var 3), (.var 4), (.var 5), (.var 6), (.var 7), (.var 8)], [], [(.avar 0), (.avar 1), (.avar 2)]⟩ ⟨48, [(.agg [(.strn (.var 0)), (.int .i64 (.var 1)), (.asl 0 (.var 2)), (.asl 1 (.var 3)), (.asl 2 (.var 4)), (.int .i64 (.var 5)), (.int .i64 (.var 6))]), (.int .i64 (.var 7))], [0, 1, 2], [(some ⟨[], 3, true, false, (some ⟨(.var 2), [(.int .i64)], [(.avar 0)]⟩)⟩), (some ⟨[], 98, true, false, (some ⟨(.var 3), [(.float .f32)], [(.avar 1)]⟩)⟩), (some ⟨[], 98, true, false, (some ⟨(.var 4), [(.float .f32)], [(.avar 2)]⟩)⟩), none, none, none], (.int .i64 (.var 8)), []⟩
    (.rng 8 0 63 (.ite (.icmp .leq (.lit 0) (.bin .minI (.var 8) (.bin .subI (.var 2) (.lit 2))))
    (.ite (.icmp .leq (.var 3) (.bin .minI (.var 8) (.bin .subI (.var 2) (.lit 2))))
     .nil
     (.ite (.icmp .eql (.bin .f2iO (.sel (.avar 1) (.bin .minI (.var 8) (.bin .subI (.var 2) (.lit 2)))) (.lit 0)) (.lit 1))
      (.ite (.icmp .leq (.lit 0) (.bin .addI (.bin .minI (.var 8) (.bin .subI (.var 2) (.lit 2))) (.lit 1)))
       (.ite (.icmp .leq (.var 3) (.bin .addI (.bin .minI (.var 8) (.bin .subI (.var 2) (.lit 2))) (.lit 1)))
        .nil
        (.ite (.icmp .eql (.bin .f2iO (.sel (.avar 1) (.bin .addI (.bin .minI (.var 8) (.bin .subI (.var 2) (.lit 2))) (.lit 1))) (.lit 0)) (.lit 1))
         (.ite (.icmp .leq (.var 2) (.bin .addI (.bin .minI (.var 8) (.bin .subI (.var 2) (.lit 2))) (.lit 1)))
          .nil
          (.ite (.icmp .leq (.var 2) (.bin .minI (.var 8) (.bin .subI (.var 2) (.lit 2))))
           .nil
           (.call etalonbase_Floor_s ⟨[(.bin (.subW .i64) (.bin (.addW .i64) (.bin (.mulW .i64) (.bin .f2iV (.sel (.avar 1) (.bin .minI (.var 8) (.bin .subI (.var 2) (.lit 2)))) (.lit 0)) (.bin (.subW .i64) (.bin (.subW .i64) (.sel (.avar 0) (.bin .addI (.bin .minI (.var 8) (.bin .subI (.var 2) (.lit 2))) (.lit 1))) (.sel (.avar 0) (.bin .minI (.var 8) (.bin .subI (.var 2) (.lit 2))))) (.bin (.subW .i64) (.var 7) (.sel (.avar 0) (.bin .minI (.var 8) (.bin .subI (.var 2) (.lit 2))))))) (.bin (.mulW .i64) (.bin .f2iV (.sel (.avar 1) (.bin .addI (.bin .minI (.var 8) (.bin .subI (.var 2) (.lit 2))) (.lit 1))) (.lit 0)) (.bin (.subW .i64) (.var 7) (.sel (.avar 0) (.bin .minI (.var 8) (.bin .subI (.var 2) (.lit 2))))))) (.bin (.mulW .i64) (.var 7) (.bin (.subW .i64) (.bin .f2iV (.sel (.avar 1) (.bin .addI (.bin .minI (.var 8) (.bin .subI (.var 2) (.lit 2))) (.lit 1))) (.lit 0)) (.bin .f2iV (.sel (.avar 1) (.bin .minI (.var 8) (.bin .subI (.var 2) (.lit 2)))) (.lit 0))))), (.bin (.subW .i64) (.sel (.avar 0) (.bin .addI (.bin .minI (.var 8) (.bin .subI (.var 2) (.lit 2))) (.lit 1))) (.sel (.avar 0) (.bin .minI (.var 8) (.bin .subI (.var 2) (.lit 2)))))], [], []⟩ ⟨[(.bin (.subW .i64) (.bin (.addW .i64) (.bin (.mulW .i64) (.bin .f2iV (.sel (.avar 1) (.bin .minI (.var 8) (.bin .subI (.var 2) (.lit 2)))) (.lit 0)) (.bin (.subW .i64) (.bin (.subW .i64) (.sel (.avar 0) (.bin .addI (.bin .minI (.var 8) (.bin .subI (.var 2) (.lit 2))) (.lit 1))) (.sel (.avar 0) (.bin .minI (.var 8) (.bin .subI (.var 2) (.lit 2))))) (.bin (.subW .i64) (.var 7) (.sel (.avar 0) (.bin .minI (.var 8) (.bin .subI (.var 2) (.lit 2))))))) (.bin (.mulW .i64) (.bin .f2iV (.sel (.avar 1) (.bin .addI (.bin .minI (.var 8) (.bin .subI (.var 2) (.lit 2))) (.lit 1))) (.lit 0)) (.bin (.subW .i64) (.var 7) (.sel (.avar 0) (.bin .minI (.var 8) (.bin .subI (.var 2) (.lit 2))))))) (.bin (.mulW .i64) (.var 7) (.bin (.subW .i64) (.bin .f2iV (.sel (.avar 1) (.bin .addI (.bin .minI (.var 8) (.bin .subI (.var 2) (.lit 2))) (.lit 1))) (.lit 0)) (.bin .f2iV (.sel (.avar 1) (.bin .minI (.var 8) (.bin .subI (.var 2) (.lit 2)))) (.lit 0))))), (.bin (.subW .i64) (.sel (.avar 0) (.bin .addI (.bin .minI (.var 8) (.bin .subI (.var 2) (.lit 2))) (.lit 1))) (.sel (.avar 0) (.bin .minI (.var 8) (.bin .subI (.var 2) (.lit 2))))), (.var 9)], [], []⟩ ⟨49, [(.int .i64 (.bin (.subW .i64) (.bin (.addW .i64) (.bin (.mulW .i64) (.bin .f2iV (.sel (.avar 1) (.bin .minI (.var 8) (.bin .subI (.var 2) (.lit 2)))) (.lit 0)) (.bin (.subW .i64) (.bin (.subW .i64) (.sel (.avar 0) (.bin .addI (.bin .minI (.var 8) (.bin .subI (.var 2) (.lit 2))) (.lit 1))) (.sel (.avar 0) (.bin .minI (.var 8) (.bin .subI (.var 2) (.lit 2))))) (.bin (.subW .i64) (.var 7) (.sel (.avar 0) (.bin .minI (.var 8) (.bin .subI (.var 2) (.lit 2))))))) (.bin (.mulW .i64) (.bin .f2iV (.sel (.avar 1) (.bin .addI (.bin .minI (.var 8) (.bin .subI (.var 2) (.lit 2))) (.lit 1))) (.lit 0)) (.bin (.subW .i64) (.var 7) (.sel (.avar 0) (.bin .minI (.var 8) (.bin .subI (.var 2) (.lit 2))))))) (.bin (.mulW .i64) (.var 7) (.bin (.subW .i64) (.bin .f2iV (.sel (.avar 1) (.bin .addI (.bin .minI (.var 8) (.bin .subI (.var 2) (.lit 2))) (.lit 1))) (.lit 0)) (.bin .f2iV (.sel (.avar 1) (.bin .minI (.var 8) (.bin .subI (.var 2) (.lit 2)))) (.lit 0)))))), (.int .i64 (.bin (.subW .i64) (.sel (.avar 0) (.bin .addI (.bin .minI (.var 8) (.bin .subI (.var 2) (.lit 2))) (.lit 1))) (.sel (.avar 0) (.bin .minI (.var 8) (.bin .subI (.var 2) (.lit 2))))))], [], [none, none, none, none, none, none], (.int .i64 (.var 9)), []⟩
            (.call etalonbase_Ceil_s ⟨[(.bin (.subW .i64) (.bin (.addW .i64) (.bin (.mulW .i64) (.bin .f2iV (.sel (.avar 1) (.bin .minI (.var 8) (.bin .subI (.var 2) (.lit 2)))) (.lit 0)) (.bin (.subW .i64) (.bin (.subW .i64) (.sel (.avar 0) (.bin .addI (.bin .minI (.var 8) (.bin .subI (.var 2) (.lit 2))) (.lit 1))) (.sel (.avar 0) (.bin .minI (.var 8) (.bin .subI (.var 2) (.lit 2))))) (.bin (.subW .i64) (.var 7) (.sel (.avar 0) (.bin .minI (.var 8) (.bin .subI (.var 2) (.lit 2))))))) (.bin (.mulW .i64) (.bin .f2iV (.sel (.avar 1) (.bin .addI (.bin .minI (.var 8) (.bin .subI (.var 2) (.lit 2))) (.lit 1))) (.lit 0)) (.bin (.subW .i64) (.var 7) (.sel (.avar 0) (.bin .minI (.var 8) (.bin .subI (.var 2) (.lit 2))))))) (.bin (.mulW .i64) (.var 7) (.bin (.subW .i64) (.bin .f2iV (.sel (.avar 1) (.bin .addI (.bin .minI (.var 8) (.bin .subI (.var 2) (.lit 2))) (.lit 1))) (.lit 0)) (.bin .f2iV (.sel (.avar 1) (.bin .minI (.var 8) (.bin .subI (.var 2) (.lit 2)))) (.lit 0))))), (.bin (.subW .i64) (.sel (.avar 0) (.bin .addI (.bin .minI (.var 8) (.bin .subI (.var 2) (.lit 2))) (.lit 1))) (.sel (.avar 0) (.bin .minI (.var 8) (.bin .subI (.var 2) (.lit 2)))))], [], []⟩ ⟨[(.bin (.subW .i64) (.bin (.addW .i64) (.bin (.mulW .i64) (.bin .f2iV (.sel (.avar 1) (.bin .minI (.var 8) (.bin .subI (.var 2) (.lit 2)))) (.lit 0)) (.bin (.subW .i64) (.bin (.subW .i64) (.sel (.avar 0) (.bin .addI (.bin .minI (.var 8) (.bin .subI (.var 2) (.lit 2))) (.lit 1))) (.sel (.avar 0) (.bin .minI (.var 8) (.bin .subI (.var 2) (.lit 2))))) (.bin (.subW .i64) (.var 7) (.sel (.avar 0) (.bin .minI (.var 8) (.bin .subI (.var 2) (.lit 2))))))) (.bin (.mulW .i64) (.bin .f2iV (.sel (.avar 1) (.bin .addI (.bin .minI (.var 8) (.bin .subI (.var 2) (.lit 2))) (.lit 1))) (.lit 0)) (.bin (.subW .i64) (.var 7) (.sel (.avar 0) (.bin .minI (.var 8) (.bin .subI (.var 2) (.lit 2))))))) (.bin (.mulW .i64) (.var 7) (.bin (.subW .i64) (.bin .f2iV (.sel (.avar 1) (.bin .addI (.bin .minI (.var 8) (.bin .subI (.var 2) (.lit 2))) (.lit 1))) (.lit 0)) (.bin .f2iV (.sel (.avar 1) (.bin .minI (.var 8) (.bin .subI (.var 2) (.lit 2)))) (.lit 0))))), (.bin (.subW .i64) (.sel (.avar 0) (.bin .addI (.bin .minI (.var 8) (.bin .subI (.var 2) (.lit 2))) (.lit 1))) (.sel (.avar 0) (.bin .minI (.var 8) (.bin .subI (.var 2) (.lit 2))))), (.var 10)], [], []⟩ ⟨50, [(.int .i64 (.bin (.subW .i64) (.bin (.addW .i64) (.bin (.mulW .i64) (.bin .f2iV (.sel (.avar 1) (.bin .minI (.var 8) (.bin .subI (.var 2) (.lit 2)))) (.lit 0)) (.bin (.subW .i64) (.bin (.subW .i64) (.sel (.avar 0) (.bin .addI (.bin .minI (.var 8) (.bin .subI (.var 2) (.lit 2))) (.lit 1))) (.sel (.avar 0) (.bin .minI (.var 8) (.bin .subI (.var 2) (.lit 2))))) (.bin (.subW .i64) (.var 7) (.sel (.avar 0) (.bin .minI (.var 8) (.bin .subI (.var 2) (.lit 2))))))) (.bin (.mulW .i64) (.bin .f2iV (.sel (.avar 1) (.bin .addI (.bin .minI (.var 8) (.bin .subI (.var 2) (.lit 2))) (.lit 1))) (.lit 0)) (.bin (.subW .i64) (.var 7) (.sel (.avar 0) (.bin .minI (.var 8) (.bin .subI (.var 2) (.lit 2))))))) (.bin (.mulW .i64) (.var 7) (.bin (.subW .i64) (.bin .f2iV (.sel (.avar 1) (.bin .addI (.bin .minI (.var 8) (.bin .subI (.var 2) (.lit 2))) (.lit 1))) (.lit 0)) (.bin .f2iV (.sel (.avar 1) (.bin .minI (.var 8) (.bin .subI (.var 2) (.lit 2)))) (.lit 0)))))), (.int .i64 (.bin (.subW .i64) (.sel (.avar 0) (.bin .addI (.bin .minI (.var 8) (.bin .subI (.var 2) (.lit 2))) (.lit 1))) (.sel (.avar 0) (.bin .minI (.var 8) (.bin .subI (.var 2) (.lit 2))))))], [], [none, none, none, none, none, none], (.int .i64 (.var 10)), []⟩
            (.ret ⟨[(.var 9), (.var 10), (.lit 0)], [], []⟩ [])))))
         .nil))
       .nil)
      .nil))
    .nil)))))
theorem rgi0 {x0 x1 x2 x3 x4 x5 x6 x7 : Int} {f0 f1 f2 : Int → Int} (r1 : (-9223372036854775808) ≤ x1 ∧ x1 ≤ 9223372036854775807) (r2 : 0 ≤ x2 ∧ x2 ≤ 64) (r3 : 0 ≤ x3 ∧ x3 ≤ 140737488355328) (r4 : 0 ≤ x4 ∧ x4 ≤ 140737488355328) (r5 : (-9223372036854775808) ≤ x5 ∧ x5 ≤ 9223372036854775807) (r6 : (-9223372036854775808) ≤ x6 ∧ x6 ≤ 9223372036854775807) (r7 : (-9223372036854775808) ≤ x7 ∧ x7 ≤ 9223372036854775807) (s0 : ∀ q, (-9223372036854775808) ≤ f0 q ∧ f0 q ≤ 9223372036854775807) {R : Int → Int → Int → Prop}
  (H : ((((x1 : Int) == 2) = true → (∃ v8 : Int, Spec Tryz.prog etalonbase_Floor_s ⟨[IntKind.i64.wrap (IntKind.i64.wrap (IntKind.i64.wrap (x5 * x7) * x7) + IntKind.i64.wrap (IntKind.i64.wrap (3 * x6) * 1000000)), IntKind.i64.wrap (x7 * x7)], [], []⟩ [v8] [] [] ∧
    (∃ v9 : Int, Spec Tryz.prog etalonbase_Ceil_s ⟨[IntKind.i64.wrap (IntKind.i64.wrap (IntKind.i64.wrap (x5 * x7) * x7) + IntKind.i64.wrap (IntKind.i64.wrap (3 * x6) * 1000000)), IntKind.i64.wrap (x7 * x7)], [], []⟩ [v9] [] [] ∧
    R (v8) (v9) (0)))) ∧
   (((x1 : Int) == 2) = false → ((((x2 : Int) == 1) = true → R (0) (0) (12)) ∧
    (((x2 : Int) == 1) = false → (∃ v8 : Int, Spec Tryz.prog etalonref02_row_s ⟨[x0, x1, x2, x3, x4, x5, x6, x7], [], [f0, f1, f2]⟩ [v8] [] [] ∧
     ((0 ≤ (v8 : Int) ∧ (v8 : Int) ≤ 63) ∧ ((decide ((0 : Int) ≤ (if ((x2 - 2) : Int) < (v8) then (x2 - 2) else v8)) = true → ((decide ((x3 : Int) ≤ (if ((x2 - 2) : Int) < (v8) then (x2 - 2) else v8)) = true → False) ∧
      (decide ((x3 : Int) ≤ (if ((x2 - 2) : Int) < (v8) then (x2 - 2) else v8)) = false → (((((NOp.den .f2iO (f1 (if ((x2 - 2) : Int) < (v8) then (x2 - 2) else v8)) 0) : Int) == 1) = true → ((decide ((0 : Int) ≤ ((if ((x2 - 2) : Int) < (v8) then (x2 - 2) else v8) + 1)) = true → ((decide ((x3 : Int) ≤ ((if ((x2 - 2) : Int) < (v8) then (x2 - 2) else v8) + 1)) = true → False) ∧
         (decide ((x3 : Int) ≤ ((if ((x2 - 2) : Int) < (v8) then (x2 - 2) else v8) + 1)) = false → (((((NOp.den .f2iO (f1 ((if ((x2 - 2) : Int) < (v8) then (x2 - 2) else v8) + 1)) 0) : Int) == 1) = true → ((decide ((x2 : Int) ≤ ((if ((x2 - 2) : Int) < (v8) then (x2 - 2) else v8) + 1)) = true → False) ∧
           (decide ((x2 : Int) ≤ ((if ((x2 - 2) : Int) < (v8) then (x2 - 2) else v8) + 1)) = false → ((decide ((x2 : Int) ≤ (if ((x2 - 2) : Int) < (v8) then (x2 - 2) else v8)) = true → False) ∧
            (decide ((x2 : Int) ≤ (if ((x2 - 2) : Int) < (v8) then (x2 - 2) else v8)) = false → (∃ v9 : Int, Spec Tryz.prog etalonbase_Floor_s ⟨[IntKind.i64.wrap (IntKind.i64.wrap (IntKind.i64.wrap ((NOp.den .f2iV (f1 (if ((x2 - 2) : Int) < (v8) then (x2 - 2) else v8)) 0) * IntKind.i64.wrap (IntKind.i64.wrap ((f0 ((if ((x2 - 2) : Int) < (v8) then (x2 - 2) else v8) + 1)) - (f0 (if ((x2 - 2) : Int) < (v8) then (x2 - 2) else v8))) - IntKind.i64.wrap (x7 - (f0 (if ((x2 - 2) : Int) < (v8) then (x2 - 2) else v8))))) + IntKind.i64.wrap ((NOp.den .f2iV (f1 ((if ((x2 - 2) : Int) < (v8) then (x2 - 2) else v8) + 1)) 0) * IntKind.i64.wrap (x7 - (f0 (if ((x2 - 2) : Int) < (v8) then (x2 - 2) else v8))))) - IntKind.i64.wrap (x7 * IntKind.i64.wrap ((NOp.den .f2iV (f1 ((if ((x2 - 2) : Int) < (v8) then (x2 - 2) else v8) + 1)) 0) - (NOp.den .f2iV (f1 (if ((x2 - 2) : Int) < (v8) then (x2 - 2) else v8)) 0)))), IntKind.i64.wrap ((f0 ((if ((x2 - 2) : Int) < (v8) then (x2 - 2) else v8) + 1)) - (f0 (if ((x2 - 2) : Int) < (v8) then (x2 - 2) else v8)))], [], []⟩ [v9] [] [] ∧
             (∃ v10 : Int, Spec Tryz.prog etalonbase_Ceil_s ⟨[IntKind.i64.wrap (IntKind.i64.wrap (IntKind.i64.wrap ((NOp.den .f2iV (f1 (if ((x2 - 2) : Int) < (v8) then (x2 - 2) else v8)) 0) * IntKind.i64.wrap (IntKind.i64.wrap ((f0 ((if ((x2 - 2) : Int) < (v8) then (x2 - 2) else v8) + 1)) - (f0 (if ((x2 - 2) : Int) < (v8) then (x2 - 2) else v8))) - IntKind.i64.wrap (x7 - (f0 (if ((x2 - 2) : Int) < (v8) then (x2 - 2) else v8))))) + IntKind.i64.wrap ((NOp.den .f2iV (f1 ((if ((x2 - 2) : Int) < (v8) then (x2 - 2) else v8) + 1)) 0) * IntKind.i64.wrap (x7 - (f0 (if ((x2 - 2) : Int) < (v8) then (x2 - 2) else v8))))) - IntKind.i64.wrap (x7 * IntKind.i64.wrap ((NOp.den .f2iV (f1 ((if ((x2 - 2) : Int) < (v8) then (x2 - 2) else v8) + 1)) 0) - (NOp.den .f2iV (f1 (if ((x2 - 2) : Int) < (v8) then (x2 - 2) else v8)) 0)))), IntKind.i64.wrap ((f0 ((if ((x2 - 2) : Int) < (v8) then (x2 - 2) else v8) + 1)) - (f0 (if ((x2 - 2) : Int) < (v8) then (x2 - 2) else v8)))], [], []⟩ [v10] [] [] ∧
             R (v9) (v10) (0)))))))) ∧
          ((((NOp.den .f2iO (f1 ((if ((x2 - 2) : Int) < (v8) then (x2 - 2) else v8) + 1)) 0) : Int) == 1) = false → False))))) ∧
        (decide ((0 : Int) ≤ ((if ((x2 - 2) : Int) < (v8) then (x2 - 2) else v8) + 1)) = false → False))) ∧
       ((((NOp.den .f2iO (f1 (if ((x2 - 2) : Int) < (v8) then (x2 - 2) else v8)) 0) : Int) == 1) = false → False))))) ∧
     (decide ((0 : Int) ≤ (if ((x2 - 2) : Int) < (v8) then (x2 - 2) else v8)) = false → False))))))))) :
    ∃ v0 : Int, ∃ v1 : Int, ∃ v2 : Int, R v0 v1 v2 ∧ Spec Tryz.prog etalonref02_GroupIndex_s ⟨[x0, x1, x2, x3, x4, x5, x6, x7], [], [f0, f1, f2]⟩ [v0, v1, v2] [] [] :=
  Eq.mp (by kernel_rfl) (exV_of (K := fun d => app3 etalonref02_GroupIndex_s.out R d ∧ Spec Tryz.prog etalonref02_GroupIndex_s ⟨[x0, x1, x2, x3, x4, x5, x6, x7], [], [f0, f1, f2]⟩ d.1 d.2.1 d.2.2) (tree_at mixed names S2_ok (S := S2 Tryz.prog) (lf := 100000) (d := 60) etalonref02_GroupIndex_s rgi0_t { ivs := [(1, (-9223372036854775808), 9223372036854775807), (2, 0, 64), (3, 0, 140737488355328), (4, 0, 140737488355328), (5, (-9223372036854775808), 9223372036854775807), (6, (-9223372036854775808), 9223372036854775807), (7, (-9223372036854775808), 9223372036854775807)], aivs := [(0, (-9223372036854775808), 9223372036854775807)] } ⟨[x0, x1, x2, x3, x4, x5, x6, x7], [], [f0, f1, f2]⟩ rfl (by kernel_rfl) (by kernel_rfl) (by kernel_rfl) ⟨(fc r1 (fc r2 (fc r3 (fc r4 (fc r5 (fc r6 (fc r7 fz))))))), fz, (fc s0 fz), fz⟩ (R := fun d => app3 etalonref02_GroupIndex_s.out R d) (Eq.mp (by kernel_rfl) H)))

def per0_t : Tr :=
  (.call glass_At_s ⟨[(.var 0), (.var 1), (.var 2), (.var 3), (.var 4), (.var 5), (.var 6), (.var 7)], [], [(.avar 0), (.avar 1), (.avar 2)]⟩ ⟨[(.var 0), (.var 1), (.var 2), (.var 3), (.var 4), (.var 5), (.var 6), (.var 7), (.var 8), (.var 9), (.var 10)], [], [(.avar 0), (.avar 1), (.avar 2)]⟩ ⟨9, [(.agg [(.strn (.var 0)), (.int .i64 (.var 1)), (.asl 0 (.var 2)), (.asl 1 (.var 3)), (.asl 2 (.var 4)), (.int .i64 (.var 5)), (.int .i64 (.var 6))]), (.int .i64 (.var 7))], [0, 1, 2], [(some ⟨[], 3, true, false, (some ⟨(.var 2), [(.int .i64)], [(.avar 0)]⟩)⟩), (some ⟨[], 98, true, false, (some ⟨(.var 3), [(.float .f32)], [(.avar 1)]⟩)⟩), (some ⟨[], 98, true, false, (some ⟨(.var 4), [(.float .f32)], [(.avar 2)]⟩)⟩), none, none], (.tuple [(.agg [(.int .i64 (.var 8)), (.int .i64 (.var 9))]), (.int .i64 (.var 10))]), []⟩
  (.rng 8 0 80000 (.rng 9 0 80000 (.ite (.icmp .eql (.var 10) (.lit 0))
  (.call whole_Nearest_s ⟨[(.bin .subI (.bin .mulI (.var 8) (.var 8)) (.bin .mulI (.var 9) (.var 9))), (.lit 1048576), (.lit 100000000)], [], []⟩ ⟨[(.bin .subI (.bin .mulI (.var 8) (.var 8)) (.bin .mulI (.var 9) (.var 9))), (.lit 1048576), (.lit 100000000), (.var 11)], [(.var 0)], []⟩ ⟨34, [(.int .i64 (.bin .subI (.bin .mulI (.var 8) (.var 8)) (.bin .mulI (.var 9) (.var 9)))), (.int .i64 (.lit 1048576)), (.int .i64 (.lit 100000000))], [], [none, none, none, none, none, none], (.tuple [(.int .i64 (.var 11)), (.bool (.var 0))]), []⟩
   (.rng 11 (-100000000) 1000000000 (.call whole_Nearest_s ⟨[(.bin .mulI (.bin .mulI (.lit 2) (.var 8)) (.var 9)), (.lit 1048576), (.lit 100000000)], [], []⟩ ⟨[(.bin .mulI (.bin .mulI (.lit 2) (.var 8)) (.var 9)), (.lit 1048576), (.lit 100000000), (.var 12)], [(.var 1)], []⟩ ⟨34, [(.int .i64 (.bin .mulI (.bin .mulI (.lit 2) (.var 8)) (.var 9))), (.int .i64 (.lit 1048576)), (.int .i64 (.lit 100000000))], [], [none, none, none, none, none, none], (.tuple [(.int .i64 (.var 12)), (.bool (.var 1))]), []⟩
   (.rng 12 (-100000000) 1000000000 (.ite (.var 0)
   (.ite (.var 1)
    (.call ball_CheckBall_s ⟨[(.toF .f64 (.var 11)), (.toF .f64 (.var 12)), (.lit 0)], [], []⟩ ⟨[(.toF .f64 (.var 11)), (.toF .f64 (.var 12)), (.lit 0), (.var 13)], [], []⟩ ⟨71, [(.agg [(.complex .f64 (.toF .f64 (.var 11)) (.toF .f64 (.var 12))), (.int .i64 (.lit 0))])], [], [none, none, none, none, none, none, none, none, none], (.int .i64 (.var 13)), []⟩
     (.ite (.icmp .eql (.var 13) (.lit 0))
     (.ret ⟨[(.toF .f64 (.var 11)), (.toF .f64 (.var 12)), (.lit 0), (.lit 0)], [], []⟩ [])
     (.ret ⟨[(.lit 0), (.lit 0), (.lit 0), (.lit 8)], [], []⟩ [])))
    (.call ball_CheckBall_s ⟨[(.toF .f64 (.var 11)), (.toF .f64 (.var 12)), (.lit 1)], [], []⟩ ⟨[(.toF .f64 (.var 11)), (.toF .f64 (.var 12)), (.lit 1), (.var 13)], [], []⟩ ⟨71, [(.agg [(.complex .f64 (.toF .f64 (.var 11)) (.toF .f64 (.var 12))), (.int .i64 (.lit 1))])], [], [none, none, none, none, none, none, none, none, none], (.int .i64 (.var 13)), []⟩
     (.ite (.icmp .eql (.var 13) (.lit 0))
     (.ret ⟨[(.toF .f64 (.var 11)), (.toF .f64 (.var 12)), (.lit 1), (.lit 0)], [], []⟩ [])
     (.ret ⟨[(.lit 0), (.lit 0), (.lit 0), (.lit 8)], [], []⟩ []))))
   (.call ball_CheckBall_s ⟨[(.toF .f64 (.var 11)), (.toF .f64 (.var 12)), (.lit 1)], [], []⟩ ⟨[(.toF .f64 (.var 11)), (.toF .f64 (.var 12)), (.lit 1), (.var 13)], [], []⟩ ⟨71, [(.agg [(.complex .f64 (.toF .f64 (.var 11)) (.toF .f64 (.var 12))), (.int .i64 (.lit 1))])], [], [none, none, none, none, none, none, none, none, none], (.int .i64 (.var 13)), []⟩
    (.ite (.icmp .eql (.var 13) (.lit 0))
    (.ret ⟨[(.toF .f64 (.var 11)), (.toF .f64 (.var 12)), (.lit 1), (.lit 0)], [], []⟩ [])
    (.ret ⟨[(.lit 0), (.lit 0), (.lit 0), (.lit 8)], [], []⟩ []))))))))
  (.ret ⟨[(.lit 0), (.lit 0), (.lit 0), (.var 10)], [], []⟩ [])))))
theorem per0 {x0 x1 x2 x3 x4 x5 x6 x7 : Int} {f0 f1 f2 : Int → Int} (r1 : (-9223372036854775808) ≤ x1 ∧ x1 ≤ 9223372036854775807) (r2 : 0 ≤ x2 ∧ x2 ≤ 140737488355328) (r3 : 0 ≤ x3 ∧ x3 ≤ 140737488355328) (r4 : 0 ≤ x4 ∧ x4 ≤ 140737488355328) (r5 : (-9223372036854775808) ≤ x5 ∧ x5 ≤ 9223372036854775807) (r6 : (-9223372036854775808) ≤ x6 ∧ x6 ≤ 9223372036854775807) (r7 : (-9223372036854775808) ≤ x7 ∧ x7 ≤ 9223372036854775807) (s0 : ∀ q, (-9223372036854775808) ≤ f0 q ∧ f0 q ≤ 9223372036854775807) {R : Int → Int → Int → Int → Prop}
  (H : (∃ v8 : Int, ∃ v9 : Int, ∃ v10 : Int, Spec Tryz.prog glass_At_s ⟨[x0, x1, x2, x3, x4, x5, x6, x7], [], [f0, f1, f2]⟩ [v8, v9, v10] [] [] ∧
   ((0 ≤ (v8 : Int) ∧ (v8 : Int) ≤ 80000) ∧ ((0 ≤ (v9 : Int) ∧ (v9 : Int) ≤ 80000) ∧ ((((v10 : Int) == 0) = true → (∃ v11 : Int, ∃ u0 : Bool, Spec Tryz.prog whole_Nearest_s ⟨[((v8 * v8) - (v9 * v9)), 1048576, 100000000], [], []⟩ [v11] [u0] [] ∧
    (((-100000000) ≤ (v11 : Int) ∧ (v11 : Int) ≤ 1000000000) ∧ (∃ v12 : Int, ∃ u1 : Bool, Spec Tryz.prog whole_Nearest_s ⟨[((2 * v8) * v9), 1048576, 100000000], [], []⟩ [v12] [u1] [] ∧
    (((-100000000) ≤ (v12 : Int) ∧ (v12 : Int) ≤ 1000000000) ∧ ((u0 = true → ((u1 = true → (∃ v13 : Int, Spec Tryz.prog ball_CheckBall_s ⟨[((FloatKind.f64.nearest v11 : Nat) : Int), ((FloatKind.f64.nearest v12 : Nat) : Int), 0], [], []⟩ [v13] [] [] ∧
      ((((v13 : Int) == 0) = true → R (((FloatKind.f64.nearest v11 : Nat) : Int)) (((FloatKind.f64.nearest v12 : Nat) : Int)) (0) (0)) ∧
      (((v13 : Int) == 0) = false → R (0) (0) (0) (8))))) ∧
     (u1 = false → (∃ v13 : Int, Spec Tryz.prog ball_CheckBall_s ⟨[((FloatKind.f64.nearest v11 : Nat) : Int), ((FloatKind.f64.nearest v12 : Nat) : Int), 1], [], []⟩ [v13] [] [] ∧
      ((((v13 : Int) == 0) = true → R (((FloatKind.f64.nearest v11 : Nat) : Int)) (((FloatKind.f64.nearest v12 : Nat) : Int)) (1) (0)) ∧
      (((v13 : Int) == 0) = false → R (0) (0) (0) (8))))))) ∧
    (u0 = false → (∃ v13 : Int, Spec Tryz.prog ball_CheckBall_s ⟨[((FloatKind.f64.nearest v11 : Nat) : Int), ((FloatKind.f64.nearest v12 : Nat) : Int), 1], [], []⟩ [v13] [] [] ∧
     ((((v13 : Int) == 0) = true → R (((FloatKind.f64.nearest v11 : Nat) : Int)) (((FloatKind.f64.nearest v12 : Nat) : Int)) (1) (0)) ∧
     (((v13 : Int) == 0) = false → R (0) (0) (0) (8))))))))))) ∧
   (((v10 : Int) == 0) = false → R (0) (0) (0) (v10))))))) :
    ∃ v0 : Int, ∃ v1 : Int, ∃ v2 : Int, ∃ v3 : Int, R v0 v1 v2 v3 ∧ Spec Tryz.prog glass_Permittivity_s ⟨[x0, x1, x2, x3, x4, x5, x6, x7], [], [f0, f1, f2]⟩ [v0, v1, v2, v3] [] [] :=
  Eq.mp (by kernel_rfl) (exV_of (K := fun d => app3 glass_Permittivity_s.out R d ∧ Spec Tryz.prog glass_Permittivity_s ⟨[x0, x1, x2, x3, x4, x5, x6, x7], [], [f0, f1, f2]⟩ d.1 d.2.1 d.2.2) (tree_at mixed names S2_ok (S := S2 Tryz.prog) (lf := 100000) (d := 60) glass_Permittivity_s per0_t { ivs := [(1, (-9223372036854775808), 9223372036854775807), (2, 0, 140737488355328), (3, 0, 140737488355328), (4, 0, 140737488355328), (5, (-9223372036854775808), 9223372036854775807), (6, (-9223372036854775808), 9223372036854775807), (7, (-9223372036854775808), 9223372036854775807)], aivs := [(0, (-9223372036854775808), 9223372036854775807)] } ⟨[x0, x1, x2, x3, x4, x5, x6, x7], [], [f0, f1, f2]⟩ rfl (by kernel_rfl) (by kernel_rfl) (by kernel_rfl) ⟨(fc r1 (fc r2 (fc r3 (fc r4 (fc r5 (fc r6 (fc r7 fz))))))), fz, (fc s0 fz), fz⟩ (R := fun d => app3 glass_Permittivity_s.out R d) (Eq.mp (by kernel_rfl) H)))

def rpe0_t : Tr :=
  (.call etalonbase_Floor_s ⟨[(.bin .addI (.bin .mulI (.lit 2) (.bin .mulI (.bin .subI (.bin .mulI (.var 0) (.var 0)) (.bin .mulI (.var 1) (.var 1))) (.lit 1048576))) (.lit 100000000)), (.lit 200000000)], [], []⟩ ⟨[(.bin .addI (.bin .mulI (.lit 2) (.bin .mulI (.bin .subI (.bin .mulI (.var 0) (.var 0)) (.bin .mulI (.var 1) (.var 1))) (.lit 1048576))) (.lit 100000000)), (.lit 200000000), (.var 2)], [], []⟩ ⟨49, [(.int .i64 (.bin .addI (.bin .mulI (.lit 2) (.bin .mulI (.bin .subI (.bin .mulI (.var 0) (.var 0)) (.bin .mulI (.var 1) (.var 1))) (.lit 1048576))) (.lit 100000000))), (.int .i64 (.lit 200000000))], [], [none, none, none, none], (.int .i64 (.var 2)), []⟩
  (.rng 2 (-100000000) 1000000000 (.call etalonbase_Mod_s ⟨[(.bin .mulI (.bin .subI (.bin .mulI (.var 0) (.var 0)) (.bin .mulI (.var 1) (.var 1))) (.lit 1048576)), (.lit 100000000)], [], []⟩ ⟨[(.bin .mulI (.bin .subI (.bin .mulI (.var 0) (.var 0)) (.bin .mulI (.var 1) (.var 1))) (.lit 1048576)), (.lit 100000000), (.var 3)], [], []⟩ ⟨74, [(.int .i64 (.bin .mulI (.bin .subI (.bin .mulI (.var 0) (.var 0)) (.bin .mulI (.var 1) (.var 1))) (.lit 1048576))), (.int .i64 (.lit 100000000))], [], [none, none, none], (.int .i64 (.var 3)), []⟩
  (.call etalonbase_Floor_s ⟨[(.bin .addI (.bin .mulI (.lit 2) (.bin .mulI (.bin .mulI (.bin .mulI (.lit 2) (.var 0)) (.var 1)) (.lit 1048576))) (.lit 100000000)), (.lit 200000000)], [], []⟩ ⟨[(.bin .addI (.bin .mulI (.lit 2) (.bin .mulI (.bin .mulI (.bin .mulI (.lit 2) (.var 0)) (.var 1)) (.lit 1048576))) (.lit 100000000)), (.lit 200000000), (.var 4)], [], []⟩ ⟨49, [(.int .i64 (.bin .addI (.bin .mulI (.lit 2) (.bin .mulI (.bin .mulI (.bin .mulI (.lit 2) (.var 0)) (.var 1)) (.lit 1048576))) (.lit 100000000))), (.int .i64 (.lit 200000000))], [], [none, none, none, none], (.int .i64 (.var 4)), []⟩
  (.rng 4 (-100000000) 1000000000 (.call etalonbase_Mod_s ⟨[(.bin .mulI (.bin .mulI (.bin .mulI (.lit 2) (.var 0)) (.var 1)) (.lit 1048576)), (.lit 100000000)], [], []⟩ ⟨[(.bin .mulI (.bin .mulI (.bin .mulI (.lit 2) (.var 0)) (.var 1)) (.lit 1048576)), (.lit 100000000), (.var 5)], [], []⟩ ⟨74, [(.int .i64 (.bin .mulI (.bin .mulI (.bin .mulI (.lit 2) (.var 0)) (.var 1)) (.lit 1048576))), (.int .i64 (.lit 100000000))], [], [none, none, none], (.int .i64 (.var 5)), []⟩
  (.ite (.icmp .eql (.var 3) (.lit 0))
  (.ite (.icmp .eql (.var 5) (.lit 0))
   (.call _etalonref01_B__Checked_s ⟨[(.var 2), (.var 4), (.lit 0)], [], []⟩ ⟨[(.var 2), (.var 4), (.lit 0), (.var 6), (.var 7), (.var 8), (.var 9)], [], []⟩ ⟨45, [(.agg [(.int .i64 (.var 2)), (.int .i64 (.var 4)), (.int .i64 (.lit 0))])], [], [none, none, none], (.tuple [(.agg [(.int .i64 (.var 6)), (.int .i64 (.var 7)), (.int .i64 (.var 8))]), (.int .i64 (.var 9))]), []⟩
    (.ret ⟨[(.var 6), (.var 7), (.var 8), (.var 9)], [], []⟩ []))
   (.call _etalonref01_B__Checked_s ⟨[(.var 2), (.var 4), (.lit 1)], [], []⟩ ⟨[(.var 2), (.var 4), (.lit 1), (.var 6), (.var 7), (.var 8), (.var 9)], [], []⟩ ⟨45, [(.agg [(.int .i64 (.var 2)), (.int .i64 (.var 4)), (.int .i64 (.lit 1))])], [], [none, none, none], (.tuple [(.agg [(.int .i64 (.var 6)), (.int .i64 (.var 7)), (.int .i64 (.var 8))]), (.int .i64 (.var 9))]), []⟩
    (.ret ⟨[(.var 6), (.var 7), (.var 8), (.var 9)], [], []⟩ [])))
  (.call _etalonref01_B__Checked_s ⟨[(.var 2), (.var 4), (.lit 1)], [], []⟩ ⟨[(.var 2), (.var 4), (.lit 1), (.var 6), (.var 7), (.var 8), (.var 9)], [], []⟩ ⟨45, [(.agg [(.int .i64 (.var 2)), (.int .i64 (.var 4)), (.int .i64 (.lit 1))])], [], [none, none, none], (.tuple [(.agg [(.int .i64 (.var 6)), (.int .i64 (.var 7)), (.int .i64 (.var 8))]), (.int .i64 (.var 9))]), []⟩
   (.ret ⟨[(.var 6), (.var 7), (.var 8), (.var 9)], [], []⟩ [])))))))))
theorem rpe0 {x0 x1 : Int} (r0 : 0 ≤ x0 ∧ x0 ≤ 80000) (r1 : 0 ≤ x1 ∧ x1 ≤ 80000) {R : Int → Int → Int → Int → Prop}
  (H : (∃ v2 : Int, Spec Tryz.prog etalonbase_Floor_s ⟨[((2 * (((x0 * x0) - (x1 * x1)) * 1048576)) + 100000000), 200000000], [], []⟩ [v2] [] [] ∧
   (((-100000000) ≤ (v2 : Int) ∧ (v2 : Int) ≤ 1000000000) ∧ (∃ v3 : Int, Spec Tryz.prog etalonbase_Mod_s ⟨[(((x0 * x0) - (x1 * x1)) * 1048576), 100000000], [], []⟩ [v3] [] [] ∧
   (∃ v4 : Int, Spec Tryz.prog etalonbase_Floor_s ⟨[((2 * (((2 * x0) * x1) * 1048576)) + 100000000), 200000000], [], []⟩ [v4] [] [] ∧
   (((-100000000) ≤ (v4 : Int) ∧ (v4 : Int) ≤ 1000000000) ∧ (∃ v5 : Int, Spec Tryz.prog etalonbase_Mod_s ⟨[(((2 * x0) * x1) * 1048576), 100000000], [], []⟩ [v5] [] [] ∧
   ((((v3 : Int) == 0) = true → ((((v5 : Int) == 0) = true → (∃ v6 : Int, ∃ v7 : Int, ∃ v8 : Int, ∃ v9 : Int, Spec Tryz.prog _etalonref01_B__Checked_s ⟨[v2, v4, 0], [], []⟩ [v6, v7, v8, v9] [] [] ∧
     R (v6) (v7) (v8) (v9))) ∧
    (((v5 : Int) == 0) = false → (∃ v6 : Int, ∃ v7 : Int, ∃ v8 : Int, ∃ v9 : Int, Spec Tryz.prog _etalonref01_B__Checked_s ⟨[v2, v4, 1], [], []⟩ [v6, v7, v8, v9] [] [] ∧
     R (v6) (v7) (v8) (v9))))) ∧
   (((v3 : Int) == 0) = false → (∃ v6 : Int, ∃ v7 : Int, ∃ v8 : Int, ∃ v9 : Int, Spec Tryz.prog _etalonref01_B__Checked_s ⟨[v2, v4, 1], [], []⟩ [v6, v7, v8, v9] [] [] ∧
    R (v6) (v7) (v8) (v9))))))))))) :
    ∃ v0 : Int, ∃ v1 : Int, ∃ v2 : Int, ∃ v3 : Int, R v0 v1 v2 v3 ∧ Spec Tryz.prog etalonref02_Permittivity_s ⟨[x0, x1], [], []⟩ [v0, v1, v2, v3] [] [] :=
  Eq.mp (by kernel_rfl) (exV_of (K := fun d => app3 etalonref02_Permittivity_s.out R d ∧ Spec Tryz.prog etalonref02_Permittivity_s ⟨[x0, x1], [], []⟩ d.1 d.2.1 d.2.2) (tree_at mixed names S2_ok (S := S2 Tryz.prog) (lf := 100000) (d := 60) etalonref02_Permittivity_s rpe0_t { ivs := [(0, 0, 80000), (1, 0, 80000)], aivs := [] } ⟨[x0, x1], [], []⟩ rfl (by kernel_rfl) (by kernel_rfl) (by kernel_rfl) ⟨(fc r0 (fc r1 fz)), fz, fz, fz⟩ (R := fun d => app3 etalonref02_Permittivity_s.out R d) (Eq.mp (by kernel_rfl) H)))

def ckb0_t : Tr :=
  (.whole 0 1000000000 (.rng 3 (-1000000000) 1000000000 (.whole 1 1000000000 (.rng 4 (-1000000000) 1000000000 (.ite (.icmp .leq (.bin .maxI (.var 3) (.bin .subI (.lit 0) (.var 3))) (.lit 67108864))
  (.ite (.icmp .leq (.bin .maxI (.var 4) (.bin .subI (.lit 0) (.var 4))) (.lit 67108864))
   (.ret ⟨[(.lit 0)], [], []⟩ [])
   (.ret ⟨[(.lit 2)], [], []⟩ []))
  (.ret ⟨[(.lit 2)], [], []⟩ []))))))
theorem ckb0 {x0 x1 x2 : Int} (r2 : 0 ≤ x2 ∧ x2 ≤ 1) {R : Int → Prop}
  (H : (∃ v3 : Int, (Rp (x0 : Int).toNat v3 ∧ v3.natAbs ≤ 1000000000) ∧ (((-1000000000) ≤ (v3 : Int) ∧ (v3 : Int) ≤ 1000000000) ∧ (∃ v4 : Int, (Rp (x1 : Int).toNat v4 ∧ v4.natAbs ≤ 1000000000) ∧ (((-1000000000) ≤ (v4 : Int) ∧ (v4 : Int) ≤ 1000000000) ∧ ((decide (((if ((0 - v3) : Int) > (v3) then (0 - v3) else v3) : Int) ≤ 67108864) = true → ((decide (((if ((0 - v4) : Int) > (v4) then (0 - v4) else v4) : Int) ≤ 67108864) = true → R (0)) ∧
    (decide (((if ((0 - v4) : Int) > (v4) then (0 - v4) else v4) : Int) ≤ 67108864) = false → R (2)))) ∧
   (decide (((if ((0 - v3) : Int) > (v3) then (0 - v3) else v3) : Int) ≤ 67108864) = false → R (2)))))))) :
    ∃ v0 : Int, R v0 ∧ Spec Tryz.prog ball_CheckBall_s ⟨[x0, x1, x2], [], []⟩ [v0] [] [] :=
  Eq.mp (by kernel_rfl) (exV_of (K := fun d => app3 ball_CheckBall_s.out R d ∧ Spec Tryz.prog ball_CheckBall_s ⟨[x0, x1, x2], [], []⟩ d.1 d.2.1 d.2.2) (tree_at mixed names S2_ok (S := S2 Tryz.prog) (lf := 100000) (d := 60) ball_CheckBall_s ckb0_t { ivs := [(2, 0, 1)], aivs := [] } ⟨[x0, x1, x2], [], []⟩ rfl (by kernel_rfl) (by kernel_rfl) (by kernel_rfl) ⟨(fc r2 fz), fz, fz, fz⟩ (R := fun d => app3 ball_CheckBall_s.out R d) (Eq.mp (by kernel_rfl) H)))

def rck0_t : Tr :=
  (.ite (.icmp .leq (.lit (-67108864)) (.var 0))
  (.ite (.icmp .leq (.var 0) (.lit 67108864))
   (.ite (.icmp .leq (.lit (-67108864)) (.var 1))
    (.ite (.icmp .leq (.var 1) (.lit 67108864))
     (.ret ⟨[(.var 0), (.var 1), (.var 2), (.lit 0)], [], []⟩ [])
     (.ret ⟨[(.lit 0), (.lit 0), (.lit 0), (.lit 8)], [], []⟩ []))
    (.ret ⟨[(.lit 0), (.lit 0), (.lit 0), (.lit 8)], [], []⟩ []))
   (.ret ⟨[(.lit 0), (.lit 0), (.lit 0), (.lit 8)], [], []⟩ []))
  (.ret ⟨[(.lit 0), (.lit 0), (.lit 0), (.lit 8)], [], []⟩ []))
theorem rck0 {x0 x1 x2 : Int} (r0 : (-1000000000) ≤ x0 ∧ x0 ≤ 1000000000) (r1 : (-1000000000) ≤ x1 ∧ x1 ≤ 1000000000) (r2 : 0 ≤ x2 ∧ x2 ≤ 1) {R : Int → Int → Int → Int → Prop}
  (H : ((decide (((-67108864) : Int) ≤ x0) = true → ((decide ((x0 : Int) ≤ 67108864) = true → ((decide (((-67108864) : Int) ≤ x1) = true → ((decide ((x1 : Int) ≤ 67108864) = true → R (x0) (x1) (x2) (0)) ∧
      (decide ((x1 : Int) ≤ 67108864) = false → R (0) (0) (0) (8)))) ∧
     (decide (((-67108864) : Int) ≤ x1) = false → R (0) (0) (0) (8)))) ∧
    (decide ((x0 : Int) ≤ 67108864) = false → R (0) (0) (0) (8)))) ∧
   (decide (((-67108864) : Int) ≤ x0) = false → R (0) (0) (0) (8)))) :
    ∃ v0 : Int, ∃ v1 : Int, ∃ v2 : Int, ∃ v3 : Int, R v0 v1 v2 v3 ∧ Spec Tryz.prog _etalonref01_B__Checked_s ⟨[x0, x1, x2], [], []⟩ [v0, v1, v2, v3] [] [] :=
  Eq.mp (by kernel_rfl) (exV_of (K := fun d => app3 _etalonref01_B__Checked_s.out R d ∧ Spec Tryz.prog _etalonref01_B__Checked_s ⟨[x0, x1, x2], [], []⟩ d.1 d.2.1 d.2.2) (tree_at mixed names S1_ok (S := S1 Tryz.prog) (lf := 100000) (d := 60) _etalonref01_B__Checked_s rck0_t { ivs := [(0, (-1000000000), 1000000000), (1, (-1000000000), 1000000000), (2, 0, 1)], aivs := [] } ⟨[x0, x1, x2], [], []⟩ rfl (by kernel_rfl) (by kernel_rfl) (by kernel_rfl) ⟨(fc r0 (fc r1 (fc r2 fz))), fz, fz, fz⟩ (R := fun d => app3 _etalonref01_B__Checked_s.out R d) (Eq.mp (by kernel_rfl) H)))

def rmo0_t : Tr :=
  (.ite (.icmp .leq (.lit 0) (.bin .remK (.var 0) (.var 1)))
  (.ret ⟨[(.bin .remK (.var 0) (.var 1))], [], []⟩ [])
  (.ret ⟨[(.bin .addI (.bin .remK (.var 0) (.var 1)) (.var 1))], [], []⟩ []))
theorem rmo0 {x0 x1 : Int} (r0 : (-20000000000000000) ≤ x0 ∧ x0 ≤ 20000000000000000) (r1 : 1 ≤ x1 ∧ x1 ≤ 200000000) {R : Int → Prop}
  (H : ((decide ((0 : Int) ≤ ((x0 : Int).tmod (x1))) = true → R (((x0 : Int).tmod (x1)))) ∧
   (decide ((0 : Int) ≤ ((x0 : Int).tmod (x1))) = false → R ((((x0 : Int).tmod (x1)) + x1))))) :
    ∃ v0 : Int, R v0 ∧ Spec Tryz.prog etalonbase_Mod_s ⟨[x0, x1], [], []⟩ [v0] [] [] :=
  Eq.mp (by kernel_rfl) (exV_of (K := fun d => app3 etalonbase_Mod_s.out R d ∧ Spec Tryz.prog etalonbase_Mod_s ⟨[x0, x1], [], []⟩ d.1 d.2.1 d.2.2) (tree_at mixed names S1_ok (S := S1 Tryz.prog) (lf := 100000) (d := 60) etalonbase_Mod_s rmo0_t { ivs := [(0, (-20000000000000000), 20000000000000000), (1, 1, 200000000)], aivs := [] } ⟨[x0, x1], [], []⟩ rfl (by kernel_rfl) (by kernel_rfl) (by kernel_rfl) ⟨(fc r0 (fc r1 fz)), fz, fz, fz⟩ (R := fun d => app3 etalonbase_Mod_s.out R d) (Eq.mp (by kernel_rfl) H)))

end Go.Proofs.YtfgdockgdbdoiaaGreat.Ev
