/- Walks of what a material tells at a wavelength. -/
import Derived.Test.YtfgdockgdbdoiaaGreatFgn
import Derived.Test.YtfgdockgdbdoiaaGreatGpn
import Derived.Test.YtfgdockgdbdoiaaGreatFqs
import Derived.Test.YtfgdockgdbdoiaaGreatFrd
namespace Go.Proofs.YtfgdockgdbdoiaaGreat.Ev
set_option linter.unusedSimpArgs false
open Go Go.RowKit
set_option linter.unusedVariables false
set_option maxRecDepth 100000
def _glass_table__gap_s : Sig := ⟨148, ⟨8, 0, 3⟩, ⟨1, 0, 0⟩, [(.agg [(.strn (.var 0)), (.int .i64 (.var 1)), (.asl 0 (.var 2)), (.asl 1 (.var 3)), (.asl 2 (.var 4)), (.int .i64 (.var 5)), (.int .i64 (.var 6))]), (.int .i64 (.var 7))], [(some ⟨[], 3, true, false, (some ⟨(.var 2), [(.int .i64)], [(.avar 0)]⟩)⟩), (some ⟨[], 98, true, false, (some ⟨(.var 3), [(.float .f32)], [(.avar 1)]⟩)⟩), (some ⟨[], 98, true, false, (some ⟨(.var 4), [(.float .f32)], [(.avar 2)]⟩)⟩)], (.int .i64 (.var 8)), []⟩
def _glass_table__told_s : Sig := ⟨146, ⟨8, 0, 3⟩, ⟨4, 0, 0⟩, [(.agg [(.strn (.var 0)), (.int .i64 (.var 1)), (.asl 0 (.var 2)), (.asl 1 (.var 3)), (.asl 2 (.var 4)), (.int .i64 (.var 5)), (.int .i64 (.var 6))]), (.int .i64 (.var 7))], [(some ⟨[], 3, true, false, (some ⟨(.var 2), [(.int .i64)], [(.avar 0)]⟩)⟩), (some ⟨[], 98, true, false, (some ⟨(.var 3), [(.float .f32)], [(.avar 1)]⟩)⟩), (some ⟨[], 98, true, false, (some ⟨(.var 4), [(.float .f32)], [(.avar 2)]⟩)⟩)], (.agg [(.int .i64 (.var 8)), (.int .i64 (.var 9)), (.int .i64 (.var 10)), (.int .i64 (.var 11))]), []⟩
def _glass_formula__told_s : Sig := ⟨154, ⟨8, 0, 3⟩, ⟨4, 0, 0⟩, [(.agg [(.strn (.var 0)), (.int .i64 (.var 1)), (.asl 0 (.var 2)), (.asl 1 (.var 3)), (.asl 2 (.var 4)), (.int .i64 (.var 5)), (.int .i64 (.var 6))]), (.int .i64 (.var 7))], [(some ⟨[], 3, true, false, (some ⟨(.var 2), [(.int .i64)], [(.avar 0)]⟩)⟩), (some ⟨[], 98, true, false, (some ⟨(.var 3), [(.float .f32)], [(.avar 1)]⟩)⟩), (some ⟨[], 98, true, false, (some ⟨(.var 4), [(.float .f32)], [(.avar 2)]⟩)⟩)], (.agg [(.int .i64 (.var 8)), (.int .i64 (.var 9)), (.int .i64 (.var 10)), (.int .i64 (.var 11))]), []⟩
def etalonref02_row_s : Sig := ⟨48, ⟨8, 0, 3⟩, ⟨1, 0, 0⟩, [(.agg [(.strn (.var 0)), (.int .i64 (.var 1)), (.asl 0 (.var 2)), (.asl 1 (.var 3)), (.asl 2 (.var 4)), (.int .i64 (.var 5)), (.int .i64 (.var 6))]), (.int .i64 (.var 7))], [(some ⟨[], 3, true, false, (some ⟨(.var 2), [(.int .i64)], [(.avar 0)]⟩)⟩), (some ⟨[], 98, true, false, (some ⟨(.var 3), [(.float .f32)], [(.avar 1)]⟩)⟩), (some ⟨[], 98, true, false, (some ⟨(.var 4), [(.float .f32)], [(.avar 2)]⟩)⟩)], (.int .i64 (.var 8)), []⟩
def etalonref02_exact_s : Sig := ⟨46, ⟨8, 0, 3⟩, ⟨4, 0, 0⟩, [(.agg [(.strn (.var 0)), (.int .i64 (.var 1)), (.asl 0 (.var 2)), (.asl 1 (.var 3)), (.asl 2 (.var 4)), (.int .i64 (.var 5)), (.int .i64 (.var 6))]), (.int .i64 (.var 7))], [(some ⟨[], 3, true, false, (some ⟨(.var 2), [(.int .i64)], [(.avar 0)]⟩)⟩), (some ⟨[], 98, true, false, (some ⟨(.var 3), [(.float .f32)], [(.avar 1)]⟩)⟩), (some ⟨[], 98, true, false, (some ⟨(.var 4), [(.float .f32)], [(.avar 2)]⟩)⟩)], (.agg [(.int .i64 (.var 8)), (.int .i64 (.var 9)), (.int .i64 (.var 10)), (.int .i64 (.var 11))]), []⟩
def etalonref02_WaveErr_s : Sig := ⟨14, ⟨8, 0, 3⟩, ⟨1, 0, 0⟩, [(.agg [(.strn (.var 0)), (.int .i64 (.var 1)), (.asl 0 (.var 2)), (.asl 1 (.var 3)), (.asl 2 (.var 4)), (.int .i64 (.var 5)), (.int .i64 (.var 6))]), (.int .i64 (.var 7))], [(some ⟨[], 3, true, false, (some ⟨(.var 2), [(.int .i64)], [(.avar 0)]⟩)⟩), (some ⟨[], 98, true, false, (some ⟨(.var 3), [(.float .f32)], [(.avar 1)]⟩)⟩), (some ⟨[], 98, true, false, (some ⟨(.var 4), [(.float .f32)], [(.avar 2)]⟩)⟩)], (.int .i64 (.var 8)), []⟩
def glass_At_s : Sig := ⟨9, ⟨8, 0, 3⟩, ⟨3, 0, 0⟩, [(.agg [(.strn (.var 0)), (.int .i64 (.var 1)), (.asl 0 (.var 2)), (.asl 1 (.var 3)), (.asl 2 (.var 4)), (.int .i64 (.var 5)), (.int .i64 (.var 6))]), (.int .i64 (.var 7))], [(some ⟨[], 3, true, false, (some ⟨(.var 2), [(.int .i64)], [(.avar 0)]⟩)⟩), (some ⟨[], 98, true, false, (some ⟨(.var 3), [(.float .f32)], [(.avar 1)]⟩)⟩), (some ⟨[], 98, true, false, (some ⟨(.var 4), [(.float .f32)], [(.avar 2)]⟩)⟩)], (.tuple [(.agg [(.int .i64 (.var 8)), (.int .i64 (.var 9))]), (.int .i64 (.var 10))]), []⟩
def etalonref02_At_s : Sig := ⟨17, ⟨8, 0, 3⟩, ⟨2, 0, 0⟩, [(.agg [(.strn (.var 0)), (.int .i64 (.var 1)), (.asl 0 (.var 2)), (.asl 1 (.var 3)), (.asl 2 (.var 4)), (.int .i64 (.var 5)), (.int .i64 (.var 6))]), (.int .i64 (.var 7))], [(some ⟨[], 3, true, false, (some ⟨(.var 2), [(.int .i64)], [(.avar 0)]⟩)⟩), (some ⟨[], 98, true, false, (some ⟨(.var 3), [(.float .f32)], [(.avar 1)]⟩)⟩), (some ⟨[], 98, true, false, (some ⟨(.var 4), [(.float .f32)], [(.avar 2)]⟩)⟩)], (.agg [(.int .i64 (.var 8)), (.int .i64 (.var 9))]), []⟩

def fgo_q0 : SV := (.agg [(.strn (.var 0)), (.int .i64 (.var 1)), (.asl 0 (.var 2)), (.asl 1 (.var 3)), (.asl 2 (.var 4)), (.int .i64 (.var 5)), (.int .i64 (.var 6))])
def fgo_q6 : Option Blk := (some ⟨[], 3, true, false, (some ⟨(.var 2), [(.int .i64)], [(.avar 0)]⟩)⟩)
def fgo_q4 : Option Blk := (some ⟨[], 98, true, false, (some ⟨(.var 3), [(.float .f32)], [(.avar 1)]⟩)⟩)
def fgo_q5 : Option Blk := (some ⟨[], 98, true, false, (some ⟨(.var 4), [(.float .f32)], [(.avar 2)]⟩)⟩)
def fgo_q1 : Hp := [fgo_q6, fgo_q4, fgo_q5, (some ⟨[(.strn (.var 0)), (.int .i64 (.var 1)), (.asl 0 (.var 2)), (.asl 1 (.var 3)), (.asl 2 (.var 4)), (.int .i64 (.var 5)), (.int .i64 (.var 6))], 145, false, false, none⟩)]
def fgo_q2 : Hp := [fgo_q6, fgo_q4, fgo_q5, (some ⟨[(.strn (.var 0)), (.int .i64 (.var 1)), (.asl 0 (.var 2)), (.asl 1 (.var 3)), (.asl 2 (.var 4)), (.int .i64 (.var 5)), (.int .i64 (.var 6))], 26, false, false, none⟩)]
def fgo_q3 : NE := (.bin (.subW .i64) (.sel (.avar 0) (.bin .addI (.var 8) (.lit 1))) (.sel (.avar 0) (.var 8)))
def fgo_q7 : NE := (.bin (.subW .i64) (.var 7) (.sel (.avar 0) (.var 8)))
def fgo_q8 : NE := (.bin (.addW .i64) (.bin (.mulW .i64) (.bin .f2iV (.sel (.avar 1) (.var 8)) (.lit 0)) (.bin (.subW .i64) fgo_q3 fgo_q7)) (.bin (.mulW .i64) (.bin .f2iV (.sel (.avar 1) (.bin .addI (.var 8) (.lit 1))) (.lit 0)) fgo_q7))
def fgo_q9 : NE := (.bin (.addW .i64) (.bin (.mulW .i64) (.bin .f2iV (.sel (.avar 2) (.var 8)) (.lit 0)) (.bin (.subW .i64) fgo_q3 fgo_q7)) (.bin (.mulW .i64) (.bin .f2iV (.sel (.avar 2) (.bin .addI (.var 8) (.lit 1))) (.lit 0)) fgo_q7))
def fgo_q10 : BE := (.icmp .leq (.var 2) (.bin .addI (.var 8) (.lit 1)))
def fgo_q11 : BE := (.icmp .eql (.bin .f2iO (.sel (.avar 1) (.var 8)) (.lit 0)) (.lit 1))
def fgo_q12 : BE := (.icmp .eql (.bin .f2iO (.sel (.avar 2) (.var 8)) (.lit 0)) (.lit 1))
def fgo_q13 : NE := (.bin (.addW .i64) (.bin (.mulW .i64) (.lit 2) (.var 10)) (.var 11))
def fgo_q14 : NE := (.bin (.addW .i64) (.bin (.mulW .i64) (.lit 2) (.var 8)) (.var 9))
def fgo_q15 : SV := (.agg [(.int .i64 (.var 10)), (.int .i64 (.var 11)), (.int .i64 (.var 12)), (.int .i64 (.var 13))])
def gap0_t : Tr :=
 (.loop ⟨148, [0, 0, 1, 1], [fgo_q0, (.int .i64 (.var 7)), (.ptr (some ⟨3, 0, none⟩)), (.tuple []), (.int .i64 (.lit 0)), (.int .i64 (.lit 0)), (.tuple []), (.tuple []), (.tuple []), (.tuple []), (.tuple []), (.tuple []), (.tuple []), (.tuple []), (.tuple []), (.tuple []), (.tuple []), (.tuple []), (.tuple []), (.tuple []), (.tuple []), (.tuple []), (.tuple []), (.tuple []), (.tuple []), (.tuple []), (.tuple [])], fgo_q1, [], [fgo_q0, (.int .i64 (.var 7)), (.ptr (some ⟨3, 0, none⟩)), (.tuple []), (.int .i64 (.lit 0)), (.int .i64 (.var 8)), (.any 6), (.any 7), (.any 8), (.any 9), (.any 10), (.any 11), (.any 12), (.any 13), (.any 14), (.any 15), (.any 16), (.any 17), (.any 18), (.any 19), (.any 20), (.any 21), (.any 22), (.any 23), (.any 24), (.any 25), (.tuple [])], fgo_q1, [], ⟨1, 0, 0⟩, ⟨[(.lit 0)], [], []⟩, []⟩
 (.rng 8 0 62 (.ite (.icmp .leq (.var 2) (.bin .addI (.var 8) (.lit 2)))
 (.out 0 ⟨[(.var 8)], [], []⟩ [])
 (.ite fgo_q10
 .nil
 (.ite (.icmp .leq (.sel (.avar 0) (.bin .addI (.var 8) (.lit 1))) (.var 7))
 (.next ⟨[(.bin .addI (.var 8) (.lit 1))], [], []⟩ [])
 (.out 0 ⟨[(.var 8)], [], []⟩ [])))))
 (.ex ((.exit 0), [fgo_q0, (.int .i64 (.var 7)), (.ptr (some ⟨3, 0, none⟩)), (.tuple []), (.int .i64 (.lit 0)), (.int .i64 (.var 8)), (.any 6), (.any 7), (.any 8), (.any 9), (.any 10), (.any 11), (.any 12), (.any 13), (.any 14), (.any 15), (.any 16), (.any 17), (.any 18), (.any 19), (.any 20), (.any 21), (.any 22), (.any 23), (.any 24), (.any 25), (.tuple [])], fgo_q1, []) ⟨1, 0, 0⟩
 (.rng 8 (-9223372036854775808) 9223372036854775807 (.ret ⟨[(.var 8)], [], []⟩ []))
 .nil))
theorem gap0 {x0 x1 x2 x3 x4 x5 x6 x7 : Int} {f0 f1 f2 : Int → Int} (r1 : (-9223372036854775808) ≤ x1 ∧ x1 ≤ 9223372036854775807) (r2 : 2 ≤ x2 ∧ x2 ≤ 64) (r3 : 0 ≤ x3 ∧ x3 ≤ 140737488355328) (r4 : 0 ≤ x4 ∧ x4 ≤ 140737488355328) (r5 : (-9223372036854775808) ≤ x5 ∧ x5 ≤ 9223372036854775807) (r6 : (-9223372036854775808) ≤ x6 ∧ x6 ≤ 9223372036854775807) (r7 : (-9223372036854775808) ≤ x7 ∧ x7 ≤ 9223372036854775807) (s0 : ∀ q, (-9223372036854775808) ≤ f0 q ∧ f0 q ≤ 9223372036854775807) {R : Int → Prop}
 (H : (∃ (I8 : Int → Prop) (rk8 : Int → Nat), I8 (0) ∧
 (∀ x8 : Int, I8 x8 → ((0 ≤ (x8 : Int) ∧ (x8 : Int) ≤ 62) ∧ ((decide ((x2 : Int) ≤ (x8 + 2)) = true → (((-9223372036854775808) ≤ ((x8) : Int) ∧ ((x8) : Int) ≤ 9223372036854775807) ∧ R ((x8)))) ∧
 (decide ((x2 : Int) ≤ (x8 + 2)) = false → ((decide ((x2 : Int) ≤ (x8 + 1)) = true → False) ∧
 (decide ((x2 : Int) ≤ (x8 + 1)) = false → ((decide (((f0 (x8 + 1)) : Int) ≤ x7) = true → (I8 ((x8 + 1)) ∧ rk8 ((x8 + 1)) < rk8 x8)) ∧
 (decide (((f0 (x8 + 1)) : Int) ≤ x7) = false → (((-9223372036854775808) ≤ ((x8) : Int) ∧ ((x8) : Int) ≤ 9223372036854775807) ∧ R ((x8))))))))))))) :
 ∃ v0 : Int, R v0 ∧ Spec Tryz.prog _glass_table__gap_s ⟨[x0, x1, x2, x3, x4, x5, x6, x7], [], [f0, f1, f2]⟩ [v0] [] [] :=
 Eq.mp (by kernel_rfl) (exV_of (K := fun d => app3 _glass_table__gap_s.out R d ∧ Spec Tryz.prog _glass_table__gap_s ⟨[x0, x1, x2, x3, x4, x5, x6, x7], [], [f0, f1, f2]⟩ d.1 d.2.1 d.2.2) (tree_at mixed names S2_ok (S := S2 Tryz.prog) (lf := 100000) (d := 60) _glass_table__gap_s gap0_t { ivs := [(1, (-9223372036854775808), 9223372036854775807), (2, 2, 64), (3, 0, 140737488355328), (4, 0, 140737488355328), (5, (-9223372036854775808), 9223372036854775807), (6, (-9223372036854775808), 9223372036854775807), (7, (-9223372036854775808), 9223372036854775807)], aivs := [(0, (-9223372036854775808), 9223372036854775807)] } ⟨[x0, x1, x2, x3, x4, x5, x6, x7], [], [f0, f1, f2]⟩ rfl (by kernel_rfl) (by kernel_rfl) (by kernel_rfl) ⟨(fc r1 (fc r2 (fc r3 (fc r4 (fc r5 (fc r6 (fc r7 fz))))))), fz, (fc s0 fz), fz⟩ (R := fun d => app3 _glass_table__gap_s.out R d) (Eq.mp (by kernel_rfl) H)))

def tld0_t : Tr :=
 (.ite (.icmp .eql (.var 2) (.lit 1))
 (.ite (.icmp .leq (.var 3) (.lit 0))
 .nil
 (.ite (.icmp .eql (.bin .f2iO (.sel (.avar 1) (.lit 0)) (.lit 0)) (.lit 1))
 (.ite (.icmp .leq (.var 4) (.lit 0))
 .nil
 (.ite (.icmp .eql (.bin .f2iO (.sel (.avar 2) (.lit 0)) (.lit 0)) (.lit 1))
 (.ret ⟨[(.bin .f2iV (.sel (.avar 1) (.lit 0)) (.lit 0)), (.lit 1), (.bin .f2iV (.sel (.avar 2) (.lit 0)) (.lit 0)), (.lit 1)], [], []⟩ [])
 .nil))
 .nil))
 (.call _glass_table__gap_s ⟨[(.var 0), (.var 1), (.var 2), (.var 3), (.var 4), (.var 5), (.var 6), (.var 7)], [], [(.avar 0), (.avar 1), (.avar 2)]⟩ ⟨[(.var 0), (.var 1), (.var 2), (.var 3), (.var 4), (.var 5), (.var 6), (.var 7), (.var 8)], [], [(.avar 0), (.avar 1), (.avar 2)]⟩ ⟨148, [fgo_q0, (.int .i64 (.var 7))], [0, 1, 2], [fgo_q6, fgo_q4, fgo_q5, none, none, none, none], (.int .i64 (.var 8)), []⟩
 (.rng 8 0 62 (.ite (.icmp .leq (.var 2) (.var 8))
 .nil
 (.ite fgo_q10
 .nil
 (.ite (.icmp .leq (.var 3) (.var 8))
 .nil
 (.ite fgo_q11
 (.ite (.icmp .leq (.var 3) (.bin .addI (.var 8) (.lit 1)))
 .nil
 (.ite (.icmp .eql (.bin .f2iO (.sel (.avar 1) (.bin .addI (.var 8) (.lit 1))) (.lit 0)) (.lit 1))
 (.ite (.icmp .leq (.var 4) (.var 8))
 .nil
 (.ite fgo_q12
 (.ite (.icmp .leq (.var 4) (.bin .addI (.var 8) (.lit 1)))
 .nil
 (.ite (.icmp .eql (.bin .f2iO (.sel (.avar 2) (.bin .addI (.var 8) (.lit 1))) (.lit 0)) (.lit 1))
 (.ret ⟨[fgo_q8, fgo_q3, fgo_q9, fgo_q3], [], []⟩ [])
 .nil))
 .nil))
 .nil))
 .nil)))))))
theorem tld0 {x0 x1 x2 x3 x4 x5 x6 x7 : Int} {f0 f1 f2 : Int → Int} (r1 : (-9223372036854775808) ≤ x1 ∧ x1 ≤ 9223372036854775807) (r2 : 1 ≤ x2 ∧ x2 ≤ 64) (r3 : 0 ≤ x3 ∧ x3 ≤ 140737488355328) (r4 : 0 ≤ x4 ∧ x4 ≤ 140737488355328) (r5 : (-9223372036854775808) ≤ x5 ∧ x5 ≤ 9223372036854775807) (r6 : (-9223372036854775808) ≤ x6 ∧ x6 ≤ 9223372036854775807) (r7 : (-9223372036854775808) ≤ x7 ∧ x7 ≤ 9223372036854775807) (s0 : ∀ q, (-9223372036854775808) ≤ f0 q ∧ f0 q ≤ 9223372036854775807) {R : Int → Int → Int → Int → Prop}
 (H : ((((x2 : Int) == 1) = true → ((decide ((x3 : Int) ≤ 0) = true → False) ∧
 (decide ((x3 : Int) ≤ 0) = false → (((((NOp.den .f2iO (f1 0) 0) : Int) == 1) = true → ((decide ((x4 : Int) ≤ 0) = true → False) ∧
 (decide ((x4 : Int) ≤ 0) = false → (((((NOp.den .f2iO (f2 0) 0) : Int) == 1) = true → R ((NOp.den .f2iV (f1 0) 0)) (1) ((NOp.den .f2iV (f2 0) 0)) (1)) ∧
 ((((NOp.den .f2iO (f2 0) 0) : Int) == 1) = false → False))))) ∧
 ((((NOp.den .f2iO (f1 0) 0) : Int) == 1) = false → False))))) ∧
 (((x2 : Int) == 1) = false → (∃ v8 : Int, Spec Tryz.prog _glass_table__gap_s ⟨[x0, x1, x2, x3, x4, x5, x6, x7], [], [f0, f1, f2]⟩ [v8] [] [] ∧
 ((0 ≤ (v8 : Int) ∧ (v8 : Int) ≤ 62) ∧ ((decide ((x2 : Int) ≤ v8) = true → False) ∧
 (decide ((x2 : Int) ≤ v8) = false → ((decide ((x2 : Int) ≤ (v8 + 1)) = true → False) ∧
 (decide ((x2 : Int) ≤ (v8 + 1)) = false → ((decide ((x3 : Int) ≤ v8) = true → False) ∧
 (decide ((x3 : Int) ≤ v8) = false → (((((NOp.den .f2iO (f1 v8) 0) : Int) == 1) = true → ((decide ((x3 : Int) ≤ (v8 + 1)) = true → False) ∧
 (decide ((x3 : Int) ≤ (v8 + 1)) = false → (((((NOp.den .f2iO (f1 (v8 + 1)) 0) : Int) == 1) = true → ((decide ((x4 : Int) ≤ v8) = true → False) ∧
 (decide ((x4 : Int) ≤ v8) = false → (((((NOp.den .f2iO (f2 v8) 0) : Int) == 1) = true → ((decide ((x4 : Int) ≤ (v8 + 1)) = true → False) ∧
 (decide ((x4 : Int) ≤ (v8 + 1)) = false → (((((NOp.den .f2iO (f2 (v8 + 1)) 0) : Int) == 1) = true → R (IntKind.i64.wrap (IntKind.i64.wrap ((NOp.den .f2iV (f1 v8) 0) * IntKind.i64.wrap (IntKind.i64.wrap ((f0 (v8 + 1)) - (f0 v8)) - IntKind.i64.wrap (x7 - (f0 v8)))) + IntKind.i64.wrap ((NOp.den .f2iV (f1 (v8 + 1)) 0) * IntKind.i64.wrap (x7 - (f0 v8))))) (IntKind.i64.wrap ((f0 (v8 + 1)) - (f0 v8))) (IntKind.i64.wrap (IntKind.i64.wrap ((NOp.den .f2iV (f2 v8) 0) * IntKind.i64.wrap (IntKind.i64.wrap ((f0 (v8 + 1)) - (f0 v8)) - IntKind.i64.wrap (x7 - (f0 v8)))) + IntKind.i64.wrap ((NOp.den .f2iV (f2 (v8 + 1)) 0) * IntKind.i64.wrap (x7 - (f0 v8))))) (IntKind.i64.wrap ((f0 (v8 + 1)) - (f0 v8)))) ∧
 ((((NOp.den .f2iO (f2 (v8 + 1)) 0) : Int) == 1) = false → False))))) ∧
 ((((NOp.den .f2iO (f2 v8) 0) : Int) == 1) = false → False))))) ∧
 ((((NOp.den .f2iO (f1 (v8 + 1)) 0) : Int) == 1) = false → False))))) ∧
 ((((NOp.den .f2iO (f1 v8) 0) : Int) == 1) = false → False))))))))))))) :
 ∃ v0 : Int, ∃ v1 : Int, ∃ v2 : Int, ∃ v3 : Int, R v0 v1 v2 v3 ∧ Spec Tryz.prog _glass_table__told_s ⟨[x0, x1, x2, x3, x4, x5, x6, x7], [], [f0, f1, f2]⟩ [v0, v1, v2, v3] [] [] :=
 Eq.mp (by kernel_rfl) (exV_of (K := fun d => app3 _glass_table__told_s.out R d ∧ Spec Tryz.prog _glass_table__told_s ⟨[x0, x1, x2, x3, x4, x5, x6, x7], [], [f0, f1, f2]⟩ d.1 d.2.1 d.2.2) (tree_at mixed names S2_ok (S := S2 Tryz.prog) (lf := 100000) (d := 60) _glass_table__told_s tld0_t { ivs := [(1, (-9223372036854775808), 9223372036854775807), (2, 1, 64), (3, 0, 140737488355328), (4, 0, 140737488355328), (5, (-9223372036854775808), 9223372036854775807), (6, (-9223372036854775808), 9223372036854775807), (7, (-9223372036854775808), 9223372036854775807)], aivs := [(0, (-9223372036854775808), 9223372036854775807)] } ⟨[x0, x1, x2, x3, x4, x5, x6, x7], [], [f0, f1, f2]⟩ rfl (by kernel_rfl) (by kernel_rfl) (by kernel_rfl) ⟨(fc r1 (fc r2 (fc r3 (fc r4 (fc r5 (fc r6 (fc r7 fz))))))), fz, (fc s0 fz), fz⟩ (R := fun d => app3 _glass_table__told_s.out R d) (Eq.mp (by kernel_rfl) H)))

def frm0_t : Tr :=
 (.ret ⟨[(.bin .addI (.bin .mulI (.var 5) (.bin .mulI (.var 7) (.var 7))) (.bin .mulI (.var 6) (.lit 1000000))), (.bin .mulI (.var 7) (.var 7)), (.lit 0), (.lit 1)], [], []⟩ [])
theorem frm0 {x0 x1 x2 x3 x4 x5 x6 x7 : Int} {f0 f1 f2 : Int → Int} (r1 : (-9223372036854775808) ≤ x1 ∧ x1 ≤ 9223372036854775807) (r2 : 0 ≤ x2 ∧ x2 ≤ 140737488355328) (r3 : 0 ≤ x3 ∧ x3 ≤ 140737488355328) (r4 : 0 ≤ x4 ∧ x4 ≤ 140737488355328) (r5 : 5000 ≤ x5 ∧ x5 ≤ 60000) (r6 : 0 ≤ x6 ∧ x6 ≤ 20000) (r7 : 1000 ≤ x7 ∧ x7 ≤ 200000) (s0 : ∀ q, (-9223372036854775808) ≤ f0 q ∧ f0 q ≤ 9223372036854775807) {R : Int → Int → Int → Int → Prop}
 (H : R (((x5 * (x7 * x7)) + (x6 * 1000000))) ((x7 * x7)) (0) (1)) :
 ∃ v0 : Int, ∃ v1 : Int, ∃ v2 : Int, ∃ v3 : Int, R v0 v1 v2 v3 ∧ Spec Tryz.prog _glass_formula__told_s ⟨[x0, x1, x2, x3, x4, x5, x6, x7], [], [f0, f1, f2]⟩ [v0, v1, v2, v3] [] [] :=
 Eq.mp (by kernel_rfl) (exV_of (K := fun d => app3 _glass_formula__told_s.out R d ∧ Spec Tryz.prog _glass_formula__told_s ⟨[x0, x1, x2, x3, x4, x5, x6, x7], [], [f0, f1, f2]⟩ d.1 d.2.1 d.2.2) (tree_at mixed names S1_ok (S := S1 Tryz.prog) (lf := 100000) (d := 60) _glass_formula__told_s frm0_t { ivs := [(1, (-9223372036854775808), 9223372036854775807), (2, 0, 140737488355328), (3, 0, 140737488355328), (4, 0, 140737488355328), (5, 5000, 60000), (6, 0, 20000), (7, 1000, 200000)], aivs := [(0, (-9223372036854775808), 9223372036854775807)] } ⟨[x0, x1, x2, x3, x4, x5, x6, x7], [], [f0, f1, f2]⟩ rfl (by kernel_rfl) (by kernel_rfl) (by kernel_rfl) ⟨(fc r1 (fc r2 (fc r3 (fc r4 (fc r5 (fc r6 (fc r7 fz))))))), fz, (fc s0 fz), fz⟩ (R := fun d => app3 _glass_formula__told_s.out R d) (Eq.mp (by kernel_rfl) H)))

def row0_t : Tr :=
 (.loop ⟨48, [0, 0, 1, 1], [fgo_q0, (.int .i64 (.var 7)), (.ptr (some ⟨3, 0, none⟩)), (.tuple []), (.int .i64 (.lit 0)), (.int .i64 (.lit 0)), (.tuple []), (.tuple []), (.tuple []), (.tuple []), (.tuple []), (.tuple []), (.tuple []), (.tuple []), (.tuple []), (.tuple []), (.tuple []), (.tuple []), (.tuple []), (.tuple []), (.tuple []), (.tuple []), (.tuple []), (.tuple []), (.tuple [])], fgo_q2, [], [fgo_q0, (.int .i64 (.var 7)), (.ptr (some ⟨3, 0, none⟩)), (.tuple []), (.int .i64 (.lit 0)), (.int .i64 (.var 8)), (.any 6), (.any 7), (.any 8), (.any 9), (.any 10), (.any 11), (.any 12), (.any 13), (.any 14), (.any 15), (.any 16), (.any 17), (.any 18), (.any 19), (.any 20), (.any 21), (.any 22), (.any 23), (.tuple [])], fgo_q2, [], ⟨1, 0, 0⟩, ⟨[(.lit 0)], [], []⟩, []⟩
 (.rng 8 0 63 (.ite fgo_q10
 (.out 0 ⟨[(.var 8)], [], []⟩ [])
 (.ite (.icmp .leq (.sel (.avar 0) (.bin .addI (.var 8) (.lit 1))) (.var 7))
 (.next ⟨[(.bin .addI (.var 8) (.lit 1))], [], []⟩ [])
 (.out 0 ⟨[(.var 8)], [], []⟩ []))))
 (.ex ((.exit 0), [fgo_q0, (.int .i64 (.var 7)), (.ptr (some ⟨3, 0, none⟩)), (.tuple []), (.int .i64 (.lit 0)), (.int .i64 (.var 8)), (.any 6), (.any 7), (.any 8), (.any 9), (.any 10), (.any 11), (.any 12), (.any 13), (.any 14), (.any 15), (.any 16), (.any 17), (.any 18), (.any 19), (.any 20), (.any 21), (.any 22), (.any 23), (.tuple [])], fgo_q2, []) ⟨1, 0, 0⟩
 (.rng 8 (-9223372036854775808) 9223372036854775807 (.ret ⟨[(.var 8)], [], []⟩ []))
 .nil))
theorem row0 {x0 x1 x2 x3 x4 x5 x6 x7 : Int} {f0 f1 f2 : Int → Int} (r1 : (-9223372036854775808) ≤ x1 ∧ x1 ≤ 9223372036854775807) (r2 : 1 ≤ x2 ∧ x2 ≤ 64) (r3 : 0 ≤ x3 ∧ x3 ≤ 140737488355328) (r4 : 0 ≤ x4 ∧ x4 ≤ 140737488355328) (r5 : (-9223372036854775808) ≤ x5 ∧ x5 ≤ 9223372036854775807) (r6 : (-9223372036854775808) ≤ x6 ∧ x6 ≤ 9223372036854775807) (r7 : (-9223372036854775808) ≤ x7 ∧ x7 ≤ 9223372036854775807) (s0 : ∀ q, (-9223372036854775808) ≤ f0 q ∧ f0 q ≤ 9223372036854775807) {R : Int → Prop}
 (H : (∃ (I8 : Int → Prop) (rk8 : Int → Nat), I8 (0) ∧
 (∀ x8 : Int, I8 x8 → ((0 ≤ (x8 : Int) ∧ (x8 : Int) ≤ 63) ∧ ((decide ((x2 : Int) ≤ (x8 + 1)) = true → (((-9223372036854775808) ≤ ((x8) : Int) ∧ ((x8) : Int) ≤ 9223372036854775807) ∧ R ((x8)))) ∧
 (decide ((x2 : Int) ≤ (x8 + 1)) = false → ((decide (((f0 (x8 + 1)) : Int) ≤ x7) = true → (I8 ((x8 + 1)) ∧ rk8 ((x8 + 1)) < rk8 x8)) ∧
 (decide (((f0 (x8 + 1)) : Int) ≤ x7) = false → (((-9223372036854775808) ≤ ((x8) : Int) ∧ ((x8) : Int) ≤ 9223372036854775807) ∧ R ((x8))))))))))) :
 ∃ v0 : Int, R v0 ∧ Spec Tryz.prog etalonref02_row_s ⟨[x0, x1, x2, x3, x4, x5, x6, x7], [], [f0, f1, f2]⟩ [v0] [] [] :=
 Eq.mp (by kernel_rfl) (exV_of (K := fun d => app3 etalonref02_row_s.out R d ∧ Spec Tryz.prog etalonref02_row_s ⟨[x0, x1, x2, x3, x4, x5, x6, x7], [], [f0, f1, f2]⟩ d.1 d.2.1 d.2.2) (tree_at mixed names S2_ok (S := S2 Tryz.prog) (lf := 100000) (d := 60) etalonref02_row_s row0_t { ivs := [(1, (-9223372036854775808), 9223372036854775807), (2, 1, 64), (3, 0, 140737488355328), (4, 0, 140737488355328), (5, (-9223372036854775808), 9223372036854775807), (6, (-9223372036854775808), 9223372036854775807), (7, (-9223372036854775808), 9223372036854775807)], aivs := [(0, (-9223372036854775808), 9223372036854775807)] } ⟨[x0, x1, x2, x3, x4, x5, x6, x7], [], [f0, f1, f2]⟩ rfl (by kernel_rfl) (by kernel_rfl) (by kernel_rfl) ⟨(fc r1 (fc r2 (fc r3 (fc r4 (fc r5 (fc r6 (fc r7 fz))))))), fz, (fc s0 fz), fz⟩ (R := fun d => app3 etalonref02_row_s.out R d) (Eq.mp (by kernel_rfl) H)))

def exa0_t : Tr :=
 (.ite (.icmp .eql (.var 1) (.lit 2))
 (.ret ⟨[(.bin (.addW .i64) (.bin (.mulW .i64) (.bin (.mulW .i64) (.var 5) (.var 7)) (.var 7)) (.bin (.mulW .i64) (.var 6) (.lit 1000000))), (.bin (.mulW .i64) (.var 7) (.var 7)), (.lit 0), (.lit 1)], [], []⟩ [])
 (.call etalonref02_row_s ⟨[(.var 0), (.var 1), (.var 2), (.var 3), (.var 4), (.var 5), (.var 6), (.var 7)], [], [(.avar 0), (.avar 1), (.avar 2)]⟩ ⟨[(.var 0), (.var 1), (.var 2), (.var 3), (.var 4), (.var 5), (.var 6), (.var 7), (.var 8)], [], [(.avar 0), (.avar 1), (.avar 2)]⟩ ⟨48, [fgo_q0, (.int .i64 (.var 7))], [0, 1, 2], [fgo_q6, fgo_q4, fgo_q5, none, none], (.int .i64 (.var 8)), []⟩
 (.rng 8 0 63 (.ite (.icmp .leq (.var 2) (.var 8))
 .nil
 (.ite (.icmp .eql (.sel (.avar 0) (.var 8)) (.var 7))
 (.ite (.icmp .leq (.var 3) (.var 8))
 .nil
 (.ite fgo_q11
 (.ite (.icmp .leq (.var 4) (.var 8))
 .nil
 (.ite fgo_q12
 (.ret ⟨[(.bin .f2iV (.sel (.avar 1) (.var 8)) (.lit 0)), (.lit 1), (.bin .f2iV (.sel (.avar 2) (.var 8)) (.lit 0)), (.lit 1)], [], []⟩ [])
 .nil))
 .nil))
 (.ite fgo_q10
 .nil
 (.ite (.icmp .leq (.var 3) (.var 8))
 .nil
 (.ite fgo_q11
 (.ite (.icmp .leq (.var 3) (.bin .addI (.var 8) (.lit 1)))
 .nil
 (.ite (.icmp .eql (.bin .f2iO (.sel (.avar 1) (.bin .addI (.var 8) (.lit 1))) (.lit 0)) (.lit 1))
 (.ite (.icmp .leq (.var 4) (.var 8))
 .nil
 (.ite fgo_q12
 (.ite (.icmp .leq (.var 4) (.bin .addI (.var 8) (.lit 1)))
 .nil
 (.ite (.icmp .eql (.bin .f2iO (.sel (.avar 2) (.bin .addI (.var 8) (.lit 1))) (.lit 0)) (.lit 1))
 (.ret ⟨[fgo_q8, fgo_q3, fgo_q9, fgo_q3], [], []⟩ [])
 .nil))
 .nil))
 .nil))
 .nil))))))))
theorem exa0 {x0 x1 x2 x3 x4 x5 x6 x7 : Int} {f0 f1 f2 : Int → Int} (r1 : (-9223372036854775808) ≤ x1 ∧ x1 ≤ 9223372036854775807) (r2 : 0 ≤ x2 ∧ x2 ≤ 64) (r3 : 0 ≤ x3 ∧ x3 ≤ 140737488355328) (r4 : 0 ≤ x4 ∧ x4 ≤ 140737488355328) (r5 : (-9223372036854775808) ≤ x5 ∧ x5 ≤ 9223372036854775807) (r6 : (-9223372036854775808) ≤ x6 ∧ x6 ≤ 9223372036854775807) (r7 : (-9223372036854775808) ≤ x7 ∧ x7 ≤ 9223372036854775807) (s0 : ∀ q, (-9223372036854775808) ≤ f0 q ∧ f0 q ≤ 9223372036854775807) {R : Int → Int → Int → Int → Prop}
 (H : ((((x1 : Int) == 2) = true → R (IntKind.i64.wrap (IntKind.i64.wrap (IntKind.i64.wrap (x5 * x7) * x7) + IntKind.i64.wrap (x6 * 1000000))) (IntKind.i64.wrap (x7 * x7)) (0) (1)) ∧
 (((x1 : Int) == 2) = false → (∃ v8 : Int, Spec Tryz.prog etalonref02_row_s ⟨[x0, x1, x2, x3, x4, x5, x6, x7], [], [f0, f1, f2]⟩ [v8] [] [] ∧
 ((0 ≤ (v8 : Int) ∧ (v8 : Int) ≤ 63) ∧ ((decide ((x2 : Int) ≤ v8) = true → False) ∧
 (decide ((x2 : Int) ≤ v8) = false → (((((f0 v8) : Int) == x7) = true → ((decide ((x3 : Int) ≤ v8) = true → False) ∧
 (decide ((x3 : Int) ≤ v8) = false → (((((NOp.den .f2iO (f1 v8) 0) : Int) == 1) = true → ((decide ((x4 : Int) ≤ v8) = true → False) ∧
 (decide ((x4 : Int) ≤ v8) = false → (((((NOp.den .f2iO (f2 v8) 0) : Int) == 1) = true → R ((NOp.den .f2iV (f1 v8) 0)) (1) ((NOp.den .f2iV (f2 v8) 0)) (1)) ∧
 ((((NOp.den .f2iO (f2 v8) 0) : Int) == 1) = false → False))))) ∧
 ((((NOp.den .f2iO (f1 v8) 0) : Int) == 1) = false → False))))) ∧
 ((((f0 v8) : Int) == x7) = false → ((decide ((x2 : Int) ≤ (v8 + 1)) = true → False) ∧
 (decide ((x2 : Int) ≤ (v8 + 1)) = false → ((decide ((x3 : Int) ≤ v8) = true → False) ∧
 (decide ((x3 : Int) ≤ v8) = false → (((((NOp.den .f2iO (f1 v8) 0) : Int) == 1) = true → ((decide ((x3 : Int) ≤ (v8 + 1)) = true → False) ∧
 (decide ((x3 : Int) ≤ (v8 + 1)) = false → (((((NOp.den .f2iO (f1 (v8 + 1)) 0) : Int) == 1) = true → ((decide ((x4 : Int) ≤ v8) = true → False) ∧
 (decide ((x4 : Int) ≤ v8) = false → (((((NOp.den .f2iO (f2 v8) 0) : Int) == 1) = true → ((decide ((x4 : Int) ≤ (v8 + 1)) = true → False) ∧
 (decide ((x4 : Int) ≤ (v8 + 1)) = false → (((((NOp.den .f2iO (f2 (v8 + 1)) 0) : Int) == 1) = true → R (IntKind.i64.wrap (IntKind.i64.wrap ((NOp.den .f2iV (f1 v8) 0) * IntKind.i64.wrap (IntKind.i64.wrap ((f0 (v8 + 1)) - (f0 v8)) - IntKind.i64.wrap (x7 - (f0 v8)))) + IntKind.i64.wrap ((NOp.den .f2iV (f1 (v8 + 1)) 0) * IntKind.i64.wrap (x7 - (f0 v8))))) (IntKind.i64.wrap ((f0 (v8 + 1)) - (f0 v8))) (IntKind.i64.wrap (IntKind.i64.wrap ((NOp.den .f2iV (f2 v8) 0) * IntKind.i64.wrap (IntKind.i64.wrap ((f0 (v8 + 1)) - (f0 v8)) - IntKind.i64.wrap (x7 - (f0 v8)))) + IntKind.i64.wrap ((NOp.den .f2iV (f2 (v8 + 1)) 0) * IntKind.i64.wrap (x7 - (f0 v8))))) (IntKind.i64.wrap ((f0 (v8 + 1)) - (f0 v8)))) ∧
 ((((NOp.den .f2iO (f2 (v8 + 1)) 0) : Int) == 1) = false → False))))) ∧
 ((((NOp.den .f2iO (f2 v8) 0) : Int) == 1) = false → False))))) ∧
 ((((NOp.den .f2iO (f1 (v8 + 1)) 0) : Int) == 1) = false → False))))) ∧
 ((((NOp.den .f2iO (f1 v8) 0) : Int) == 1) = false → False))))))))))))))) :
 ∃ v0 : Int, ∃ v1 : Int, ∃ v2 : Int, ∃ v3 : Int, R v0 v1 v2 v3 ∧ Spec Tryz.prog etalonref02_exact_s ⟨[x0, x1, x2, x3, x4, x5, x6, x7], [], [f0, f1, f2]⟩ [v0, v1, v2, v3] [] [] :=
 Eq.mp (by kernel_rfl) (exV_of (K := fun d => app3 etalonref02_exact_s.out R d ∧ Spec Tryz.prog etalonref02_exact_s ⟨[x0, x1, x2, x3, x4, x5, x6, x7], [], [f0, f1, f2]⟩ d.1 d.2.1 d.2.2) (tree_at mixed names S2_ok (S := S2 Tryz.prog) (lf := 100000) (d := 60) etalonref02_exact_s exa0_t { ivs := [(1, (-9223372036854775808), 9223372036854775807), (2, 0, 64), (3, 0, 140737488355328), (4, 0, 140737488355328), (5, (-9223372036854775808), 9223372036854775807), (6, (-9223372036854775808), 9223372036854775807), (7, (-9223372036854775808), 9223372036854775807)], aivs := [(0, (-9223372036854775808), 9223372036854775807)] } ⟨[x0, x1, x2, x3, x4, x5, x6, x7], [], [f0, f1, f2]⟩ rfl (by kernel_rfl) (by kernel_rfl) (by kernel_rfl) ⟨(fc r1 (fc r2 (fc r3 (fc r4 (fc r5 (fc r6 (fc r7 fz))))))), fz, (fc s0 fz), fz⟩ (R := fun d => app3 etalonref02_exact_s.out R d) (Eq.mp (by kernel_rfl) H)))

def wer0_t : Tr :=
 (.ite (.icmp .leq (.lit 1000) (.var 7))
 (.ite (.icmp .leq (.var 7) (.lit 200000))
 (.ite (.icmp .eql (.var 1) (.lit 1))
 (.ite (.icmp .leq (.var 2) (.lit 0))
 .nil
 (.fact (.icmp .leq (.var 2) (.bin .subI (.var 2) (.lit 1))) false (.ite (.icmp .leq (.sel (.avar 0) (.lit 0)) (.var 7))
 (.ite (.icmp .leq (.var 7) (.sel (.avar 0) (.bin .subI (.var 2) (.lit 1))))
 (.ret ⟨[(.lit 0)], [], []⟩ [])
 (.ret ⟨[(.lit 17)], [], []⟩ []))
 (.ret ⟨[(.lit 17)], [], []⟩ []))))
 (.ret ⟨[(.lit 0)], [], []⟩ []))
 (.ret ⟨[(.lit 2)], [], []⟩ []))
 (.ret ⟨[(.lit 2)], [], []⟩ []))
theorem wer0 {x0 x1 x2 x3 x4 x5 x6 x7 : Int} {f0 f1 f2 : Int → Int} (r1 : (-9223372036854775808) ≤ x1 ∧ x1 ≤ 9223372036854775807) (r2 : 0 ≤ x2 ∧ x2 ≤ 64) (r3 : 0 ≤ x3 ∧ x3 ≤ 140737488355328) (r4 : 0 ≤ x4 ∧ x4 ≤ 140737488355328) (r5 : (-9223372036854775808) ≤ x5 ∧ x5 ≤ 9223372036854775807) (r6 : (-9223372036854775808) ≤ x6 ∧ x6 ≤ 9223372036854775807) (r7 : (-9223372036854775808) ≤ x7 ∧ x7 ≤ 9223372036854775807) (s0 : ∀ q, (-9223372036854775808) ≤ f0 q ∧ f0 q ≤ 9223372036854775807) {R : Int → Prop}
 (H : ((decide ((1000 : Int) ≤ x7) = true → ((decide ((x7 : Int) ≤ 200000) = true → ((((x1 : Int) == 1) = true → ((decide ((x2 : Int) ≤ 0) = true → False) ∧
 (decide ((x2 : Int) ≤ 0) = false → (decide ((x2 : Int) ≤ (x2 - 1)) = false ∧ ((decide (((f0 0) : Int) ≤ x7) = true → ((decide ((x7 : Int) ≤ (f0 (x2 - 1))) = true → R (0)) ∧
 (decide ((x7 : Int) ≤ (f0 (x2 - 1))) = false → R (17)))) ∧
 (decide (((f0 0) : Int) ≤ x7) = false → R (17))))))) ∧
 (((x1 : Int) == 1) = false → R (0)))) ∧
 (decide ((x7 : Int) ≤ 200000) = false → R (2)))) ∧
 (decide ((1000 : Int) ≤ x7) = false → R (2)))) :
 ∃ v0 : Int, R v0 ∧ Spec Tryz.prog etalonref02_WaveErr_s ⟨[x0, x1, x2, x3, x4, x5, x6, x7], [], [f0, f1, f2]⟩ [v0] [] [] :=
 Eq.mp (by kernel_rfl) (exV_of (K := fun d => app3 etalonref02_WaveErr_s.out R d ∧ Spec Tryz.prog etalonref02_WaveErr_s ⟨[x0, x1, x2, x3, x4, x5, x6, x7], [], [f0, f1, f2]⟩ d.1 d.2.1 d.2.2) (tree_at mixed names S2_ok (S := S2 Tryz.prog) (lf := 100000) (d := 60) etalonref02_WaveErr_s wer0_t { ivs := [(1, (-9223372036854775808), 9223372036854775807), (2, 0, 64), (3, 0, 140737488355328), (4, 0, 140737488355328), (5, (-9223372036854775808), 9223372036854775807), (6, (-9223372036854775808), 9223372036854775807), (7, (-9223372036854775808), 9223372036854775807)], aivs := [(0, (-9223372036854775808), 9223372036854775807)] } ⟨[x0, x1, x2, x3, x4, x5, x6, x7], [], [f0, f1, f2]⟩ rfl (by kernel_rfl) (by kernel_rfl) (by kernel_rfl) ⟨(fc r1 (fc r2 (fc r3 (fc r4 (fc r5 (fc r6 (fc r7 fz))))))), fz, (fc s0 fz), fz⟩ (R := fun d => app3 etalonref02_WaveErr_s.out R d) (Eq.mp (by kernel_rfl) H)))

def at0_t : Tr :=
 (.call glass_CheckGlass_s ⟨[(.var 0), (.var 1), (.var 2), (.var 3), (.var 4), (.var 5), (.var 6)], [], [(.avar 0), (.avar 1), (.avar 2)]⟩ ⟨[(.var 0), (.var 1), (.var 2), (.var 3), (.var 4), (.var 5), (.var 6), (.var 8), (.var 9)], [], [(.avar 0), (.avar 1), (.avar 2)]⟩ ⟨79, [fgo_q0], [0, 1, 2], [fgo_q6, fgo_q4, fgo_q5, none, none, none, none], (.tuple [(.int .i64 (.var 8)), (.int .i64 (.var 9))]), []⟩
 (.ite (.icmp .eql (.var 9) (.lit 0))
 (.ite (.icmp .eql (.var 1) (.lit 1))
 (.ite (.icmp .leq (.lit 1000) (.var 7))
 (.ite (.icmp .leq (.var 7) (.lit 200000))
 (.ite (.icmp .leq (.var 2) (.lit 0))
 .nil
 (.fact (.icmp .leq (.var 2) (.bin .subI (.var 2) (.lit 1))) false (.ite (.icmp .leq (.sel (.avar 0) (.lit 0)) (.var 7))
 (.ite (.icmp .leq (.var 7) (.sel (.avar 0) (.bin .subI (.var 2) (.lit 1))))
 (.call _glass_table__told_s ⟨[(.var 0), (.var 1), (.var 2), (.var 3), (.var 4), (.var 5), (.var 6), (.var 7)], [], [(.avar 0), (.avar 1), (.avar 2)]⟩ ⟨[(.var 0), (.var 1), (.var 2), (.var 3), (.var 4), (.var 5), (.var 6), (.var 7), (.var 10), (.var 11), (.var 12), (.var 13)], [], [(.avar 0), (.avar 1), (.avar 2)]⟩ ⟨146, [fgo_q0, (.int .i64 (.var 7))], [0, 1, 2], [fgo_q6, fgo_q4, fgo_q5, none, none, none], fgo_q15, []⟩
 (.call whole_Nearest_s ⟨[(.var 10), (.lit 1), (.var 11)], [], []⟩ ⟨[(.var 10), (.lit 1), (.var 11), (.var 14)], [(.var 0)], []⟩ ⟨34, [(.int .i64 (.var 10)), (.int .i64 (.lit 1)), (.int .i64 (.var 11))], [], [none, none, none, none, none, none, none, none], (.tuple [(.int .i64 (.var 14)), (.bool (.var 0))]), []⟩
 (.call whole_Nearest_s ⟨[(.var 12), (.lit 1), (.var 13)], [], []⟩ ⟨[(.var 12), (.lit 1), (.var 13), (.var 15)], [(.var 1)], []⟩ ⟨34, [(.int .i64 (.var 12)), (.int .i64 (.lit 1)), (.int .i64 (.var 13))], [], [none, none, none, none, none, none, none, none, none], (.tuple [(.int .i64 (.var 15)), (.bool (.var 1))]), []⟩
 (.ret ⟨[(.var 14), (.var 15), (.lit 0)], [], []⟩ []))))
 (.ret ⟨[(.lit 0), (.lit 0), (.lit 17)], [], []⟩ []))
 (.ret ⟨[(.lit 0), (.lit 0), (.lit 17)], [], []⟩ []))))
 (.ret ⟨[(.lit 0), (.lit 0), (.lit 2)], [], []⟩ []))
 (.ret ⟨[(.lit 0), (.lit 0), (.lit 2)], [], []⟩ []))
 (.ite (.icmp .eql (.var 1) (.lit 2))
 (.ite (.icmp .leq (.lit 1000) (.var 7))
 (.ite (.icmp .leq (.var 7) (.lit 200000))
 (.call _glass_formula__told_s ⟨[(.var 0), (.var 1), (.var 2), (.var 3), (.var 4), (.var 5), (.var 6), (.var 7)], [], [(.avar 0), (.avar 1), (.avar 2)]⟩ ⟨[(.var 0), (.var 1), (.var 2), (.var 3), (.var 4), (.var 5), (.var 6), (.var 7), (.var 10), (.var 11), (.var 12), (.var 13)], [], [(.avar 0), (.avar 1), (.avar 2)]⟩ ⟨154, [fgo_q0, (.int .i64 (.var 7))], [0, 1, 2], [fgo_q6, fgo_q4, fgo_q5, none, none, none], fgo_q15, []⟩
 (.call whole_Nearest_s ⟨[(.var 10), (.lit 1), (.var 11)], [], []⟩ ⟨[(.var 10), (.lit 1), (.var 11), (.var 14)], [(.var 0)], []⟩ ⟨34, [(.int .i64 (.var 10)), (.int .i64 (.lit 1)), (.int .i64 (.var 11))], [], [none, none, none, none, none, none, none, none], (.tuple [(.int .i64 (.var 14)), (.bool (.var 0))]), []⟩
 (.call whole_Nearest_s ⟨[(.var 12), (.lit 1), (.var 13)], [], []⟩ ⟨[(.var 12), (.lit 1), (.var 13), (.var 15)], [(.var 1)], []⟩ ⟨34, [(.int .i64 (.var 12)), (.int .i64 (.lit 1)), (.int .i64 (.var 13))], [], [none, none, none, none, none, none, none, none, none], (.tuple [(.int .i64 (.var 15)), (.bool (.var 1))]), []⟩
 (.ret ⟨[(.var 14), (.var 15), (.lit 0)], [], []⟩ []))))
 (.ret ⟨[(.lit 0), (.lit 0), (.lit 2)], [], []⟩ []))
 (.ret ⟨[(.lit 0), (.lit 0), (.lit 2)], [], []⟩ []))
 (.ite (.icmp .leq (.lit 1000) (.var 7))
 (.ite (.icmp .leq (.var 7) (.lit 200000))
 .nil
 (.ret ⟨[(.lit 0), (.lit 0), (.lit 2)], [], []⟩ []))
 (.ret ⟨[(.lit 0), (.lit 0), (.lit 2)], [], []⟩ []))))
 (.ret ⟨[(.lit 0), (.lit 0), (.var 9)], [], []⟩ [])))
theorem at0 {x0 x1 x2 x3 x4 x5 x6 x7 : Int} {f0 f1 f2 : Int → Int} (r1 : (-9223372036854775808) ≤ x1 ∧ x1 ≤ 9223372036854775807) (r2 : 0 ≤ x2 ∧ x2 ≤ 140737488355328) (r3 : 0 ≤ x3 ∧ x3 ≤ 140737488355328) (r4 : 0 ≤ x4 ∧ x4 ≤ 140737488355328) (r5 : (-9223372036854775808) ≤ x5 ∧ x5 ≤ 9223372036854775807) (r6 : (-9223372036854775808) ≤ x6 ∧ x6 ≤ 9223372036854775807) (r7 : (-9223372036854775808) ≤ x7 ∧ x7 ≤ 9223372036854775807) (s0 : ∀ q, (-9223372036854775808) ≤ f0 q ∧ f0 q ≤ 9223372036854775807) {R : Int → Int → Int → Prop}
 (H : (∃ v8 : Int, ∃ v9 : Int, Spec Tryz.prog glass_CheckGlass_s ⟨[x0, x1, x2, x3, x4, x5, x6], [], [f0, f1, f2]⟩ [v8, v9] [] [] ∧
 ((((v9 : Int) == 0) = true → ((((x1 : Int) == 1) = true → ((decide ((1000 : Int) ≤ x7) = true → ((decide ((x7 : Int) ≤ 200000) = true → ((decide ((x2 : Int) ≤ 0) = true → False) ∧
 (decide ((x2 : Int) ≤ 0) = false → (decide ((x2 : Int) ≤ (x2 - 1)) = false ∧ ((decide (((f0 0) : Int) ≤ x7) = true → ((decide ((x7 : Int) ≤ (f0 (x2 - 1))) = true → (∃ v10 : Int, ∃ v11 : Int, ∃ v12 : Int, ∃ v13 : Int, Spec Tryz.prog _glass_table__told_s ⟨[x0, x1, x2, x3, x4, x5, x6, x7], [], [f0, f1, f2]⟩ [v10, v11, v12, v13] [] [] ∧
 (∃ v14 : Int, ∃ u0 : Bool, Spec Tryz.prog whole_Nearest_s ⟨[v10, 1, v11], [], []⟩ [v14] [u0] [] ∧
 (∃ v15 : Int, ∃ u1 : Bool, Spec Tryz.prog whole_Nearest_s ⟨[v12, 1, v13], [], []⟩ [v15] [u1] [] ∧
 R (v14) (v15) (0))))) ∧
 (decide ((x7 : Int) ≤ (f0 (x2 - 1))) = false → R (0) (0) (17)))) ∧
 (decide (((f0 0) : Int) ≤ x7) = false → R (0) (0) (17))))))) ∧
 (decide ((x7 : Int) ≤ 200000) = false → R (0) (0) (2)))) ∧
 (decide ((1000 : Int) ≤ x7) = false → R (0) (0) (2)))) ∧
 (((x1 : Int) == 1) = false → ((((x1 : Int) == 2) = true → ((decide ((1000 : Int) ≤ x7) = true → ((decide ((x7 : Int) ≤ 200000) = true → (∃ v10 : Int, ∃ v11 : Int, ∃ v12 : Int, ∃ v13 : Int, Spec Tryz.prog _glass_formula__told_s ⟨[x0, x1, x2, x3, x4, x5, x6, x7], [], [f0, f1, f2]⟩ [v10, v11, v12, v13] [] [] ∧
 (∃ v14 : Int, ∃ u0 : Bool, Spec Tryz.prog whole_Nearest_s ⟨[v10, 1, v11], [], []⟩ [v14] [u0] [] ∧
 (∃ v15 : Int, ∃ u1 : Bool, Spec Tryz.prog whole_Nearest_s ⟨[v12, 1, v13], [], []⟩ [v15] [u1] [] ∧
 R (v14) (v15) (0))))) ∧
 (decide ((x7 : Int) ≤ 200000) = false → R (0) (0) (2)))) ∧
 (decide ((1000 : Int) ≤ x7) = false → R (0) (0) (2)))) ∧
 (((x1 : Int) == 2) = false → ((decide ((1000 : Int) ≤ x7) = true → ((decide ((x7 : Int) ≤ 200000) = true → False) ∧
 (decide ((x7 : Int) ≤ 200000) = false → R (0) (0) (2)))) ∧
 (decide ((1000 : Int) ≤ x7) = false → R (0) (0) (2)))))))) ∧
 (((v9 : Int) == 0) = false → R (0) (0) (v9))))) :
 ∃ v0 : Int, ∃ v1 : Int, ∃ v2 : Int, R v0 v1 v2 ∧ Spec Tryz.prog glass_At_s ⟨[x0, x1, x2, x3, x4, x5, x6, x7], [], [f0, f1, f2]⟩ [v0, v1, v2] [] [] :=
 Eq.mp (by kernel_rfl) (exV_of (K := fun d => app3 glass_At_s.out R d ∧ Spec Tryz.prog glass_At_s ⟨[x0, x1, x2, x3, x4, x5, x6, x7], [], [f0, f1, f2]⟩ d.1 d.2.1 d.2.2) (tree_at mixed names S2_ok (S := S2 Tryz.prog) (lf := 100000) (d := 60) glass_At_s at0_t { ivs := [(1, (-9223372036854775808), 9223372036854775807), (2, 0, 140737488355328), (3, 0, 140737488355328), (4, 0, 140737488355328), (5, (-9223372036854775808), 9223372036854775807), (6, (-9223372036854775808), 9223372036854775807), (7, (-9223372036854775808), 9223372036854775807)], aivs := [(0, (-9223372036854775808), 9223372036854775807)] } ⟨[x0, x1, x2, x3, x4, x5, x6, x7], [], [f0, f1, f2]⟩ rfl (by kernel_rfl) (by kernel_rfl) (by kernel_rfl) ⟨(fc r1 (fc r2 (fc r3 (fc r4 (fc r5 (fc r6 (fc r7 fz))))))), fz, (fc s0 fz), fz⟩ (R := fun d => app3 glass_At_s.out R d) (Eq.mp (by kernel_rfl) H)))

def rat0_t : Tr :=
 (.call etalonref02_exact_s ⟨[(.var 0), (.var 1), (.var 2), (.var 3), (.var 4), (.var 5), (.var 6), (.var 7)], [], [(.avar 0), (.avar 1), (.avar 2)]⟩ ⟨[(.var 0), (.var 1), (.var 2), (.var 3), (.var 4), (.var 5), (.var 6), (.var 7), (.var 8), (.var 9), (.var 10), (.var 11)], [], [(.avar 0), (.avar 1), (.avar 2)]⟩ ⟨46, [fgo_q0, (.int .i64 (.var 7))], [0, 1, 2], [fgo_q6, fgo_q4, fgo_q5, none, none], (.agg [(.int .i64 (.var 8)), (.int .i64 (.var 9)), (.int .i64 (.var 10)), (.int .i64 (.var 11))]), []⟩
 (.call etalonbase_Floor_s ⟨[fgo_q14, (.bin (.mulW .i64) (.lit 2) (.var 9))], [], []⟩ ⟨[fgo_q14, (.bin (.mulW .i64) (.lit 2) (.var 9)), (.var 12)], [], []⟩ ⟨49, [(.int .i64 fgo_q14), (.int .i64 (.bin (.mulW .i64) (.lit 2) (.var 9)))], [], [none, none, none, none, none, none, none], (.int .i64 (.var 12)), []⟩
 (.call etalonbase_Floor_s ⟨[fgo_q13, (.bin (.mulW .i64) (.lit 2) (.var 11))], [], []⟩ ⟨[fgo_q13, (.bin (.mulW .i64) (.lit 2) (.var 11)), (.var 13)], [], []⟩ ⟨49, [(.int .i64 fgo_q13), (.int .i64 (.bin (.mulW .i64) (.lit 2) (.var 11)))], [], [none, none, none, none, none, none, none], (.int .i64 (.var 13)), []⟩
 (.ret ⟨[(.var 12), (.var 13)], [], []⟩ []))))
theorem rat0 {x0 x1 x2 x3 x4 x5 x6 x7 : Int} {f0 f1 f2 : Int → Int} (r1 : (-9223372036854775808) ≤ x1 ∧ x1 ≤ 9223372036854775807) (r2 : 0 ≤ x2 ∧ x2 ≤ 64) (r3 : 0 ≤ x3 ∧ x3 ≤ 140737488355328) (r4 : 0 ≤ x4 ∧ x4 ≤ 140737488355328) (r5 : (-9223372036854775808) ≤ x5 ∧ x5 ≤ 9223372036854775807) (r6 : (-9223372036854775808) ≤ x6 ∧ x6 ≤ 9223372036854775807) (r7 : (-9223372036854775808) ≤ x7 ∧ x7 ≤ 9223372036854775807) (s0 : ∀ q, (-9223372036854775808) ≤ f0 q ∧ f0 q ≤ 9223372036854775807) {R : Int → Int → Prop}
 (H : (∃ v8 : Int, ∃ v9 : Int, ∃ v10 : Int, ∃ v11 : Int, Spec Tryz.prog etalonref02_exact_s ⟨[x0, x1, x2, x3, x4, x5, x6, x7], [], [f0, f1, f2]⟩ [v8, v9, v10, v11] [] [] ∧
 (∃ v12 : Int, Spec Tryz.prog etalonbase_Floor_s ⟨[IntKind.i64.wrap (IntKind.i64.wrap (2 * v8) + v9), IntKind.i64.wrap (2 * v9)], [], []⟩ [v12] [] [] ∧
 (∃ v13 : Int, Spec Tryz.prog etalonbase_Floor_s ⟨[IntKind.i64.wrap (IntKind.i64.wrap (2 * v10) + v11), IntKind.i64.wrap (2 * v11)], [], []⟩ [v13] [] [] ∧
 R (v12) (v13))))) :
 ∃ v0 : Int, ∃ v1 : Int, R v0 v1 ∧ Spec Tryz.prog etalonref02_At_s ⟨[x0, x1, x2, x3, x4, x5, x6, x7], [], [f0, f1, f2]⟩ [v0, v1] [] [] :=
 Eq.mp (by kernel_rfl) (exV_of (K := fun d => app3 etalonref02_At_s.out R d ∧ Spec Tryz.prog etalonref02_At_s ⟨[x0, x1, x2, x3, x4, x5, x6, x7], [], [f0, f1, f2]⟩ d.1 d.2.1 d.2.2) (tree_at mixed names S2_ok (S := S2 Tryz.prog) (lf := 100000) (d := 60) etalonref02_At_s rat0_t { ivs := [(1, (-9223372036854775808), 9223372036854775807), (2, 0, 64), (3, 0, 140737488355328), (4, 0, 140737488355328), (5, (-9223372036854775808), 9223372036854775807), (6, (-9223372036854775808), 9223372036854775807), (7, (-9223372036854775808), 9223372036854775807)], aivs := [(0, (-9223372036854775808), 9223372036854775807)] } ⟨[x0, x1, x2, x3, x4, x5, x6, x7], [], [f0, f1, f2]⟩ rfl (by kernel_rfl) (by kernel_rfl) (by kernel_rfl) ⟨(fc r1 (fc r2 (fc r3 (fc r4 (fc r5 (fc r6 (fc r7 fz))))))), fz, (fc s0 fz), fz⟩ (R := fun d => app3 etalonref02_At_s.out R d) (Eq.mp (by kernel_rfl) H)))

end Go.Proofs.YtfgdockgdbdoiaaGreat.Ev
