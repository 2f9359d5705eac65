/- Fractions in lowest terms; the number of Abbe of both. -/
import Derived.Test.YtfgdockgdbdoiaaGreatFgp
import Derived.Test.YtfgdockgdbdoiaaGreatFgg
namespace Go.Proofs.YtfgdockgdbdoiaaGreat.Ev
set_option linter.unusedSimpArgs false
open Go Go.RowKit
set_option linter.unusedVariables false
set_option maxRecDepth 100000
def frac_Lowest_s : Sig := ⟨51, ⟨2, 0, 0⟩, ⟨2, 0, 0⟩, [(.int .i64 (.var 0)), (.int .i64 (.var 1))], [], (.agg [(.int .i64 (.var 2)), (.int .i64 (.var 3))]), []⟩
def etalonbase_Lowest_s : Sig := ⟨52, ⟨2, 0, 0⟩, ⟨2, 0, 0⟩, [(.int .i64 (.var 0)), (.int .i64 (.var 1))], [], (.agg [(.int .i64 (.var 2)), (.int .i64 (.var 3))]), []⟩
def etalonbase_Gcd_s : Sig := ⟨78, ⟨2, 0, 0⟩, ⟨1, 0, 0⟩, [(.int .i64 (.var 0)), (.int .i64 (.var 1))], [], (.int .i64 (.var 2)), []⟩
def glass_Abbe_s : Sig := ⟨20, ⟨7, 0, 3⟩, ⟨3, 0, 0⟩, [(.agg [(.strn (.var 0)), (.int .i64 (.var 1)), (.asl 0 (.var 2)), (.asl 1 (.var 3)), (.asl 2 (.var 4)), (.int .i64 (.var 5)), (.int .i64 (.var 6))])], [(some ⟨[], 3, true, false, (some ⟨(.var 2), [(.int .i64)], [(.avar 0)]⟩)⟩), (some ⟨[], 98, true, false, (some ⟨(.var 3), [(.float .f32)], [(.avar 1)]⟩)⟩), (some ⟨[], 98, true, false, (some ⟨(.var 4), [(.float .f32)], [(.avar 2)]⟩)⟩)], (.tuple [(.agg [(.int .i64 (.var 7)), (.int .i64 (.var 8))]), (.int .i64 (.var 9))]), []⟩
def etalonref02_Abbe_s : Sig := ⟨21, ⟨7, 0, 3⟩, ⟨3, 0, 0⟩, [(.agg [(.strn (.var 0)), (.int .i64 (.var 1)), (.asl 0 (.var 2)), (.asl 1 (.var 3)), (.asl 2 (.var 4)), (.int .i64 (.var 5)), (.int .i64 (.var 6))])], [(some ⟨[], 3, true, false, (some ⟨(.var 2), [(.int .i64)], [(.avar 0)]⟩)⟩), (some ⟨[], 98, true, false, (some ⟨(.var 3), [(.float .f32)], [(.avar 1)]⟩)⟩), (some ⟨[], 98, true, false, (some ⟨(.var 4), [(.float .f32)], [(.avar 2)]⟩)⟩)], (.tuple [(.agg [(.int .i64 (.var 7)), (.int .i64 (.var 8))]), (.int .i64 (.var 9))]), []⟩

def lw2_t : Tr :=
  (.loop ⟨77, [0, 1, 0, 0, 1, 1, 0, 0, 1, 0, 1, 1], [(.slice (some ⟨1, 0, none⟩) 2 2), (.tuple []), (.int .i64 (.lit 0)), (.int .i64 (.lit 0)), (.tuple []), (.int .i64 (.var 0)), (.slice (some ⟨1, 0, none⟩) 2 2), (.int .i64 (.lit 2)), (.int .i64 (.lit 0)), (.bool (.lit true)), (.ptr (some ⟨1, 0, none⟩)), (.int .i64 (.var 0)), (.tuple []), (.tuple []), (.tuple []), (.tuple []), (.tuple []), (.tuple []), (.tuple []), (.tuple []), (.tuple []), (.tuple []), (.tuple [])], [(some ⟨[(.int .i64 (.lit 0)), (.int .i64 (.lit 0))], 56, false, false, none⟩), (some ⟨[(.int .i64 (.var 0)), (.int .i64 (.var 1))], 3, false, false, none⟩)], [], [(.slice (some ⟨1, 0, none⟩) 2 2), (.tuple []), (.int .i64 (.lit 0)), (.int .i64 (.var 2)), (.tuple []), (.int .i64 (.var 3)), (.slice (some ⟨1, 0, none⟩) 2 2), (.int .i64 (.lit 2)), (.int .i64 (.lit 0)), (.bool (.lit true)), (.ptr (some ⟨1, 0, none⟩)), (.int .i64 (.var 0)), (.any 12), (.any 13), (.any 14), (.any 15), (.any 16), (.any 17), (.tuple []), (.tuple []), (.tuple []), (.tuple []), (.tuple [])], [(some ⟨[(.int .i64 (.lit 0)), (.int .i64 (.lit 0))], 56, false, false, none⟩), (some ⟨[(.int .i64 (.var 0)), (.int .i64 (.var 1))], 3, false, false, none⟩)], [], ⟨2, 0, 0⟩, ⟨[(.lit 0), (.var 0)], [], []⟩, []⟩
  (.rng 2 (-9223372036854775808) 9223372036854775807 (.rng 3 (-9223372036854775808) 9223372036854775807 (.ite (.icmp .eql (.var 3) (.lit 0))
   (.out 0 ⟨[(.var 2)], [], []⟩ [])
   (.next ⟨[(.var 3), (.bin .remK (.var 2) (.var 3))], [], []⟩ []))))
  (.ex ((.exit 2), [(.slice (some ⟨1, 0, none⟩) 2 2), (.tuple []), (.int .i64 (.lit 0)), (.int .i64 (.var 2)), (.tuple []), (.any 5), (.slice (some ⟨1, 0, none⟩) 2 2), (.int .i64 (.lit 2)), (.int .i64 (.lit 0)), (.bool (.lit true)), (.ptr (some ⟨1, 0, none⟩)), (.int .i64 (.var 0)), (.any 12), (.any 13), (.any 14), (.any 15), (.any 16), (.any 17), (.tuple []), (.tuple []), (.tuple []), (.tuple []), (.tuple [])], [(some ⟨[(.int .i64 (.lit 0)), (.int .i64 (.lit 0))], 56, false, false, none⟩), (some ⟨[(.int .i64 (.var 0)), (.int .i64 (.var 1))], 3, false, false, none⟩)], []) ⟨1, 0, 0⟩
  (.rng 2 (-9223372036854775808) 9223372036854775807 (.loop ⟨77, [0, 1, 0, 0, 1, 1, 0, 0, 1, 0, 1, 1], [(.slice (some ⟨1, 0, none⟩) 2 2), (.tuple []), (.int .i64 (.lit 0)), (.int .i64 (.var 2)), (.tuple []), (.int .i64 (.var 1)), (.slice (some ⟨1, 0, none⟩) 2 2), (.int .i64 (.lit 2)), (.int .i64 (.lit 1)), (.bool (.lit true)), (.ptr (some ⟨1, 1, none⟩)), (.int .i64 (.var 1)), (.any 12), (.any 13), (.any 14), (.any 15), (.any 16), (.any 17), (.int .i64 (.lit 1)), (.tuple []), (.tuple []), (.tuple []), (.tuple [])], [(some ⟨[(.int .i64 (.lit 0)), (.int .i64 (.lit 0))], 56, false, false, none⟩), (some ⟨[(.int .i64 (.var 0)), (.int .i64 (.var 1))], 3, false, false, none⟩)], [], [(.slice (some ⟨1, 0, none⟩) 2 2), (.tuple []), (.int .i64 (.lit 0)), (.int .i64 (.var 3)), (.tuple []), (.int .i64 (.var 4)), (.slice (some ⟨1, 0, none⟩) 2 2), (.int .i64 (.lit 2)), (.int .i64 (.lit 1)), (.bool (.lit true)), (.ptr (some ⟨1, 1, none⟩)), (.int .i64 (.var 1)), (.any 12), (.any 13), (.any 14), (.any 15), (.any 16), (.any 17), (.int .i64 (.lit 1)), (.tuple []), (.tuple []), (.tuple []), (.tuple [])], [(some ⟨[(.int .i64 (.lit 0)), (.int .i64 (.lit 0))], 56, false, false, none⟩), (some ⟨[(.int .i64 (.var 0)), (.int .i64 (.var 1))], 3, false, false, none⟩)], [], ⟨2, 0, 0⟩, ⟨[(.var 2), (.var 1)], [], []⟩, []⟩
   (.rng 3 (-9223372036854775808) 9223372036854775807 (.rng 4 (-9223372036854775808) 9223372036854775807 (.ite (.icmp .eql (.var 4) (.lit 0))
    (.out 0 ⟨[(.var 3)], [], []⟩ [])
    (.next ⟨[(.var 4), (.bin .remK (.var 3) (.var 4))], [], []⟩ []))))
   (.ex ((.exit 2), [(.slice (some ⟨1, 0, none⟩) 2 2), (.tuple []), (.int .i64 (.lit 0)), (.int .i64 (.var 3)), (.tuple []), (.any 5), (.slice (some ⟨1, 0, none⟩) 2 2), (.int .i64 (.lit 2)), (.int .i64 (.lit 1)), (.bool (.lit true)), (.ptr (some ⟨1, 1, none⟩)), (.int .i64 (.var 1)), (.any 12), (.any 13), (.any 14), (.any 15), (.any 16), (.any 17), (.int .i64 (.lit 1)), (.tuple []), (.tuple []), (.tuple []), (.tuple [])], [(some ⟨[(.int .i64 (.lit 0)), (.int .i64 (.lit 0))], 56, false, false, none⟩), (some ⟨[(.int .i64 (.var 0)), (.int .i64 (.var 1))], 3, false, false, none⟩)], []) ⟨1, 0, 0⟩
   (.rng 3 (-9223372036854775808) 9223372036854775807 (.ite (.icmp .leq (.lit 0) (.var 1))
    (.ite (.icmp .eql (.bin .maxI (.var 3) (.bin (.subW .i64) (.lit 0) (.var 3))) (.lit 0))
     .nil
     (.ret ⟨[(.bin (.quoW .i64) (.var 0) (.bin .maxI (.var 3) (.bin (.subW .i64) (.lit 0) (.var 3)))), (.bin (.quoW .i64) (.var 1) (.bin .maxI (.var 3) (.bin (.subW .i64) (.lit 0) (.var 3))))], [], []⟩ []))
    (.ite (.icmp .eql (.bin (.subW .i64) (.lit 0) (.bin .maxI (.var 3) (.bin (.subW .i64) (.lit 0) (.var 3)))) (.lit 0))
     .nil
     (.ret ⟨[(.bin (.quoW .i64) (.var 0) (.bin (.subW .i64) (.lit 0) (.bin .maxI (.var 3) (.bin (.subW .i64) (.lit 0) (.var 3))))), (.bin (.quoW .i64) (.var 1) (.bin (.subW .i64) (.lit 0) (.bin .maxI (.var 3) (.bin (.subW .i64) (.lit 0) (.var 3)))))], [], []⟩ []))))
   .nil)))
  .nil))
theorem lw2 {x0 x1 : Int} (r0 : (-80000) ≤ x0 ∧ x0 ≤ 80000) (r1 : (-80000) ≤ x1 ∧ x1 ≤ 80000) {R : Int → Int → Prop}
  (H : (∃ (I2 : Int → Int → Prop) (rk2 : Int → Int → Nat), I2 (0) (x0) ∧
   (∀ x2 : Int, ∀ x3 : Int, I2 x2 x3 → (((-9223372036854775808) ≤ (x2 : Int) ∧ (x2 : Int) ≤ 9223372036854775807) ∧ (((-9223372036854775808) ≤ (x3 : Int) ∧ (x3 : Int) ≤ 9223372036854775807) ∧ ((((x3 : Int) == 0) = true → (((-9223372036854775808) ≤ ((x2) : Int) ∧ ((x2) : Int) ≤ 9223372036854775807) ∧ (∃ (I3' : Int → Int → Prop) (rk3' : Int → Int → Nat), I3' ((x2)) (x1) ∧
    (∀ x3' : Int, ∀ x4' : Int, I3' x3' x4' → (((-9223372036854775808) ≤ (x3' : Int) ∧ (x3' : Int) ≤ 9223372036854775807) ∧ (((-9223372036854775808) ≤ (x4' : Int) ∧ (x4' : Int) ≤ 9223372036854775807) ∧ ((((x4' : Int) == 0) = true → (((-9223372036854775808) ≤ ((x3') : Int) ∧ ((x3') : Int) ≤ 9223372036854775807) ∧ ((decide ((0 : Int) ≤ x1) = true → (((((if (IntKind.i64.wrap (0 - (x3')) : Int) > ((x3')) then IntKind.i64.wrap (0 - (x3')) else (x3')) : Int) == 0) = true → False) ∧
      ((((if (IntKind.i64.wrap (0 - (x3')) : Int) > ((x3')) then IntKind.i64.wrap (0 - (x3')) else (x3')) : Int) == 0) = false → R (IntKind.i64.wrap ((x0 : Int).tdiv ((if (IntKind.i64.wrap (0 - (x3')) : Int) > ((x3')) then IntKind.i64.wrap (0 - (x3')) else (x3'))))) (IntKind.i64.wrap ((x1 : Int).tdiv ((if (IntKind.i64.wrap (0 - (x3')) : Int) > ((x3')) then IntKind.i64.wrap (0 - (x3')) else (x3')))))))) ∧
     (decide ((0 : Int) ≤ x1) = false → ((((IntKind.i64.wrap (0 - (if (IntKind.i64.wrap (0 - (x3')) : Int) > ((x3')) then IntKind.i64.wrap (0 - (x3')) else (x3'))) : Int) == 0) = true → False) ∧
      (((IntKind.i64.wrap (0 - (if (IntKind.i64.wrap (0 - (x3')) : Int) > ((x3')) then IntKind.i64.wrap (0 - (x3')) else (x3'))) : Int) == 0) = false → R (IntKind.i64.wrap ((x0 : Int).tdiv (IntKind.i64.wrap (0 - (if (IntKind.i64.wrap (0 - (x3')) : Int) > ((x3')) then IntKind.i64.wrap (0 - (x3')) else (x3')))))) (IntKind.i64.wrap ((x1 : Int).tdiv (IntKind.i64.wrap (0 - (if (IntKind.i64.wrap (0 - (x3')) : Int) > ((x3')) then IntKind.i64.wrap (0 - (x3')) else (x3')))))))))))) ∧
     (((x4' : Int) == 0) = false → (I3' (x4') (((x3' : Int).tmod (x4'))) ∧ rk3' (x4') (((x3' : Int).tmod (x4'))) < rk3' x3' x4'))))))))) ∧
    (((x3 : Int) == 0) = false → (I2 (x3) (((x2 : Int).tmod (x3))) ∧ rk2 (x3) (((x2 : Int).tmod (x3))) < rk2 x2 x3)))))))) :
    ∃ v0 : Int, ∃ v1 : Int, R v0 v1 ∧ Spec Tryz.prog frac_Lowest_s ⟨[x0, x1], [], []⟩ [v0, v1] [] [] :=
  Eq.mp (by kernel_rfl) (exV_of (K := fun d => app3 frac_Lowest_s.out R d ∧ Spec Tryz.prog frac_Lowest_s ⟨[x0, x1], [], []⟩ d.1 d.2.1 d.2.2) (tree_at mixed names S1_ok (S := S1 Tryz.prog) (lf := 100000) (d := 60) frac_Lowest_s lw2_t { ivs := [(0, (-80000), 80000), (1, (-80000), 80000)], aivs := [] } ⟨[x0, x1], [], []⟩ rfl (by kernel_rfl) (by kernel_rfl) (by kernel_rfl) ⟨(fc r0 (fc r1 fz)), fz, fz, fz⟩ (R := fun d => app3 frac_Lowest_s.out R d) (Eq.mp (by kernel_rfl) H)))

def gc2_t : Tr :=
  (.loop ⟨78, [0, 0, 1], [(.int .i64 (.var 0)), (.int .i64 (.var 1)), (.tuple []), (.tuple []), (.int .i64 (.lit 0)), (.tuple []), (.tuple []), (.tuple []), (.tuple []), (.tuple []), (.tuple []), (.tuple []), (.tuple [])], [], [], [(.int .i64 (.var 2)), (.int .i64 (.var 3)), (.tuple []), (.tuple []), (.int .i64 (.lit 0)), (.any 5), (.any 6), (.any 7), (.any 8), (.any 9), (.any 10), (.tuple []), (.tuple [])], [], [], ⟨2, 0, 0⟩, ⟨[(.var 0), (.var 1)], [], []⟩, []⟩
  (.rng 2 (-9223372036854775808) 9223372036854775807 (.rng 3 (-9223372036854775808) 9223372036854775807 (.ite (.icmp .eql (.var 3) (.lit 0))
   (.out 0 ⟨[(.var 2)], [], []⟩ [])
   (.next ⟨[(.var 3), (.bin .remK (.var 2) (.var 3))], [], []⟩ []))))
  (.ex ((.exit 0), [(.int .i64 (.var 2)), (.any 1), (.tuple []), (.tuple []), (.int .i64 (.lit 0)), (.any 5), (.any 6), (.any 7), (.any 8), (.any 9), (.any 10), (.tuple []), (.tuple [])], [], []) ⟨1, 0, 0⟩
  (.rng 2 (-9223372036854775808) 9223372036854775807 (.ret ⟨[(.bin .maxI (.var 2) (.bin (.subW .i64) (.lit 0) (.var 2)))], [], []⟩ []))
  .nil))
theorem gc2 {x0 x1 : Int} (r0 : (-9223372036854775808) ≤ x0 ∧ x0 ≤ 9223372036854775807) (r1 : (-9223372036854775808) ≤ x1 ∧ x1 ≤ 9223372036854775807) {R : Int → Prop}
  (H : (∃ (I2 : Int → Int → Prop) (rk2 : Int → Int → Nat), I2 (x0) (x1) ∧
   (∀ x2 : Int, ∀ x3 : Int, I2 x2 x3 → (((-9223372036854775808) ≤ (x2 : Int) ∧ (x2 : Int) ≤ 9223372036854775807) ∧ (((-9223372036854775808) ≤ (x3 : Int) ∧ (x3 : Int) ≤ 9223372036854775807) ∧ ((((x3 : Int) == 0) = true → (((-9223372036854775808) ≤ ((x2) : Int) ∧ ((x2) : Int) ≤ 9223372036854775807) ∧ R ((if (IntKind.i64.wrap (0 - (x2)) : Int) > ((x2)) then IntKind.i64.wrap (0 - (x2)) else (x2))))) ∧
    (((x3 : Int) == 0) = false → (I2 (x3) (((x2 : Int).tmod (x3))) ∧ rk2 (x3) (((x2 : Int).tmod (x3))) < rk2 x2 x3)))))))) :
    ∃ v0 : Int, R v0 ∧ Spec Tryz.prog etalonbase_Gcd_s ⟨[x0, x1], [], []⟩ [v0] [] [] :=
  Eq.mp (by kernel_rfl) (exV_of (K := fun d => app3 etalonbase_Gcd_s.out R d ∧ Spec Tryz.prog etalonbase_Gcd_s ⟨[x0, x1], [], []⟩ d.1 d.2.1 d.2.2) (tree_at mixed names S1_ok (S := S1 Tryz.prog) (lf := 100000) (d := 60) etalonbase_Gcd_s gc2_t { ivs := [(0, (-9223372036854775808), 9223372036854775807), (1, (-9223372036854775808), 9223372036854775807)], aivs := [] } ⟨[x0, x1], [], []⟩ rfl (by kernel_rfl) (by kernel_rfl) (by kernel_rfl) ⟨(fc r0 (fc r1 fz)), fz, fz, fz⟩ (R := fun d => app3 etalonbase_Gcd_s.out R d) (Eq.mp (by kernel_rfl) H)))

def bl2_t : Tr :=
  (.call etalonbase_Gcd_s ⟨[(.var 0), (.var 1)], [], []⟩ ⟨[(.var 0), (.var 1), (.var 2)], [], []⟩ ⟨78, [(.int .i64 (.var 0)), (.int .i64 (.var 1))], [], [none], (.int .i64 (.var 2)), []⟩
  (.rng 2 0 80000 (.ite (.icmp .leq (.lit 0) (.var 1))
  (.ite (.icmp .eql (.var 2) (.lit 0))
   .nil
   (.ret ⟨[(.bin .quoI (.var 0) (.var 2)), (.bin .quoI (.var 1) (.var 2))], [], []⟩ []))
  (.ite (.icmp .eql (.bin .subI (.lit 0) (.var 2)) (.lit 0))
   .nil
   (.ret ⟨[(.bin (.quoW .i64) (.var 0) (.bin .subI (.lit 0) (.var 2))), (.bin (.quoW .i64) (.var 1) (.bin .subI (.lit 0) (.var 2)))], [], []⟩ [])))))
theorem bl2 {x0 x1 : Int} (r0 : (-80000) ≤ x0 ∧ x0 ≤ 80000) (r1 : (-80000) ≤ x1 ∧ x1 ≤ 80000) {R : Int → Int → Prop}
  (H : (∃ v2 : Int, Spec Tryz.prog etalonbase_Gcd_s ⟨[x0, x1], [], []⟩ [v2] [] [] ∧
   ((0 ≤ (v2 : Int) ∧ (v2 : Int) ≤ 80000) ∧ ((decide ((0 : Int) ≤ x1) = true → ((((v2 : Int) == 0) = true → False) ∧
    (((v2 : Int) == 0) = false → R (((x0 : Int).tdiv (v2))) (((x1 : Int).tdiv (v2)))))) ∧
   (decide ((0 : Int) ≤ x1) = false → (((((0 - v2) : Int) == 0) = true → False) ∧
    ((((0 - v2) : Int) == 0) = false → R (IntKind.i64.wrap ((x0 : Int).tdiv ((0 - v2)))) (IntKind.i64.wrap ((x1 : Int).tdiv ((0 - v2))))))))))) :
    ∃ v0 : Int, ∃ v1 : Int, R v0 v1 ∧ Spec Tryz.prog etalonbase_Lowest_s ⟨[x0, x1], [], []⟩ [v0, v1] [] [] :=
  Eq.mp (by kernel_rfl) (exV_of (K := fun d => app3 etalonbase_Lowest_s.out R d ∧ Spec Tryz.prog etalonbase_Lowest_s ⟨[x0, x1], [], []⟩ d.1 d.2.1 d.2.2) (tree_at mixed names S1_ok (S := S1 Tryz.prog) (lf := 100000) (d := 60) etalonbase_Lowest_s bl2_t { ivs := [(0, (-80000), 80000), (1, (-80000), 80000)], aivs := [] } ⟨[x0, x1], [], []⟩ rfl (by kernel_rfl) (by kernel_rfl) (by kernel_rfl) ⟨(fc r0 (fc r1 fz)), fz, fz, fz⟩ (R := fun d => app3 etalonbase_Lowest_s.out R d) (Eq.mp (by kernel_rfl) H)))

def abp_t : Tr :=
  (.call glass_At_s ⟨[(.var 0), (.var 1), (.var 2), (.var 3), (.var 4), (.var 5), (.var 6), (.lit 5876)], [], [(.avar 0), (.avar 1), (.avar 2)]⟩ ⟨[(.var 0), (.var 1), (.var 2), (.var 3), (.var 4), (.var 5), (.var 6), (.lit 5876), (.var 7), (.var 8), (.var 9)], [], [(.avar 0), (.avar 1), (.avar 2)]⟩ ⟨9, [(.agg [(.strn (.var 0)), (.int .i64 (.var 1)), (.asl 0 (.var 2)), (.asl 1 (.var 3)), (.asl 2 (.var 4)), (.int .i64 (.var 5)), (.int .i64 (.var 6))]), (.int .i64 (.lit 5876))], [0, 1, 2], [(some ⟨[], 3, true, false, (some ⟨(.var 2), [(.int .i64)], [(.avar 0)]⟩)⟩), (some ⟨[], 98, true, false, (some ⟨(.var 3), [(.float .f32)], [(.avar 1)]⟩)⟩), (some ⟨[], 98, true, false, (some ⟨(.var 4), [(.float .f32)], [(.avar 2)]⟩)⟩), none, none, none], (.tuple [(.agg [(.int .i64 (.var 7)), (.int .i64 (.var 8))]), (.int .i64 (.var 9))]), []⟩
  (.rng 7 0 80000 (.rng 8 0 80000 (.ite (.icmp .eql (.var 9) (.lit 0))
  (.call glass_At_s ⟨[(.var 0), (.var 1), (.var 2), (.var 3), (.var 4), (.var 5), (.var 6), (.lit 4861)], [], [(.avar 0), (.avar 1), (.avar 2)]⟩ ⟨[(.var 0), (.var 1), (.var 2), (.var 3), (.var 4), (.var 5), (.var 6), (.lit 4861), (.var 10), (.var 11), (.var 12)], [], [(.avar 0), (.avar 1), (.avar 2)]⟩ ⟨9, [(.agg [(.strn (.var 0)), (.int .i64 (.var 1)), (.asl 0 (.var 2)), (.asl 1 (.var 3)), (.asl 2 (.var 4)), (.int .i64 (.var 5)), (.int .i64 (.var 6))]), (.int .i64 (.lit 4861))], [0, 1, 2], [(some ⟨[], 3, true, false, (some ⟨(.var 2), [(.int .i64)], [(.avar 0)]⟩)⟩), (some ⟨[], 98, true, false, (some ⟨(.var 3), [(.float .f32)], [(.avar 1)]⟩)⟩), (some ⟨[], 98, true, false, (some ⟨(.var 4), [(.float .f32)], [(.avar 2)]⟩)⟩), none, none, none, none], (.tuple [(.agg [(.int .i64 (.var 10)), (.int .i64 (.var 11))]), (.int .i64 (.var 12))]), []⟩
   (.rng 10 0 80000 (.rng 11 0 80000 (.ite (.icmp .eql (.var 12) (.lit 0))
   (.call glass_At_s ⟨[(.var 0), (.var 1), (.var 2), (.var 3), (.var 4), (.var 5), (.var 6), (.lit 6563)], [], [(.avar 0), (.avar 1), (.avar 2)]⟩ ⟨[(.var 0), (.var 1), (.var 2), (.var 3), (.var 4), (.var 5), (.var 6), (.lit 6563), (.var 13), (.var 14), (.var 15)], [], [(.avar 0), (.avar 1), (.avar 2)]⟩ ⟨9, [(.agg [(.strn (.var 0)), (.int .i64 (.var 1)), (.asl 0 (.var 2)), (.asl 1 (.var 3)), (.asl 2 (.var 4)), (.int .i64 (.var 5)), (.int .i64 (.var 6))]), (.int .i64 (.lit 6563))], [0, 1, 2], [(some ⟨[], 3, true, false, (some ⟨(.var 2), [(.int .i64)], [(.avar 0)]⟩)⟩), (some ⟨[], 98, true, false, (some ⟨(.var 3), [(.float .f32)], [(.avar 1)]⟩)⟩), (some ⟨[], 98, true, false, (some ⟨(.var 4), [(.float .f32)], [(.avar 2)]⟩)⟩), none, none, none, none, none], (.tuple [(.agg [(.int .i64 (.var 13)), (.int .i64 (.var 14))]), (.int .i64 (.var 15))]), []⟩
    (.rng 13 0 80000 (.rng 14 0 80000 (.ite (.icmp .eql (.var 15) (.lit 0))
    (.ite (.icmp .eql (.var 10) (.var 13))
     (.ret ⟨[(.lit 0), (.lit 0), (.lit 9)], [], []⟩ [])
     (.call frac_Lowest_s ⟨[(.bin .subI (.var 7) (.lit 10000)), (.bin .subI (.var 10) (.var 13))], [], []⟩ ⟨[(.bin .subI (.var 7) (.lit 10000)), (.bin .subI (.var 10) (.var 13)), (.var 16), (.var 17)], [], []⟩ ⟨51, [(.int .i64 (.bin .subI (.var 7) (.lit 10000))), (.int .i64 (.bin .subI (.var 10) (.var 13)))], [], [none, none, none, none, none, none, none, none, none], (.agg [(.int .i64 (.var 16)), (.int .i64 (.var 17))]), []⟩
      (.ret ⟨[(.var 16), (.var 17), (.lit 0)], [], []⟩ [])))
    (.ret ⟨[(.lit 0), (.lit 0), (.var 15)], [], []⟩ [])))))
   (.ret ⟨[(.lit 0), (.lit 0), (.var 12)], [], []⟩ [])))))
  (.ret ⟨[(.lit 0), (.lit 0), (.var 9)], [], []⟩ [])))))
theorem abp {x0 x1 x2 x3 x4 x5 x6 : Int} {f0 f1 f2 : Int → Int} (r1 : (-9223372036854775808) ≤ x1 ∧ x1 ≤ 9223372036854775807) (r2 : 0 ≤ x2 ∧ x2 ≤ 140737488355328) (r3 : 0 ≤ x3 ∧ x3 ≤ 140737488355328) (r4 : 0 ≤ x4 ∧ x4 ≤ 140737488355328) (r5 : (-9223372036854775808) ≤ x5 ∧ x5 ≤ 9223372036854775807) (r6 : (-9223372036854775808) ≤ x6 ∧ x6 ≤ 9223372036854775807) (s0 : ∀ q, (-9223372036854775808) ≤ f0 q ∧ f0 q ≤ 9223372036854775807) {R : Int → Int → Int → Prop}
  (H : (∃ v7 : Int, ∃ v8 : Int, ∃ v9 : Int, Spec Tryz.prog glass_At_s ⟨[x0, x1, x2, x3, x4, x5, x6, 5876], [], [f0, f1, f2]⟩ [v7, v8, v9] [] [] ∧
   ((0 ≤ (v7 : Int) ∧ (v7 : Int) ≤ 80000) ∧ ((0 ≤ (v8 : Int) ∧ (v8 : Int) ≤ 80000) ∧ ((((v9 : Int) == 0) = true → (∃ v10 : Int, ∃ v11 : Int, ∃ v12 : Int, Spec Tryz.prog glass_At_s ⟨[x0, x1, x2, x3, x4, x5, x6, 4861], [], [f0, f1, f2]⟩ [v10, v11, v12] [] [] ∧
    ((0 ≤ (v10 : Int) ∧ (v10 : Int) ≤ 80000) ∧ ((0 ≤ (v11 : Int) ∧ (v11 : Int) ≤ 80000) ∧ ((((v12 : Int) == 0) = true → (∃ v13 : Int, ∃ v14 : Int, ∃ v15 : Int, Spec Tryz.prog glass_At_s ⟨[x0, x1, x2, x3, x4, x5, x6, 6563], [], [f0, f1, f2]⟩ [v13, v14, v15] [] [] ∧
     ((0 ≤ (v13 : Int) ∧ (v13 : Int) ≤ 80000) ∧ ((0 ≤ (v14 : Int) ∧ (v14 : Int) ≤ 80000) ∧ ((((v15 : Int) == 0) = true → ((((v10 : Int) == v13) = true → R (0) (0) (9)) ∧
      (((v10 : Int) == v13) = false → (∃ v16 : Int, ∃ v17 : Int, Spec Tryz.prog frac_Lowest_s ⟨[(v7 - 10000), (v10 - v13)], [], []⟩ [v16, v17] [] [] ∧
       R (v16) (v17) (0))))) ∧
     (((v15 : Int) == 0) = false → R (0) (0) (v15))))))) ∧
    (((v12 : Int) == 0) = false → R (0) (0) (v12))))))) ∧
   (((v9 : Int) == 0) = false → R (0) (0) (v9))))))) :
    ∃ v0 : Int, ∃ v1 : Int, ∃ v2 : Int, R v0 v1 v2 ∧ Spec Tryz.prog glass_Abbe_s ⟨[x0, x1, x2, x3, x4, x5, x6], [], [f0, f1, f2]⟩ [v0, v1, v2] [] [] :=
  Eq.mp (by kernel_rfl) (exV_of (K := fun d => app3 glass_Abbe_s.out R d ∧ Spec Tryz.prog glass_Abbe_s ⟨[x0, x1, x2, x3, x4, x5, x6], [], [f0, f1, f2]⟩ d.1 d.2.1 d.2.2) (tree_at mixed names S2_ok (S := S2 Tryz.prog) (lf := 100000) (d := 60) glass_Abbe_s abp_t { ivs := [(1, (-9223372036854775808), 9223372036854775807), (2, 0, 140737488355328), (3, 0, 140737488355328), (4, 0, 140737488355328), (5, (-9223372036854775808), 9223372036854775807), (6, (-9223372036854775808), 9223372036854775807)], aivs := [(0, (-9223372036854775808), 9223372036854775807)] } ⟨[x0, x1, x2, x3, x4, x5, x6], [], [f0, f1, f2]⟩ rfl (by kernel_rfl) (by kernel_rfl) (by kernel_rfl) ⟨(fc r1 (fc r2 (fc r3 (fc r4 (fc r5 (fc r6 fz)))))), fz, (fc s0 fz), fz⟩ (R := fun d => app3 glass_Abbe_s.out R d) (Eq.mp (by kernel_rfl) H)))

def abr_t : Tr :=
  (.call etalonref02_WaveErr_s ⟨[(.var 0), (.var 1), (.var 2), (.var 3), (.var 4), (.var 5), (.var 6), (.lit 5876)], [], [(.avar 0), (.avar 1), (.avar 2)]⟩ ⟨[(.var 0), (.var 1), (.var 2), (.var 3), (.var 4), (.var 5), (.var 6), (.lit 5876), (.var 7)], [], [(.avar 0), (.avar 1), (.avar 2)]⟩ ⟨14, [(.agg [(.strn (.var 0)), (.int .i64 (.var 1)), (.asl 0 (.var 2)), (.asl 1 (.var 3)), (.asl 2 (.var 4)), (.int .i64 (.var 5)), (.int .i64 (.var 6))]), (.int .i64 (.lit 5876))], [0, 1, 2], [(some ⟨[], 3, true, false, (some ⟨(.var 2), [(.int .i64)], [(.avar 0)]⟩)⟩), (some ⟨[], 98, true, false, (some ⟨(.var 3), [(.float .f32)], [(.avar 1)]⟩)⟩), (some ⟨[], 98, true, false, (some ⟨(.var 4), [(.float .f32)], [(.avar 2)]⟩)⟩), none, none, none, none], (.int .i64 (.var 7)), []⟩
  (.ite (.icmp .eql (.var 7) (.lit 0))
  (.call etalonref02_At_s ⟨[(.var 0), (.var 1), (.var 2), (.var 3), (.var 4), (.var 5), (.var 6), (.lit 5876)], [], [(.avar 0), (.avar 1), (.avar 2)]⟩ ⟨[(.var 0), (.var 1), (.var 2), (.var 3), (.var 4), (.var 5), (.var 6), (.lit 5876), (.var 8), (.var 9)], [], [(.avar 0), (.avar 1), (.avar 2)]⟩ ⟨17, [(.agg [(.strn (.var 0)), (.int .i64 (.var 1)), (.asl 0 (.var 2)), (.asl 1 (.var 3)), (.asl 2 (.var 4)), (.int .i64 (.var 5)), (.int .i64 (.var 6))]), (.int .i64 (.lit 5876))], [0, 1, 2], [(some ⟨[], 3, true, false, (some ⟨(.var 2), [(.int .i64)], [(.avar 0)]⟩)⟩), (some ⟨[], 98, true, false, (some ⟨(.var 3), [(.float .f32)], [(.avar 1)]⟩)⟩), (some ⟨[], 98, true, false, (some ⟨(.var 4), [(.float .f32)], [(.avar 2)]⟩)⟩), none, none, none, none], (.agg [(.int .i64 (.var 8)), (.int .i64 (.var 9))]), []⟩
   (.rng 8 0 80000 (.rng 9 0 80000 (.call etalonref02_WaveErr_s ⟨[(.var 0), (.var 1), (.var 2), (.var 3), (.var 4), (.var 5), (.var 6), (.lit 4861)], [], [(.avar 0), (.avar 1), (.avar 2)]⟩ ⟨[(.var 0), (.var 1), (.var 2), (.var 3), (.var 4), (.var 5), (.var 6), (.lit 4861), (.var 10)], [], [(.avar 0), (.avar 1), (.avar 2)]⟩ ⟨14, [(.agg [(.strn (.var 0)), (.int .i64 (.var 1)), (.asl 0 (.var 2)), (.asl 1 (.var 3)), (.asl 2 (.var 4)), (.int .i64 (.var 5)), (.int .i64 (.var 6))]), (.int .i64 (.lit 4861))], [0, 1, 2], [(some ⟨[], 3, true, false, (some ⟨(.var 2), [(.int .i64)], [(.avar 0)]⟩)⟩), (some ⟨[], 98, true, false, (some ⟨(.var 3), [(.float .f32)], [(.avar 1)]⟩)⟩), (some ⟨[], 98, true, false, (some ⟨(.var 4), [(.float .f32)], [(.avar 2)]⟩)⟩), none, none, none, none], (.int .i64 (.var 10)), []⟩
   (.ite (.icmp .eql (.var 10) (.lit 0))
   (.call etalonref02_At_s ⟨[(.var 0), (.var 1), (.var 2), (.var 3), (.var 4), (.var 5), (.var 6), (.lit 4861)], [], [(.avar 0), (.avar 1), (.avar 2)]⟩ ⟨[(.var 0), (.var 1), (.var 2), (.var 3), (.var 4), (.var 5), (.var 6), (.lit 4861), (.var 11), (.var 12)], [], [(.avar 0), (.avar 1), (.avar 2)]⟩ ⟨17, [(.agg [(.strn (.var 0)), (.int .i64 (.var 1)), (.asl 0 (.var 2)), (.asl 1 (.var 3)), (.asl 2 (.var 4)), (.int .i64 (.var 5)), (.int .i64 (.var 6))]), (.int .i64 (.lit 4861))], [0, 1, 2], [(some ⟨[], 3, true, false, (some ⟨(.var 2), [(.int .i64)], [(.avar 0)]⟩)⟩), (some ⟨[], 98, true, false, (some ⟨(.var 3), [(.float .f32)], [(.avar 1)]⟩)⟩), (some ⟨[], 98, true, false, (some ⟨(.var 4), [(.float .f32)], [(.avar 2)]⟩)⟩), none, none, none, none], (.agg [(.int .i64 (.var 11)), (.int .i64 (.var 12))]), []⟩
    (.rng 11 0 80000 (.rng 12 0 80000 (.call etalonref02_WaveErr_s ⟨[(.var 0), (.var 1), (.var 2), (.var 3), (.var 4), (.var 5), (.var 6), (.lit 6563)], [], [(.avar 0), (.avar 1), (.avar 2)]⟩ ⟨[(.var 0), (.var 1), (.var 2), (.var 3), (.var 4), (.var 5), (.var 6), (.lit 6563), (.var 13)], [], [(.avar 0), (.avar 1), (.avar 2)]⟩ ⟨14, [(.agg [(.strn (.var 0)), (.int .i64 (.var 1)), (.asl 0 (.var 2)), (.asl 1 (.var 3)), (.asl 2 (.var 4)), (.int .i64 (.var 5)), (.int .i64 (.var 6))]), (.int .i64 (.lit 6563))], [0, 1, 2], [(some ⟨[], 3, true, false, (some ⟨(.var 2), [(.int .i64)], [(.avar 0)]⟩)⟩), (some ⟨[], 98, true, false, (some ⟨(.var 3), [(.float .f32)], [(.avar 1)]⟩)⟩), (some ⟨[], 98, true, false, (some ⟨(.var 4), [(.float .f32)], [(.avar 2)]⟩)⟩), none, none, none, none], (.int .i64 (.var 13)), []⟩
    (.ite (.icmp .eql (.var 13) (.lit 0))
    (.call etalonref02_At_s ⟨[(.var 0), (.var 1), (.var 2), (.var 3), (.var 4), (.var 5), (.var 6), (.lit 6563)], [], [(.avar 0), (.avar 1), (.avar 2)]⟩ ⟨[(.var 0), (.var 1), (.var 2), (.var 3), (.var 4), (.var 5), (.var 6), (.lit 6563), (.var 14), (.var 15)], [], [(.avar 0), (.avar 1), (.avar 2)]⟩ ⟨17, [(.agg [(.strn (.var 0)), (.int .i64 (.var 1)), (.asl 0 (.var 2)), (.asl 1 (.var 3)), (.asl 2 (.var 4)), (.int .i64 (.var 5)), (.int .i64 (.var 6))]), (.int .i64 (.lit 6563))], [0, 1, 2], [(some ⟨[], 3, true, false, (some ⟨(.var 2), [(.int .i64)], [(.avar 0)]⟩)⟩), (some ⟨[], 98, true, false, (some ⟨(.var 3), [(.float .f32)], [(.avar 1)]⟩)⟩), (some ⟨[], 98, true, false, (some ⟨(.var 4), [(.float .f32)], [(.avar 2)]⟩)⟩), none, none, none, none], (.agg [(.int .i64 (.var 14)), (.int .i64 (.var 15))]), []⟩
     (.rng 14 0 80000 (.rng 15 0 80000 (.ite (.icmp .eql (.var 11) (.var 14))
     (.ret ⟨[(.lit 0), (.lit 0), (.lit 9)], [], []⟩ [])
     (.call etalonbase_Lowest_s ⟨[(.bin .subI (.var 8) (.lit 10000)), (.bin .subI (.var 11) (.var 14))], [], []⟩ ⟨[(.bin .subI (.var 8) (.lit 10000)), (.bin .subI (.var 11) (.var 14)), (.var 16), (.var 17)], [], []⟩ ⟨52, [(.int .i64 (.bin .subI (.var 8) (.lit 10000))), (.int .i64 (.bin .subI (.var 11) (.var 14)))], [], [none, none, none, none, none, none, none], (.agg [(.int .i64 (.var 16)), (.int .i64 (.var 17))]), []⟩
      (.ret ⟨[(.var 16), (.var 17), (.lit 0)], [], []⟩ []))))))
    (.ret ⟨[(.lit 0), (.lit 0), (.var 13)], [], []⟩ []))))))
   (.ret ⟨[(.lit 0), (.lit 0), (.var 10)], [], []⟩ []))))))
  (.ret ⟨[(.lit 0), (.lit 0), (.var 7)], [], []⟩ [])))
theorem abr {x0 x1 x2 x3 x4 x5 x6 : Int} {f0 f1 f2 : Int → Int} (r1 : (-9223372036854775808) ≤ x1 ∧ x1 ≤ 9223372036854775807) (r2 : 0 ≤ x2 ∧ x2 ≤ 64) (r3 : 0 ≤ x3 ∧ x3 ≤ 140737488355328) (r4 : 0 ≤ x4 ∧ x4 ≤ 140737488355328) (r5 : (-9223372036854775808) ≤ x5 ∧ x5 ≤ 9223372036854775807) (r6 : (-9223372036854775808) ≤ x6 ∧ x6 ≤ 9223372036854775807) (s0 : ∀ q, (-9223372036854775808) ≤ f0 q ∧ f0 q ≤ 9223372036854775807) {R : Int → Int → Int → Prop}
  (H : (∃ v7 : Int, Spec Tryz.prog etalonref02_WaveErr_s ⟨[x0, x1, x2, x3, x4, x5, x6, 5876], [], [f0, f1, f2]⟩ [v7] [] [] ∧
   ((((v7 : Int) == 0) = true → (∃ v8 : Int, ∃ v9 : Int, Spec Tryz.prog etalonref02_At_s ⟨[x0, x1, x2, x3, x4, x5, x6, 5876], [], [f0, f1, f2]⟩ [v8, v9] [] [] ∧
    ((0 ≤ (v8 : Int) ∧ (v8 : Int) ≤ 80000) ∧ ((0 ≤ (v9 : Int) ∧ (v9 : Int) ≤ 80000) ∧ (∃ v10 : Int, Spec Tryz.prog etalonref02_WaveErr_s ⟨[x0, x1, x2, x3, x4, x5, x6, 4861], [], [f0, f1, f2]⟩ [v10] [] [] ∧
    ((((v10 : Int) == 0) = true → (∃ v11 : Int, ∃ v12 : Int, Spec Tryz.prog etalonref02_At_s ⟨[x0, x1, x2, x3, x4, x5, x6, 4861], [], [f0, f1, f2]⟩ [v11, v12] [] [] ∧
     ((0 ≤ (v11 : Int) ∧ (v11 : Int) ≤ 80000) ∧ ((0 ≤ (v12 : Int) ∧ (v12 : Int) ≤ 80000) ∧ (∃ v13 : Int, Spec Tryz.prog etalonref02_WaveErr_s ⟨[x0, x1, x2, x3, x4, x5, x6, 6563], [], [f0, f1, f2]⟩ [v13] [] [] ∧
     ((((v13 : Int) == 0) = true → (∃ v14 : Int, ∃ v15 : Int, Spec Tryz.prog etalonref02_At_s ⟨[x0, x1, x2, x3, x4, x5, x6, 6563], [], [f0, f1, f2]⟩ [v14, v15] [] [] ∧
      ((0 ≤ (v14 : Int) ∧ (v14 : Int) ≤ 80000) ∧ ((0 ≤ (v15 : Int) ∧ (v15 : Int) ≤ 80000) ∧ ((((v11 : Int) == v14) = true → R (0) (0) (9)) ∧
      (((v11 : Int) == v14) = false → (∃ v16 : Int, ∃ v17 : Int, Spec Tryz.prog etalonbase_Lowest_s ⟨[(v8 - 10000), (v11 - v14)], [], []⟩ [v16, v17] [] [] ∧
       R (v16) (v17) (0)))))))) ∧
     (((v13 : Int) == 0) = false → R (0) (0) (v13)))))))) ∧
    (((v10 : Int) == 0) = false → R (0) (0) (v10)))))))) ∧
   (((v7 : Int) == 0) = false → R (0) (0) (v7))))) :
    ∃ v0 : Int, ∃ v1 : Int, ∃ v2 : Int, R v0 v1 v2 ∧ Spec Tryz.prog etalonref02_Abbe_s ⟨[x0, x1, x2, x3, x4, x5, x6], [], [f0, f1, f2]⟩ [v0, v1, v2] [] [] :=
  Eq.mp (by kernel_rfl) (exV_of (K := fun d => app3 etalonref02_Abbe_s.out R d ∧ Spec Tryz.prog etalonref02_Abbe_s ⟨[x0, x1, x2, x3, x4, x5, x6], [], [f0, f1, f2]⟩ d.1 d.2.1 d.2.2) (tree_at mixed names S2_ok (S := S2 Tryz.prog) (lf := 100000) (d := 60) etalonref02_Abbe_s abr_t { ivs := [(1, (-9223372036854775808), 9223372036854775807), (2, 0, 64), (3, 0, 140737488355328), (4, 0, 140737488355328), (5, (-9223372036854775808), 9223372036854775807), (6, (-9223372036854775808), 9223372036854775807)], aivs := [(0, (-9223372036854775808), 9223372036854775807)] } ⟨[x0, x1, x2, x3, x4, x5, x6], [], [f0, f1, f2]⟩ rfl (by kernel_rfl) (by kernel_rfl) (by kernel_rfl) ⟨(fc r1 (fc r2 (fc r3 (fc r4 (fc r5 (fc r6 fz)))))), fz, (fc s0 fz), fz⟩ (R := fun d => app3 etalonref02_Abbe_s.out R d) (Eq.mp (by kernel_rfl) H)))

open Gp

theorem gcd_r {a b : Int} (ha : (-4611686018427387904) ≤ a ∧ a ≤ 4611686018427387904) (hb : (-4611686018427387904) ≤ b ∧ b ≤ 4611686018427387904) : Spec Tryz.prog etalonbase_Gcd_s ⟨[a, b], [], []⟩ [((Nat.gcd a.natAbs b.natAbs : Nat) : Int)] [] [] := by

  obtain ⟨v, rfl, hs⟩ := gc2 (x0 := a) (x1 := b) (by omega) (by omega) (R := (· = ((Nat.gcd a.natAbs b.natAbs : Nat) : Int))) (by

    refine gcd_loop (by omega) (by omega) fun g e q => ?_

    have m : g.natAbs ≤ 4611686018427387904 := by rw [e]; exact gcd_le (by omega) (by omega)

    have s := size_ite (g := g) (by omega)

    rw [s, e])

  exact hs

/-- By what a fraction is divided. -/

def lwD (a b : Int) : Int := if 0 ≤ b then ((Nat.gcd a.natAbs b.natAbs : Nat) : Int) else 0 - ((Nat.gcd a.natAbs b.natAbs : Nat) : Int)

theorem td_small {x d : Int} (hx : (-80000) ≤ x ∧ x ≤ 80000) : IntKind.i64.wrap (x.tdiv d) = x.tdiv d := by

  have h1 : (x.tdiv d).natAbs ≤ x.natAbs := Int.natAbs_tdiv_le_natAbs x _

  exact wsm (by omega)

theorem lowest_p {a b : Int} (ha : (-80000) ≤ a ∧ a ≤ 80000) (hb : (-80000) ≤ b ∧ b ≤ 80000) (h0 : b ≠ 0) : Spec Tryz.prog frac_Lowest_s ⟨[a, b], [], []⟩ [a.tdiv (lwD a b), b.tdiv (lwD a b)] [] [] := by

  have hp : 1 ≤ Nat.gcd a.natAbs b.natAbs := Nat.gcd_pos_of_pos_right _ (by omega)

  obtain ⟨v, w, ⟨rfl, rfl⟩, hs⟩ := lw2 ha hb (R := fun v w => v = a.tdiv (lwD a b) ∧ w = b.tdiv (lwD a b)) (by

    refine gcd_loop (by omega) (by omega) fun a0 e0 q0 => ?_

    have m0 : a0.natAbs ≤ 80000 := by rw [e0]; exact gcd_le (by decide) (by omega)

    refine gcd_loop (q0) (by omega) fun a1 e1 q1 => ?_

    have m1 : a1.natAbs ≤ 80000 := by rw [e1]; exact gcd_le m0 (by omega)

    have s1 := size_ite (g := a1) (by omega)

    have g1 : a1.natAbs = Nat.gcd a.natAbs b.natAbs := by rw [e1, e0, Int.natAbs_zero, Nat.gcd_zero_left]

    rw [s1, g1]

    rw [g1] at m1

    rw [wsm (x := 0 - ((Nat.gcd a.natAbs b.natAbs : Nat) : Int)) (by omega), td_small ha, td_small hb, td_small ha, td_small hb]

    simp only [decide_eq_true_eq, decide_eq_false_iff_not, beq_iff_eq, beq_eq_false_iff_ne, ne_eq]

    unfold lwD

    refine ⟨fun h => ⟨fun g => by omega, fun _ => ?_⟩, fun h => ⟨fun g => by omega, fun _ => ?_⟩⟩

    · rw [if_pos h]; exact ⟨rfl, rfl⟩

    · rw [if_neg h]; exact ⟨rfl, rfl⟩)

  exact hs

theorem lowest_r {a b : Int} (ha : (-80000) ≤ a ∧ a ≤ 80000) (hb : (-80000) ≤ b ∧ b ≤ 80000) (h0 : b ≠ 0) : Spec Tryz.prog etalonbase_Lowest_s ⟨[a, b], [], []⟩ [a.tdiv (lwD a b), b.tdiv (lwD a b)] [] [] := by

  have hp : 1 ≤ Nat.gcd a.natAbs b.natAbs := Nat.gcd_pos_of_pos_right _ (by omega)

  have hl : Nat.gcd a.natAbs b.natAbs ≤ 80000 := gcd_le (by omega) (by omega)

  obtain ⟨v, w, ⟨rfl, rfl⟩, hs⟩ := bl2 ha hb (R := fun v w => v = a.tdiv (lwD a b) ∧ w = b.tdiv (lwD a b)) (by

    refine ⟨_, gcd_r (by omega) (by omega), by omega, ?_⟩

    rw [td_small ha, td_small hb]

    simp only [decide_eq_true_eq, decide_eq_false_iff_not, beq_iff_eq, beq_eq_false_iff_ne, ne_eq]

    unfold lwD

    refine ⟨fun h => ⟨fun g => by omega, fun _ => ?_⟩, fun h => ⟨fun g => by omega, fun _ => ?_⟩⟩

    · rw [if_pos h]; exact ⟨rfl, rfl⟩

    · rw [if_neg h]; exact ⟨rfl, rfl⟩)

  exact hs

section

variable {x0 x1 x2 x3 x4 x5 x6 : Int} {f0 f1 f2 : Int → Int}

theorem at_or {u : Bool} (w : Int) (hu : Spec Tryz.prog text_IsName_s ⟨[x0], [], []⟩ [] [u] []) (hE : (glE u x1 x2 x3 x4 x5 x6 f0 f1 f2).2 = 0) (r1 : (-9223372036854775808) ≤ x1 ∧ x1 ≤ 9223372036854775807) (r2 : 0 ≤ x2 ∧ x2 ≤ 140737488355328) (r3 : 0 ≤ x3 ∧ x3 ≤ 140737488355328) (r4 : 0 ≤ x4 ∧ x4 ≤ 140737488355328) (r5 : (-9223372036854775808) ≤ x5 ∧ x5 ≤ 9223372036854775807) (r6 : (-9223372036854775808) ≤ x6 ∧ x6 ≤ 9223372036854775807) (r7 : (-9223372036854775808) ≤ w ∧ w ≤ 9223372036854775807) (s0 : ∀ q, (-9223372036854775808) ≤ f0 q ∧ f0 q ≤ 9223372036854775807) :

    (0 ≤ x2 ∧ x2 ≤ 64) ∧ Spec Tryz.prog etalonref02_WaveErr_s ⟨[x0, x1, x2, x3, x4, x5, x6, w], [], [f0, f1, f2]⟩ [wvE x1 x2 f0 w] [] [] ∧

    ((wvE x1 x2 f0 w = 0 ∧ ∃ a l, (0 ≤ a ∧ a ≤ 80000) ∧ (0 ≤ l ∧ l ≤ 80000) ∧ Spec Tryz.prog glass_At_s ⟨[x0, x1, x2, x3, x4, x5, x6, w], [], [f0, f1, f2]⟩ [a, l, 0] [] [] ∧ Spec Tryz.prog etalonref02_At_s ⟨[x0, x1, x2, x3, x4, x5, x6, w], [], [f0, f1, f2]⟩ [a, l] [] []) ∨

    (wvE x1 x2 f0 w ≠ 0 ∧ Spec Tryz.prog glass_At_s ⟨[x0, x1, x2, x3, x4, x5, x6, w], [], [f0, f1, f2]⟩ [0, 0, wvE x1 x2 f0 w] [] [])) := by

  have few : x2 ≤ 64 := by

    rcases kind_ok hE with rfl | rfl

    · exact (tab_ok r2.1 hE).2.2.few

    · have := (form_ok hE).1; omega

  refine ⟨⟨r2.1, few⟩, wv_s (fun h => by subst h; exact (tab_ok r2.1 hE).2.2.one) r1 ⟨r2.1, few⟩ r3 r4 r5 r6 r7 s0, ?_⟩

  by_cases hw : wvE x1 x2 f0 w = 0

  · exact Or.inl ⟨hw, at_s hu hE hw r1 r2 r3 r4 r5 r6 s0⟩

  · refine Or.inr ⟨hw, ?_⟩

    have h := at_bad (x7 := w) hu (by unfold gwE; rw [if_pos hE]; exact hw) r1 r2 r3 r4 r5 r6 r7 s0

    have e : gwE (glE u x1 x2 x3 x4 x5 x6 f0 f1 f2).2 (wvE x1 x2 f0 w) = wvE x1 x2 f0 w := by unfold gwE; rw [if_pos hE]

    rw [e] at h

    exact h

theorem abbe {u : Bool} (hu : Spec Tryz.prog text_IsName_s ⟨[x0], [], []⟩ [] [u] []) (hE : (glE u x1 x2 x3 x4 x5 x6 f0 f1 f2).2 = 0) (r1 : (-9223372036854775808) ≤ x1 ∧ x1 ≤ 9223372036854775807) (r2 : 0 ≤ x2 ∧ x2 ≤ 140737488355328) (r3 : 0 ≤ x3 ∧ x3 ≤ 140737488355328) (r4 : 0 ≤ x4 ∧ x4 ≤ 140737488355328) (r5 : (-9223372036854775808) ≤ x5 ∧ x5 ≤ 9223372036854775807) (r6 : (-9223372036854775808) ≤ x6 ∧ x6 ≤ 9223372036854775807) (s0 : ∀ q, (-9223372036854775808) ≤ f0 q ∧ f0 q ≤ 9223372036854775807) :

    ∃ n d e, Spec Tryz.prog glass_Abbe_s ⟨[x0, x1, x2, x3, x4, x5, x6], [], [f0, f1, f2]⟩ [n, d, e] [] [] ∧ Spec Tryz.prog etalonref02_Abbe_s ⟨[x0, x1, x2, x3, x4, x5, x6], [], [f0, f1, f2]⟩ [n, d, e] [] [] := by

  obtain ⟨few, w1, o1⟩ := at_or 5876 hu hE r1 r2 r3 r4 r5 r6 (by decide) s0

  obtain ⟨-, w2, o2⟩ := at_or 4861 hu hE r1 r2 r3 r4 r5 r6 (by decide) s0

  obtain ⟨-, w3, o3⟩ := at_or 6563 hu hE r1 r2 r3 r4 r5 r6 (by decide) s0

  have P {A B C : Int} (H : _) := abp (x0 := x0) (f1 := f1) (f2 := f2) r1 r2 r3 r4 r5 r6 s0 (R := fun a b c => a = A ∧ b = B ∧ c = C) H

  have Q {A B C : Int} (H : _) := abr (x0 := x0) (f1 := f1) (f2 := f2) r1 few r3 r4 r5 r6 s0 (R := fun a b c => a = A ∧ b = B ∧ c = C) H

  have go {A B C : Int} (hp : ∃ v0 v1 v2, (v0 = A ∧ v1 = B ∧ v2 = C) ∧ Spec Tryz.prog glass_Abbe_s ⟨[x0, x1, x2, x3, x4, x5, x6], [], [f0, f1, f2]⟩ [v0, v1, v2] [] []) (hq : ∃ v0 v1 v2, (v0 = A ∧ v1 = B ∧ v2 = C) ∧ Spec Tryz.prog etalonref02_Abbe_s ⟨[x0, x1, x2, x3, x4, x5, x6], [], [f0, f1, f2]⟩ [v0, v1, v2] [] []) :

      ∃ n d e, Spec Tryz.prog glass_Abbe_s ⟨[x0, x1, x2, x3, x4, x5, x6], [], [f0, f1, f2]⟩ [n, d, e] [] [] ∧ Spec Tryz.prog etalonref02_Abbe_s ⟨[x0, x1, x2, x3, x4, x5, x6], [], [f0, f1, f2]⟩ [n, d, e] [] [] := by

    obtain ⟨_, _, _, ⟨rfl, rfl, rfl⟩, hs⟩ := hp

    obtain ⟨_, _, _, ⟨rfl, rfl, rfl⟩, ht⟩ := hq

    exact ⟨_, _, _, hs, ht⟩

  simp only [beq_iff_eq, beq_eq_false_iff_ne, ne_eq] at P Q

  rcases o1 with ⟨z1, a1, l1, ba1, bl1, p1, q1⟩ | ⟨z1, p1⟩

  · rw [z1] at w1

    rcases o2 with ⟨z2, a2, l2, ba2, bl2, p2, q2⟩ | ⟨z2, p2⟩

    · rw [z2] at w2

      rcases o3 with ⟨z3, a3, l3, ba3, bl3, p3, q3⟩ | ⟨z3, p3⟩

      · rw [z3] at w3

        by_cases e : a2 = a3

        · refine go (A := 0) (B := 0) (C := 9) (P ?_) (Q ?_)

          · exact ⟨_, _, _, p1, ba1, bl1, fun _ => ⟨_, _, _, p2, ba2, bl2, fun _ => ⟨_, _, _, p3, ba3, bl3, fun _ => ⟨fun _ => ⟨rfl, rfl, rfl⟩, fun g => absurd e g⟩, fun g => absurd rfl g⟩, fun g => absurd rfl g⟩, fun g => absurd rfl g⟩

          · exact ⟨_, w1, fun _ => ⟨_, _, q1, ba1, bl1, _, w2, fun _ => ⟨_, _, q2, ba2, bl2, _, w3, fun _ => ⟨_, _, q3, ba3, bl3, fun _ => ⟨rfl, rfl, rfl⟩, fun g => absurd e g⟩, fun g => absurd rfl g⟩, fun g => absurd rfl g⟩, fun g => absurd rfl g⟩

        · have lp := lowest_p (a := a1 - 10000) (b := a2 - a3) (by omega) (by omega) (by omega)

          have lr := lowest_r (a := a1 - 10000) (b := a2 - a3) (by omega) (by omega) (by omega)

          refine go (A := (a1 - 10000).tdiv (lwD (a1 - 10000) (a2 - a3))) (B := (a2 - a3).tdiv (lwD (a1 - 10000) (a2 - a3))) (C := 0) (P ?_) (Q ?_)

          · exact ⟨_, _, _, p1, ba1, bl1, fun _ => ⟨_, _, _, p2, ba2, bl2, fun _ => ⟨_, _, _, p3, ba3, bl3, fun _ => ⟨fun g => absurd g e, fun _ => ⟨_, _, lp, rfl, rfl, rfl⟩⟩, fun g => absurd rfl g⟩, fun g => absurd rfl g⟩, fun g => absurd rfl g⟩

          · exact ⟨_, w1, fun _ => ⟨_, _, q1, ba1, bl1, _, w2, fun _ => ⟨_, _, q2, ba2, bl2, _, w3, fun _ => ⟨_, _, q3, ba3, bl3, fun g => absurd g e, fun _ => ⟨_, _, lr, rfl, rfl, rfl⟩⟩, fun g => absurd rfl g⟩, fun g => absurd rfl g⟩, fun g => absurd rfl g⟩

      · refine go (A := 0) (B := 0) (C := wvE x1 x2 f0 6563) (P ?_) (Q ?_)

        · exact ⟨_, _, _, p1, ba1, bl1, fun _ => ⟨_, _, _, p2, ba2, bl2, fun _ => ⟨_, _, _, p3, by decide, by decide, fun g => absurd g z3, fun _ => ⟨rfl, rfl, rfl⟩⟩, fun g => absurd rfl g⟩, fun g => absurd rfl g⟩

        · exact ⟨_, w1, fun _ => ⟨_, _, q1, ba1, bl1, _, w2, fun _ => ⟨_, _, q2, ba2, bl2, _, w3, fun g => absurd g z3, fun _ => ⟨rfl, rfl, rfl⟩⟩, fun g => absurd rfl g⟩, fun g => absurd rfl g⟩

    · refine go (A := 0) (B := 0) (C := wvE x1 x2 f0 4861) (P ?_) (Q ?_)

      · exact ⟨_, _, _, p1, ba1, bl1, fun _ => ⟨_, _, _, p2, by decide, by decide, fun g => absurd g z2, fun _ => ⟨rfl, rfl, rfl⟩⟩, fun g => absurd rfl g⟩

      · exact ⟨_, w1, fun _ => ⟨_, _, q1, ba1, bl1, _, w2, fun g => absurd g z2, fun _ => ⟨rfl, rfl, rfl⟩⟩, fun g => absurd rfl g⟩

  · refine go (A := 0) (B := 0) (C := wvE x1 x2 f0 5876) (P ?_) (Q ?_)

    · exact ⟨_, _, _, p1, by decide, by decide, fun g => absurd g z1, fun _ => ⟨rfl, rfl, rfl⟩⟩

    · exact ⟨_, w1, fun g => absurd g z1, fun _ => ⟨rfl, rfl, rfl⟩⟩

theorem abbe_bad {u : Bool} (hu : Spec Tryz.prog text_IsName_s ⟨[x0], [], []⟩ [] [u] []) (hE : (glE u x1 x2 x3 x4 x5 x6 f0 f1 f2).2 ≠ 0) (r1 : (-9223372036854775808) ≤ x1 ∧ x1 ≤ 9223372036854775807) (r2 : 0 ≤ x2 ∧ x2 ≤ 140737488355328) (r3 : 0 ≤ x3 ∧ x3 ≤ 140737488355328) (r4 : 0 ≤ x4 ∧ x4 ≤ 140737488355328) (r5 : (-9223372036854775808) ≤ x5 ∧ x5 ≤ 9223372036854775807) (r6 : (-9223372036854775808) ≤ x6 ∧ x6 ≤ 9223372036854775807) (s0 : ∀ q, (-9223372036854775808) ≤ f0 q ∧ f0 q ≤ 9223372036854775807) :

    Spec Tryz.prog glass_Abbe_s ⟨[x0, x1, x2, x3, x4, x5, x6], [], [f0, f1, f2]⟩ [0, 0, (glE u x1 x2 x3 x4 x5 x6 f0 f1 f2).2] [] [] := by

  have h := at_bad (x7 := 5876) hu (by unfold gwE; rw [if_neg hE]; exact hE) r1 r2 r3 r4 r5 r6 (by decide) s0

  have e : gwE (glE u x1 x2 x3 x4 x5 x6 f0 f1 f2).2 (wvE x1 x2 f0 5876) = (glE u x1 x2 x3 x4 x5 x6 f0 f1 f2).2 := by unfold gwE; rw [if_neg hE]

  rw [e] at h

  generalize (glE u x1 x2 x3 x4 x5 x6 f0 f1 f2).2 = v at *

  obtain ⟨_, _, _, ⟨rfl, rfl, rfl⟩, hs⟩ := abp (x0 := x0) (f1 := f1) (f2 := f2) r1 r2 r3 r4 r5 r6 s0 (R := fun a b c => a = 0 ∧ b = 0 ∧ c = v) (by

    simp only [beq_iff_eq, beq_eq_false_iff_ne, ne_eq]

    exact ⟨_, _, _, h, by decide, by decide, fun g => absurd g hE, fun _ => ⟨by trivial, by trivial, by trivial⟩⟩)

  exact hs

end

end Go.Proofs.YtfgdockgdbdoiaaGreat.Ev
