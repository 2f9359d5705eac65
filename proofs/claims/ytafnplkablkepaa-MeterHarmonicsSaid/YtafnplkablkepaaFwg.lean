/- MeterHarmonics. -/
import Derived.Test.YtafnplkablkepaaFwe
import Derived.Test.YtafnplkablkepaaFaw6
namespace Go.Proofs.Ytafnplkablkepaa.Ev
set_option linter.unusedSimpArgs false
open Go Go.RowKit
set_option linter.unusedVariables false
set_option maxRecDepth 100000
def etalonref06_turned_s : Sig := ⟨42, ⟨3, 0, 0⟩, ⟨2, 0, 0⟩, [(.int .i64 (.var 0)), (.int .i64 (.var 1)), (.int .i64 (.var 2))], [], (.tuple [(.int .i64 (.var 3)), (.int .i64 (.var 4))]), []⟩
def etalonref06_Harmonics_s : Sig := ⟨17, ⟨3, 0, 1⟩, ⟨8, 0, 0⟩, [(.agg [(.asl 0 (.var 0)), (.int .i64 (.var 1)), (.int .i64 (.var 2))])], [(some ⟨[], 65, true, false, (some ⟨(.var 0), [(.float .f32)], [(.avar 0)]⟩)⟩)], (.agg [(.complex .f64 (.var 3) (.var 4)), (.complex .f64 (.var 5) (.var 6)), (.complex .f64 (.var 7) (.var 8)), (.complex .f64 (.var 9) (.var 10))]), []⟩
def etalonlaw06_MeterHarmonics_s : Sig := ⟨4, ⟨3, 0, 1⟩, ⟨0, 1, 0⟩, [(.agg [(.asl 0 (.var 0)), (.int .i64 (.var 1)), (.int .i64 (.var 2))])], [(some ⟨[], 65, true, false, (some ⟨(.var 0), [(.float .f32)], [(.avar 0)]⟩)⟩)], (.bool (.var 0)), []⟩
def etalonbase_Mod_s : Sig := ⟨50, ⟨2, 0, 0⟩, ⟨1, 0, 0⟩, [(.int .i64 (.var 0)), (.int .i64 (.var 1))], [], (.int .i64 (.var 2)), []⟩

def tur0_t : Tr :=
  (.call etalonbase_Mod_s ⟨[(.var 2), (.lit 4)], [], []⟩ ⟨[(.var 2), (.lit 4), (.var 3)], [], []⟩ ⟨50, [(.int .i64 (.var 2)), (.int .i64 (.lit 4))], [], [], (.int .i64 (.var 3)), []⟩
  (.rng 3 0 3 (.ite (.icmp .leq (.var 3) (.lit 0))
  (.ret ⟨[(.var 0), (.var 1)], [], []⟩ [])
  (.ite (.icmp .leq (.var 3) (.lit 1))
   (.ret ⟨[(.bin .subI (.lit 0) (.var 1)), (.var 0)], [], []⟩ [])
   (.ite (.icmp .leq (.var 3) (.lit 2))
    (.ret ⟨[(.bin .subI (.lit 0) (.var 0)), (.bin .subI (.lit 0) (.var 1))], [], []⟩ [])
    (.ret ⟨[(.bin .subI (.lit 0) (.bin .subI (.lit 0) (.var 1))), (.bin .subI (.lit 0) (.var 0))], [], []⟩ []))))))
theorem tur0 {x0 x1 x2 : Int} (r0 : 0 ≤ x0 ∧ x0 ≤ 65535) (r1 : 0 ≤ x1 ∧ x1 ≤ 0) (r2 : (-200) ≤ x2 ∧ x2 ≤ 0) {R : Int → Int → Prop}
  (H : (∃ v3 : Int, Spec Try.prog etalonbase_Mod_s ⟨[x2, 4], [], []⟩ [v3] [] [] ∧
   ((0 ≤ (v3 : Int) ∧ (v3 : Int) ≤ 3) ∧ ((decide ((v3 : Int) ≤ 0) = true → R (x0) (x1)) ∧
   (decide ((v3 : Int) ≤ 0) = false → ((decide ((v3 : Int) ≤ 1) = true → R ((0 - x1)) (x0)) ∧
    (decide ((v3 : Int) ≤ 1) = false → ((decide ((v3 : Int) ≤ 2) = true → R ((0 - x0)) ((0 - x1))) ∧
     (decide ((v3 : Int) ≤ 2) = false → R ((0 - (0 - x1))) ((0 - x0))))))))))) :
    ∃ v0 : Int, ∃ v1 : Int, R v0 v1 ∧ Spec Try.prog etalonref06_turned_s ⟨[x0, x1, x2], [], []⟩ [v0, v1] [] [] :=
  Eq.mp (by kernel_rfl) (exV_of (K := fun d => app3 etalonref06_turned_s.out R d ∧ Spec Try.prog etalonref06_turned_s ⟨[x0, x1, x2], [], []⟩ d.1 d.2.1 d.2.2) (tree_at mixed names S1_ok (S := S1 Try.prog) (lf := 100000) (d := 60) etalonref06_turned_s tur0_t { ivs := [(0, 0, 65535), (1, 0, 0), (2, (-200), 0)], aivs := [] } ⟨[x0, x1, x2], [], []⟩ rfl (by kernel_rfl) (by kernel_rfl) (by kernel_rfl) ⟨(fc r0 (fc r1 (fc r2 fz))), fz, fz, fz⟩ (R := fun d => app3 etalonref06_turned_s.out R d) (Eq.mp (by kernel_rfl) H)))

def mod0_t : Tr :=
  (.ite (.icmp .leq (.lit 0) (.bin .remK (.var 0) (.var 1)))
  (.ret ⟨[(.bin .remK (.var 0) (.var 1))], [], []⟩ [])
  (.ret ⟨[(.bin .addI (.bin .remK (.var 0) (.var 1)) (.var 1))], [], []⟩ []))
theorem mod0 {x0 x1 : Int} (r0 : (-200) ≤ x0 ∧ x0 ≤ 0) (r1 : 4 ≤ x1 ∧ x1 ≤ 4) {R : Int → Prop}
  (H : ((decide ((0 : Int) ≤ ((x0 : Int).tmod (x1))) = true → R (((x0 : Int).tmod (x1)))) ∧
   (decide ((0 : Int) ≤ ((x0 : Int).tmod (x1))) = false → R ((((x0 : Int).tmod (x1)) + x1))))) :
    ∃ v0 : Int, R v0 ∧ Spec Try.prog etalonbase_Mod_s ⟨[x0, x1], [], []⟩ [v0] [] [] :=
  Eq.mp (by kernel_rfl) (exV_of (K := fun d => app3 etalonbase_Mod_s.out R d ∧ Spec Try.prog etalonbase_Mod_s ⟨[x0, x1], [], []⟩ d.1 d.2.1 d.2.2) (tree_at mixed names S1_ok (S := S1 Try.prog) (lf := 100000) (d := 60) etalonbase_Mod_s mod0_t { ivs := [(0, (-200), 0), (1, 4, 4)], aivs := [] } ⟨[x0, x1], [], []⟩ rfl (by kernel_rfl) (by kernel_rfl) (by kernel_rfl) ⟨(fc r0 (fc r1 fz)), fz, fz, fz⟩ (R := fun d => app3 etalonbase_Mod_s.out R d) (Eq.mp (by kernel_rfl) H)))

def rhm0_t : Tr :=
  (.call etalonref06_ints_s ⟨[(.var 0), (.var 1), (.var 2)], [], [(.avar 0)]⟩ ⟨[(.var 0), (.var 1), (.var 2), (.var 3)], [], [(.avar 0), (.avar 1)]⟩ ⟨39, [(.agg [(.asl 0 (.var 0)), (.int .i64 (.var 1)), (.int .i64 (.var 2))])], [0], [(some ⟨[], 65, true, false, (some ⟨(.var 0), [(.float .f32)], [(.avar 0)]⟩)⟩), none, none, none], (.asl 4 (.var 3)), [(some ⟨[], 3, false, true, (some ⟨(.var 3), [(.int .i64)], [(.avar 1)]⟩)⟩)]⟩
  (.rng 3 0 64 (.arng 1 0 65535 (.loop ⟨17, [0, 1, 0, 1, 0, 0, 1, 0, 0, 1, 0, 1, 1, 1], [(.agg [(.asl 0 (.var 0)), (.int .i64 (.var 1)), (.int .i64 (.var 2))]), (.ptr (some ⟨1, 0, none⟩)), (.ptr (some ⟨2, 0, none⟩)), (.ptr (some ⟨3, 0, none⟩)), (.asl 4 (.var 3)), (.int .i64 (.lit 0)), (.int .i64 (.lit 0)), (.int .i64 (.lit 0)), (.int .i64 (.lit 0)), (.tuple []), (.tuple []), (.agg [(.asl 0 (.var 0)), (.int .i64 (.var 1)), (.int .i64 (.var 2))]), (.asl 4 (.var 3)), (.int .i64 (.lit 0)), (.bool (.lit true)), (.tuple []), (.tuple []), (.tuple []), (.tuple []), (.tuple []), (.tuple []), (.tuple []), (.tuple []), (.tuple []), (.tuple []), (.tuple []), (.tuple []), (.tuple []), (.tuple []), (.tuple []), (.tuple []), (.tuple []), (.tuple []), (.tuple []), (.tuple []), (.tuple []), (.tuple []), (.tuple []), (.tuple []), (.tuple []), (.tuple []), (.tuple []), (.tuple []), (.tuple []), (.tuple []), (.tuple []), (.tuple [])], [(some ⟨[], 65, true, false, (some ⟨(.var 0), [(.float .f32)], [(.avar 0)]⟩)⟩), (some ⟨[(.asl 0 (.var 0)), (.int .i64 (.var 1)), (.int .i64 (.var 2))], 24, false, false, none⟩), (some ⟨[(.complex .f64 (.lit 0) (.lit 0)), (.complex .f64 (.lit 0) (.lit 0)), (.complex .f64 (.lit 0) (.lit 0)), (.complex .f64 (.lit 0) (.lit 0))], 47, false, false, none⟩), (some ⟨[(.complex .f64 (.lit 0) (.lit 0)), (.complex .f64 (.lit 0) (.lit 0)), (.complex .f64 (.lit 0) (.lit 0)), (.complex .f64 (.lit 0) (.lit 0))], 47, false, false, none⟩), (some ⟨[], 3, false, true, (some ⟨(.var 3), [(.int .i64)], [(.avar 1)]⟩)⟩)], [], [(.agg [(.asl 0 (.var 0)), (.int .i64 (.var 1)), (.int .i64 (.var 2))]), (.ptr (some ⟨1, 0, none⟩)), (.ptr (some ⟨2, 0, none⟩)), (.ptr (some ⟨3, 0, none⟩)), (.asl 4 (.var 3)), (.int .i64 (.lit 0)), (.int .i64 (.var 4)), (.int .i64 (.var 5)), (.int .i64 (.var 6)), (.any 9), (.any 10), (.agg [(.asl 0 (.var 0)), (.int .i64 (.var 1)), (.int .i64 (.var 2))]), (.asl 4 (.var 3)), (.int .i64 (.lit 0)), (.bool (.lit true)), (.tuple []), (.tuple []), (.any 17), (.any 18), (.any 19), (.any 20), (.any 21), (.any 22), (.any 23), (.any 24), (.any 25), (.any 26), (.any 27), (.any 28), (.any 29), (.any 30), (.any 31), (.any 32), (.any 33), (.any 34), (.any 35), (.any 36), (.any 37), (.any 38), (.any 39), (.any 40), (.tuple []), (.tuple []), (.tuple []), (.tuple []), (.tuple []), (.tuple [])], [(some ⟨[], 65, true, false, (some ⟨(.var 0), [(.float .f32)], [(.avar 0)]⟩)⟩), (some ⟨[(.asl 0 (.var 0)), (.int .i64 (.var 1)), (.int .i64 (.var 2))], 24, false, false, none⟩), (some ⟨[(.complex .f64 (.lit 0) (.lit 0)), (.complex .f64 (.lit 0) (.lit 0)), (.complex .f64 (.lit 0) (.lit 0)), (.complex .f64 (.lit 0) (.lit 0))], 47, false, false, none⟩), (some ⟨[(.complex .f64 (.lit 0) (.lit 0)), (.complex .f64 (.lit 0) (.lit 0)), (.complex .f64 (.lit 0) (.lit 0)), (.complex .f64 (.lit 0) (.lit 0))], 47, false, false, none⟩), (some ⟨[], 3, false, true, (some ⟨(.var 3), [(.int .i64)], [(.avar 1)]⟩)⟩)], [], ⟨3, 0, 0⟩, ⟨[(.lit 0), (.lit 0), (.lit 0)], [], []⟩, []⟩
  (.rng 4 (-10000000) 10000000 (.rng 5 (-10000000) 10000000 (.rng 6 0 64 (.ite (.icmp .leq (.var 3) (.var 6))
   (.out 0 ⟨[(.var 4), (.var 5)], [], []⟩ [])
   (.call etalonref06_turned_s ⟨[(.sel (.avar 1) (.var 6)), (.lit 0), (.lit 0)], [], []⟩ ⟨[(.sel (.avar 1) (.var 6)), (.lit 0), (.lit 0), (.var 7), (.var 8)], [], []⟩ ⟨42, [(.int .i64 (.sel (.avar 1) (.var 6))), (.int .i64 (.lit 0)), (.int .i64 (.lit 0))], [], [none, none, none, none, none], (.tuple [(.int .i64 (.var 7)), (.int .i64 (.var 8))]), []⟩
    (.rng 7 (-65535) 65535 (.rng 8 (-65535) 65535 (.next ⟨[(.bin .addI (.var 4) (.var 7)), (.bin .addI (.var 5) (.var 8)), (.bin .addI (.var 6) (.lit 1))], [], []⟩ []))))))))
  (.ex ((.exit 2), [(.agg [(.asl 0 (.var 0)), (.int .i64 (.var 1)), (.int .i64 (.var 2))]), (.ptr (some ⟨1, 0, none⟩)), (.ptr (some ⟨2, 0, none⟩)), (.ptr (some ⟨3, 0, none⟩)), (.asl 4 (.var 3)), (.int .i64 (.lit 0)), (.int .i64 (.var 4)), (.int .i64 (.var 5)), (.any 8), (.any 9), (.any 10), (.agg [(.asl 0 (.var 0)), (.int .i64 (.var 1)), (.int .i64 (.var 2))]), (.asl 4 (.var 3)), (.int .i64 (.lit 0)), (.bool (.lit true)), (.tuple []), (.tuple []), (.any 17), (.any 18), (.any 19), (.any 20), (.any 21), (.any 22), (.any 23), (.any 24), (.any 25), (.any 26), (.any 27), (.any 28), (.any 29), (.any 30), (.any 31), (.any 32), (.any 33), (.any 34), (.any 35), (.any 36), (.any 37), (.any 38), (.any 39), (.any 40), (.tuple []), (.tuple []), (.tuple []), (.tuple []), (.tuple []), (.tuple [])], [(some ⟨[], 65, true, false, (some ⟨(.var 0), [(.float .f32)], [(.avar 0)]⟩)⟩), (some ⟨[(.asl 0 (.var 0)), (.int .i64 (.var 1)), (.int .i64 (.var 2))], 24, false, false, none⟩), (some ⟨[(.complex .f64 (.lit 0) (.lit 0)), (.complex .f64 (.lit 0) (.lit 0)), (.complex .f64 (.lit 0) (.lit 0)), (.complex .f64 (.lit 0) (.lit 0))], 47, false, false, none⟩), (some ⟨[(.complex .f64 (.lit 0) (.lit 0)), (.complex .f64 (.lit 0) (.lit 0)), (.complex .f64 (.lit 0) (.lit 0)), (.complex .f64 (.lit 0) (.lit 0))], 47, false, false, none⟩), (some ⟨[], 3, false, true, (some ⟨(.var 3), [(.int .i64)], [(.avar 1)]⟩)⟩)], []) ⟨2, 0, 0⟩
  (.rng 4 (-9223372036854775808) 9223372036854775807 (.rng 5 (-9223372036854775808) 9223372036854775807 (.loop ⟨17, [0, 1, 0, 1, 0, 0, 1, 0, 0, 1, 0, 1, 1, 1], [(.agg [(.asl 0 (.var 0)), (.int .i64 (.var 1)), (.int .i64 (.var 2))]), (.ptr (some ⟨1, 0, none⟩)), (.ptr (some ⟨2, 0, none⟩)), (.ptr (some ⟨3, 0, none⟩)), (.asl 4 (.var 3)), (.int .i64 (.lit 1)), (.int .i64 (.lit 0)), (.int .i64 (.lit 0)), (.int .i64 (.lit 0)), (.any 9), (.any 10), (.agg [(.asl 0 (.var 0)), (.int .i64 (.var 1)), (.int .i64 (.var 2))]), (.asl 4 (.var 3)), (.int .i64 (.lit 1)), (.bool (.lit true)), (.int .i64 (.lit 0)), (.int .i64 (.lit 1)), (.any 17), (.any 18), (.any 19), (.any 20), (.any 21), (.any 22), (.any 23), (.any 24), (.any 25), (.any 26), (.any 27), (.any 28), (.any 29), (.any 30), (.any 31), (.any 32), (.any 33), (.any 34), (.any 35), (.any 36), (.any 37), (.any 38), (.any 39), (.any 40), (.int .i64 (.lit 0)), (.int .i64 (.var 4)), (.int .i64 (.var 5)), (.complex .f64 (.toF .f64 (.var 4)) (.toF .f64 (.var 5))), (.ptr (some ⟨3, 0, none⟩)), (.tuple [])], [(some ⟨[], 65, true, false, (some ⟨(.var 0), [(.float .f32)], [(.avar 0)]⟩)⟩), (some ⟨[(.asl 0 (.var 0)), (.int .i64 (.var 1)), (.int .i64 (.var 2))], 24, false, false, none⟩), (some ⟨[(.complex .f64 (.lit 0) (.lit 0)), (.complex .f64 (.lit 0) (.lit 0)), (.complex .f64 (.lit 0) (.lit 0)), (.complex .f64 (.lit 0) (.lit 0))], 47, false, false, none⟩), (some ⟨[(.complex .f64 (.toF .f64 (.var 4)) (.toF .f64 (.var 5))), (.complex .f64 (.lit 0) (.lit 0)), (.complex .f64 (.lit 0) (.lit 0)), (.complex .f64 (.lit 0) (.lit 0))], 47, false, false, none⟩), (some ⟨[], 3, false, true, (some ⟨(.var 3), [(.int .i64)], [(.avar 1)]⟩)⟩)], [], [(.agg [(.asl 0 (.var 0)), (.int .i64 (.var 1)), (.int .i64 (.var 2))]), (.ptr (some ⟨1, 0, none⟩)), (.ptr (some ⟨2, 0, none⟩)), (.ptr (some ⟨3, 0, none⟩)), (.asl 4 (.var 3)), (.int .i64 (.lit 1)), (.int .i64 (.var 6)), (.int .i64 (.var 7)), (.int .i64 (.var 8)), (.any 9), (.any 10), (.agg [(.asl 0 (.var 0)), (.int .i64 (.var 1)), (.int .i64 (.var 2))]), (.asl 4 (.var 3)), (.int .i64 (.lit 1)), (.bool (.lit true)), (.int .i64 (.lit 0)), (.int .i64 (.lit 1)), (.any 17), (.any 18), (.any 19), (.any 20), (.any 21), (.any 22), (.any 23), (.any 24), (.any 25), (.any 26), (.any 27), (.any 28), (.any 29), (.any 30), (.any 31), (.any 32), (.any 33), (.any 34), (.any 35), (.any 36), (.any 37), (.any 38), (.any 39), (.any 40), (.int .i64 (.lit 0)), (.int .i64 (.var 4)), (.int .i64 (.var 5)), (.complex .f64 (.toF .f64 (.var 4)) (.toF .f64 (.var 5))), (.ptr (some ⟨3, 0, none⟩)), (.tuple [])], [(some ⟨[], 65, true, false, (some ⟨(.var 0), [(.float .f32)], [(.avar 0)]⟩)⟩), (some ⟨[(.asl 0 (.var 0)), (.int .i64 (.var 1)), (.int .i64 (.var 2))], 24, false, false, none⟩), (some ⟨[(.complex .f64 (.lit 0) (.lit 0)), (.complex .f64 (.lit 0) (.lit 0)), (.complex .f64 (.lit 0) (.lit 0)), (.complex .f64 (.lit 0) (.lit 0))], 47, false, false, none⟩), (some ⟨[(.complex .f64 (.toF .f64 (.var 4)) (.toF .f64 (.var 5))), (.complex .f64 (.lit 0) (.lit 0)), (.complex .f64 (.lit 0) (.lit 0)), (.complex .f64 (.lit 0) (.lit 0))], 47, false, false, none⟩), (some ⟨[], 3, false, true, (some ⟨(.var 3), [(.int .i64)], [(.avar 1)]⟩)⟩)], [], ⟨3, 0, 0⟩, ⟨[(.lit 0), (.lit 0), (.lit 0)], [], []⟩, []⟩
   (.rng 6 (-10000000) 10000000 (.rng 7 (-10000000) 10000000 (.rng 8 0 64 (.ite (.icmp .leq (.var 3) (.var 8))
    (.out 0 ⟨[(.var 6), (.var 7)], [], []⟩ [])
    (.call etalonref06_turned_s ⟨[(.sel (.avar 1) (.var 8)), (.lit 0), (.bin .subI (.lit 0) (.var 8))], [], []⟩ ⟨[(.sel (.avar 1) (.var 8)), (.lit 0), (.bin .subI (.lit 0) (.var 8)), (.var 9), (.var 10)], [], []⟩ ⟨42, [(.int .i64 (.sel (.avar 1) (.var 8))), (.int .i64 (.lit 0)), (.int .i64 (.bin .subI (.lit 0) (.var 8)))], [], [none, none, none, none, none], (.tuple [(.int .i64 (.var 9)), (.int .i64 (.var 10))]), []⟩
     (.rng 9 (-65535) 65535 (.rng 10 (-65535) 65535 (.next ⟨[(.bin .addI (.var 6) (.var 9)), (.bin .addI (.var 7) (.var 10)), (.bin .addI (.var 8) (.lit 1))], [], []⟩ []))))))))
   (.ex ((.exit 2), [(.agg [(.asl 0 (.var 0)), (.int .i64 (.var 1)), (.int .i64 (.var 2))]), (.ptr (some ⟨1, 0, none⟩)), (.ptr (some ⟨2, 0, none⟩)), (.ptr (some ⟨3, 0, none⟩)), (.asl 4 (.var 3)), (.int .i64 (.lit 1)), (.int .i64 (.var 6)), (.int .i64 (.var 7)), (.any 8), (.any 9), (.any 10), (.agg [(.asl 0 (.var 0)), (.int .i64 (.var 1)), (.int .i64 (.var 2))]), (.asl 4 (.var 3)), (.int .i64 (.lit 1)), (.bool (.lit true)), (.int .i64 (.lit 0)), (.int .i64 (.lit 1)), (.any 17), (.any 18), (.any 19), (.any 20), (.any 21), (.any 22), (.any 23), (.any 24), (.any 25), (.any 26), (.any 27), (.any 28), (.any 29), (.any 30), (.any 31), (.any 32), (.any 33), (.any 34), (.any 35), (.any 36), (.any 37), (.any 38), (.any 39), (.any 40), (.int .i64 (.lit 0)), (.int .i64 (.var 4)), (.int .i64 (.var 5)), (.complex .f64 (.toF .f64 (.var 4)) (.toF .f64 (.var 5))), (.ptr (some ⟨3, 0, none⟩)), (.tuple [])], [(some ⟨[], 65, true, false, (some ⟨(.var 0), [(.float .f32)], [(.avar 0)]⟩)⟩), (some ⟨[(.asl 0 (.var 0)), (.int .i64 (.var 1)), (.int .i64 (.var 2))], 24, false, false, none⟩), (some ⟨[(.complex .f64 (.lit 0) (.lit 0)), (.complex .f64 (.lit 0) (.lit 0)), (.complex .f64 (.lit 0) (.lit 0)), (.complex .f64 (.lit 0) (.lit 0))], 47, false, false, none⟩), (some ⟨[(.complex .f64 (.toF .f64 (.var 4)) (.toF .f64 (.var 5))), (.complex .f64 (.lit 0) (.lit 0)), (.complex .f64 (.lit 0) (.lit 0)), (.complex .f64 (.lit 0) (.lit 0))], 47, false, false, none⟩), (some ⟨[], 3, false, true, (some ⟨(.var 3), [(.int .i64)], [(.avar 1)]⟩)⟩)], []) ⟨2, 0, 0⟩
   (.rng 6 (-9223372036854775808) 9223372036854775807 (.rng 7 (-9223372036854775808) 9223372036854775807 (.loop ⟨17, [0, 1, 0, 1, 0, 0, 1, 0, 0, 1, 0, 1, 1, 1], [(.agg [(.asl 0 (.var 0)), (.int .i64 (.var 1)), (.int .i64 (.var 2))]), (.ptr (some ⟨1, 0, none⟩)), (.ptr (some ⟨2, 0, none⟩)), (.ptr (some ⟨3, 0, none⟩)), (.asl 4 (.var 3)), (.int .i64 (.lit 2)), (.int .i64 (.lit 0)), (.int .i64 (.lit 0)), (.int .i64 (.lit 0)), (.any 9), (.any 10), (.agg [(.asl 0 (.var 0)), (.int .i64 (.var 1)), (.int .i64 (.var 2))]), (.asl 4 (.var 3)), (.int .i64 (.lit 2)), (.bool (.lit true)), (.int .i64 (.lit 1)), (.int .i64 (.lit 2)), (.any 17), (.any 18), (.any 19), (.any 20), (.any 21), (.any 22), (.any 23), (.any 24), (.any 25), (.any 26), (.any 27), (.any 28), (.any 29), (.any 30), (.any 31), (.any 32), (.any 33), (.any 34), (.any 35), (.any 36), (.any 37), (.any 38), (.any 39), (.any 40), (.int .i64 (.lit 1)), (.int .i64 (.var 6)), (.int .i64 (.var 7)), (.complex .f64 (.toF .f64 (.var 6)) (.toF .f64 (.var 7))), (.ptr (some ⟨3, 1, none⟩)), (.tuple [])], [(some ⟨[], 65, true, false, (some ⟨(.var 0), [(.float .f32)], [(.avar 0)]⟩)⟩), (some ⟨[(.asl 0 (.var 0)), (.int .i64 (.var 1)), (.int .i64 (.var 2))], 24, false, false, none⟩), (some ⟨[(.complex .f64 (.lit 0) (.lit 0)), (.complex .f64 (.lit 0) (.lit 0)), (.complex .f64 (.lit 0) (.lit 0)), (.complex .f64 (.lit 0) (.lit 0))], 47, false, false, none⟩), (some ⟨[(.complex .f64 (.toF .f64 (.var 4)) (.toF .f64 (.var 5))), (.complex .f64 (.toF .f64 (.var 6)) (.toF .f64 (.var 7))), (.complex .f64 (.lit 0) (.lit 0)), (.complex .f64 (.lit 0) (.lit 0))], 47, false, false, none⟩), (some ⟨[], 3, false, true, (some ⟨(.var 3), [(.int .i64)], [(.avar 1)]⟩)⟩)], [], [(.agg [(.asl 0 (.var 0)), (.int .i64 (.var 1)), (.int .i64 (.var 2))]), (.ptr (some ⟨1, 0, none⟩)), (.ptr (some ⟨2, 0, none⟩)), (.ptr (some ⟨3, 0, none⟩)), (.asl 4 (.var 3)), (.int .i64 (.lit 2)), (.int .i64 (.var 8)), (.int .i64 (.var 9)), (.int .i64 (.var 10)), (.any 9), (.any 10), (.agg [(.asl 0 (.var 0)), (.int .i64 (.var 1)), (.int .i64 (.var 2))]), (.asl 4 (.var 3)), (.int .i64 (.lit 2)), (.bool (.lit true)), (.int .i64 (.lit 1)), (.int .i64 (.lit 2)), (.any 17), (.any 18), (.any 19), (.any 20), (.any 21), (.any 22), (.any 23), (.any 24), (.any 25), (.any 26), (.any 27), (.any 28), (.any 29), (.any 30), (.any 31), (.any 32), (.any 33), (.any 34), (.any 35), (.any 36), (.any 37), (.any 38), (.any 39), (.any 40), (.int .i64 (.lit 1)), (.int .i64 (.var 6)), (.int .i64 (.var 7)), (.complex .f64 (.toF .f64 (.var 6)) (.toF .f64 (.var 7))), (.ptr (some ⟨3, 1, none⟩)), (.tuple [])], [(some ⟨[], 65, true, false, (some ⟨(.var 0), [(.float .f32)], [(.avar 0)]⟩)⟩), (some ⟨[(.asl 0 (.var 0)), (.int .i64 (.var 1)), (.int .i64 (.var 2))], 24, false, false, none⟩), (some ⟨[(.complex .f64 (.lit 0) (.lit 0)), (.complex .f64 (.lit 0) (.lit 0)), (.complex .f64 (.lit 0) (.lit 0)), (.complex .f64 (.lit 0) (.lit 0))], 47, false, false, none⟩), (some ⟨[(.complex .f64 (.toF .f64 (.var 4)) (.toF .f64 (.var 5))), (.complex .f64 (.toF .f64 (.var 6)) (.toF .f64 (.var 7))), (.complex .f64 (.lit 0) (.lit 0)), (.complex .f64 (.lit 0) (.lit 0))], 47, false, false, none⟩), (some ⟨[], 3, false, true, (some ⟨(.var 3), [(.int .i64)], [(.avar 1)]⟩)⟩)], [], ⟨3, 0, 0⟩, ⟨[(.lit 0), (.lit 0), (.lit 0)], [], []⟩, []⟩
    (.rng 8 (-10000000) 10000000 (.rng 9 (-10000000) 10000000 (.rng 10 0 64 (.ite (.icmp .leq (.var 3) (.var 10))
     (.out 0 ⟨[(.var 8), (.var 9)], [], []⟩ [])
     (.call etalonref06_turned_s ⟨[(.sel (.avar 1) (.var 10)), (.lit 0), (.bin .mulI (.bin .subI (.lit 0) (.var 10)) (.lit 2))], [], []⟩ ⟨[(.sel (.avar 1) (.var 10)), (.lit 0), (.bin .mulI (.bin .subI (.lit 0) (.var 10)) (.lit 2)), (.var 11), (.var 12)], [], []⟩ ⟨42, [(.int .i64 (.sel (.avar 1) (.var 10))), (.int .i64 (.lit 0)), (.int .i64 (.bin .mulI (.bin .subI (.lit 0) (.var 10)) (.lit 2)))], [], [none, none, none, none, none], (.tuple [(.int .i64 (.var 11)), (.int .i64 (.var 12))]), []⟩
      (.rng 11 (-65535) 65535 (.rng 12 (-65535) 65535 (.next ⟨[(.bin .addI (.var 8) (.var 11)), (.bin .addI (.var 9) (.var 12)), (.bin .addI (.var 10) (.lit 1))], [], []⟩ []))))))))
    (.ex ((.exit 2), [(.agg [(.asl 0 (.var 0)), (.int .i64 (.var 1)), (.int .i64 (.var 2))]), (.ptr (some ⟨1, 0, none⟩)), (.ptr (some ⟨2, 0, none⟩)), (.ptr (some ⟨3, 0, none⟩)), (.asl 4 (.var 3)), (.int .i64 (.lit 2)), (.int .i64 (.var 8)), (.int .i64 (.var 9)), (.any 8), (.any 9), (.any 10), (.agg [(.asl 0 (.var 0)), (.int .i64 (.var 1)), (.int .i64 (.var 2))]), (.asl 4 (.var 3)), (.int .i64 (.lit 2)), (.bool (.lit true)), (.int .i64 (.lit 1)), (.int .i64 (.lit 2)), (.any 17), (.any 18), (.any 19), (.any 20), (.any 21), (.any 22), (.any 23), (.any 24), (.any 25), (.any 26), (.any 27), (.any 28), (.any 29), (.any 30), (.any 31), (.any 32), (.any 33), (.any 34), (.any 35), (.any 36), (.any 37), (.any 38), (.any 39), (.any 40), (.int .i64 (.lit 1)), (.int .i64 (.var 6)), (.int .i64 (.var 7)), (.complex .f64 (.toF .f64 (.var 6)) (.toF .f64 (.var 7))), (.ptr (some ⟨3, 1, none⟩)), (.tuple [])], [(some ⟨[], 65, true, false, (some ⟨(.var 0), [(.float .f32)], [(.avar 0)]⟩)⟩), (some ⟨[(.asl 0 (.var 0)), (.int .i64 (.var 1)), (.int .i64 (.var 2))], 24, false, false, none⟩), (some ⟨[(.complex .f64 (.lit 0) (.lit 0)), (.complex .f64 (.lit 0) (.lit 0)), (.complex .f64 (.lit 0) (.lit 0)), (.complex .f64 (.lit 0) (.lit 0))], 47, false, false, none⟩), (some ⟨[(.complex .f64 (.toF .f64 (.var 4)) (.toF .f64 (.var 5))), (.complex .f64 (.toF .f64 (.var 6)) (.toF .f64 (.var 7))), (.complex .f64 (.lit 0) (.lit 0)), (.complex .f64 (.lit 0) (.lit 0))], 47, false, false, none⟩), (some ⟨[], 3, false, true, (some ⟨(.var 3), [(.int .i64)], [(.avar 1)]⟩)⟩)], []) ⟨2, 0, 0⟩
    (.rng 8 (-9223372036854775808) 9223372036854775807 (.rng 9 (-9223372036854775808) 9223372036854775807 (.loop ⟨17, [0, 1, 0, 1, 0, 0, 1, 0, 0, 1, 0, 1, 1, 1], [(.agg [(.asl 0 (.var 0)), (.int .i64 (.var 1)), (.int .i64 (.var 2))]), (.ptr (some ⟨1, 0, none⟩)), (.ptr (some ⟨2, 0, none⟩)), (.ptr (some ⟨3, 0, none⟩)), (.asl 4 (.var 3)), (.int .i64 (.lit 3)), (.int .i64 (.lit 0)), (.int .i64 (.lit 0)), (.int .i64 (.lit 0)), (.any 9), (.any 10), (.agg [(.asl 0 (.var 0)), (.int .i64 (.var 1)), (.int .i64 (.var 2))]), (.asl 4 (.var 3)), (.int .i64 (.lit 3)), (.bool (.lit true)), (.int .i64 (.lit 2)), (.int .i64 (.lit 3)), (.any 17), (.any 18), (.any 19), (.any 20), (.any 21), (.any 22), (.any 23), (.any 24), (.any 25), (.any 26), (.any 27), (.any 28), (.any 29), (.any 30), (.any 31), (.any 32), (.any 33), (.any 34), (.any 35), (.any 36), (.any 37), (.any 38), (.any 39), (.any 40), (.int .i64 (.lit 2)), (.int .i64 (.var 8)), (.int .i64 (.var 9)), (.complex .f64 (.toF .f64 (.var 8)) (.toF .f64 (.var 9))), (.ptr (some ⟨3, 2, none⟩)), (.tuple [])], [(some ⟨[], 65, true, false, (some ⟨(.var 0), [(.float .f32)], [(.avar 0)]⟩)⟩), (some ⟨[(.asl 0 (.var 0)), (.int .i64 (.var 1)), (.int .i64 (.var 2))], 24, false, false, none⟩), (some ⟨[(.complex .f64 (.lit 0) (.lit 0)), (.complex .f64 (.lit 0) (.lit 0)), (.complex .f64 (.lit 0) (.lit 0)), (.complex .f64 (.lit 0) (.lit 0))], 47, false, false, none⟩), (some ⟨[(.complex .f64 (.toF .f64 (.var 4)) (.toF .f64 (.var 5))), (.complex .f64 (.toF .f64 (.var 6)) (.toF .f64 (.var 7))), (.complex .f64 (.toF .f64 (.var 8)) (.toF .f64 (.var 9))), (.complex .f64 (.lit 0) (.lit 0))], 47, false, false, none⟩), (some ⟨[], 3, false, true, (some ⟨(.var 3), [(.int .i64)], [(.avar 1)]⟩)⟩)], [], [(.agg [(.asl 0 (.var 0)), (.int .i64 (.var 1)), (.int .i64 (.var 2))]), (.ptr (some ⟨1, 0, none⟩)), (.ptr (some ⟨2, 0, none⟩)), (.ptr (some ⟨3, 0, none⟩)), (.asl 4 (.var 3)), (.int .i64 (.lit 3)), (.int .i64 (.var 10)), (.int .i64 (.var 11)), (.int .i64 (.var 12)), (.any 9), (.any 10), (.agg [(.asl 0 (.var 0)), (.int .i64 (.var 1)), (.int .i64 (.var 2))]), (.asl 4 (.var 3)), (.int .i64 (.lit 3)), (.bool (.lit true)), (.int .i64 (.lit 2)), (.int .i64 (.lit 3)), (.any 17), (.any 18), (.any 19), (.any 20), (.any 21), (.any 22), (.any 23), (.any 24), (.any 25), (.any 26), (.any 27), (.any 28), (.any 29), (.any 30), (.any 31), (.any 32), (.any 33), (.any 34), (.any 35), (.any 36), (.any 37), (.any 38), (.any 39), (.any 40), (.int .i64 (.lit 2)), (.int .i64 (.var 8)), (.int .i64 (.var 9)), (.complex .f64 (.toF .f64 (.var 8)) (.toF .f64 (.var 9))), (.ptr (some ⟨3, 2, none⟩)), (.tuple [])], [(some ⟨[], 65, true, false, (some ⟨(.var 0), [(.float .f32)], [(.avar 0)]⟩)⟩), (some ⟨[(.asl 0 (.var 0)), (.int .i64 (.var 1)), (.int .i64 (.var 2))], 24, false, false, none⟩), (some ⟨[(.complex .f64 (.lit 0) (.lit 0)), (.complex .f64 (.lit 0) (.lit 0)), (.complex .f64 (.lit 0) (.lit 0)), (.complex .f64 (.lit 0) (.lit 0))], 47, false, false, none⟩), (some ⟨[(.complex .f64 (.toF .f64 (.var 4)) (.toF .f64 (.var 5))), (.complex .f64 (.toF .f64 (.var 6)) (.toF .f64 (.var 7))), (.complex .f64 (.toF .f64 (.var 8)) (.toF .f64 (.var 9))), (.complex .f64 (.lit 0) (.lit 0))], 47, false, false, none⟩), (some ⟨[], 3, false, true, (some ⟨(.var 3), [(.int .i64)], [(.avar 1)]⟩)⟩)], [], ⟨3, 0, 0⟩, ⟨[(.lit 0), (.lit 0), (.lit 0)], [], []⟩, []⟩
     (.rng 10 (-10000000) 10000000 (.rng 11 (-10000000) 10000000 (.rng 12 0 64 (.ite (.icmp .leq (.var 3) (.var 12))
      (.out 0 ⟨[(.var 10), (.var 11)], [], []⟩ [])
      (.call etalonref06_turned_s ⟨[(.sel (.avar 1) (.var 12)), (.lit 0), (.bin .mulI (.bin .subI (.lit 0) (.var 12)) (.lit 3))], [], []⟩ ⟨[(.sel (.avar 1) (.var 12)), (.lit 0), (.bin .mulI (.bin .subI (.lit 0) (.var 12)) (.lit 3)), (.var 13), (.var 14)], [], []⟩ ⟨42, [(.int .i64 (.sel (.avar 1) (.var 12))), (.int .i64 (.lit 0)), (.int .i64 (.bin .mulI (.bin .subI (.lit 0) (.var 12)) (.lit 3)))], [], [none, none, none, none, none], (.tuple [(.int .i64 (.var 13)), (.int .i64 (.var 14))]), []⟩
       (.rng 13 (-65535) 65535 (.rng 14 (-65535) 65535 (.next ⟨[(.bin .addI (.var 10) (.var 13)), (.bin .addI (.var 11) (.var 14)), (.bin .addI (.var 12) (.lit 1))], [], []⟩ []))))))))
     (.ex ((.exit 2), [(.agg [(.asl 0 (.var 0)), (.int .i64 (.var 1)), (.int .i64 (.var 2))]), (.ptr (some ⟨1, 0, none⟩)), (.ptr (some ⟨2, 0, none⟩)), (.ptr (some ⟨3, 0, none⟩)), (.asl 4 (.var 3)), (.int .i64 (.lit 3)), (.int .i64 (.var 10)), (.int .i64 (.var 11)), (.any 8), (.any 9), (.any 10), (.agg [(.asl 0 (.var 0)), (.int .i64 (.var 1)), (.int .i64 (.var 2))]), (.asl 4 (.var 3)), (.int .i64 (.lit 3)), (.bool (.lit true)), (.int .i64 (.lit 2)), (.int .i64 (.lit 3)), (.any 17), (.any 18), (.any 19), (.any 20), (.any 21), (.any 22), (.any 23), (.any 24), (.any 25), (.any 26), (.any 27), (.any 28), (.any 29), (.any 30), (.any 31), (.any 32), (.any 33), (.any 34), (.any 35), (.any 36), (.any 37), (.any 38), (.any 39), (.any 40), (.int .i64 (.lit 2)), (.int .i64 (.var 8)), (.int .i64 (.var 9)), (.complex .f64 (.toF .f64 (.var 8)) (.toF .f64 (.var 9))), (.ptr (some ⟨3, 2, none⟩)), (.tuple [])], [(some ⟨[], 65, true, false, (some ⟨(.var 0), [(.float .f32)], [(.avar 0)]⟩)⟩), (some ⟨[(.asl 0 (.var 0)), (.int .i64 (.var 1)), (.int .i64 (.var 2))], 24, false, false, none⟩), (some ⟨[(.complex .f64 (.lit 0) (.lit 0)), (.complex .f64 (.lit 0) (.lit 0)), (.complex .f64 (.lit 0) (.lit 0)), (.complex .f64 (.lit 0) (.lit 0))], 47, false, false, none⟩), (some ⟨[(.complex .f64 (.toF .f64 (.var 4)) (.toF .f64 (.var 5))), (.complex .f64 (.toF .f64 (.var 6)) (.toF .f64 (.var 7))), (.complex .f64 (.toF .f64 (.var 8)) (.toF .f64 (.var 9))), (.complex .f64 (.lit 0) (.lit 0))], 47, false, false, none⟩), (some ⟨[], 3, false, true, (some ⟨(.var 3), [(.int .i64)], [(.avar 1)]⟩)⟩)], []) ⟨2, 0, 0⟩
     (.rng 10 (-9223372036854775808) 9223372036854775807 (.rng 11 (-9223372036854775808) 9223372036854775807 (.ret ⟨[(.toF .f64 (.var 4)), (.toF .f64 (.var 5)), (.toF .f64 (.var 6)), (.toF .f64 (.var 7)), (.toF .f64 (.var 8)), (.toF .f64 (.var 9)), (.toF .f64 (.var 10)), (.toF .f64 (.var 11))], [], []⟩ [])))
     .nil))))
    .nil))))
   .nil))))
  .nil)))))
theorem rhm0 {x0 x1 x2 : Int} {f0 : Int → Int} (r0 : 0 ≤ x0 ∧ x0 ≤ 64) (r1 : (-9223372036854775808) ≤ x1 ∧ x1 ≤ 9223372036854775807) (r2 : (-9223372036854775808) ≤ x2 ∧ x2 ≤ 9223372036854775807) {R : Int → Int → Int → Int → Int → Int → Int → Int → Prop}
  (H : (∃ v3 : Int, ∃ g1 : Int → Int, Spec Try.prog etalonref06_ints_s ⟨[x0, x1, x2], [], [f0]⟩ [v3] [] [g1] ∧
   ((0 ≤ (v3 : Int) ∧ (v3 : Int) ≤ 64) ∧ ((∀ q, 0 ≤ g1 q ∧ g1 q ≤ 65535) ∧ (∃ (I4 : Int → Int → Int → Prop) (rk4 : Int → Int → Int → Nat), I4 (0) (0) (0) ∧
   (∀ x4 : Int, ∀ x5 : Int, ∀ x6 : Int, I4 x4 x5 x6 → (((-10000000) ≤ (x4 : Int) ∧ (x4 : Int) ≤ 10000000) ∧ (((-10000000) ≤ (x5 : Int) ∧ (x5 : Int) ≤ 10000000) ∧ ((0 ≤ (x6 : Int) ∧ (x6 : Int) ≤ 64) ∧ ((decide ((v3 : Int) ≤ x6) = true → (((-9223372036854775808) ≤ ((x4) : Int) ∧ ((x4) : Int) ≤ 9223372036854775807) ∧ (((-9223372036854775808) ≤ ((x5) : Int) ∧ ((x5) : Int) ≤ 9223372036854775807) ∧ (∃ (I6' : Int → Int → Int → Prop) (rk6' : Int → Int → Int → Nat), I6' (0) (0) (0) ∧
    (∀ x6' : Int, ∀ x7' : Int, ∀ x8' : Int, I6' x6' x7' x8' → (((-10000000) ≤ (x6' : Int) ∧ (x6' : Int) ≤ 10000000) ∧ (((-10000000) ≤ (x7' : Int) ∧ (x7' : Int) ≤ 10000000) ∧ ((0 ≤ (x8' : Int) ∧ (x8' : Int) ≤ 64) ∧ ((decide ((v3 : Int) ≤ x8') = true → (((-9223372036854775808) ≤ ((x6') : Int) ∧ ((x6') : Int) ≤ 9223372036854775807) ∧ (((-9223372036854775808) ≤ ((x7') : Int) ∧ ((x7') : Int) ≤ 9223372036854775807) ∧ (∃ (I8'' : Int → Int → Int → Prop) (rk8'' : Int → Int → Int → Nat), I8'' (0) (0) (0) ∧
     (∀ x8'' : Int, ∀ x9'' : Int, ∀ x10'' : Int, I8'' x8'' x9'' x10'' → (((-10000000) ≤ (x8'' : Int) ∧ (x8'' : Int) ≤ 10000000) ∧ (((-10000000) ≤ (x9'' : Int) ∧ (x9'' : Int) ≤ 10000000) ∧ ((0 ≤ (x10'' : Int) ∧ (x10'' : Int) ≤ 64) ∧ ((decide ((v3 : Int) ≤ x10'') = true → (((-9223372036854775808) ≤ ((x8'') : Int) ∧ ((x8'') : Int) ≤ 9223372036854775807) ∧ (((-9223372036854775808) ≤ ((x9'') : Int) ∧ ((x9'') : Int) ≤ 9223372036854775807) ∧ (∃ (I10''' : Int → Int → Int → Prop) (rk10''' : Int → Int → Int → Nat), I10''' (0) (0) (0) ∧
      (∀ x10''' : Int, ∀ x11''' : Int, ∀ x12''' : Int, I10''' x10''' x11''' x12''' → (((-10000000) ≤ (x10''' : Int) ∧ (x10''' : Int) ≤ 10000000) ∧ (((-10000000) ≤ (x11''' : Int) ∧ (x11''' : Int) ≤ 10000000) ∧ ((0 ≤ (x12''' : Int) ∧ (x12''' : Int) ≤ 64) ∧ ((decide ((v3 : Int) ≤ x12''') = true → (((-9223372036854775808) ≤ ((x10''') : Int) ∧ ((x10''') : Int) ≤ 9223372036854775807) ∧ (((-9223372036854775808) ≤ ((x11''') : Int) ∧ ((x11''') : Int) ≤ 9223372036854775807) ∧ R (((FloatKind.f64.nearest (x4) : Nat) : Int)) (((FloatKind.f64.nearest (x5) : Nat) : Int)) (((FloatKind.f64.nearest (x6') : Nat) : Int)) (((FloatKind.f64.nearest (x7') : Nat) : Int)) (((FloatKind.f64.nearest (x8'') : Nat) : Int)) (((FloatKind.f64.nearest (x9'') : Nat) : Int)) (((FloatKind.f64.nearest (x10''') : Nat) : Int)) (((FloatKind.f64.nearest (x11''') : Nat) : Int))))) ∧
       (decide ((v3 : Int) ≤ x12''') = false → (∃ v13''' : Int, ∃ v14''' : Int, Spec Try.prog etalonref06_turned_s ⟨[(g1 x12'''), 0, ((0 - x12''') * 3)], [], []⟩ [v13''', v14'''] [] [] ∧
        (((-65535) ≤ (v13''' : Int) ∧ (v13''' : Int) ≤ 65535) ∧ (((-65535) ≤ (v14''' : Int) ∧ (v14''' : Int) ≤ 65535) ∧ (I10''' ((x10''' + v13''')) ((x11''' + v14''')) ((x12''' + 1)) ∧ rk10''' ((x10''' + v13''')) ((x11''' + v14''')) ((x12''' + 1)) < rk10''' x10''' x11''' x12''')))))))))))))) ∧
      (decide ((v3 : Int) ≤ x10'') = false → (∃ v11'' : Int, ∃ v12'' : Int, Spec Try.prog etalonref06_turned_s ⟨[(g1 x10''), 0, ((0 - x10'') * 2)], [], []⟩ [v11'', v12''] [] [] ∧
       (((-65535) ≤ (v11'' : Int) ∧ (v11'' : Int) ≤ 65535) ∧ (((-65535) ≤ (v12'' : Int) ∧ (v12'' : Int) ≤ 65535) ∧ (I8'' ((x8'' + v11'')) ((x9'' + v12'')) ((x10'' + 1)) ∧ rk8'' ((x8'' + v11'')) ((x9'' + v12'')) ((x10'' + 1)) < rk8'' x8'' x9'' x10'')))))))))))))) ∧
     (decide ((v3 : Int) ≤ x8') = false → (∃ v9' : Int, ∃ v10' : Int, Spec Try.prog etalonref06_turned_s ⟨[(g1 x8'), 0, (0 - x8')], [], []⟩ [v9', v10'] [] [] ∧
      (((-65535) ≤ (v9' : Int) ∧ (v9' : Int) ≤ 65535) ∧ (((-65535) ≤ (v10' : Int) ∧ (v10' : Int) ≤ 65535) ∧ (I6' ((x6' + v9')) ((x7' + v10')) ((x8' + 1)) ∧ rk6' ((x6' + v9')) ((x7' + v10')) ((x8' + 1)) < rk6' x6' x7' x8')))))))))))))) ∧
    (decide ((v3 : Int) ≤ x6) = false → (∃ v7 : Int, ∃ v8 : Int, Spec Try.prog etalonref06_turned_s ⟨[(g1 x6), 0, 0], [], []⟩ [v7, v8] [] [] ∧
     (((-65535) ≤ (v7 : Int) ∧ (v7 : Int) ≤ 65535) ∧ (((-65535) ≤ (v8 : Int) ∧ (v8 : Int) ≤ 65535) ∧ (I4 ((x4 + v7)) ((x5 + v8)) ((x6 + 1)) ∧ rk4 ((x4 + v7)) ((x5 + v8)) ((x6 + 1)) < rk4 x4 x5 x6))))))))))))))) :
    ∃ v0 : Int, ∃ v1 : Int, ∃ v2 : Int, ∃ v3 : Int, ∃ v4 : Int, ∃ v5 : Int, ∃ v6 : Int, ∃ v7 : Int, R v0 v1 v2 v3 v4 v5 v6 v7 ∧ Spec Try.prog etalonref06_Harmonics_s ⟨[x0, x1, x2], [], [f0]⟩ [v0, v1, v2, v3, v4, v5, v6, v7] [] [] :=
  Eq.mp (by kernel_rfl) (exV_of (K := fun d => app3 etalonref06_Harmonics_s.out R d ∧ Spec Try.prog etalonref06_Harmonics_s ⟨[x0, x1, x2], [], [f0]⟩ d.1 d.2.1 d.2.2) (tree_at mixed names S2_ok (S := S2 Try.prog) (lf := 100000) (d := 60) etalonref06_Harmonics_s rhm0_t { ivs := [(0, 0, 64), (1, (-9223372036854775808), 9223372036854775807), (2, (-9223372036854775808), 9223372036854775807)], aivs := [] } ⟨[x0, x1, x2], [], [f0]⟩ rfl (by kernel_rfl) (by kernel_rfl) (by kernel_rfl) ⟨(fc r0 (fc r1 (fc r2 fz))), fz, fz, fz⟩ (R := fun d => app3 etalonref06_Harmonics_s.out R d) (Eq.mp (by kernel_rfl) H)))

def mhr0_t : Tr :=
  (.call etalonlaw06_awake_s ⟨[], [], []⟩ ⟨[], [(.var 0)], []⟩ ⟨7, [], [], [none, none], (.bool (.var 0)), []⟩
  (.ite (.var 0)
  (.ite (.icmp .leq (.var 0) (.lit 70))
   (.call meter_Harmonics_s ⟨[(.var 0), (.var 1), (.var 2)], [], [(.avar 0)]⟩ ⟨[(.var 0), (.var 1), (.var 2), (.var 3), (.var 4), (.var 5), (.var 6), (.var 7), (.var 8), (.var 9), (.var 10), (.var 11)], [], [(.avar 0)]⟩ ⟨16, [(.agg [(.asl 5 (.var 0)), (.int .i64 (.var 1)), (.int .i64 (.var 2))])], [5], [none, none, none, none, none, (some ⟨[], 65, false, true, (some ⟨(.var 0), [(.float .f32)], [(.avar 0)]⟩)⟩)], (.tuple [(.agg [(.complex .f64 (.var 3) (.var 4)), (.complex .f64 (.var 5) (.var 6)), (.complex .f64 (.var 7) (.var 8)), (.complex .f64 (.var 9) (.var 10))]), (.int .i64 (.var 11))]), []⟩
    (.whole 3 10000000 (.rng 12 (-10000000) 10000000 (.whole 4 10000000 (.rng 13 (-10000000) 10000000 (.whole 5 10000000 (.rng 14 (-10000000) 10000000 (.whole 6 10000000 (.rng 15 (-10000000) 10000000 (.whole 7 10000000 (.rng 16 (-10000000) 10000000 (.whole 8 10000000 (.rng 17 (-10000000) 10000000 (.whole 9 10000000 (.rng 18 (-10000000) 10000000 (.whole 10 10000000 (.rng 19 (-10000000) 10000000 (.call etalonref06_CheckScan_s ⟨[(.var 0), (.var 1), (.var 2)], [], [(.avar 0)]⟩ ⟨[(.var 0), (.var 1), (.var 2), (.var 20), (.var 21)], [], [(.avar 0)]⟩ ⟨12, [(.agg [(.asl 0 (.var 0)), (.int .i64 (.var 1)), (.int .i64 (.var 2))])], [0], [(some ⟨[], 65, true, false, (some ⟨(.var 0), [(.float .f32)], [(.avar 0)]⟩)⟩), none, none, none, none, none, none], (.tuple [(.int .i64 (.var 20)), (.int .i64 (.var 21))]), []⟩
    (.ite (.icmp .eql (.var 21) (.lit 0))
    (.call etalonref06_Harmonics_s ⟨[(.var 0), (.var 1), (.var 2)], [], [(.avar 0)]⟩ ⟨[(.var 0), (.var 1), (.var 2), (.var 22), (.var 23), (.var 24), (.var 25), (.var 26), (.var 27), (.var 28), (.var 29)], [], [(.avar 0)]⟩ ⟨17, [(.agg [(.asl 0 (.var 0)), (.int .i64 (.var 1)), (.int .i64 (.var 2))])], [0], [(some ⟨[], 65, true, false, (some ⟨(.var 0), [(.float .f32)], [(.avar 0)]⟩)⟩), none, none, none, none, none, none], (.agg [(.complex .f64 (.var 22) (.var 23)), (.complex .f64 (.var 24) (.var 25)), (.complex .f64 (.var 26) (.var 27)), (.complex .f64 (.var 28) (.var 29))]), []⟩
     (.ite (.icmp .eql (.var 11) (.lit 0))
     (.ite (.icmp .eql (.bin .maxI (.var 3) (.lit 0)) (.bin .maxI (.var 22) (.lit 0)))
      (.ite (.icmp .eql (.bin .maxI (.var 4) (.lit 0)) (.bin .maxI (.var 23) (.lit 0)))
       (.ite (.icmp .eql (.bin .maxI (.var 5) (.lit 0)) (.bin .maxI (.var 24) (.lit 0)))
        (.ite (.icmp .eql (.bin .maxI (.var 6) (.lit 0)) (.bin .maxI (.var 25) (.lit 0)))
         (.ite (.icmp .eql (.bin .maxI (.var 7) (.lit 0)) (.bin .maxI (.var 26) (.lit 0)))
          (.ite (.icmp .eql (.bin .maxI (.var 8) (.lit 0)) (.bin .maxI (.var 27) (.lit 0)))
           (.ite (.icmp .eql (.bin .maxI (.var 9) (.lit 0)) (.bin .maxI (.var 28) (.lit 0)))
            (.ite (.icmp .eql (.bin .maxI (.var 10) (.lit 0)) (.bin .maxI (.var 29) (.lit 0)))
             (.call meter_SumsOf_s ⟨[(.var 0), (.lit 0), (.lit 65536)], [], [(.avar 0)]⟩ ⟨[(.var 0), (.lit 0), (.lit 65536), (.var 30), (.var 31), (.var 32), (.var 33), (.var 34), (.var 35), (.var 36)], [], [(.avar 0)]⟩ ⟨11, [(.agg [(.asl 11 (.var 0)), (.int .i64 (.lit 0)), (.int .i64 (.lit 65536))])], [11], [none, none, none, none, none, none, none, none, none, none, none, (some ⟨[], 65, false, true, (some ⟨(.var 0), [(.float .f32)], [(.avar 0)]⟩)⟩), none], (.tuple [(.agg [(.int .i64 (.var 30)), (.int .i64 (.var 31)), (.int .i64 (.var 32)), (.int .i64 (.var 33)), (.int .i64 (.var 34)), (.int .i64 (.var 35))]), (.int .i64 (.var 36))]), []⟩
              (.ite (.icmp .eql (.var 36) (.lit 0))
              (.ret ⟨[], [(.and (.and (.icmp .eql (.var 30) (.var 12)) (.icmp .eql (.var 31) (.var 12))) (.and (.and (.icmp .eql (.var 32) (.var 14)) (.icmp .eql (.var 33) (.var 14))) (.and (.icmp .eql (.var 34) (.bin .subI (.lit 0) (.var 15))) (.icmp .eql (.var 35) (.bin .subI (.lit 0) (.var 15))))))], []⟩ [])
              (.ret ⟨[], [(.lit false)], []⟩ [])))
             (.ret ⟨[], [(.lit false)], []⟩ []))
            (.ret ⟨[], [(.lit false)], []⟩ []))
           (.ret ⟨[], [(.lit false)], []⟩ []))
          (.ret ⟨[], [(.lit false)], []⟩ []))
         (.ret ⟨[], [(.lit false)], []⟩ []))
        (.ret ⟨[], [(.lit false)], []⟩ []))
       (.ret ⟨[], [(.lit false)], []⟩ []))
      (.ret ⟨[], [(.lit false)], []⟩ []))
     (.ret ⟨[], [(.lit false)], []⟩ [])))
    (.ite (.icmp .eql (.var 11) (.var 21))
     (.ret ⟨[], [(.and (.and (.fcmp .f64 .eql (.var 3) (.lit 0)) (.fcmp .f64 .eql (.var 4) (.lit 0))) (.and (.and (.fcmp .f64 .eql (.var 5) (.lit 0)) (.fcmp .f64 .eql (.var 6) (.lit 0))) (.and (.and (.fcmp .f64 .eql (.var 7) (.lit 0)) (.fcmp .f64 .eql (.var 8) (.lit 0))) (.and (.fcmp .f64 .eql (.var 9) (.lit 0)) (.fcmp .f64 .eql (.var 10) (.lit 0))))))], []⟩ [])
     (.ret ⟨[], [(.lit false)], []⟩ [])))))))))))))))))))))
   (.ret ⟨[], [(.lit true)], []⟩ []))
  (.ret ⟨[], [(.lit false)], []⟩ [])))
theorem mhr0 {x0 x1 x2 : Int} {f0 : Int → Int} (r0 : 0 ≤ x0 ∧ x0 ≤ 9223372036854775807) (r1 : (-9223372036854775808) ≤ x1 ∧ x1 ≤ 9223372036854775807) (r2 : (-9223372036854775808) ≤ x2 ∧ x2 ≤ 9223372036854775807) {R : Bool → Prop}
  (H : (∃ u0 : Bool, Spec Try.prog etalonlaw06_awake_s ⟨[], [], []⟩ [] [u0] [] ∧
   ((u0 = true → ((decide ((x0 : Int) ≤ 70) = true → (∃ v3 : Int, ∃ v4 : Int, ∃ v5 : Int, ∃ v6 : Int, ∃ v7 : Int, ∃ v8 : Int, ∃ v9 : Int, ∃ v10 : Int, ∃ v11 : Int, Spec Try.prog meter_Harmonics_s ⟨[x0, x1, x2], [], [f0]⟩ [v3, v4, v5, v6, v7, v8, v9, v10, v11] [] [] ∧
     (∃ v12 : Int, (Rp (v3 : Int).toNat v12 ∧ v12.natAbs ≤ 10000000) ∧ (((-10000000) ≤ (v12 : Int) ∧ (v12 : Int) ≤ 10000000) ∧ (∃ v13 : Int, (Rp (v4 : Int).toNat v13 ∧ v13.natAbs ≤ 10000000) ∧ (((-10000000) ≤ (v13 : Int) ∧ (v13 : Int) ≤ 10000000) ∧ (∃ v14 : Int, (Rp (v5 : Int).toNat v14 ∧ v14.natAbs ≤ 10000000) ∧ (((-10000000) ≤ (v14 : Int) ∧ (v14 : Int) ≤ 10000000) ∧ (∃ v15 : Int, (Rp (v6 : Int).toNat v15 ∧ v15.natAbs ≤ 10000000) ∧ (((-10000000) ≤ (v15 : Int) ∧ (v15 : Int) ≤ 10000000) ∧ (∃ v16 : Int, (Rp (v7 : Int).toNat v16 ∧ v16.natAbs ≤ 10000000) ∧ (((-10000000) ≤ (v16 : Int) ∧ (v16 : Int) ≤ 10000000) ∧ (∃ v17 : Int, (Rp (v8 : Int).toNat v17 ∧ v17.natAbs ≤ 10000000) ∧ (((-10000000) ≤ (v17 : Int) ∧ (v17 : Int) ≤ 10000000) ∧ (∃ v18 : Int, (Rp (v9 : Int).toNat v18 ∧ v18.natAbs ≤ 10000000) ∧ (((-10000000) ≤ (v18 : Int) ∧ (v18 : Int) ≤ 10000000) ∧ (∃ v19 : Int, (Rp (v10 : Int).toNat v19 ∧ v19.natAbs ≤ 10000000) ∧ (((-10000000) ≤ (v19 : Int) ∧ (v19 : Int) ≤ 10000000) ∧ (∃ v20 : Int, ∃ v21 : Int, Spec Try.prog etalonref06_CheckScan_s ⟨[x0, x1, x2], [], [f0]⟩ [v20, v21] [] [] ∧
     ((((v21 : Int) == 0) = true → (∃ v22 : Int, ∃ v23 : Int, ∃ v24 : Int, ∃ v25 : Int, ∃ v26 : Int, ∃ v27 : Int, ∃ v28 : Int, ∃ v29 : Int, Spec Try.prog etalonref06_Harmonics_s ⟨[x0, x1, x2], [], [f0]⟩ [v22, v23, v24, v25, v26, v27, v28, v29] [] [] ∧
      ((((v11 : Int) == 0) = true → (((((if (0 : Int) > (v3) then 0 else v3) : Int) == (if (0 : Int) > (v22) then 0 else v22)) = true → (((((if (0 : Int) > (v4) then 0 else v4) : Int) == (if (0 : Int) > (v23) then 0 else v23)) = true → (((((if (0 : Int) > (v5) then 0 else v5) : Int) == (if (0 : Int) > (v24) then 0 else v24)) = true → (((((if (0 : Int) > (v6) then 0 else v6) : Int) == (if (0 : Int) > (v25) then 0 else v25)) = true → (((((if (0 : Int) > (v7) then 0 else v7) : Int) == (if (0 : Int) > (v26) then 0 else v26)) = true → (((((if (0 : Int) > (v8) then 0 else v8) : Int) == (if (0 : Int) > (v27) then 0 else v27)) = true → (((((if (0 : Int) > (v9) then 0 else v9) : Int) == (if (0 : Int) > (v28) then 0 else v28)) = true → (((((if (0 : Int) > (v10) then 0 else v10) : Int) == (if (0 : Int) > (v29) then 0 else v29)) = true → (∃ v30 : Int, ∃ v31 : Int, ∃ v32 : Int, ∃ v33 : Int, ∃ v34 : Int, ∃ v35 : Int, ∃ v36 : Int, Spec Try.prog meter_SumsOf_s ⟨[x0, 0, 65536], [], [f0]⟩ [v30, v31, v32, v33, v34, v35, v36] [] [] ∧
               ((((v36 : Int) == 0) = true → R (((((v30 : Int) == v12) && ((v31 : Int) == v12)) && ((((v32 : Int) == v14) && ((v33 : Int) == v14)) && (((v34 : Int) == (0 - v15)) && ((v35 : Int) == (0 - v15))))))) ∧
               (((v36 : Int) == 0) = false → R (false))))) ∧
              ((((if (0 : Int) > (v10) then 0 else v10) : Int) == (if (0 : Int) > (v29) then 0 else v29)) = false → R (false)))) ∧
             ((((if (0 : Int) > (v9) then 0 else v9) : Int) == (if (0 : Int) > (v28) then 0 else v28)) = false → R (false)))) ∧
            ((((if (0 : Int) > (v8) then 0 else v8) : Int) == (if (0 : Int) > (v27) then 0 else v27)) = false → R (false)))) ∧
           ((((if (0 : Int) > (v7) then 0 else v7) : Int) == (if (0 : Int) > (v26) then 0 else v26)) = false → R (false)))) ∧
          ((((if (0 : Int) > (v6) then 0 else v6) : Int) == (if (0 : Int) > (v25) then 0 else v25)) = false → R (false)))) ∧
         ((((if (0 : Int) > (v5) then 0 else v5) : Int) == (if (0 : Int) > (v24) then 0 else v24)) = false → R (false)))) ∧
        ((((if (0 : Int) > (v4) then 0 else v4) : Int) == (if (0 : Int) > (v23) then 0 else v23)) = false → R (false)))) ∧
       ((((if (0 : Int) > (v3) then 0 else v3) : Int) == (if (0 : Int) > (v22) then 0 else v22)) = false → R (false)))) ∧
      (((v11 : Int) == 0) = false → R (false))))) ∧
     (((v21 : Int) == 0) = false → ((((v11 : Int) == v21) = true → R (((COp.flo .f64 .eql (v3 : Int).toNat (0 : Int).toNat && COp.flo .f64 .eql (v4 : Int).toNat (0 : Int).toNat) && ((COp.flo .f64 .eql (v5 : Int).toNat (0 : Int).toNat && COp.flo .f64 .eql (v6 : Int).toNat (0 : Int).toNat) && ((COp.flo .f64 .eql (v7 : Int).toNat (0 : Int).toNat && COp.flo .f64 .eql (v8 : Int).toNat (0 : Int).toNat) && (COp.flo .f64 .eql (v9 : Int).toNat (0 : Int).toNat && COp.flo .f64 .eql (v10 : Int).toNat (0 : Int).toNat)))))) ∧
      (((v11 : Int) == v21) = false → R (false)))))))))))))))))))))))) ∧
    (decide ((x0 : Int) ≤ 70) = false → R (true)))) ∧
   (u0 = false → R (false))))) :
    ∃ u0 : Bool, R u0 ∧ Spec Try.prog etalonlaw06_MeterHarmonics_s ⟨[x0, x1, x2], [], [f0]⟩ [] [u0] [] :=
  Eq.mp (by kernel_rfl) (exV_of (K := fun d => app3 etalonlaw06_MeterHarmonics_s.out R d ∧ Spec Try.prog etalonlaw06_MeterHarmonics_s ⟨[x0, x1, x2], [], [f0]⟩ d.1 d.2.1 d.2.2) (tree_at mixed names S2_ok (S := S2 Try.prog) (lf := 100000) (d := 60) etalonlaw06_MeterHarmonics_s mhr0_t { ivs := [(0, 0, 9223372036854775807), (1, (-9223372036854775808), 9223372036854775807), (2, (-9223372036854775808), 9223372036854775807)], aivs := [] } ⟨[x0, x1, x2], [], [f0]⟩ rfl (by kernel_rfl) (by kernel_rfl) (by kernel_rfl) ⟨(fc r0 (fc r1 (fc r2 fz))), fz, fz, fz⟩ (R := fun d => app3 etalonlaw06_MeterHarmonics_s.out R d) (Eq.mp (by kernel_rfl) H)))

section

variable {x0 x1 x2 : Int} {f0 : Int → Int}

theorem mod4 {n : Int} (h : -200 ≤ n ∧ n ≤ 0) : Spec Try.prog etalonbase_Mod_s ⟨[n, 4], [], []⟩ [n % 4] [] [] := by

  have e1 := Int.mul_tdiv_add_tmod n 4

  have e2 := Int.tmod_lt_of_pos n (b := 4) (by omega)

  have e3 := Int.lt_tmod_of_pos n (b := 4) (by omega)

  obtain ⟨v, rfl, hs⟩ := mod0 h (by decide : (4 : Int) ≤ 4 ∧ (4 : Int) ≤ 4) (R := (· = n % 4)) (by

    simp only [decide_eq_true_eq, decide_eq_false_iff_not]

    exact ⟨fun h => by omega, fun h => by omega⟩)

  exact hs

theorem turned_r {a q : Int} (ha : 0 ≤ a ∧ a ≤ 65535) (hq : 0 ≤ q ∧ q ≤ 200) : Spec Try.prog etalonref06_turned_s ⟨[a, 0, -q], [], []⟩ [a * rc (q % 4), a * ic (q % 4)] [] [] := by

  obtain ⟨v, w, ⟨rfl, rfl⟩, hs⟩ := tur0 (x0 := a) (x1 := 0) (x2 := -q) ha (by decide) (by omega) (R := fun v w => v = a * rc (q % 4) ∧ w = a * ic (q % 4)) (by

    refine ⟨_, mod4 (by omega), by omega, ?_⟩

    simp only [decide_eq_true_eq, decide_eq_false_iff_not]

    refine ⟨fun h => ?_, fun h => ⟨fun h1 => ?_, fun h1 => ⟨fun h2 => ?_, fun h2 => ?_⟩⟩⟩

    · rw [show q % 4 = 0 by omega, show rc 0 = 1 from rfl, show ic 0 = 0 from rfl]; constructor <;> omega

    · rw [show q % 4 = 3 by omega, show rc 3 = 0 from rfl, show ic 3 = 1 from rfl]; constructor <;> omega

    · rw [show q % 4 = 2 by omega, show rc 2 = -1 from rfl, show ic 2 = 0 from rfl]; constructor <;> omega

    · rw [show q % 4 = 1 by omega, show rc 1 = 0 from rfl, show ic 1 = -1 from rfl]; constructor <;> omega)

  exact hs

set_option maxHeartbeats 8000000 in

theorem harm_r (G : Scn x0 x1 x2 f0) : Spec Try.prog etalonref06_Harmonics_s ⟨[x0, x1, x2], [], [f0]⟩ [FF (reT (lrow f0 x0.toNat) 0 x0.toNat), FF (imT (lrow f0 x0.toNat) 0 x0.toNat), FF (reT (lrow f0 x0.toNat) 1 x0.toNat), FF (imT (lrow f0 x0.toNat) 1 x0.toNat), FF (reT (lrow f0 x0.toNat) 2 x0.toNat), FF (imT (lrow f0 x0.toNat) 2 x0.toNat), FF (reT (lrow f0 x0.toNat) 3 x0.toNat), FF (imT (lrow f0 x0.toNat) 3 x0.toNat)] [] [] := by

  have g1 := G.four; have g2 := G.marg; have g3 := G.full

  have hi := ints_s G

  have lb := lrow_bd G x0.toNat (by omega)

  obtain ⟨_, _, _, _, _, _, _, _, ⟨rfl, rfl, rfl, rfl, rfl, rfl, rfl, rfl⟩, hs⟩ := rhm0 (x0 := x0) (x1 := x1) (x2 := x2) (f0 := f0) (by omega) (by omega) (by omega) (R := fun a b c d e f g h => a = FF (reT (lrow f0 x0.toNat) 0 x0.toNat) ∧ b = FF (imT (lrow f0 x0.toNat) 0 x0.toNat) ∧ c = FF (reT (lrow f0 x0.toNat) 1 x0.toNat) ∧ d = FF (imT (lrow f0 x0.toNat) 1 x0.toNat) ∧ e = FF (reT (lrow f0 x0.toNat) 2 x0.toNat) ∧ f = FF (imT (lrow f0 x0.toNat) 2 x0.toNat) ∧ g = FF (reT (lrow f0 x0.toNat) 3 x0.toNat) ∧ h = FF (imT (lrow f0 x0.toNat) 3 x0.toNat)) (by

    simp only [decide_eq_true_eq, decide_eq_false_iff_not, beq_iff_eq, beq_eq_false_iff_ne, ne_eq]

    generalize lrow f0 x0.toNat = L at *

    refine ⟨_, _, hi, by omega, lb, ?_⟩

    refine ⟨fun x y j => (0 ≤ j ∧ j ≤ x0) ∧ x = reT L 0 j.toNat ∧ y = imT L 0 j.toNat, fun _ _ j => (x0 - j).toNat, ⟨⟨by omega, by omega⟩, rfl, rfl⟩, ?_⟩

    rintro x y j ⟨hj, rfl, rfl⟩

    have bx := reT_bd lb 0 j.toNat

    have bY := imT_bd lb 0 j.toNat

    refine ⟨by omega, by omega, by omega, fun g => ?_, fun g => ?_⟩

    rotate_left

    · have t := turned_r (a := L j) (q := j * 0) (lb j) (by omega)

      rw [show -(j * 0) = 0 by omega] at t

      have t1 := term_bd (lb j) (rc_or (j * 0 % 4))

      have t2 := term_bd (lb j) (ic_or (j * 0 % 4))

      exact ⟨_, _, t, by omega, by omega, ⟨⟨by omega, by omega⟩, (reT_step hj.1).symm, (imT_step hj.1).symm⟩, by show (x0 - (j + 1)).toNat < (x0 - j).toNat; omega⟩

    have ej : x0 = j := by omega

    subst ej

    refine ⟨by omega, by omega, ?_⟩

    clear bx bY hj

    refine ⟨fun x y j => (0 ≤ j ∧ j ≤ x0) ∧ x = reT L 1 j.toNat ∧ y = imT L 1 j.toNat, fun _ _ j => (x0 - j).toNat, ⟨⟨by omega, by omega⟩, rfl, rfl⟩, ?_⟩

    rintro x y j ⟨hj, rfl, rfl⟩

    have bx := reT_bd lb 1 j.toNat

    have bY := imT_bd lb 1 j.toNat

    refine ⟨by omega, by omega, by omega, fun g => ?_, fun g => ?_⟩

    rotate_left

    · have t := turned_r (a := L j) (q := j * 1) (lb j) (by omega)

      rw [show -(j * 1) = 0 - j by omega] at t

      have t1 := term_bd (lb j) (rc_or (j * 1 % 4))

      have t2 := term_bd (lb j) (ic_or (j * 1 % 4))

      exact ⟨_, _, t, by omega, by omega, ⟨⟨by omega, by omega⟩, (reT_step hj.1).symm, (imT_step hj.1).symm⟩, by show (x0 - (j + 1)).toNat < (x0 - j).toNat; omega⟩

    have ej : x0 = j := by omega

    subst ej

    refine ⟨by omega, by omega, ?_⟩

    clear bx bY hj

    refine ⟨fun x y j => (0 ≤ j ∧ j ≤ x0) ∧ x = reT L 2 j.toNat ∧ y = imT L 2 j.toNat, fun _ _ j => (x0 - j).toNat, ⟨⟨by omega, by omega⟩, rfl, rfl⟩, ?_⟩

    rintro x y j ⟨hj, rfl, rfl⟩

    have bx := reT_bd lb 2 j.toNat

    have bY := imT_bd lb 2 j.toNat

    refine ⟨by omega, by omega, by omega, fun g => ?_, fun g => ?_⟩

    rotate_left

    · have t := turned_r (a := L j) (q := j * 2) (lb j) (by omega)

      rw [show -(j * 2) = (0 - j) * 2 by omega] at t

      have t1 := term_bd (lb j) (rc_or (j * 2 % 4))

      have t2 := term_bd (lb j) (ic_or (j * 2 % 4))

      exact ⟨_, _, t, by omega, by omega, ⟨⟨by omega, by omega⟩, (reT_step hj.1).symm, (imT_step hj.1).symm⟩, by show (x0 - (j + 1)).toNat < (x0 - j).toNat; omega⟩

    have ej : x0 = j := by omega

    subst ej

    refine ⟨by omega, by omega, ?_⟩

    clear bx bY hj

    refine ⟨fun x y j => (0 ≤ j ∧ j ≤ x0) ∧ x = reT L 3 j.toNat ∧ y = imT L 3 j.toNat, fun _ _ j => (x0 - j).toNat, ⟨⟨by omega, by omega⟩, rfl, rfl⟩, ?_⟩

    rintro x y j ⟨hj, rfl, rfl⟩

    have bx := reT_bd lb 3 j.toNat

    have bY := imT_bd lb 3 j.toNat

    refine ⟨by omega, by omega, by omega, fun g => ?_, fun g => ?_⟩

    rotate_left

    · have t := turned_r (a := L j) (q := j * 3) (lb j) (by omega)

      rw [show -(j * 3) = (0 - j) * 3 by omega] at t

      have t1 := term_bd (lb j) (rc_or (j * 3 % 4))

      have t2 := term_bd (lb j) (ic_or (j * 3 % 4))

      exact ⟨_, _, t, by omega, by omega, ⟨⟨by omega, by omega⟩, (reT_step hj.1).symm, (imT_step hj.1).symm⟩, by show (x0 - (j + 1)).toNat < (x0 - j).toNat; omega⟩

    have ej : x0 = j := by omega

    subst ej

    exact ⟨by omega, by omega, rfl, rfl, rfl, rfl, rfl, rfl, rfl, rfl⟩)

  exact hs

theorem plain_ok (G : Scn x0 x1 x2 f0) (hE : (scE x0 x1 x2 f0).2 = 0) : (scE x0 0 65536 f0).2 = 0 := by

  have g1 := G.four; have g2 := G.marg; have g3 := G.full

  unfold scE at hE ⊢

  rw [if_neg (by omega), if_neg (by omega)] at hE ⊢

  exact hE

theorem stT_none (G : Scn x0 x1 x2 f0) : ∀ k : Nat, (k : Int) ≤ x0 → (stT (nOf f0) 65536 k).1 = 0

  | 0, _ => rfl

  | k + 1, h => by

    have b := G.bd k (by omega) (by omega)

    unfold stT

    rw [if_neg (by omega)]

    exact stT_none G k (by omega)

set_option maxHeartbeats 4000000 in

theorem sums_plain (G : Scn x0 0 65536 f0) (hE : (scE x0 0 65536 f0).2 = 0) : Spec Try.prog meter_SumsOf_s ⟨[x0, 0, 65536], [], [f0]⟩ [reT (lrow f0 x0.toNat) 0 x0.toNat, reT (lrow f0 x0.toNat) 0 x0.toNat, reT (lrow f0 x0.toNat) 1 x0.toNat, reT (lrow f0 x0.toNat) 1 x0.toNat, 0 - imT (lrow f0 x0.toNat) 1 x0.toNat, 0 - imT (lrow f0 x0.toNat) 1 x0.toNat, 0] [] [] := by

  have g1 := G.four

  have hm := harm_p G hE

  have lb := lrow_bd G x0.toNat (by omega)

  generalize lrow f0 x0.toNat = L at *

  have cast : ((x0.toNat : Nat) : Int) = x0 := by omega

  have b0 := reT_bd lb 0 x0.toNat; have c0 := imT_bd lb 0 x0.toNat; have b1 := reT_bd lb 1 x0.toNat; have c1 := imT_bd lb 1 x0.toNat

  rw [cast] at b0 c0 b1 c1

  have rpn (n : Int) (h : -5000000 ≤ n ∧ n ≤ 5000000) : Rp (FF n).toNat n ∧ n.natAbs ≤ 10000000 := ⟨rp_n n, by omega⟩

  have st0 := stT_none G x0.toNat (by omega)

  have w0 : IntKind.i64.wrap 0 = 0 := by decide

  have w2 : IntKind.i64.wrap (reT L 0 x0.toNat) = reT L 0 x0.toNat := ws (by omega) (by omega)

  obtain ⟨_, _, _, _, _, _, _, ⟨rfl, rfl, rfl, rfl, rfl, rfl, rfl⟩, hs⟩ := sms0 (x0 := x0) (x1 := 0) (x2 := 65536) (f0 := f0) (by omega) (by omega) (by omega) (R := fun a b c d e f g => a = reT L 0 x0.toNat ∧ b = reT L 0 x0.toNat ∧ c = reT L 1 x0.toNat ∧ d = reT L 1 x0.toNat ∧ e = 0 - imT L 1 x0.toNat ∧ f = 0 - imT L 1 x0.toNat ∧ g = 0) (by

    refine ⟨_, _, _, _, _, _, _, _, _, hm, reT L 0 x0.toNat, rpn _ (by omega), by omega, imT L 0 x0.toNat, rpn _ (by omega), by omega, reT L 1 x0.toNat, rpn _ (by omega), by omega, imT L 1 x0.toNat, rpn _ (by omega), by omega, fun _ => ?_, fun g => absurd g (by decide)⟩

    simp only [decide_eq_true_eq, decide_eq_false_iff_not, beq_iff_eq, beq_eq_false_iff_ne, ne_eq]

    refine ⟨fun i n g => (0 ≤ i ∧ i ≤ x0) ∧ n = (stT (nOf f0) 65536 i.toNat).1 ∧ g = (stT (nOf f0) 65536 i.toNat).2, fun i _ _ => (x0 - i).toNat, ⟨⟨by omega, by omega⟩, rfl, rfl⟩, ?_⟩

    rintro i n g ⟨hi, rfl, rfl⟩

    have b := stT_bd (nOf f0) 65536 i.toNat

    refine ⟨fun q => by have := b.2 q; omega, by omega, by omega, fun h => ?_, fun h => ⟨fun _ => ⟨fun c => ⟨⟨⟨by omega, by omega⟩, ?_⟩, ?_⟩, fun c => ⟨⟨⟨by omega, by omega⟩, ?_⟩, ?_⟩⟩, fun h' => h' (G.one i hi.1 (by omega))⟩⟩

    · have e : i = x0 := by omega

      rw [e]

      have b' := stT_bd (nOf f0) 65536 x0.toNat

      refine ⟨fun q => by have := b'.2 q; omega, by omega, fun _ => ?_, fun g => by omega⟩

      rw [Int.mul_zero, w0, Int.sub_zero, Int.add_zero, w2, Int.zero_tdiv, Int.sub_zero, Int.add_zero, Int.sub_zero, Int.add_zero]

      exact ⟨rfl, rfl, rfl, rfl, rfl, rfl, by trivial⟩

    · rw [stT_step hi.1, if_pos (show 65536 ≤ nOf f0 i from c)]; exact ⟨rfl, rfl⟩

    · show (x0 - (i + 1)).toNat < (x0 - i).toNat; omega

    · rw [stT_step hi.1, if_neg (show ¬ 65536 ≤ nOf f0 i from c)]; exact ⟨rfl, rfl⟩

    · show (x0 - (i + 1)).toNat < (x0 - i).toNat; omega)

  exact hs

end

set_option maxHeartbeats 8000000 in

theorem harmonics {x0 x1 x2 : Int} {f0 : Int → Int} (r0 : 0 ≤ x0 ∧ x0 ≤ 9223372036854775807) (r1 : (-9223372036854775808) ≤ x1 ∧ x1 ≤ 9223372036854775807) (r2 : (-9223372036854775808) ≤ x2 ∧ x2 ≤ 9223372036854775807) : Spec Try.prog etalonlaw06_MeterHarmonics_s ⟨[x0, x1, x2], [], [f0]⟩ [] [true] [] := by

  obtain ⟨a0, rfl, ha⟩ := awake

  obtain ⟨w, rfl, hs⟩ : ∃ u0 : Bool, u0 = true ∧ Spec Try.prog etalonlaw06_MeterHarmonics_s ⟨[x0, x1, x2], [], [f0]⟩ [] [u0] [] := by

    refine mhr0 (f0 := f0) r0 r1 r2 (R := (· = true)) ⟨true, ha, fun _ => ?_, fun h => by cases h⟩

    refine ⟨fun h70 => ?_, fun _ => rfl⟩

    have h70 := of_decide_eq_true h70

    have cr := checkScan_r (x0 := x0) (x1 := x1) (x2 := x2) (f0 := f0) ⟨r0.1, by omega⟩ r1 r2

    by_cases hE : (scE x0 x1 x2 f0).2 = 0

    · have G := scn_ok hE

      have g1 := G.four

      have hE' := plain_ok G hE

      have hp := harm_p G hE

      have hr := harm_r G

      have sp := sums_plain (scn_ok hE') hE'

      have lb := lrow_bd G x0.toNat (by omega)

      rw [hE] at cr

      generalize lrow f0 x0.toNat = L at *

      have cast : ((x0.toNat : Nat) : Int) = x0 := by omega

      have bx (k : Int) := reT_bd lb k x0.toNat

      have bY (k : Int) := imT_bd lb k x0.toNat

      rw [cast] at bx bY

      have q0 := bx 0; have q1 := bx 1; have q2 := bx 2; have q3 := bx 3

      have p0 := bY 0; have p1 := bY 1; have p2 := bY 2; have p3 := bY 3

      have rpn (n : Int) (h : -5000000 ≤ n ∧ n ≤ 5000000) : Rp (FF n).toNat n ∧ n.natAbs ≤ 10000000 := ⟨rp_n n, by omega⟩

      refine ⟨_, _, _, _, _, _, _, _, _, hp, reT L 0 x0.toNat, rpn _ (by omega), by omega, imT L 0 x0.toNat, rpn _ (by omega), by omega, reT L 1 x0.toNat, rpn _ (by omega), by omega, imT L 1 x0.toNat, rpn _ (by omega), by omega, reT L 2 x0.toNat, rpn _ (by omega), by omega, imT L 2 x0.toNat, rpn _ (by omega), by omega, reT L 3 x0.toNat, rpn _ (by omega), by omega, imT L 3 x0.toNat, rpn _ (by omega), by omega, _, _, cr, fun _ => ⟨_, _, _, _, _, _, _, _, hr, fun _ => ?_, fun g => absurd g (by decide)⟩, fun g => absurd g (by decide)⟩

      simp only [beq_iff_eq, beq_eq_false_iff_ne, ne_eq]

      exact ⟨fun _ => ⟨fun _ => ⟨fun _ => ⟨fun _ => ⟨fun _ => ⟨fun _ => ⟨fun _ => ⟨fun _ => ⟨_, _, _, _, _, _, _, sp, fun _ => by simp, fun g => absurd (by trivial) g⟩, fun g => absurd (by trivial) g⟩, fun g => absurd (by trivial) g⟩, fun g => absurd (by trivial) g⟩, fun g => absurd (by trivial) g⟩, fun g => absurd (by trivial) g⟩, fun g => absurd (by trivial) g⟩, fun g => absurd (by trivial) g⟩, fun g => absurd (by trivial) g⟩

    · have hb := harm_bad hE ⟨r0.1, h70⟩ r1 r2

      have z : Rp (0 : Int).toNat 0 ∧ (0 : Int).natAbs ≤ 10000000 := ⟨rp_0, by decide⟩

      refine ⟨_, _, _, _, _, _, _, _, _, hb, 0, z, by decide, 0, z, by decide, 0, z, by decide, 0, z, by decide, 0, z, by decide, 0, z, by decide, 0, z, by decide, 0, z, by decide, _, _, cr, fun g => absurd (by simpa using g) hE, fun _ => ⟨fun _ => by decide +kernel, fun g => ?_⟩⟩

      simp at g

  exact hs

end Go.Proofs.Ytafnplkablkepaa.Ev
