/- GrowNarrowest: its callees, its ways. -/
import Derived.Test.YtikekimiionllaaFtkz
import Derived.Test.YtikekimiionllaaFaw8
namespace Go.Proofs.Ytikekimiionllaa.Ev
set_option linter.unusedSimpArgs false
open Go Go.RowKit
set_option linter.unusedVariables false
set_option maxRecDepth 100000
def etalonlaw08_keeps_s : Sig := ⟨15, ⟨5, 0, 3⟩, ⟨0, 1, 0⟩, [(.agg [(.int .i64 (.var 0)), (.int .i64 (.var 1)), (.int .i64 (.var 2)), (.asl 0 (.var 3))]), (.asl 1 (.var 4))], [(some ⟨[], 77, true, false, (some ⟨(.var 3), [(.int .i64), (.int .i64)], [(.avar 0), (.avar 1)]⟩)⟩), (some ⟨[], 3, true, false, (some ⟨(.var 4), [(.int .i64)], [(.avar 2)]⟩)⟩)], (.bool (.var 0)), []⟩
def etalonref08_CopyTrack_s : Sig := ⟨8, ⟨4, 0, 2⟩, ⟨4, 0, 2⟩, [(.agg [(.int .i64 (.var 0)), (.int .i64 (.var 1)), (.int .i64 (.var 2)), (.asl 0 (.var 3))])], [(some ⟨[], 77, true, false, (some ⟨(.var 3), [(.int .i64), (.int .i64)], [(.avar 0), (.avar 1)]⟩)⟩)], (.agg [(.int .i64 (.var 4)), (.int .i64 (.var 5)), (.int .i64 (.var 6)), (.asl 1 (.var 7))]), [(some ⟨[], 77, false, true, (some ⟨(.var 7), [(.int .i64), (.int .i64)], [(.avar 2), (.avar 3)]⟩)⟩)]⟩
def etalonlaw08_GrowNarrowest_s : Sig := ⟨4, ⟨5, 0, 3⟩, ⟨0, 1, 0⟩, [(.agg [(.int .i64 (.var 0)), (.int .i64 (.var 1)), (.int .i64 (.var 2)), (.asl 0 (.var 3))]), (.asl 1 (.var 4))], [(some ⟨[], 77, true, false, (some ⟨(.var 3), [(.int .i64), (.int .i64)], [(.avar 0), (.avar 1)]⟩)⟩), (some ⟨[], 3, true, false, (some ⟨(.var 4), [(.int .i64)], [(.avar 2)]⟩)⟩)], (.bool (.var 0)), []⟩

def ctk_t : Tr :=
  (.ret ⟨[(.var 0), (.var 1), (.var 2), (.var 3)], [], [(.avar 0), (.avar 1)]⟩ [4])
theorem ctk {x0 x1 x2 x3 : Int} {f0 f1 : Int → Int} (r0 : (-9223372036854775808) ≤ x0 ∧ x0 ≤ 9223372036854775807) (r1 : (-9223372036854775808) ≤ x1 ∧ x1 ≤ 9223372036854775807) (r2 : (-9223372036854775808) ≤ x2 ∧ x2 ≤ 9223372036854775807) (r3 : 0 ≤ x3 ∧ x3 ≤ 40) (s0 : ∀ q, (-9223372036854775808) ≤ f0 q ∧ f0 q ≤ 9223372036854775807) (s1 : ∀ q, (-9223372036854775808) ≤ f1 q ∧ f1 q ≤ 9223372036854775807) {R : Int → Int → Int → Int → (Int → Int) → (Int → Int) → Prop}
  (H : R (x0) (x1) (x2) (x3) (f0) (f1)) :
    ∃ v0 : Int, ∃ v1 : Int, ∃ v2 : Int, ∃ v3 : Int, ∃ g0 : Int → Int, ∃ g1 : Int → Int, R v0 v1 v2 v3 g0 g1 ∧ Spec Try.prog etalonref08_CopyTrack_s ⟨[x0, x1, x2, x3], [], [f0, f1]⟩ [v0, v1, v2, v3] [] [g0, g1] :=
  Eq.mp (by kernel_rfl) (exV_of (K := fun d => app3 etalonref08_CopyTrack_s.out R d ∧ Spec Try.prog etalonref08_CopyTrack_s ⟨[x0, x1, x2, x3], [], [f0, f1]⟩ d.1 d.2.1 d.2.2) (tree_at mixed names S1_ok (S := S1 Try.prog) (lf := 100000) (d := 60) etalonref08_CopyTrack_s ctk_t { ivs := [(0, (-9223372036854775808), 9223372036854775807), (1, (-9223372036854775808), 9223372036854775807), (2, (-9223372036854775808), 9223372036854775807), (3, 0, 40)], aivs := [(0, (-9223372036854775808), 9223372036854775807), (1, (-9223372036854775808), 9223372036854775807)] } ⟨[x0, x1, x2, x3], [], [f0, f1]⟩ rfl (by kernel_rfl) (by kernel_rfl) (by kernel_rfl) ⟨(fc r0 (fc r1 (fc r2 (fc r3 fz)))), fz, (fc s0 (fc s1 fz)), fz⟩ (R := fun d => app3 etalonref08_CopyTrack_s.out R d) (Eq.mp (by kernel_rfl) H)))

def kp_t : Tr :=
  (.ite (.icmp .eql (.var 4) (.var 3))
  (.loop ⟨15, [0, 1, 0, 1, 1, 1], [(.agg [(.int .i64 (.var 0)), (.int .i64 (.var 1)), (.int .i64 (.var 2)), (.asl 0 (.var 3))]), (.asl 1 (.var 4)), (.ptr (some ⟨2, 0, none⟩)), (.tuple []), (.bool (.lit false)), (.int .i64 (.lit 0)), (.int .i64 (.lit 0)), (.int .i64 (.lit 0)), (.tuple []), (.tuple []), (.asl 1 (.var 4)), (.int .i64 (.var 4)), (.ptr (some ⟨2, 3, none⟩)), (.asl 0 (.var 3)), (.int .i64 (.var 3)), (.bool (.icmp .neq (.var 4) (.var 3))), (.tuple []), (.tuple []), (.tuple []), (.tuple []), (.tuple []), (.tuple []), (.tuple []), (.tuple []), (.tuple []), (.tuple []), (.tuple []), (.tuple []), (.tuple []), (.tuple []), (.tuple []), (.tuple []), (.tuple []), (.tuple []), (.tuple []), (.tuple []), (.tuple []), (.tuple []), (.tuple []), (.tuple []), (.tuple []), (.tuple []), (.tuple []), (.tuple []), (.tuple []), (.tuple []), (.tuple []), (.tuple []), (.tuple []), (.tuple []), (.tuple []), (.tuple []), (.tuple []), (.tuple []), (.tuple []), (.tuple []), (.tuple []), (.tuple []), (.tuple []), (.tuple []), (.tuple []), (.tuple []), (.tuple []), (.tuple []), (.tuple []), (.tuple []), (.tuple []), (.tuple []), (.tuple []), (.tuple []), (.tuple []), (.tuple []), (.tuple []), (.tuple []), (.tuple []), (.tuple []), (.tuple [])], [(some ⟨[], 77, true, false, (some ⟨(.var 3), [(.int .i64), (.int .i64)], [(.avar 0), (.avar 1)]⟩)⟩), (some ⟨[], 3, true, false, (some ⟨(.var 4), [(.int .i64)], [(.avar 2)]⟩)⟩), (some ⟨[(.int .i64 (.var 0)), (.int .i64 (.var 1)), (.int .i64 (.var 2)), (.asl 0 (.var 3))], 26, false, false, none⟩)], [], [(.agg [(.int .i64 (.var 0)), (.int .i64 (.var 1)), (.int .i64 (.var 2)), (.asl 0 (.var 3))]), (.asl 1 (.var 4)), (.ptr (some ⟨2, 0, none⟩)), (.tuple []), (.bool (.lit false)), (.int .i64 (.var 5)), (.int .i64 (.var 6)), (.int .i64 (.var 7)), (.any 8), (.any 9), (.asl 1 (.var 4)), (.int .i64 (.var 4)), (.ptr (some ⟨2, 3, none⟩)), (.asl 0 (.var 3)), (.int .i64 (.var 3)), (.bool (.icmp .neq (.var 4) (.var 3))), (.any 16), (.any 17), (.any 18), (.any 19), (.any 20), (.any 21), (.any 22), (.any 23), (.any 24), (.any 25), (.any 26), (.any 27), (.any 28), (.any 29), (.any 30), (.any 31), (.any 32), (.any 33), (.any 34), (.any 35), (.any 36), (.any 37), (.any 38), (.any 39), (.any 40), (.any 41), (.any 42), (.any 43), (.any 44), (.any 45), (.any 46), (.any 47), (.any 48), (.any 49), (.any 50), (.any 51), (.any 52), (.any 53), (.any 54), (.any 55), (.any 56), (.any 57), (.any 58), (.any 59), (.any 60), (.any 61), (.any 62), (.any 63), (.any 64), (.any 65), (.any 66), (.any 67), (.any 68), (.any 69), (.any 70), (.any 71), (.any 72), (.any 73), (.any 74), (.any 75), (.any 76)], [(some ⟨[], 77, true, false, (some ⟨(.var 3), [(.int .i64), (.int .i64)], [(.avar 0), (.avar 1)]⟩)⟩), (some ⟨[], 3, true, false, (some ⟨(.var 4), [(.int .i64)], [(.avar 2)]⟩)⟩), (some ⟨[(.int .i64 (.var 0)), (.int .i64 (.var 1)), (.int .i64 (.var 2)), (.asl 0 (.var 3))], 26, false, false, none⟩)], [], ⟨3, 0, 0⟩, ⟨[(.lit 0), (.lit 0), (.lit 0)], [], []⟩, []⟩
   (.rng 5 0 100000 (.rng 6 (-9223372036854775808) 9223372036854775807 (.rng 7 0 12 (.ite (.icmp .leq (.var 4) (.var 7))
    (.out 1 ⟨[], [], []⟩ [])
    (.ite (.icmp .leq (.var 3) (.var 7))
     .nil
     (.ite (.icmp .leq (.bin (.mulW .i64) (.lit 1000) (.bin (.subW .i64) (.sel (.avar 1) (.var 7)) (.var 2))) (.sel (.avar 2) (.var 7)))
      (.ite (.icmp .leq (.sel (.avar 2) (.var 7)) (.bin (.mulW .i64) (.lit 1000) (.bin (.addW .i64) (.sel (.avar 1) (.var 7)) (.var 2))))
       (.ite (.icmp .leq (.bin (.addW .i64) (.var 6) (.bin (.mulW .i64) (.bin (.subW .i64) (.sel (.avar 0) (.var 7)) (.var 5)) (.var 0))) (.sel (.avar 2) (.var 7)))
        (.ite (.icmp .leq (.sel (.avar 2) (.var 7)) (.bin (.addW .i64) (.var 6) (.bin (.mulW .i64) (.bin (.subW .i64) (.sel (.avar 0) (.var 7)) (.var 5)) (.var 1))))
         (.next ⟨[(.sel (.avar 0) (.var 7)), (.sel (.avar 2) (.var 7)), (.bin .addI (.var 7) (.lit 1))], [], []⟩ [])
         (.out 0 ⟨[], [], []⟩ []))
        (.out 0 ⟨[], [], []⟩ []))
       (.out 0 ⟨[], [], []⟩ []))
      (.out 0 ⟨[], [], []⟩ [])))))))
   (.ex (.ret, [(.agg [(.int .i64 (.var 0)), (.int .i64 (.var 1)), (.int .i64 (.var 2)), (.asl 0 (.var 3))]), (.asl 1 (.var 4)), (.ptr (some ⟨2, 0, none⟩)), (.tuple []), (.bool (.lit false)), (.any 5), (.any 6), (.any 7), (.any 8), (.any 9), (.asl 1 (.var 4)), (.int .i64 (.var 4)), (.ptr (some ⟨2, 3, none⟩)), (.asl 0 (.var 3)), (.int .i64 (.var 3)), (.bool (.icmp .neq (.var 4) (.var 3))), (.any 16), (.any 17), (.any 18), (.any 19), (.any 20), (.any 21), (.any 22), (.any 23), (.any 24), (.any 25), (.any 26), (.any 27), (.any 28), (.any 29), (.any 30), (.any 31), (.any 32), (.any 33), (.any 34), (.any 35), (.any 36), (.any 37), (.any 38), (.any 39), (.any 40), (.any 41), (.any 42), (.any 43), (.any 44), (.any 45), (.any 46), (.any 47), (.any 48), (.any 49), (.any 50), (.any 51), (.any 52), (.any 53), (.any 54), (.any 55), (.any 56), (.any 57), (.any 58), (.any 59), (.any 60), (.any 61), (.any 62), (.any 63), (.any 64), (.any 65), (.any 66), (.any 67), (.any 68), (.any 69), (.any 70), (.any 71), (.any 72), (.any 73), (.any 74), (.any 75), (.any 76)], [(some ⟨[], 77, true, false, (some ⟨(.var 3), [(.int .i64), (.int .i64)], [(.avar 0), (.avar 1)]⟩)⟩), (some ⟨[], 3, true, false, (some ⟨(.var 4), [(.int .i64)], [(.avar 2)]⟩)⟩), (some ⟨[(.int .i64 (.var 0)), (.int .i64 (.var 1)), (.int .i64 (.var 2)), (.asl 0 (.var 3))], 26, false, false, none⟩)], []) ⟨0, 0, 0⟩
   (.ret ⟨[], [(.lit false)], []⟩ [])
   (.ex ((.exit 0), [(.agg [(.int .i64 (.var 0)), (.int .i64 (.var 1)), (.int .i64 (.var 2)), (.asl 0 (.var 3))]), (.asl 1 (.var 4)), (.ptr (some ⟨2, 0, none⟩)), (.tuple []), (.bool (.lit false)), (.any 5), (.any 6), (.any 7), (.any 8), (.any 9), (.asl 1 (.var 4)), (.int .i64 (.var 4)), (.ptr (some ⟨2, 3, none⟩)), (.asl 0 (.var 3)), (.int .i64 (.var 3)), (.bool (.icmp .neq (.var 4) (.var 3))), (.any 16), (.any 17), (.any 18), (.any 19), (.any 20), (.any 21), (.any 22), (.any 23), (.any 24), (.any 25), (.any 26), (.any 27), (.any 28), (.any 29), (.any 30), (.any 31), (.any 32), (.any 33), (.any 34), (.any 35), (.any 36), (.any 37), (.any 38), (.any 39), (.any 40), (.any 41), (.any 42), (.any 43), (.any 44), (.any 45), (.any 46), (.any 47), (.any 48), (.any 49), (.any 50), (.any 51), (.any 52), (.any 53), (.any 54), (.any 55), (.any 56), (.any 57), (.any 58), (.any 59), (.any 60), (.any 61), (.any 62), (.any 63), (.any 64), (.any 65), (.any 66), (.any 67), (.any 68), (.any 69), (.any 70), (.any 71), (.any 72), (.any 73), (.any 74), (.any 75), (.any 76)], [(some ⟨[], 77, true, false, (some ⟨(.var 3), [(.int .i64), (.int .i64)], [(.avar 0), (.avar 1)]⟩)⟩), (some ⟨[], 3, true, false, (some ⟨(.var 4), [(.int .i64)], [(.avar 2)]⟩)⟩), (some ⟨[(.int .i64 (.var 0)), (.int .i64 (.var 1)), (.int .i64 (.var 2)), (.asl 0 (.var 3))], 26, false, false, none⟩)], []) ⟨0, 0, 0⟩
   (.ret ⟨[], [(.lit true)], []⟩ [])
   .nil)))
  (.ret ⟨[], [(.lit false)], []⟩ []))
theorem kp {x0 x1 x2 x3 x4 : Int} {f0 f1 f2 : Int → Int} (r0 : (-9223372036854775808) ≤ x0 ∧ x0 ≤ 9223372036854775807) (r1 : (-9223372036854775808) ≤ x1 ∧ x1 ≤ 9223372036854775807) (r2 : (-9223372036854775808) ≤ x2 ∧ x2 ≤ 9223372036854775807) (r3 : 0 ≤ x3 ∧ x3 ≤ 12) (r4 : 0 ≤ x4 ∧ x4 ≤ 12) (s0 : ∀ q, (-9223372036854775808) ≤ f0 q ∧ f0 q ≤ 9223372036854775807) (s1 : ∀ q, (-9223372036854775808) ≤ f1 q ∧ f1 q ≤ 9223372036854775807) (s2 : ∀ q, (-9223372036854775808) ≤ f2 q ∧ f2 q ≤ 9223372036854775807) {R : Bool → Prop}
  (H : ((((x4 : Int) == x3) = true → (∃ (I5 : Int → Int → Int → Prop) (rk5 : Int → Int → Int → Nat), I5 (0) (0) (0) ∧
    (∀ x5 : Int, ∀ x6 : Int, ∀ x7 : Int, I5 x5 x6 x7 → ((0 ≤ (x5 : Int) ∧ (x5 : Int) ≤ 100000) ∧ (((-9223372036854775808) ≤ (x6 : Int) ∧ (x6 : Int) ≤ 9223372036854775807) ∧ ((0 ≤ (x7 : Int) ∧ (x7 : Int) ≤ 12) ∧ ((decide ((x4 : Int) ≤ x7) = true → R (true)) ∧
     (decide ((x4 : Int) ≤ x7) = false → ((decide ((x3 : Int) ≤ x7) = true → False) ∧
      (decide ((x3 : Int) ≤ x7) = false → ((decide ((IntKind.i64.wrap (1000 * IntKind.i64.wrap ((f1 x7) - x2)) : Int) ≤ (f2 x7)) = true → ((decide (((f2 x7) : Int) ≤ IntKind.i64.wrap (1000 * IntKind.i64.wrap ((f1 x7) + x2))) = true → ((decide ((IntKind.i64.wrap (x6 + IntKind.i64.wrap (IntKind.i64.wrap ((f0 x7) - x5) * x0)) : Int) ≤ (f2 x7)) = true → ((decide (((f2 x7) : Int) ≤ IntKind.i64.wrap (x6 + IntKind.i64.wrap (IntKind.i64.wrap ((f0 x7) - x5) * x1))) = true → (I5 ((f0 x7)) ((f2 x7)) ((x7 + 1)) ∧ rk5 ((f0 x7)) ((f2 x7)) ((x7 + 1)) < rk5 x5 x6 x7)) ∧
          (decide (((f2 x7) : Int) ≤ IntKind.i64.wrap (x6 + IntKind.i64.wrap (IntKind.i64.wrap ((f0 x7) - x5) * x1))) = false → R (false)))) ∧
         (decide ((IntKind.i64.wrap (x6 + IntKind.i64.wrap (IntKind.i64.wrap ((f0 x7) - x5) * x0)) : Int) ≤ (f2 x7)) = false → R (false)))) ∧
        (decide (((f2 x7) : Int) ≤ IntKind.i64.wrap (1000 * IntKind.i64.wrap ((f1 x7) + x2))) = false → R (false)))) ∧
       (decide ((IntKind.i64.wrap (1000 * IntKind.i64.wrap ((f1 x7) - x2)) : Int) ≤ (f2 x7)) = false → R (false))))))))))))) ∧
   (((x4 : Int) == x3) = false → R (false)))) :
    ∃ u0 : Bool, R u0 ∧ Spec Try.prog etalonlaw08_keeps_s ⟨[x0, x1, x2, x3, x4], [], [f0, f1, f2]⟩ [] [u0] [] :=
  Eq.mp (by kernel_rfl) (exV_of (K := fun d => app3 etalonlaw08_keeps_s.out R d ∧ Spec Try.prog etalonlaw08_keeps_s ⟨[x0, x1, x2, x3, x4], [], [f0, f1, f2]⟩ d.1 d.2.1 d.2.2) (tree_at mixed names S1_ok (S := S1 Try.prog) (lf := 100000) (d := 60) etalonlaw08_keeps_s kp_t { ivs := [(0, (-9223372036854775808), 9223372036854775807), (1, (-9223372036854775808), 9223372036854775807), (2, (-9223372036854775808), 9223372036854775807), (3, 0, 12), (4, 0, 12)], aivs := [(0, (-9223372036854775808), 9223372036854775807), (1, (-9223372036854775808), 9223372036854775807), (2, (-9223372036854775808), 9223372036854775807)] } ⟨[x0, x1, x2, x3, x4], [], [f0, f1, f2]⟩ rfl (by kernel_rfl) (by kernel_rfl) (by kernel_rfl) ⟨(fc r0 (fc r1 (fc r2 (fc r3 (fc r4 fz))))), fz, (fc s0 (fc s1 (fc s2 fz))), fz⟩ (R := fun d => app3 etalonlaw08_keeps_s.out R d) (Eq.mp (by kernel_rfl) H)))

def gn_t : Tr :=
  (.call etalonlaw08_awake_s ⟨[], [], []⟩ ⟨[], [(.var 0)], []⟩ ⟨5, [], [], [none, none, none], (.bool (.var 0)), []⟩
  (.ite (.var 0)
  (.ite (.icmp .leq (.var 3) (.lit 12))
   (.ite (.icmp .leq (.var 4) (.lit 12))
    (.call etalonref08_CheckTrack_s ⟨[(.var 0), (.var 1), (.var 2), (.var 3)], [], [(.avar 0), (.avar 1)]⟩ ⟨[(.var 0), (.var 1), (.var 2), (.var 3), (.var 5), (.var 6)], [], [(.avar 0), (.avar 1)]⟩ ⟨11, [(.agg [(.int .i64 (.var 0)), (.int .i64 (.var 1)), (.int .i64 (.var 2)), (.asl 0 (.var 3))])], [0], [(some ⟨[], 77, true, false, (some ⟨(.var 3), [(.int .i64), (.int .i64)], [(.avar 0), (.avar 1)]⟩)⟩), none, none], (.tuple [(.int .i64 (.var 5)), (.int .i64 (.var 6))]), []⟩
     (.ite (.icmp .eql (.var 6) (.lit 0))
     (.call etalonref08_CopyTrack_s ⟨[(.var 0), (.var 1), (.var 2), (.var 3)], [], [(.avar 0), (.avar 1)]⟩ ⟨[(.var 0), (.var 1), (.var 2), (.var 3), (.var 7), (.var 8), (.var 9), (.var 10)], [], [(.avar 0), (.avar 1), (.avar 3), (.avar 4)]⟩ ⟨8, [(.agg [(.int .i64 (.var 0)), (.int .i64 (.var 1)), (.int .i64 (.var 2)), (.asl 0 (.var 3))])], [0], [(some ⟨[], 77, true, false, (some ⟨(.var 3), [(.int .i64), (.int .i64)], [(.avar 0), (.avar 1)]⟩)⟩), none, none], (.agg [(.int .i64 (.var 7)), (.int .i64 (.var 8)), (.int .i64 (.var 9)), (.asl 3 (.var 10))]), [(some ⟨[], 77, false, true, (some ⟨(.var 10), [(.int .i64), (.int .i64)], [(.avar 3), (.avar 4)]⟩)⟩)]⟩
      (.rng 10 0 140737488355328 (.call grow_Tracked_s ⟨[(.var 7), (.var 8), (.var 9), (.var 10)], [], [(.avar 3), (.avar 4)]⟩ ⟨[(.var 7), (.var 8), (.var 9), (.var 10), (.var 11), (.var 12)], [], [(.avar 3), (.avar 4), (.avar 5), (.avar 6)]⟩ ⟨9, [(.agg [(.int .i64 (.var 7)), (.int .i64 (.var 8)), (.int .i64 (.var 9)), (.asl 3 (.var 10))])], [3], [none, none, none, (some ⟨[], 77, false, true, (some ⟨(.var 10), [(.int .i64), (.int .i64)], [(.avar 3), (.avar 4)]⟩)⟩)], (.tuple [(.asl 4 (.var 11)), (.int .i64 (.var 12))]), [(some ⟨[], 23, false, true, (some ⟨(.var 11), [(.int .i64), (.int .i64)], [(.avar 5), (.avar 6)]⟩)⟩)]⟩
      (.rng 11 0 40 (.ite (.icmp .eql (.var 12) (.lit 0))
      (.ite (.icmp .eql (.var 11) (.var 3))
       (.loop ⟨4, [0, 1, 0, 1, 1, 1, 1, 1, 1, 1, 1], [(.agg [(.int .i64 (.var 0)), (.int .i64 (.var 1)), (.int .i64 (.var 2)), (.asl 0 (.var 3))]), (.asl 1 (.var 4)), (.ptr (some ⟨2, 0, none⟩)), (.tuple []), (.bool (.lit false)), (.int .i64 (.var 5)), (.int .i64 (.var 6)), (.asl 4 (.var 11)), (.int .i64 (.var 12)), (.slice none 0 0), (.slice none 0 0), (.int .i64 (.lit 0)), (.tuple []), (.bool (.var 0)), (.bool (.not (.var 0))), (.ptr (some ⟨2, 3, none⟩)), (.asl 0 (.var 3)), (.int .i64 (.var 3)), (.bool (.icmp .gtr (.var 3) (.lit 12))), (.bool (.icmp .gtr (.var 3) (.lit 12))), (.asl 1 (.var 4)), (.int .i64 (.var 4)), (.bool (.icmp .gtr (.var 4) (.lit 12))), (.bool (.icmp .gtr (.var 4) (.lit 12))), (.tuple [(.int .i64 (.var 5)), (.int .i64 (.var 6))]), (.agg [(.int .i64 (.var 0)), (.int .i64 (.var 1)), (.int .i64 (.var 2)), (.asl 0 (.var 3))]), (.tuple [(.int .i64 (.var 5)), (.int .i64 (.var 6))]), (.int .i64 (.var 5)), (.int .i64 (.var 6)), (.int .i64 (.var 6)), (.bool (.icmp .neq (.var 6) (.lit 0))), (.tuple [(.asl 4 (.var 11)), (.int .i64 (.var 12))]), (.agg [(.int .i64 (.var 0)), (.int .i64 (.var 1)), (.int .i64 (.var 2)), (.asl 0 (.var 3))]), (.agg [(.int .i64 (.var 7)), (.int .i64 (.var 8)), (.int .i64 (.var 9)), (.asl 3 (.var 10))]), (.tuple [(.asl 4 (.var 11)), (.int .i64 (.var 12))]), (.asl 4 (.var 11)), (.int .i64 (.var 12)), (.int .i64 (.var 12)), (.bool (.icmp .neq (.var 12) (.lit 0))), (.tuple []), (.tuple []), (.tuple []), (.tuple []), (.tuple []), (.tuple []), (.tuple []), (.tuple []), (.asl 4 (.var 11)), (.int .i64 (.var 11)), (.ptr (some ⟨2, 3, none⟩)), (.asl 0 (.var 3)), (.int .i64 (.var 3)), (.bool (.icmp .neq (.var 11) (.var 3))), (.tuple []), (.tuple []), (.tuple []), (.tuple []), (.tuple []), (.tuple []), (.tuple []), (.tuple []), (.tuple []), (.tuple []), (.tuple []), (.tuple []), (.tuple []), (.tuple []), (.tuple []), (.tuple []), (.tuple []), (.tuple []), (.tuple []), (.tuple []), (.tuple []), (.tuple []), (.tuple []), (.tuple []), (.tuple []), (.tuple []), (.tuple []), (.tuple []), (.tuple []), (.tuple []), (.tuple []), (.tuple []), (.tuple []), (.tuple []), (.tuple []), (.tuple []), (.tuple []), (.tuple []), (.tuple []), (.tuple []), (.tuple []), (.tuple []), (.tuple []), (.tuple []), (.tuple []), (.tuple []), (.tuple []), (.tuple []), (.tuple []), (.tuple []), (.tuple []), (.tuple []), (.tuple []), (.tuple []), (.tuple []), (.tuple []), (.tuple []), (.tuple [])], [(some ⟨[], 77, true, false, (some ⟨(.var 3), [(.int .i64), (.int .i64)], [(.avar 0), (.avar 1)]⟩)⟩), (some ⟨[], 3, true, false, (some ⟨(.var 4), [(.int .i64)], [(.avar 2)]⟩)⟩), (some ⟨[(.int .i64 (.var 0)), (.int .i64 (.var 1)), (.int .i64 (.var 2)), (.asl 0 (.var 3))], 26, false, false, none⟩), (some ⟨[], 77, false, true, (some ⟨(.var 10), [(.int .i64), (.int .i64)], [(.avar 3), (.avar 4)]⟩)⟩), (some ⟨[], 23, false, true, (some ⟨(.var 11), [(.int .i64), (.int .i64)], [(.avar 5), (.avar 6)]⟩)⟩)], [(.gh 9 3 [(.int .i64)]), (.gh 10 3 [(.int .i64)])], [(.agg [(.int .i64 (.var 0)), (.int .i64 (.var 1)), (.int .i64 (.var 2)), (.asl 0 (.var 3))]), (.asl 1 (.var 4)), (.ptr (some ⟨2, 0, none⟩)), (.tuple []), (.bool (.lit false)), (.int .i64 (.var 5)), (.int .i64 (.var 6)), (.asl 4 (.var 11)), (.int .i64 (.var 12)), (.asl 5 (.var 14)), (.asl 6 (.var 15)), (.int .i64 (.var 13)), (.tuple []), (.bool (.var 0)), (.bool (.not (.var 0))), (.ptr (some ⟨2, 3, none⟩)), (.asl 0 (.var 3)), (.int .i64 (.var 3)), (.bool (.icmp .gtr (.var 3) (.lit 12))), (.bool (.icmp .gtr (.var 3) (.lit 12))), (.asl 1 (.var 4)), (.int .i64 (.var 4)), (.bool (.icmp .gtr (.var 4) (.lit 12))), (.bool (.icmp .gtr (.var 4) (.lit 12))), (.tuple [(.int .i64 (.var 5)), (.int .i64 (.var 6))]), (.agg [(.int .i64 (.var 0)), (.int .i64 (.var 1)), (.int .i64 (.var 2)), (.asl 0 (.var 3))]), (.tuple [(.int .i64 (.var 5)), (.int .i64 (.var 6))]), (.int .i64 (.var 5)), (.int .i64 (.var 6)), (.int .i64 (.var 6)), (.bool (.icmp .neq (.var 6) (.lit 0))), (.tuple [(.asl 4 (.var 11)), (.int .i64 (.var 12))]), (.agg [(.int .i64 (.var 0)), (.int .i64 (.var 1)), (.int .i64 (.var 2)), (.asl 0 (.var 3))]), (.agg [(.int .i64 (.var 7)), (.int .i64 (.var 8)), (.int .i64 (.var 9)), (.asl 3 (.var 10))]), (.tuple [(.asl 4 (.var 11)), (.int .i64 (.var 12))]), (.asl 4 (.var 11)), (.int .i64 (.var 12)), (.int .i64 (.var 12)), (.bool (.icmp .neq (.var 12) (.lit 0))), (.tuple []), (.tuple []), (.tuple []), (.tuple []), (.tuple []), (.tuple []), (.tuple []), (.tuple []), (.asl 4 (.var 11)), (.int .i64 (.var 11)), (.ptr (some ⟨2, 3, none⟩)), (.asl 0 (.var 3)), (.int .i64 (.var 3)), (.bool (.icmp .neq (.var 11) (.var 3))), (.any 53), (.any 54), (.any 55), (.any 56), (.any 57), (.any 58), (.any 59), (.any 60), (.any 61), (.any 62), (.any 63), (.any 64), (.any 65), (.any 66), (.any 67), (.any 68), (.any 69), (.any 70), (.any 71), (.any 72), (.any 73), (.any 74), (.tuple []), (.tuple []), (.tuple []), (.tuple []), (.tuple []), (.tuple []), (.tuple []), (.tuple []), (.tuple []), (.tuple []), (.tuple []), (.tuple []), (.tuple []), (.tuple []), (.tuple []), (.tuple []), (.tuple []), (.tuple []), (.tuple []), (.tuple []), (.tuple []), (.tuple []), (.tuple []), (.tuple []), (.tuple []), (.tuple []), (.tuple []), (.tuple []), (.tuple []), (.tuple []), (.tuple []), (.tuple []), (.tuple []), (.tuple []), (.tuple []), (.tuple [])], [(some ⟨[], 77, true, false, (some ⟨(.var 3), [(.int .i64), (.int .i64)], [(.avar 0), (.avar 1)]⟩)⟩), (some ⟨[], 3, true, false, (some ⟨(.var 4), [(.int .i64)], [(.avar 2)]⟩)⟩), (some ⟨[(.int .i64 (.var 0)), (.int .i64 (.var 1)), (.int .i64 (.var 2)), (.asl 0 (.var 3))], 26, false, false, none⟩), (some ⟨[], 77, false, true, (some ⟨(.var 10), [(.int .i64), (.int .i64)], [(.avar 3), (.avar 4)]⟩)⟩), (some ⟨[], 23, false, true, (some ⟨(.var 11), [(.int .i64), (.int .i64)], [(.avar 5), (.avar 6)]⟩)⟩), (some ⟨[], 3, false, true, (some ⟨(.var 14), [(.int .i64)], [(.avar 7)]⟩)⟩), (some ⟨[], 3, false, true, (some ⟨(.var 15), [(.int .i64)], [(.avar 8)]⟩)⟩)], [], ⟨3, 0, 2⟩, ⟨[(.lit 0), (.lit 0), (.lit 0)], [], [(.acst (.lit 0)), (.acst (.lit 0))]⟩, [5, 6]⟩
        (.arng 7 (-9223372036854775808) 9223372036854775807 (.arng 8 (-9223372036854775808) 9223372036854775807 (.rng 13 0 41 (.rng 14 0 41 (.rng 15 0 41 (.ite (.icmp .leq (.var 11) (.var 13))
         (.out 0 ⟨[(.var 14), (.var 15)], [], [(.avar 7), (.avar 8)]⟩ [5, 6])
         (.next ⟨[(.bin .addI (.var 13) (.lit 1)), (.bin .addI (.var 14) (.lit 1)), (.bin .addI (.var 15) (.lit 1))], [], [(.aupd (.avar 7) (.var 14) (.sel (.avar 5) (.var 13))), (.aupd (.avar 8) (.var 15) (.sel (.avar 6) (.var 13)))]⟩ [8, 10])))))))
        (.ex ((.exit 0), [(.agg [(.int .i64 (.var 0)), (.int .i64 (.var 1)), (.int .i64 (.var 2)), (.asl 0 (.var 3))]), (.asl 1 (.var 4)), (.ptr (some ⟨2, 0, none⟩)), (.tuple []), (.bool (.lit false)), (.int .i64 (.var 5)), (.int .i64 (.var 6)), (.asl 4 (.var 11)), (.int .i64 (.var 12)), (.asl 5 (.var 13)), (.asl 6 (.var 14)), (.any 11), (.tuple []), (.bool (.var 0)), (.bool (.not (.var 0))), (.ptr (some ⟨2, 3, none⟩)), (.asl 0 (.var 3)), (.int .i64 (.var 3)), (.bool (.icmp .gtr (.var 3) (.lit 12))), (.bool (.icmp .gtr (.var 3) (.lit 12))), (.asl 1 (.var 4)), (.int .i64 (.var 4)), (.bool (.icmp .gtr (.var 4) (.lit 12))), (.bool (.icmp .gtr (.var 4) (.lit 12))), (.tuple [(.int .i64 (.var 5)), (.int .i64 (.var 6))]), (.agg [(.int .i64 (.var 0)), (.int .i64 (.var 1)), (.int .i64 (.var 2)), (.asl 0 (.var 3))]), (.tuple [(.int .i64 (.var 5)), (.int .i64 (.var 6))]), (.int .i64 (.var 5)), (.int .i64 (.var 6)), (.int .i64 (.var 6)), (.bool (.icmp .neq (.var 6) (.lit 0))), (.tuple [(.asl 4 (.var 11)), (.int .i64 (.var 12))]), (.agg [(.int .i64 (.var 0)), (.int .i64 (.var 1)), (.int .i64 (.var 2)), (.asl 0 (.var 3))]), (.agg [(.int .i64 (.var 7)), (.int .i64 (.var 8)), (.int .i64 (.var 9)), (.asl 3 (.var 10))]), (.tuple [(.asl 4 (.var 11)), (.int .i64 (.var 12))]), (.asl 4 (.var 11)), (.int .i64 (.var 12)), (.int .i64 (.var 12)), (.bool (.icmp .neq (.var 12) (.lit 0))), (.tuple []), (.tuple []), (.tuple []), (.tuple []), (.tuple []), (.tuple []), (.tuple []), (.tuple []), (.asl 4 (.var 11)), (.int .i64 (.var 11)), (.ptr (some ⟨2, 3, none⟩)), (.asl 0 (.var 3)), (.int .i64 (.var 3)), (.bool (.icmp .neq (.var 11) (.var 3))), (.any 53), (.any 54), (.any 55), (.any 56), (.any 57), (.any 58), (.any 59), (.any 60), (.any 61), (.any 62), (.any 63), (.any 64), (.any 65), (.any 66), (.any 67), (.any 68), (.any 69), (.any 70), (.any 71), (.any 72), (.any 73), (.any 74), (.tuple []), (.tuple []), (.tuple []), (.tuple []), (.tuple []), (.tuple []), (.tuple []), (.tuple []), (.tuple []), (.tuple []), (.tuple []), (.tuple []), (.tuple []), (.tuple []), (.tuple []), (.tuple []), (.tuple []), (.tuple []), (.tuple []), (.tuple []), (.tuple []), (.tuple []), (.tuple []), (.tuple []), (.tuple []), (.tuple []), (.tuple []), (.tuple []), (.tuple []), (.tuple []), (.tuple []), (.tuple []), (.tuple []), (.tuple []), (.tuple []), (.tuple [])], [(some ⟨[], 77, true, false, (some ⟨(.var 3), [(.int .i64), (.int .i64)], [(.avar 0), (.avar 1)]⟩)⟩), (some ⟨[], 3, true, false, (some ⟨(.var 4), [(.int .i64)], [(.avar 2)]⟩)⟩), (some ⟨[(.int .i64 (.var 0)), (.int .i64 (.var 1)), (.int .i64 (.var 2)), (.asl 0 (.var 3))], 26, false, false, none⟩), (some ⟨[], 77, false, true, (some ⟨(.var 10), [(.int .i64), (.int .i64)], [(.avar 3), (.avar 4)]⟩)⟩), (some ⟨[], 23, false, true, (some ⟨(.var 11), [(.int .i64), (.int .i64)], [(.avar 5), (.avar 6)]⟩)⟩), (some ⟨[], 3, false, true, (some ⟨(.var 13), [(.int .i64)], [(.avar 7)]⟩)⟩), (some ⟨[], 3, false, true, (some ⟨(.var 14), [(.int .i64)], [(.avar 8)]⟩)⟩)], []) ⟨2, 0, 2⟩
        (.arng 7 (-9223372036854775808) 9223372036854775807 (.arng 8 (-9223372036854775808) 9223372036854775807 (.rng 13 0 140737488355328 (.rng 14 0 140737488355328 (.call etalonlaw08_keeps_s ⟨[(.var 0), (.var 1), (.var 2), (.var 3), (.var 13)], [], [(.avar 0), (.avar 1), (.avar 7)]⟩ ⟨[(.var 0), (.var 1), (.var 2), (.var 3), (.var 13)], [(.var 1)], [(.avar 0), (.avar 1), (.avar 7)]⟩ ⟨15, [(.agg [(.int .i64 (.var 0)), (.int .i64 (.var 1)), (.int .i64 (.var 2)), (.asl 0 (.var 3))]), (.asl 5 (.var 13))], [0, 5], [(some ⟨[], 77, true, false, (some ⟨(.var 3), [(.int .i64), (.int .i64)], [(.avar 0), (.avar 1)]⟩)⟩), none, none, none, none, (some ⟨[], 3, false, true, (some ⟨(.var 13), [(.int .i64)], [(.avar 7)]⟩)⟩), none], (.bool (.var 1)), []⟩
         (.ite (.var 1)
         (.call etalonlaw08_keeps_s ⟨[(.var 0), (.var 1), (.var 2), (.var 3), (.var 14)], [], [(.avar 0), (.avar 1), (.avar 8)]⟩ ⟨[(.var 0), (.var 1), (.var 2), (.var 3), (.var 14)], [(.var 2)], [(.avar 0), (.avar 1), (.avar 8)]⟩ ⟨15, [(.agg [(.int .i64 (.var 0)), (.int .i64 (.var 1)), (.int .i64 (.var 2)), (.asl 0 (.var 3))]), (.asl 6 (.var 14))], [0, 6], [(some ⟨[], 77, true, false, (some ⟨(.var 3), [(.int .i64), (.int .i64)], [(.avar 0), (.avar 1)]⟩)⟩), none, none, none, none, none, (some ⟨[], 3, false, true, (some ⟨(.var 14), [(.int .i64)], [(.avar 8)]⟩)⟩)], (.bool (.var 2)), []⟩
          (.ite (.var 2)
          (.call etalonlaw08_keeps_s ⟨[(.var 0), (.var 1), (.var 2), (.var 3), (.var 4)], [], [(.avar 0), (.avar 1), (.avar 2)]⟩ ⟨[(.var 0), (.var 1), (.var 2), (.var 3), (.var 4)], [(.var 3)], [(.avar 0), (.avar 1), (.avar 2)]⟩ ⟨15, [(.agg [(.int .i64 (.var 0)), (.int .i64 (.var 1)), (.int .i64 (.var 2)), (.asl 0 (.var 3))]), (.asl 1 (.var 4))], [0, 1], [(some ⟨[], 77, true, false, (some ⟨(.var 3), [(.int .i64), (.int .i64)], [(.avar 0), (.avar 1)]⟩)⟩), (some ⟨[], 3, true, false, (some ⟨(.var 4), [(.int .i64)], [(.avar 2)]⟩)⟩), none, none, none, none, none], (.bool (.var 3)), []⟩
           (.ite (.var 3)
           (.loop ⟨4, [0, 1, 0, 1, 1, 1, 1, 1, 1, 1, 1, 1, 1, 1], [(.agg [(.int .i64 (.var 0)), (.int .i64 (.var 1)), (.int .i64 (.var 2)), (.asl 0 (.var 3))]), (.asl 1 (.var 4)), (.ptr (some ⟨2, 0, none⟩)), (.tuple []), (.bool (.lit false)), (.int .i64 (.var 5)), (.int .i64 (.var 6)), (.asl 4 (.var 11)), (.int .i64 (.var 12)), (.asl 5 (.var 13)), (.asl 6 (.var 14)), (.any 11), (.int .i64 (.lit 0)), (.bool (.var 0)), (.bool (.not (.var 0))), (.ptr (some ⟨2, 3, none⟩)), (.asl 0 (.var 3)), (.int .i64 (.var 3)), (.bool (.icmp .gtr (.var 3) (.lit 12))), (.bool (.icmp .gtr (.var 3) (.lit 12))), (.asl 1 (.var 4)), (.int .i64 (.var 4)), (.bool (.icmp .gtr (.var 4) (.lit 12))), (.bool (.icmp .gtr (.var 4) (.lit 12))), (.tuple [(.int .i64 (.var 5)), (.int .i64 (.var 6))]), (.agg [(.int .i64 (.var 0)), (.int .i64 (.var 1)), (.int .i64 (.var 2)), (.asl 0 (.var 3))]), (.tuple [(.int .i64 (.var 5)), (.int .i64 (.var 6))]), (.int .i64 (.var 5)), (.int .i64 (.var 6)), (.int .i64 (.var 6)), (.bool (.icmp .neq (.var 6) (.lit 0))), (.tuple [(.asl 4 (.var 11)), (.int .i64 (.var 12))]), (.agg [(.int .i64 (.var 0)), (.int .i64 (.var 1)), (.int .i64 (.var 2)), (.asl 0 (.var 3))]), (.agg [(.int .i64 (.var 7)), (.int .i64 (.var 8)), (.int .i64 (.var 9)), (.asl 3 (.var 10))]), (.tuple [(.asl 4 (.var 11)), (.int .i64 (.var 12))]), (.asl 4 (.var 11)), (.int .i64 (.var 12)), (.int .i64 (.var 12)), (.bool (.icmp .neq (.var 12) (.lit 0))), (.tuple []), (.tuple []), (.tuple []), (.tuple []), (.tuple []), (.tuple []), (.tuple []), (.tuple []), (.asl 4 (.var 11)), (.int .i64 (.var 11)), (.ptr (some ⟨2, 3, none⟩)), (.asl 0 (.var 3)), (.int .i64 (.var 3)), (.bool (.icmp .neq (.var 11) (.var 3))), (.any 53), (.any 54), (.any 55), (.any 56), (.any 57), (.any 58), (.any 59), (.any 60), (.any 61), (.any 62), (.any 63), (.any 64), (.any 65), (.any 66), (.any 67), (.any 68), (.any 69), (.any 70), (.any 71), (.any 72), (.any 73), (.any 74), (.agg [(.int .i64 (.var 0)), (.int .i64 (.var 1)), (.int .i64 (.var 2)), (.asl 0 (.var 3))]), (.asl 5 (.var 13)), (.bool (.var 1)), (.bool (.not (.var 1))), (.bool (.not (.var 1))), (.agg [(.int .i64 (.var 0)), (.int .i64 (.var 1)), (.int .i64 (.var 2)), (.asl 0 (.var 3))]), (.asl 6 (.var 14)), (.bool (.var 2)), (.bool (.not (.var 2))), (.bool (.not (.var 2))), (.agg [(.int .i64 (.var 0)), (.int .i64 (.var 1)), (.int .i64 (.var 2)), (.asl 0 (.var 3))]), (.asl 1 (.var 4)), (.bool (.var 3)), (.bool (.not (.var 3))), (.tuple []), (.tuple []), (.tuple []), (.tuple []), (.tuple []), (.tuple []), (.tuple []), (.tuple []), (.tuple []), (.tuple []), (.tuple []), (.tuple []), (.tuple []), (.tuple []), (.tuple []), (.tuple []), (.tuple []), (.tuple []), (.tuple []), (.tuple []), (.tuple []), (.tuple [])], [(some ⟨[], 77, true, false, (some ⟨(.var 3), [(.int .i64), (.int .i64)], [(.avar 0), (.avar 1)]⟩)⟩), (some ⟨[], 3, true, false, (some ⟨(.var 4), [(.int .i64)], [(.avar 2)]⟩)⟩), (some ⟨[(.int .i64 (.var 0)), (.int .i64 (.var 1)), (.int .i64 (.var 2)), (.asl 0 (.var 3))], 26, false, false, none⟩), (some ⟨[], 77, false, true, (some ⟨(.var 10), [(.int .i64), (.int .i64)], [(.avar 3), (.avar 4)]⟩)⟩), (some ⟨[], 23, false, true, (some ⟨(.var 11), [(.int .i64), (.int .i64)], [(.avar 5), (.avar 6)]⟩)⟩), (some ⟨[], 3, false, true, (some ⟨(.var 13), [(.int .i64)], [(.avar 7)]⟩)⟩), (some ⟨[], 3, false, true, (some ⟨(.var 14), [(.int .i64)], [(.avar 8)]⟩)⟩)], [], [(.agg [(.int .i64 (.var 0)), (.int .i64 (.var 1)), (.int .i64 (.var 2)), (.asl 0 (.var 3))]), (.asl 1 (.var 4)), (.ptr (some ⟨2, 0, none⟩)), (.tuple []), (.bool (.lit false)), (.int .i64 (.var 5)), (.int .i64 (.var 6)), (.asl 4 (.var 11)), (.int .i64 (.var 12)), (.asl 5 (.var 13)), (.asl 6 (.var 14)), (.any 11), (.int .i64 (.var 15)), (.bool (.var 0)), (.bool (.not (.var 0))), (.ptr (some ⟨2, 3, none⟩)), (.asl 0 (.var 3)), (.int .i64 (.var 3)), (.bool (.icmp .gtr (.var 3) (.lit 12))), (.bool (.icmp .gtr (.var 3) (.lit 12))), (.asl 1 (.var 4)), (.int .i64 (.var 4)), (.bool (.icmp .gtr (.var 4) (.lit 12))), (.bool (.icmp .gtr (.var 4) (.lit 12))), (.tuple [(.int .i64 (.var 5)), (.int .i64 (.var 6))]), (.agg [(.int .i64 (.var 0)), (.int .i64 (.var 1)), (.int .i64 (.var 2)), (.asl 0 (.var 3))]), (.tuple [(.int .i64 (.var 5)), (.int .i64 (.var 6))]), (.int .i64 (.var 5)), (.int .i64 (.var 6)), (.int .i64 (.var 6)), (.bool (.icmp .neq (.var 6) (.lit 0))), (.tuple [(.asl 4 (.var 11)), (.int .i64 (.var 12))]), (.agg [(.int .i64 (.var 0)), (.int .i64 (.var 1)), (.int .i64 (.var 2)), (.asl 0 (.var 3))]), (.agg [(.int .i64 (.var 7)), (.int .i64 (.var 8)), (.int .i64 (.var 9)), (.asl 3 (.var 10))]), (.tuple [(.asl 4 (.var 11)), (.int .i64 (.var 12))]), (.asl 4 (.var 11)), (.int .i64 (.var 12)), (.int .i64 (.var 12)), (.bool (.icmp .neq (.var 12) (.lit 0))), (.tuple []), (.tuple []), (.tuple []), (.tuple []), (.tuple []), (.tuple []), (.tuple []), (.tuple []), (.asl 4 (.var 11)), (.int .i64 (.var 11)), (.ptr (some ⟨2, 3, none⟩)), (.asl 0 (.var 3)), (.int .i64 (.var 3)), (.bool (.icmp .neq (.var 11) (.var 3))), (.any 53), (.any 54), (.any 55), (.any 56), (.any 57), (.any 58), (.any 59), (.any 60), (.any 61), (.any 62), (.any 63), (.any 64), (.any 65), (.any 66), (.any 67), (.any 68), (.any 69), (.any 70), (.any 71), (.any 72), (.any 73), (.any 74), (.agg [(.int .i64 (.var 0)), (.int .i64 (.var 1)), (.int .i64 (.var 2)), (.asl 0 (.var 3))]), (.asl 5 (.var 13)), (.bool (.var 1)), (.bool (.not (.var 1))), (.bool (.not (.var 1))), (.agg [(.int .i64 (.var 0)), (.int .i64 (.var 1)), (.int .i64 (.var 2)), (.asl 0 (.var 3))]), (.asl 6 (.var 14)), (.bool (.var 2)), (.bool (.not (.var 2))), (.bool (.not (.var 2))), (.agg [(.int .i64 (.var 0)), (.int .i64 (.var 1)), (.int .i64 (.var 2)), (.asl 0 (.var 3))]), (.asl 1 (.var 4)), (.bool (.var 3)), (.bool (.not (.var 3))), (.any 89), (.any 90), (.any 91), (.any 92), (.any 93), (.any 94), (.any 95), (.any 96), (.any 97), (.any 98), (.any 99), (.any 100), (.any 101), (.any 102), (.any 103), (.any 104), (.any 105), (.any 106), (.any 107), (.any 108), (.any 109), (.any 110)], [(some ⟨[], 77, true, false, (some ⟨(.var 3), [(.int .i64), (.int .i64)], [(.avar 0), (.avar 1)]⟩)⟩), (some ⟨[], 3, true, false, (some ⟨(.var 4), [(.int .i64)], [(.avar 2)]⟩)⟩), (some ⟨[(.int .i64 (.var 0)), (.int .i64 (.var 1)), (.int .i64 (.var 2)), (.asl 0 (.var 3))], 26, false, false, none⟩), (some ⟨[], 77, false, true, (some ⟨(.var 10), [(.int .i64), (.int .i64)], [(.avar 3), (.avar 4)]⟩)⟩), (some ⟨[], 23, false, true, (some ⟨(.var 11), [(.int .i64), (.int .i64)], [(.avar 5), (.avar 6)]⟩)⟩), (some ⟨[], 3, false, true, (some ⟨(.var 13), [(.int .i64)], [(.avar 7)]⟩)⟩), (some ⟨[], 3, false, true, (some ⟨(.var 14), [(.int .i64)], [(.avar 8)]⟩)⟩)], [], ⟨1, 0, 0⟩, ⟨[(.lit 0)], [], []⟩, []⟩
            (.rng 15 0 41 (.ite (.icmp .leq (.var 11) (.var 15))
             (.out 1 ⟨[], [], []⟩ [])
             (.ite (.icmp .leq (.var 4) (.var 15))
              .nil
              (.ite (.icmp .leq (.sel (.avar 5) (.var 15)) (.sel (.avar 2) (.var 15)))
               (.ite (.icmp .leq (.sel (.avar 2) (.var 15)) (.sel (.avar 6) (.var 15)))
                (.next ⟨[(.bin .addI (.var 15) (.lit 1))], [], []⟩ [])
                (.out 0 ⟨[], [], []⟩ []))
               (.out 0 ⟨[], [], []⟩ [])))))
            (.ex (.ret, [(.agg [(.int .i64 (.var 0)), (.int .i64 (.var 1)), (.int .i64 (.var 2)), (.asl 0 (.var 3))]), (.asl 1 (.var 4)), (.ptr (some ⟨2, 0, none⟩)), (.tuple []), (.bool (.lit false)), (.int .i64 (.var 5)), (.int .i64 (.var 6)), (.asl 4 (.var 11)), (.int .i64 (.var 12)), (.asl 5 (.var 13)), (.asl 6 (.var 14)), (.any 11), (.any 12), (.bool (.var 0)), (.bool (.not (.var 0))), (.ptr (some ⟨2, 3, none⟩)), (.asl 0 (.var 3)), (.int .i64 (.var 3)), (.bool (.icmp .gtr (.var 3) (.lit 12))), (.bool (.icmp .gtr (.var 3) (.lit 12))), (.asl 1 (.var 4)), (.int .i64 (.var 4)), (.bool (.icmp .gtr (.var 4) (.lit 12))), (.bool (.icmp .gtr (.var 4) (.lit 12))), (.tuple [(.int .i64 (.var 5)), (.int .i64 (.var 6))]), (.agg [(.int .i64 (.var 0)), (.int .i64 (.var 1)), (.int .i64 (.var 2)), (.asl 0 (.var 3))]), (.tuple [(.int .i64 (.var 5)), (.int .i64 (.var 6))]), (.int .i64 (.var 5)), (.int .i64 (.var 6)), (.int .i64 (.var 6)), (.bool (.icmp .neq (.var 6) (.lit 0))), (.tuple [(.asl 4 (.var 11)), (.int .i64 (.var 12))]), (.agg [(.int .i64 (.var 0)), (.int .i64 (.var 1)), (.int .i64 (.var 2)), (.asl 0 (.var 3))]), (.agg [(.int .i64 (.var 7)), (.int .i64 (.var 8)), (.int .i64 (.var 9)), (.asl 3 (.var 10))]), (.tuple [(.asl 4 (.var 11)), (.int .i64 (.var 12))]), (.asl 4 (.var 11)), (.int .i64 (.var 12)), (.int .i64 (.var 12)), (.bool (.icmp .neq (.var 12) (.lit 0))), (.tuple []), (.tuple []), (.tuple []), (.tuple []), (.tuple []), (.tuple []), (.tuple []), (.tuple []), (.asl 4 (.var 11)), (.int .i64 (.var 11)), (.ptr (some ⟨2, 3, none⟩)), (.asl 0 (.var 3)), (.int .i64 (.var 3)), (.bool (.icmp .neq (.var 11) (.var 3))), (.any 53), (.any 54), (.any 55), (.any 56), (.any 57), (.any 58), (.any 59), (.any 60), (.any 61), (.any 62), (.any 63), (.any 64), (.any 65), (.any 66), (.any 67), (.any 68), (.any 69), (.any 70), (.any 71), (.any 72), (.any 73), (.any 74), (.agg [(.int .i64 (.var 0)), (.int .i64 (.var 1)), (.int .i64 (.var 2)), (.asl 0 (.var 3))]), (.asl 5 (.var 13)), (.bool (.var 1)), (.bool (.not (.var 1))), (.bool (.not (.var 1))), (.agg [(.int .i64 (.var 0)), (.int .i64 (.var 1)), (.int .i64 (.var 2)), (.asl 0 (.var 3))]), (.asl 6 (.var 14)), (.bool (.var 2)), (.bool (.not (.var 2))), (.bool (.not (.var 2))), (.agg [(.int .i64 (.var 0)), (.int .i64 (.var 1)), (.int .i64 (.var 2)), (.asl 0 (.var 3))]), (.asl 1 (.var 4)), (.bool (.var 3)), (.bool (.not (.var 3))), (.any 89), (.any 90), (.any 91), (.any 92), (.any 93), (.any 94), (.any 95), (.any 96), (.any 97), (.any 98), (.any 99), (.any 100), (.any 101), (.any 102), (.any 103), (.any 104), (.any 105), (.any 106), (.any 107), (.any 108), (.any 109), (.any 110)], [(some ⟨[], 77, true, false, (some ⟨(.var 3), [(.int .i64), (.int .i64)], [(.avar 0), (.avar 1)]⟩)⟩), (some ⟨[], 3, true, false, (some ⟨(.var 4), [(.int .i64)], [(.avar 2)]⟩)⟩), (some ⟨[(.int .i64 (.var 0)), (.int .i64 (.var 1)), (.int .i64 (.var 2)), (.asl 0 (.var 3))], 26, false, false, none⟩), (some ⟨[], 77, false, true, (some ⟨(.var 10), [(.int .i64), (.int .i64)], [(.avar 3), (.avar 4)]⟩)⟩), (some ⟨[], 23, false, true, (some ⟨(.var 11), [(.int .i64), (.int .i64)], [(.avar 5), (.avar 6)]⟩)⟩), (some ⟨[], 3, false, true, (some ⟨(.var 13), [(.int .i64)], [(.avar 7)]⟩)⟩), (some ⟨[], 3, false, true, (some ⟨(.var 14), [(.int .i64)], [(.avar 8)]⟩)⟩)], []) ⟨0, 0, 0⟩
            (.ret ⟨[], [(.lit false)], []⟩ [])
            (.ex ((.exit 2), [(.agg [(.int .i64 (.var 0)), (.int .i64 (.var 1)), (.int .i64 (.var 2)), (.asl 0 (.var 3))]), (.asl 1 (.var 4)), (.ptr (some ⟨2, 0, none⟩)), (.tuple []), (.bool (.lit false)), (.int .i64 (.var 5)), (.int .i64 (.var 6)), (.asl 4 (.var 11)), (.int .i64 (.var 12)), (.asl 5 (.var 13)), (.asl 6 (.var 14)), (.any 11), (.any 12), (.bool (.var 0)), (.bool (.not (.var 0))), (.ptr (some ⟨2, 3, none⟩)), (.asl 0 (.var 3)), (.int .i64 (.var 3)), (.bool (.icmp .gtr (.var 3) (.lit 12))), (.bool (.icmp .gtr (.var 3) (.lit 12))), (.asl 1 (.var 4)), (.int .i64 (.var 4)), (.bool (.icmp .gtr (.var 4) (.lit 12))), (.bool (.icmp .gtr (.var 4) (.lit 12))), (.tuple [(.int .i64 (.var 5)), (.int .i64 (.var 6))]), (.agg [(.int .i64 (.var 0)), (.int .i64 (.var 1)), (.int .i64 (.var 2)), (.asl 0 (.var 3))]), (.tuple [(.int .i64 (.var 5)), (.int .i64 (.var 6))]), (.int .i64 (.var 5)), (.int .i64 (.var 6)), (.int .i64 (.var 6)), (.bool (.icmp .neq (.var 6) (.lit 0))), (.tuple [(.asl 4 (.var 11)), (.int .i64 (.var 12))]), (.agg [(.int .i64 (.var 0)), (.int .i64 (.var 1)), (.int .i64 (.var 2)), (.asl 0 (.var 3))]), (.agg [(.int .i64 (.var 7)), (.int .i64 (.var 8)), (.int .i64 (.var 9)), (.asl 3 (.var 10))]), (.tuple [(.asl 4 (.var 11)), (.int .i64 (.var 12))]), (.asl 4 (.var 11)), (.int .i64 (.var 12)), (.int .i64 (.var 12)), (.bool (.icmp .neq (.var 12) (.lit 0))), (.tuple []), (.tuple []), (.tuple []), (.tuple []), (.tuple []), (.tuple []), (.tuple []), (.tuple []), (.asl 4 (.var 11)), (.int .i64 (.var 11)), (.ptr (some ⟨2, 3, none⟩)), (.asl 0 (.var 3)), (.int .i64 (.var 3)), (.bool (.icmp .neq (.var 11) (.var 3))), (.any 53), (.any 54), (.any 55), (.any 56), (.any 57), (.any 58), (.any 59), (.any 60), (.any 61), (.any 62), (.any 63), (.any 64), (.any 65), (.any 66), (.any 67), (.any 68), (.any 69), (.any 70), (.any 71), (.any 72), (.any 73), (.any 74), (.agg [(.int .i64 (.var 0)), (.int .i64 (.var 1)), (.int .i64 (.var 2)), (.asl 0 (.var 3))]), (.asl 5 (.var 13)), (.bool (.var 1)), (.bool (.not (.var 1))), (.bool (.not (.var 1))), (.agg [(.int .i64 (.var 0)), (.int .i64 (.var 1)), (.int .i64 (.var 2)), (.asl 0 (.var 3))]), (.asl 6 (.var 14)), (.bool (.var 2)), (.bool (.not (.var 2))), (.bool (.not (.var 2))), (.agg [(.int .i64 (.var 0)), (.int .i64 (.var 1)), (.int .i64 (.var 2)), (.asl 0 (.var 3))]), (.asl 1 (.var 4)), (.bool (.var 3)), (.bool (.not (.var 3))), (.any 89), (.any 90), (.any 91), (.any 92), (.any 93), (.any 94), (.any 95), (.any 96), (.any 97), (.any 98), (.any 99), (.any 100), (.any 101), (.any 102), (.any 103), (.any 104), (.any 105), (.any 106), (.any 107), (.any 108), (.any 109), (.any 110)], [(some ⟨[], 77, true, false, (some ⟨(.var 3), [(.int .i64), (.int .i64)], [(.avar 0), (.avar 1)]⟩)⟩), (some ⟨[], 3, true, false, (some ⟨(.var 4), [(.int .i64)], [(.avar 2)]⟩)⟩), (some ⟨[(.int .i64 (.var 0)), (.int .i64 (.var 1)), (.int .i64 (.var 2)), (.asl 0 (.var 3))], 26, false, false, none⟩), (some ⟨[], 77, false, true, (some ⟨(.var 10), [(.int .i64), (.int .i64)], [(.avar 3), (.avar 4)]⟩)⟩), (some ⟨[], 23, false, true, (some ⟨(.var 11), [(.int .i64), (.int .i64)], [(.avar 5), (.avar 6)]⟩)⟩), (some ⟨[], 3, false, true, (some ⟨(.var 13), [(.int .i64)], [(.avar 7)]⟩)⟩), (some ⟨[], 3, false, true, (some ⟨(.var 14), [(.int .i64)], [(.avar 8)]⟩)⟩)], []) ⟨0, 0, 0⟩
            (.ret ⟨[], [(.lit true)], []⟩ [])
            .nil)))
           (.ret ⟨[], [(.lit true)], []⟩ [])))
          (.ret ⟨[], [(.lit false)], []⟩ [])))
         (.ret ⟨[], [(.lit false)], []⟩ [])))))))
        .nil))
       (.ret ⟨[], [(.lit false)], []⟩ []))
      (.ite (.icmp .eql (.var 12) (.lit 17))
       (.call etalonlaw08_keeps_s ⟨[(.var 0), (.var 1), (.var 2), (.var 3), (.var 4)], [], [(.avar 0), (.avar 1), (.avar 2)]⟩ ⟨[(.var 0), (.var 1), (.var 2), (.var 3), (.var 4)], [(.var 1)], [(.avar 0), (.avar 1), (.avar 2)]⟩ ⟨15, [(.agg [(.int .i64 (.var 0)), (.int .i64 (.var 1)), (.int .i64 (.var 2)), (.asl 0 (.var 3))]), (.asl 1 (.var 4))], [0, 1], [(some ⟨[], 77, true, false, (some ⟨(.var 3), [(.int .i64), (.int .i64)], [(.avar 0), (.avar 1)]⟩)⟩), (some ⟨[], 3, true, false, (some ⟨(.var 4), [(.int .i64)], [(.avar 2)]⟩)⟩), none, none, none], (.bool (.var 1)), []⟩
        (.ret ⟨[], [(.not (.var 1))], []⟩ []))
       (.ret ⟨[], [(.lit false)], []⟩ [])))))))
     (.ret ⟨[], [(.lit true)], []⟩ [])))
    (.ret ⟨[], [(.lit true)], []⟩ []))
   (.ret ⟨[], [(.lit true)], []⟩ []))
  (.ret ⟨[], [(.lit false)], []⟩ [])))
theorem gn {x0 x1 x2 x3 x4 : Int} {f0 f1 f2 : Int → Int} (r0 : (-9223372036854775808) ≤ x0 ∧ x0 ≤ 9223372036854775807) (r1 : (-9223372036854775808) ≤ x1 ∧ x1 ≤ 9223372036854775807) (r2 : (-9223372036854775808) ≤ x2 ∧ x2 ≤ 9223372036854775807) (r3 : 0 ≤ x3 ∧ x3 ≤ 9223372036854775807) (r4 : 0 ≤ x4 ∧ x4 ≤ 9223372036854775807) (s0 : ∀ q, (-9223372036854775808) ≤ f0 q ∧ f0 q ≤ 9223372036854775807) (s1 : ∀ q, (-9223372036854775808) ≤ f1 q ∧ f1 q ≤ 9223372036854775807) (s2 : ∀ q, (-9223372036854775808) ≤ f2 q ∧ f2 q ≤ 9223372036854775807) {R : Bool → Prop}
  (H : (∃ u0 : Bool, Spec Try.prog etalonlaw08_awake_s ⟨[], [], []⟩ [] [u0] [] ∧
   ((u0 = true → ((decide ((x3 : Int) ≤ 12) = true → ((decide ((x4 : Int) ≤ 12) = true → (∃ v5 : Int, ∃ v6 : Int, Spec Try.prog etalonref08_CheckTrack_s ⟨[x0, x1, x2, x3], [], [f0, f1]⟩ [v5, v6] [] [] ∧
      ((((v6 : Int) == 0) = true → (∃ v7 : Int, ∃ v8 : Int, ∃ v9 : Int, ∃ v10 : Int, ∃ g3 : Int → Int, ∃ g4 : Int → Int, Spec Try.prog etalonref08_CopyTrack_s ⟨[x0, x1, x2, x3], [], [f0, f1]⟩ [v7, v8, v9, v10] [] [g3, g4] ∧
       ((0 ≤ (v10 : Int) ∧ (v10 : Int) ≤ 140737488355328) ∧ (∃ v11 : Int, ∃ v12 : Int, ∃ g5 : Int → Int, ∃ g6 : Int → Int, Spec Try.prog grow_Tracked_s ⟨[v7, v8, v9, v10], [], [g3, g4]⟩ [v11, v12] [] [g5, g6] ∧
       ((0 ≤ (v11 : Int) ∧ (v11 : Int) ≤ 40) ∧ ((((v12 : Int) == 0) = true → ((((v11 : Int) == x3) = true → (∃ (I13 : Int → Int → Int → (Int → Int) → (Int → Int) → Prop) (rk13 : Int → Int → Int → (Int → Int) → (Int → Int) → Nat), I13 (0) (0) (0) ((fun _ => 0)) ((fun _ => 0)) ∧
         (∀ x13 : Int, ∀ x14 : Int, ∀ x15 : Int, ∀ f7 : Int → Int, ∀ f8 : Int → Int, I13 x13 x14 x15 f7 f8 → ((∀ q, (-9223372036854775808) ≤ f7 q ∧ f7 q ≤ 9223372036854775807) ∧ ((∀ q, (-9223372036854775808) ≤ f8 q ∧ f8 q ≤ 9223372036854775807) ∧ ((0 ≤ (x13 : Int) ∧ (x13 : Int) ≤ 41) ∧ ((0 ≤ (x14 : Int) ∧ (x14 : Int) ≤ 41) ∧ ((0 ≤ (x15 : Int) ∧ (x15 : Int) ≤ 41) ∧ ((decide ((v11 : Int) ≤ x13) = true → ((∀ q, (-9223372036854775808) ≤ f7 q ∧ f7 q ≤ 9223372036854775807) ∧ ((∀ q, (-9223372036854775808) ≤ f8 q ∧ f8 q ≤ 9223372036854775807) ∧ ((0 ≤ ((x14) : Int) ∧ ((x14) : Int) ≤ 140737488355328) ∧ ((0 ≤ ((x15) : Int) ∧ ((x15) : Int) ≤ 140737488355328) ∧ (∃ u1' : Bool, Spec Try.prog etalonlaw08_keeps_s ⟨[x0, x1, x2, x3, (x14)], [], [f0, f1, f7]⟩ [] [u1'] [] ∧
          ((u1' = true → (∃ u2' : Bool, Spec Try.prog etalonlaw08_keeps_s ⟨[x0, x1, x2, x3, (x15)], [], [f0, f1, f8]⟩ [] [u2'] [] ∧
           ((u2' = true → (∃ u3' : Bool, Spec Try.prog etalonlaw08_keeps_s ⟨[x0, x1, x2, x3, x4], [], [f0, f1, f2]⟩ [] [u3'] [] ∧
            ((u3' = true → (∃ (I15' : Int → Prop) (rk15' : Int → Nat), I15' (0) ∧
             (∀ x15' : Int, I15' x15' → ((0 ≤ (x15' : Int) ∧ (x15' : Int) ≤ 41) ∧ ((decide ((v11 : Int) ≤ x15') = true → R (true)) ∧
              (decide ((v11 : Int) ≤ x15') = false → ((decide ((x4 : Int) ≤ x15') = true → False) ∧
               (decide ((x4 : Int) ≤ x15') = false → ((decide (((g5 x15') : Int) ≤ (f2 x15')) = true → ((decide (((f2 x15') : Int) ≤ (g6 x15')) = true → (I15' ((x15' + 1)) ∧ rk15' ((x15' + 1)) < rk15' x15')) ∧
                 (decide (((f2 x15') : Int) ≤ (g6 x15')) = false → R (false)))) ∧
                (decide (((g5 x15') : Int) ≤ (f2 x15')) = false → R (false))))))))))) ∧
            (u3' = false → R (true))))) ∧
           (u2' = false → R (false))))) ∧
          (u1' = false → R (false))))))))) ∧
          (decide ((v11 : Int) ≤ x13) = false → (I13 ((x13 + 1)) ((x14 + 1)) ((x15 + 1)) ((fun q => if q = x14 then (g5 x13) else f7 q)) ((fun q => if q = x15 then (g6 x13) else f8 q)) ∧ rk13 ((x13 + 1)) ((x14 + 1)) ((x15 + 1)) ((fun q => if q = x14 then (g5 x13) else f7 q)) ((fun q => if q = x15 then (g6 x13) else f8 q)) < rk13 x13 x14 x15 f7 f8))))))))))) ∧
        (((v11 : Int) == x3) = false → R (false)))) ∧
       (((v12 : Int) == 0) = false → ((((v12 : Int) == 17) = true → (∃ u1 : Bool, Spec Try.prog etalonlaw08_keeps_s ⟨[x0, x1, x2, x3, x4], [], [f0, f1, f2]⟩ [] [u1] [] ∧
         R ((!u1)))) ∧
        (((v12 : Int) == 17) = false → R (false)))))))))) ∧
      (((v6 : Int) == 0) = false → R (true))))) ∧
     (decide ((x4 : Int) ≤ 12) = false → R (true)))) ∧
    (decide ((x3 : Int) ≤ 12) = false → R (true)))) ∧
   (u0 = false → R (false))))) :
    ∃ u0 : Bool, R u0 ∧ Spec Try.prog etalonlaw08_GrowNarrowest_s ⟨[x0, x1, x2, x3, x4], [], [f0, f1, f2]⟩ [] [u0] [] :=
  Eq.mp (by kernel_rfl) (exV_of (K := fun d => app3 etalonlaw08_GrowNarrowest_s.out R d ∧ Spec Try.prog etalonlaw08_GrowNarrowest_s ⟨[x0, x1, x2, x3, x4], [], [f0, f1, f2]⟩ d.1 d.2.1 d.2.2) (tree_at mixed names S1_ok (S := S1 Try.prog) (lf := 100000) (d := 60) etalonlaw08_GrowNarrowest_s gn_t { ivs := [(0, (-9223372036854775808), 9223372036854775807), (1, (-9223372036854775808), 9223372036854775807), (2, (-9223372036854775808), 9223372036854775807), (3, 0, 9223372036854775807), (4, 0, 9223372036854775807)], aivs := [(0, (-9223372036854775808), 9223372036854775807), (1, (-9223372036854775808), 9223372036854775807), (2, (-9223372036854775808), 9223372036854775807)] } ⟨[x0, x1, x2, x3, x4], [], [f0, f1, f2]⟩ rfl (by kernel_rfl) (by kernel_rfl) (by kernel_rfl) ⟨(fc r0 (fc r1 (fc r2 (fc r3 (fc r4 fz))))), fz, (fc s0 (fc s1 (fc s2 fz))), fz⟩ (R := fun d => app3 etalonlaw08_GrowNarrowest_s.out R d) (Eq.mp (by kernel_rfl) H)))

theorem copyTrack {x0 x1 x2 x3 : Int} {f0 f1 : Int → Int} (r0 : I64 x0) (r1 : I64 x1) (r2 : I64 x2) (r3 : 0 ≤ x3 ∧ x3 ≤ 40) (s0 : ∀ q, I64 (f0 q)) (s1 : ∀ q, I64 (f1 q)) :

    Spec Try.prog etalonref08_CopyTrack_s ⟨[x0, x1, x2, x3], [], [f0, f1]⟩ [x0, x1, x2, x3] [] [f0, f1] := by

  obtain ⟨v0, v1, v2, v3, g0, g1, ⟨rfl, rfl, rfl, rfl, rfl, rfl⟩, hs⟩ := ctk r0 r1 r2 r3 s0 s1 (R := fun a b c d g h => a = x0 ∧ b = x1 ∧ c = x2 ∧ d = x3 ∧ g = f0 ∧ h = f1) ⟨rfl, rfl, rfl, rfl, rfl, rfl⟩

  exact hs

def keepsR (x0 x1 x2 x3 x4 : Int) (f0 f1 f2 : Int → Int) (b : Bool) : Prop := b = true ↔ x4 = x3 ∧ KeptR x0 x1 x2 x3 f0 f1 (up f2)

theorem keeps {x0 x1 x2 x3 x4 : Int} {f0 f1 f2 : Int → Int} (r0 : I64 x0) (r1 : I64 x1) (r2 : I64 x2) (r3 : 0 ≤ x3 ∧ x3 ≤ 12) (r4 : 0 ≤ x4 ∧ x4 ≤ 12) (s0 : ∀ q, I64 (f0 q)) (s1 : ∀ q, I64 (f1 q)) (s2 : ∀ q, I64 (f2 q)) (hg : trackIs x0 x1 x2 x3 f0 f1 0 0) :

    ∃ b : Bool, keepsR x0 x1 x2 x3 x4 f0 f1 f2 b ∧ Spec Try.prog etalonlaw08_keeps_s ⟨[x0, x1, x2, x3, x4], [], [f0, f1, f2]⟩ [] [b] [] := by

  obtain ⟨⟨ha1, hab, hb1⟩, hx2, hx3, good⟩ := fine hg

  refine kp r0 r1 r2 r3 r4 s0 s1 s2 (R := keepsR x0 x1 x2 x3 x4 f0 f1 f2) ?_

  simp only [decide_eq_true_eq, decide_eq_false_iff_not, beq_iff_eq, beq_eq_false_iff_ne, ne_eq]

  refine ⟨fun he => ?_, fun he => (show false = true ↔ x4 = x3 ∧ KeptR x0 x1 x2 x3 f0 f1 (up f2) from ⟨fun h => absurd h (by decide), fun h => absurd h.1 he⟩)⟩

  subst he

  refine ⟨fun s t i => (0 ≤ i ∧ i ≤ x4) ∧ s = tm f0 i ∧ t = up f2 i ∧ ∀ j, 1 ≤ j → j ≤ i → (lm f1 x2 j ≤ up f2 j ∧ up f2 j ≤ um f1 x2 j) ∧ (up f2 (j - 1) + x0 * (tm f0 j - tm f0 (j - 1)) ≤ up f2 j ∧ up f2 j ≤ up f2 (j - 1) + x1 * (tm f0 j - tm f0 (j - 1))), fun s t i => (x4 - i).toNat, ⟨⟨by omega, by omega⟩, rfl, rfl, fun j h1 h2 => by omega⟩, ?_⟩

  rintro s t i ⟨hi, rfl, rfl, hk⟩

  have u0 : up f2 0 = 0 := rfl

  have t0 : tm f0 0 = 0 := rfl

  have tb : 0 ≤ tm f0 i ∧ tm f0 i ≤ 100000 := by

    by_cases e : i = 0

    · subst e; omega

    · have := (good (i - 1) (by omega) (by omega)).1.1

      unfold tm; rw [if_neg e]; omega

  have ub : -1000000000 ≤ up f2 i ∧ up f2 i ≤ 2000000000 := by

    by_cases e : i = 0

    · subst e; omega

    · have := (good (i - 1) (by omega) (by omega)).1.2

      have k := (hk i (by omega) (by omega)).1

      have l : lm f1 x2 i = (f1 (i - 1) - x2) * 1000 := by unfold lm; rw [if_neg e]

      have u : um f1 x2 i = (f1 (i - 1) + x2) * 1000 := by unfold um; rw [if_neg e]

      omega

  refine ⟨⟨tb.1, tb.2⟩, ⟨by omega, by omega⟩, ⟨by omega, by omega⟩, fun h => (show true = true ↔ x4 = x4 ∧ KeptR x0 x1 x2 x4 f0 f1 (up f2) from ⟨fun _ => ⟨rfl, ⟨u0, fun j h1 h2 => hk j h1 (by omega)⟩⟩, fun _ => rfl⟩), fun h => ?_⟩

  have g := good i (by omega) (by omega)

  have gt : 1 ≤ f0 i - tm f0 i ∧ f0 i - tm f0 i ≤ 100000 := by

    have g1 := g.1.1

    have g2 := g.2

    by_cases e : i = 0

    · subst e; rw [t0]; omega

    · have : tm f0 i = f0 (i - 1) := by unfold tm; rw [if_neg e]

      omega

  have gf := g.1.2

  have ma := mulB (a := x0) (d := f0 i - tm f0 i) (by omega) (by omega) (by omega) (by omega)

  have mb := mulB (a := x1) (d := f0 i - tm f0 i) (by omega) (by omega) (by omega) (by omega)

  have w1 : IntKind.i64.wrap (f1 i - x2) = f1 i - x2 := wrap_small (by omega)

  have w2 : IntKind.i64.wrap (1000 * (f1 i - x2)) = 1000 * (f1 i - x2) := wrap_small (by omega)

  have w3 : IntKind.i64.wrap (f1 i + x2) = f1 i + x2 := wrap_small (by omega)

  have w4 : IntKind.i64.wrap (1000 * (f1 i + x2)) = 1000 * (f1 i + x2) := wrap_small (by omega)

  have w5 : IntKind.i64.wrap (f0 i - tm f0 i) = f0 i - tm f0 i := wrap_small (by omega)

  have w6 : IntKind.i64.wrap ((f0 i - tm f0 i) * x0) = x0 * (f0 i - tm f0 i) := by rw [Int.mul_comm]; exact wrap_small (by omega)

  have w7 : IntKind.i64.wrap ((f0 i - tm f0 i) * x1) = x1 * (f0 i - tm f0 i) := by rw [Int.mul_comm]; exact wrap_small (by omega)

  have w8 : IntKind.i64.wrap (up f2 i + x0 * (f0 i - tm f0 i)) = up f2 i + x0 * (f0 i - tm f0 i) := wrap_small (by omega)

  have w9 : IntKind.i64.wrap (up f2 i + x1 * (f0 i - tm f0 i)) = up f2 i + x1 * (f0 i - tm f0 i) := wrap_small (by omega)

  simp only [w1, w2, w3, w4, w5, w6, w7, w8, w9]

  have n1 : up f2 (i + 1) = f2 i := by unfold up; rw [if_neg (by omega), show i + 1 - 1 = i by omega]

  have n2 : tm f0 (i + 1) = f0 i := by unfold tm; rw [if_neg (by omega), show i + 1 - 1 = i by omega]

  have n3 : lm f1 x2 (i + 1) = (f1 i - x2) * 1000 := by unfold lm; rw [if_neg (by omega), show i + 1 - 1 = i by omega]

  have n4 : um f1 x2 (i + 1) = (f1 i + x2) * 1000 := by unfold um; rw [if_neg (by omega), show i + 1 - 1 = i by omega]

  have no : ¬ ((1000 * (f1 i - x2) ≤ f2 i ∧ f2 i ≤ 1000 * (f1 i + x2)) ∧ (up f2 i + x0 * (f0 i - tm f0 i) ≤ f2 i ∧ f2 i ≤ up f2 i + x1 * (f0 i - tm f0 i))) → keepsR x0 x1 x2 x4 x4 f0 f1 f2 false := by

    intro hn

    show false = true ↔ x4 = x4 ∧ KeptR x0 x1 x2 x4 f0 f1 (up f2)

    refine ⟨fun h => absurd h (by decide), fun k => absurd ?_ hn⟩

    have := k.2.2 (i + 1) (by omega) (by omega)

    rw [n1, n2, n3, n4, show i + 1 - 1 = i by omega] at this

    generalize x0 * (f0 i - tm f0 i) = a at *

    generalize x1 * (f0 i - tm f0 i) = b at *

    omega

  refine ⟨fun h' => by omega, fun _ => ⟨fun c1 => ⟨fun c2 => ⟨fun c3 => ⟨fun c4 => ⟨⟨⟨by omega, by omega⟩, n2.symm, n1.symm, fun j h1 h2 => ?_⟩, ?_⟩, fun c => no (fun k => c k.2.2)⟩, fun c => no (fun k => c k.2.1)⟩, fun c => no (fun k => c k.1.2)⟩, fun c => no (fun k => c k.1.1)⟩⟩

  · by_cases e : j = i + 1

    · subst e

      rw [n1, n2, n3, n4, show i + 1 - 1 = i by omega]

      exact ⟨⟨by omega, by omega⟩, c3, c4⟩

    · exact hk j h1 (by omega)

  · show (x4 - (i + 1)).toNat < (x4 - i).toNat

    omega

end Go.Proofs.Ytikekimiionllaa.Ev
