/- GrowTracks. -/
import Derived.Test.YtikekimiionllaaFrtk
import Derived.Test.YtikekimiionllaaFnar
namespace Go.Proofs.Ytikekimiionllaa.Ev
set_option linter.unusedSimpArgs false
open Go Go.RowKit
set_option linter.unusedVariables false
set_option maxRecDepth 100000
def etalonbase_Ranges_s : Sig := ⟨14, ⟨2, 0, 4⟩, ⟨0, 1, 0⟩, [(.asl 0 (.var 0)), (.asl 1 (.var 1))], [(some ⟨[], 23, true, false, (some ⟨(.var 0), [(.int .i64), (.int .i64)], [(.avar 0), (.avar 1)]⟩)⟩), (some ⟨[], 23, true, false, (some ⟨(.var 1), [(.int .i64), (.int .i64)], [(.avar 2), (.avar 3)]⟩)⟩)], (.bool (.var 0)), []⟩
def etalonlaw08_GrowTracks_s : Sig := ⟨3, ⟨4, 0, 2⟩, ⟨0, 1, 0⟩, [(.agg [(.int .i64 (.var 0)), (.int .i64 (.var 1)), (.int .i64 (.var 2)), (.asl 0 (.var 3))])], [(some ⟨[], 77, true, false, (some ⟨(.var 3), [(.int .i64), (.int .i64)], [(.avar 0), (.avar 1)]⟩)⟩)], (.bool (.var 0)), []⟩

def rg_t : Tr :=
  (.ite (.icmp .eql (.var 0) (.var 1))
  (.loop ⟨14, [0, 1, 0, 1, 1], [(.asl 0 (.var 0)), (.asl 1 (.var 1)), (.tuple []), (.tuple []), (.bool (.lit false)), (.int .i64 (.lit 0)), (.asl 0 (.var 0)), (.int .i64 (.var 0)), (.asl 1 (.var 1)), (.int .i64 (.var 1)), (.bool (.icmp .neq (.var 0) (.var 1))), (.tuple []), (.tuple []), (.tuple []), (.tuple []), (.tuple []), (.tuple []), (.tuple []), (.tuple []), (.tuple []), (.tuple []), (.tuple []), (.tuple []), (.tuple []), (.tuple []), (.tuple [])], [(some ⟨[], 23, true, false, (some ⟨(.var 0), [(.int .i64), (.int .i64)], [(.avar 0), (.avar 1)]⟩)⟩), (some ⟨[], 23, true, false, (some ⟨(.var 1), [(.int .i64), (.int .i64)], [(.avar 2), (.avar 3)]⟩)⟩)], [], [(.asl 0 (.var 0)), (.asl 1 (.var 1)), (.tuple []), (.tuple []), (.bool (.lit false)), (.int .i64 (.var 2)), (.asl 0 (.var 0)), (.int .i64 (.var 0)), (.asl 1 (.var 1)), (.int .i64 (.var 1)), (.bool (.icmp .neq (.var 0) (.var 1))), (.any 11), (.any 12), (.any 13), (.any 14), (.any 15), (.any 16), (.any 17), (.any 18), (.any 19), (.any 20), (.any 21), (.any 22), (.any 23), (.any 24), (.any 25)], [(some ⟨[], 23, true, false, (some ⟨(.var 0), [(.int .i64), (.int .i64)], [(.avar 0), (.avar 1)]⟩)⟩), (some ⟨[], 23, true, false, (some ⟨(.var 1), [(.int .i64), (.int .i64)], [(.avar 2), (.avar 3)]⟩)⟩)], [], ⟨1, 0, 0⟩, ⟨[(.lit 0)], [], []⟩, []⟩
   (.rng 2 0 9223372036854775807 (.ite (.icmp .leq (.var 0) (.var 2))
    (.out 1 ⟨[], [], []⟩ [])
    (.ite (.icmp .leq (.var 1) (.var 2))
     .nil
     (.ite (.icmp .eql (.sel (.avar 0) (.var 2)) (.sel (.avar 2) (.var 2)))
      (.ite (.icmp .eql (.sel (.avar 1) (.var 2)) (.sel (.avar 3) (.var 2)))
       (.next ⟨[(.bin (.addW .i64) (.var 2) (.lit 1))], [], []⟩ [])
       (.out 0 ⟨[], [], []⟩ []))
      (.out 0 ⟨[], [], []⟩ [])))))
   (.ex (.ret, [(.asl 0 (.var 0)), (.asl 1 (.var 1)), (.tuple []), (.tuple []), (.bool (.lit false)), (.any 5), (.asl 0 (.var 0)), (.int .i64 (.var 0)), (.asl 1 (.var 1)), (.int .i64 (.var 1)), (.bool (.icmp .neq (.var 0) (.var 1))), (.any 11), (.any 12), (.any 13), (.any 14), (.any 15), (.any 16), (.any 17), (.any 18), (.any 19), (.any 20), (.any 21), (.any 22), (.any 23), (.any 24), (.any 25)], [(some ⟨[], 23, true, false, (some ⟨(.var 0), [(.int .i64), (.int .i64)], [(.avar 0), (.avar 1)]⟩)⟩), (some ⟨[], 23, true, false, (some ⟨(.var 1), [(.int .i64), (.int .i64)], [(.avar 2), (.avar 3)]⟩)⟩)], []) ⟨0, 0, 0⟩
   (.ret ⟨[], [(.lit false)], []⟩ [])
   (.ex ((.exit 0), [(.asl 0 (.var 0)), (.asl 1 (.var 1)), (.tuple []), (.tuple []), (.bool (.lit false)), (.any 5), (.asl 0 (.var 0)), (.int .i64 (.var 0)), (.asl 1 (.var 1)), (.int .i64 (.var 1)), (.bool (.icmp .neq (.var 0) (.var 1))), (.any 11), (.any 12), (.any 13), (.any 14), (.any 15), (.any 16), (.any 17), (.any 18), (.any 19), (.any 20), (.any 21), (.any 22), (.any 23), (.any 24), (.any 25)], [(some ⟨[], 23, true, false, (some ⟨(.var 0), [(.int .i64), (.int .i64)], [(.avar 0), (.avar 1)]⟩)⟩), (some ⟨[], 23, true, false, (some ⟨(.var 1), [(.int .i64), (.int .i64)], [(.avar 2), (.avar 3)]⟩)⟩)], []) ⟨0, 0, 0⟩
   (.ret ⟨[], [(.lit true)], []⟩ [])
   .nil)))
  (.ret ⟨[], [(.lit false)], []⟩ []))
theorem rg {x0 x1 : Int} {f0 f1 f2 f3 : Int → Int} (r0 : 0 ≤ x0 ∧ x0 ≤ 140737488355328) (r1 : 0 ≤ x1 ∧ x1 ≤ 140737488355328) (s0 : ∀ q, (-9223372036854775808) ≤ f0 q ∧ f0 q ≤ 9223372036854775807) (s1 : ∀ q, (-9223372036854775808) ≤ f1 q ∧ f1 q ≤ 9223372036854775807) (s2 : ∀ q, (-9223372036854775808) ≤ f2 q ∧ f2 q ≤ 9223372036854775807) (s3 : ∀ q, (-9223372036854775808) ≤ f3 q ∧ f3 q ≤ 9223372036854775807) {R : Bool → Prop}
  (H : ((((x0 : Int) == x1) = true → (∃ (I2 : Int → Prop) (rk2 : Int → Nat), I2 (0) ∧
    (∀ x2 : Int, I2 x2 → ((0 ≤ (x2 : Int) ∧ (x2 : Int) ≤ 9223372036854775807) ∧ ((decide ((x0 : Int) ≤ x2) = true → R (true)) ∧
     (decide ((x0 : Int) ≤ x2) = false → ((decide ((x1 : Int) ≤ x2) = true → False) ∧
      (decide ((x1 : Int) ≤ x2) = false → (((((f0 x2) : Int) == (f2 x2)) = true → (((((f1 x2) : Int) == (f3 x2)) = true → (I2 (IntKind.i64.wrap (x2 + 1)) ∧ rk2 (IntKind.i64.wrap (x2 + 1)) < rk2 x2)) ∧
        ((((f1 x2) : Int) == (f3 x2)) = false → R (false)))) ∧
       ((((f0 x2) : Int) == (f2 x2)) = false → R (false))))))))))) ∧
   (((x0 : Int) == x1) = false → R (false)))) :
    ∃ u0 : Bool, R u0 ∧ Spec Try.prog etalonbase_Ranges_s ⟨[x0, x1], [], [f0, f1, f2, f3]⟩ [] [u0] [] :=
  Eq.mp (by kernel_rfl) (exV_of (K := fun d => app3 etalonbase_Ranges_s.out R d ∧ Spec Try.prog etalonbase_Ranges_s ⟨[x0, x1], [], [f0, f1, f2, f3]⟩ d.1 d.2.1 d.2.2) (tree_at mixed names S1_ok (S := S1 Try.prog) (lf := 100000) (d := 60) etalonbase_Ranges_s rg_t { ivs := [(0, 0, 140737488355328), (1, 0, 140737488355328)], aivs := [(0, (-9223372036854775808), 9223372036854775807), (1, (-9223372036854775808), 9223372036854775807), (2, (-9223372036854775808), 9223372036854775807), (3, (-9223372036854775808), 9223372036854775807)] } ⟨[x0, x1], [], [f0, f1, f2, f3]⟩ rfl (by kernel_rfl) (by kernel_rfl) (by kernel_rfl) ⟨(fc r0 (fc r1 fz)), fz, (fc s0 (fc s1 (fc s2 (fc s3 fz)))), fz⟩ (R := fun d => app3 etalonbase_Ranges_s.out R d) (Eq.mp (by kernel_rfl) H)))

def tkb_t : Tr :=
  (.call grow_CheckTrack_s ⟨[(.var 0), (.var 1), (.var 2), (.var 3)], [], [(.avar 0), (.avar 1)]⟩ ⟨[(.var 0), (.var 1), (.var 2), (.var 3), (.var 4), (.var 5)], [], [(.avar 0), (.avar 1)]⟩ ⟨7, [(.agg [(.int .i64 (.var 0)), (.int .i64 (.var 1)), (.int .i64 (.var 2)), (.asl 0 (.var 3))])], [0], [(some ⟨[], 77, true, false, (some ⟨(.var 3), [(.int .i64), (.int .i64)], [(.avar 0), (.avar 1)]⟩)⟩), none], (.tuple [(.int .i64 (.var 4)), (.int .i64 (.var 5))]), []⟩
  (.ite (.icmp .eql (.var 5) (.lit 0))
  .nil
  (.ret ⟨[(.lit 0), (.var 5)], [], [(.acst (.lit 0)), (.acst (.lit 0))]⟩ [1])))
theorem tkb {x0 x1 x2 x3 : Int} {f0 f1 : Int → Int} (r0 : (-9223372036854775808) ≤ x0 ∧ x0 ≤ 9223372036854775807) (r1 : (-9223372036854775808) ≤ x1 ∧ x1 ≤ 9223372036854775807) (r2 : (-9223372036854775808) ≤ x2 ∧ x2 ≤ 9223372036854775807) (r3 : 0 ≤ x3 ∧ x3 ≤ 42) (s0 : ∀ q, (-9223372036854775808) ≤ f0 q ∧ f0 q ≤ 9223372036854775807) (s1 : ∀ q, (-9223372036854775808) ≤ f1 q ∧ f1 q ≤ 9223372036854775807) {R : Int → Int → (Int → Int) → (Int → Int) → Prop}
  (H : (∃ v4 : Int, ∃ v5 : Int, Spec Try.prog grow_CheckTrack_s ⟨[x0, x1, x2, x3], [], [f0, f1]⟩ [v4, v5] [] [] ∧
   ((((v5 : Int) == 0) = true → False) ∧
   (((v5 : Int) == 0) = false → R (0) (v5) ((fun _ => 0)) ((fun _ => 0)))))) :
    ∃ v0 : Int, ∃ v1 : Int, ∃ g0 : Int → Int, ∃ g1 : Int → Int, R v0 v1 g0 g1 ∧ Spec Try.prog grow_Tracked_s ⟨[x0, x1, x2, x3], [], [f0, f1]⟩ [v0, v1] [] [g0, g1] :=
  Eq.mp (by kernel_rfl) (exV_of (K := fun d => app3 grow_Tracked_s.out R d ∧ Spec Try.prog grow_Tracked_s ⟨[x0, x1, x2, x3], [], [f0, f1]⟩ d.1 d.2.1 d.2.2) (tree_at mixed names S1_ok (S := S1 Try.prog) (lf := 100000) (d := 60) grow_Tracked_s tkb_t { ivs := [(0, (-9223372036854775808), 9223372036854775807), (1, (-9223372036854775808), 9223372036854775807), (2, (-9223372036854775808), 9223372036854775807), (3, 0, 42)], aivs := [(0, (-9223372036854775808), 9223372036854775807), (1, (-9223372036854775808), 9223372036854775807)] } ⟨[x0, x1, x2, x3], [], [f0, f1]⟩ rfl (by kernel_rfl) (by kernel_rfl) (by kernel_rfl) ⟨(fc r0 (fc r1 (fc r2 (fc r3 fz)))), fz, (fc s0 (fc s1 fz)), fz⟩ (R := fun d => app3 grow_Tracked_s.out R d) (Eq.mp (by kernel_rfl) H)))

def cdb_t : Tr :=
  (.call grow_CheckTrack_s ⟨[(.var 0), (.var 1), (.var 2), (.var 3)], [], [(.avar 0), (.avar 1)]⟩ ⟨[(.var 0), (.var 1), (.var 2), (.var 3), (.var 4), (.var 5)], [], [(.avar 0), (.avar 1)]⟩ ⟨7, [(.agg [(.int .i64 (.var 0)), (.int .i64 (.var 1)), (.int .i64 (.var 2)), (.asl 0 (.var 3))])], [0], [(some ⟨[], 77, true, false, (some ⟨(.var 3), [(.int .i64), (.int .i64)], [(.avar 0), (.avar 1)]⟩)⟩), none, none], (.tuple [(.int .i64 (.var 4)), (.int .i64 (.var 5))]), []⟩
  (.ite (.icmp .eql (.var 5) (.lit 0))
  .nil
  (.ret ⟨[(.lit 0), (.lit 0), (.var 5)], [], []⟩ [])))
theorem cdb {x0 x1 x2 x3 : Int} {f0 f1 : Int → Int} (r0 : (-9223372036854775808) ≤ x0 ∧ x0 ≤ 9223372036854775807) (r1 : (-9223372036854775808) ≤ x1 ∧ x1 ≤ 9223372036854775807) (r2 : (-9223372036854775808) ≤ x2 ∧ x2 ≤ 9223372036854775807) (r3 : 0 ≤ x3 ∧ x3 ≤ 42) (s0 : ∀ q, (-9223372036854775808) ≤ f0 q ∧ f0 q ≤ 9223372036854775807) (s1 : ∀ q, (-9223372036854775808) ≤ f1 q ∧ f1 q ≤ 9223372036854775807) {R : Int → Int → Int → Prop}
  (H : (∃ v4 : Int, ∃ v5 : Int, Spec Try.prog grow_CheckTrack_s ⟨[x0, x1, x2, x3], [], [f0, f1]⟩ [v4, v5] [] [] ∧
   ((((v5 : Int) == 0) = true → False) ∧
   (((v5 : Int) == 0) = false → R (0) (0) (v5))))) :
    ∃ v0 : Int, ∃ v1 : Int, ∃ v2 : Int, R v0 v1 v2 ∧ Spec Try.prog grow_Contradiction_s ⟨[x0, x1, x2, x3], [], [f0, f1]⟩ [v0, v1, v2] [] [] :=
  Eq.mp (by kernel_rfl) (exV_of (K := fun d => app3 grow_Contradiction_s.out R d ∧ Spec Try.prog grow_Contradiction_s ⟨[x0, x1, x2, x3], [], [f0, f1]⟩ d.1 d.2.1 d.2.2) (tree_at mixed names S1_ok (S := S1 Try.prog) (lf := 100000) (d := 60) grow_Contradiction_s cdb_t { ivs := [(0, (-9223372036854775808), 9223372036854775807), (1, (-9223372036854775808), 9223372036854775807), (2, (-9223372036854775808), 9223372036854775807), (3, 0, 42)], aivs := [(0, (-9223372036854775808), 9223372036854775807), (1, (-9223372036854775808), 9223372036854775807)] } ⟨[x0, x1, x2, x3], [], [f0, f1]⟩ rfl (by kernel_rfl) (by kernel_rfl) (by kernel_rfl) ⟨(fc r0 (fc r1 (fc r2 (fc r3 fz)))), fz, (fc s0 (fc s1 fz)), fz⟩ (R := fun d => app3 grow_Contradiction_s.out R d) (Eq.mp (by kernel_rfl) H)))

def ctkb_t : Tr :=
  (.ret ⟨[(.var 0), (.var 1), (.var 2), (.var 3)], [], [(.avar 0), (.avar 1)]⟩ [4])
theorem ctkb {x0 x1 x2 x3 : Int} {f0 f1 : Int → Int} (r0 : (-9223372036854775808) ≤ x0 ∧ x0 ≤ 9223372036854775807) (r1 : (-9223372036854775808) ≤ x1 ∧ x1 ≤ 9223372036854775807) (r2 : (-9223372036854775808) ≤ x2 ∧ x2 ≤ 9223372036854775807) (r3 : 0 ≤ x3 ∧ x3 ≤ 42) (s0 : ∀ q, (-9223372036854775808) ≤ f0 q ∧ f0 q ≤ 9223372036854775807) (s1 : ∀ q, (-9223372036854775808) ≤ f1 q ∧ f1 q ≤ 9223372036854775807) {R : Int → Int → Int → Int → (Int → Int) → (Int → Int) → Prop}
  (H : R (x0) (x1) (x2) (x3) (f0) (f1)) :
    ∃ v0 : Int, ∃ v1 : Int, ∃ v2 : Int, ∃ v3 : Int, ∃ g0 : Int → Int, ∃ g1 : Int → Int, R v0 v1 v2 v3 g0 g1 ∧ Spec Try.prog etalonref08_CopyTrack_s ⟨[x0, x1, x2, x3], [], [f0, f1]⟩ [v0, v1, v2, v3] [] [g0, g1] :=
  Eq.mp (by kernel_rfl) (exV_of (K := fun d => app3 etalonref08_CopyTrack_s.out R d ∧ Spec Try.prog etalonref08_CopyTrack_s ⟨[x0, x1, x2, x3], [], [f0, f1]⟩ d.1 d.2.1 d.2.2) (tree_at mixed names S1_ok (S := S1 Try.prog) (lf := 100000) (d := 60) etalonref08_CopyTrack_s ctkb_t { ivs := [(0, (-9223372036854775808), 9223372036854775807), (1, (-9223372036854775808), 9223372036854775807), (2, (-9223372036854775808), 9223372036854775807), (3, 0, 42)], aivs := [(0, (-9223372036854775808), 9223372036854775807), (1, (-9223372036854775808), 9223372036854775807)] } ⟨[x0, x1, x2, x3], [], [f0, f1]⟩ rfl (by kernel_rfl) (by kernel_rfl) (by kernel_rfl) ⟨(fc r0 (fc r1 (fc r2 (fc r3 fz)))), fz, (fc s0 (fc s1 fz)), fz⟩ (R := fun d => app3 etalonref08_CopyTrack_s.out R d) (Eq.mp (by kernel_rfl) H)))

def gt_t : Tr :=
  (.call etalonlaw08_awake_s ⟨[], [], []⟩ ⟨[], [(.var 0)], []⟩ ⟨5, [], [], [none, none], (.bool (.var 0)), []⟩
  (.ite (.var 0)
  (.ite (.icmp .leq (.var 3) (.lit 12))
   (.call etalonref08_CopyTrack_s ⟨[(.var 0), (.var 1), (.var 2), (.var 3)], [], [(.avar 0), (.avar 1)]⟩ ⟨[(.var 0), (.var 1), (.var 2), (.var 3), (.var 4), (.var 5), (.var 6), (.var 7)], [], [(.avar 0), (.avar 1), (.avar 2), (.avar 3)]⟩ ⟨8, [(.agg [(.int .i64 (.var 0)), (.int .i64 (.var 1)), (.int .i64 (.var 2)), (.asl 0 (.var 3))])], [0], [(some ⟨[], 77, true, false, (some ⟨(.var 3), [(.int .i64), (.int .i64)], [(.avar 0), (.avar 1)]⟩)⟩), none], (.agg [(.int .i64 (.var 4)), (.int .i64 (.var 5)), (.int .i64 (.var 6)), (.asl 2 (.var 7))]), [(some ⟨[], 77, false, true, (some ⟨(.var 7), [(.int .i64), (.int .i64)], [(.avar 2), (.avar 3)]⟩)⟩)]⟩
    (.rng 7 0 140737488355328 (.call grow_CheckTrack_s ⟨[(.var 4), (.var 5), (.var 6), (.var 7)], [], [(.avar 2), (.avar 3)]⟩ ⟨[(.var 4), (.var 5), (.var 6), (.var 7), (.var 8), (.var 9)], [], [(.avar 2), (.avar 3)]⟩ ⟨7, [(.agg [(.int .i64 (.var 4)), (.int .i64 (.var 5)), (.int .i64 (.var 6)), (.asl 2 (.var 7))])], [2], [none, none, (some ⟨[], 77, false, true, (some ⟨(.var 7), [(.int .i64), (.int .i64)], [(.avar 2), (.avar 3)]⟩)⟩)], (.tuple [(.int .i64 (.var 8)), (.int .i64 (.var 9))]), []⟩
    (.call etalonref08_CopyTrack_s ⟨[(.var 0), (.var 1), (.var 2), (.var 3)], [], [(.avar 0), (.avar 1)]⟩ ⟨[(.var 0), (.var 1), (.var 2), (.var 3), (.var 10), (.var 11), (.var 12), (.var 13)], [], [(.avar 0), (.avar 1), (.avar 4), (.avar 5)]⟩ ⟨8, [(.agg [(.int .i64 (.var 0)), (.int .i64 (.var 1)), (.int .i64 (.var 2)), (.asl 0 (.var 3))])], [0], [(some ⟨[], 77, true, false, (some ⟨(.var 3), [(.int .i64), (.int .i64)], [(.avar 0), (.avar 1)]⟩)⟩), none, none], (.agg [(.int .i64 (.var 10)), (.int .i64 (.var 11)), (.int .i64 (.var 12)), (.asl 3 (.var 13))]), [(some ⟨[], 77, false, true, (some ⟨(.var 13), [(.int .i64), (.int .i64)], [(.avar 4), (.avar 5)]⟩)⟩)]⟩
    (.rng 13 0 140737488355328 (.call grow_Tracked_s ⟨[(.var 10), (.var 11), (.var 12), (.var 13)], [], [(.avar 4), (.avar 5)]⟩ ⟨[(.var 10), (.var 11), (.var 12), (.var 13), (.var 14), (.var 15)], [], [(.avar 4), (.avar 5), (.avar 6), (.avar 7)]⟩ ⟨9, [(.agg [(.int .i64 (.var 10)), (.int .i64 (.var 11)), (.int .i64 (.var 12)), (.asl 3 (.var 13))])], [3], [none, none, none, (some ⟨[], 77, false, true, (some ⟨(.var 13), [(.int .i64), (.int .i64)], [(.avar 4), (.avar 5)]⟩)⟩)], (.tuple [(.asl 4 (.var 14)), (.int .i64 (.var 15))]), [(some ⟨[], 23, false, true, (some ⟨(.var 14), [(.int .i64), (.int .i64)], [(.avar 6), (.avar 7)]⟩)⟩)]⟩
    (.rng 14 0 40 (.call etalonref08_CopyTrack_s ⟨[(.var 0), (.var 1), (.var 2), (.var 3)], [], [(.avar 0), (.avar 1)]⟩ ⟨[(.var 0), (.var 1), (.var 2), (.var 3), (.var 16), (.var 17), (.var 18), (.var 19)], [], [(.avar 0), (.avar 1), (.avar 8), (.avar 9)]⟩ ⟨8, [(.agg [(.int .i64 (.var 0)), (.int .i64 (.var 1)), (.int .i64 (.var 2)), (.asl 0 (.var 3))])], [0], [(some ⟨[], 77, true, false, (some ⟨(.var 3), [(.int .i64), (.int .i64)], [(.avar 0), (.avar 1)]⟩)⟩), none, none, none, none], (.agg [(.int .i64 (.var 16)), (.int .i64 (.var 17)), (.int .i64 (.var 18)), (.asl 5 (.var 19))]), [(some ⟨[], 77, false, true, (some ⟨(.var 19), [(.int .i64), (.int .i64)], [(.avar 8), (.avar 9)]⟩)⟩)]⟩
    (.rng 19 0 140737488355328 (.call grow_Contradiction_s ⟨[(.var 16), (.var 17), (.var 18), (.var 19)], [], [(.avar 8), (.avar 9)]⟩ ⟨[(.var 16), (.var 17), (.var 18), (.var 19), (.var 20), (.var 21), (.var 22)], [], [(.avar 8), (.avar 9)]⟩ ⟨10, [(.agg [(.int .i64 (.var 16)), (.int .i64 (.var 17)), (.int .i64 (.var 18)), (.asl 5 (.var 19))])], [5], [none, none, none, none, none, (some ⟨[], 77, false, true, (some ⟨(.var 19), [(.int .i64), (.int .i64)], [(.avar 8), (.avar 9)]⟩)⟩)], (.tuple [(.agg [(.int .i64 (.var 20)), (.int .i64 (.var 21))]), (.int .i64 (.var 22))]), []⟩
    (.call etalonref08_CheckTrack_s ⟨[(.var 0), (.var 1), (.var 2), (.var 3)], [], [(.avar 0), (.avar 1)]⟩ ⟨[(.var 0), (.var 1), (.var 2), (.var 3), (.var 23), (.var 24)], [], [(.avar 0), (.avar 1)]⟩ ⟨11, [(.agg [(.int .i64 (.var 0)), (.int .i64 (.var 1)), (.int .i64 (.var 2)), (.asl 0 (.var 3))])], [0], [(some ⟨[], 77, true, false, (some ⟨(.var 3), [(.int .i64), (.int .i64)], [(.avar 0), (.avar 1)]⟩)⟩), none, none, none, none, none, none], (.tuple [(.int .i64 (.var 23)), (.int .i64 (.var 24))]), []⟩
    (.ite (.icmp .eql (.var 8) (.var 23))
    (.ite (.icmp .eql (.var 9) (.var 24))
     (.ite (.icmp .eql (.var 24) (.lit 0))
      (.call etalonref08_Tracked_s ⟨[(.var 0), (.var 1), (.var 2), (.var 3)], [], [(.avar 0), (.avar 1)]⟩ ⟨[(.var 0), (.var 1), (.var 2), (.var 3), (.var 25)], [(.var 1)], [(.avar 0), (.avar 1), (.avar 10), (.avar 11)]⟩ ⟨12, [(.agg [(.int .i64 (.var 0)), (.int .i64 (.var 1)), (.int .i64 (.var 2)), (.asl 0 (.var 3))])], [0], [(some ⟨[], 77, true, false, (some ⟨(.var 3), [(.int .i64), (.int .i64)], [(.avar 0), (.avar 1)]⟩)⟩), none, none, none, none, none, none], (.tuple [(.asl 7 (.var 25)), (.bool (.var 1))]), [(some ⟨[], 23, false, true, (some ⟨(.var 25), [(.int .i64), (.int .i64)], [(.avar 10), (.avar 11)]⟩)⟩)]⟩
       (.rng 25 0 140737488355328 (.call etalonref08_Contradiction_s ⟨[(.var 0), (.var 1), (.var 2), (.var 3)], [], [(.avar 0), (.avar 1)]⟩ ⟨[(.var 0), (.var 1), (.var 2), (.var 3), (.var 26), (.var 27)], [(.var 2)], [(.avar 0), (.avar 1)]⟩ ⟨13, [(.agg [(.int .i64 (.var 0)), (.int .i64 (.var 1)), (.int .i64 (.var 2)), (.asl 0 (.var 3))])], [0], [(some ⟨[], 77, true, false, (some ⟨(.var 3), [(.int .i64), (.int .i64)], [(.avar 0), (.avar 1)]⟩)⟩), none, none, none, none, none, none, none], (.tuple [(.agg [(.int .i64 (.var 26)), (.int .i64 (.var 27))]), (.bool (.var 2))]), []⟩
       (.ite (.var 1)
       (.ite (.var 2)
        (.ret ⟨[], [(.lit false)], []⟩ [])
        (.ite (.icmp .eql (.var 15) (.lit 0))
         (.call etalonbase_Ranges_s ⟨[(.var 14), (.var 25)], [], [(.avar 6), (.avar 7), (.avar 10), (.avar 11)]⟩ ⟨[(.var 14), (.var 25)], [(.var 3)], [(.avar 6), (.avar 7), (.avar 10), (.avar 11)]⟩ ⟨14, [(.asl 4 (.var 14)), (.asl 7 (.var 25))], [4, 7], [none, none, none, none, (some ⟨[], 23, false, true, (some ⟨(.var 14), [(.int .i64), (.int .i64)], [(.avar 6), (.avar 7)]⟩)⟩), none, none, (some ⟨[], 23, false, true, (some ⟨(.var 25), [(.int .i64), (.int .i64)], [(.avar 10), (.avar 11)]⟩)⟩), none], (.bool (.var 3)), []⟩
          (.ite (.var 3)
          (.ite (.icmp .eql (.var 22) (.lit 17))
           (.ret ⟨[], [(.and (.icmp .eql (.var 20) (.lit 0)) (.icmp .eql (.var 21) (.lit 0)))], []⟩ [])
           (.ret ⟨[], [(.lit false)], []⟩ []))
          (.ret ⟨[], [(.lit false)], []⟩ [])))
         (.ret ⟨[], [(.lit false)], []⟩ [])))
       (.ite (.var 2)
        (.ite (.icmp .eql (.var 15) (.lit 17))
         (.ite (.icmp .eql (.var 14) (.lit 0))
          (.ite (.icmp .eql (.var 22) (.lit 0))
           (.ret ⟨[], [(.and (.icmp .eql (.var 20) (.var 26)) (.icmp .eql (.var 21) (.var 27)))], []⟩ [])
           (.ret ⟨[], [(.lit false)], []⟩ []))
          (.ret ⟨[], [(.lit false)], []⟩ []))
         (.ret ⟨[], [(.lit false)], []⟩ []))
        (.ret ⟨[], [(.lit false)], []⟩ []))))))
      (.ite (.icmp .eql (.var 15) (.var 24))
       (.ite (.icmp .eql (.var 22) (.var 24))
        (.ite (.icmp .eql (.var 14) (.lit 0))
         (.ret ⟨[], [(.and (.icmp .eql (.var 20) (.lit 0)) (.icmp .eql (.var 21) (.lit 0)))], []⟩ [])
         (.ret ⟨[], [(.lit false)], []⟩ []))
        (.ret ⟨[], [(.lit false)], []⟩ []))
       (.ret ⟨[], [(.lit false)], []⟩ [])))
     (.ret ⟨[], [(.lit false)], []⟩ []))
    (.ret ⟨[], [(.lit false)], []⟩ [])))))))))))))
   (.ite (.icmp .leq (.var 3) (.lit 40))
    (.ret ⟨[], [(.lit true)], []⟩ [])
    (.ite (.icmp .leq (.var 3) (.lit 42))
     (.call etalonref08_CopyTrack_s ⟨[(.var 0), (.var 1), (.var 2), (.var 3)], [], [(.avar 0), (.avar 1)]⟩ ⟨[(.var 0), (.var 1), (.var 2), (.var 3), (.var 4), (.var 5), (.var 6), (.var 7)], [], [(.avar 0), (.avar 1), (.avar 2), (.avar 3)]⟩ ⟨8, [(.agg [(.int .i64 (.var 0)), (.int .i64 (.var 1)), (.int .i64 (.var 2)), (.asl 0 (.var 3))])], [0], [(some ⟨[], 77, true, false, (some ⟨(.var 3), [(.int .i64), (.int .i64)], [(.avar 0), (.avar 1)]⟩)⟩), none], (.agg [(.int .i64 (.var 4)), (.int .i64 (.var 5)), (.int .i64 (.var 6)), (.asl 2 (.var 7))]), [(some ⟨[], 77, false, true, (some ⟨(.var 7), [(.int .i64), (.int .i64)], [(.avar 2), (.avar 3)]⟩)⟩)]⟩
      (.rng 7 0 140737488355328 (.call grow_CheckTrack_s ⟨[(.var 4), (.var 5), (.var 6), (.var 7)], [], [(.avar 2), (.avar 3)]⟩ ⟨[(.var 4), (.var 5), (.var 6), (.var 7), (.var 8), (.var 9)], [], [(.avar 2), (.avar 3)]⟩ ⟨7, [(.agg [(.int .i64 (.var 4)), (.int .i64 (.var 5)), (.int .i64 (.var 6)), (.asl 2 (.var 7))])], [2], [none, none, (some ⟨[], 77, false, true, (some ⟨(.var 7), [(.int .i64), (.int .i64)], [(.avar 2), (.avar 3)]⟩)⟩)], (.tuple [(.int .i64 (.var 8)), (.int .i64 (.var 9))]), []⟩
      (.call etalonref08_CopyTrack_s ⟨[(.var 0), (.var 1), (.var 2), (.var 3)], [], [(.avar 0), (.avar 1)]⟩ ⟨[(.var 0), (.var 1), (.var 2), (.var 3), (.var 10), (.var 11), (.var 12), (.var 13)], [], [(.avar 0), (.avar 1), (.avar 4), (.avar 5)]⟩ ⟨8, [(.agg [(.int .i64 (.var 0)), (.int .i64 (.var 1)), (.int .i64 (.var 2)), (.asl 0 (.var 3))])], [0], [(some ⟨[], 77, true, false, (some ⟨(.var 3), [(.int .i64), (.int .i64)], [(.avar 0), (.avar 1)]⟩)⟩), none, none], (.agg [(.int .i64 (.var 10)), (.int .i64 (.var 11)), (.int .i64 (.var 12)), (.asl 3 (.var 13))]), [(some ⟨[], 77, false, true, (some ⟨(.var 13), [(.int .i64), (.int .i64)], [(.avar 4), (.avar 5)]⟩)⟩)]⟩
      (.rng 13 0 140737488355328 (.call grow_Tracked_s ⟨[(.var 10), (.var 11), (.var 12), (.var 13)], [], [(.avar 4), (.avar 5)]⟩ ⟨[(.var 10), (.var 11), (.var 12), (.var 13), (.var 14), (.var 15)], [], [(.avar 4), (.avar 5), (.avar 6), (.avar 7)]⟩ ⟨9, [(.agg [(.int .i64 (.var 10)), (.int .i64 (.var 11)), (.int .i64 (.var 12)), (.asl 3 (.var 13))])], [3], [none, none, none, (some ⟨[], 77, false, true, (some ⟨(.var 13), [(.int .i64), (.int .i64)], [(.avar 4), (.avar 5)]⟩)⟩)], (.tuple [(.asl 4 (.var 14)), (.int .i64 (.var 15))]), [(some ⟨[], 23, false, true, (some ⟨(.var 14), [(.int .i64), (.int .i64)], [(.avar 6), (.avar 7)]⟩)⟩)]⟩
      (.rng 14 0 40 (.call etalonref08_CopyTrack_s ⟨[(.var 0), (.var 1), (.var 2), (.var 3)], [], [(.avar 0), (.avar 1)]⟩ ⟨[(.var 0), (.var 1), (.var 2), (.var 3), (.var 16), (.var 17), (.var 18), (.var 19)], [], [(.avar 0), (.avar 1), (.avar 8), (.avar 9)]⟩ ⟨8, [(.agg [(.int .i64 (.var 0)), (.int .i64 (.var 1)), (.int .i64 (.var 2)), (.asl 0 (.var 3))])], [0], [(some ⟨[], 77, true, false, (some ⟨(.var 3), [(.int .i64), (.int .i64)], [(.avar 0), (.avar 1)]⟩)⟩), none, none, none, none], (.agg [(.int .i64 (.var 16)), (.int .i64 (.var 17)), (.int .i64 (.var 18)), (.asl 5 (.var 19))]), [(some ⟨[], 77, false, true, (some ⟨(.var 19), [(.int .i64), (.int .i64)], [(.avar 8), (.avar 9)]⟩)⟩)]⟩
      (.rng 19 0 140737488355328 (.call grow_Contradiction_s ⟨[(.var 16), (.var 17), (.var 18), (.var 19)], [], [(.avar 8), (.avar 9)]⟩ ⟨[(.var 16), (.var 17), (.var 18), (.var 19), (.var 20), (.var 21), (.var 22)], [], [(.avar 8), (.avar 9)]⟩ ⟨10, [(.agg [(.int .i64 (.var 16)), (.int .i64 (.var 17)), (.int .i64 (.var 18)), (.asl 5 (.var 19))])], [5], [none, none, none, none, none, (some ⟨[], 77, false, true, (some ⟨(.var 19), [(.int .i64), (.int .i64)], [(.avar 8), (.avar 9)]⟩)⟩)], (.tuple [(.agg [(.int .i64 (.var 20)), (.int .i64 (.var 21))]), (.int .i64 (.var 22))]), []⟩
      (.call etalonref08_CheckTrack_s ⟨[(.var 0), (.var 1), (.var 2), (.var 3)], [], [(.avar 0), (.avar 1)]⟩ ⟨[(.var 0), (.var 1), (.var 2), (.var 3), (.var 23), (.var 24)], [], [(.avar 0), (.avar 1)]⟩ ⟨11, [(.agg [(.int .i64 (.var 0)), (.int .i64 (.var 1)), (.int .i64 (.var 2)), (.asl 0 (.var 3))])], [0], [(some ⟨[], 77, true, false, (some ⟨(.var 3), [(.int .i64), (.int .i64)], [(.avar 0), (.avar 1)]⟩)⟩), none, none, none, none, none, none], (.tuple [(.int .i64 (.var 23)), (.int .i64 (.var 24))]), []⟩
      (.ite (.icmp .eql (.var 8) (.var 23))
      (.ite (.icmp .eql (.var 9) (.var 24))
       (.ite (.icmp .eql (.var 24) (.lit 0))
        (.call etalonref08_Tracked_s ⟨[(.var 0), (.var 1), (.var 2), (.var 3)], [], [(.avar 0), (.avar 1)]⟩ ⟨[(.var 0), (.var 1), (.var 2), (.var 3), (.var 25)], [(.var 1)], [(.avar 0), (.avar 1), (.avar 10), (.avar 11)]⟩ ⟨12, [(.agg [(.int .i64 (.var 0)), (.int .i64 (.var 1)), (.int .i64 (.var 2)), (.asl 0 (.var 3))])], [0], [(some ⟨[], 77, true, false, (some ⟨(.var 3), [(.int .i64), (.int .i64)], [(.avar 0), (.avar 1)]⟩)⟩), none, none, none, none, none, none], (.tuple [(.asl 7 (.var 25)), (.bool (.var 1))]), [(some ⟨[], 23, false, true, (some ⟨(.var 25), [(.int .i64), (.int .i64)], [(.avar 10), (.avar 11)]⟩)⟩)]⟩
         (.rng 25 0 140737488355328 (.call etalonref08_Contradiction_s ⟨[(.var 0), (.var 1), (.var 2), (.var 3)], [], [(.avar 0), (.avar 1)]⟩ ⟨[(.var 0), (.var 1), (.var 2), (.var 3), (.var 26), (.var 27)], [(.var 2)], [(.avar 0), (.avar 1)]⟩ ⟨13, [(.agg [(.int .i64 (.var 0)), (.int .i64 (.var 1)), (.int .i64 (.var 2)), (.asl 0 (.var 3))])], [0], [(some ⟨[], 77, true, false, (some ⟨(.var 3), [(.int .i64), (.int .i64)], [(.avar 0), (.avar 1)]⟩)⟩), none, none, none, none, none, none, none], (.tuple [(.agg [(.int .i64 (.var 26)), (.int .i64 (.var 27))]), (.bool (.var 2))]), []⟩
         (.ite (.var 1)
         (.ite (.var 2)
          (.ret ⟨[], [(.lit false)], []⟩ [])
          (.ite (.icmp .eql (.var 15) (.lit 0))
           (.call etalonbase_Ranges_s ⟨[(.var 14), (.var 25)], [], [(.avar 6), (.avar 7), (.avar 10), (.avar 11)]⟩ ⟨[(.var 14), (.var 25)], [(.var 3)], [(.avar 6), (.avar 7), (.avar 10), (.avar 11)]⟩ ⟨14, [(.asl 4 (.var 14)), (.asl 7 (.var 25))], [4, 7], [none, none, none, none, (some ⟨[], 23, false, true, (some ⟨(.var 14), [(.int .i64), (.int .i64)], [(.avar 6), (.avar 7)]⟩)⟩), none, none, (some ⟨[], 23, false, true, (some ⟨(.var 25), [(.int .i64), (.int .i64)], [(.avar 10), (.avar 11)]⟩)⟩), none], (.bool (.var 3)), []⟩
            (.ite (.var 3)
            (.ite (.icmp .eql (.var 22) (.lit 17))
             (.ret ⟨[], [(.and (.icmp .eql (.var 20) (.lit 0)) (.icmp .eql (.var 21) (.lit 0)))], []⟩ [])
             (.ret ⟨[], [(.lit false)], []⟩ []))
            (.ret ⟨[], [(.lit false)], []⟩ [])))
           (.ret ⟨[], [(.lit false)], []⟩ [])))
         (.ite (.var 2)
          (.ite (.icmp .eql (.var 15) (.lit 17))
           (.ite (.icmp .eql (.var 14) (.lit 0))
            (.ite (.icmp .eql (.var 22) (.lit 0))
             (.ret ⟨[], [(.and (.icmp .eql (.var 20) (.var 26)) (.icmp .eql (.var 21) (.var 27)))], []⟩ [])
             (.ret ⟨[], [(.lit false)], []⟩ []))
            (.ret ⟨[], [(.lit false)], []⟩ []))
           (.ret ⟨[], [(.lit false)], []⟩ []))
          (.ret ⟨[], [(.lit false)], []⟩ []))))))
        (.ite (.icmp .eql (.var 15) (.var 24))
         (.ite (.icmp .eql (.var 22) (.var 24))
          (.ite (.icmp .eql (.var 14) (.lit 0))
           (.ret ⟨[], [(.and (.icmp .eql (.var 20) (.lit 0)) (.icmp .eql (.var 21) (.lit 0)))], []⟩ [])
           (.ret ⟨[], [(.lit false)], []⟩ []))
          (.ret ⟨[], [(.lit false)], []⟩ []))
         (.ret ⟨[], [(.lit false)], []⟩ [])))
       (.ret ⟨[], [(.lit false)], []⟩ []))
      (.ret ⟨[], [(.lit false)], []⟩ [])))))))))))))
     (.ret ⟨[], [(.lit true)], []⟩ []))))
  (.ret ⟨[], [(.lit false)], []⟩ [])))
theorem gt {x0 x1 x2 x3 : Int} {f0 f1 : Int → Int} (r0 : (-9223372036854775808) ≤ x0 ∧ x0 ≤ 9223372036854775807) (r1 : (-9223372036854775808) ≤ x1 ∧ x1 ≤ 9223372036854775807) (r2 : (-9223372036854775808) ≤ x2 ∧ x2 ≤ 9223372036854775807) (r3 : 0 ≤ x3 ∧ x3 ≤ 9223372036854775807) (s0 : ∀ q, (-9223372036854775808) ≤ f0 q ∧ f0 q ≤ 9223372036854775807) (s1 : ∀ q, (-9223372036854775808) ≤ f1 q ∧ f1 q ≤ 9223372036854775807) {R : Bool → Prop}
  (H : (∃ u0 : Bool, Spec Try.prog etalonlaw08_awake_s ⟨[], [], []⟩ [] [u0] [] ∧
   ((u0 = true → ((decide ((x3 : Int) ≤ 12) = true → (∃ v4 : Int, ∃ v5 : Int, ∃ v6 : Int, ∃ v7 : Int, ∃ g2 : Int → Int, ∃ g3 : Int → Int, Spec Try.prog etalonref08_CopyTrack_s ⟨[x0, x1, x2, x3], [], [f0, f1]⟩ [v4, v5, v6, v7] [] [g2, g3] ∧
     ((0 ≤ (v7 : Int) ∧ (v7 : Int) ≤ 140737488355328) ∧ (∃ v8 : Int, ∃ v9 : Int, Spec Try.prog grow_CheckTrack_s ⟨[v4, v5, v6, v7], [], [g2, g3]⟩ [v8, v9] [] [] ∧
     (∃ v10 : Int, ∃ v11 : Int, ∃ v12 : Int, ∃ v13 : Int, ∃ g4 : Int → Int, ∃ g5 : Int → Int, Spec Try.prog etalonref08_CopyTrack_s ⟨[x0, x1, x2, x3], [], [f0, f1]⟩ [v10, v11, v12, v13] [] [g4, g5] ∧
     ((0 ≤ (v13 : Int) ∧ (v13 : Int) ≤ 140737488355328) ∧ (∃ v14 : Int, ∃ v15 : Int, ∃ g6 : Int → Int, ∃ g7 : Int → Int, Spec Try.prog grow_Tracked_s ⟨[v10, v11, v12, v13], [], [g4, g5]⟩ [v14, v15] [] [g6, g7] ∧
     ((0 ≤ (v14 : Int) ∧ (v14 : Int) ≤ 40) ∧ (∃ v16 : Int, ∃ v17 : Int, ∃ v18 : Int, ∃ v19 : Int, ∃ g8 : Int → Int, ∃ g9 : Int → Int, Spec Try.prog etalonref08_CopyTrack_s ⟨[x0, x1, x2, x3], [], [f0, f1]⟩ [v16, v17, v18, v19] [] [g8, g9] ∧
     ((0 ≤ (v19 : Int) ∧ (v19 : Int) ≤ 140737488355328) ∧ (∃ v20 : Int, ∃ v21 : Int, ∃ v22 : Int, Spec Try.prog grow_Contradiction_s ⟨[v16, v17, v18, v19], [], [g8, g9]⟩ [v20, v21, v22] [] [] ∧
     (∃ v23 : Int, ∃ v24 : Int, Spec Try.prog etalonref08_CheckTrack_s ⟨[x0, x1, x2, x3], [], [f0, f1]⟩ [v23, v24] [] [] ∧
     ((((v8 : Int) == v23) = true → ((((v9 : Int) == v24) = true → ((((v24 : Int) == 0) = true → (∃ v25 : Int, ∃ u1 : Bool, ∃ g10 : Int → Int, ∃ g11 : Int → Int, Spec Try.prog etalonref08_Tracked_s ⟨[x0, x1, x2, x3], [], [f0, f1]⟩ [v25] [u1] [g10, g11] ∧
        ((0 ≤ (v25 : Int) ∧ (v25 : Int) ≤ 140737488355328) ∧ (∃ v26 : Int, ∃ v27 : Int, ∃ u2 : Bool, Spec Try.prog etalonref08_Contradiction_s ⟨[x0, x1, x2, x3], [], [f0, f1]⟩ [v26, v27] [u2] [] ∧
        ((u1 = true → ((u2 = true → R (false)) ∧
         (u2 = false → ((((v15 : Int) == 0) = true → (∃ u3 : Bool, Spec Try.prog etalonbase_Ranges_s ⟨[v14, v25], [], [g6, g7, g10, g11]⟩ [] [u3] [] ∧
           ((u3 = true → ((((v22 : Int) == 17) = true → R ((((v20 : Int) == 0) && ((v21 : Int) == 0)))) ∧
            (((v22 : Int) == 17) = false → R (false)))) ∧
           (u3 = false → R (false))))) ∧
          (((v15 : Int) == 0) = false → R (false)))))) ∧
        (u1 = false → ((u2 = true → ((((v15 : Int) == 17) = true → ((((v14 : Int) == 0) = true → ((((v22 : Int) == 0) = true → R ((((v20 : Int) == v26) && ((v21 : Int) == v27)))) ∧
            (((v22 : Int) == 0) = false → R (false)))) ∧
           (((v14 : Int) == 0) = false → R (false)))) ∧
          (((v15 : Int) == 17) = false → R (false)))) ∧
         (u2 = false → R (false))))))))) ∧
       (((v24 : Int) == 0) = false → ((((v15 : Int) == v24) = true → ((((v22 : Int) == v24) = true → ((((v14 : Int) == 0) = true → R ((((v20 : Int) == 0) && ((v21 : Int) == 0)))) ∧
          (((v14 : Int) == 0) = false → R (false)))) ∧
         (((v22 : Int) == v24) = false → R (false)))) ∧
        (((v15 : Int) == v24) = false → R (false)))))) ∧
      (((v9 : Int) == v24) = false → R (false)))) ∧
     (((v8 : Int) == v23) = false → R (false))))))))))))))) ∧
    (decide ((x3 : Int) ≤ 12) = false → ((decide ((x3 : Int) ≤ 40) = true → R (true)) ∧
     (decide ((x3 : Int) ≤ 40) = false → ((decide ((x3 : Int) ≤ 42) = true → (∃ v4 : Int, ∃ v5 : Int, ∃ v6 : Int, ∃ v7 : Int, ∃ g2 : Int → Int, ∃ g3 : Int → Int, Spec Try.prog etalonref08_CopyTrack_s ⟨[x0, x1, x2, x3], [], [f0, f1]⟩ [v4, v5, v6, v7] [] [g2, g3] ∧
       ((0 ≤ (v7 : Int) ∧ (v7 : Int) ≤ 140737488355328) ∧ (∃ v8 : Int, ∃ v9 : Int, Spec Try.prog grow_CheckTrack_s ⟨[v4, v5, v6, v7], [], [g2, g3]⟩ [v8, v9] [] [] ∧
       (∃ v10 : Int, ∃ v11 : Int, ∃ v12 : Int, ∃ v13 : Int, ∃ g4 : Int → Int, ∃ g5 : Int → Int, Spec Try.prog etalonref08_CopyTrack_s ⟨[x0, x1, x2, x3], [], [f0, f1]⟩ [v10, v11, v12, v13] [] [g4, g5] ∧
       ((0 ≤ (v13 : Int) ∧ (v13 : Int) ≤ 140737488355328) ∧ (∃ v14 : Int, ∃ v15 : Int, ∃ g6 : Int → Int, ∃ g7 : Int → Int, Spec Try.prog grow_Tracked_s ⟨[v10, v11, v12, v13], [], [g4, g5]⟩ [v14, v15] [] [g6, g7] ∧
       ((0 ≤ (v14 : Int) ∧ (v14 : Int) ≤ 40) ∧ (∃ v16 : Int, ∃ v17 : Int, ∃ v18 : Int, ∃ v19 : Int, ∃ g8 : Int → Int, ∃ g9 : Int → Int, Spec Try.prog etalonref08_CopyTrack_s ⟨[x0, x1, x2, x3], [], [f0, f1]⟩ [v16, v17, v18, v19] [] [g8, g9] ∧
       ((0 ≤ (v19 : Int) ∧ (v19 : Int) ≤ 140737488355328) ∧ (∃ v20 : Int, ∃ v21 : Int, ∃ v22 : Int, Spec Try.prog grow_Contradiction_s ⟨[v16, v17, v18, v19], [], [g8, g9]⟩ [v20, v21, v22] [] [] ∧
       (∃ v23 : Int, ∃ v24 : Int, Spec Try.prog etalonref08_CheckTrack_s ⟨[x0, x1, x2, x3], [], [f0, f1]⟩ [v23, v24] [] [] ∧
       ((((v8 : Int) == v23) = true → ((((v9 : Int) == v24) = true → ((((v24 : Int) == 0) = true → (∃ v25 : Int, ∃ u1 : Bool, ∃ g10 : Int → Int, ∃ g11 : Int → Int, Spec Try.prog etalonref08_Tracked_s ⟨[x0, x1, x2, x3], [], [f0, f1]⟩ [v25] [u1] [g10, g11] ∧
          ((0 ≤ (v25 : Int) ∧ (v25 : Int) ≤ 140737488355328) ∧ (∃ v26 : Int, ∃ v27 : Int, ∃ u2 : Bool, Spec Try.prog etalonref08_Contradiction_s ⟨[x0, x1, x2, x3], [], [f0, f1]⟩ [v26, v27] [u2] [] ∧
          ((u1 = true → ((u2 = true → R (false)) ∧
           (u2 = false → ((((v15 : Int) == 0) = true → (∃ u3 : Bool, Spec Try.prog etalonbase_Ranges_s ⟨[v14, v25], [], [g6, g7, g10, g11]⟩ [] [u3] [] ∧
             ((u3 = true → ((((v22 : Int) == 17) = true → R ((((v20 : Int) == 0) && ((v21 : Int) == 0)))) ∧
              (((v22 : Int) == 17) = false → R (false)))) ∧
             (u3 = false → R (false))))) ∧
            (((v15 : Int) == 0) = false → R (false)))))) ∧
          (u1 = false → ((u2 = true → ((((v15 : Int) == 17) = true → ((((v14 : Int) == 0) = true → ((((v22 : Int) == 0) = true → R ((((v20 : Int) == v26) && ((v21 : Int) == v27)))) ∧
              (((v22 : Int) == 0) = false → R (false)))) ∧
             (((v14 : Int) == 0) = false → R (false)))) ∧
            (((v15 : Int) == 17) = false → R (false)))) ∧
           (u2 = false → R (false))))))))) ∧
         (((v24 : Int) == 0) = false → ((((v15 : Int) == v24) = true → ((((v22 : Int) == v24) = true → ((((v14 : Int) == 0) = true → R ((((v20 : Int) == 0) && ((v21 : Int) == 0)))) ∧
            (((v14 : Int) == 0) = false → R (false)))) ∧
           (((v22 : Int) == v24) = false → R (false)))) ∧
          (((v15 : Int) == v24) = false → R (false)))))) ∧
        (((v9 : Int) == v24) = false → R (false)))) ∧
       (((v8 : Int) == v23) = false → R (false))))))))))))))) ∧
      (decide ((x3 : Int) ≤ 42) = false → R (true)))))))) ∧
   (u0 = false → R (false))))) :
    ∃ u0 : Bool, R u0 ∧ Spec Try.prog etalonlaw08_GrowTracks_s ⟨[x0, x1, x2, x3], [], [f0, f1]⟩ [] [u0] [] :=
  Eq.mp (by kernel_rfl) (exV_of (K := fun d => app3 etalonlaw08_GrowTracks_s.out R d ∧ Spec Try.prog etalonlaw08_GrowTracks_s ⟨[x0, x1, x2, x3], [], [f0, f1]⟩ d.1 d.2.1 d.2.2) (tree_at mixed names S1_ok (S := S1 Try.prog) (lf := 100000) (d := 60) etalonlaw08_GrowTracks_s gt_t { ivs := [(0, (-9223372036854775808), 9223372036854775807), (1, (-9223372036854775808), 9223372036854775807), (2, (-9223372036854775808), 9223372036854775807), (3, 0, 9223372036854775807)], aivs := [(0, (-9223372036854775808), 9223372036854775807), (1, (-9223372036854775808), 9223372036854775807)] } ⟨[x0, x1, x2, x3], [], [f0, f1]⟩ rfl (by kernel_rfl) (by kernel_rfl) (by kernel_rfl) ⟨(fc r0 (fc r1 (fc r2 (fc r3 fz)))), fz, (fc s0 (fc s1 fz)), fz⟩ (R := fun d => app3 etalonlaw08_GrowTracks_s.out R d) (Eq.mp (by kernel_rfl) H)))

theorem ranges_s {n : Int} {f0 f1 f2 f3 : Int → Int} (hn : 0 ≤ n ∧ n ≤ 140737488355328) (s0 : ∀ q, I64 (f0 q)) (s1 : ∀ q, I64 (f1 q)) (s2 : ∀ q, I64 (f2 q)) (s3 : ∀ q, I64 (f3 q)) (h : ∀ q, 0 ≤ q → q < n → f0 q = f2 q ∧ f1 q = f3 q) : Spec Try.prog etalonbase_Ranges_s ⟨[n, n], [], [f0, f1, f2, f3]⟩ [] [true] [] := by

  suffices hh : ∃ b : Bool, b = true ∧ Spec Try.prog etalonbase_Ranges_s ⟨[n, n], [], [f0, f1, f2, f3]⟩ [] [b] [] by

    obtain ⟨b, rfl, hs⟩ := hh

    exact hs

  refine rg hn hn s0 s1 s2 s3 (R := (· = true)) ⟨fun _ => ⟨fun i => 0 ≤ i ∧ i ≤ n, fun i => (n - i).toNat, ⟨by omega, by omega⟩, fun i hi => ⟨⟨by omega, by omega⟩, fun _ => rfl, fun h1 => ⟨fun h2 => ?_, fun _ => ⟨fun _ => ⟨fun _ => ?_, fun h4 => ?_⟩, fun h3 => ?_⟩⟩⟩⟩, fun h => by simp at h⟩

  · have := of_decide_eq_false h1; have := of_decide_eq_true h2; omega

  · have g1 := of_decide_eq_false h1

    rw [IntKind.wrap_i64, show ((i + 1 + 9223372036854775808) % 18446744073709551616 - 9223372036854775808) = i + 1 by omega]

    exact ⟨⟨by omega, by omega⟩, by show (n - (i + 1)).toNat < (n - i).toNat; omega⟩

  · have g1 := of_decide_eq_false h1

    have := (h i hi.1 (by omega)).2

    simp [this] at h4

  · have g1 := of_decide_eq_false h1

    have := (h i hi.1 (by omega)).1

    simp [this] at h3

theorem tracked_no {x0 x1 x2 x3 k e : Int} {f0 f1 : Int → Int} (r0 : I64 x0) (r1 : I64 x1) (r2 : I64 x2) (r3 : 0 ≤ x3 ∧ x3 ≤ 42) (s0 : ∀ q, I64 (f0 q)) (s1 : ∀ q, I64 (f1 q)) (hk : trackIs x0 x1 x2 x3 f0 f1 k e) (he : e ≠ 0) : Spec Try.prog grow_Tracked_s ⟨[x0, x1, x2, x3], [], [f0, f1]⟩ [0, e] [] [(fun _ => 0), (fun _ => 0)] := by

  obtain ⟨k', e', hk', hc, -⟩ := checkTracks (x3 := x3) r0 r1 r2 ⟨r3.1, by omega⟩ s0 s1

  obtain ⟨rfl, rfl⟩ := trackIs_uniq hk hk'

  obtain ⟨v0, v1, g0, g1, ⟨rfl, rfl, rfl, rfl⟩, hs⟩ := tkb r0 r1 r2 r3 s0 s1 (R := fun a b c d => a = 0 ∧ b = e ∧ c = (fun _ => 0) ∧ d = (fun _ => 0)) ⟨_, _, hc, fun h => absurd (eq_of_beq h) he, fun _ => ⟨rfl, rfl, rfl, rfl⟩⟩

  exact hs

theorem contra_no {x0 x1 x2 x3 k e : Int} {f0 f1 : Int → Int} (r0 : I64 x0) (r1 : I64 x1) (r2 : I64 x2) (r3 : 0 ≤ x3 ∧ x3 ≤ 42) (s0 : ∀ q, I64 (f0 q)) (s1 : ∀ q, I64 (f1 q)) (hk : trackIs x0 x1 x2 x3 f0 f1 k e) (he : e ≠ 0) : Spec Try.prog grow_Contradiction_s ⟨[x0, x1, x2, x3], [], [f0, f1]⟩ [0, 0, e] [] [] := by

  obtain ⟨k', e', hk', hc, -⟩ := checkTracks (x3 := x3) r0 r1 r2 ⟨r3.1, by omega⟩ s0 s1

  obtain ⟨rfl, rfl⟩ := trackIs_uniq hk hk'

  obtain ⟨v0, v1, v2, ⟨rfl, rfl, rfl⟩, hs⟩ := cdb r0 r1 r2 r3 s0 s1 (R := fun a b c => a = 0 ∧ b = 0 ∧ c = e) ⟨_, _, hc, fun h => absurd (eq_of_beq h) he, fun _ => ⟨rfl, rfl, rfl⟩⟩

  exact hs

theorem copy_s {x0 x1 x2 x3 : Int} {f0 f1 : Int → Int} (r0 : I64 x0) (r1 : I64 x1) (r2 : I64 x2) (r3 : 0 ≤ x3 ∧ x3 ≤ 42) (s0 : ∀ q, I64 (f0 q)) (s1 : ∀ q, I64 (f1 q)) : Spec Try.prog etalonref08_CopyTrack_s ⟨[x0, x1, x2, x3], [], [f0, f1]⟩ [x0, x1, x2, x3] [] [f0, f1] := by

  obtain ⟨v0, v1, v2, v3, g0, g1, ⟨rfl, rfl, rfl, rfl, rfl, rfl⟩, hs⟩ := ctkb r0 r1 r2 r3 s0 s1 (R := fun a b c d g h => a = x0 ∧ b = x1 ∧ c = x2 ∧ d = x3 ∧ g = f0 ∧ h = f1) ⟨rfl, rfl, rfl, rfl, rfl, rfl⟩

  exact hs

theorem up_nx (h : Int → Int) {q : Int} (hq : 0 ≤ q) : up h (q + 1) = h q := by

  unfold up; rw [if_neg (by omega), show q + 1 - 1 = q by omega]

theorem free_of {x0 x1 x2 x3 : Int} {f0 f1 : Int → Int} (h3 : 0 ≤ x3) (hk : trackIs x0 x1 x2 x3 f0 f1 0 0) (no : ∀ i j, 0 ≤ i → i < j → j ≤ x3 → ¬ contra x0 x1 x2 f0 f1 i j) : Free (tm f0) (lm f1 x2) (um f1 x2) x0 x1 (x3 + 1) := by

  obtain ⟨g1, g2, g3, good⟩ := fine hk

  refine ⟨fun i j h0 h1 h2 => (tmd good h0 h1 (by omega)).1, fun i h0 h1 => (lub good g2 h0 (by omega)).2.1, by omega, ⟨rfl, rfl⟩, fun i j h0 h1 h2 => ?_⟩

  have := no i j h0 h1 (by omega)

  unfold contra at this

  generalize x1 * (tm f0 j - tm f0 i) = a at *

  generalize x0 * (tm f0 j - tm f0 i) = b at *

  omega

/-- Where nothing contradicts, both say the same enclosures. -/

theorem same_of {x0 x1 x2 x3 v e : Int} {f0 f1 g0 g1 h0 h1 : Int → Int} (h3 : 0 ≤ x3) (hk : trackIs x0 x1 x2 x3 f0 f1 0 0) (ht : trackedR x0 x1 x2 x3 f0 f1 v e g0 g1)

    (no : ∀ i j, 0 ≤ i → i < j → j ≤ x3 → ¬ contra x0 x1 x2 f0 f1 i j)

    (hm : ∀ q, 0 ≤ q → q < x3 → IsMax (tm f0) (lm f1 x2) x0 x1 (x3 + 1) (q + 1) (h0 q) ∧ IsMin (tm f0) (um f1 x2) x0 x1 (x3 + 1) (q + 1) (h1 q)) :

    e = 0 ∧ v = x3 ∧ ((∀ q, I64 (g0 q)) ∧ (∀ q, I64 (g1 q))) ∧ ∀ q, 0 ≤ q → q < x3 → g0 q = h0 q ∧ g1 q = h1 q := by

  have fr := free_of h3 hk no

  have z : ∀ h : Int → Int, up h 0 = 0 := fun h => rfl

  have kM : KeptR x0 x1 x2 x3 f0 f1 (up h0) := keptMax fr (z _) fun i i0 i1 => by

    have := (hm (i - 1) (by omega) (by omega)).1

    rw [show i - 1 + 1 = i by omega] at this

    have e := up_nx h0 (q := i - 1) (by omega)

    rw [show i - 1 + 1 = i by omega] at e

    rw [e]; exact this

  have km : KeptR x0 x1 x2 x3 f0 f1 (up h1) := keptMin fr (z _) fun i i0 i1 => by

    have := (hm (i - 1) (by omega) (by omega)).2

    rw [show i - 1 + 1 = i by omega] at this

    have e := up_nx h1 (q := i - 1) (by omega)

    rw [show i - 1 + 1 = i by omega] at e

    rw [e]; exact this

  rcases ht with ⟨he, hv, hb, k0, k1, kb⟩ | ⟨_, _, _, _, none⟩

  · refine ⟨he, hv, hb, fun q q0 q1 => ?_⟩

    have b0 := kb _ kM q q0 q1

    have b1 := kb _ km q q0 q1

    rw [up_nx _ q0] at b0 b1

    obtain ⟨⟨_, i, i0, i1, ei⟩, ⟨_, j, j0, j1, ej⟩⟩ := hm q q0 q1

    have c0 := (keptBetween (i := q + 1) (k := i) fr.z k0 (by omega) (by omega) i0 i1).1

    have c1 := (keptBetween (i := q + 1) (k := j) fr.z k1 (by omega) (by omega) j0 j1).2

    rw [up_nx _ q0] at c0 c1

    omega

  · exact absurd kM (none _)

theorem none_of {x0 x1 x2 x3 v e i j : Int} {f0 f1 g0 g1 : Int → Int} (ht : trackedR x0 x1 x2 x3 f0 f1 v e g0 g1) (i0 : 0 ≤ i) (ij : i < j) (jn : j ≤ x3) (hc : contra x0 x1 x2 f0 f1 i j) : e = 17 ∧ v = 0 := by

  rcases ht with ⟨he, hv, hb, k0, k1, kb⟩ | ⟨he, hv, _⟩

  · have := keptFree ⟨rfl, rfl⟩ k0 i0 ij (show j < x3 + 1 by omega)

    unfold contra at hc

    exfalso

    generalize x1 * (tm f0 j - tm f0 i) = a at *

    generalize x0 * (tm f0 j - tm f0 i) = b at *

    omega

  · exact ⟨he, hv⟩

theorem tracks {x0 x1 x2 x3 : Int} {f0 f1 : Int → Int} (r0 : (-9223372036854775808) ≤ x0 ∧ x0 ≤ 9223372036854775807) (r1 : (-9223372036854775808) ≤ x1 ∧ x1 ≤ 9223372036854775807) (r2 : (-9223372036854775808) ≤ x2 ∧ x2 ≤ 9223372036854775807) (r3 : 0 ≤ x3 ∧ x3 ≤ 9223372036854775807) (s0 : ∀ q, (-9223372036854775808) ≤ f0 q ∧ f0 q ≤ 9223372036854775807) (s1 : ∀ q, (-9223372036854775808) ≤ f1 q ∧ f1 q ≤ 9223372036854775807) :

    Spec Try.prog etalonlaw08_GrowTracks_s ⟨[x0, x1, x2, x3], [], [f0, f1]⟩ [] [true] [] := by

  obtain ⟨a0, rfl, ha⟩ := awake

  suffices hh : ∃ u0 : Bool, u0 = true ∧ Spec Try.prog etalonlaw08_GrowTracks_s ⟨[x0, x1, x2, x3], [], [f0, f1]⟩ [] [u0] [] by

    obtain ⟨u, rfl, hs⟩ := hh

    exact hs

  refine gt r0 r1 r2 r3 s0 s1 (R := (· = true)) ⟨true, ha, fun _ => ⟨fun h3 => ?_, fun h3 => ⟨fun _ => rfl, fun h4 => ⟨fun h5 => ?_, fun _ => rfl⟩⟩⟩, fun h => by cases h⟩

  · have h3 := of_decide_eq_true h3

    obtain ⟨k, e, hk, hc, hr⟩ := checkTracks (x3 := x3) r0 r1 r2 ⟨r3.1, by omega⟩ s0 s1

    have ct := copy_s (x3 := x3) r0 r1 r2 ⟨r3.1, by omega⟩ s0 s1

    have l3 : 0 ≤ x3 ∧ x3 ≤ 140737488355328 := ⟨r3.1, by omega⟩

    by_cases he : e = 0

    · subst he

      have k0 : k = 0 := by rcases hk with ⟨h1, h2, h3⟩ | ⟨h1, ⟨h2, _, _⟩ | ⟨_, _, _, ⟨_, h⟩ | ⟨_, _, h⟩⟩⟩ <;> omega

      subst k0

      obtain ⟨v, e, g0, g1, ht, hts⟩ := tracked (x3 := x3) r0 r1 r2 ⟨r3.1, by omega⟩ s0 s1 hk

      obtain ⟨a, b, e2, hcp, hcs⟩ := contradiction (x3 := x3) r0 r1 r2 ⟨r3.1, by omega⟩ s0 s1 hk

      obtain ⟨v', u, h0, h1, hrt, hrs⟩ := rTracked (x3 := x3) r0 r1 r2 ⟨r3.1, by omega⟩ s0 s1 hk

      obtain ⟨a', b', u', hrc, hrcs⟩ := rContradiction (x3 := x3) r0 r1 r2 ⟨r3.1, by omega⟩ s0 s1 hk

      rcases hrt with ⟨hu, hv', i, j, i0, ij, jn, hij⟩ | ⟨hu, hv', ⟨hb0, hb1⟩, no, hm⟩

      · subst hu hv'

        obtain ⟨he, hv⟩ := none_of ht i0 ij jn hij

        subst he hv

        have hu' : u' = true := by

          rcases hrc with ⟨h, _⟩ | ⟨_, _, _, h⟩

          · exact h

          · exact absurd hij (h i j i0 ij jn)

        subst hu'

        have h2 : e2 = 0 ∧ a = a' ∧ b = b' := by

          rcases hcp with ⟨h, g⟩ | ⟨_, g⟩

          · have := contraR_uniq g hrc; exact ⟨h, this.1, this.2.1⟩

          · have := (contraR_uniq g hrc).2.2; cases this

        obtain ⟨rfl, rfl, rfl⟩ := h2

        refine ⟨_, _, _, _, _, _, ct, l3, _, _, hc, _, _, _, _, _, _, ct, l3, _, _, _, _, hts, ⟨by omega, by omega⟩, _, _, _, _, _, _, ct, l3, _, _, _, hcs, _, _, hr, fun _ => ⟨fun _ => ⟨fun _ => ⟨_, _, _, _, hrs, ⟨by omega, by omega⟩, _, _, _, hrcs, fun h => (by cases h), fun _ => ⟨fun _ => ⟨fun _ => ⟨fun _ => ⟨fun _ => ?_, fun h => by simp at h⟩, fun h => by simp at h⟩, fun h => by simp at h⟩, fun h => by cases h⟩⟩, fun h => by simp at h⟩, fun h => by simp at h⟩, fun h => by simp at h⟩

        simp

      · subst hu hv'

        obtain ⟨he, hv, ⟨b0, b1⟩, hq⟩ := same_of r3.1 hk ht no hm

        subst he

        subst hv

        have hu' : u' = false := by

          rcases hrc with ⟨_, ⟨q1, q2, q3⟩, g, _⟩ | ⟨h, _⟩

          · exact absurd g (no _ _ (by omega) (by omega) (by omega))

          · exact h

        subst hu'

        have h2 : e2 = 17 ∧ a = 0 ∧ b = 0 := by

          rcases hcp with ⟨_, g⟩ | ⟨h, g⟩

          · have := (contraR_uniq g hrc).2.2; cases this

          · rcases g with ⟨g, _⟩ | ⟨_, g1, g2, _⟩

            · cases g

            · exact ⟨h, g1, g2⟩

        obtain ⟨rfl, rfl, rfl⟩ := h2

        refine ⟨_, _, _, _, _, _, ct, l3, _, _, hc, _, _, _, _, _, _, ct, l3, _, _, _, _, hts, ⟨by omega, by omega⟩, _, _, _, _, _, _, ct, l3, _, _, _, hcs, _, _, hr, fun _ => ⟨fun _ => ⟨fun _ => ⟨_, _, _, _, hrs, l3, _, _, _, hrcs, fun _ => ⟨fun h => (by cases h), fun _ => ⟨fun _ => ⟨_, ranges_s l3 b0 b1 hb0 hb1 hq, fun _ => ⟨fun _ => rfl, fun h => by simp at h⟩, fun h => by cases h⟩, fun h => by simp at h⟩⟩, fun h => by cases h⟩, fun h => by simp at h⟩, fun h => by simp at h⟩, fun h => by simp at h⟩

    · refine ⟨_, _, _, _, _, _, ct, l3, _, _, hc, _, _, _, _, _, _, ct, l3, _, _, _, _, tracked_no r0 r1 r2 ⟨r3.1, by omega⟩ s0 s1 hk he, ⟨by omega, by omega⟩, _, _, _, _, _, _, ct, l3, _, _, _, contra_no r0 r1 r2 ⟨r3.1, by omega⟩ s0 s1 hk he, _, _, hr, fun _ => ⟨fun _ => ⟨fun h => absurd (eq_of_beq h) he, fun _ => ⟨fun _ => ⟨fun _ => ⟨fun _ => ?_, fun h => by simp at h⟩, fun h => by simp at h⟩, fun h => by simp at h⟩⟩, fun h => by simp at h⟩, fun h => by simp at h⟩

      simp

  · have h4 := of_decide_eq_false h4

    have h5 := of_decide_eq_true h5

    obtain ⟨k, e, hk, hc, hr⟩ := checkTracks (x3 := x3) r0 r1 r2 ⟨r3.1, by omega⟩ s0 s1

    have ct := copy_s (x3 := x3) r0 r1 r2 ⟨r3.1, by omega⟩ s0 s1

    have l3 : 0 ≤ x3 ∧ x3 ≤ 140737488355328 := ⟨r3.1, by omega⟩

    have he : e ≠ 0 := by

      intro h

      subst h

      have k0 : k = 0 := by rcases hk with ⟨h1, h2, h3⟩ | ⟨h1, ⟨h2, _, _⟩ | ⟨_, _, _, ⟨_, h⟩ | ⟨_, _, h⟩⟩⟩ <;> omega

      subst k0

      have := (fine hk).2.2.1

      omega

    refine ⟨_, _, _, _, _, _, ct, l3, _, _, hc, _, _, _, _, _, _, ct, l3, _, _, _, _, tracked_no r0 r1 r2 ⟨r3.1, by omega⟩ s0 s1 hk he, ⟨by omega, by omega⟩, _, _, _, _, _, _, ct, l3, _, _, _, contra_no r0 r1 r2 ⟨r3.1, by omega⟩ s0 s1 hk he, _, _, hr, fun _ => ⟨fun _ => ⟨fun h => absurd (eq_of_beq h) he, fun _ => ⟨fun _ => ⟨fun _ => ⟨fun _ => ?_, fun h => by simp at h⟩, fun h => by simp at h⟩, fun h => by simp at h⟩⟩, fun h => by simp at h⟩, fun h => by simp at h⟩

    simp

end Go.Proofs.Ytikekimiionllaa.Ev
