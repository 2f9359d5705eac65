/- Balls: what the laws call. -/
import Derived.Test.YtgdlddmbfockpaaFbr
namespace Go.Proofs.Ytgdlddmbfockpaa.Ev
set_option linter.unusedSimpArgs false
open Go Go.RowKit
set_option linter.unusedVariables false
set_option maxRecDepth 100000
def etalonlaw01_awake_s : Sig := ⟨8, ⟨0, 0, 0⟩, ⟨0, 1, 0⟩, [], [], (.bool (.var 0)), []⟩
def _etalonlaw01_Whole__ball_s : Sig := ⟨9, ⟨3, 0, 0⟩, ⟨3, 0, 0⟩, [(.agg [(.int .i64 (.var 0)), (.int .i64 (.var 1)), (.int .i64 (.var 2))])], [], (.agg [(.complex .f64 (.var 3) (.var 4)), (.int .i64 (.var 5))]), []⟩
def _etalonlaw01_Whole__err_s : Sig := ⟨14, ⟨3, 0, 0⟩, ⟨1, 0, 0⟩, [(.agg [(.int .i64 (.var 0)), (.int .i64 (.var 1)), (.int .i64 (.var 2))])], [], (.int .i64 (.var 3)), []⟩
def _etalonlaw01_Whole__two_s : Sig := ⟨25, ⟨6, 0, 0⟩, ⟨1, 0, 0⟩, [(.agg [(.int .i64 (.var 0)), (.int .i64 (.var 1)), (.int .i64 (.var 2))]), (.agg [(.int .i64 (.var 3)), (.int .i64 (.var 4)), (.int .i64 (.var 5))])], [], (.int .i64 (.var 6)), []⟩
def etalonref01_Of_s : Sig := ⟨17, ⟨3, 0, 0⟩, ⟨3, 0, 0⟩, [(.agg [(.complex .f64 (.var 0) (.var 1)), (.int .i64 (.var 2))])], [], (.agg [(.int .i64 (.var 3)), (.int .i64 (.var 4)), (.int .i64 (.var 5))]), []⟩
def _etalonref01_B__Ball_s : Sig := ⟨54, ⟨3, 0, 0⟩, ⟨3, 0, 0⟩, [(.agg [(.int .i64 (.var 0)), (.int .i64 (.var 1)), (.int .i64 (.var 2))])], [], (.agg [(.complex .f64 (.var 3) (.var 4)), (.int .i64 (.var 5))]), []⟩
def etalonbase_SameBall_s : Sig := ⟨27, ⟨6, 0, 0⟩, ⟨0, 1, 0⟩, [(.agg [(.complex .f64 (.var 0) (.var 1)), (.int .i64 (.var 2))]), (.agg [(.complex .f64 (.var 3) (.var 4)), (.int .i64 (.var 5))])], [], (.bool (.var 0)), []⟩
def etalonlaw01_is_s : Sig := ⟨15, ⟨8, 0, 0⟩, ⟨0, 1, 0⟩, [(.agg [(.complex .f64 (.var 0) (.var 1)), (.int .i64 (.var 2))]), (.int .i64 (.var 3)), (.agg [(.int .i64 (.var 4)), (.int .i64 (.var 5)), (.int .i64 (.var 6))]), (.int .i64 (.var 7))], [], (.bool (.var 0)), []⟩

def aw_t : Tr :=
  (.ret ⟨[], [(.lit true)], []⟩ [])
theorem aw {R : Bool → Prop}
  (H : R (true)) :
    ∃ u0 : Bool, R u0 ∧ Spec Try.prog etalonlaw01_awake_s ⟨[], [], []⟩ [] [u0] [] :=
  Eq.mp (by kernel_rfl) (exV_of (K := fun d => app3 etalonlaw01_awake_s.out R d ∧ Spec Try.prog etalonlaw01_awake_s ⟨[], [], []⟩ d.1 d.2.1 d.2.2) (tree_at mixed names S1_ok (S := S1 Try.prog) (lf := 100000) (d := 60) etalonlaw01_awake_s aw_t { ivs := [], aivs := [] } ⟨[], [], []⟩ rfl (by kernel_rfl) (by kernel_rfl) (by kernel_rfl) ⟨fz, fz, fz, fz⟩ (R := fun d => app3 etalonlaw01_awake_s.out R d) (Eq.mp (by kernel_rfl) H)))

def lwb_t : Tr :=
  (.ret ⟨[(.toF .f64 (.bin .maxI (.lit (-9007199254740992)) (.bin .minI (.lit 9007199254740992) (.var 0)))), (.toF .f64 (.bin .maxI (.lit (-9007199254740992)) (.bin .minI (.lit 9007199254740992) (.var 1)))), (.var 2)], [], []⟩ [])
theorem lwb {x0 x1 x2 : Int} (r0 : (-9223372036854775808) ≤ x0 ∧ x0 ≤ 9223372036854775807) (r1 : (-9223372036854775808) ≤ x1 ∧ x1 ≤ 9223372036854775807) (r2 : (-9223372036854775808) ≤ x2 ∧ x2 ≤ 9223372036854775807) {R : Int → Int → Int → Prop}
  (H : R (((FloatKind.f64.nearest (if ((if (x0 : Int) < 9007199254740992 then x0 else 9007199254740992) : Int) > (-9007199254740992) then (if (x0 : Int) < 9007199254740992 then x0 else 9007199254740992) else (-9007199254740992)) : Nat) : Int)) (((FloatKind.f64.nearest (if ((if (x1 : Int) < 9007199254740992 then x1 else 9007199254740992) : Int) > (-9007199254740992) then (if (x1 : Int) < 9007199254740992 then x1 else 9007199254740992) else (-9007199254740992)) : Nat) : Int)) (x2)) :
    ∃ v0 : Int, ∃ v1 : Int, ∃ v2 : Int, R v0 v1 v2 ∧ Spec Try.prog _etalonlaw01_Whole__ball_s ⟨[x0, x1, x2], [], []⟩ [v0, v1, v2] [] [] :=
  Eq.mp (by kernel_rfl) (exV_of (K := fun d => app3 _etalonlaw01_Whole__ball_s.out R d ∧ Spec Try.prog _etalonlaw01_Whole__ball_s ⟨[x0, x1, x2], [], []⟩ d.1 d.2.1 d.2.2) (tree_at mixed names S1_ok (S := S1 Try.prog) (lf := 100000) (d := 60) _etalonlaw01_Whole__ball_s lwb_t { ivs := [(0, (-9223372036854775808), 9223372036854775807), (1, (-9223372036854775808), 9223372036854775807), (2, (-9223372036854775808), 9223372036854775807)], aivs := [] } ⟨[x0, x1, x2], [], []⟩ rfl (by kernel_rfl) (by kernel_rfl) (by kernel_rfl) ⟨(fc r0 (fc r1 (fc r2 fz))), fz, fz, fz⟩ (R := fun d => app3 _etalonlaw01_Whole__ball_s.out R d) (Eq.mp (by kernel_rfl) H)))

def lwe_t : Tr :=
  (.call _etalonlaw01_Whole__ball_s ⟨[(.var 0), (.var 1), (.var 2)], [], []⟩ ⟨[(.var 0), (.var 1), (.var 2), (.var 3), (.var 4), (.var 5)], [], []⟩ ⟨9, [(.agg [(.int .i64 (.var 0)), (.int .i64 (.var 1)), (.int .i64 (.var 2))])], [], [none], (.agg [(.complex .f64 (.var 3) (.var 4)), (.int .i64 (.var 5))]), []⟩
  (.call etalonref01_CheckBall_s ⟨[(.var 3), (.var 4), (.var 5)], [], []⟩ ⟨[(.var 3), (.var 4), (.var 5), (.var 6)], [], []⟩ ⟨53, [(.agg [(.complex .f64 (.var 3) (.var 4)), (.int .i64 (.var 5))])], [], [none], (.int .i64 (.var 6)), []⟩
  (.ret ⟨[(.var 6)], [], []⟩ [])))
theorem lwe {x0 x1 x2 : Int} (r0 : (-9223372036854775808) ≤ x0 ∧ x0 ≤ 9223372036854775807) (r1 : (-9223372036854775808) ≤ x1 ∧ x1 ≤ 9223372036854775807) (r2 : (-9223372036854775808) ≤ x2 ∧ x2 ≤ 9223372036854775807) {R : Int → Prop}
  (H : (∃ v3 : Int, ∃ v4 : Int, ∃ v5 : Int, Spec Try.prog _etalonlaw01_Whole__ball_s ⟨[x0, x1, x2], [], []⟩ [v3, v4, v5] [] [] ∧
   (∃ v6 : Int, Spec Try.prog etalonref01_CheckBall_s ⟨[v3, v4, v5], [], []⟩ [v6] [] [] ∧
   R (v6)))) :
    ∃ v0 : Int, R v0 ∧ Spec Try.prog _etalonlaw01_Whole__err_s ⟨[x0, x1, x2], [], []⟩ [v0] [] [] :=
  Eq.mp (by kernel_rfl) (exV_of (K := fun d => app3 _etalonlaw01_Whole__err_s.out R d ∧ Spec Try.prog _etalonlaw01_Whole__err_s ⟨[x0, x1, x2], [], []⟩ d.1 d.2.1 d.2.2) (tree_at mixed names S1_ok (S := S1 Try.prog) (lf := 100000) (d := 60) _etalonlaw01_Whole__err_s lwe_t { ivs := [(0, (-9223372036854775808), 9223372036854775807), (1, (-9223372036854775808), 9223372036854775807), (2, (-9223372036854775808), 9223372036854775807)], aivs := [] } ⟨[x0, x1, x2], [], []⟩ rfl (by kernel_rfl) (by kernel_rfl) (by kernel_rfl) ⟨(fc r0 (fc r1 (fc r2 fz))), fz, fz, fz⟩ (R := fun d => app3 _etalonlaw01_Whole__err_s.out R d) (Eq.mp (by kernel_rfl) H)))

def lwt_t : Tr :=
  (.call _etalonlaw01_Whole__err_s ⟨[(.var 0), (.var 1), (.var 2)], [], []⟩ ⟨[(.var 0), (.var 1), (.var 2), (.var 6)], [], []⟩ ⟨14, [(.agg [(.int .i64 (.var 0)), (.int .i64 (.var 1)), (.int .i64 (.var 2))])], [], [none, none], (.int .i64 (.var 6)), []⟩
  (.ite (.icmp .eql (.var 6) (.lit 0))
  (.call _etalonlaw01_Whole__err_s ⟨[(.var 3), (.var 4), (.var 5)], [], []⟩ ⟨[(.var 3), (.var 4), (.var 5), (.var 7)], [], []⟩ ⟨14, [(.agg [(.int .i64 (.var 3)), (.int .i64 (.var 4)), (.int .i64 (.var 5))])], [], [none, none], (.int .i64 (.var 7)), []⟩
   (.ret ⟨[(.var 7)], [], []⟩ []))
  (.ret ⟨[(.var 6)], [], []⟩ [])))
theorem lwt {x0 x1 x2 x3 x4 x5 : Int} (r0 : (-9223372036854775808) ≤ x0 ∧ x0 ≤ 9223372036854775807) (r1 : (-9223372036854775808) ≤ x1 ∧ x1 ≤ 9223372036854775807) (r2 : (-9223372036854775808) ≤ x2 ∧ x2 ≤ 9223372036854775807) (r3 : (-9223372036854775808) ≤ x3 ∧ x3 ≤ 9223372036854775807) (r4 : (-9223372036854775808) ≤ x4 ∧ x4 ≤ 9223372036854775807) (r5 : (-9223372036854775808) ≤ x5 ∧ x5 ≤ 9223372036854775807) {R : Int → Prop}
  (H : (∃ v6 : Int, Spec Try.prog _etalonlaw01_Whole__err_s ⟨[x0, x1, x2], [], []⟩ [v6] [] [] ∧
   ((((v6 : Int) == 0) = true → (∃ v7 : Int, Spec Try.prog _etalonlaw01_Whole__err_s ⟨[x3, x4, x5], [], []⟩ [v7] [] [] ∧
    R (v7))) ∧
   (((v6 : Int) == 0) = false → R (v6))))) :
    ∃ v0 : Int, R v0 ∧ Spec Try.prog _etalonlaw01_Whole__two_s ⟨[x0, x1, x2, x3, x4, x5], [], []⟩ [v0] [] [] :=
  Eq.mp (by kernel_rfl) (exV_of (K := fun d => app3 _etalonlaw01_Whole__two_s.out R d ∧ Spec Try.prog _etalonlaw01_Whole__two_s ⟨[x0, x1, x2, x3, x4, x5], [], []⟩ d.1 d.2.1 d.2.2) (tree_at mixed names S1_ok (S := S1 Try.prog) (lf := 100000) (d := 60) _etalonlaw01_Whole__two_s lwt_t { ivs := [(0, (-9223372036854775808), 9223372036854775807), (1, (-9223372036854775808), 9223372036854775807), (2, (-9223372036854775808), 9223372036854775807), (3, (-9223372036854775808), 9223372036854775807), (4, (-9223372036854775808), 9223372036854775807), (5, (-9223372036854775808), 9223372036854775807)], aivs := [] } ⟨[x0, x1, x2, x3, x4, x5], [], []⟩ rfl (by kernel_rfl) (by kernel_rfl) (by kernel_rfl) ⟨(fc r0 (fc r1 (fc r2 (fc r3 (fc r4 (fc r5 fz)))))), fz, fz, fz⟩ (R := fun d => app3 _etalonlaw01_Whole__two_s.out R d) (Eq.mp (by kernel_rfl) H)))

def lof_t : Tr :=
  (.whole 0 9007199254740992 (.rng 3 (-9007199254740992) 9007199254740992 (.whole 1 9007199254740992 (.rng 4 (-9007199254740992) 9007199254740992 (.ret ⟨[(.var 3), (.var 4), (.var 2)], [], []⟩ [])))))
theorem lof {x0 x1 x2 : Int} (r2 : (-9223372036854775808) ≤ x2 ∧ x2 ≤ 9223372036854775807) {R : Int → Int → Int → Prop}
  (H : (∃ v3 : Int, (Rp (x0 : Int).toNat v3 ∧ v3.natAbs ≤ 9007199254740992) ∧ (((-9007199254740992) ≤ (v3 : Int) ∧ (v3 : Int) ≤ 9007199254740992) ∧ (∃ v4 : Int, (Rp (x1 : Int).toNat v4 ∧ v4.natAbs ≤ 9007199254740992) ∧ (((-9007199254740992) ≤ (v4 : Int) ∧ (v4 : Int) ≤ 9007199254740992) ∧ R (v3) (v4) (x2)))))) :
    ∃ v0 : Int, ∃ v1 : Int, ∃ v2 : Int, R v0 v1 v2 ∧ Spec Try.prog etalonref01_Of_s ⟨[x0, x1, x2], [], []⟩ [v0, v1, v2] [] [] :=
  Eq.mp (by kernel_rfl) (exV_of (K := fun d => app3 etalonref01_Of_s.out R d ∧ Spec Try.prog etalonref01_Of_s ⟨[x0, x1, x2], [], []⟩ d.1 d.2.1 d.2.2) (tree_at mixed names S1_ok (S := S1 Try.prog) (lf := 100000) (d := 60) etalonref01_Of_s lof_t { ivs := [(2, (-9223372036854775808), 9223372036854775807)], aivs := [] } ⟨[x0, x1, x2], [], []⟩ rfl (by kernel_rfl) (by kernel_rfl) (by kernel_rfl) ⟨(fc r2 fz), fz, fz, fz⟩ (R := fun d => app3 etalonref01_Of_s.out R d) (Eq.mp (by kernel_rfl) H)))

def lbb_t : Tr :=
  (.ret ⟨[(.toF .f64 (.var 0)), (.toF .f64 (.var 1)), (.var 2)], [], []⟩ [])
theorem lbb {x0 x1 x2 : Int} (r0 : (-9223372036854775808) ≤ x0 ∧ x0 ≤ 9223372036854775807) (r1 : (-9223372036854775808) ≤ x1 ∧ x1 ≤ 9223372036854775807) (r2 : (-9223372036854775808) ≤ x2 ∧ x2 ≤ 9223372036854775807) {R : Int → Int → Int → Prop}
  (H : R (((FloatKind.f64.nearest x0 : Nat) : Int)) (((FloatKind.f64.nearest x1 : Nat) : Int)) (x2)) :
    ∃ v0 : Int, ∃ v1 : Int, ∃ v2 : Int, R v0 v1 v2 ∧ Spec Try.prog _etalonref01_B__Ball_s ⟨[x0, x1, x2], [], []⟩ [v0, v1, v2] [] [] :=
  Eq.mp (by kernel_rfl) (exV_of (K := fun d => app3 _etalonref01_B__Ball_s.out R d ∧ Spec Try.prog _etalonref01_B__Ball_s ⟨[x0, x1, x2], [], []⟩ d.1 d.2.1 d.2.2) (tree_at mixed names S1_ok (S := S1 Try.prog) (lf := 100000) (d := 60) _etalonref01_B__Ball_s lbb_t { ivs := [(0, (-9223372036854775808), 9223372036854775807), (1, (-9223372036854775808), 9223372036854775807), (2, (-9223372036854775808), 9223372036854775807)], aivs := [] } ⟨[x0, x1, x2], [], []⟩ rfl (by kernel_rfl) (by kernel_rfl) (by kernel_rfl) ⟨(fc r0 (fc r1 (fc r2 fz))), fz, fz, fz⟩ (R := fun d => app3 _etalonref01_B__Ball_s.out R d) (Eq.mp (by kernel_rfl) H)))

def lsb_t : Tr :=
  (.ite (.icmp .eql (.bin .maxI (.var 0) (.lit 0)) (.bin .maxI (.var 3) (.lit 0)))
  (.ite (.icmp .eql (.bin .maxI (.var 1) (.lit 0)) (.bin .maxI (.var 4) (.lit 0)))
   (.ret ⟨[], [(.icmp .eql (.var 2) (.var 5))], []⟩ [])
   (.ret ⟨[], [(.lit false)], []⟩ []))
  (.ret ⟨[], [(.lit false)], []⟩ []))
theorem lsb {x0 x1 x2 x3 x4 x5 : Int} (r2 : (-9223372036854775808) ≤ x2 ∧ x2 ≤ 9223372036854775807) (r5 : (-9223372036854775808) ≤ x5 ∧ x5 ≤ 9223372036854775807) {R : Bool → Prop}
  (H : (((((if (0 : Int) > x0 then 0 else x0) : Int) == (if (0 : Int) > x3 then 0 else x3)) = true → (((((if (0 : Int) > x1 then 0 else x1) : Int) == (if (0 : Int) > x4 then 0 else x4)) = true → R (((x2 : Int) == x5))) ∧
    ((((if (0 : Int) > x1 then 0 else x1) : Int) == (if (0 : Int) > x4 then 0 else x4)) = false → R (false)))) ∧
   ((((if (0 : Int) > x0 then 0 else x0) : Int) == (if (0 : Int) > x3 then 0 else x3)) = false → R (false)))) :
    ∃ u0 : Bool, R u0 ∧ Spec Try.prog etalonbase_SameBall_s ⟨[x0, x1, x2, x3, x4, x5], [], []⟩ [] [u0] [] :=
  Eq.mp (by kernel_rfl) (exV_of (K := fun d => app3 etalonbase_SameBall_s.out R d ∧ Spec Try.prog etalonbase_SameBall_s ⟨[x0, x1, x2, x3, x4, x5], [], []⟩ d.1 d.2.1 d.2.2) (tree_at mixed names S1_ok (S := S1 Try.prog) (lf := 100000) (d := 60) etalonbase_SameBall_s lsb_t { ivs := [(2, (-9223372036854775808), 9223372036854775807), (5, (-9223372036854775808), 9223372036854775807)], aivs := [] } ⟨[x0, x1, x2, x3, x4, x5], [], []⟩ rfl (by kernel_rfl) (by kernel_rfl) (by kernel_rfl) ⟨(fc r2 (fc r5 fz)), fz, fz, fz⟩ (R := fun d => app3 etalonbase_SameBall_s.out R d) (Eq.mp (by kernel_rfl) H)))

def lis_t : Tr :=
  (.ite (.icmp .eql (.var 3) (.var 7))
  (.call _etalonref01_B__Ball_s ⟨[(.var 4), (.var 5), (.var 6)], [], []⟩ ⟨[(.var 4), (.var 5), (.var 6), (.var 8), (.var 9), (.var 10)], [], []⟩ ⟨54, [(.agg [(.int .i64 (.var 4)), (.int .i64 (.var 5)), (.int .i64 (.var 6))])], [], [none, none], (.agg [(.complex .f64 (.var 8) (.var 9)), (.int .i64 (.var 10))]), []⟩
   (.call etalonbase_SameBall_s ⟨[(.var 0), (.var 1), (.var 2), (.var 8), (.var 9), (.var 10)], [], []⟩ ⟨[(.var 0), (.var 1), (.var 2), (.var 8), (.var 9), (.var 10)], [(.var 0)], []⟩ ⟨27, [(.agg [(.complex .f64 (.var 0) (.var 1)), (.int .i64 (.var 2))]), (.agg [(.complex .f64 (.var 8) (.var 9)), (.int .i64 (.var 10))])], [], [none, none], (.bool (.var 0)), []⟩
   (.ret ⟨[], [(.var 0)], []⟩ [])))
  (.ret ⟨[], [(.lit false)], []⟩ []))
theorem lis {x0 x1 x2 x3 x4 x5 x6 x7 : Int} (r2 : (-9223372036854775808) ≤ x2 ∧ x2 ≤ 9223372036854775807) (r3 : (-9223372036854775808) ≤ x3 ∧ x3 ≤ 9223372036854775807) (r4 : (-9223372036854775808) ≤ x4 ∧ x4 ≤ 9223372036854775807) (r5 : (-9223372036854775808) ≤ x5 ∧ x5 ≤ 9223372036854775807) (r6 : (-9223372036854775808) ≤ x6 ∧ x6 ≤ 9223372036854775807) (r7 : (-9223372036854775808) ≤ x7 ∧ x7 ≤ 9223372036854775807) {R : Bool → Prop}
  (H : ((((x3 : Int) == x7) = true → (∃ v8 : Int, ∃ v9 : Int, ∃ v10 : Int, Spec Try.prog _etalonref01_B__Ball_s ⟨[x4, x5, x6], [], []⟩ [v8, v9, v10] [] [] ∧
    (∃ u0 : Bool, Spec Try.prog etalonbase_SameBall_s ⟨[x0, x1, x2, v8, v9, v10], [], []⟩ [] [u0] [] ∧
    R (u0)))) ∧
   (((x3 : Int) == x7) = false → R (false)))) :
    ∃ u0 : Bool, R u0 ∧ Spec Try.prog etalonlaw01_is_s ⟨[x0, x1, x2, x3, x4, x5, x6, x7], [], []⟩ [] [u0] [] :=
  Eq.mp (by kernel_rfl) (exV_of (K := fun d => app3 etalonlaw01_is_s.out R d ∧ Spec Try.prog etalonlaw01_is_s ⟨[x0, x1, x2, x3, x4, x5, x6, x7], [], []⟩ d.1 d.2.1 d.2.2) (tree_at mixed names S1_ok (S := S1 Try.prog) (lf := 100000) (d := 60) etalonlaw01_is_s lis_t { ivs := [(2, (-9223372036854775808), 9223372036854775807), (3, (-9223372036854775808), 9223372036854775807), (4, (-9223372036854775808), 9223372036854775807), (5, (-9223372036854775808), 9223372036854775807), (6, (-9223372036854775808), 9223372036854775807), (7, (-9223372036854775808), 9223372036854775807)], aivs := [] } ⟨[x0, x1, x2, x3, x4, x5, x6, x7], [], []⟩ rfl (by kernel_rfl) (by kernel_rfl) (by kernel_rfl) ⟨(fc r2 (fc r3 (fc r4 (fc r5 (fc r6 (fc r7 fz)))))), fz, fz, fz⟩ (R := fun d => app3 etalonlaw01_is_s.out R d) (Eq.mp (by kernel_rfl) H)))

theorem awake1 : ∃ u : Bool, u = true ∧ Spec Try.prog etalonlaw01_awake_s ⟨[], [], []⟩ [] [u] [] := aw (R := (· = true)) rfl

theorem outt {P : Program} {S : Sig} {V : Vs} {u : Bool} (h : ∃ b : Bool, b = u ∧ Spec P S V [] [b] []) : Spec P S V [] [u] [] := by

  obtain ⟨b, rfl, hs⟩ := h

  exact hs

theorem awake_t : Spec Try.prog etalonlaw01_awake_s ⟨[], [], []⟩ [] [true] [] := outt awake1

def cutI (x : Int) : Int := if (if x < 9007199254740992 then x else 9007199254740992) > (-9007199254740992) then (if x < 9007199254740992 then x else 9007199254740992) else (-9007199254740992)

theorem cutI_F (x : Int) : InF (cutI x) := by unfold cutI InF; split <;> split <;> omega

theorem cutI_id {x : Int} (h : InF x) : cutI x = x := by unfold InF at h; unfold cutI; split <;> split <;> omega

theorem U_fi {x : Int} (h : InF x) : U (fi x) := fi_lt x h

theorem wball_s {x y r : Int} (hx : I64 x) (hy : I64 y) (hr : I64 r) : Spec Try.prog _etalonlaw01_Whole__ball_s ⟨[x, y, r], [], []⟩ [((fi (cutI x) : Nat) : Int), ((fi (cutI y) : Nat) : Int), r] [] [] :=

  outb3 (lwb hx hy hr (R := fun a b c => a = ((fi (cutI x) : Nat) : Int) ∧ b = ((fi (cutI y) : Nat) : Int) ∧ c = r) ⟨rfl, rfl, rfl⟩)

theorem werr_s {x y r : Int} (hx : I64 x) (hy : I64 y) (hr : I64 r) : Spec Try.prog _etalonlaw01_Whole__err_s ⟨[x, y, r], [], []⟩ [ckW (cutI x) (cutI y) r] [] [] :=

  out1 (lwe hx hy hr (R := (· = ckW (cutI x) (cutI y) r)) ⟨_, _, _, wball_s hx hy hr, _, checkBall_r (U_fi (cutI_F x)) (U_fi (cutI_F y)) hr, ckB_rp (Rp_fi _) (Rp_fi _) (cutI_F x) (cutI_F y)⟩)

theorem wtwo_s {x y r z w s : Int} (hx : I64 x) (hy : I64 y) (hr : I64 r) (hz : I64 z) (hw : I64 w) (hs : I64 s) : Spec Try.prog _etalonlaw01_Whole__two_s ⟨[x, y, r, z, w, s], [], []⟩ [fe (ckW (cutI x) (cutI y) r) (ckW (cutI z) (cutI w) s)] [] [] := by

  refine out1 (lwt hx hy hr hz hw hs (R := (· = fe (ckW (cutI x) (cutI y) r) (ckW (cutI z) (cutI w) s))) ⟨_, werr_s hx hy hr, ?_⟩)

  simp only [beq_iff_eq, beq_eq_false_iff_ne, ne_eq]

  unfold fe

  exact ⟨fun h => ⟨_, werr_s hz hw hs, by rw [if_pos h]⟩, fun h => by rw [if_neg h]⟩

theorem of_s {a b : Nat} {X Y r : Int} (pa : Rp a X) (pb : Rp b Y) (hx : InF X) (hy : InF Y) (hr : I64 r) : Spec Try.prog etalonref01_Of_s ⟨[(a : Int), (b : Int), r], [], []⟩ [X, Y, r] [] [] :=

  outb3 (lof (x0 := (a : Int)) (x1 := (b : Int)) hr (R := fun p q c => p = X ∧ q = Y ∧ c = r) ⟨X, ⟨pa, by have := hx.1; have := hx.2; omega⟩, ⟨hx.1, hx.2⟩, Y, ⟨pb, by have := hy.1; have := hy.2; omega⟩, ⟨hy.1, hy.2⟩, rfl, rfl, rfl⟩)

theorem rball_s {x y r : Int} (hx : I64 x) (hy : I64 y) (hr : I64 r) : Spec Try.prog _etalonref01_B__Ball_s ⟨[x, y, r], [], []⟩ [F x, F y, r] [] [] :=

  outb3 (lbb hx hy hr (R := fun a b c => a = F x ∧ b = F y ∧ c = r) ⟨rfl, rfl, rfl⟩)

theorem same_s {x y r : Int} (hr : I64 r) : Spec Try.prog etalonbase_SameBall_s ⟨[x, y, r, x, y, r], [], []⟩ [] [true] [] := by

  refine outt (lsb hr hr (R := (· = true)) ⟨fun _ => ⟨fun _ => by simp, fun h => by simp at h⟩, fun h => by simp at h⟩)

theorem is_s {x y r e : Int} (hx : I64 x) (hy : I64 y) (hr : I64 r) (he : I64 e) : Spec Try.prog etalonlaw01_is_s ⟨[F x, F y, r, e, x, y, r, e], [], []⟩ [] [true] [] := by

  refine outt (lis hr he hx hy hr he (R := (· = true)) ⟨fun _ => ⟨_, _, _, rball_s hx hy hr, _, same_s hr, rfl⟩, fun h => by simp at h⟩)

/-- A result within the limits. -/

structure BqN (q : Bq) : Prop where

  hx : (-67108864) ≤ q.x ∧ q.x ≤ 67108864

  hy : (-67108864) ≤ q.y ∧ q.y ≤ 67108864

  hr : 0 ≤ q.r ∧ q.r ≤ 67108864

  he : 0 ≤ q.e ∧ q.e ≤ 100

theorem bk_n {x y r : Int} (h : 0 ≤ r) : BqN (bk x y r) := by

  unfold bk

  by_cases g : okB x y r

  · rw [if_pos g]; exact ⟨g.1, g.2.1, ⟨h, g.2.2⟩, by dsimp only; omega⟩

  · rw [if_neg g]; exact ⟨by dsimp only; omega, by dsimp only; omega, by dsimp only; omega, by dsimp only; omega⟩

theorem be_n {e : Int} (h : 0 ≤ e ∧ e ≤ 100) : BqN (be e) := ⟨by dsimp only [be]; omega, by dsimp only [be]; omega, by dsimp only [be]; omega, h⟩

theorem cdiv_nn {n d : Int} (hd : 0 < d) (h : 0 ≤ n) : 0 ≤ cdiv n d := by

  have e := cdiv_spec' n hd

  rcases Int.lt_or_le (cdiv n d) 0 with g | g

  · have : d * cdiv n d ≤ d * (-1) := Int.mul_le_mul_of_nonneg_left (by omega) (by omega)

    omega

  · exact g

theorem cdiv_rng' {n d M : Int} (hd : 1 ≤ d) (h0 : 0 ≤ n) (h1 : n ≤ M) : 0 ≤ cdiv n d ∧ cdiv n d ≤ M := by

  have e := cdiv_spec' n (show 0 < d by omega)

  refine ⟨cdiv_nn (by omega) h0, ?_⟩

  rcases Int.lt_or_le M (cdiv n d) with g | g

  · have : 1 * M ≤ d * (cdiv n d - 1) := Int.mul_le_mul hd (by omega) (by omega) (by omega)

    omega

  · exact g

theorem mo_nn {u v : Bool} {c : Int} (h : 0 ≤ c) : 0 ≤ mo u v c := by unfold mo; split <;> omega

theorem ckW_v (X Y r : Int) : ckW X Y r = 0 ∨ ckW X Y r = 2 := by unfold ckW; split <;> simp

theorem fe_v {a b : Int} (h : a = 0 ∨ a = 2) (g : b = 0 ∨ b = 2) : fe a b = 0 ∨ fe a b = 2 := by unfold fe; split <;> omega

theorem times_n {r s X Y Z W : Int} (hr : 0 ≤ r) (hs : 0 ≤ s) : BqN (timesQ X Y r Z W s) := by

  refine bk_n (mo_nn (cdiv_nn (by decide) ?_))

  have h1 := Int.mul_nonneg (rtu_all (n := X * X + Y * Y) (by have := sqn X; have := sqn Y; omega)).1 hs

  have h2 := Int.mul_nonneg (rtu_all (n := Z * Z + W * W) (by have := sqn Z; have := sqn W; omega)).1 hr

  have h3 := Int.mul_nonneg hr hs

  unfold upw

  omega

theorem quot_n {r s X Y Z W : Int} (hr : 0 ≤ r) (hs : 0 ≤ s) : BqN (quotQ X Y r Z W s) := by

  unfold quotQ

  split

  · exact be_n (by decide)

  · rename_i hl

    have h1 := Int.mul_nonneg (rtu_all (n := X * X + Y * Y) (by have := sqn X; have := sqn Y; omega)).1 hs

    have h2 := Int.mul_nonneg hr (rtu_all (n := Z * Z + W * W) (by have := sqn Z; have := sqn W; omega)).1

    have h4 : 0 < (dn Z W - s) * dn Z W := Int.mul_pos (by omega) (by omega)

    refine bk_n (mo_nn (cdiv_nn h4 ?_))

    unfold upw

    omega

theorem plus_n {r s X Y Z W : Int} (hr : 0 ≤ r) (hs : 0 ≤ s) : BqN (plusQ X Y r Z W s) := bk_n (by omega)

theorem minus_n {r s X Y Z W : Int} (hr : 0 ≤ r) (hs : 0 ≤ s) : BqN (minusQ X Y r Z W s) := bk_n (by omega)

theorem opW_n {f} {X Y r Z W s : Int} (h : 0 ≤ r → 0 ≤ s → BqN (f X Y r Z W s)) : BqN (opW f X Y r Z W s) := by

  unfold opW

  split

  · rename_i g

    obtain ⟨g1, g2⟩ := fe_two g

    exact h (ckW_rb g1).hr.1 (ckW_rb g2).hr.1

  · have := fe_v (ckW_v X Y r) (ckW_v Z W s)

    exact be_n (by omega)

theorem opV_n {f} {X Y r : Int} (h : 0 ≤ r → BqN (f X Y r)) : BqN (opV f X Y r) := by

  unfold opV

  split

  · rename_i g; exact h (ckW_rb g).hr.1

  · have := ckW_v X Y r; exact be_n (by omega)

theorem BqN.is {q : Bq} (h : BqN q) : Spec Try.prog etalonlaw01_is_s ⟨[F q.x, F q.y, q.r, q.e, q.x, q.y, q.r, q.e], [], []⟩ [] [true] [] := is_s (by have := h.hx; omega) (by have := h.hy; omega) (by have := h.hr; omega) (by have := h.he; omega)

theorem is_be {e : Int} (h : 0 ≤ e ∧ e ≤ 100) : Spec Try.prog etalonlaw01_is_s ⟨[F (be e).x, F (be e).y, (be e).r, (be e).e, 0, 0, 0, e], [], []⟩ [] [true] [] := is_s (x := 0) (y := 0) (r := 0) (e := (be e).e) (by omega) (by omega) (by omega) (by show I64 e; omega)

theorem opW_ok {f} {X Y r Z W s : Int} (h : fe (ckW X Y r) (ckW Z W s) = 0) : opW f X Y r Z W s = f X Y r Z W s := by unfold opW; rw [if_pos h]

theorem opW_no {f} {X Y r Z W s : Int} (h : fe (ckW X Y r) (ckW Z W s) ≠ 0) : opW f X Y r Z W s = be (fe (ckW X Y r) (ckW Z W s)) := by unfold opW; rw [if_neg h]

theorem opV_ok {f} {X Y r : Int} (h : ckW X Y r = 0) : opV f X Y r = f X Y r := by unfold opV; rw [if_pos h]

theorem opV_no {f} {X Y r : Int} (h : ckW X Y r ≠ 0) : opV f X Y r = be (ckW X Y r) := by unfold opV; rw [if_neg h]

end Go.Proofs.Ytgdlddmbfockpaa.Ev
