/- Balls: what BallLies calls, over the great seat. -/
import Derived.Test.YtgdhpgjfebinhaaGreatFba
import Derived.Test.YtgdhpgjfebinhaaGreatFre
namespace Go.Proofs.YtgdhpgjfebinhaaGreat.Ev
set_option linter.unusedSimpArgs false
open Go Go.RowKit
set_option linter.unusedVariables false
set_option maxRecDepth 100000
def _etalonref01_B__Checked_s : Sig := ⟨48, ⟨3, 0, 0⟩, ⟨4, 0, 0⟩, [(.agg [(.int .i64 (.var 0)), (.int .i64 (.var 1)), (.int .i64 (.var 2))])], [], (.tuple [(.agg [(.int .i64 (.var 3)), (.int .i64 (.var 4)), (.int .i64 (.var 5))]), (.int .i64 (.var 6))]), []⟩
def etalonref01_rounded_s : Sig := ⟨46, ⟨2, 0, 0⟩, ⟨1, 1, 0⟩, [(.int .i64 (.var 0)), (.int .i64 (.var 1))], [], (.tuple [(.int .i64 (.var 2)), (.bool (.var 0))]), []⟩
def etalonlaw01_awake_s : Sig := ⟨4, ⟨0, 0, 0⟩, ⟨0, 1, 0⟩, [], [], (.bool (.var 0)), []⟩
def _etalonlaw01_Whole__ball_s : Sig := ⟨5, ⟨3, 0, 0⟩, ⟨3, 0, 0⟩, [(.agg [(.int .i64 (.var 0)), (.int .i64 (.var 1)), (.int .i64 (.var 2))])], [], (.agg [(.complex .f64 (.var 3) (.var 4)), (.int .i64 (.var 5))]), []⟩
def _etalonlaw01_Whole__err_s : Sig := ⟨9, ⟨3, 0, 0⟩, ⟨1, 0, 0⟩, [(.agg [(.int .i64 (.var 0)), (.int .i64 (.var 1)), (.int .i64 (.var 2))])], [], (.int .i64 (.var 3)), []⟩
def _etalonlaw01_Whole__two_s : Sig := ⟨16, ⟨6, 0, 0⟩, ⟨1, 0, 0⟩, [(.agg [(.int .i64 (.var 0)), (.int .i64 (.var 1)), (.int .i64 (.var 2))]), (.agg [(.int .i64 (.var 3)), (.int .i64 (.var 4)), (.int .i64 (.var 5))])], [], (.int .i64 (.var 6)), []⟩
def etalonref01_Of_s : Sig := ⟨12, ⟨3, 0, 0⟩, ⟨3, 0, 0⟩, [(.agg [(.complex .f64 (.var 0) (.var 1)), (.int .i64 (.var 2))])], [], (.agg [(.int .i64 (.var 3)), (.int .i64 (.var 4)), (.int .i64 (.var 5))]), []⟩
def _etalonref01_B__Ball_s : Sig := ⟨45, ⟨3, 0, 0⟩, ⟨3, 0, 0⟩, [(.agg [(.int .i64 (.var 0)), (.int .i64 (.var 1)), (.int .i64 (.var 2))])], [], (.agg [(.complex .f64 (.var 3) (.var 4)), (.int .i64 (.var 5))]), []⟩
def etalonbase_SameBall_s : Sig := ⟨27, ⟨6, 0, 0⟩, ⟨0, 1, 0⟩, [(.agg [(.complex .f64 (.var 0) (.var 1)), (.int .i64 (.var 2))]), (.agg [(.complex .f64 (.var 3) (.var 4)), (.int .i64 (.var 5))])], [], (.bool (.var 0)), []⟩
def etalonlaw01_is_s : Sig := ⟨17, ⟨8, 0, 0⟩, ⟨0, 1, 0⟩, [(.agg [(.complex .f64 (.var 0) (.var 1)), (.int .i64 (.var 2))]), (.int .i64 (.var 3)), (.agg [(.int .i64 (.var 4)), (.int .i64 (.var 5)), (.int .i64 (.var 6))]), (.int .i64 (.var 7))], [], (.bool (.var 0)), []⟩

def rck_t : Tr :=
  (.ite (.icmp .leq (.lit (-67108864)) (.var 0))
  (.ite (.icmp .leq (.var 0) (.lit 67108864))
   (.ite (.icmp .leq (.lit (-67108864)) (.var 1))
    (.ite (.icmp .leq (.var 1) (.lit 67108864))
     (.ite (.icmp .leq (.lit 0) (.var 2))
      (.ite (.icmp .leq (.var 2) (.lit 67108864))
       (.ret ⟨[(.var 0), (.var 1), (.var 2), (.lit 0)], [], []⟩ [])
       (.ret ⟨[(.lit 0), (.lit 0), (.lit 0), (.lit 8)], [], []⟩ []))
      (.ret ⟨[(.lit 0), (.lit 0), (.lit 0), (.lit 8)], [], []⟩ []))
     (.ret ⟨[(.lit 0), (.lit 0), (.lit 0), (.lit 8)], [], []⟩ []))
    (.ret ⟨[(.lit 0), (.lit 0), (.lit 0), (.lit 8)], [], []⟩ []))
   (.ret ⟨[(.lit 0), (.lit 0), (.lit 0), (.lit 8)], [], []⟩ []))
  (.ret ⟨[(.lit 0), (.lit 0), (.lit 0), (.lit 8)], [], []⟩ []))
theorem rck {x0 x1 x2 : Int} (r0 : (-9223372036854775808) ≤ x0 ∧ x0 ≤ 9223372036854775807) (r1 : (-9223372036854775808) ≤ x1 ∧ x1 ≤ 9223372036854775807) (r2 : (-9223372036854775808) ≤ x2 ∧ x2 ≤ 9223372036854775807) {R : Int → Int → Int → Int → Prop}
  (H : ((decide (((-67108864) : Int) ≤ x0) = true → ((decide ((x0 : Int) ≤ 67108864) = true → ((decide (((-67108864) : Int) ≤ x1) = true → ((decide ((x1 : Int) ≤ 67108864) = true → ((decide ((0 : Int) ≤ x2) = true → ((decide ((x2 : Int) ≤ 67108864) = true → R (x0) (x1) (x2) (0)) ∧
        (decide ((x2 : Int) ≤ 67108864) = false → R (0) (0) (0) (8)))) ∧
       (decide ((0 : Int) ≤ x2) = false → R (0) (0) (0) (8)))) ∧
      (decide ((x1 : Int) ≤ 67108864) = false → R (0) (0) (0) (8)))) ∧
     (decide (((-67108864) : Int) ≤ x1) = false → R (0) (0) (0) (8)))) ∧
    (decide ((x0 : Int) ≤ 67108864) = false → R (0) (0) (0) (8)))) ∧
   (decide (((-67108864) : Int) ≤ x0) = false → R (0) (0) (0) (8)))) :
    ∃ v0 : Int, ∃ v1 : Int, ∃ v2 : Int, ∃ v3 : Int, R v0 v1 v2 v3 ∧ Spec Tryz.prog _etalonref01_B__Checked_s ⟨[x0, x1, x2], [], []⟩ [v0, v1, v2, v3] [] [] :=
  Eq.mp (by kernel_rfl) (exV_of (K := fun d => app3 _etalonref01_B__Checked_s.out R d ∧ Spec Tryz.prog _etalonref01_B__Checked_s ⟨[x0, x1, x2], [], []⟩ d.1 d.2.1 d.2.2) (tree_at mixed names S1_ok (S := S1 Tryz.prog) (lf := 100000) (d := 60) _etalonref01_B__Checked_s rck_t { ivs := [(0, (-9223372036854775808), 9223372036854775807), (1, (-9223372036854775808), 9223372036854775807), (2, (-9223372036854775808), 9223372036854775807)], aivs := [] } ⟨[x0, x1, x2], [], []⟩ rfl (by kernel_rfl) (by kernel_rfl) (by kernel_rfl) ⟨(fc r0 (fc r1 (fc r2 fz))), fz, fz, fz⟩ (R := fun d => app3 _etalonref01_B__Checked_s.out R d) (Eq.mp (by kernel_rfl) H)))

def rrd_t : Tr :=
  (.call etalonbase_Floor_s ⟨[(.var 0), (.var 1)], [], []⟩ ⟨[(.var 0), (.var 1), (.var 2)], [], []⟩ ⟨80, [(.int .i64 (.var 0)), (.int .i64 (.var 1))], [], [], (.int .i64 (.var 2)), []⟩
  (.rng 2 (-4611686018427387904) 4611686018427387904 (.ite (.icmp .leq (.bin (.subW .i64) (.var 1) (.bin (.subW .i64) (.var 0) (.bin (.mulW .i64) (.var 2) (.var 1)))) (.bin (.subW .i64) (.var 0) (.bin (.mulW .i64) (.var 2) (.var 1))))
  (.ret ⟨[(.bin .addI (.var 2) (.lit 1))], [(.lit true)], []⟩ [])
  (.ret ⟨[(.var 2)], [(.icmp .neq (.bin (.subW .i64) (.var 0) (.bin (.mulW .i64) (.var 2) (.var 1))) (.lit 0))], []⟩ []))))
theorem rrd {x0 x1 : Int} (r0 : (-4611686018427387904) ≤ x0 ∧ x0 ≤ 4611686018427387904) (r1 : 1 ≤ x1 ∧ x1 ≤ 2305843009213693952) {R : Int → Bool → Prop}
  (H : (∃ v2 : Int, Spec Tryz.prog etalonbase_Floor_s ⟨[x0, x1], [], []⟩ [v2] [] [] ∧
   (((-4611686018427387904) ≤ (v2 : Int) ∧ (v2 : Int) ≤ 4611686018427387904) ∧ ((decide ((IntKind.i64.wrap (x1 - IntKind.i64.wrap (x0 - IntKind.i64.wrap (v2 * x1))) : Int) ≤ IntKind.i64.wrap (x0 - IntKind.i64.wrap (v2 * x1))) = true → R ((v2 + 1)) (true)) ∧
   (decide ((IntKind.i64.wrap (x1 - IntKind.i64.wrap (x0 - IntKind.i64.wrap (v2 * x1))) : Int) ≤ IntKind.i64.wrap (x0 - IntKind.i64.wrap (v2 * x1))) = false → R (v2) (((IntKind.i64.wrap (x0 - IntKind.i64.wrap (v2 * x1)) : Int) != 0))))))) :
    ∃ v0 : Int, ∃ u0 : Bool, R v0 u0 ∧ Spec Tryz.prog etalonref01_rounded_s ⟨[x0, x1], [], []⟩ [v0] [u0] [] :=
  Eq.mp (by kernel_rfl) (exV_of (K := fun d => app3 etalonref01_rounded_s.out R d ∧ Spec Tryz.prog etalonref01_rounded_s ⟨[x0, x1], [], []⟩ d.1 d.2.1 d.2.2) (tree_at mixed names S1_ok (S := S1 Tryz.prog) (lf := 100000) (d := 60) etalonref01_rounded_s rrd_t { ivs := [(0, (-4611686018427387904), 4611686018427387904), (1, 1, 2305843009213693952)], aivs := [] } ⟨[x0, x1], [], []⟩ rfl (by kernel_rfl) (by kernel_rfl) (by kernel_rfl) ⟨(fc r0 (fc r1 fz)), fz, fz, fz⟩ (R := fun d => app3 etalonref01_rounded_s.out R d) (Eq.mp (by kernel_rfl) H)))

def aw_t : Tr :=
  (.ret ⟨[], [(.lit true)], []⟩ [])
theorem aw {R : Bool → Prop}
  (H : R (true)) :
    ∃ u0 : Bool, R u0 ∧ Spec Tryz.prog etalonlaw01_awake_s ⟨[], [], []⟩ [] [u0] [] :=
  Eq.mp (by kernel_rfl) (exV_of (K := fun d => app3 etalonlaw01_awake_s.out R d ∧ Spec Tryz.prog etalonlaw01_awake_s ⟨[], [], []⟩ d.1 d.2.1 d.2.2) (tree_at mixed names S1_ok (S := S1 Tryz.prog) (lf := 100000) (d := 60) etalonlaw01_awake_s aw_t { ivs := [], aivs := [] } ⟨[], [], []⟩ rfl (by kernel_rfl) (by kernel_rfl) (by kernel_rfl) ⟨fz, fz, fz, fz⟩ (R := fun d => app3 etalonlaw01_awake_s.out R d) (Eq.mp (by kernel_rfl) H)))

def lwb_t : Tr :=
  (.ret ⟨[(.toF .f64 (.bin .maxI (.lit (-9007199254740992)) (.bin .minI (.lit 9007199254740992) (.var 0)))), (.toF .f64 (.bin .maxI (.lit (-9007199254740992)) (.bin .minI (.lit 9007199254740992) (.var 1)))), (.var 2)], [], []⟩ [])
theorem lwb {x0 x1 x2 : Int} (r0 : (-9223372036854775808) ≤ x0 ∧ x0 ≤ 9223372036854775807) (r1 : (-9223372036854775808) ≤ x1 ∧ x1 ≤ 9223372036854775807) (r2 : (-9223372036854775808) ≤ x2 ∧ x2 ≤ 9223372036854775807) {R : Int → Int → Int → Prop}
  (H : R (((FloatKind.f64.nearest (if ((if (x0 : Int) < 9007199254740992 then x0 else 9007199254740992) : Int) > (-9007199254740992) then (if (x0 : Int) < 9007199254740992 then x0 else 9007199254740992) else (-9007199254740992)) : Nat) : Int)) (((FloatKind.f64.nearest (if ((if (x1 : Int) < 9007199254740992 then x1 else 9007199254740992) : Int) > (-9007199254740992) then (if (x1 : Int) < 9007199254740992 then x1 else 9007199254740992) else (-9007199254740992)) : Nat) : Int)) (x2)) :
    ∃ v0 : Int, ∃ v1 : Int, ∃ v2 : Int, R v0 v1 v2 ∧ Spec Tryz.prog _etalonlaw01_Whole__ball_s ⟨[x0, x1, x2], [], []⟩ [v0, v1, v2] [] [] :=
  Eq.mp (by kernel_rfl) (exV_of (K := fun d => app3 _etalonlaw01_Whole__ball_s.out R d ∧ Spec Tryz.prog _etalonlaw01_Whole__ball_s ⟨[x0, x1, x2], [], []⟩ d.1 d.2.1 d.2.2) (tree_at mixed names S1_ok (S := S1 Tryz.prog) (lf := 100000) (d := 60) _etalonlaw01_Whole__ball_s lwb_t { ivs := [(0, (-9223372036854775808), 9223372036854775807), (1, (-9223372036854775808), 9223372036854775807), (2, (-9223372036854775808), 9223372036854775807)], aivs := [] } ⟨[x0, x1, x2], [], []⟩ rfl (by kernel_rfl) (by kernel_rfl) (by kernel_rfl) ⟨(fc r0 (fc r1 (fc r2 fz))), fz, fz, fz⟩ (R := fun d => app3 _etalonlaw01_Whole__ball_s.out R d) (Eq.mp (by kernel_rfl) H)))

def lwe_t : Tr :=
  (.call _etalonlaw01_Whole__ball_s ⟨[(.var 0), (.var 1), (.var 2)], [], []⟩ ⟨[(.var 0), (.var 1), (.var 2), (.var 3), (.var 4), (.var 5)], [], []⟩ ⟨5, [(.agg [(.int .i64 (.var 0)), (.int .i64 (.var 1)), (.int .i64 (.var 2))])], [], [none], (.agg [(.complex .f64 (.var 3) (.var 4)), (.int .i64 (.var 5))]), []⟩
  (.call etalonref01_CheckBall_s ⟨[(.var 3), (.var 4), (.var 5)], [], []⟩ ⟨[(.var 3), (.var 4), (.var 5), (.var 6)], [], []⟩ ⟨32, [(.agg [(.complex .f64 (.var 3) (.var 4)), (.int .i64 (.var 5))])], [], [none], (.int .i64 (.var 6)), []⟩
  (.ret ⟨[(.var 6)], [], []⟩ [])))
theorem lwe {x0 x1 x2 : Int} (r0 : (-9223372036854775808) ≤ x0 ∧ x0 ≤ 9223372036854775807) (r1 : (-9223372036854775808) ≤ x1 ∧ x1 ≤ 9223372036854775807) (r2 : (-9223372036854775808) ≤ x2 ∧ x2 ≤ 9223372036854775807) {R : Int → Prop}
  (H : (∃ v3 : Int, ∃ v4 : Int, ∃ v5 : Int, Spec Tryz.prog _etalonlaw01_Whole__ball_s ⟨[x0, x1, x2], [], []⟩ [v3, v4, v5] [] [] ∧
   (∃ v6 : Int, Spec Tryz.prog etalonref01_CheckBall_s ⟨[v3, v4, v5], [], []⟩ [v6] [] [] ∧
   R (v6)))) :
    ∃ v0 : Int, R v0 ∧ Spec Tryz.prog _etalonlaw01_Whole__err_s ⟨[x0, x1, x2], [], []⟩ [v0] [] [] :=
  Eq.mp (by kernel_rfl) (exV_of (K := fun d => app3 _etalonlaw01_Whole__err_s.out R d ∧ Spec Tryz.prog _etalonlaw01_Whole__err_s ⟨[x0, x1, x2], [], []⟩ d.1 d.2.1 d.2.2) (tree_at mixed names S1_ok (S := S1 Tryz.prog) (lf := 100000) (d := 60) _etalonlaw01_Whole__err_s lwe_t { ivs := [(0, (-9223372036854775808), 9223372036854775807), (1, (-9223372036854775808), 9223372036854775807), (2, (-9223372036854775808), 9223372036854775807)], aivs := [] } ⟨[x0, x1, x2], [], []⟩ rfl (by kernel_rfl) (by kernel_rfl) (by kernel_rfl) ⟨(fc r0 (fc r1 (fc r2 fz))), fz, fz, fz⟩ (R := fun d => app3 _etalonlaw01_Whole__err_s.out R d) (Eq.mp (by kernel_rfl) H)))

def lwt_t : Tr :=
  (.call _etalonlaw01_Whole__err_s ⟨[(.var 0), (.var 1), (.var 2)], [], []⟩ ⟨[(.var 0), (.var 1), (.var 2), (.var 6)], [], []⟩ ⟨9, [(.agg [(.int .i64 (.var 0)), (.int .i64 (.var 1)), (.int .i64 (.var 2))])], [], [none, none], (.int .i64 (.var 6)), []⟩
  (.ite (.icmp .eql (.var 6) (.lit 0))
  (.call _etalonlaw01_Whole__err_s ⟨[(.var 3), (.var 4), (.var 5)], [], []⟩ ⟨[(.var 3), (.var 4), (.var 5), (.var 7)], [], []⟩ ⟨9, [(.agg [(.int .i64 (.var 3)), (.int .i64 (.var 4)), (.int .i64 (.var 5))])], [], [none, none], (.int .i64 (.var 7)), []⟩
   (.ret ⟨[(.var 7)], [], []⟩ []))
  (.ret ⟨[(.var 6)], [], []⟩ [])))
theorem lwt {x0 x1 x2 x3 x4 x5 : Int} (r0 : (-9223372036854775808) ≤ x0 ∧ x0 ≤ 9223372036854775807) (r1 : (-9223372036854775808) ≤ x1 ∧ x1 ≤ 9223372036854775807) (r2 : (-9223372036854775808) ≤ x2 ∧ x2 ≤ 9223372036854775807) (r3 : (-9223372036854775808) ≤ x3 ∧ x3 ≤ 9223372036854775807) (r4 : (-9223372036854775808) ≤ x4 ∧ x4 ≤ 9223372036854775807) (r5 : (-9223372036854775808) ≤ x5 ∧ x5 ≤ 9223372036854775807) {R : Int → Prop}
  (H : (∃ v6 : Int, Spec Tryz.prog _etalonlaw01_Whole__err_s ⟨[x0, x1, x2], [], []⟩ [v6] [] [] ∧
   ((((v6 : Int) == 0) = true → (∃ v7 : Int, Spec Tryz.prog _etalonlaw01_Whole__err_s ⟨[x3, x4, x5], [], []⟩ [v7] [] [] ∧
    R (v7))) ∧
   (((v6 : Int) == 0) = false → R (v6))))) :
    ∃ v0 : Int, R v0 ∧ Spec Tryz.prog _etalonlaw01_Whole__two_s ⟨[x0, x1, x2, x3, x4, x5], [], []⟩ [v0] [] [] :=
  Eq.mp (by kernel_rfl) (exV_of (K := fun d => app3 _etalonlaw01_Whole__two_s.out R d ∧ Spec Tryz.prog _etalonlaw01_Whole__two_s ⟨[x0, x1, x2, x3, x4, x5], [], []⟩ d.1 d.2.1 d.2.2) (tree_at mixed names S1_ok (S := S1 Tryz.prog) (lf := 100000) (d := 60) _etalonlaw01_Whole__two_s lwt_t { ivs := [(0, (-9223372036854775808), 9223372036854775807), (1, (-9223372036854775808), 9223372036854775807), (2, (-9223372036854775808), 9223372036854775807), (3, (-9223372036854775808), 9223372036854775807), (4, (-9223372036854775808), 9223372036854775807), (5, (-9223372036854775808), 9223372036854775807)], aivs := [] } ⟨[x0, x1, x2, x3, x4, x5], [], []⟩ rfl (by kernel_rfl) (by kernel_rfl) (by kernel_rfl) ⟨(fc r0 (fc r1 (fc r2 (fc r3 (fc r4 (fc r5 fz)))))), fz, fz, fz⟩ (R := fun d => app3 _etalonlaw01_Whole__two_s.out R d) (Eq.mp (by kernel_rfl) H)))

def lof_t : Tr :=
  (.whole 0 9007199254740992 (.rng 3 (-9007199254740992) 9007199254740992 (.whole 1 9007199254740992 (.rng 4 (-9007199254740992) 9007199254740992 (.ret ⟨[(.var 3), (.var 4), (.var 2)], [], []⟩ [])))))
theorem lof {x0 x1 x2 : Int} (r2 : (-9223372036854775808) ≤ x2 ∧ x2 ≤ 9223372036854775807) {R : Int → Int → Int → Prop}
  (H : (∃ v3 : Int, (Rp (x0 : Int).toNat v3 ∧ v3.natAbs ≤ 9007199254740992) ∧ (((-9007199254740992) ≤ (v3 : Int) ∧ (v3 : Int) ≤ 9007199254740992) ∧ (∃ v4 : Int, (Rp (x1 : Int).toNat v4 ∧ v4.natAbs ≤ 9007199254740992) ∧ (((-9007199254740992) ≤ (v4 : Int) ∧ (v4 : Int) ≤ 9007199254740992) ∧ R (v3) (v4) (x2)))))) :
    ∃ v0 : Int, ∃ v1 : Int, ∃ v2 : Int, R v0 v1 v2 ∧ Spec Tryz.prog etalonref01_Of_s ⟨[x0, x1, x2], [], []⟩ [v0, v1, v2] [] [] :=
  Eq.mp (by kernel_rfl) (exV_of (K := fun d => app3 etalonref01_Of_s.out R d ∧ Spec Tryz.prog etalonref01_Of_s ⟨[x0, x1, x2], [], []⟩ d.1 d.2.1 d.2.2) (tree_at mixed names S1_ok (S := S1 Tryz.prog) (lf := 100000) (d := 60) etalonref01_Of_s lof_t { ivs := [(2, (-9223372036854775808), 9223372036854775807)], aivs := [] } ⟨[x0, x1, x2], [], []⟩ rfl (by kernel_rfl) (by kernel_rfl) (by kernel_rfl) ⟨(fc r2 fz), fz, fz, fz⟩ (R := fun d => app3 etalonref01_Of_s.out R d) (Eq.mp (by kernel_rfl) H)))

def lbb_t : Tr :=
  (.ret ⟨[(.toF .f64 (.var 0)), (.toF .f64 (.var 1)), (.var 2)], [], []⟩ [])
theorem lbb {x0 x1 x2 : Int} (r0 : (-9223372036854775808) ≤ x0 ∧ x0 ≤ 9223372036854775807) (r1 : (-9223372036854775808) ≤ x1 ∧ x1 ≤ 9223372036854775807) (r2 : (-9223372036854775808) ≤ x2 ∧ x2 ≤ 9223372036854775807) {R : Int → Int → Int → Prop}
  (H : R (((FloatKind.f64.nearest x0 : Nat) : Int)) (((FloatKind.f64.nearest x1 : Nat) : Int)) (x2)) :
    ∃ v0 : Int, ∃ v1 : Int, ∃ v2 : Int, R v0 v1 v2 ∧ Spec Tryz.prog _etalonref01_B__Ball_s ⟨[x0, x1, x2], [], []⟩ [v0, v1, v2] [] [] :=
  Eq.mp (by kernel_rfl) (exV_of (K := fun d => app3 _etalonref01_B__Ball_s.out R d ∧ Spec Tryz.prog _etalonref01_B__Ball_s ⟨[x0, x1, x2], [], []⟩ d.1 d.2.1 d.2.2) (tree_at mixed names S1_ok (S := S1 Tryz.prog) (lf := 100000) (d := 60) _etalonref01_B__Ball_s lbb_t { ivs := [(0, (-9223372036854775808), 9223372036854775807), (1, (-9223372036854775808), 9223372036854775807), (2, (-9223372036854775808), 9223372036854775807)], aivs := [] } ⟨[x0, x1, x2], [], []⟩ rfl (by kernel_rfl) (by kernel_rfl) (by kernel_rfl) ⟨(fc r0 (fc r1 (fc r2 fz))), fz, fz, fz⟩ (R := fun d => app3 _etalonref01_B__Ball_s.out R d) (Eq.mp (by kernel_rfl) H)))

def lsb_t : Tr :=
  (.ite (.icmp .eql (.bin .maxI (.var 0) (.lit 0)) (.bin .maxI (.var 3) (.lit 0)))
  (.ite (.icmp .eql (.bin .maxI (.var 1) (.lit 0)) (.bin .maxI (.var 4) (.lit 0)))
   (.ret ⟨[], [(.icmp .eql (.var 2) (.var 5))], []⟩ [])
   (.ret ⟨[], [(.lit false)], []⟩ []))
  (.ret ⟨[], [(.lit false)], []⟩ []))
theorem lsb {x0 x1 x2 x3 x4 x5 : Int} (r2 : (-9223372036854775808) ≤ x2 ∧ x2 ≤ 9223372036854775807) (r5 : (-9223372036854775808) ≤ x5 ∧ x5 ≤ 9223372036854775807) {R : Bool → Prop}
  (H : (((((if (0 : Int) > x0 then 0 else x0) : Int) == (if (0 : Int) > x3 then 0 else x3)) = true → (((((if (0 : Int) > x1 then 0 else x1) : Int) == (if (0 : Int) > x4 then 0 else x4)) = true → R (((x2 : Int) == x5))) ∧
    ((((if (0 : Int) > x1 then 0 else x1) : Int) == (if (0 : Int) > x4 then 0 else x4)) = false → R (false)))) ∧
   ((((if (0 : Int) > x0 then 0 else x0) : Int) == (if (0 : Int) > x3 then 0 else x3)) = false → R (false)))) :
    ∃ u0 : Bool, R u0 ∧ Spec Tryz.prog etalonbase_SameBall_s ⟨[x0, x1, x2, x3, x4, x5], [], []⟩ [] [u0] [] :=
  Eq.mp (by kernel_rfl) (exV_of (K := fun d => app3 etalonbase_SameBall_s.out R d ∧ Spec Tryz.prog etalonbase_SameBall_s ⟨[x0, x1, x2, x3, x4, x5], [], []⟩ d.1 d.2.1 d.2.2) (tree_at mixed names S1_ok (S := S1 Tryz.prog) (lf := 100000) (d := 60) etalonbase_SameBall_s lsb_t { ivs := [(2, (-9223372036854775808), 9223372036854775807), (5, (-9223372036854775808), 9223372036854775807)], aivs := [] } ⟨[x0, x1, x2, x3, x4, x5], [], []⟩ rfl (by kernel_rfl) (by kernel_rfl) (by kernel_rfl) ⟨(fc r2 (fc r5 fz)), fz, fz, fz⟩ (R := fun d => app3 etalonbase_SameBall_s.out R d) (Eq.mp (by kernel_rfl) H)))

def lis_t : Tr :=
  (.ite (.icmp .eql (.var 3) (.var 7))
  (.call _etalonref01_B__Ball_s ⟨[(.var 4), (.var 5), (.var 6)], [], []⟩ ⟨[(.var 4), (.var 5), (.var 6), (.var 8), (.var 9), (.var 10)], [], []⟩ ⟨45, [(.agg [(.int .i64 (.var 4)), (.int .i64 (.var 5)), (.int .i64 (.var 6))])], [], [none, none], (.agg [(.complex .f64 (.var 8) (.var 9)), (.int .i64 (.var 10))]), []⟩
   (.call etalonbase_SameBall_s ⟨[(.var 0), (.var 1), (.var 2), (.var 8), (.var 9), (.var 10)], [], []⟩ ⟨[(.var 0), (.var 1), (.var 2), (.var 8), (.var 9), (.var 10)], [(.var 0)], []⟩ ⟨27, [(.agg [(.complex .f64 (.var 0) (.var 1)), (.int .i64 (.var 2))]), (.agg [(.complex .f64 (.var 8) (.var 9)), (.int .i64 (.var 10))])], [], [none, none], (.bool (.var 0)), []⟩
   (.ret ⟨[], [(.var 0)], []⟩ [])))
  (.ret ⟨[], [(.lit false)], []⟩ []))
theorem lis {x0 x1 x2 x3 x4 x5 x6 x7 : Int} (r2 : (-9223372036854775808) ≤ x2 ∧ x2 ≤ 9223372036854775807) (r3 : (-9223372036854775808) ≤ x3 ∧ x3 ≤ 9223372036854775807) (r4 : (-9223372036854775808) ≤ x4 ∧ x4 ≤ 9223372036854775807) (r5 : (-9223372036854775808) ≤ x5 ∧ x5 ≤ 9223372036854775807) (r6 : (-9223372036854775808) ≤ x6 ∧ x6 ≤ 9223372036854775807) (r7 : (-9223372036854775808) ≤ x7 ∧ x7 ≤ 9223372036854775807) {R : Bool → Prop}
  (H : ((((x3 : Int) == x7) = true → (∃ v8 : Int, ∃ v9 : Int, ∃ v10 : Int, Spec Tryz.prog _etalonref01_B__Ball_s ⟨[x4, x5, x6], [], []⟩ [v8, v9, v10] [] [] ∧
    (∃ u0 : Bool, Spec Tryz.prog etalonbase_SameBall_s ⟨[x0, x1, x2, v8, v9, v10], [], []⟩ [] [u0] [] ∧
    R (u0)))) ∧
   (((x3 : Int) == x7) = false → R (false)))) :
    ∃ u0 : Bool, R u0 ∧ Spec Tryz.prog etalonlaw01_is_s ⟨[x0, x1, x2, x3, x4, x5, x6, x7], [], []⟩ [] [u0] [] :=
  Eq.mp (by kernel_rfl) (exV_of (K := fun d => app3 etalonlaw01_is_s.out R d ∧ Spec Tryz.prog etalonlaw01_is_s ⟨[x0, x1, x2, x3, x4, x5, x6, x7], [], []⟩ d.1 d.2.1 d.2.2) (tree_at mixed names S1_ok (S := S1 Tryz.prog) (lf := 100000) (d := 60) etalonlaw01_is_s lis_t { ivs := [(2, (-9223372036854775808), 9223372036854775807), (3, (-9223372036854775808), 9223372036854775807), (4, (-9223372036854775808), 9223372036854775807), (5, (-9223372036854775808), 9223372036854775807), (6, (-9223372036854775808), 9223372036854775807), (7, (-9223372036854775808), 9223372036854775807)], aivs := [] } ⟨[x0, x1, x2, x3, x4, x5, x6, x7], [], []⟩ rfl (by kernel_rfl) (by kernel_rfl) (by kernel_rfl) ⟨(fc r2 (fc r3 (fc r4 (fc r5 (fc r6 (fc r7 fz)))))), fz, fz, fz⟩ (R := fun d => app3 etalonlaw01_is_s.out R d) (Eq.mp (by kernel_rfl) H)))

open Go.Proofs.YtgdhpgjfebinhaaGreat.Gm

theorem nearest1_s {x d : Int} (h0 : -4611686018427387904 ≤ x) (h1 : x ≤ 4611686018427387904) (hd : 0 < d) (hd' : d ≤ 4611686018427387904) : Spec Tryz.prog whole_Nearest_s ⟨[x, 1, d], [], []⟩ [rdiv x d] [wholeB x d] [] := by

  have := nearest_s (x := x) (y := 1) (d := d) (DvIn_by (X := 4611686018427387904) (Y := 1) h0 h1 (by omega) (by omega) hd hd' (by decide) (by decide) (by decide))

  rwa [Int.mul_one] at this

theorem fe_two {a b : Int} (h : fe a b = 0) : a = 0 ∧ b = 0 := by unfold fe at h; split at h <;> omega

theorem checked_r {x y r : Int} (hx : I64 x) (hy : I64 y) (h0 : 0 ≤ r) (h1 : r ≤ 9223372036854775807) : Spec Tryz.prog _etalonref01_B__Checked_s ⟨[x, y, r], [], []⟩ [(bk x y r).x, (bk x y r).y, (bk x y r).r, (bk x y r).e] [] [] := by

  refine BqI.out (rck hx hy (by omega) (R := BqI _) ?_)

  simp only [decide_eq_true_eq, decide_eq_false_iff_not]

  refine ⟨fun h1 => ⟨fun h2 => ⟨fun h3 => ⟨fun h4 => ⟨fun _ => ⟨fun h5 => bki_ok ⟨⟨h1, h2⟩, ⟨h3, h4⟩, h5⟩ rfl, fun h => bki_no (fun g => h g.2.2) rfl⟩, fun h => absurd h0 h⟩, fun h => bki_no (fun g => h g.2.1.2) rfl⟩, fun h => bki_no (fun g => h g.2.1.1) rfl⟩, fun h => bki_no (fun g => h g.1.2) rfl⟩, fun h => bki_no (fun g => h g.1.1) rfl⟩

theorem out2 {P : Program} {S : Sig} {V : Vs} {x : Int} {u : Bool} (h : ∃ a : Int, ∃ b : Bool, (a = x ∧ b = u) ∧ Spec P S V [a] [b] []) : Spec P S V [x] [u] [] := by

  obtain ⟨a, b, ⟨rfl, rfl⟩, hs⟩ := h

  exact hs

theorem wholeB_mod (n d : Int) : wholeB n d = decide (n % d = 0) := rfl

theorem rounded_r {n d : Int} (h0 : -1152921504606846976 ≤ n ∧ n ≤ 1152921504606846976) (h1 : 1 ≤ d ∧ d ≤ 2305843009213693952) : Spec Tryz.prog etalonref01_rounded_s ⟨[n, d], [], []⟩ [rdiv n d] [!wholeB n d] [] := by

  have e := rdiv_eq n (show 0 < d by omega)

  have e1 := Int.mul_ediv_add_emod n d

  have e2 := Int.emod_nonneg n (show d ≠ 0 by omega)

  have e3 := Int.emod_lt_of_pos n (show 0 < d by omega)

  have e4 := ediv_abs' (n := n) (d := d) (M := 1152921504606846976) (by omega) (by omega) (by omega) (by omega)

  have w1 : IntKind.i64.wrap (n / d * d) = n / d * d := wrapI (by rw [Int.mul_comm]; omega)

  have w2 : IntKind.i64.wrap (n - n / d * d) = n % d := by rw [wrapI (by rw [Int.mul_comm]; omega), Int.mul_comm]; omega

  have w3 : IntKind.i64.wrap (d - n % d) = d - n % d := wrapI (by omega)

  refine out2 (rrd (by omega) (by omega) (R := fun a b => a = rdiv n d ∧ b = !wholeB n d) ⟨_, floor_s (by omega) (by omega), by omega, ?_⟩)

  rw [w1, w2, w3, e, wholeB_mod]

  simp only [decide_eq_true_eq, decide_eq_false_iff_not]

  refine ⟨fun h => ⟨by rw [if_pos h], ?_⟩, fun h => ⟨by rw [if_neg h]; omega, ?_⟩⟩

  · rw [decide_eq_false (by omega)]; rfl

  · by_cases g : n % d = 0

    · rw [decide_eq_true g, g]; rfl

    · rw [decide_eq_false g]; simp only [Bool.not_false, bne_iff_ne, ne_eq]; exact g

theorem outb3 {P : Program} {S : Sig} {V : Vs} {x y z : Int} (h : ∃ a b c : Int, (a = x ∧ b = y ∧ c = z) ∧ Spec P S V [a, b, c] [] []) : Spec P S V [x, y, z] [] [] := by

  obtain ⟨a, b, c, ⟨rfl, rfl, rfl⟩, hs⟩ := h

  exact hs

theorem awake1 : ∃ u : Bool, u = true ∧ Spec Tryz.prog etalonlaw01_awake_s ⟨[], [], []⟩ [] [u] [] := aw (R := (· = true)) rfl

theorem outt {P : Program} {S : Sig} {V : Vs} {u : Bool} (h : ∃ b : Bool, b = u ∧ Spec P S V [] [b] []) : Spec P S V [] [u] [] := by

  obtain ⟨b, rfl, hs⟩ := h

  exact hs

theorem awake_t : Spec Tryz.prog etalonlaw01_awake_s ⟨[], [], []⟩ [] [true] [] := outt awake1

def cutI (x : Int) : Int := if (if x < 9007199254740992 then x else 9007199254740992) > (-9007199254740992) then (if x < 9007199254740992 then x else 9007199254740992) else (-9007199254740992)

theorem cutI_F (x : Int) : InF (cutI x) := by unfold cutI InF; split <;> split <;> omega

theorem cutI_id {x : Int} (h : InF x) : cutI x = x := by unfold InF at h; unfold cutI; split <;> split <;> omega

theorem U_fi {x : Int} (h : InF x) : U (fi x) := fi_lt x h

theorem wball_s {x y r : Int} (hx : I64 x) (hy : I64 y) (hr : I64 r) : Spec Tryz.prog _etalonlaw01_Whole__ball_s ⟨[x, y, r], [], []⟩ [((fi (cutI x) : Nat) : Int), ((fi (cutI y) : Nat) : Int), r] [] [] :=

  outb3 (lwb hx hy hr (R := fun a b c => a = ((fi (cutI x) : Nat) : Int) ∧ b = ((fi (cutI y) : Nat) : Int) ∧ c = r) ⟨rfl, rfl, rfl⟩)

theorem werr_s {x y r : Int} (hx : I64 x) (hy : I64 y) (hr : I64 r) : Spec Tryz.prog _etalonlaw01_Whole__err_s ⟨[x, y, r], [], []⟩ [ckW (cutI x) (cutI y) r] [] [] :=

  out1 (lwe hx hy hr (R := (· = ckW (cutI x) (cutI y) r)) ⟨_, _, _, wball_s hx hy hr, _, checkBall_r (U_fi (cutI_F x)) (U_fi (cutI_F y)) hr, ckB_rp (Rp_fi _) (Rp_fi _) (cutI_F x) (cutI_F y)⟩)

theorem wtwo_s {x y r z w s : Int} (hx : I64 x) (hy : I64 y) (hr : I64 r) (hz : I64 z) (hw : I64 w) (hs : I64 s) : Spec Tryz.prog _etalonlaw01_Whole__two_s ⟨[x, y, r, z, w, s], [], []⟩ [fe (ckW (cutI x) (cutI y) r) (ckW (cutI z) (cutI w) s)] [] [] := by

  refine out1 (lwt hx hy hr hz hw hs (R := (· = fe (ckW (cutI x) (cutI y) r) (ckW (cutI z) (cutI w) s))) ⟨_, werr_s hx hy hr, ?_⟩)

  simp only [beq_iff_eq, beq_eq_false_iff_ne, ne_eq]

  unfold fe

  exact ⟨fun h => ⟨_, werr_s hz hw hs, by rw [if_pos h]⟩, fun h => by rw [if_neg h]⟩

theorem of_s {a b : Nat} {X Y r : Int} (pa : Rp a X) (pb : Rp b Y) (hx : InF X) (hy : InF Y) (hr : I64 r) : Spec Tryz.prog etalonref01_Of_s ⟨[(a : Int), (b : Int), r], [], []⟩ [X, Y, r] [] [] :=

  outb3 (lof (x0 := (a : Int)) (x1 := (b : Int)) hr (R := fun p q c => p = X ∧ q = Y ∧ c = r) ⟨X, ⟨pa, by have := hx.1; have := hx.2; omega⟩, ⟨hx.1, hx.2⟩, Y, ⟨pb, by have := hy.1; have := hy.2; omega⟩, ⟨hy.1, hy.2⟩, rfl, rfl, rfl⟩)

theorem rball_s {x y r : Int} (hx : I64 x) (hy : I64 y) (hr : I64 r) : Spec Tryz.prog _etalonref01_B__Ball_s ⟨[x, y, r], [], []⟩ [F x, F y, r] [] [] :=

  outb3 (lbb hx hy hr (R := fun a b c => a = F x ∧ b = F y ∧ c = r) ⟨rfl, rfl, rfl⟩)

theorem same_s {x y r : Int} (hr : I64 r) : Spec Tryz.prog etalonbase_SameBall_s ⟨[x, y, r, x, y, r], [], []⟩ [] [true] [] := by

  refine outt (lsb hr hr (R := (· = true)) ⟨fun _ => ⟨fun _ => by simp, fun h => by simp at h⟩, fun h => by simp at h⟩)

theorem is_s {x y r e : Int} (hx : I64 x) (hy : I64 y) (hr : I64 r) (he : I64 e) : Spec Tryz.prog etalonlaw01_is_s ⟨[F x, F y, r, e, x, y, r, e], [], []⟩ [] [true] [] := by

  refine outt (lis hr he hx hy hr he (R := (· = true)) ⟨fun _ => ⟨_, _, _, rball_s hx hy hr, _, same_s hr, rfl⟩, fun h => by simp at h⟩)

structure BqN (q : Bq) : Prop where

  hx : (-67108864) ≤ q.x ∧ q.x ≤ 67108864

  hy : (-67108864) ≤ q.y ∧ q.y ≤ 67108864

  hr : 0 ≤ q.r ∧ q.r ≤ 67108864

  he : 0 ≤ q.e ∧ q.e ≤ 100

theorem bk_n {x y r : Int} (h : 0 ≤ r) : BqN (bk x y r) := by

  unfold bk

  by_cases g : okB x y r

  · rw [if_pos g]; exact ⟨g.1, g.2.1, ⟨h, g.2.2⟩, by dsimp only; omega⟩

  · rw [if_neg g]; exact ⟨by dsimp only; omega, by dsimp only; omega, by dsimp only; omega, by dsimp only; omega⟩

theorem be_n {e : Int} (h : 0 ≤ e ∧ e ≤ 100) : BqN (be e) := ⟨by dsimp only [be]; omega, by dsimp only [be]; omega, by dsimp only [be]; omega, h⟩

theorem ckW_v (X Y r : Int) : ckW X Y r = 0 ∨ ckW X Y r = 2 := by unfold ckW; split <;> simp

theorem fe_v {a b : Int} (h : a = 0 ∨ a = 2) (g : b = 0 ∨ b = 2) : fe a b = 0 ∨ fe a b = 2 := by unfold fe; split <;> omega

theorem BqN.is {q : Bq} (h : BqN q) : Spec Tryz.prog etalonlaw01_is_s ⟨[F q.x, F q.y, q.r, q.e, q.x, q.y, q.r, q.e], [], []⟩ [] [true] [] := is_s (by have := h.hx; omega) (by have := h.hy; omega) (by have := h.hr; omega) (by have := h.he; omega)

theorem is_be {e : Int} (h : 0 ≤ e ∧ e ≤ 100) : Spec Tryz.prog etalonlaw01_is_s ⟨[F (be e).x, F (be e).y, (be e).r, (be e).e, 0, 0, 0, e], [], []⟩ [] [true] [] := is_s (x := 0) (y := 0) (r := 0) (e := (be e).e) (by omega) (by omega) (by omega) (by show I64 e; omega)

end Go.Proofs.YtgdhpgjfebinhaaGreat.Ev
