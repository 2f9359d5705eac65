/- Balls that lie: what package ball and the reference answer. -/
import Derived.Test.YtgdhpgjfebinhaaGreatFzb
namespace Go.Proofs.YtgdhpgjfebinhaaGreat.Ev
set_option linter.unusedSimpArgs false
open Go Go.RowKit
set_option linter.unusedVariables false
set_option maxRecDepth 100000
open Go.Proofs.YtgdhpgjfebinhaaGreat.Gm

theorem cpl {P : Program} {S : Sig} {V : Vs} {x : Int} {u : Bool} (h : ∃ a : Int, ∃ b : Bool, (a = x ∧ b = u) ∧ Spec P S V [a] [b] []) : Spec P S V [x] [u] [] := by

  obtain ⟨a, b, ⟨rfl, rfl⟩, hs⟩ := h

  exact hs

theorem inF_n {x : Int} (h : (-67108864) ≤ x ∧ x ≤ 67108864) : InF x := ⟨by omega, by omega⟩

theorem checkF {X Y r : Int} (hX : InF X) (hY : InF Y) (hr : I64 r) : Spec Tryz.prog ball_CheckBall_s ⟨[F X, F Y, r], [], []⟩ [ckW X Y r] [] [] := by

  have := checkBall_p (U_fi hX) (U_fi hY) hr

  rwa [ckB_rp (Rp_fi X) (Rp_fi Y) hX hY] at this

/-- The error of a point. -/

def ckP (X Y : Int) : Int := if ((-134217728) ≤ X ∧ X ≤ 134217728) ∧ ((-134217728) ≤ Y ∧ Y ≤ 134217728) then 0 else 2

theorem ckC_rp {X Y : Int} (hx : InF X) (hy : InF Y) : ckC (fi X) (fi Y) 134217728 = ckP X Y := by

  unfold ckC

  rw [whB_rp (Rp_fi X) hx, whB_rp (Rp_fi Y) hy, bigB_rp (Rp_fi X) hx (by decide) (by decide), bigB_rp (Rp_fi Y) hy (by decide) (by decide)]

  unfold ckP

  by_cases h1 : 134217728 < (X.natAbs : Int)

  · rw [decide_eq_true h1, if_neg (c := ((-134217728) ≤ X ∧ X ≤ 134217728) ∧ _) (by omega)]; rfl

  · by_cases h2 : 134217728 < (Y.natAbs : Int)

    · rw [decide_eq_false h1, decide_eq_true h2, if_neg (c := ((-134217728) ≤ X ∧ X ≤ 134217728) ∧ _) (by omega)]; rfl

    · rw [decide_eq_false h1, decide_eq_false h2, if_pos (c := ((-134217728) ≤ X ∧ X ≤ 134217728) ∧ _) (by omega)]; rfl

theorem pointF {X Y : Int} (hX : InF X) (hY : InF Y) : Spec Tryz.prog whole_CheckParts_s ⟨[F X, F Y, ((FloatKind.f64.nearest 134217728 : Nat) : Int)], [], []⟩ [ckP X Y] [] [] := by

  have := parts_rs (M := 134217728) (U_fi hX) (U_fi hY)

  rwa [ckC_rp hX hY] at this

/-- Right balls. -/

structure GB (X Y r : Int) : Prop where

  hx : (-67108864) ≤ X ∧ X ≤ 67108864

  hy : (-67108864) ≤ Y ∧ Y ≤ 67108864

  hr : 0 ≤ r ∧ r ≤ 67108864

theorem ckW_gb {X Y r : Int} (h : ckW X Y r = 0) : GB X Y r := by

  unfold ckW at h

  split at h

  · rename_i g; exact ⟨g.1, g.2.1, g.2.2⟩

  · cases h

def ds (X Y Z W : Int) : Int := (X - Z) * (X - Z) + (Y - W) * (Y - W)

def coB (X Y r A B : Int) : Bool := decide (ds X Y A B ≤ r * r)

def meB (X Y r Z W s : Int) : Bool := decide (ds X Y Z W ≤ (r + s) * (r + s))

def isB (X Y r Z W s : Int) : Bool := decide (r ≤ s) && decide (ds X Y Z W ≤ (s - r) * (s - r))

theorem contains_g {X Y r A B : Int} (g : GB X Y r) (ha : (-134217728) ≤ A ∧ A ≤ 134217728) (hb : (-134217728) ≤ B ∧ B ≤ 134217728) : Spec Tryz.prog ball_Contains_s ⟨[F X, F Y, r, F A, F B], [], []⟩ [0] [coB X Y r A B] [] := by

  obtain ⟨h1, h2, h3⟩ := g

  exact cpl (co h3 (R := fun a b => a = 0 ∧ b = coB X Y r A B) ⟨X, ⟨F_rp X, by omega⟩, h1, Y, ⟨F_rp Y, by omega⟩, h2, A, ⟨F_rp A, by omega⟩, ha, B, ⟨F_rp B, by omega⟩, hb, rfl, rfl⟩)

theorem contains_b {X Y r A B : Int} (hX : InF X) (hY : InF Y) (hr : I64 r) (hA : InF A) (hB : InF B) (h : fe (ckW X Y r) (ckP A B) ≠ 0) : Spec Tryz.prog ball_Contains_s ⟨[F X, F Y, r, F A, F B], [], []⟩ [fe (ckW X Y r) (ckP A B)] [false] [] := by

  refine cpl (cob hr (R := fun a b => a = fe (ckW X Y r) (ckP A B) ∧ b = false) ⟨_, checkF hX hY hr, ?_⟩)

  simp only [beq_iff_eq, beq_eq_false_iff_ne, ne_eq]

  unfold fe at h ⊢

  refine ⟨fun h1 => ⟨_, pointF hA hB, ?_⟩, fun h1 => ⟨by rw [if_neg h1], trivial⟩⟩

  rw [if_pos h1] at h ⊢

  exact ⟨fun h2 => h h2, fun _ => ⟨rfl, trivial⟩⟩

theorem meets_g {X Y r Z W s : Int} (g : GB X Y r) (k : GB Z W s) : Spec Tryz.prog ball_Meets_s ⟨[F X, F Y, r, F Z, F W, s], [], []⟩ [0] [meB X Y r Z W s] [] := by

  obtain ⟨h1, h2, h3⟩ := g

  obtain ⟨k1, k2, k3⟩ := k

  exact cpl (me h3 k3 (R := fun a b => a = 0 ∧ b = meB X Y r Z W s) ⟨X, ⟨F_rp X, by omega⟩, h1, Y, ⟨F_rp Y, by omega⟩, h2, Z, ⟨F_rp Z, by omega⟩, k1, W, ⟨F_rp W, by omega⟩, k2, rfl, rfl⟩)

theorem meets_b {X Y r Z W s : Int} (hX : InF X) (hY : InF Y) (hr : I64 r) (hZ : InF Z) (hW : InF W) (hs : I64 s) (h : fe (ckW X Y r) (ckW Z W s) ≠ 0) : Spec Tryz.prog ball_Meets_s ⟨[F X, F Y, r, F Z, F W, s], [], []⟩ [fe (ckW X Y r) (ckW Z W s)] [false] [] := by

  refine cpl (meb hr hs (R := fun a b => a = fe (ckW X Y r) (ckW Z W s) ∧ b = false) ⟨_, checkF hX hY hr, ?_⟩)

  simp only [beq_iff_eq, beq_eq_false_iff_ne, ne_eq]

  unfold fe at h ⊢

  refine ⟨fun h1 => ⟨_, checkF hZ hW hs, ?_⟩, fun h1 => ⟨by rw [if_neg h1], trivial⟩⟩

  rw [if_pos h1] at h ⊢

  exact ⟨fun h2 => h h2, fun _ => ⟨rfl, trivial⟩⟩

theorem inside_g {X Y r Z W s : Int} (g : GB X Y r) (k : GB Z W s) : Spec Tryz.prog ball_Inside_s ⟨[F X, F Y, r, F Z, F W, s], [], []⟩ [0] [isB X Y r Z W s] [] := by

  obtain ⟨h1, h2, h3⟩ := g

  obtain ⟨k1, k2, k3⟩ := k

  refine cpl (isg h3 k3 (R := fun a b => a = 0 ∧ b = isB X Y r Z W s) ⟨X, ⟨F_rp X, by omega⟩, h1, Y, ⟨F_rp Y, by omega⟩, h2, Z, ⟨F_rp Z, by omega⟩, k1, W, ⟨F_rp W, by omega⟩, k2, fun h => ⟨rfl, ?_⟩, fun h => ⟨rfl, ?_⟩⟩)

  · have h := of_decide_eq_true h

    unfold isB

    rw [decide_eq_true (show r ≤ s by omega)]; rfl

  · have h := of_decide_eq_false h

    unfold isB

    rw [decide_eq_false (show ¬ r ≤ s by omega)]; rfl

theorem inside_b {X Y r Z W s : Int} (hX : InF X) (hY : InF Y) (hr : I64 r) (hZ : InF Z) (hW : InF W) (hs : I64 s) (h : fe (ckW X Y r) (ckW Z W s) ≠ 0) : Spec Tryz.prog ball_Inside_s ⟨[F X, F Y, r, F Z, F W, s], [], []⟩ [fe (ckW X Y r) (ckW Z W s)] [false] [] := by

  refine cpl (isb hr hs (R := fun a b => a = fe (ckW X Y r) (ckW Z W s) ∧ b = false) ⟨_, checkF hX hY hr, ?_⟩)

  simp only [beq_iff_eq, beq_eq_false_iff_ne, ne_eq]

  unfold fe at h ⊢

  refine ⟨fun h1 => ⟨_, checkF hZ hW hs, ?_⟩, fun h1 => ⟨by rw [if_neg h1], trivial⟩⟩

  rw [if_pos h1] at h ⊢

  exact ⟨fun h2 => absurd h2 h, fun _ => ⟨rfl, trivial⟩⟩

theorem contains_r {X Y r A B : Int} (g : GB X Y r) (ha : (-134217728) ≤ A ∧ A ≤ 134217728) (hb : (-134217728) ≤ B ∧ B ≤ 134217728) : Spec Tryz.prog etalonref01_Contains_s ⟨[X, Y, r, A, B], [], []⟩ [] [coB X Y r A B] [] :=

  outt (rco g.hx g.hy g.hr ha hb (R := (· = coB X Y r A B)) rfl)

theorem meets_r {X Y r Z W s : Int} (g : GB X Y r) (k : GB Z W s) : Spec Tryz.prog etalonref01_Meets_s ⟨[X, Y, r, Z, W, s], [], []⟩ [] [meB X Y r Z W s] [] :=

  outt (rme g.hx g.hy g.hr k.hx k.hy k.hr (R := (· = meB X Y r Z W s)) rfl)

theorem inside_r {X Y r Z W s : Int} (g : GB X Y r) (k : GB Z W s) : Spec Tryz.prog etalonref01_Inside_s ⟨[X, Y, r, Z, W, s], [], []⟩ [] [isB X Y r Z W s] [] :=

  outt (rin g.hx g.hy g.hr k.hx k.hy k.hr (R := (· = isB X Y r Z W s)) ⟨fun h => by unfold isB; rw [h]; rfl, fun h => by unfold isB; rw [h]; rfl⟩)

/-- The hull. -/

def hX (X Z : Int) : Int := rdiv (X + Z) 2

def hR (X Y r Z W s : Int) : Int := if rtu (ds Z W (hX X Z) (hX Y W)) + s > rtu (ds X Y (hX X Z) (hX Y W)) + r then rtu (ds Z W (hX X Z) (hX Y W)) + s else rtu (ds X Y (hX X Z) (hX Y W)) + r

def hullQ (X Y r Z W s : Int) : Bq := bk (hX X Z) (hX Y W) (hR X Y r Z W s)

theorem hX_bd {X Z : Int} (h : (-67108864) ≤ X ∧ X ≤ 67108864) (g : (-67108864) ≤ Z ∧ Z ≤ 67108864) : (-67108864) ≤ hX X Z ∧ hX X Z ≤ 67108864 := by unfold hX rdiv; omega

theorem ds_bd {X Y Z W : Int} (h1 : (-67108864) ≤ X ∧ X ≤ 67108864) (h2 : (-67108864) ≤ Y ∧ Y ≤ 67108864) (h3 : (-67108864) ≤ Z ∧ Z ≤ 67108864) (h4 : (-67108864) ≤ W ∧ W ≤ 67108864) : (0 ≤ ds X Y Z W ∧ ds X Y Z W < 72057594037927936) ∧ 0 ≤ rtu (ds X Y Z W) ∧ rtu (ds X Y Z W) ≤ 200000000 ∧ ds X Y Z W ≤ rtu (ds X Y Z W) * rtu (ds X Y Z W) := by

  have b1 := sq_bd (X := X - Z) (M := 134217728) (by omega)

  have b2 := sq_bd (X := Y - W) (M := 134217728) (by omega)

  have e : 0 ≤ ds X Y Z W ∧ ds X Y Z W < 36028797018963969 := by unfold ds; omega

  have r1 := rtu_all e.1

  exact ⟨by omega, r1.1, rtu_le e.1 (by decide) (by omega), r1.2.1⟩

theorem half_p {a : Int} (h : (-134217728) ≤ a ∧ a ≤ 134217728) : Spec Tryz.prog whole_Nearest_s ⟨[a, 1, 2], [], []⟩ [rdiv a 2] [wholeB a 2] [] := nearest1_s (by omega) (by omega) (by decide) (by decide)

theorem hull_g {X Y r Z W s : Int} (g : GB X Y r) (k : GB Z W s) : Spec Tryz.prog ball_Hull_s ⟨[F X, F Y, r, F Z, F W, s], [], []⟩ [F (hullQ X Y r Z W s).x, F (hullQ X Y r Z W s).y, (hullQ X Y r Z W s).r, (hullQ X Y r Z W s).e] [] [] := by

  obtain ⟨h1, h2, h3⟩ := g

  obtain ⟨k1, k2, k3⟩ := k

  have n1 := half_p (a := X + Z) (by omega)

  have n2 := half_p (a := Y + W) (by omega)

  have b1 := hX_bd h1 k1

  have b2 := hX_bd h2 k2

  obtain ⟨d1, d2, d3, _⟩ := ds_bd h1 h2 b1 b2

  obtain ⟨e1, e2, e3, _⟩ := ds_bd k1 k2 b1 b2

  have u1 := rootUp_s d1.1 d1.2

  have u2 := rootUp_s e1.1 e1.2

  have tree := bk_tree3 (q := hullQ X Y r Z W s) (x := hX X Z) (y := hX Y W) (r := hR X Y r Z W s) rfl b1 b2

  have m0 : (if rtu (ds X Y (hX X Z) (hX Y W)) + r > 0 then rtu (ds X Y (hX X Z) (hX Y W)) + r else 0) = rtu (ds X Y (hX X Z) (hX Y W)) + r := by split <;> omega

  refine BqF.out (hu h3 k3 (R := BqF _) ⟨X, ⟨F_rp X, by omega⟩, h1, Y, ⟨F_rp Y, by omega⟩, h2, Z, ⟨F_rp Z, by omega⟩, k1, W, ⟨F_rp W, by omega⟩, k2, _, _, n1, b1, _, _, n2, b2, fun _ => ⟨_, u1, ⟨d2, d3⟩, _, u2, ⟨e2, e3⟩, ?_⟩, fun _ => ⟨_, u1, ⟨d2, d3⟩, _, u2, ⟨e2, e3⟩, ?_⟩⟩)

  · rw [m0]; exact tree

  · rw [m0]; exact tree

theorem hull_b {X Y r Z W s : Int} (iX : InF X) (iY : InF Y) (hr : I64 r) (iZ : InF Z) (iW : InF W) (hs : I64 s) (h : fe (ckW X Y r) (ckW Z W s) ≠ 0) : Spec Tryz.prog ball_Hull_s ⟨[F X, F Y, r, F Z, F W, s], [], []⟩ [F 0, F 0, 0, fe (ckW X Y r) (ckW Z W s)] [] [] := by

  refine BqF.out (q := be (fe (ckW X Y r) (ckW Z W s))) (hub hr hs (R := BqF _) ⟨_, checkF iX iY hr, ?_⟩)

  simp only [beq_iff_eq, beq_eq_false_iff_ne, ne_eq]

  unfold fe at h ⊢

  refine ⟨fun h1 => ⟨_, checkF iZ iW hs, ?_⟩, fun h1 => by rw [if_neg h1]; exact be_ok rfl⟩

  rw [if_pos h1] at h ⊢

  exact ⟨fun h2 => h h2, fun _ => be_ok rfl⟩

theorem hR_nn {X Y r Z W s : Int} (g : GB X Y r) (k : GB Z W s) : r ≤ hR X Y r Z W s ∧ s ≤ hR X Y r Z W s ∧ ds X Y (hX X Z) (hX Y W) ≤ (hR X Y r Z W s - r) * (hR X Y r Z W s - r) ∧ ds Z W (hX X Z) (hX Y W) ≤ (hR X Y r Z W s - s) * (hR X Y r Z W s - s) ∧ hR X Y r Z W s ≤ 300000000 := by

  obtain ⟨h1, h2, h3⟩ := g

  obtain ⟨k1, k2, k3⟩ := k

  have b1 := hX_bd h1 k1

  have b2 := hX_bd h2 k2

  obtain ⟨d1, d2, d3, d4⟩ := ds_bd h1 h2 b1 b2

  obtain ⟨e1, e2, e3, e4⟩ := ds_bd k1 k2 b1 b2

  have hh : rtu (ds X Y (hX X Z) (hX Y W)) ≤ hR X Y r Z W s - r ∧ rtu (ds Z W (hX X Z) (hX Y W)) ≤ hR X Y r Z W s - s ∧ hR X Y r Z W s ≤ 300000000 := by

    unfold hR; split <;> omega

  have m1 := Int.mul_le_mul hh.1 hh.1 d2 (by omega)

  have m2 := Int.mul_le_mul hh.2.1 hh.2.1 e2 (by omega)

  exact ⟨by omega, by omega, by omega, by omega, hh.2.2⟩

theorem hull_r {X Y r Z W s : Int} (g : GB X Y r) (k : GB Z W s) : Spec Tryz.prog etalonref01_Hull_s ⟨[X, Y, r, Z, W, s], [], []⟩ [(hullQ X Y r Z W s).x, (hullQ X Y r Z W s).y, (hullQ X Y r Z W s).r, (hullQ X Y r Z W s).e] [] [] := by

  have nn := hR_nn g k

  obtain ⟨h1, h2, h3⟩ := g

  obtain ⟨k1, k2, k3⟩ := k

  have b1 := hX_bd h1 k1

  have b2 := hX_bd h2 k2

  obtain ⟨d1, d2, d3, _⟩ := ds_bd h1 h2 b1 b2

  obtain ⟨e1, e2, e3, _⟩ := ds_bd k1 k2 b1 b2

  have n1 := rounded_r (n := X + Z) (d := 2) (by omega) (by decide)

  have n2 := rounded_r (n := Y + W) (d := 2) (by omega) (by decide)

  have sw : ∀ a b : Int, (a - b) * (a - b) = (b - a) * (b - a) := fun a b => by rw [show b - a = -(a - b) by omega, Int.neg_mul_neg]

  have q1 : ds X Y (hX X Z) (hX Y W) = (rdiv (X + Z) 2 - X) * (rdiv (X + Z) 2 - X) + (rdiv (Y + W) 2 - Y) * (rdiv (Y + W) 2 - Y) := by unfold ds; rw [sw X, sw Y]; rfl

  have q2 : ds Z W (hX X Z) (hX Y W) = (rdiv (X + Z) 2 - Z) * (rdiv (X + Z) 2 - Z) + (rdiv (Y + W) 2 - W) * (rdiv (Y + W) 2 - W) := by unfold ds; rw [sw Z, sw W]; rfl

  have u1 := rrootUp_s d1.1 d1.2

  have u2 := rrootUp_s e1.1 e1.2

  have ck := checked_r (x := hX X Z) (y := hX Y W) (r := hR X Y r Z W s) (by omega) (by omega) (by omega) (by omega)

  rw [q1] at u1 d2 d3

  rw [q2] at u2 e2 e3

  have eR : hR X Y r Z W s = if rtu ((rdiv (X + Z) 2 - Z) * (rdiv (X + Z) 2 - Z) + (rdiv (Y + W) 2 - W) * (rdiv (Y + W) 2 - W)) + s > rtu ((rdiv (X + Z) 2 - X) * (rdiv (X + Z) 2 - X) + (rdiv (Y + W) 2 - Y) * (rdiv (Y + W) 2 - Y)) + r then rtu ((rdiv (X + Z) 2 - Z) * (rdiv (X + Z) 2 - Z) + (rdiv (Y + W) 2 - W) * (rdiv (Y + W) 2 - W)) + s else rtu ((rdiv (X + Z) 2 - X) * (rdiv (X + Z) 2 - X) + (rdiv (Y + W) 2 - Y) * (rdiv (Y + W) 2 - Y)) + r := by unfold hR; rw [q1, q2]

  have qe : hullQ X Y r Z W s = bk (hX X Z) (hX Y W) (hR X Y r Z W s) := rfl

  rw [qe]

  refine BqI.out (rhu h1 h2 h3 k1 k2 k3 (R := BqI _) ⟨_, _, n1, b1, _, _, n2, b2, _, u1, ⟨d2, d3⟩, _, u2, ⟨e2, e3⟩, ?_⟩)

  rw [← eR]

  exact ⟨_, _, _, _, ck, rfl, rfl, rfl, rfl⟩

end Go.Proofs.YtgdhpgjfebinhaaGreat.Ev
