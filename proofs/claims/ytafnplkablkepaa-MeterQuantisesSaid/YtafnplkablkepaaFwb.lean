/- Scans: which are right. -/
import Derived.Test.YtafnplkablkepaaFwa
namespace Go.Proofs.Ytafnplkablkepaa.Ev
set_option linter.unusedSimpArgs false
open Go Go.RowKit
set_option linter.unusedVariables false
set_option maxRecDepth 100000
theorem widen_U (b : Nat) : widen b < 18446744073709551616 := Ieee.Format.write_lt Ieee.double _

theorem wh_p (v : Int) : Spec Try.prog whole_IsWhole_s ⟨[NOp.den .cvF v 0], [], []⟩ [] [whB (widen v.toNat)] [] := whole_rs (widen_U _)

theorem wh_r (v : Int) : Spec Try.prog etalonbase_IsWhole_s ⟨[NOp.den .cvF v 0], [], []⟩ [] [whB (widen v.toNat)] [] := Spec.of rfl rfl rfl rfl fun w => base_raw (widen_U _) w

/-- The error of a sample. -/

def scRow (f0 : Int → Int) (i : Int) : Int :=

  if COp.flo .f32 .neq (f0 i).toNat (f0 i).toNat = true then 27 else if whB (widen (f0 i).toNat) = false then 27 else

  if COp.flo .f32 .lss (f0 i).toNat (0 : Int).toNat = true then 2 else if COp.flo .f32 .gtr (f0 i).toNat (1199570688 : Int).toNat = true then 2 else 0

def rst (E : Int → Int) : Nat → Int → Int × Int

  | 0, _ => (0, 0)

  | k + 1, i => if E i = 0 then rst E k (i + 1) else (i, E i)

theorem rst_step {E : Int → Int} {n i : Int} (h : 0 ≤ i ∧ i < n) : rst E (n - i).toNat i = if E i = 0 then rst E (n - (i + 1)).toNat (i + 1) else (i, E i) := by

  rw [show (n - i).toNat = (n - (i + 1)).toNat + 1 by omega, rst]

theorem rst_all {E : Int → Int} : ∀ (k : Nat) (i : Int), (rst E k i).2 = 0 → ∀ j, i ≤ j → j < i + k → E j = 0

  | 0, i, _, j, h1, h2 => by omega

  | k + 1, i, h, j, h1, h2 => by

    unfold rst at h

    split at h

    · rename_i g

      by_cases e : j = i

      · subst e; exact g

      · exact rst_all k (i + 1) h j (by omega) (by omega)

    · rename_i g; exact absurd h g

/-- The number of a sample, and the error, of a scan. -/

def scE (x0 x1 x2 : Int) (f0 : Int → Int) : Int × Int := if ¬ (x0 % 4 = 0 ∧ 4 ≤ x0 ∧ x0 ≤ 64) then (0, 12) else if ¬ ((0 ≤ x1 ∧ x1 ≤ 65535) ∧ (1 ≤ x2 ∧ x2 ≤ 65536)) then (0, 2) else rst (scRow f0) x0.toNat 0

theorem read_65535 : Ieee.single.read 1199570688 = .number false 16776960 (-8) := by decide +kernel

theorem sample32 {b : Nat} (hn : (Ieee.single.order b b != some .eq) = false) (hw : whB (widen b) = true) (h1 : (Ieee.single.order b 0 == some .lt) = false) (h2 : (Ieee.single.order b 1199570688 == some .gt) = false) : ∃ x, cutF32 b = some x ∧ (0 ≤ x ∧ x ≤ 65535) ∧ Rp (widen b) x := by

  obtain ⟨x, c1, c2, c3, c4⟩ := value32 hn hw

  have a1 := c1 read_0 (y := 0) (by unfold Mi Ieee.signed; simp)

  have a2 := c1 read_65535 (y := 65535) (by unfold Mi Ieee.signed; decide)

  rw [a1] at h1; rw [a2] at h2

  have b1 := cmp32_lt h1

  have b2 := cmp32_gt h2

  refine ⟨x, c3 (by omega) (by omega), ⟨b1, b2⟩, ?_⟩

  exact c4 ⟨by omega, by omega⟩

theorem cmpD {v c y : Int} {t : Bool} {n : Nat} {j : Int} (h1 : COp.flo .f32 .neq v.toNat v.toNat = false) (h2 : whB (widen v.toNat) = true) (hc : Ieee.single.read c.toNat = .number t n j) (hy : Mi (Ieee.signed t n 0) j y) (hk : InF y) :

    Ieee.double.order (NOp.den .cvF v 0).toNat (((FloatKind.f64.nearest y : Nat) : Int)).toNat = Ieee.single.order v.toNat c.toNat := both32 h1 h2 hc hy hk

theorem cmp_lss {v : Int} (h1 : COp.flo .f32 .neq v.toNat v.toNat = false) (h2 : whB (widen v.toNat) = true) : COp.flo .f64 .lss (NOp.den .cvF v 0).toNat (((FloatKind.f64.nearest 0 : Nat) : Int)).toNat = COp.flo .f32 .lss v.toNat (0 : Int).toNat := by

  show (Ieee.double.order _ _ == some .lt) = (Ieee.single.order _ _ == some .lt)

  rw [cmpD (y := 0) (c := 0) h1 h2 read_0 (by unfold Mi Ieee.signed; simp) ⟨by decide, by decide⟩]

theorem cmp_gtr {v : Int} (h1 : COp.flo .f32 .neq v.toNat v.toNat = false) (h2 : whB (widen v.toNat) = true) : COp.flo .f64 .gtr (NOp.den .cvF v 0).toNat (((FloatKind.f64.nearest 65535 : Nat) : Int)).toNat = COp.flo .f32 .gtr v.toNat (1199570688 : Int).toNat := by

  show (Ieee.double.order _ _ == some .gt) = (Ieee.single.order _ _ == some .gt)

  rw [cmpD (y := 65535) (c := 1199570688) h1 h2 read_65535 (by unfold Mi Ieee.signed; decide) ⟨by decide, by decide⟩]

section

variable {x0 x1 x2 : Int} {f0 : Int → Int}

theorem row_cases (f0 : Int → Int) (i : Int) : (COp.flo .f32 .neq (f0 i).toNat (f0 i).toNat = true → scRow f0 i = 27) ∧ (COp.flo .f32 .neq (f0 i).toNat (f0 i).toNat = false → (whB (widen (f0 i).toNat) = false → scRow f0 i = 27) ∧ (whB (widen (f0 i).toNat) = true →

    (COp.flo .f32 .lss (f0 i).toNat (0 : Int).toNat = true → scRow f0 i = 2) ∧ (COp.flo .f32 .lss (f0 i).toNat (0 : Int).toNat = false → (COp.flo .f32 .gtr (f0 i).toNat (1199570688 : Int).toNat = true → scRow f0 i = 2) ∧ (COp.flo .f32 .gtr (f0 i).toNat (1199570688 : Int).toNat = false → scRow f0 i = 0)))) := by

  unfold scRow

  refine ⟨fun a => by rw [if_pos a], fun a => ⟨fun b => ?_, fun b => ⟨fun c => ?_, fun c => ⟨fun d => ?_, fun d => ?_⟩⟩⟩⟩

  · rw [if_neg (by rw [a]; decide), if_pos b]

  · rw [if_neg (by rw [a]; decide), if_neg (by rw [b]; decide), if_pos c]

  · rw [if_neg (by rw [a]; decide), if_neg (by rw [b]; decide), if_neg (by rw [c]; decide), if_pos d]

  · rw [if_neg (by rw [a]; decide), if_neg (by rw [b]; decide), if_neg (by rw [c]; decide), if_neg (by rw [d]; decide)]

theorem sc_out {i e : Int} (hi : 0 ≤ i ∧ i < x0) (g : rst (scRow f0) (x0 - i).toNat i = rst (scRow f0) x0.toNat 0) (h : scRow f0 i = e) (he : e ≠ 0) : i = (rst (scRow f0) x0.toNat 0).1 ∧ e = (rst (scRow f0) x0.toNat 0).2 := by

  rw [← g, rst_step hi, if_neg (by rw [h]; exact he), h]; exact ⟨rfl, rfl⟩

theorem sc_on {i : Int} (hi : 0 ≤ i ∧ i < x0) (g : rst (scRow f0) (x0 - i).toNat i = rst (scRow f0) x0.toNat 0) (h : scRow f0 i = 0) : (0 ≤ i + 1 ∧ i + 1 ≤ x0 ∧ rst (scRow f0) (x0 - (i + 1)).toNat (i + 1) = rst (scRow f0) x0.toNat 0) ∧ (x0 - (i + 1)).toNat < (x0 - i).toNat := by

  refine ⟨⟨by omega, by omega, ?_⟩, by omega⟩

  rw [← g, rst_step hi, if_pos h]

theorem checkScan_p (r0 : 0 ≤ x0 ∧ x0 ≤ 140737488355328) (r1 : (-9223372036854775808) ≤ x1 ∧ x1 ≤ 9223372036854775807) (r2 : (-9223372036854775808) ≤ x2 ∧ x2 ≤ 9223372036854775807) : Spec Try.prog meter_CheckScan_s ⟨[x0, x1, x2], [], [f0]⟩ [(scE x0 x1 x2 f0).1, (scE x0 x1 x2 f0).2] [] [] := by

  have t4 : x0.tmod 4 = x0 % 4 := Int.tmod_eq_emod_of_nonneg r0.1

  obtain ⟨a, b, ⟨rfl, rfl⟩, hs⟩ := csn (f0 := f0) r0 r1 r2 (R := fun a b => a = (scE x0 x1 x2 f0).1 ∧ b = (scE x0 x1 x2 f0).2) (by

    rw [t4]

    simp only [decide_eq_true_eq, decide_eq_false_iff_not, beq_iff_eq, beq_eq_false_iff_ne, ne_eq]

    unfold scE

    repeat' (first | (refine ⟨fun _ => ?_, fun _ => ?_⟩) | fail)

    all_goals first

      | (rw [if_pos (by omega)]; exact ⟨rfl, rfl⟩)

      | (rw [if_neg (by omega), if_pos (by omega)]; exact ⟨rfl, rfl⟩)

      | skip

    rw [if_neg (by omega), if_neg (by omega)]

    refine ⟨fun i => 0 ≤ i ∧ i ≤ x0 ∧ rst (scRow f0) (x0 - i).toNat i = rst (scRow f0) x0.toNat 0, fun i => (x0 - i).toNat, ⟨by omega, by omega, by rw [Int.sub_zero]⟩, ?_⟩

    rintro i ⟨g0, g1, g2⟩

    refine ⟨by omega, fun g3 => ?_, fun g3 => ?_⟩

    · rw [← g2, show (x0 - i).toNat = 0 by omega]; exact ⟨rfl, rfl⟩

    · have rc := row_cases f0 i

      refine ⟨fun a => ⟨by omega, by omega, sc_out (by omega) g2 (rc.1 a) (by decide)⟩, fun a => ⟨_, wh_p _, fun b => ⟨fun c => ⟨by omega, by omega, sc_out (by omega) g2 (((rc.2 a).2 b).1 c) (by decide)⟩, fun c => ⟨fun d => ⟨by omega, by omega, sc_out (by omega) g2 ((((rc.2 a).2 b).2 c).1 d) (by decide)⟩, fun d => sc_on (by omega) g2 ((((rc.2 a).2 b).2 c).2 d)⟩⟩, fun b => ⟨by omega, by omega, sc_out (by omega) g2 ((rc.2 a).1 b) (by decide)⟩⟩⟩)

  exact hs

theorem checkScan_r (r0 : 0 ≤ x0 ∧ x0 ≤ 140737488355328) (r1 : (-9223372036854775808) ≤ x1 ∧ x1 ≤ 9223372036854775807) (r2 : (-9223372036854775808) ≤ x2 ∧ x2 ≤ 9223372036854775807) : Spec Try.prog etalonref06_CheckScan_s ⟨[x0, x1, x2], [], [f0]⟩ [(scE x0 x1 x2 f0).1, (scE x0 x1 x2 f0).2] [] [] := by

  have t4 : x0.tmod 4 = x0 % 4 := Int.tmod_eq_emod_of_nonneg r0.1

  obtain ⟨a, b, ⟨rfl, rfl⟩, hs⟩ := rcn (f0 := f0) r0 r1 r2 (R := fun a b => a = (scE x0 x1 x2 f0).1 ∧ b = (scE x0 x1 x2 f0).2) (by

    rw [t4]

    simp only [decide_eq_true_eq, decide_eq_false_iff_not, beq_iff_eq, beq_eq_false_iff_ne, ne_eq]

    unfold scE

    repeat' (first | (refine ⟨fun _ => ?_, fun _ => ?_⟩) | fail)

    all_goals first

      | (rw [if_pos (by omega)]; exact ⟨rfl, rfl⟩)

      | (rw [if_neg (by omega), if_pos (by omega)]; exact ⟨rfl, rfl⟩)

      | skip

    rw [if_neg (by omega), if_neg (by omega)]

    refine ⟨fun i => 0 ≤ i ∧ i ≤ x0 ∧ rst (scRow f0) (x0 - i).toNat i = rst (scRow f0) x0.toNat 0, fun i => (x0 - i).toNat, ⟨by omega, by omega, by rw [Int.sub_zero]⟩, ?_⟩

    rintro i ⟨g0, g1, g2⟩

    refine ⟨by omega, fun g3 => ?_, fun g3 => ?_⟩

    · rw [← g2, show (x0 - i).toNat = 0 by omega]; exact ⟨rfl, rfl⟩

    · have rc := row_cases f0 i

      refine ⟨fun a => ⟨by omega, by omega, sc_out (by omega) g2 (rc.1 a) (by decide)⟩, fun a => ⟨_, wh_r _, fun b => ⟨fun c => ⟨by omega, by omega, sc_out (by omega) g2 (((rc.2 a).2 b).1 c) (by decide)⟩, fun c => ⟨fun d => ⟨by omega, by omega, sc_out (by omega) g2 ((((rc.2 a).2 b).2 c).1 d) (by decide)⟩, fun d => sc_on (by omega) g2 ((((rc.2 a).2 b).2 c).2 d)⟩⟩, fun b => ⟨by omega, by omega, sc_out (by omega) g2 ((rc.2 a).1 b) (by decide)⟩⟩⟩)

  exact hs

/-- The numbers of samples. -/

def nOf (f : Int → Int) (i : Int) : Int := NOp.den .f2iV (f i) 0

theorem cutN {x n : Int} (h : cutF32 x.toNat = some n) : NOp.den .f2iO x 0 = 1 ∧ NOp.den .f2iV x 0 = n := by

  refine ⟨?_, ?_⟩

  · show (if (cutF32 x.toNat).isSome then (1 : Int) else 0) = 1

    rw [h]; rfl

  · show (cutF32 x.toNat).getD 0 = n

    rw [h]; rfl

/-- What a right scan says. -/

structure Scn (x0 x1 x2 : Int) (f0 : Int → Int) : Prop where

  four : x0 % 4 = 0 ∧ 4 ≤ x0 ∧ x0 ≤ 64

  marg : 0 ≤ x1 ∧ x1 ≤ 65535

  full : 1 ≤ x2 ∧ x2 ≤ 65536

  nan : ∀ i, 0 ≤ i → i < x0 → COp.flo .f32 .neq (f0 i).toNat (f0 i).toNat = false

  one : ∀ i, 0 ≤ i → i < x0 → NOp.den .f2iO (f0 i) 0 = 1

  bd : ∀ i, 0 ≤ i → i < x0 → 0 ≤ nOf f0 i ∧ nOf f0 i ≤ 65535

  rp : ∀ i, 0 ≤ i → i < x0 → Rp (NOp.den .cvF (f0 i) 0).toNat (nOf f0 i)

theorem scn_ok (h : (scE x0 x1 x2 f0).2 = 0) : Scn x0 x1 x2 f0 := by

  unfold scE at h

  split at h

  · cases h

  rename_i h1

  split at h

  · cases h

  rename_i h2

  have row (i : Int) (a : 0 ≤ i) (b : i < x0) : COp.flo .f32 .neq (f0 i).toNat (f0 i).toNat = false ∧ ∃ x, cutF32 (f0 i).toNat = some x ∧ (0 ≤ x ∧ x ≤ 65535) ∧ Rp (widen (f0 i).toNat) x := by

    have r := rst_all _ _ h i a (by omega)

    have rc := row_cases f0 i

    cases c1 : COp.flo .f32 .neq (f0 i).toNat (f0 i).toNat with

    | true => have := rc.1 c1; omega

    | false =>

      cases c2 : whB (widen (f0 i).toNat) with

      | false => have := (rc.2 c1).1 c2; omega

      | true =>

        cases c3 : COp.flo .f32 .lss (f0 i).toNat (0 : Int).toNat with

        | true => have := ((rc.2 c1).2 c2).1 c3; omega

        | false =>

          cases c4 : COp.flo .f32 .gtr (f0 i).toNat (1199570688 : Int).toNat with

          | true => have := (((rc.2 c1).2 c2).2 c3).1 c4; omega

          | false => exact ⟨rfl, sample32 c1 c2 c3 c4⟩

  refine ⟨by omega, by omega, by omega, fun i a b => (row i a b).1, fun i a b => ?_, fun i a b => ?_, fun i a b => ?_⟩

  · obtain ⟨_, x, hx, _⟩ := row i a b; exact (cutN hx).1

  · obtain ⟨_, x, hx, hb, _⟩ := row i a b; unfold nOf; rw [(cutN hx).2]; exact hb

  · obtain ⟨_, x, hx, hb, hr⟩ := row i a b

    unfold nOf; rw [(cutN hx).2]; exact hr

/-- The row of numbers that both make. -/

def lrow (f0 : Int → Int) : Nat → (Int → Int)

  | 0 => fun _ => 0

  | k + 1 => fun q => if q = (k : Int) then NOp.den .f2iV (f0 k) 0 else lrow f0 k q

theorem lrow_at {f0 : Int → Int} : ∀ (k : Nat) (q : Int), 0 ≤ q → q < k → lrow f0 k q = nOf f0 q

  | 0, q, a, b => by omega

  | k + 1, q, a, b => by

    unfold lrow

    by_cases e : q = (k : Int)

    · rw [if_pos e, e]; rfl

    · rw [if_neg e]; exact lrow_at k q a (by omega)

theorem lrow_bd (G : Scn x0 x1 x2 f0) : ∀ (k : Nat), (k : Int) ≤ x0 → ∀ q, 0 ≤ lrow f0 k q ∧ lrow f0 k q ≤ 65535

  | 0, _, q => by unfold lrow; decide

  | k + 1, h, q => by

    unfold lrow

    split

    · exact G.bd k (by omega) (by omega)

    · exact lrow_bd G k (by omega) q

theorem lrow_step {f0 : Int → Int} {i : Int} (h : 0 ≤ i) : lrow f0 (i + 1).toNat = fun q => if q = i then NOp.den .f2iV (f0 i) 0 else lrow f0 i.toNat q := by

  rw [show (i + 1).toNat = i.toNat + 1 by omega, lrow, show ((i.toNat : Nat) : Int) = i by omega]

theorem wsm {x : Int} (h : -9223372036854775808 ≤ x ∧ x ≤ 9223372036854775807) : IntKind.i64.wrap x = x := by

  rw [IntKind.wrap_i64]; omega

theorem ws {n : Int} (h : -9223372036854775808 ≤ n) (h' : n ≤ 9223372036854775807) : IntKind.i64.wrap n = n := wsm ⟨h, h'⟩

end

end Go.Proofs.Ytafnplkablkepaa.Ev
