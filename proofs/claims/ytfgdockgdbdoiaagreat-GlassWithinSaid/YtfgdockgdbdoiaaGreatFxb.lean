/- Enclosures between two wavelengths, of both. -/
import Derived.Test.YtfgdockgdbdoiaaGreatFxa
namespace Go.Proofs.YtfgdockgdbdoiaaGreat.Ev
set_option linter.unusedSimpArgs false
open Go Go.RowKit
set_option linter.unusedVariables false
set_option maxRecDepth 100000
open Gp

/-- A number that a column tells, a formula's, too. -/

structure TellsW (M N D : Int) : Prop where

  pos : 0 < D

  les : D ≤ 40000000000

  low : 0 ≤ N

  hig : N ≤ M * D

theorem toW {M N D : Int} (h : Tells M N D) : TellsW M N D := ⟨h.pos, by have := h.les; omega, h.low, h.hig⟩

abbrev T4 := Int × Int × Int × Int

/-- What both say at a wavelength. -/

structure Wav (x0 x1 x2 x3 x4 x5 x6 : Int) (f0 f1 f2 : Int → Int) (w : Int) (p q : T4) : Prop where

  tab : x1 = 1 → Spec Tryz.prog _glass_table__told_s ⟨[x0, x1, x2, x3, x4, x5, x6, w], [], [f0, f1, f2]⟩ [p.1, p.2.1, p.2.2.1, p.2.2.2] [] [] ∧ PTold x2 f0 (nOf f1) w p.1 p.2.1 ∧ PTold x2 f0 (nOf f2) w p.2.2.1 p.2.2.2

  frm : x1 = 2 → Spec Tryz.prog _glass_formula__told_s ⟨[x0, x1, x2, x3, x4, x5, x6, w], [], [f0, f1, f2]⟩ [p.1, p.2.1, p.2.2.1, p.2.2.2] [] [] ∧ p.1 = frN 1 x5 x6 w ∧ p.2.1 = w * w ∧ p.2.2.1 = 0 ∧ p.2.2.2 = 1

  exa : Spec Tryz.prog etalonref02_exact_s ⟨[x0, x1, x2, x3, x4, x5, x6, w], [], [f0, f1, f2]⟩ [q.1, q.2.1, q.2.2.1, q.2.2.2] [] []

  c1 : p.1 * q.2.1 = q.1 * p.2.1

  c2 : p.2.2.1 * q.2.2.2 = q.2.2.1 * p.2.2.2

  b1 : TellsW 80000 p.1 p.2.1

  b2 : TellsW 80000 p.2.2.1 p.2.2.2

  d1 : TellsW 80000 q.1 q.2.1

  d2 : TellsW 80000 q.2.2.1 q.2.2.2

theorem TellsW.bd {N D : Int} (h : TellsW 80000 N D) : (0 ≤ N / D ∧ N / D ≤ 80000) ∧ (0 ≤ cdiv N D ∧ cdiv N D ≤ 80000) ∧ (0 ≤ N ∧ N ≤ 3200000000000000) := by

  have a := h.pos; have b := h.les; have c := h.low; have d := h.hig

  refine ⟨⟨Int.ediv_nonneg c (by omega), Int.ediv_le_of_le_mul a d⟩, ?_, by omega⟩

  have s := cdiv_spec' N a

  constructor

  · rcases Int.lt_or_le (cdiv N D) 0 with g | g

    · have := Int.mul_le_mul_of_nonneg_left (show cdiv N D ≤ -1 by omega) (show 0 ≤ D by omega)

      omega

    · exact g

  · rcases Int.lt_or_le 80000 (cdiv N D) with g | g

    · have := Int.mul_le_mul_of_nonneg_left (show 80000 ≤ cdiv N D - 1 by omega) (show 0 ≤ D by omega)

      omega

    · exact g

theorem TellsW.quo {N D : Int} (h : TellsW 80000 N D) : Spec Tryz.prog span_Quotient_s ⟨[N, D], [], []⟩ [N / D, cdiv N D] [] [] := by

  have a := h.pos; have b := h.les; have c := h.bd

  exact quo_s (by omega) (by omega)

theorem TellsW.floor {N D N' D' : Int} (h : TellsW 80000 N D) (h' : TellsW 80000 N' D') (c : N * D' = N' * D) : Spec Tryz.prog etalonbase_Floor_s ⟨[N', D'], [], []⟩ [N / D] [] [] ∧ Spec Tryz.prog etalonbase_Ceil_s ⟨[N', D'], [], []⟩ [cdiv N D] [] [] := by

  have a := h'.pos; have b := h'.les; have e := h'.bd

  rw [div_cross h.pos h'.pos c, cdiv_cross h.pos h'.pos c]

  exact ⟨floor_s (by omega) (by omega), ceil_s (by omega) (by omega)⟩

section

variable {x0 x1 x2 x3 x4 x5 x6 : Int} {f0 f1 f2 : Int → Int}

theorem wav_s {w : Int} {u : Bool} (hE : (glE u x1 x2 x3 x4 x5 x6 f0 f1 f2).2 = 0) (hW : wvE x1 x2 f0 w = 0) (r1 : (-9223372036854775808) ≤ x1 ∧ x1 ≤ 9223372036854775807) (r2 : 0 ≤ x2 ∧ x2 ≤ 140737488355328) (r3 : 0 ≤ x3 ∧ x3 ≤ 140737488355328) (r4 : 0 ≤ x4 ∧ x4 ≤ 140737488355328) (r5 : (-9223372036854775808) ≤ x5 ∧ x5 ≤ 9223372036854775807) (r6 : (-9223372036854775808) ≤ x6 ∧ x6 ≤ 9223372036854775807) (s0 : ∀ q, (-9223372036854775808) ≤ f0 q ∧ f0 q ≤ 9223372036854775807) :

    ∃ p q, Wav x0 x1 x2 x3 x4 x5 x6 f0 f1 f2 w p q := by

  obtain ⟨hw, hcv⟩ := wvE_0 hW

  rcases kind_ok hE with h1 | h1

  · have hE' := hE

    rw [h1] at hE'

    obtain ⟨h3, h4, T⟩ := tab_ok r2.1 hE'

    obtain ⟨N, D, M, E, ⟨p1, p2⟩, ht⟩ := told_s (x0 := x0) (x1 := x1) (x5 := x5) (x6 := x6) T h3 h4 r1 r5 r6 hw s0

    obtain ⟨N', D', M', E', ⟨q1, q2⟩, hx⟩ := exact_t (x0 := x0) (x1 := x1) (x5 := x5) (x6 := x6) T h1 h3 h4 r5 r6 hw (hcv h1).1 (hcv h1).2 s0

    obtain ⟨c1, b1, b1'⟩ := told_same T.up T.one T.wave (fun i a b => ⟨by have := (T.iV i a b).1; omega, (T.iV i a b).2⟩) (hcv h1).1 (hcv h1).2 p1 q1

    obtain ⟨c2, b2, b2'⟩ := told_same T.up T.one T.wave T.lV (hcv h1).1 (hcv h1).2 p2 q2

    exact ⟨(N, D, M, E), (N', D', M', E'), fun _ => ⟨ht, p1, p2⟩, fun g => by omega, hx, c1, c2, toW b1, toW b2, toW b1', toW b2'⟩

  · have hE' := hE

    rw [h1] at hE'

    obtain ⟨h2, h5, h6⟩ := form_ok hE'

    have b := frm_bd (m := 1) (by decide) h5 h6 hw

    have ht := frm_s (x0 := x0) (x1 := x1) (x2 := x2) (x3 := x3) (x4 := x4) (f0 := f0) (f1 := f1) (f2 := f2) r1 r2 r3 r4 h5 h6 hw s0

    have hx := exact_f (x0 := x0) (x1 := x1) (x2 := x2) (x3 := x3) (x4 := x4) (f0 := f0) (f1 := f1) (f2 := f2) h1 (by omega) r3 r4 h5 h6 hw s0

    have t1 : TellsW 80000 (frN 1 x5 x6 w) (w * w) := ⟨by omega, by omega, by omega, by omega⟩

    have t2 : TellsW 80000 0 1 := ⟨by omega, by omega, by omega, by omega⟩

    exact ⟨(frN 1 x5 x6 w, w * w, 0, 1), (frN 1 x5 x6 w, w * w, 0, 1), fun g => by omega, fun _ => ⟨ht, rfl, rfl, rfl, rfl⟩, hx, rfl, rfl, t1, t2, t1, t2⟩

theorem wavs {u : Bool} (hE : (glE u x1 x2 x3 x4 x5 x6 f0 f1 f2).2 = 0) (r1 : (-9223372036854775808) ≤ x1 ∧ x1 ≤ 9223372036854775807) (r2 : 0 ≤ x2 ∧ x2 ≤ 140737488355328) (r3 : 0 ≤ x3 ∧ x3 ≤ 140737488355328) (r4 : 0 ≤ x4 ∧ x4 ≤ 140737488355328) (r5 : (-9223372036854775808) ≤ x5 ∧ x5 ≤ 9223372036854775807) (r6 : (-9223372036854775808) ≤ x6 ∧ x6 ≤ 9223372036854775807) (s0 : ∀ q, (-9223372036854775808) ≤ f0 q ∧ f0 q ≤ 9223372036854775807) :

    ∃ P Q : Int → T4, ∀ w, wvE x1 x2 f0 w = 0 → Wav x0 x1 x2 x3 x4 x5 x6 f0 f1 f2 w (P w) (Q w) := by

  have h : ∀ w, ∃ pq : T4 × T4, wvE x1 x2 f0 w = 0 → Wav x0 x1 x2 x3 x4 x5 x6 f0 f1 f2 w pq.1 pq.2 := fun w => by

    by_cases hW : wvE x1 x2 f0 w = 0

    · obtain ⟨p, q, h⟩ := wav_s (x0 := x0) (f1 := f1) (f2 := f2) hE hW r1 r2 r3 r4 r5 r6 s0

      exact ⟨(p, q), fun _ => h⟩

    · exact ⟨((0, 0, 0, 0), (0, 0, 0, 0)), fun g => absurd g hW⟩

  exact ⟨fun w => (Classical.choose (h w)).1, fun w => (Classical.choose (h w)).2, fun w hw => Classical.choose_spec (h w) hw⟩

end

def mn (a b : Int) : Int := if a < b then a else b

def mx (a b : Int) : Int := if a > b then a else b

theorem mn_self (a : Int) : mn a a = a := by unfold mn; split <;> rfl

theorem mx_self (a : Int) : mx a a = a := by unfold mx; split <;> rfl

/-- Over both ends and the rows between them. -/

def bf (op : Int → Int → Int) (A f : Int → Int) (lo hi : Int) : Nat → Int

  | 0 => op (A hi) (A lo)

  | k + 1 => if lo ≤ f k ∧ f k ≤ hi then op (A (f k)) (bf op A f lo hi k) else bf op A f lo hi k

/-- Over the numbers of a row. -/

def lf (op : Int → Int → Int) (A g : Int → Int) : Nat → Int

  | 0 => A (g 0)

  | k + 1 => op (A (g k)) (lf op A g k)

theorem lf_agree {op : Int → Int → Int} {A g h : Int → Int} : ∀ (n : Nat), (∀ q : Int, 0 ≤ q → q < n ∨ q = 0 → g q = h q) → lf op A g n = lf op A h n

  | 0, e => by unfold lf; rw [e 0 (by omega) (Or.inr rfl)]

  | n + 1, e => by unfold lf; rw [e n (by omega) (Or.inl (by omega)), lf_agree n (fun q a b => e q a (by omega))]

theorem bf_step {op : Int → Int → Int} {A f : Int → Int} {lo hi i : Int} (h : 0 ≤ i) : bf op A f lo hi (i + 1).toNat = if lo ≤ f i ∧ f i ≤ hi then op (A (f i)) (bf op A f lo hi i.toNat) else bf op A f lo hi i.toNat := by

  rw [show (i + 1).toNat = i.toNat + 1 by omega]

  rw [bf, show ((i.toNat : Nat) : Int) = i by omega]

theorem lf_step {op : Int → Int → Int} {A g : Int → Int} {i : Int} (h : 0 ≤ i) : lf op A g (i + 1).toNat = op (A (g i)) (lf op A g i.toNat) := by

  rw [show (i + 1).toNat = i.toNat + 1 by omega]

  rw [lf, show ((i.toNat : Nat) : Int) = i by omega]

theorem lf_upd {op : Int → Int → Int} {A g : Int → Int} {n v : Int} (h : 1 ≤ n) : lf op A (fun q => if q = n then v else g q) (n + 1).toNat = op (A v) (lf op A g n.toNat) := by

  rw [lf_step (by omega), if_pos rfl]

  congr 1

  exact lf_agree _ fun q a b => if_neg (by omega)

/-- The error of a range of wavelengths. -/

def btE (x1 x2 : Int) (f0 : Int → Int) (lo hi : Int) : Int :=

  if ¬ ((1000 ≤ lo ∧ lo ≤ 200000) ∧ (1000 ≤ hi ∧ hi ≤ 200000)) then 2 else if hi < lo then 10 else if x1 = 1 ∧ ¬ ((f0 0 ≤ lo ∧ lo ≤ f0 (x2 - 1)) ∧ (f0 0 ≤ hi ∧ hi ≤ f0 (x2 - 1))) then 17 else 0

theorem btE_0 {x1 x2 lo hi : Int} {f0 : Int → Int} (h : btE x1 x2 f0 lo hi = 0) : ((1000 ≤ lo ∧ lo ≤ 200000) ∧ (1000 ≤ hi ∧ hi ≤ 200000)) ∧ lo ≤ hi ∧ (x1 = 1 → (f0 0 ≤ lo ∧ lo ≤ f0 (x2 - 1)) ∧ (f0 0 ≤ hi ∧ hi ≤ f0 (x2 - 1))) := by

  unfold btE at h

  split at h

  · cases h

  · split at h

    · cases h

    · split at h

      · cases h

      · omega

theorem wv_in {x1 x2 w lo hi : Int} {f0 : Int → Int} (h : btE x1 x2 f0 lo hi = 0) (h0 : lo ≤ w) (h1 : w ≤ hi) : wvE x1 x2 f0 w = 0 := by

  have := btE_0 h

  unfold wvE

  rw [if_neg (by omega), if_neg (by omega)]

section

variable {x0 x1 x2 x3 x4 x5 x6 x7 x8 : Int} {f0 f1 f2 : Int → Int} {P Q : Int → T4}

def fA (P : Int → T4) (w : Int) : Int := (P w).1 / (P w).2.1

def fB (P : Int → T4) (w : Int) : Int := cdiv (P w).1 (P w).2.1

def fC (P : Int → T4) (w : Int) : Int := (P w).2.2.1 / (P w).2.2.2

def fD (P : Int → T4) (w : Int) : Int := cdiv (P w).2.2.1 (P w).2.2.2

set_option maxHeartbeats 4000000 in

theorem between_p {u : Bool} (hP : ∀ w, wvE x1 x2 f0 w = 0 → Wav x0 x1 x2 x3 x4 x5 x6 f0 f1 f2 w (P w) (Q w)) (hu : Spec Tryz.prog text_IsName_s ⟨[x0], [], []⟩ [] [u] []) (hE : (glE u x1 x2 x3 x4 x5 x6 f0 f1 f2).2 = 0) (hB : btE x1 x2 f0 x7 x8 = 0) (r1 : (-9223372036854775808) ≤ x1 ∧ x1 ≤ 9223372036854775807) (r2 : 0 ≤ x2 ∧ x2 ≤ 140737488355328) (r3 : 0 ≤ x3 ∧ x3 ≤ 140737488355328) (r4 : 0 ≤ x4 ∧ x4 ≤ 140737488355328) (r5 : (-9223372036854775808) ≤ x5 ∧ x5 ≤ 9223372036854775807) (r6 : (-9223372036854775808) ≤ x6 ∧ x6 ≤ 9223372036854775807) (s0 : ∀ q, (-9223372036854775808) ≤ f0 q ∧ f0 q ≤ 9223372036854775807) :

    Spec Tryz.prog glass_Between_s ⟨[x0, x1, x2, x3, x4, x5, x6, x7, x8], [], [f0, f1, f2]⟩ [bf mn (fA P) f0 x7 x8 x2.toNat, bf mx (fB P) f0 x7 x8 x2.toNat, bf mn (fC P) f0 x7 x8 x2.toNat, bf mx (fD P) f0 x7 x8 x2.toNat, 0] [] [] := by

  have hc := checkGlass_p (f1 := f1) (f2 := f2) hu r1 r2 r3 r4 r5 r6 s0

  rw [hE] at hc

  obtain ⟨bw, ble, bc⟩ := btE_0 hB

  have wl := hP x7 (wv_in hB (by omega) (by omega))

  have wh := hP x8 (wv_in hB (by omega) (by omega))

  have bd (w : Int) (h0 : x7 ≤ w) (h1 : w ≤ x8) : (0 ≤ fA P w ∧ fA P w ≤ 80000) ∧ (0 ≤ fB P w ∧ fB P w ≤ 80000) ∧ (0 ≤ fC P w ∧ fC P w ≤ 80000) ∧ (0 ≤ fD P w ∧ fD P w ≤ 80000) := by

    have W := hP w (wv_in hB h0 h1)

    exact ⟨W.b1.bd.1, W.b1.bd.2.1, W.b2.bd.1, W.b2.bd.2.1⟩

  obtain ⟨_, _, _, _, _, ⟨rfl, rfl, rfl, rfl, rfl⟩, hs⟩ := btw0 (x0 := x0) (x1 := x1) (x2 := x2) (x3 := x3) (x4 := x4) (x5 := x5) (x6 := x6) (x7 := x7) (x8 := x8) (f0 := f0) (f1 := f1) (f2 := f2) r1 r2 r3 r4 r5 r6 (by omega) (by omega) s0 (R := fun a b c d e => a = bf mn (fA P) f0 x7 x8 x2.toNat ∧ b = bf mx (fB P) f0 x7 x8 x2.toNat ∧ c = bf mn (fC P) f0 x7 x8 x2.toNat ∧ d = bf mx (fD P) f0 x7 x8 x2.toNat ∧ e = 0) (by

    refine ⟨_, _, hc, ?_⟩

    simp only [decide_eq_true_eq, decide_eq_false_iff_not, beq_iff_eq, beq_eq_false_iff_ne, ne_eq]

    refine ⟨fun _ => ⟨fun h1 => ?_, fun h1 => ⟨fun h1 => ?_, fun g => by have := kind_ok hE; omega⟩⟩, fun g => absurd (by trivial) g⟩

    · have hE' := hE

      rw [h1] at hE'

      obtain ⟨h3, h4, T⟩ := tab_ok r2.1 hE'

      have one := T.one

      have bc := bc h1

      refine ⟨fun _ => ⟨fun _ => ⟨fun _ => ⟨fun _ => ⟨fun _ => ⟨fun _ => by omega, fun _ => ⟨by omega, ⟨fun _ => ⟨fun _ => ⟨fun _ => ⟨fun _ => ?_, fun _ => by omega⟩, fun _ => by omega⟩, fun _ => by omega⟩, fun _ => by omega⟩⟩⟩, fun _ => by omega⟩, fun _ => by omega⟩, fun _ => by omega⟩, fun _ => by omega⟩, fun _ => by omega⟩

      refine ⟨_, _, _, _, (wl.tab h1).1, _, _, wl.b1.quo, _, _, wl.b2.quo, _, _, _, _, (wh.tab h1).1, _, _, wh.b1.quo, _, _, wh.b2.quo,

        fun i a b c d => (0 ≤ i ∧ i ≤ x2) ∧ (a = bf mn (fA P) f0 x7 x8 i.toNat ∧ b = bf mx (fB P) f0 x7 x8 i.toNat ∧ c = bf mn (fC P) f0 x7 x8 i.toNat ∧ d = bf mx (fD P) f0 x7 x8 i.toNat) ∧ (0 ≤ a ∧ a ≤ 80000) ∧ (0 ≤ b ∧ b ≤ 80000) ∧ (0 ≤ c ∧ c ≤ 80000) ∧ (0 ≤ d ∧ d ≤ 80000),

        fun i _ _ _ _ => (x2 - i).toNat, ⟨⟨by omega, by omega⟩, ⟨rfl, rfl, rfl, rfl⟩, ?_⟩, ?_⟩

      · have b1 := bd x7 (by omega) (by omega); have b2 := bd x8 (by omega) (by omega)

        unfold fA fB fC fD at b1 b2

        refine ⟨?_, ?_, ?_, ?_⟩ <;> split <;> omega

      · rintro i a b c d ⟨hi, ⟨ea, eb, ec, ed⟩, ba, bb, bc', bd'⟩

        refine ⟨by omega, by omega, by omega, by omega, by omega, fun g => ?_, fun g => ⟨fun g1 => ⟨fun g2 => ?_, fun g2 => ?_⟩, fun g1 => ?_⟩⟩

        · have e : i = x2 := by omega

          subst e

          exact ⟨by omega, by omega, by omega, by omega, ea, eb, ec, ed, by trivial⟩

        · have W := hP (f0 i) (wv_in hB g1 g2)

          have b1 := bd (f0 i) g1 g2

          refine ⟨_, _, _, _, (W.tab h1).1, _, _, W.b1.quo, _, _, W.b2.quo, ⟨⟨by omega, by omega⟩, ?_, ?_⟩, ?_⟩

          · have s (op : Int → Int → Int) (A : Int → Int) : bf op A f0 x7 x8 (i + 1).toNat = op (A (f0 i)) (bf op A f0 x7 x8 i.toNat) := by rw [bf_step hi.1, if_pos ⟨g1, g2⟩]

            rw [s, s, s, s, ← ea, ← eb, ← ec, ← ed]

            exact ⟨rfl, rfl, rfl, rfl⟩

          · unfold fA fB fC fD at b1

            refine ⟨?_, ?_, ?_, ?_⟩ <;> split <;> omega

          · show (x2 - (i + 1)).toNat < (x2 - i).toNat; omega

        · refine ⟨⟨⟨by omega, by omega⟩, ?_, ba, bb, bc', bd'⟩, by show (x2 - (i + 1)).toNat < (x2 - i).toNat; omega⟩

          rw [bf_step hi.1, bf_step hi.1, bf_step hi.1, bf_step hi.1, if_neg (by omega), if_neg (by omega), if_neg (by omega), if_neg (by omega)]

          exact ⟨ea, eb, ec, ed⟩

        · refine ⟨⟨⟨by omega, by omega⟩, ?_, ba, bb, bc', bd'⟩, by show (x2 - (i + 1)).toNat < (x2 - i).toNat; omega⟩

          rw [bf_step hi.1, bf_step hi.1, bf_step hi.1, bf_step hi.1, if_neg (by omega), if_neg (by omega), if_neg (by omega), if_neg (by omega)]

          exact ⟨ea, eb, ec, ed⟩

    · have hE' := hE

      rw [h1] at hE'

      have h2 := (form_ok hE').1

      have e : x2 = 0 := by omega

      refine ⟨fun _ => ⟨fun _ => ⟨fun _ => ⟨fun _ => ⟨fun _ => ?_, fun _ => by omega⟩, fun _ => by omega⟩, fun _ => by omega⟩, fun _ => by omega⟩, fun _ => by omega⟩

      refine ⟨_, _, _, _, (wl.frm h1).1, _, _, wl.b1.quo, _, _, wl.b2.quo, _, _, _, _, (wh.frm h1).1, _, _, wh.b1.quo, _, _, wh.b2.quo, True, 0, trivial, fun _ => ?_⟩

      rw [e]

      exact ⟨rfl, rfl, rfl, rfl, by trivial⟩)

  exact hs

set_option maxHeartbeats 4000000 in

theorem between_r (hP : ∀ w, wvE x1 x2 f0 w = 0 → Wav x0 x1 x2 x3 x4 x5 x6 f0 f1 f2 w (P w) (Q w)) (hk : x1 = 1 → 1 ≤ x2) (hk' : x1 ≠ 1 → x2 = 0) (hB : btE x1 x2 f0 x7 x8 = 0) (r1 : (-9223372036854775808) ≤ x1 ∧ x1 ≤ 9223372036854775807) (r2 : 0 ≤ x2 ∧ x2 ≤ 64) (r3 : 0 ≤ x3 ∧ x3 ≤ 140737488355328) (r4 : 0 ≤ x4 ∧ x4 ≤ 140737488355328) (r5 : (-9223372036854775808) ≤ x5 ∧ x5 ≤ 9223372036854775807) (r6 : (-9223372036854775808) ≤ x6 ∧ x6 ≤ 9223372036854775807) (s0 : ∀ q, (-9223372036854775808) ≤ f0 q ∧ f0 q ≤ 9223372036854775807) :

    Spec Tryz.prog etalonref02_Between_s ⟨[x0, x1, x2, x3, x4, x5, x6, x7, x8], [], [f0, f1, f2]⟩ [bf mn (fA P) f0 x7 x8 x2.toNat, bf mx (fB P) f0 x7 x8 x2.toNat, bf mn (fC P) f0 x7 x8 x2.toNat, bf mx (fD P) f0 x7 x8 x2.toNat, 0] [] [] := by

  obtain ⟨bw, ble, bc⟩ := btE_0 hB

  have bd (w : Int) (h0 : x7 ≤ w) (h1 : w ≤ x8) : (0 ≤ fA P w ∧ fA P w ≤ 80000) ∧ (0 ≤ fB P w ∧ fB P w ≤ 80000) ∧ (0 ≤ fC P w ∧ fC P w ≤ 80000) ∧ (0 ≤ fD P w ∧ fD P w ≤ 80000) := by

    have W := hP w (wv_in hB h0 h1)

    exact ⟨W.b1.bd.1, W.b1.bd.2.1, W.b2.bd.1, W.b2.bd.2.1⟩

  have ev : wvE x1 x2 f0 x7 = 0 := wv_in hB (by omega) (by omega)

  obtain ⟨_, _, _, _, _, ⟨rfl, rfl, rfl, rfl, rfl⟩, hs⟩ := rbt0 (x0 := x0) (x1 := x1) (x2 := x2) (x3 := x3) (x4 := x4) (x5 := x5) (x6 := x6) (x7 := x7) (x8 := x8) (f0 := f0) (f1 := f1) (f2 := f2) r1 r2 r3 r4 r5 r6 (by omega) (by omega) s0 (R := fun a b c d e => a = bf mn (fA P) f0 x7 x8 x2.toNat ∧ b = bf mx (fB P) f0 x7 x8 x2.toNat ∧ c = bf mn (fC P) f0 x7 x8 x2.toNat ∧ d = bf mx (fD P) f0 x7 x8 x2.toNat ∧ e = 0) (by

    simp only [decide_eq_true_eq, decide_eq_false_iff_not, beq_iff_eq, beq_eq_false_iff_ne, ne_eq]

    refine ⟨fun _ => ⟨fun _ => ⟨fun _ => ⟨fun _ => ⟨fun _ => ⟨fun h1 => ⟨fun _ => by omega, fun _ => ⟨by omega, ⟨fun _ => ⟨fun _ => ⟨fun _ => ⟨fun _ => ?_, fun _ => by omega⟩, fun _ => by omega⟩, fun _ => by omega⟩, fun _ => by omega⟩⟩⟩, fun h1 => ?_⟩, fun _ => by omega⟩, fun _ => by omega⟩, fun _ => by omega⟩, fun _ => by omega⟩, fun _ => by omega⟩

    all_goals

      refine ⟨fun i n g => (0 ≤ i ∧ i ≤ x2) ∧ (2 ≤ n ∧ n ≤ i + 2) ∧ (∀ q, (-9223372036854775808) ≤ g q ∧ g q ≤ 9223372036854775807) ∧ (∀ q, 0 ≤ q → q < n → x7 ≤ g q ∧ g q ≤ x8) ∧ (∀ (op : Int → Int → Int) (A : Int → Int), (∀ a, op a a = a) → lf op A g n.toNat = bf op A f0 x7 x8 i.toNat), fun i _ _ => (x2 - i).toNat, ⟨⟨by omega, by omega⟩, ⟨by omega, by omega⟩, ?_, ?_, ?_⟩, ?_⟩

      · intro q; dsimp only; split

        · omega

        · split <;> omega

      · intro q a b

        have : q = 0 ∨ q = 1 := by omega

        rcases this with rfl | rfl

        · show x7 ≤ x7 ∧ x7 ≤ x8; omega

        · show x7 ≤ x8 ∧ x8 ≤ x8; omega

      · intro op A ho

        show lf op A _ (0 + 1 + 1) = op (A x8) (A x7)

        rw [lf, lf, lf]

        show op (A x8) (op (A x7) (A x7)) = _

        rw [ho]

      · rintro i n g ⟨hi, hn, hg, hc, hl⟩

        refine ⟨hg, by omega, by omega, fun g0 => ?_, fun g0 => ⟨fun g1 => ⟨fun g2 => ?_, fun g2 => ?_⟩, fun g1 => ?_⟩⟩

        · have e : i = x2 := by omega

          subst e

          have l1 := hl mn (fA P) mn_self

          have l2 := hl mx (fB P) mx_self

          have l3 := hl mn (fC P) mn_self

          have l4 := hl mx (fD P) mx_self

          refine ⟨hg, by omega, fun j a b => (0 ≤ j ∧ j ≤ n) ∧ ((-9223372036854775808) ≤ a ∧ a ≤ 9223372036854775807) ∧ ((-9223372036854775808) ≤ b ∧ b ≤ 9223372036854775807) ∧ (1 ≤ j → a = lf mn (fA P) g j.toNat ∧ b = lf mx (fB P) g j.toNat), fun j _ _ => (n - j).toNat, ⟨⟨by omega, by omega⟩, by decide, by decide, fun g => by omega⟩, ?_⟩

          rintro j a b ⟨hj, ha, hb, hv⟩

          refine ⟨by omega, ha, hb, fun g1 => ⟨ha, hb, ?_⟩, fun g1 => ?_⟩

          · have e : n = j := by omega

            subst e

            obtain ⟨va, vb⟩ := hv (by omega)

            rw [l1] at va; rw [l2] at vb

            refine ⟨fun j a b => (0 ≤ j ∧ j ≤ n) ∧ ((-9223372036854775808) ≤ a ∧ a ≤ 9223372036854775807) ∧ ((-9223372036854775808) ≤ b ∧ b ≤ 9223372036854775807) ∧ (1 ≤ j → a = lf mn (fC P) g j.toNat ∧ b = lf mx (fD P) g j.toNat), fun j _ _ => (n - j).toNat, ⟨⟨by omega, by omega⟩, by decide, by decide, fun g => by omega⟩, ?_⟩

            rintro k c d ⟨hj', hc', hd', hv'⟩

            refine ⟨by omega, hc', hd', fun g1 => ⟨hc', hd', ?_⟩, fun g1 => ?_⟩

            · have e : n = k := by omega

              subst e

              obtain ⟨vc, vd⟩ := hv' (by omega)

              rw [l3] at vc; rw [l4] at vd

              exact ⟨va, vb, vc, vd, by trivial⟩

            · have gk := hc k (by omega) (by omega)

              have W := hP (g k) (wv_in hB gk.1 gk.2)

              have b1 := bd (g k) gk.1 gk.2

              have F := W.b2.floor W.d2 W.c2

              refine ⟨_, _, _, _, W.exa, _, F.1, _, F.2, fun g2 => ⟨⟨⟨by omega, by omega⟩, ?_, ?_, fun _ => ?_⟩, ?_⟩, fun g2 => ⟨⟨⟨by omega, by omega⟩, ?_, ?_, fun _ => ?_⟩, ?_⟩⟩

              · unfold fC at b1; split <;> omega

              · unfold fD at b1; split <;> omega

              · subst g2; exact ⟨rfl, rfl⟩

              · show (n - (k + 1)).toNat < (n - k).toNat; omega

              · unfold fC at b1; split <;> omega

              · unfold fD at b1; split <;> omega

              · obtain ⟨vc, vd⟩ := hv' (by omega)

                rw [lf_step hj'.1, lf_step hj'.1, ← vc, ← vd]; exact ⟨rfl, rfl⟩

              · show (n - (k + 1)).toNat < (n - k).toNat; omega

          · have gk := hc j (by omega) (by omega)

            have W := hP (g j) (wv_in hB gk.1 gk.2)

            have b1 := bd (g j) gk.1 gk.2

            have F := W.b1.floor W.d1 W.c1

            refine ⟨_, _, _, _, W.exa, _, F.1, _, F.2, fun g2 => ⟨⟨⟨by omega, by omega⟩, ?_, ?_, fun _ => ?_⟩, ?_⟩, fun g2 => ⟨⟨⟨by omega, by omega⟩, ?_, ?_, fun _ => ?_⟩, ?_⟩⟩

            · unfold fA at b1; split <;> omega

            · unfold fB at b1; split <;> omega

            · subst g2; exact ⟨rfl, rfl⟩

            · show (n - (j + 1)).toNat < (n - j).toNat; omega

            · unfold fA at b1; split <;> omega

            · unfold fB at b1; split <;> omega

            · obtain ⟨vc, vd⟩ := hv (by omega)

              rw [lf_step hj.1, lf_step hj.1, ← vc, ← vd]; exact ⟨rfl, rfl⟩

            · show (n - (j + 1)).toNat < (n - j).toNat; omega

        · refine ⟨⟨⟨by omega, by omega⟩, ⟨by omega, by omega⟩, fun q => ?_, fun q a b => ?_, fun op A ho => ?_⟩, by show (x2 - (i + 1)).toNat < (x2 - i).toNat; omega⟩

          · dsimp only; split

            · exact s0 i

            · exact hg q

          · dsimp only; split

            · omega

            · exact hc q a (by omega)

          · rw [lf_upd (by omega), bf_step hi.1, if_pos ⟨g1, g2⟩, hl op A ho]

        · refine ⟨⟨⟨by omega, by omega⟩, ⟨by omega, by omega⟩, hg, hc, fun op A ho => ?_⟩, by show (x2 - (i + 1)).toNat < (x2 - i).toNat; omega⟩

          rw [bf_step hi.1, if_neg (by omega)]; exact hl op A ho

        · refine ⟨⟨⟨by omega, by omega⟩, ⟨by omega, by omega⟩, hg, hc, fun op A ho => ?_⟩, by show (x2 - (i + 1)).toNat < (x2 - i).toNat; omega⟩

          rw [bf_step hi.1, if_neg (by omega)]; exact hl op A ho)

  exact hs

end

end Go.Proofs.YtfgdockgdbdoiaaGreat.Ev
