/- Floats of single precision, widened: they compare as they did. -/
import Derived.Test.YtafnplkablkepaaF33
namespace Go.Proofs.Ytafnplkablkepaa
open Go Ieee
set_option linter.unusedVariables false
set_option linter.unusedSimpArgs false

theorem normal_sign (s : Bool) {q k : Nat} (hq : 1 ≤ q) (hq' : q ≤ 1149) (hl : 4503599627370496 ≤ k) (hk : k < 9007199254740992) : double.read (double.word s (q * 4503599627370496 + k)) = .number s k (-1074 + (q : Nat)) := by
  have hr : double.word s (q * 4503599627370496 + k) % 9223372036854775808 = q * 4503599627370496 + k := by
    unfold Format.word; rw [d_sign]; split <;> omega
  have hs : decide (9223372036854775808 ≤ double.word s (q * 4503599627370496 + k)) = s ∧ double.word s (q * 4503599627370496 + k) / 9223372036854775808 = (if s then 1 else 0) ∧ double.word s (q * 4503599627370496 + k) < 18446744073709551616 := by
    unfold Format.word; rw [d_sign]
    cases s
    · refine ⟨?_, ?_, ?_⟩ <;> simp <;> omega
    · refine ⟨?_, ?_, ?_⟩ <;> simp <;> omega
  obtain ⟨t, ht⟩ := normal_read s hq hq' hl hk
  rw [ht]
  unfold Format.read at ht
  simp only [d_sign, d_binade, d_inf, d_least, hr] at ht
  rw [if_neg (by omega), if_pos (by omega)] at ht
  have := (Datum.number.inj ht).1
  rw [← this]
  congr 1
  generalize double.word s (q * 4503599627370496 + k) = w at *
  cases s
  · have : w / 9223372036854775808 = 0 := by simpa using hs.2.1
    simp only [this, decide_eq_false_iff_not, beq_eq_false_iff_ne, bne_iff_ne, ne_eq] <;> first | rfl | decide | (have := hs.1; simp at this; simp; omega)
  · have : w / 9223372036854775808 = 1 := by simpa using hs.2.1
    simp only [this] <;> first | rfl | decide | (have := hs.1; simp at this; simp; omega)

theorem order_ofD {a b : Nat} {s t : Bool} {m n : Nat} {i j x y : Int} (ea : double.read a = .number s m i) (eb : double.read b = .number t n j) (ha : Mi (signed s m 0) i x) (hb : Mi (signed t n 0) j y) : double.order a b = some (compare x y) := by
  unfold Format.order
  rw [ea, eb]
  unfold Datum.order
  dsimp only
  rw [signed_eq s m, signed_eq t n]
  have h1 := Mi_shift ha (Int.min_le_left i j)
  have h2 := Mi_shift hb (Int.min_le_right i j)
  congr 1
  have l1 := Mi_lt h1 h2
  have l2 := Mi_lt h2 h1
  simp only [compare, compareOfLessAndEq]
  by_cases c1 : x < y
  · rw [if_pos (l1.2 c1), if_pos c1]
  · rw [if_neg (fun h => c1 (l1.1 h)), if_neg c1]
    by_cases c2 : y < x
    · have := l2.2 c2
      rw [if_neg (by omega), if_neg (by omega)]
    · have : ¬ _ := fun h => c2 (l2.1 h)
      have : ¬ _ := fun h => c1 (l1.1 h)
      rw [if_pos (by omega), if_pos (by omega)]
/-- A number that is widened is the same. -/
theorem wide_same {b : Nat} {s : Bool} {m : Nat} {e x : Int} (hr : single.read b = .number s m e) (hx : Mi (signed s m 0) e x) : ∃ s' m' e', double.read (widen b) = .number s' m' e' ∧ Mi (signed s' m' 0) e' x := by
  obtain ⟨k1, k2, k3⟩ := single_read hr
  have hwd : widen b = double.write (.number s m e) := by
    show double.write (single.read b) = _
    rw [hr]
  by_cases h0 : m = 0
  · subst h0
    have hx0 : x = 0 := (Mi_zero hx).1 (by unfold signed; cases s <;> simp)
    subst hx0
    have hz : widen b = double.word s 0 := by
      rw [hwd]
      show double.nearest s 0 e = _
      unfold Format.nearest
      rw [if_pos rfl]
    rw [hz]
    refine ⟨s, 0, -1074, ?_, by unfold Mi; rw [show signed s 0 0 = 0 by unfold signed; cases s <;> simp, Int.zero_mul, Int.zero_mul]⟩
    cases s <;> decide +kernel
  · obtain ⟨w2, w3⟩ := kept_bd h0 k1
    have w4 := (log2_bd h0 k1).1
    rw [hwd, widen_eq s h0 k1 k2 k3, normal_sign s (q := (e + (m.log2 : Int) + 1022).toNat) (by omega) (by omega) w2 w3]
    refine ⟨_, _, _, rfl, ?_⟩
    have h := Mi_shift hx (base := e + (m.log2 : Int) - 52) (by omega)
    rw [show (e - (e + (m.log2 : Int) - 52)).toNat = 52 - m.log2 by omega] at h
    rw [show -1074 + ((e + (m.log2 : Int) + 1022).toNat : Int) = e + (m.log2 : Int) - 52 by omega]
    have g : signed s (m * 2 ^ (52 - m.log2)) 0 = signed s m 0 * 2 ^ (52 - m.log2) := by
      rw [← signed_eq]
      unfold signed
      cases s <;> simp [Nat.shiftLeft_eq]
    rw [g]
    exact h
/-- What is whole and no NaN has a value, which both precisions compare. -/
theorem value32 {b : Nat} (hn : (single.order b b != some .eq) = false) (hw : whB (widen b) = true) : ∃ x : Int, (∀ {c : Nat} {t : Bool} {n : Nat} {j y : Int}, single.read c = .number t n j → Mi (signed t n 0) j y → single.order b c = some (compare x y)) ∧
    (∀ {c : Nat} {t : Bool} {n : Nat} {j y : Int}, double.read c = .number t n j → Mi (signed t n 0) j y → double.order (widen b) c = some (compare x y)) ∧ (-9223372036854775808 ≤ x → x ≤ 9223372036854775807 → cutF32 b = some x) ∧ (InF x → Rp (widen b) x) := by
  cases hr : single.read b with
  | nan s f =>
    exfalso
    have : single.order b b = none := by
      unfold Format.order
      simp [hr, Datum.order]
    rw [this] at hn; cases hn
  | infinity s =>
    exfalso
    have e : widen b = double.write (.infinity s) := by
      show double.write (single.read b) = _
      rw [hr]
    rw [e, inf_whB] at hw; cases hw
  | number s m e =>
    obtain ⟨x, hx⟩ := whole32 hr hw
    obtain ⟨s', m', e', hr', hx'⟩ := wide_same hr hx
    refine ⟨x, fun h g => order_of hr h hx g, fun h g => order_ofD hr' h hx' g, fun a b => cut_of hr hx ⟨a, b⟩, fun hk => ?_⟩
    have hb : widen b < 18446744073709551616 := Ieee.Format.write_lt Ieee.double _
    rcases read_cases hb with ⟨_, _, h⟩ | ⟨_, h, _⟩ | ⟨s2, m2, e2, nb⟩
    · rw [h] at hr'; cases hr'
    · rw [h] at hr'; cases hr'
    · have r := hr'
      rw [nb.read] at r
      obtain ⟨rfl, rfl, rfl⟩ := Datum.number.inj r
      exact nb.rp hx' hk
/-- Numbers that floats of both precisions stand for. -/
theorem both32 {b c : Nat} {t : Bool} {n : Nat} {j y : Int} (hn : (single.order b b != some .eq) = false) (hw : whB (widen b) = true) (hc : single.read c = .number t n j) (hy : Mi (signed t n 0) j y) (hk : InF y) :
    double.order (widen b) (FloatKind.f64.nearest y) = single.order b c := by
  obtain ⟨x, h1, h2, _⟩ := value32 hn hw
  obtain ⟨t', n', j', r, g, _⟩ := read_rp (Rp_fi y) hk.1 hk.2
  rw [h1 hc hy]; exact h2 r g
theorem read_1M : single.read 1232348160 = .number false 16000000 (-4) := by decide +kernel
/-- Samples of a signal. -/
theorem signal32 {b : Nat} (hn : (single.order b b != some .eq) = false) (hw : whB (widen b) = true) (h1 : (single.order b 0 == some .lt) = false) (h2 : (single.order b 1232348160 == some .gt) = false) : ∃ x, cutF32 b = some x ∧ 0 ≤ x ∧ x ≤ 1000000 :=
  checked32 hn hw read_0 (L := 0) (by unfold Mi signed; simp) read_1M (H := 1000000) (by unfold Mi signed; decide) h1 h2 (by decide) (by decide)
end Go.Proofs.Ytafnplkablkepaa
