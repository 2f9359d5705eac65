/- Tracks, in plain numbers: the forward pass, the backward pass, what they prove. -/
import Derived.Test.YtikekimiionllaaFtk
namespace Go.Proofs.Ytikekimiionllaa.Ev
set_option linter.unusedVariables false

/-- The moments of a right track. -/
structure Mom (T L U : Int → Int) (A B n : Int) : Prop where
  n1 : 1 ≤ n
  t : ∀ i, 1 ≤ i → i < n → 1 ≤ T i - T (i - 1) ∧ T i - T (i - 1) ≤ 100000
  l : ∀ i, 1 ≤ i → i < n → -1000000000 ≤ L i ∧ L i ≤ U i ∧ U i ≤ 2000000000
  a0 : 0 ≤ A
  ab : A ≤ B
  b1 : B ≤ 1000000
  l0 : L 0 = 0
  u0 : U 0 = 0
def Kept (T L U : Int → Int) (A B n : Int) (H : Int → Int) : Prop := H 0 = 0 ∧ ∀ i, 1 ≤ i → i < n → (L i ≤ H i ∧ H i ≤ U i) ∧ (H (i - 1) + A * (T i - T (i - 1)) ≤ H i ∧ H i ≤ H (i - 1) + B * (T i - T (i - 1)))
/-- Up to the moment i each has just the thicknesses that are grown up to it. -/
structure Fwd (T L U : Int → Int) (A B n i : Int) (p q : Int → Int) : Prop where
  i1 : 1 ≤ i
  i2 : i ≤ n
  z : p 0 = 0 ∧ q 0 = 0
  r : ∀ j, i ≤ j → j < n → p j = L j ∧ q j = U j
  f : ∀ j, 1 ≤ j → j < i → (L j ≤ p j ∧ p (j - 1) + A * (T j - T (j - 1)) ≤ p j ∧ (p j = L j ∨ p j = p (j - 1) + A * (T j - T (j - 1)))) ∧ (q j ≤ U j ∧ q j ≤ q (j - 1) + B * (T j - T (j - 1)) ∧ (q j = U j ∨ q j = q (j - 1) + B * (T j - T (j - 1)))) ∧ p j ≤ q j
theorem mulB {a d : Int} (h1 : 0 ≤ a) (h2 : a ≤ 1000000) (h3 : 0 ≤ d) (h4 : d ≤ 100000) : 0 ≤ a * d ∧ a * d ≤ 100000000000 :=
  ⟨Int.mul_nonneg h1 h3, Int.le_trans (Int.mul_le_mul h2 h4 h3 (by decide)) (by decide)⟩
theorem mulM {a b d : Int} (h : a ≤ b) (h3 : 0 ≤ d) : a * d ≤ b * d := Int.mul_le_mul_of_nonneg_right h h3
variable {T L U : Int → Int} {A B n i : Int} {p q : Int → Int}
/-- Where the values of a pass lie. -/
theorem Fwd.bnd (m : Mom T L U A B n) (h : Fwd T L U A B n i p q) : ∀ j, 0 ≤ j → j < n → -1000000000 ≤ p j ∧ p j ≤ q j ∧ q j ≤ 2000000000 := by
  intro j h1 h2
  by_cases e : j = 0
  · subst e; have := h.z; omega
  · have b := m.l j (by omega) h2
    by_cases k : j < i
    · have := h.f j (by omega) k; omega
    · have := h.r j (by omega) h2; omega
theorem Fwd.holds (h : Fwd T L U A B n i p q) {H : Int → Int} (k : Kept T L U A B n H) : ∀ (d : Nat), (d : Int) < i → p d ≤ H d ∧ H d ≤ q d
  | 0, _ => by have := h.z; have := k.1; have e : ((0 : Nat) : Int) = 0 := rfl; rw [e]; omega
  | d + 1, hd => by
    have ih := Fwd.holds h k d (by omega)
    have f := h.f ((d + 1 : Nat) : Int) (by omega) hd
    have s := k.2 ((d + 1 : Nat) : Int) (by omega) (by have := h.i2; omega)
    have e : (((d + 1 : Nat) : Int) - 1) = (d : Int) := by omega
    rw [e] at f s
    generalize A * (T ((d + 1 : Nat) : Int) - T (d : Int)) = x at *
    generalize B * (T ((d + 1 : Nat) : Int) - T (d : Int)) = y at *
    omega
theorem Fwd.step (m : Mom T L U A B n) (h : Fwd T L U A B n i p q) (hi : i < n) {a b : Int}
    (ha : a = if p (i - 1) + A * (T i - T (i - 1)) > p i then p (i - 1) + A * (T i - T (i - 1)) else p i)
    (hb : b = if q (i - 1) + B * (T i - T (i - 1)) < q i then q (i - 1) + B * (T i - T (i - 1)) else q i) (hab : a ≤ b) :
    Fwd T L U A B n (i + 1) (fun j => if j = i then a else p j) (fun j => if j = i then b else q j) := by
  have i1 := h.i1
  have r := h.r i (Int.le_refl i) hi
  refine ⟨by omega, by omega, ?_, fun j h1 h2 => ?_, fun j h1 h2 => ?_⟩
  · try dsimp only
    rw [if_neg (by omega), if_neg (by omega)]; exact h.z
  · try dsimp only
    rw [if_neg (by omega), if_neg (by omega)]; exact h.r j (by omega) h2
  · try dsimp only
    by_cases e : j = i
    · subst e
      rw [if_pos rfl, if_pos rfl, if_neg (by omega), if_neg (by omega)]
      generalize A * (T j - T (j - 1)) = x at *
      generalize B * (T j - T (j - 1)) = y at *
      split at ha <;> split at hb <;> omega
    · rw [if_neg e, if_neg e, if_neg (by omega), if_neg (by omega)]; exact h.f j h1 (by omega)
theorem Fwd.none (m : Mom T L U A B n) (h : Fwd T L U A B n i p q) (hi : i < n) {a b : Int}
    (ha : a = if p (i - 1) + A * (T i - T (i - 1)) > p i then p (i - 1) + A * (T i - T (i - 1)) else p i)
    (hb : b = if q (i - 1) + B * (T i - T (i - 1)) < q i then q (i - 1) + B * (T i - T (i - 1)) else q i) (hab : ¬ a ≤ b) (H : Int → Int) : ¬ Kept T L U A B n H := by
  intro k
  have i1 := h.i1
  have r := h.r i (Int.le_refl i) hi
  have ih := h.holds k (i - 1).toNat (by omega)
  have e : (((i - 1).toNat : Nat) : Int) = i - 1 := by omega
  rw [e] at ih
  have s := k.2 i i1 hi
  generalize A * (T i - T (i - 1)) = x at *
  generalize B * (T i - T (i - 1)) = y at *
  split at ha <;> split at hb <;> omega
/-- Behind the moment i each has just the thicknesses that a growth has. -/
structure Bwd (T : Int → Int) (A B n : Int) (p q : Int → Int) (i : Int) (f g : Int → Int) : Prop where
  i1 : -1 ≤ i
  i2 : i ≤ n - 2
  r : ∀ j, 0 ≤ j → j ≤ i → f j = p j ∧ g j = q j
  z : f 0 = 0 ∧ g 0 = 0
  l : f (n - 1) = p (n - 1) ∧ g (n - 1) = q (n - 1)
  s : ∀ j, i < j → 1 ≤ j → j < n - 1 → (p j ≤ f j ∧ f (j + 1) - B * (T (j + 1) - T j) ≤ f j ∧ (f j = p j ∨ f j = f (j + 1) - B * (T (j + 1) - T j))) ∧ (g j ≤ q j ∧ g j ≤ g (j + 1) - A * (T (j + 1) - T j) ∧ (g j = q j ∨ g j = g (j + 1) - A * (T (j + 1) - T j)))
  o : ∀ j, 1 ≤ j → j < n → p j ≤ f j ∧ f j ≤ g j ∧ g j ≤ q j
theorem Bwd.start (m : Mom T L U A B n) (h : Fwd T L U A B n n p q) : Bwd T A B n p q (n - 2) p q :=
  ⟨by have := m.n1; omega, by omega, fun _ _ _ => ⟨rfl, rfl⟩, h.z, ⟨rfl, rfl⟩, fun j h1 h2 h3 => by omega, fun j h1 h2 => by have := h.f j h1 h2; omega⟩
variable {f g : Int → Int}
theorem Bwd.fits (m : Mom T L U A B n) (h : Fwd T L U A B n n p q) (k : Bwd T A B n p q i f g) (hi : 1 ≤ i) {a b : Int}
    (ha : a = if f (i + 1) - B * (T (i + 1) - T i) > f i then f (i + 1) - B * (T (i + 1) - T i) else f i)
    (hb : b = if g (i + 1) - A * (T (i + 1) - T i) < g i then g (i + 1) - A * (T (i + 1) - T i) else g i) : a ≤ b := by
  have i2 := k.i2
  have r := k.r i (by omega) (Int.le_refl i)
  have o1 := k.o i hi (by omega)
  have o2 := k.o (i + 1) (by omega) (by omega)
  have f2 := h.f (i + 1) (by omega) (by omega)
  have t := m.t (i + 1) (by omega) (by omega)
  have e : i + 1 - 1 = i := by omega
  rw [e] at f2 t
  have mm := mulM (d := T (i + 1) - T i) m.ab (by omega)
  generalize A * (T (i + 1) - T i) = x at *
  generalize B * (T (i + 1) - T i) = y at *
  split at ha <;> split at hb <;> omega
theorem Bwd.step (m : Mom T L U A B n) (h : Fwd T L U A B n n p q) (k : Bwd T A B n p q i f g) (hi : 1 ≤ i) {a b : Int}
    (ha : a = if f (i + 1) - B * (T (i + 1) - T i) > f i then f (i + 1) - B * (T (i + 1) - T i) else f i)
    (hb : b = if g (i + 1) - A * (T (i + 1) - T i) < g i then g (i + 1) - A * (T (i + 1) - T i) else g i) :
    Bwd T A B n p q (i - 1) (fun j => if j = i then a else f j) (fun j => if j = i then b else g j) := by
  have hab := k.fits m h hi ha hb
  have i2 := k.i2
  have r := k.r i (by omega) (Int.le_refl i)
  refine ⟨by omega, by omega, fun j h1 h2 => ?_, ?_, ?_, fun j h1 h2 h3 => ?_, fun j h1 h2 => ?_⟩ <;> try dsimp only
  · rw [if_neg (by omega), if_neg (by omega)]; exact k.r j h1 (by omega)
  · rw [if_neg (by omega), if_neg (by omega)]; exact k.z
  · rw [if_neg (by omega), if_neg (by omega)]; exact k.l
  · by_cases e : j = i
    · subst e
      rw [if_pos rfl, if_pos rfl, if_neg (by omega), if_neg (by omega)]
      generalize A * (T (j + 1) - T j) = x at *
      generalize B * (T (j + 1) - T j) = y at *
      split at ha <;> split at hb <;> omega
    · rw [if_neg e, if_neg e, if_neg (by omega), if_neg (by omega)]; exact k.s j (by omega) h2 h3
  · by_cases e : j = i
    · subst e
      rw [if_pos rfl, if_pos rfl]
      generalize A * (T (j + 1) - T j) = x at *
      generalize B * (T (j + 1) - T j) = y at *
      split at ha <;> split at hb <;> omega
    · rw [if_neg e, if_neg e]; exact k.o j h1 h2
theorem Bwd.holds (h : Fwd T L U A B n n p q) (k : Bwd T A B n p q i f g) (hi : i ≤ 0) {H : Int → Int} (w : Kept T L U A B n H) : ∀ (d : Nat) (j : Int), 1 ≤ j → j = n - 1 - d → f j ≤ H j ∧ H j ≤ g j
  | 0, j, h1, hj => by
    have ih := h.holds w j.toNat (by omega)
    have e : ((j.toNat : Nat) : Int) = j := by omega
    rw [e] at ih
    have ej : j = n - 1 := by omega
    have l := k.l
    rw [← ej] at l
    omega
  | d + 1, j, h1, hj => by
    have ih := Bwd.holds h k hi w d (j + 1) (by omega) (by omega)
    have hh := h.holds w j.toNat (by omega)
    have e : ((j.toNat : Nat) : Int) = j := by omega
    rw [e] at hh
    have s := k.s j (by omega) h1 (by omega)
    have w2 := w.2 (j + 1) (by omega) (by omega)
    have e2 : j + 1 - 1 = j := by omega
    rw [e2] at w2
    generalize A * (T (j + 1) - T j) = x at *
    generalize B * (T (j + 1) - T j) = y at *
    omega
theorem Bwd.least (m : Mom T L U A B n) (h : Fwd T L U A B n n p q) (k : Bwd T A B n p q i f g) (hi : i ≤ 0) : Kept T L U A B n f := by
  refine ⟨k.z.1, fun j h1 h2 => ?_⟩
  have o := k.o j h1 h2
  have ff := h.f j h1 h2
  have t := m.t j h1 h2
  have mm := mulM (d := T j - T (j - 1)) m.ab (by omega)
  by_cases e : j = 1
  · subst e
    have z := k.z; have z' := h.z
    simp only [show (1 : Int) - 1 = 0 from rfl] at ff t mm ⊢
    generalize A * (T 1 - T 0) = x at *
    generalize B * (T 1 - T 0) = y at *
    omega
  · have s := k.s (j - 1) (by omega) (by omega) (by omega)
    have e2 : j - 1 + 1 = j := by omega
    rw [e2] at s
    generalize A * (T j - T (j - 1)) = x at *
    generalize B * (T j - T (j - 1)) = y at *
    omega
theorem Bwd.most (m : Mom T L U A B n) (h : Fwd T L U A B n n p q) (k : Bwd T A B n p q i f g) (hi : i ≤ 0) : Kept T L U A B n g := by
  refine ⟨k.z.2, fun j h1 h2 => ?_⟩
  have o := k.o j h1 h2
  have ff := h.f j h1 h2
  have t := m.t j h1 h2
  have mm := mulM (d := T j - T (j - 1)) m.ab (by omega)
  by_cases e : j = 1
  · subst e
    have z := k.z; have z' := h.z
    simp only [show (1 : Int) - 1 = 0 from rfl] at ff t mm ⊢
    generalize A * (T 1 - T 0) = x at *
    generalize B * (T 1 - T 0) = y at *
    omega
  · have s := k.s (j - 1) (by omega) (by omega) (by omega)
    have e2 : j - 1 + 1 = j := by omega
    rw [e2] at s
    generalize A * (T j - T (j - 1)) = x at *
    generalize B * (T j - T (j - 1)) = y at *
    omega
end Go.Proofs.Ytikekimiionllaa.Ev
