/- Turns of a signal, in plain numbers. -/
import Derived.Test.YtiekcneeedifmaaBita
namespace Go.Proofs.Ytiekcneeedifmaa.Gt
set_option linter.unusedSimpArgs false
set_option linter.unusedVariables false
open Go.Proofs.Ytiekcneeedifmaa
def gmx (l : Int → Int) (a : Int) : Nat → Int
  | 0 => l a
  | k + 1 => if l (a + (k + 1)) > gmx l a k then l (a + (k + 1)) else gmx l a k
def gmn (l : Int → Int) (a : Int) : Nat → Int
  | 0 => l a
  | k + 1 => if l (a + (k + 1)) < gmn l a k then l (a + (k + 1)) else gmn l a k
def IsMx (l : Int → Int) (a b m : Int) : Prop := (∀ q, a ≤ q → q ≤ b → l q ≤ m) ∧ ∃ q, a ≤ q ∧ q ≤ b ∧ l q = m
def IsMn (l : Int → Int) (a b m : Int) : Prop := (∀ q, a ≤ q → q ≤ b → m ≤ l q) ∧ ∃ q, a ≤ q ∧ q ≤ b ∧ l q = m
theorem gmx_is (l : Int → Int) (a : Int) : ∀ k : Nat, IsMx l a (a + k) (gmx l a k)
  | 0 => ⟨fun q h0 h1 => by have : q = a := by omega
                            subst this; exact Int.le_refl _, a, Int.le_refl _, by omega, rfl⟩
  | k + 1 => by
    obtain ⟨h1, q, h2, h3, h4⟩ := gmx_is l a k
    rw [gmx]
    split
    · rename_i g
      refine ⟨fun r h5 h6 => ?_, a + (k + 1), by omega, by omega, rfl⟩
      by_cases e : r = a + (k + 1)
      · rw [e]; exact Int.le_refl _
      · have := h1 r h5 (by omega); omega
    · rename_i g
      refine ⟨fun r h5 h6 => ?_, q, h2, by omega, h4⟩
      by_cases e : r = a + (k + 1)
      · rw [e]; omega
      · exact h1 r h5 (by omega)
theorem gmn_is (l : Int → Int) (a : Int) : ∀ k : Nat, IsMn l a (a + k) (gmn l a k)
  | 0 => ⟨fun q h0 h1 => by have : q = a := by omega
                            subst this; exact Int.le_refl _, a, Int.le_refl _, by omega, rfl⟩
  | k + 1 => by
    obtain ⟨h1, q, h2, h3, h4⟩ := gmn_is l a k
    rw [gmn]
    split
    · rename_i g
      refine ⟨fun r h5 h6 => ?_, a + (k + 1), by omega, by omega, rfl⟩
      by_cases e : r = a + (k + 1)
      · rw [e]; exact Int.le_refl _
      · have := h1 r h5 (by omega); omega
    · rename_i g
      refine ⟨fun r h5 h6 => ?_, q, h2, by omega, h4⟩
      by_cases e : r = a + (k + 1)
      · rw [e]; omega
      · exact h1 r h5 (by omega)
theorem IsMx.eq {l : Int → Int} {a b m n : Int} (h : IsMx l a b m) (g : IsMx l a b n) : m = n := by
  obtain ⟨h1, q, h2, h3, h4⟩ := h
  obtain ⟨g1, r, g2, g3, g4⟩ := g
  have := h1 r g2 g3; have := g1 q h2 h3; omega
theorem IsMn.eq {l : Int → Int} {a b m n : Int} (h : IsMn l a b m) (g : IsMn l a b n) : m = n := by
  obtain ⟨h1, q, h2, h3, h4⟩ := h
  obtain ⟨g1, r, g2, g3, g4⟩ := g
  have := h1 r g2 g3; have := g1 q h2 h3; omega
/-- The greatest and the least number of a stretch. -/
def topF (l : Int → Int) (a b : Int) : Int := gmx l a (b - a).toNat
def botF (l : Int → Int) (a b : Int) : Int := gmn l a (b - a).toNat
theorem topF_is (l : Int → Int) {a b : Int} (h : a ≤ b) : IsMx l a b (topF l a b) := by
  have := gmx_is l a (b - a).toNat
  rwa [show a + ((b - a).toNat : Int) = b by omega] at this
theorem botF_is (l : Int → Int) {a b : Int} (h : a ≤ b) : IsMn l a b (botF l a b) := by
  have := gmn_is l a (b - a).toNat
  rwa [show a + ((b - a).toNat : Int) = b by omega] at this
/-- The first, and the last, number with a property. -/
def fsF (p : Int → Bool) : Nat → Int → Int
  | 0, a => a
  | k + 1, a => if p a = true then a else fsF p k (a + 1)
def lsF (p : Int → Bool) : Nat → Int → Int
  | 0, a => a
  | k + 1, a => if p a = true then a else lsF p k (a - 1)
theorem fsF_eq {p : Int → Bool} {x : Int} (hp : p x = true) : ∀ (n : Nat) (a : Int), a ≤ x → x ≤ a + n → (∀ q, a ≤ q → q < x → p q = false) → fsF p n a = x
  | 0, a, h0, h1, h => by unfold fsF; omega
  | n + 1, a, h0, h1, h => by
    unfold fsF
    split
    · rename_i g
      rcases Int.lt_or_eq_of_le h0 with e | e
      · have := h a (Int.le_refl _) e; rw [g] at this; cases this
      · exact e
    · rename_i g
      rcases Int.lt_or_eq_of_le h0 with e | e
      · exact fsF_eq hp n (a + 1) (by omega) (by omega) fun q a1 a2 => h q (by omega) a2
      · rw [e] at g; exact absurd hp g
theorem lsF_eq {p : Int → Bool} {x : Int} (hp : p x = true) : ∀ (n : Nat) (a : Int), x ≤ a → a ≤ x + n → (∀ q, x < q → q ≤ a → p q = false) → lsF p n a = x
  | 0, a, h0, h1, h => by unfold lsF; omega
  | n + 1, a, h0, h1, h => by
    unfold lsF
    split
    · rename_i g
      rcases Int.lt_or_eq_of_le h0 with e | e
      · have := h a e (Int.le_refl _); rw [g] at this; cases this
      · exact e.symm
    · rename_i g
      rcases Int.lt_or_eq_of_le h0 with e | e
      · exact lsF_eq hp n (a - 1) (by omega) (by omega) fun q a1 a2 => h q a1 (by omega)
      · rw [← e] at g; exact absurd hp g
/-- There is a first one. -/
theorem fst_ex {p : Int → Bool} {a : Int} : ∀ (n : Nat), (∃ q, a ≤ q ∧ q < a + n ∧ p q = true) → ∃ x, a ≤ x ∧ x < a + n ∧ p x = true ∧ ∀ q, a ≤ q → q < x → p q = false
  | 0, ⟨q, h0, h1, _⟩ => by omega
  | n + 1, ⟨q, h0, h1, hp⟩ => by
    by_cases e : ∃ q, a ≤ q ∧ q < a + n ∧ p q = true
    · obtain ⟨x, b0, b1, b2⟩ := fst_ex n e
      exact ⟨x, b0, by omega, b2⟩
    · refine ⟨q, h0, h1, hp, fun r c0 c1 => ?_⟩
      cases hr : p r with
      | false => rfl
      | true => exact absurd ⟨r, c0, by omega, hr⟩ e
theorem lst_ex {p : Int → Bool} {b : Int} : ∀ (n : Nat), (∃ q, b - n < q ∧ q ≤ b ∧ p q = true) → ∃ x, b - n < x ∧ x ≤ b ∧ p x = true ∧ ∀ q, x < q → q ≤ b → p q = false
  | 0, ⟨q, h0, h1, _⟩ => by omega
  | n + 1, ⟨q, h0, h1, hp⟩ => by
    by_cases e : ∃ q, b - n < q ∧ q ≤ b ∧ p q = true
    · obtain ⟨x, b0, b1, b2⟩ := lst_ex n e
      exact ⟨x, by omega, b1, b2⟩
    · refine ⟨q, h0, h1, hp, fun r c0 c1 => ?_⟩
      cases hr : p r with
      | false => rfl
      | true => exact absurd ⟨r, by omega, c1, hr⟩ e
/-- What is known behind some samples: the way, where its stretch begins, the turns. -/
structure TS where
  way : Int
  first : Int
  n : Int
  g0 : Int → Int
  g1 : Int → Int
  g2 : Int → Int
  g3 : Int → Int
def upF (g : Int → Int) (n v : Int) : Int → Int := fun q => if q = n then v else g q
def pTop (l : Int → Int) (far a i : Int) (x : Int) : Bool := decide (topF l a i - far ≤ l x)
def pBot (l : Int → Int) (far a i : Int) (x : Int) : Bool := decide (l x ≤ botF l a i + far)
def stp (l : Int → Int) (far : Int) (s : TS) (i : Int) : TS :=
  if s.way = 2 then
    (if l i - botF l s.first i ≤ far then s
     else ⟨1, i, s.n + 1, upF s.g0 s.n 0, upF s.g1 s.n (fsF (pBot l far s.first i) i.toNat s.first), upF s.g2 s.n (lsF (pBot l far s.first i) i.toNat (i - 1)), upF s.g3 s.n i⟩)
  else if topF l s.first i - l i ≤ far then
    (if s.way = 1 then s else if l i - botF l s.first i ≤ far then s else ⟨1, i, s.n, s.g0, s.g1, s.g2, s.g3⟩)
  else
    (if s.way = 1 then ⟨2, i, s.n + 1, upF s.g0 s.n 1, upF s.g1 s.n (fsF (pTop l far s.first i) i.toNat s.first), upF s.g2 s.n (lsF (pTop l far s.first i) i.toNat (i - 1)), upF s.g3 s.n i⟩
     else ⟨2, i, s.n, s.g0, s.g1, s.g2, s.g3⟩)
def ts (l : Int → Int) (far : Int) : Nat → TS
  | 0 => ⟨0, 0, 0, fun _ => 0, fun _ => 0, fun _ => 0, fun _ => 0⟩
  | k + 1 => stp l far (ts l far k) k
theorem ts_step {l : Int → Int} {far i : Int} (h : 0 ≤ i) : ts l far (i + 1).toNat = stp l far (ts l far i.toNat) i := by
  rw [show (i + 1).toNat = i.toNat + 1 by omega, ts, show ((i.toNat : Nat) : Int) = i by omega]
/-- The first sample changes nothing. -/
theorem ts_one {l : Int → Int} {far : Int} (h : 0 ≤ far) : ts l far 1 = ts l far 0 := by
  show stp l far _ 0 = _
  have e1 : topF l 0 0 = l 0 := rfl
  have e2 : botF l 0 0 = l 0 := rfl
  unfold stp
  rw [if_neg (by show ¬ (0 : Int) = 2; decide), if_pos (by show topF l 0 0 - l 0 ≤ far; omega), if_neg (by show ¬ (0 : Int) = 1; decide), if_pos (by show l 0 - botF l 0 0 ≤ far; omega)]
/-- Where a bottom, and a top, may have been. -/
theorem bot_turn {l : Int → Int} {far a i : Int} (h0 : 0 ≤ a) (h : a ≤ i) (hf : 0 ≤ far) (g : ¬ l i - botF l a i ≤ far) :
    ∃ f t, a ≤ f ∧ f ≤ t ∧ t < i ∧ pBot l far a i f = true ∧ (∀ q, a ≤ q → q < f → pBot l far a i q = false) ∧ pBot l far a i t = true ∧ (∀ q, t < q → q ≤ i - 1 → pBot l far a i q = false) ∧ fsF (pBot l far a i) i.toNat a = f ∧ lsF (pBot l far a i) i.toNat (i - 1) = t := by
  obtain ⟨h1, q, h2, h3, h4⟩ := botF_is l h
  have hq : q ≠ i := fun e => by subst e; omega
  have pq : pBot l far a i q = true := by unfold pBot; exact decide_eq_true (by omega)
  obtain ⟨f, f0, f1, f2, f3⟩ := fst_ex (p := pBot l far a i) (a := a) (i - a).toNat ⟨q, h2, by omega, pq⟩
  obtain ⟨t, t0, t1, t2, t3⟩ := lst_ex (p := pBot l far a i) (b := i - 1) (i - a).toNat ⟨q, by omega, by omega, pq⟩
  have ft : f ≤ t := by
    rcases Int.lt_or_le t f with e | e
    · have := f3 t (by omega) e; rw [t2] at this; cases this
    · exact e
  exact ⟨f, t, f0, ft, by omega, f2, f3, t2, t3, fsF_eq f2 _ _ f0 (by omega) f3, lsF_eq t2 _ _ t1 (by omega) t3⟩
theorem top_turn {l : Int → Int} {far a i : Int} (h0 : 0 ≤ a) (h : a ≤ i) (hf : 0 ≤ far) (g : ¬ topF l a i - l i ≤ far) :
    ∃ f t, a ≤ f ∧ f ≤ t ∧ t < i ∧ pTop l far a i f = true ∧ (∀ q, a ≤ q → q < f → pTop l far a i q = false) ∧ pTop l far a i t = true ∧ (∀ q, t < q → q ≤ i - 1 → pTop l far a i q = false) ∧ fsF (pTop l far a i) i.toNat a = f ∧ lsF (pTop l far a i) i.toNat (i - 1) = t := by
  obtain ⟨h1, q, h2, h3, h4⟩ := topF_is l h
  have hq : q ≠ i := fun e => by subst e; omega
  have pq : pTop l far a i q = true := by unfold pTop; exact decide_eq_true (by omega)
  obtain ⟨f, f0, f1, f2, f3⟩ := fst_ex (p := pTop l far a i) (a := a) (i - a).toNat ⟨q, h2, by omega, pq⟩
  obtain ⟨t, t0, t1, t2, t3⟩ := lst_ex (p := pTop l far a i) (b := i - 1) (i - a).toNat ⟨q, by omega, by omega, pq⟩
  have ft : f ≤ t := by
    rcases Int.lt_or_le t f with e | e
    · have := f3 t (by omega) e; rw [t2] at this; cases this
    · exact e
  exact ⟨f, t, f0, ft, by omega, f2, f3, t2, t3, fsF_eq f2 _ _ f0 (by omega) f3, lsF_eq t2 _ _ t1 (by omega) t3⟩
/-- What the turns say, behind i samples. -/
structure TOk (s : TS) (i : Int) : Prop where
  wy : 0 ≤ s.way ∧ s.way ≤ 2
  fi : 0 ≤ s.first ∧ (s.first < i ∨ s.first = 0)
  nn : 0 ≤ s.n ∧ s.n ≤ i
  b0 : ∀ q, s.g0 q = 0 ∨ s.g0 q = 1
  b1 : ∀ q, 0 ≤ s.g1 q ∧ s.g1 q ≤ i
  b2 : ∀ q, 0 ≤ s.g2 q ∧ s.g2 q ≤ i
  b3 : ∀ q, 0 ≤ s.g3 q ∧ s.g3 q ≤ i
  op : s.way = 0 → s.n = 0
  la : 0 < s.n → s.g3 (s.n - 1) = s.first ∧ (s.g0 (s.n - 1) = 1 ↔ s.way = 2)
  al : ∀ j, 0 < j → j < s.n → s.g0 j ≠ s.g0 (j - 1) ∧ s.g3 (j - 1) < s.g3 j
theorem upF_at (g : Int → Int) (n v : Int) : upF g n v n = v := if_pos rfl
theorem upF_ne {g : Int → Int} {n v q : Int} (h : q ≠ n) : upF g n v q = g q := if_neg h
theorem tok_turn {s : TS} {i w f t b : Int} (h : TOk s i) (h0 : 0 ≤ i) (hw : (w = 1 ∧ b = 0 ∧ s.way = 2) ∨ (w = 2 ∧ b = 1 ∧ s.way = 1)) (hf : s.first ≤ f) (ht : f ≤ t) (hi : t < i) :
    TOk ⟨w, i, s.n + 1, upF s.g0 s.n b, upF s.g1 s.n f, upF s.g2 s.n t, upF s.g3 s.n i⟩ (i + 1) := by
  have k1 := h.fi; have k2 := h.nn
  refine ⟨by dsimp only; omega, by dsimp only; omega, by dsimp only; omega, fun q => ?_, fun q => ?_, fun q => ?_, fun q => ?_, by dsimp only; omega, fun _ => ?_, fun j a c => ?_⟩
  · show upF s.g0 s.n b q = 0 ∨ upF s.g0 s.n b q = 1
    unfold upF; split
    · omega
    · exact h.b0 q
  · show 0 ≤ upF s.g1 s.n f q ∧ upF s.g1 s.n f q ≤ i + 1
    unfold upF; split
    · omega
    · have := h.b1 q; omega
  · show 0 ≤ upF s.g2 s.n t q ∧ upF s.g2 s.n t q ≤ i + 1
    unfold upF; split
    · omega
    · have := h.b2 q; omega
  · show 0 ≤ upF s.g3 s.n i q ∧ upF s.g3 s.n i q ≤ i + 1
    unfold upF; split
    · omega
    · have := h.b3 q; omega
  · show upF s.g3 s.n i (s.n + 1 - 1) = i ∧ (upF s.g0 s.n b (s.n + 1 - 1) = 1 ↔ w = 2)
    rw [show s.n + 1 - 1 = s.n by omega, upF_at, upF_at]
    exact ⟨rfl, by omega⟩
  · have c : j < s.n + 1 := c
    show upF s.g0 s.n b j ≠ upF s.g0 s.n b (j - 1) ∧ upF s.g3 s.n i (j - 1) < upF s.g3 s.n i j
    by_cases e : j = s.n
    · subst e
      have l := h.la a
      rw [upF_at, upF_at, upF_ne (by omega), upF_ne (by omega)]
      have := h.b0 (s.n - 1)
      refine ⟨by omega, ?_⟩
      rw [l.1]; omega
    · rw [upF_ne e, upF_ne (by omega), upF_ne (by omega), upF_ne e]
      exact h.al j a (by omega)
theorem tok_same {s : TS} {i : Int} (h : TOk s i) : TOk s (i + 1) := by
  have k1 := h.fi; have k2 := h.nn
  exact ⟨h.wy, by omega, by omega, h.b0, fun q => by have := h.b1 q; omega, fun q => by have := h.b2 q; omega, fun q => by have := h.b3 q; omega, h.op, h.la, h.al⟩
theorem tok_way {s : TS} {i w : Int} (h : TOk s i) (h0 : 0 ≤ i) (hs : s.way = 0) (hw : w = 1 ∨ w = 2) : TOk ⟨w, i, s.n, s.g0, s.g1, s.g2, s.g3⟩ (i + 1) := by
  have k1 := h.fi; have k2 := h.nn; have k3 := h.op hs
  exact ⟨by dsimp only; omega, by dsimp only; omega, by dsimp only; omega, h.b0, fun q => by have := h.b1 q; dsimp only; omega, fun q => by have := h.b2 q; dsimp only; omega, fun q => by have := h.b3 q; dsimp only; omega, fun _ => k3, fun g => absurd g (by dsimp only; omega), h.al⟩
theorem tok_stp {l : Int → Int} {far i : Int} {s : TS} (hf : 0 ≤ far) (h : TOk s i) (h0 : 0 ≤ i) : TOk (stp l far s i) (i + 1) := by
  have k1 := h.fi; have k2 := h.wy
  unfold stp
  split
  · rename_i w
    split
    · exact tok_same h
    · rename_i g
      obtain ⟨f, t, a, b, c, -, -, -, -, e1, e2⟩ := bot_turn k1.1 (by omega) hf g
      rw [e1, e2]
      exact tok_turn h h0 (Or.inl ⟨rfl, rfl, w⟩) a b c
  · rename_i w
    split
    · split
      · exact tok_same h
      · split
        · exact tok_same h
        · exact tok_way h h0 (by omega) (Or.inl rfl)
    · rename_i g
      split
      · rename_i w'
        obtain ⟨f, t, a, b, c, -, -, -, -, e1, e2⟩ := top_turn k1.1 (by omega) hf g
        rw [e1, e2]
        exact tok_turn h h0 (Or.inr ⟨rfl, rfl, w'⟩) a b c
      · exact tok_way h h0 (by omega) (Or.inr rfl)
theorem ts_ok {l : Int → Int} {far : Int} (hf : 0 ≤ far) : ∀ k : Nat, TOk (ts l far k) k
  | 0 => by
    show TOk ⟨0, 0, 0, fun _ => 0, fun _ => 0, fun _ => 0, fun _ => 0⟩ 0
    refine ⟨by decide, by decide, by decide, fun q => Or.inl rfl, fun q => ⟨Int.le_refl _, Int.le_refl _⟩, fun q => ⟨Int.le_refl _, Int.le_refl _⟩, fun q => ⟨Int.le_refl _, Int.le_refl _⟩, fun _ => rfl, fun g => absurd g (by decide), fun j a b => ?_⟩
    have b : j < (0 : Int) := b
    omega
  | k + 1 => tok_stp (l := l) hf (ts_ok hf k) (by omega)
section
variable {l : Int → Int} {far i w a n : Int} {g0 g1 g2 g3 : Int → Int}
theorem stp_2a (h : w = 2) (g : l i - botF l a i ≤ far) : stp l far ⟨w, a, n, g0, g1, g2, g3⟩ i = ⟨w, a, n, g0, g1, g2, g3⟩ := by
  unfold stp; rw [if_pos h, if_pos g]
theorem stp_2b {f t : Int} (h : w = 2) (g : ¬ l i - botF l a i ≤ far) (hf : fsF (pBot l far a i) i.toNat a = f) (ht : lsF (pBot l far a i) i.toNat (i - 1) = t) :
    stp l far ⟨w, a, n, g0, g1, g2, g3⟩ i = ⟨1, i, n + 1, fun q => if q = n then 0 else g0 q, fun q => if q = n then f else g1 q, fun q => if q = n then t else g2 q, fun q => if q = n then i else g3 q⟩ := by
  unfold stp; rw [if_pos h, if_neg g]; subst hf; subst ht; rfl
theorem stp_1a (h : ¬ w = 2) (h' : w = 1) (g : topF l a i - l i ≤ far) : stp l far ⟨w, a, n, g0, g1, g2, g3⟩ i = ⟨w, a, n, g0, g1, g2, g3⟩ := by
  unfold stp; rw [if_neg h, if_pos g, if_pos h']
theorem stp_0a (h : ¬ w = 2) (h' : ¬ w = 1) (g : topF l a i - l i ≤ far) (g' : l i - botF l a i ≤ far) : stp l far ⟨w, a, n, g0, g1, g2, g3⟩ i = ⟨w, a, n, g0, g1, g2, g3⟩ := by
  unfold stp; rw [if_neg h, if_pos g, if_neg h', if_pos g']
theorem stp_0b (h : ¬ w = 2) (h' : ¬ w = 1) (g : topF l a i - l i ≤ far) (g' : ¬ l i - botF l a i ≤ far) : stp l far ⟨w, a, n, g0, g1, g2, g3⟩ i = ⟨1, i, n, g0, g1, g2, g3⟩ := by
  unfold stp; rw [if_neg h, if_pos g, if_neg h', if_neg g']
theorem stp_1b {f t : Int} (h : ¬ w = 2) (h' : w = 1) (g : ¬ topF l a i - l i ≤ far) (hf : fsF (pTop l far a i) i.toNat a = f) (ht : lsF (pTop l far a i) i.toNat (i - 1) = t) :
    stp l far ⟨w, a, n, g0, g1, g2, g3⟩ i = ⟨2, i, n + 1, fun q => if q = n then 1 else g0 q, fun q => if q = n then f else g1 q, fun q => if q = n then t else g2 q, fun q => if q = n then i else g3 q⟩ := by
  unfold stp; rw [if_neg h, if_neg g, if_pos h']; subst hf; subst ht; rfl
theorem stp_0c (h : ¬ w = 2) (h' : ¬ w = 1) (g : ¬ topF l a i - l i ≤ far) : stp l far ⟨w, a, n, g0, g1, g2, g3⟩ i = ⟨2, i, n, g0, g1, g2, g3⟩ := by
  unfold stp; rw [if_neg h, if_neg g, if_neg h']
end
/-- A loop that looks for the first and the last number with a property. -/
def FL (p : Int → Bool) (a k f t : Int) : Prop := (f = -1 ∧ t = 0 ∧ ∀ q, a ≤ q → q < k → p q = false) ∨ (a ≤ f ∧ p f = true ∧ (∀ q, a ≤ q → q < f → p q = false) ∧ f ≤ t ∧ t < k ∧ p t = true ∧ ∀ q, t < q → q < k → p q = false)
theorem FL.init {p : Int → Bool} {a : Int} : FL p a a (-1) 0 := Or.inl ⟨rfl, rfl, fun q h0 h1 => by omega⟩
theorem FL.no {p : Int → Bool} {a k f t : Int} (h : FL p a k f t) (hp : p k = false) : FL p a (k + 1) f t := by
  rcases h with ⟨h1, h2, h3⟩ | ⟨h1, h2, h3, h4, h5, h6, h7⟩
  · refine Or.inl ⟨h1, h2, fun q a0 a1 => ?_⟩
    by_cases e : q = k
    · rw [e]; exact hp
    · exact h3 q a0 (by omega)
  · refine Or.inr ⟨h1, h2, h3, h4, by omega, h6, fun q a0 a1 => ?_⟩
    by_cases e : q = k
    · rw [e]; exact hp
    · exact h7 q a0 (by omega)
theorem FL.yes {p : Int → Bool} {a k f t : Int} (h : FL p a k f t) (hp : p k = true) (hf : 0 ≤ f) (ha : a ≤ k) : FL p a (k + 1) f k := by
  rcases h with ⟨h1, h2, h3⟩ | ⟨h1, h2, h3, h4, h5, h6, h7⟩
  · omega
  · exact Or.inr ⟨h1, h2, h3, by omega, by omega, hp, fun q a0 a1 => by omega⟩
theorem FL.fst {p : Int → Bool} {a k f t : Int} (h : FL p a k f t) (hp : p k = true) (hf : ¬ 0 ≤ f) (h0 : 0 ≤ a) (ha : a ≤ k) : FL p a (k + 1) k k := by
  rcases h with ⟨h1, h2, h3⟩ | ⟨h1, h2, h3, h4, h5, h6, h7⟩
  · exact Or.inr ⟨ha, hp, h3, Int.le_refl _, by omega, hp, fun q a0 a1 => by omega⟩
  · omega
theorem FL.bd {p : Int → Bool} {a k f t : Int} (h : FL p a k f t) (h0 : 0 ≤ a) (ha : a ≤ k) : (-1 ≤ f ∧ f ≤ k) ∧ (0 ≤ t ∧ t ≤ k) := by
  rcases h with ⟨h1, h2, h3⟩ | ⟨h1, h2, h3, h4, h5, h6, h7⟩ <;> omega
theorem FL.out {p : Int → Bool} {a i f t x : Int} (h : FL p a i f t) (h0 : 0 ≤ a) (hx : a ≤ x) (hx' : x < i) (hp : p x = true) : fsF p i.toNat a = f ∧ lsF p i.toNat (i - 1) = t := by
  rcases h with ⟨h1, h2, h3⟩ | ⟨h1, h2, h3, h4, h5, h6, h7⟩
  · have := h3 x hx hx'; rw [hp] at this; cases this
  · exact ⟨fsF_eq h2 _ _ h1 (by omega) h3, lsF_eq h6 _ _ (by omega) (by omega) fun q a0 a1 => h7 q a0 (by omega)⟩
end Go.Proofs.Ytiekcneeedifmaa.Gt
