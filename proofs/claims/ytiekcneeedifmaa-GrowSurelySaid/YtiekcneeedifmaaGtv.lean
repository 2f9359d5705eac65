/- Turns of a signal, in plain numbers: where the true signal surely turned. -/
import Derived.Test.YtiekcneeedifmaaGtn
namespace Go.Proofs.Ytiekcneeedifmaa.Gt
set_option linter.unusedSimpArgs false
set_option linter.unusedVariables false
open Go.Proofs.Ytiekcneeedifmaa
structure TTop (l : Int → Int) (far a f t s : Int) : Prop where
  af : a ≤ f
  ft : f ≤ t
  tl : t < s
  ex : ∃ top q0, (∀ q, a ≤ q → q ≤ s → l q ≤ top) ∧ f ≤ q0 ∧ q0 ≤ t ∧ l q0 = top ∧ far < top - l s ∧ (∀ q, a ≤ q → q < f → l q < top - far) ∧ (∀ q, t < q → q < s → l q < top - far)
structure TBot (l : Int → Int) (far a f t s : Int) : Prop where
  af : a ≤ f
  ft : f ≤ t
  tl : t < s
  ex : ∃ bot q0, (∀ q, a ≤ q → q ≤ s → bot ≤ l q) ∧ f ≤ q0 ∧ q0 ≤ t ∧ l q0 = bot ∧ far < l s - bot ∧ (∀ q, a ≤ q → q < f → bot + far < l q) ∧ (∀ q, t < q → q < s → bot + far < l q)
theorem top_is {l : Int → Int} {far a i f t : Int} (h0 : 0 ≤ far) (ha : a ≤ i) (g : ¬ topF l a i - l i ≤ far) (c0 : a ≤ f) (c1 : f ≤ t) (c2 : t < i) (c4 : ∀ q, a ≤ q → q < f → pTop l far a i q = false) (c6 : ∀ q, t < q → q ≤ i - 1 → pTop l far a i q = false) : TTop l far a f t i := by
  obtain ⟨h1, q, h2, h3, h4⟩ := topF_is l ha
  have lo : ∀ q, a ≤ q → q < f → l q < topF l a i - far := fun q a0 a1 => by
    have := c4 q a0 a1; unfold pTop at this; rw [decide_eq_false_iff_not] at this; omega
  have hi : ∀ q, t < q → q < i → l q < topF l a i - far := fun q a0 a1 => by
    have := c6 q a0 (by omega); unfold pTop at this; rw [decide_eq_false_iff_not] at this; omega
  have qi : q ≠ i := fun e => by subst e; omega
  refine ⟨c0, c1, c2, _, q, h1, ?_, ?_, h4, by omega, lo, hi⟩
  · rcases Int.lt_or_le q f with e | e
    · have := lo q h2 e; omega
    · exact e
  · rcases Int.lt_or_le t q with e | e
    · have := hi q e (by omega); omega
    · exact e
theorem bot_is {l : Int → Int} {far a i f t : Int} (h0 : 0 ≤ far) (ha : a ≤ i) (g : ¬ l i - botF l a i ≤ far) (c0 : a ≤ f) (c1 : f ≤ t) (c2 : t < i) (c4 : ∀ q, a ≤ q → q < f → pBot l far a i q = false) (c6 : ∀ q, t < q → q ≤ i - 1 → pBot l far a i q = false) : TBot l far a f t i := by
  obtain ⟨h1, q, h2, h3, h4⟩ := botF_is l ha
  have lo : ∀ q, a ≤ q → q < f → botF l a i + far < l q := fun q a0 a1 => by
    have := c4 q a0 a1; unfold pBot at this; rw [decide_eq_false_iff_not] at this; omega
  have hi : ∀ q, t < q → q < i → botF l a i + far < l q := fun q a0 a1 => by
    have := c6 q a0 (by omega); unfold pBot at this; rw [decide_eq_false_iff_not] at this; omega
  have qi : q ≠ i := fun e => by subst e; omega
  refine ⟨c0, c1, c2, _, q, h1, ?_, ?_, h4, by omega, lo, hi⟩
  · rcases Int.lt_or_le q f with e | e
    · have := lo q h2 e; omega
    · exact e
  · rcases Int.lt_or_le t q with e | e
    · have := hi q e (by omega); omega
    · exact e
/-- All turns are turns. -/
def TInv (l : Int → Int) (far : Int) (s : TS) (i : Int) : Prop := ∀ j, 0 ≤ j → j < s.n → s.g3 j < i ∧ ∃ a, 0 ≤ a ∧ (0 < j → a = s.g3 (j - 1)) ∧ ((s.g0 j = 1 ∧ TTop l far a (s.g1 j) (s.g2 j) (s.g3 j)) ∨ (s.g0 j = 0 ∧ TBot l far a (s.g1 j) (s.g2 j) (s.g3 j)))
theorem inv_turn {l : Int → Int} {far : Int} {s : TS} {i w f t b : Int} (ok : TOk s i) (h : TInv l far s i) (hb : (b = 1 ∧ TTop l far s.first f t i) ∨ (b = 0 ∧ TBot l far s.first f t i)) :
    TInv l far ⟨w, i, s.n + 1, upF s.g0 s.n b, upF s.g1 s.n f, upF s.g2 s.n t, upF s.g3 s.n i⟩ (i + 1) := by
  intro j j0 j1
  have j1 : j < s.n + 1 := j1
  show upF s.g3 s.n i j < i + 1 ∧ ∃ a, 0 ≤ a ∧ (0 < j → a = upF s.g3 s.n i (j - 1)) ∧ ((upF s.g0 s.n b j = 1 ∧ TTop l far a (upF s.g1 s.n f j) (upF s.g2 s.n t j) (upF s.g3 s.n i j)) ∨ (upF s.g0 s.n b j = 0 ∧ TBot l far a (upF s.g1 s.n f j) (upF s.g2 s.n t j) (upF s.g3 s.n i j)))
  by_cases e : j = s.n
  · subst e
    rw [upF_at, upF_at, upF_at, upF_at, upF_ne (by omega)]
    refine ⟨by omega, s.first, ok.fi.1, fun g => (ok.la g).1.symm, hb⟩
  · rw [upF_ne e, upF_ne e, upF_ne e, upF_ne e, upF_ne (by omega)]
    obtain ⟨k1, k2⟩ := h j j0 (by omega)
    exact ⟨by omega, k2⟩
theorem inv_same {l : Int → Int} {far : Int} {s : TS} {i w a : Int} (h : TInv l far s i) : TInv l far ⟨w, a, s.n, s.g0, s.g1, s.g2, s.g3⟩ (i + 1) := fun j j0 j1 => by
  obtain ⟨k1, k2⟩ := h j j0 j1
  exact ⟨by dsimp only; omega, k2⟩
theorem inv_stp {l : Int → Int} {far i : Int} {s : TS} (hf : 0 ≤ far) (ok : TOk s i) (h : TInv l far s i) (h0 : 0 ≤ i) : TInv l far (stp l far s i) (i + 1) := by
  have k1 := ok.fi
  unfold stp
  split
  · split
    · exact inv_same h
    · rename_i g
      obtain ⟨f, t, a, b, c, d1, d2, d3, d4, e1, e2⟩ := bot_turn k1.1 (by omega) hf g
      rw [e1, e2]
      exact inv_turn ok h (Or.inr ⟨rfl, bot_is hf (by omega) g a b c d2 d4⟩)
  · split
    · split
      · exact inv_same h
      · split
        · exact inv_same h
        · exact inv_same h
    · rename_i g
      split
      · obtain ⟨f, t, a, b, c, d1, d2, d3, d4, e1, e2⟩ := top_turn k1.1 (by omega) hf g
        rw [e1, e2]
        exact inv_turn ok h (Or.inl ⟨rfl, top_is hf (by omega) g a b c d2 d4⟩)
      · exact inv_same h
theorem ts_inv {l : Int → Int} {far : Int} (hf : 0 ≤ far) : ∀ k : Nat, TInv l far (ts l far k) k
  | 0 => fun j j0 j1 => by
    have j1 : j < (0 : Int) := j1
    omega
  | k + 1 => inv_stp (l := l) hf (ts_ok hf k) (ts_inv hf k) (by omega)
theorem sure_top {l tr : Int → Int} {d far a f t s fr b : Int} (T : TTop l far a f t s) (hd : far = 2 * d) (h0 : 0 ≤ d) (ht : ∀ q, a ≤ q → q ≤ s → l q - d ≤ tr q ∧ tr q ≤ l q + d) (hf : a ≤ fr ∧ fr ≤ f) (hb : fr ≤ b ∧ b ≤ s) (hm : ∀ q, fr ≤ q → q ≤ s → tr q ≤ tr b) : (f ≤ b ∧ b ≤ t) ∧ tr s < tr b := by
  obtain ⟨top, q0, e1, e2, e3, e4, e5, e6, e7⟩ := T.ex
  have k1 := T.ft; have k2 := T.tl; have k3 := T.af
  have m0 := hm q0 (by omega) (by omega)
  have t0 := ht q0 (by omega) (by omega)
  have tb := ht b (by omega) (by omega)
  have tsn := ht s (by omega) (by omega)
  refine ⟨⟨?_, ?_⟩, by omega⟩
  · rcases Int.lt_or_le b f with e | e
    · have := e6 b (by omega) e; omega
    · exact e
  · rcases Int.lt_or_le t b with e | e
    · by_cases g : b = s
      · subst g; omega
      · have := e7 b e (by omega); omega
    · exact e
theorem sure_bot {l tr : Int → Int} {d far a f t s fr b : Int} (T : TBot l far a f t s) (hd : far = 2 * d) (h0 : 0 ≤ d) (ht : ∀ q, a ≤ q → q ≤ s → l q - d ≤ tr q ∧ tr q ≤ l q + d) (hf : a ≤ fr ∧ fr ≤ f) (hb : fr ≤ b ∧ b ≤ s) (hm : ∀ q, fr ≤ q → q ≤ s → tr b ≤ tr q) : (f ≤ b ∧ b ≤ t) ∧ tr b < tr s := by
  obtain ⟨top, q0, e1, e2, e3, e4, e5, e6, e7⟩ := T.ex
  have k1 := T.ft; have k2 := T.tl; have k3 := T.af
  have m0 := hm q0 (by omega) (by omega)
  have t0 := ht q0 (by omega) (by omega)
  have tb := ht b (by omega) (by omega)
  have tsn := ht s (by omega) (by omega)
  refine ⟨⟨?_, ?_⟩, by omega⟩
  · rcases Int.lt_or_le b f with e | e
    · have := e6 b (by omega) e; omega
    · exact e
  · rcases Int.lt_or_le t b with e | e
    · by_cases g : b = s
      · subst g; omega
      · have := e7 b e (by omega); omega
    · exact e
end Go.Proofs.Ytiekcneeedifmaa.Gt
