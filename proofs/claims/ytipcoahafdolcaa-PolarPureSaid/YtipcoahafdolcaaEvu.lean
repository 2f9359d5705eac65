/- A tree's parts: the ways through one place of it, and the others. -/
import Derived.Test.YtipcoahafdolcaaEvr
namespace Go.Proofs.Ytipcoahafdolcaa.Ev
open Go Go.RowKit
/-- The ways that lead through this place. -/
def Tr.only : Tr → List Bool → Tr
  | .ite b t e, p => match p with
    | [] => .ite b t e
    | true :: p => .ite b (t.only p) .nil
    | false :: p => .ite b .nil (e.only p)
  | .call f a r k m t, p => .call f a r k m (t.only p)
  | .rng i lo hi t, p => .rng i lo hi (t.only p)
  | .whole i M t, p => .whole i M (t.only p)
  | .fact b v t, p => .fact b v (t.only p)
  | .told l t, p => .told l (t.only p)
  | .jn l bs t, p => .jn l bs (t.only p)
  | t, _ => t
/-- The ways that don't. -/
def Tr.but : Tr → List Bool → Tr
  | .ite b t e, p => match p with
    | [] => .nil
    | true :: p => .ite b (t.but p) e
    | false :: p => .ite b t (e.but p)
  | .call f a r k m t, p => .call f a r k m (t.but p)
  | .rng i lo hi t, p => .rng i lo hi (t.but p)
  | .whole i M t, p => .whole i M (t.but p)
  | .fact b v t, p => .fact b v (t.but p)
  | .told l t, p => .told l (t.but p)
  | .jn l bs t, p => .jn l bs (t.but p)
  | _, _ => .nil
theorem exN_or {K K1 K2 : List Int → Prop} (h : ∀ l, K l → K1 l ∨ K2 l) : ∀ {k : Nat}, exN k K → exN k K1 ∨ exN k K2
  | k, e => by
    induction k generalizing K K1 K2 with
    | zero => exact h [] e
    | succ k ih =>
      obtain ⟨x, e⟩ := e
      rcases ih (K1 := fun l => K1 (x :: l)) (K2 := fun l => K2 (x :: l)) (fun l hl => h (x :: l) hl) e with g | g
      · exact .inl ⟨x, g⟩
      · exact .inr ⟨x, g⟩
theorem exB_or {K K1 K2 : List Bool → Prop} (h : ∀ l, K l → K1 l ∨ K2 l) : ∀ {k : Nat}, exB k K → exB k K1 ∨ exB k K2
  | k, e => by
    induction k generalizing K K1 K2 with
    | zero => exact h [] e
    | succ k ih =>
      obtain ⟨x, e⟩ := e
      rcases ih (K1 := fun l => K1 (x :: l)) (K2 := fun l => K2 (x :: l)) (fun l hl => h (x :: l) hl) e with g | g
      · exact .inl ⟨x, g⟩
      · exact .inr ⟨x, g⟩
theorem split_vc {P : Program} {Q : Value → Prop} {N : List Int → List Bool → Prop} {O : Nat → List Int → List Bool → Prop} :
    ∀ (t : Tr) (p : List Bool) {L : List Int} {B : List Bool}, t.vc P Q N O none L B → (t.only p).vc P Q N O none L B ∨ (t.but p).vc P Q N O none L B := by
  intro t
  induction t with
  | ite b t e iht ihe =>
    intro p L B h
    cases p with
    | nil => exact .inl h
    | cons x p =>
      simp only [Tr.vc] at h
      cases x with
      | true =>
        cases hb : b.den (envL L B) with
        | true =>
          rcases iht p (h.1 hb) with g | g
          · left; simp only [Tr.only, Tr.vc]; exact ⟨fun _ => g, fun h => by simp [hb] at h⟩
          · right; simp only [Tr.but, Tr.vc]; exact ⟨fun _ => g, fun h => by simp [hb] at h⟩
        | false => right; simp only [Tr.but, Tr.vc]; exact ⟨fun h => by simp [hb] at h, h.2⟩
      | false =>
        cases hb : b.den (envL L B) with
        | false =>
          rcases ihe p (h.2 hb) with g | g
          · left; simp only [Tr.only, Tr.vc]; exact ⟨fun h => by simp [hb] at h, fun _ => g⟩
          · right; simp only [Tr.but, Tr.vc]; exact ⟨fun h => by simp [hb] at h, fun _ => g⟩
        | true => right; simp only [Tr.but, Tr.vc]; exact ⟨h.1, fun h => by simp [hb] at h⟩
  | call f a r k m t ih =>
    intro p L B h
    simp only [Tr.vc, Tr.only, Tr.but] at h ⊢
    refine exN_or (fun xs hx => exB_or (fun bs hb => ?_) hx) h
    rcases ih p hb.2 with g | g
    · exact .inl ⟨hb.1, g⟩
    · exact .inr ⟨hb.1, g⟩
  | rng i lo hi t ih =>
    intro p L B h
    simp only [Tr.vc, Tr.only, Tr.but] at h ⊢
    rcases ih p h.2 with g | g
    · exact .inl ⟨h.1, g⟩
    · exact .inr ⟨h.1, g⟩
  | whole i M t ih =>
    intro p L B h
    simp only [Tr.vc, Tr.only, Tr.but] at h ⊢
    obtain ⟨x, hx, h⟩ := h
    rcases ih p h with g | g
    · exact .inl ⟨x, hx, g⟩
    · exact .inr ⟨x, hx, g⟩
  | fact b v t ih =>
    intro p L B h
    simp only [Tr.vc, Tr.only, Tr.but] at h ⊢
    rcases ih p h.2 with g | g
    · exact .inl ⟨h.1, g⟩
    · exact .inr ⟨h.1, g⟩
  | told l t ih =>
    intro p L B h
    simp only [Tr.vc, Tr.only, Tr.but] at h ⊢
    rcases ih p h.2 with g | g
    · exact .inl ⟨h.1, g⟩
    · exact .inr ⟨h.1, g⟩
  | jn l bs t ih =>
    intro p L B h
    simp only [Tr.vc] at h
    rcases ih p h with g | g
    · exact .inl g
    · exact .inr g
  | leaf v => intro p L B h; exact .inl h
  | next ns bs => intro p L B h; exact .inl h
  | out i ns bs => intro p L B h; exact .inl h
  | loop l b e _ _ => intro p L B h; exact .inl h
  | ex r k m t rest _ _ => intro p L B h; exact .inl h
  | nil => intro p L B h; exact .inl h
end Go.Proofs.Ytipcoahafdolcaa.Ev
