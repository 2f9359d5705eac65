/- The symbolic machine's trees: a tree is right if the ways through one place of it are, and the others. -/
import Derived.Test.YtgdhpgjfebinhaaFvv
namespace Go.Proofs.Ytgdhpgjfebinhaa.Ev
set_option linter.unusedSimpArgs false
open Go Go.RowKit
set_option linter.unusedVariables false
set_option linter.unusedSectionVars false

/-- The ends of a loop without what comes behind them. -/
def Tr.blank : Tr → Tr
  | .ex r y _ rest => .ex r y .nil rest.blank
  | _ => .nil
/-- The ways that lead through this place. -/
def Tr.only : Tr → List Bool → Tr
  | .ite b t e, p => match p with
    | [] => .ite b t e
    | true :: p => .ite b (t.only p) .nil
    | false :: p => .ite b .nil (e.only p)
  | .call f x x' c t, p => .call f x x' c (t.only p)
  | .pcall f a r z t, p => .pcall f a r z (t.only p)
  | .rng i lo hi t, p => .rng i lo hi (t.only p)
  | .arng i lo hi t, p => .arng i lo hi (t.only p)
  | .whole i M t, p => .whole i M (t.only p)
  | .awhole i M t, p => .awhole i M (t.only p)
  | .fact b v t, p => .fact b v (t.only p)
  | .loop l b e, p => match p with
    | [] => .loop l b e
    | true :: p => .loop l (b.only p) e.blank
    | false :: p => .loop l .nil (e.only p)
  | .ex r y t e, p => match p with
    | [] => .ex r y t e
    | true :: p => .ex r y (t.only p) e.blank
    | false :: p => .ex r y .nil (e.only p)
  | .told l t, p => .told l (t.only p)
  | .jn l bs t, p => .jn l bs (t.only p)
  | t, _ => t
/-- The ways that don't. -/
def Tr.but : Tr → List Bool → Tr
  | .ite b t e, p => match p with
    | [] => .nil
    | true :: p => .ite b (t.but p) e
    | false :: p => .ite b t (e.but p)
  | .call f x x' c t, p => .call f x x' c (t.but p)
  | .pcall f a r z t, p => .pcall f a r z (t.but p)
  | .rng i lo hi t, p => .rng i lo hi (t.but p)
  | .arng i lo hi t, p => .arng i lo hi (t.but p)
  | .whole i M t, p => .whole i M (t.but p)
  | .awhole i M t, p => .awhole i M (t.but p)
  | .fact b v t, p => .fact b v (t.but p)
  | .loop l b e, p => match p with
    | [] => .nil
    | true :: p => .loop l (b.but p) e
    | false :: p => .loop l b (e.but p)
  | .ex r y t e, p => match p with
    | [] => (Tr.ex r y t e).blank
    | true :: p => .ex r y (t.but p) e
    | false :: p => .ex r y t (e.but p)
  | .told l t, p => .told l (t.but p)
  | .jn l bs t, p => .jn l bs (t.but p)
  | _, _ => .nil
theorem exits_blank : ∀ t : Tr, exitsOf t.blank = exitsOf t := by
  intro t
  induction t with
  | ex r y t e _ ih => simp only [Tr.blank, exitsOf, ih]
  | _ => rfl
theorem exits_only : ∀ (t : Tr) (p : List Bool), exitsOf (t.only p) = exitsOf t := by
  intro t
  induction t with
  | ex r y t e _ ih =>
    intro p
    match p with
    | [] => rfl
    | true :: p => simp only [Tr.only, exitsOf, exits_blank]
    | false :: p => simp only [Tr.only, exitsOf, ih]
  | ite b t e => intro p; match p with | [] => rfl | true :: p => rfl | false :: p => rfl
  | loop l b e => intro p; match p with | [] => rfl | true :: p => rfl | false :: p => rfl
  | _ => intro p; rfl
theorem exits_but : ∀ (t : Tr) (p : List Bool), exitsOf (t.but p) = exitsOf t := by
  intro t
  induction t with
  | ex r y t e _ ih =>
    intro p
    match p with
    | [] => simp only [Tr.but, exits_blank]
    | true :: p => simp only [Tr.but, exitsOf]
    | false :: p => simp only [Tr.but, exitsOf, ih]
  | ite b t e => intro p; match p with | [] => rfl | true :: p => rfl | false :: p => rfl
  | loop l b e => intro p; match p with | [] => rfl | true :: p => rfl | false :: p => rfl
  | _ => intro p; rfl
theorem chk_split {P : Program} {S : Facts} {lf d : Nat} : ∀ (t : Tr) (p : List Bool) {J : Job} {c : Ctx} {z : Sz}, (t.only p).chk P S lf d J c z = true → (t.but p).chk P S lf d J c z = true → t.chk P S lf d J c z = true := by
  intro t
  induction t with
  | ite b t e iht ihe =>
    intro p J c z h h'
    match p with
    | [] => exact h
    | true :: p =>
      simp only [Tr.only, Tr.but, Tr.chk, Bool.and_eq_true] at h h' ⊢
      exact ⟨h.1, iht p h.2.1 h'.2.1, h'.2.2⟩
    | false :: p =>
      simp only [Tr.only, Tr.but, Tr.chk, Bool.and_eq_true] at h h' ⊢
      exact ⟨h.1, h'.2.1, ihe p h.2.2 h'.2.2⟩
  | call f x x' ce t ih =>
    intro p J c z h h'
    simp only [Tr.only, Tr.but, Tr.chk, Bool.and_eq_true] at h h' ⊢
    exact ⟨h.1, h.2.1, h.2.2.1, h.2.2.2.1, h.2.2.2.2.1, h.2.2.2.2.2.1, ih p h.2.2.2.2.2.2 h'.2.2.2.2.2.2⟩
  | pcall f a r y t ih =>
    intro p J c z h h'
    simp only [Tr.only, Tr.but, Tr.chk, Bool.and_eq_true] at h h' ⊢
    exact ⟨h.1, h.2.1, ih p h.2.2 h'.2.2⟩
  | rng i lo hi t ih =>
    intro p J c z h h'
    simp only [Tr.only, Tr.but, Tr.chk, Bool.and_eq_true] at h h' ⊢
    exact ⟨h.1, ih p h.2 h'.2⟩
  | arng i lo hi t ih =>
    intro p J c z h h'
    simp only [Tr.only, Tr.but, Tr.chk, Bool.and_eq_true] at h h' ⊢
    exact ⟨h.1, ih p h.2 h'.2⟩
  | whole i M t ih =>
    intro p J c z h h'
    simp only [Tr.only, Tr.but, Tr.chk, Bool.and_eq_true] at h h' ⊢
    exact ⟨h.1, h.2.1, ih p h.2.2 h'.2.2⟩
  | awhole i M t ih =>
    intro p J c z h h'
    simp only [Tr.only, Tr.but, Tr.chk, Bool.and_eq_true] at h h' ⊢
    exact ⟨h.1, h.2.1, ih p h.2.2 h'.2.2⟩
  | fact b v t ih =>
    intro p J c z h h'
    simp only [Tr.only, Tr.but, Tr.chk, Bool.and_eq_true] at h h' ⊢
    exact ⟨h.1, ih p h.2 h'.2⟩
  | loop l b e ihb ihe =>
    intro p J c z h h'
    match p with
    | [] => exact h
    | true :: p =>
      simp only [Tr.only, Tr.but, Tr.chk, Bool.and_eq_true, exits_blank] at h h' ⊢
      exact ⟨h.1, ihb p h.2.1 h'.2.1, h'.2.2⟩
    | false :: p =>
      simp only [Tr.only, Tr.but, Tr.chk, Bool.and_eq_true, exits_only, exits_but] at h h' ⊢
      exact ⟨h.1, h'.2.1, ihe p h.2.2 h'.2.2⟩
  | ex r y t e iht ihe =>
    intro p J c z h h'
    match p with
    | [] => exact h
    | true :: p =>
      simp only [Tr.only, Tr.but, Tr.chk] at h h' ⊢
      cases hc : c.cur with
      | none => rw [hc] at h; cases h
      | some l =>
        rw [hc] at h h'
        simp only [Bool.and_eq_true] at h h' ⊢
        exact ⟨iht p h.1 h'.1, h'.2⟩
    | false :: p =>
      simp only [Tr.only, Tr.but, Tr.chk] at h h' ⊢
      cases hc : c.cur with
      | none => rw [hc] at h; cases h
      | some l =>
        rw [hc] at h h'
        simp only [Bool.and_eq_true] at h h' ⊢
        exact ⟨h'.1, ihe p h.2 h'.2⟩
  | told l t ih =>
    intro p J c z h h'
    simp only [Tr.only, Tr.but, Tr.chk, Bool.and_eq_true] at h h' ⊢
    exact ⟨h.1, ih p h.2 h'.2⟩
  | jn l bs t ih =>
    intro p J c z h h'
    simp only [Tr.only, Tr.but, Tr.chk, Bool.and_eq_true] at h h' ⊢
    exact ⟨h.1, ih p h.2 h'.2⟩
  | ret x r => intro p J c z h h'; exact h
  | next x r => intro p J c z h h'; exact h
  | out i x r => intro p J c z h h'; exact h
  | nil => intro p J c z h h'; exact h
end Go.Proofs.Ytgdhpgjfebinhaa.Ev
