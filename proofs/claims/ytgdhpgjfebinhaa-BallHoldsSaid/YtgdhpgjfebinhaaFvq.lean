/- The symbolic machine's loops: rounds that go from one environment to the next one. -/
import Derived.Test.YtgdhpgjfebinhaaFvp
namespace Go.Proofs.Ytgdhpgjfebinhaa.Ev
set_option linter.unusedSimpArgs false
open Go Go.RowKit
set_option linter.unusedVariables false
set_option linter.unusedSectionVars false
variable {P : Program} {ρ ρ' : Env} {Γ : Facts}
variable {ds : List Deferred}

/-- Two expressions that stand for the same, each in its environment. -/
inductive Pr where
  | num (x y : NE) | tru (x y : BE) | txt (i j : Nat) | arr (x y : NE)
def Pr.holds (ρ ρ' : Env) : Pr → Prop
  | .num x y => x.den ρ = y.den ρ'
  | .tru x y => x.den ρ = y.den ρ'
  | .txt i j => ρ.s i = ρ'.s j
  | .arr x y => x.aden ρ = y.aden ρ'
def All (ρ ρ' : Env) (l : List Pr) : Prop := ∀ p ∈ l, p.holds ρ ρ'
theorem All.left {l r : List Pr} (h : All ρ ρ' (l ++ r)) : All ρ ρ' l := fun p hp => h p (List.mem_append_left _ hp)
theorem All.right {l r : List Pr} (h : All ρ ρ' (l ++ r)) : All ρ ρ' r := fun p hp => h p (List.mem_append_right _ hp)

def prN (a b : NE) : List Pr := match a, b with
  | .lit x, .lit y => if x = y then [] else [.num (.lit x) (.lit y)]
  | a, b => [.num a b]
theorem prN_ok {a b : NE} (h : All ρ ρ' (prN a b)) : a.den ρ = b.den ρ' := by
  unfold prN at h
  split at h
  · split at h
    · rename_i e; rw [e]; rfl
    · exact h _ (List.mem_singleton.2 rfl)
  · exact h _ (List.mem_singleton.2 rfl)
def prB (a b : BE) : List Pr := match a, b with
  | .lit x, .lit y => if x = y then [] else [.tru (.lit x) (.lit y)]
  | a, b => [.tru a b]
theorem prB_ok {a b : BE} (h : All ρ ρ' (prB a b)) : a.den ρ = b.den ρ' := by
  unfold prB at h
  split at h
  · split at h
    · rename_i e; rw [e]; rfl
    · exact h _ (List.mem_singleton.2 rfl)
  · exact h _ (List.mem_singleton.2 rfl)

mutual
def prV : SV → SV → Option (List Pr)
  | .bool a, .bool b => some (prB a b)
  | .int k a, .int l b => if k = l then some (prN a b) else none
  | .float k a, .float l b => if k = l then some (prN a b) else none
  | .complex k a c, .complex l b d => if k = l then some (prN a b ++ prN c d) else none
  | .str a, .str b => if a = b then some [] else none
  | .strv i, .strv j => some [.txt i j]
  | .ptr a, .ptr b => if a = b then some [] else none
  | .slice a n c, .slice b m d => if a = b ∧ n = m ∧ c = d then some [] else none
  | .vec a n, .vec b m => if a = b ∧ n = m then some [] else none
  | .asl a n, .asl b m => if a = b then some (prN n m) else none
  | .eptr a i s c, .eptr b j u d => if a = b ∧ s = u ∧ c = d then some (prN i j) else none
  | .yld a, .yld b => if a = b then some [] else none
  | .vsl a s l n, .vsl b t k m => if a = b ∧ s = t ∧ l = k ∧ n = m then some [] else none
  | .rsl a s l n, .rsl b t k m => if a = b ∧ s = t then some (prN l k ++ prN n m) else none
  | .strn a, .strn b => some (prN a b)
  | .func f a c, .func g b d => if f = g then (match prL a b, prL c d with
    | some x, some y => some (x ++ y)
    | _, _ => none) else none
  | .nilFunc, .nilFunc => some []
  | .nilIface, .nilIface => some []
  | .iface t a, .iface u b => if t = u then prV a b else none
  | .agg a, .agg b => prL a b
  | .tuple a, .tuple b => prL a b
  | _, _ => none
def prL : List SV → List SV → Option (List Pr)
  | [], [] => some []
  | a :: l, b :: r => (match prV a b, prL l r with
    | some x, some y => some (x ++ y)
    | _, _ => none)
  | _, _ => none
end
mutual
theorem prV_ok (σ : Sg) : ∀ (a b : SV) (l : List Pr), prV a b = some l → All ρ ρ' l → a.den ρ σ = b.den ρ' σ
  | .bool a, b, l, h, hl => by
    cases b <;> simp only [prV] at h <;> try (cases h; done)
    cases h; simp only [SV.den, prB_ok hl]
  | .int k a, b, l, h, hl => by
    cases b <;> simp only [prV] at h <;> try (cases h; done)
    split at h
    · rename_i e; cases h; simp only [SV.den, e, prN_ok hl]
    · cases h
  | .float k a, b, l, h, hl => by
    cases b <;> simp only [prV] at h <;> try (cases h; done)
    split at h
    · rename_i e; cases h; simp only [SV.den, e, prN_ok hl]
    · cases h
  | .complex k a c, b, l, h, hl => by
    cases b <;> simp only [prV] at h <;> try (cases h; done)
    split at h
    · rename_i e; cases h; simp only [SV.den, e, prN_ok hl.left, prN_ok hl.right]
    · cases h
  | .str a, b, l, h, hl => by
    cases b <;> simp only [prV] at h <;> try (cases h; done)
    split at h
    · rename_i e; simp only [SV.den, e]
    · cases h
  | .strv i, b, l, h, hl => by
    cases b <;> simp only [prV] at h <;> try (cases h; done)
    cases h
    have := hl _ (List.mem_singleton.2 rfl)
    simp only [SV.den]; exact congrArg Value.string this
  | .ptr a, b, l, h, hl => by
    cases b <;> simp only [prV] at h <;> try (cases h; done)
    split at h
    · rename_i e; simp only [SV.den, e]
    · cases h
  | .slice a n c, b, l, h, hl => by
    cases b <;> simp only [prV] at h <;> try (cases h; done)
    split at h
    · rename_i e; simp only [SV.den, e.1, e.2.1, e.2.2]
    · cases h
  | .vec a n, b, l, h, hl => by
    cases b <;> simp only [prV] at h <;> try (cases h; done)
    split at h
    · rename_i e; simp only [SV.den, e.1, e.2]
    · cases h
  | .asl a n, b, l, h, hl => by
    cases b <;> simp only [prV] at h <;> try (cases h; done)
    split at h
    · rename_i e; cases h; simp only [SV.den, e, prN_ok hl]
    · cases h
  | .yld a, b, l, h, hl => by
    cases b <;> simp only [prV] at h <;> try (cases h; done)
    split at h
    · rename_i e; simp only [SV.den, e]
    · cases h
  | .rsl a s k n, b, l, h, hl => by
    cases b <;> simp only [prV] at h <;> try (cases h; done)
    split at h
    · rename_i e; cases h; simp only [SV.den, e.1, e.2, prN_ok hl.left, prN_ok hl.right]
    · cases h
  | .vsl a s k n, b, l, h, hl => by
    cases b <;> simp only [prV] at h <;> try (cases h; done)
    split at h
    · rename_i e; simp only [SV.den, e.1, e.2.1, e.2.2.1, e.2.2.2]
    · cases h
  | .eptr a i s c, b, l, h, hl => by
    cases b <;> simp only [prV] at h <;> try (cases h; done)
    split at h
    · rename_i e; cases h; simp only [SV.den, e.1, e.2.1, e.2.2, prN_ok hl]
    · cases h
  | .strn a, b, l, h, hl => by
    cases b <;> simp only [prV] at h <;> try (cases h; done)
    cases h
    simp only [SV.den, prN_ok hl]
  | .func f a c, b, l, h, hl => by
    cases b <;> simp only [prV] at h <;> try (cases h; done)
    split at h
    · rename_i e
      split at h
      · rename_i x y hx hy
        cases h
        simp only [SV.den, e, prL_ok σ _ _ _ hx hl.left, prL_ok σ _ _ _ hy hl.right]
      · cases h
    · cases h
  | .nilFunc, b, l, h, hl => by cases b <;> simp only [prV] at h <;> first | rfl | (cases h; done)
  | .nilIface, b, l, h, hl => by cases b <;> simp only [prV] at h <;> first | rfl | (cases h; done)
  | .iface t a, b, l, h, hl => by
    cases b <;> simp only [prV] at h <;> try (cases h; done)
    split at h
    · rename_i e; simp only [SV.den, e, prV_ok σ _ _ _ h hl]
    · cases h
  | .agg a, b, l, h, hl => by
    cases b <;> simp only [prV] at h <;> try (cases h; done)
    simp only [SV.den, prL_ok σ _ _ _ h hl]
  | .tuple a, b, l, h, hl => by
    cases b <;> simp only [prV] at h <;> try (cases h; done)
    simp only [SV.den, prL_ok σ _ _ _ h hl]
  | .any i, b, l, h, hl => by cases b <;> simp only [prV] at h <;> cases h
theorem prL_ok (σ : Sg) : ∀ (a b : List SV) (l : List Pr), prL a b = some l → All ρ ρ' l → denL ρ σ a = denL ρ' σ b
  | [], [], l, h, hl => rfl
  | a :: r, b :: s, l, h, hl => by
    simp only [prL] at h
    split at h
    · rename_i x y hx hy
      cases h
      simp only [denL, prV_ok σ _ _ _ hx hl.left, prL_ok σ _ _ _ hy hl.right]
    · cases h
  | [], _ :: _, l, h, hl => by simp [prL] at h
  | _ :: _, [], l, h, hl => by simp [prL] at h
end

/-- Slots: what is not told is left. -/
def prT : List SV → List SV → Option (List Pr)
  | [], [] => some []
  | a :: l, b :: r => if b.isAny then prT l r else (match prV a b, prT l r with
    | some x, some y => some (x ++ y)
    | _, _ => none)
  | _, _ => none
theorem prT_ok (σ : Sg) : ∀ {T U : List SV} {l : List Pr}, prT T U = some l → All ρ ρ' l → U.length = T.length ∧ ∀ t, (U.getD t uS).isAny = false → (T.getD t uS).isAny = false ∧ (T.getD t uS).den ρ σ = (U.getD t uS).den ρ' σ
  | [], [], l, h, hl => ⟨rfl, fun t _ => ⟨rfl, rfl⟩⟩
  | a :: T, b :: U, l, h, hl => by
    simp only [prT] at h
    split at h
    · rename_i hb
      obtain ⟨e, f⟩ := prT_ok σ h hl
      refine ⟨by simp [e], fun t ht => ?_⟩
      cases t with
      | zero => simp at ht; rw [hb] at ht; cases ht
      | succ t => exact f t ht
    · split at h
      · rename_i x y hx hy
        cases h
        obtain ⟨e, f⟩ := prT_ok σ hy hl.right
        refine ⟨by simp [e], fun t ht => ?_⟩
        cases t with
        | zero =>
          refine ⟨?_, prV_ok σ _ _ _ hx hl.left⟩
          show a.isAny = false
          cases a <;> first | rfl | (simp only [prV] at hx; cases hx)
        | succ t => exact f t ht
      · cases h
  | [], _ :: _, l, h, hl => by simp [prT] at h
  | _ :: _, [], l, h, hl => by simp [prT] at h

/-- Columns of rows. -/
def prC : List NE → List NE → Option (List Pr)
  | [], [] => some []
  | a :: l, b :: r => (prC l r).map (.arr a b :: ·)
  | _, _ => none
theorem prC_ok : ∀ {l r : List NE} {p : List Pr}, prC l r = some p → All ρ ρ' p → l.length = r.length ∧ ∀ j (s : List CK), cellsV ρ j s l = cellsV ρ' j s r
  | [], [], p, h, hl => ⟨rfl, fun j s => by cases s with | nil => simp [cellsV] | cons k s => cases k <;> simp [cellsV]⟩
  | [], _ :: _, p, h, hl => by simp [prC] at h
  | _ :: _, [], p, h, hl => by simp [prC] at h
  | a :: l, b :: r, p, h, hl => by
    simp only [prC] at h
    obtain ⟨q, hq, rfl⟩ := Option.map_eq_some_iff.1 h
    have e : a.aden ρ = b.aden ρ' := hl _ (List.mem_cons_self ..)
    obtain ⟨h1, h2⟩ := prC_ok hq fun x hx => hl x (List.mem_cons_of_mem _ hx)
    refine ⟨by simp [h1], fun j s => ?_⟩
    cases s with
    | nil => simp [cellsV]
    | cons k s =>
      cases k with
      | complex k =>
        cases l with
        | nil =>
          cases r with
          | nil => simp [cellsV]
          | cons _ _ => simp at h1
        | cons c l =>
          cases r with
          | nil => simp at h1
          | cons d r =>
            simp only [prC] at hq
            obtain ⟨q', hq', rfl⟩ := Option.map_eq_some_iff.1 hq
            have e' : c.aden ρ = d.aden ρ' := hl _ (List.mem_cons_of_mem _ (List.mem_cons_self ..))
            obtain ⟨_, h3⟩ := prC_ok hq' fun x hx => hl x (List.mem_cons_of_mem _ (List.mem_cons_of_mem _ hx))
            simp only [cellsV, e, e', h3]
      | int k => simp only [cellsV, e, h2]
      | float k => simp only [cellsV, e, h2]
      | bool => simp only [cellsV, e, h2]
      | str => simp only [cellsV, e, h2]
def prA : Option Abs → Option Abs → Option (List Pr)
  | none, none => some []
  | some A, some B => if A.sh = B.sh then (prC A.cols B.cols).map fun p => prN A.n B.n ++ p else none
  | _, _ => none
theorem getD_den {ρ ρ' : Env} {σ τ : Sg} {l r : List SV} (h : denL ρ σ l = denL ρ' τ r) (t : Nat) : (l.getD t uS).den ρ σ = (r.getD t uS).den ρ' τ := by
  have hl : l.length = r.length := by have := congrArg List.length h; simpa [denL_length] using this
  rw [denL_map, denL_map] at h
  have h1 := congrArg (fun l => l[t]?) h
  simp only [List.getElem?_map] at h1
  rw [List.getD_eq_getElem?_getD, List.getD_eq_getElem?_getD]
  cases e : l[t]? with
  | none =>
    have : r[t]? = none := List.getElem?_eq_none (by have := List.getElem?_eq_none_iff.1 e; omega)
    rw [this]; rfl
  | some v =>
    rw [e] at h1
    cases e' : r[t]? with
    | none => rw [e'] at h1; simp at h1
    | some u => rw [e'] at h1; simpa using h1
/-- What is asked of two records. -/
def RecEq (ρ ρ' : Env) (σ τ : Sg) (l r : List SV) : Prop := ((l.getD 0 uS).isAny = false → (r.getD 0 uS).isAny = false) ∧ ∀ t, (r.getD t uS).isAny = false → (l.getD t uS).isAny = false ∧ (l.getD t uS).den ρ σ = (r.getD t uS).den ρ' τ
theorem RecAt.conv {σ τ : Sg} {x y : Blk} {p : Pl} {w : World} (h : RecAt P ρ σ x p w) (he : x.elem = y.elem) (hl : x.cells.length = y.cells.length) (hr : RecEq ρ ρ' σ τ x.cells y.cells) : RecAt P ρ' τ y p w := by
  obtain ⟨g, r, gg, st, v0, T, h1, h2, h3, h4, h5, h6, h7, h8⟩ := h
  obtain ⟨q1, q2⟩ := hr
  rw [h3] at hl q1 q2
  cases hy : y.cells with
  | nil => rw [hy] at hl; simp at hl
  | cons u0 U =>
    rw [hy] at hl q1 q2
    have g0 := q1 h4
    obtain ⟨_, g1⟩ := q2 0 g0
    refine ⟨g, r, gg, st, u0, U, h1, by rw [← he]; exact h2, hy, g0, ?_, h6, by simp at hl; omega, fun t v hv hn => ?_⟩
    · exact g1.symm.trans h5
    · have e : U.getD t uS = v := by rw [List.getD_eq_getElem?_getD, hv]; rfl
      obtain ⟨k1, k2⟩ := q2 (t + 1) (by rw [List.getD_cons_succ, e]; exact hn)
      have e2 : (u0 :: U).getD (t + 1) uS = v := by rw [List.getD_cons_succ, e]
      have e3 : (v0 :: T).getD (t + 1) uS = T.getD t uS := List.getD_cons_succ
      rw [e2, e3] at k2
      rw [e3] at k1
      have hlt : t < T.length := by
        have := (List.getElem?_eq_some_iff.1 hv).1
        simp at hl; omega
      have e4 : T[t]? = some (T.getD t uS) := by rw [List.getD_eq_getElem?_getD, List.getElem?_eq_getElem hlt]; rfl
      rw [h8 t _ e4 k1, k2]
/-- The same block, over another environment. -/
structure SameBlk (ρ ρ' : Env) (σ : Sg) (x y : Blk) : Prop where
  elem : x.elem = y.elem
  opn : x.opn = y.opn
  ro : x.ro = y.ro
  len : x.cells.length = y.cells.length
  den : y.isRec = false → denL ρ σ x.cells = denL ρ' σ y.cells
  rcd : y.isRec = true → RecEq ρ ρ' σ σ x.cells y.cells
  none_ : y.abs = none → x.abs = none
  some_ : ∀ B, y.abs = some B → ∃ A, x.abs = some A ∧ A.sh = B.sh ∧ A.n.den ρ = B.n.den ρ' ∧ A.cols.length = B.cols.length ∧ ∀ j s, cellsV ρ j s A.cols = cellsV ρ' j s B.cols
theorem SameBlk.shd {σ : Sg} {x y : Blk} (h : SameBlk ρ ρ' σ x y) : x.shd = y.shd := by
  unfold Blk.shd
  rw [h.ro]
  cases hy : y.abs with
  | none => rw [h.none_ hy]
  | some B => obtain ⟨A, hA, _⟩ := h.some_ B hy; rw [hA]; rfl
theorem SameBlk.isRec {σ : Sg} {x y : Blk} (h : SameBlk ρ ρ' σ x y) : x.isRec = y.isRec := by
  unfold Blk.isRec
  rw [h.ro, h.opn]
  cases hy : y.abs with
  | none => rw [h.none_ hy]
  | some B => obtain ⟨A, hA, _⟩ := h.some_ B hy; rw [hA]; rfl
theorem SameBlk.at_ {σ : Sg} {x y : Blk} (h : SameBlk ρ ρ' σ x y) {p : Pl} {w : World} (hx : BlkAt P ρ σ x p w) : BlkAt P ρ' σ y p w := by
  refine ⟨fun hy hn => ?_, fun B hB => ?_, fun hrc => (hx.rcd (by rw [h.isRec]; exact hrc)).conv h.elem h.len (h.rcd hrc)⟩
  · obtain ⟨g1, g2, rest, fr, g3, g4, g5, g6⟩ := hx.con (h.none_ hy) (by rw [h.isRec]; exact hn)
    exact ⟨g1, g2, rest, fr, by rw [← h.den hn, ← h.elem]; exact g3, by rw [← h.opn, ← h.ro]; exact g4, by rw [← h.opn, ← h.len, ← h.elem]; exact g5, by rw [← h.ro]; exact g6⟩
  · obtain ⟨A, hA, e1, e2, e3, e4⟩ := h.some_ B hB
    obtain ⟨g1, g2, g3, g4, g5⟩ := hx.row A hA
    refine ⟨by rw [← e2]; exact g1, by rw [← e1]; exact fitC_len2 _ _ _ g2 e3.symm, (fun a ha => by rw [← e2]; exact g3 a ha), (fun hg => ?_), (fun hg => by rw [← e2]; exact g5 hg)⟩
    obtain ⟨c, t, fr, k1, k2, k3⟩ := g4 hg
    refine ⟨c, t, fr, k1, fun j i hj hi => ?_, fun hro => ?_⟩
    · rw [← e1, ← e4]; exact k2 j i (by rw [e2]; exact hj) (by rw [e1]; exact hi)
    · obtain ⟨l1, l2, l3, l4, l5, l6⟩ := k3 (by rw [h.ro]; exact hro)
      exact ⟨by rw [← h.elem]; exact l1, l2, l3, by rw [← h.elem]; exact l4, by rw [← h.elem, ← e1]; exact l5, by rw [← e2]; exact l6⟩
/-- Blocks: the second row may be shorter, and tell less. -/
def prB1 (x y : Blk) : Option (List Pr) := if x.elem = y.elem ∧ x.opn = y.opn ∧ x.ro = y.ro ∧ x.cells.length = y.cells.length then (match (if y.isRec then (if (y.cells.getD 0 uS).isAny then none else prT x.cells y.cells) else prL x.cells y.cells), prA x.abs y.abs with
  | some p, some q => some (p ++ q)
  | _, _ => none) else none
theorem prB1_ok (σ : Sg) {x y : Blk} {l : List Pr} (h : prB1 x y = some l) (hl : All ρ ρ' l) : SameBlk ρ ρ' σ x y := by
  unfold prB1 at h
  split at h
  · rename_i e
    split at h
    · rename_i p q hp hq
      cases h
      refine ⟨e.1, e.2.1, e.2.2.1, e.2.2.2, (fun hn => by rw [hn] at hp; exact prL_ok σ _ _ _ hp hl.left), (fun hn => ?_), fun hy => ?_, fun B hB => ?_⟩
      · rw [hn] at hp
        simp only [if_true] at hp
        split at hp
        · cases hp
        · rename_i h0
          exact ⟨fun _ => by simpa using h0, (prT_ok σ hp hl.left).2⟩
      · rw [hy] at hq
        cases hx : x.abs with
        | none => rfl
        | some A => rw [hx] at hq; simp [prA] at hq
      · rw [hB] at hq
        cases hx : x.abs with
        | none => rw [hx] at hq; simp [prA] at hq
        | some A =>
          rw [hx] at hq
          simp only [prA] at hq
          split at hq
          · rename_i es
            obtain ⟨r, hr, rfl⟩ := Option.map_eq_some_iff.1 hq
            have := prC_ok hr hl.right.right
            exact ⟨A, rfl, es, prN_ok hl.right.left, this.1, this.2⟩
          · cases hq
    · cases h
  · cases h
def prH : Hp → Hp → Option (List Pr)
  | _, [] => some []
  | [], none :: r => prH [] r
  | _ :: l, none :: r => prH l r
  | some x :: l, some y :: r => (match prB1 x y, prH l r with
    | some p, some q => some (p ++ q)
    | _, _ => none)
  | _, _ => none
theorem prH_ok (σ : Sg) : ∀ {H K : Hp} {l : List Pr}, prH H K = some l → All ρ ρ' l → ∀ (b : Nat) (y : Blk), K[b]? = some (some y) → ∃ x : Blk, H[b]? = some (some x) ∧ SameBlk ρ ρ' σ x y
  | _, [], l, h, hl, b, y, hb => by simp at hb
  | [], none :: r, l, h, hl, b, y, hb => by
    unfold prH at h
    cases b with
    | zero => simp at hb
    | succ b =>
      obtain ⟨x, hx, _⟩ := prH_ok σ h hl b y (by simpa using hb)
      simp at hx
  | _ :: H, none :: r, l, h, hl, b, y, hb => by
    unfold prH at h
    cases b with
    | zero => simp at hb
    | succ b => exact prH_ok σ h hl b y (by simpa using hb)
  | some x :: H, some z :: r, l, h, hl, b, y, hb => by
    simp only [prH] at h
    split at h
    · rename_i p q hp hq
      cases h
      cases b with
      | zero =>
        simp at hb; subst hb
        exact ⟨x, rfl, prB1_ok σ hp hl.left⟩
      | succ b => exact prH_ok σ hq hl.right b y (by simpa using hb)
    · cases h
  | none :: _, some _ :: _, l, h, hl, b, y, hb => by simp [prH] at h
  | [], some _ :: _, l, h, hl, b, y, hb => by simp [prH] at h

def sameO : Option (Option Blk) → Option (Option Blk) → Bool
  | none, none => true
  | some none, some none => true
  | some (some x), some (some y) => sameB x y
  | _, _ => false
theorem sameO_eq {x y : Option (Option Blk)} (h : sameO x y = true) : x = y := by
  unfold sameO at h
  split at h
  · rfl
  · rfl
  · rw [sameB_eq h]
  · cases h

/-- From one place to another one, over two environments. -/
def Leads2 (P : Program) (ρ ρ' : Env) (c : Code) (T : List SV) (H : Hp) (r : Res) : Prop :=
  ∀ (ro : Option Nat) (m B : Nat) (ds : List Deferred) (σ : Sg) (a : Act) (w : World) (Q : Exit → Act → World → Prop), TRel ds ρ σ H.length T a → HRel P ρ σ H w → Marks ro B ds w →
    (∀ ds' σ' a' w', Post P ρ' σ σ' H r.2.2.1 r.2.2.2 w w' → TRel ds' ρ' σ' r.2.2.1.length r.2.1 a' → Marks ro B ds' w' → Q r.1.out a' w') → c.wpIn (Rn ro) m P Q a w

def fitsH (n : Nat) (T : List SV) (H : Hp) : Bool := insideL n T && H.all fun x => match x with
  | some x => insideL n x.cells
  | none => true
theorem fitsH_ok {n : Nat} {T : List SV} {H : Hp} (h : fitsH n T H = true) : insideL n T = true ∧ ∀ (b : Nat) (x : Blk), H[b]? = some (some x) → insideL n x.cells = true := by
  simp only [fitsH, Bool.and_eq_true] at h
  refine ⟨h.1, fun b x hb => ?_⟩
  have := List.all_eq_true.1 h.2 _ (List.mem_of_getElem? hb)
  simpa using this
/-- What is told behind may be less. -/
def okC (H H1 : Hp) (W1 : List Nat) (T2 : List SV) (H2 : Hp) (W2 : List Nat) : Bool :=
  decide (H.length ≤ H2.length) && (decide (H2.length ≤ H1.length) && (fitsH H2.length T2 H2 && (W1.all (fun b => decide (H.length ≤ b) || W2.contains b) && (List.range H.length).all fun b => W2.contains b || sameO H2[b]? H[b]?)))

theorem Leads.conv {c : Code} {T : List SV} {H : Hp} {e : Ex} {T1 : List SV} {H1 : Hp} {W1 : List Nat} (h : Leads P ρ c T H (e, T1, H1, W1)) {T2 : List SV} {H2 : Hp} {W2 : List Nat} {l1 l2 : List Pr}
    (hT : prT T1 T2 = some l1) (hH : prH H1 H2 = some l2) (ho : okC H H1 W1 T2 H2 W2 = true) (h1 : All ρ ρ' l1) (h2 : All ρ ρ' l2) : Leads2 P ρ ρ' c T H (e, T2, H2, W2) := by
  intro ro m B ds σ a w Q hTr hr hM hQ
  simp only [okC, Bool.and_eq_true, decide_eq_true_eq] at ho
  obtain ⟨o1, o2, o3, o4, o5⟩ := ho
  obtain ⟨f1, f2⟩ := fitsH_ok o3
  have hW : ∀ b ∈ W1, b < H.length → b ∈ W2 := fun b hb hlt => by
    have := List.all_eq_true.1 o4 b hb
    simp only [Bool.or_eq_true, decide_eq_true_eq] at this
    rcases this with h | h
    · omega
    · simpa using h
  refine h ro m B ds σ a w _ hTr hr hM fun ds' σ' a' w' hp ht hM' => hQ ds' σ' a' w' ⟨hp.ext, o1, ⟨fun b y hb => ?_, fun b b' y y' hb hb' hs hg hg' he => ?_⟩, fun b q1 q2 hg => ?_, hp.os, hp.tape, hp.out, hp.size, hp.kd, fun k hk hb => hp.frame k hk fun b hb' hlt => hb b (hW b hb' hlt) hlt, fun b hb hn => ?_⟩ ⟨fun t ht' => ?_, fun v hv => insideL_mem f1 hv, ?_, ht.defers⟩ hM'
  · obtain ⟨x, hx, hsb⟩ := prH_ok σ' hH h2 b y hb
    exact ⟨f2 b y hb, hsb.at_ (hp.rel.blk b x hx).2⟩
  · obtain ⟨x, hx, hsb⟩ := prH_ok σ' hH h2 b y hb
    obtain ⟨x', hx', hsb'⟩ := prH_ok σ' hH h2 b' y' hb'
    exact hp.rel.inj b b' x x' hx hx' (by rw [hsb.shd, hsb'.shd]; exact hs) hg hg' he
  · exact (hp.new b q1 (Nat.lt_of_lt_of_le q2 o2) hg).imp id fun ⟨c, hc, h3, h4⟩ => ⟨c, hW c hc h3, h3, h4⟩
  · have := List.all_eq_true.1 o5 b (List.mem_range.2 hb)
    simp only [Bool.or_eq_true] at this
    rcases this with h | h
    · exact absurd (by simpa using h) hn
    · exact sameO_eq h
  · obtain ⟨_, f⟩ := prT_ok (ρ := ρ) (ρ' := ρ') σ' hT h1
    obtain ⟨g1, g2⟩ := f t ht'
    rw [ht.val t g1, g2]
  · obtain ⟨g, _⟩ := prT_ok (ρ := ρ) (ρ' := ρ') σ' hT h1
    rw [ht.size, g]

/-- One run of a loop's body: what has to be shown of the numbers behind it. -/
def step (P : Program) (Γ : Facts) (Λ : List LoopF) (lf d : Nat) (f : FuncId) (p : List Nat) (T : List SV) (H : Hp) (r : Res) : Option (List Pr) := match codeAt P f (0 :: p) with
  | some x => (match evC P Γ Λ lf (evF P Γ Λ lf d) f 1000 (0 :: p) x T H with
    | some (e, T1, H1, W1) => if decide (e = r.1) && okC H H1 W1 r.2.1 r.2.2.1 r.2.2.2 then (match prT T1 r.2.1, prH H1 r.2.2.1 with
      | some l1, some l2 => some (l1 ++ l2)
      | _, _ => none) else none
    | none => none)
  | none => none
theorem step_ok (hm : P.follows .mixedOrders = true) (hn : namesOk P = true) (hΓ : Γ.Holds P ρ) {Λ : List LoopF} (hΛ : ∀ l ∈ Λ, l.Ok P ρ) {lf d : Nat} {f : FuncId} {p : List Nat} {T : List SV} {H : Hp} {r : Res} {l : List Pr}
    (h : step P Γ Λ lf d f p T H r = some l) (hl : All ρ ρ' l) : ∀ x, codeAt P f p = some (.loop x) → Leads2 P ρ ρ' x T H r := by
  intro x hx
  have hx' : codeAt P f (0 :: p) = some x := codeAt_child hx rfl
  unfold step at h
  rw [hx'] at h
  simp only at h
  split at h
  · rename_i e T1 H1 W1 he
    split at h
    · rename_i ho
      simp only [Bool.and_eq_true, decide_eq_true_eq] at ho
      split at h
      · rename_i l1 l2 q1 q2
        cases h
        have := (evC_ok hm hn hΓ hΛ (evF_ok hm hn hΓ hΛ d) _ _ _ _ _ _ hx' he).conv q1 q2 ho.2 hl.left hl.right
        obtain ⟨r1, r2, r3, r4⟩ := r
        obtain ⟨h1, h2⟩ := ho
        simp only at h1
        subst h1
        exact this
      · cases h
    · cases h
  · cases h

/-- A loop: each round goes on to another environment, of lower rank, or leads out. -/
theorem loop_ok {x : Code} {ι : Type} {env : ι → Env} {good : ι → Prop} (rk : ι → Nat) {T : List SV} {H : Hp} {r : Res} (hr1 : r.1 ≠ .normal)
    (hs : ∀ i, good i → (∃ j, good j ∧ rk j < rk i ∧ Leads2 P (env i) (env j) x T H (.normal, T, H, r.2.2.2)) ∨ Leads2 P (env i) ρ x T H r) : ∀ i, good i → Leads2 P (env i) ρ (.loop x) T H r := by
  have key : ∀ (n : Nat) (i : ι), good i → rk i < n → ∀ (ro : Option Nat) (m B : Nat) (ds : List Deferred) (σ : Sg) (a : Act) (w : World) (Q : Exit → Act → World → Prop), TRel ds (env i) σ H.length T a → HRel P (env i) σ H w → Marks ro B ds w →
      (∀ ds' σ' a' w', Post P ρ σ σ' H r.2.2.1 r.2.2.2 w w' → TRel ds' ρ σ' r.2.2.1.length r.2.1 a' → Marks ro B ds' w' → Q r.1.out a' w') → Code.roundsIn (Rn ro) m P x Q n a w := by
    intro n
    induction n with
    | zero => intro i _ h; omega
    | succ n ih =>
      intro i hi hn ro m B ds σ a w Q hT hr hM hQ
      rw [roundsIn_succ]
      rcases hs i hi with ⟨j, hj, hlt, hL⟩ | hL
      · refine hL ro m B ds σ a w _ hT hr hM fun ds1 σ1 a1 w1 hp hT1 hM1 => ?_
        refine ih j hj (by omega) ro m B ds1 σ1 a1 w1 Q hT1 hp.rel hM1 fun ds' σ' a' w' hp' hT' hM' => hQ ds' σ' a' w' ?_ hT' hM'
        exact (hp.trans hp').mono fun b hb => (List.mem_append.1 hb).elim id id
      · refine hL ro m B ds σ a w _ hT hr hM fun ds' σ' a' w' hp hT' hM' => ?_
        have := hQ ds' σ' a' w' hp hT' hM'
        cases h : r.1 with
        | normal => exact absurd h hr1
        | exit id => rw [h] at this; exact this
        | ret => rw [h] at this; exact this
  intro i hi ro m B ds σ a w Q hT hr hM hQ
  exact wpIn_loop_rounds _ (key (rk i + 1) i hi (Nat.lt_succ_self _) ro m B ds σ a w Q hT hr hM hQ)

/-- The entry of a loop: what is there stands for the first round's. -/
def entry (T0 : List SV) (H0 : Hp) (T : List SV) (H : Hp) (W : List Nat) : Option (List Pr) :=
  if decide (H0.length = H.length) && (fitsH H.length T H && (List.range H.length).all fun b => W.contains b || sameO H[b]? H0[b]?) then (match prT T0 T, prH H0 H with
    | some l1, some l2 => some (l1 ++ l2)
    | _, _ => none) else none
theorem entry_ok {c : Code} {T0 T : List SV} {H0 H : Hp} {r : Res} {l : List Pr} (h : entry T0 H0 T H r.2.2.2 = some l) (hl : All ρ ρ' l) (hL : Leads2 P ρ' ρ c T H r) : Leads P ρ c T0 H0 r := by
  unfold entry at h
  split at h
  · rename_i ho
    simp only [Bool.and_eq_true, decide_eq_true_eq] at ho
    obtain ⟨o1, o2, o3⟩ := ho
    obtain ⟨f1, f2⟩ := fitsH_ok o2
    split at h
    · rename_i l1 l2 q1 q2
      cases h
      intro ro m B ds σ a w Q hTr hr hM hQ
      have e := prT_ok (ρ := ρ) (ρ' := ρ') σ q1 hl.left
      have e2 := prH_ok (ρ := ρ) (ρ' := ρ') σ q2 hl.right
      refine hL ro m B ds σ a w Q ⟨fun t ht => ?_, fun v hv => insideL_mem f1 hv, by rw [hTr.size, e.1], hTr.defers⟩ ⟨fun b y hb => ?_, fun b b' y y' hb hb' hs hg hg' he => ?_⟩ hM fun ds' σ' a' w' hp hT' hM' => hQ ds' σ' a' w' ⟨by rw [o1]; exact hp.ext, by rw [o1]; exact hp.len, hp.rel, by rw [o1]; exact hp.new, hp.os, hp.tape, hp.out, hp.size, hp.kd, by rw [o1]; exact hp.frame, fun b hb hn => ?_⟩ hT' hM'
      · obtain ⟨g1, g2⟩ := e.2 t ht
        rw [hTr.val t g1, g2]
      · obtain ⟨x, hx, hsb⟩ := e2 b y hb
        exact ⟨f2 b y hb, hsb.at_ (hr.blk b x hx).2⟩
      · obtain ⟨x, hx, hsb⟩ := e2 b y hb
        obtain ⟨x', hx', hsb'⟩ := e2 b' y' hb'
        exact hr.inj b b' x x' hx hx' (by rw [hsb.shd, hsb'.shd]; exact hs) hg hg' he
      · rw [hp.kept b (by omega) hn]
        have := List.all_eq_true.1 o3 b (List.mem_range.2 (by omega))
        simp only [Bool.or_eq_true] at this
        rcases this with h | h
        · exact absurd (by simpa using h) hn
        · exact sameO_eq h
    · cases h
  · cases h

/-- The same walk, told over an environment that agrees at the beginning. -/
theorem entry2_ok {c : Code} {ρ1 : Env} {T0 T : List SV} {H0 H : Hp} {r : Res} {l : List Pr} (h : entry T0 H0 T H r.2.2.2 = some l) (hl : All ρ ρ1 l) (hL : Leads2 P ρ1 ρ' c T H r) : Leads2 P ρ ρ' c T0 H0 r := by
  unfold entry at h
  split at h
  · rename_i ho
    simp only [Bool.and_eq_true, decide_eq_true_eq] at ho
    obtain ⟨o1, o2, o3⟩ := ho
    obtain ⟨f1, f2⟩ := fitsH_ok o2
    split at h
    · rename_i l1 l2 q1 q2
      cases h
      intro ro m B ds σ a w Q hTr hr hM hQ
      have e := prT_ok (ρ := ρ) (ρ' := ρ1) σ q1 hl.left
      have e2 := prH_ok (ρ := ρ) (ρ' := ρ1) σ q2 hl.right
      refine hL ro m B ds σ a w Q ⟨fun t ht => ?_, fun v hv => insideL_mem f1 hv, by rw [hTr.size, e.1], hTr.defers⟩ ⟨fun b y hb => ?_, fun b b' y y' hb hb' hs hg hg' he => ?_⟩ hM fun ds' σ' a' w' hp hT' hM' => hQ ds' σ' a' w' ⟨by rw [o1]; exact hp.ext, by rw [o1]; exact hp.len, hp.rel, by rw [o1]; exact hp.new, hp.os, hp.tape, hp.out, hp.size, hp.kd, by rw [o1]; exact hp.frame, fun b hb hn => ?_⟩ hT' hM'
      · obtain ⟨g1, g2⟩ := e.2 t ht
        rw [hTr.val t g1, g2]
      · obtain ⟨x, hx, hsb⟩ := e2 b y hb
        exact ⟨f2 b y hb, hsb.at_ (hr.blk b x hx).2⟩
      · obtain ⟨x, hx, hsb⟩ := e2 b y hb
        obtain ⟨x', hx', hsb'⟩ := e2 b' y' hb'
        exact hr.inj b b' x x' hx hx' (by rw [hsb.shd, hsb'.shd]; exact hs) hg hg' he
      · rw [hp.kept b (by omega) hn]
        have := List.all_eq_true.1 o3 b (List.mem_range.2 (by omega))
        simp only [Bool.or_eq_true] at this
        rcases this with h | h
        · exact absurd (by simpa using h) hn
        · exact sameO_eq h
    · cases h
  · cases h

/-- One run of a loop's body, over an environment that has more numbers. -/
theorem step2_ok {ρ1 : Env} (hm : P.follows .mixedOrders = true) (hn : namesOk P = true) (hΓ : Γ.Holds P ρ1) {Λ : List LoopF} (hΛ : ∀ l ∈ Λ, l.Ok P ρ1) {lf d : Nat} {f : FuncId} {p : List Nat} {T : List SV} {H : Hp} {r : Res} {l0 l : List Pr}
    (h0 : entry T H T H r.2.2.2 = some l0) (hl0 : All ρ ρ1 l0) (h : step P Γ Λ lf d f p T H r = some l) (hl : All ρ1 ρ' l) : ∀ x, codeAt P f p = some (.loop x) → Leads2 P ρ ρ' x T H r :=
  fun x hx => entry2_ok h0 hl0 (step_ok hm hn hΓ hΛ h hl x hx)

/-- A fact about a loop, from its rounds. -/
theorem loopF_ok {ι : Type} {env : ι → Env} {good : ι → Prop} (rk : ι → Nat) {l : LoopF} {T : List SV} {H : Hp} {pr : List Pr} (hr1 : l.r.1 ≠ .normal) (i0 : ι) (h0 : good i0) (he : entry l.T l.H T H l.r.2.2.2 = some pr) (hp : All ρ (env i0) pr)
    (hs : ∀ i, good i → (∃ j, good j ∧ rk j < rk i ∧ ∀ x, codeAt P l.f l.path = some (.loop x) → Leads2 P (env i) (env j) x T H (.normal, T, H, l.r.2.2.2)) ∨ ∀ x, codeAt P l.f l.path = some (.loop x) → Leads2 P (env i) ρ x T H l.r) : l.Ok P ρ := by
  intro x hx
  refine entry_ok he hp (loop_ok rk hr1 (fun i hi => ?_) i0 h0)
  rcases hs i hi with ⟨j, hj, hlt, h⟩ | h
  · exact .inl ⟨j, hj, hlt, h x hx⟩
  · exact .inr (h x hx)

/-- An environment by its numbers. -/
def lenv (l : List Int) : Env := ⟨fun i => l.getD i 0, fun _ => false, fun _ => .empty, fun _ => .nilFunc, fun _ _ => 0⟩
end Go.Proofs.Ytgdhpgjfebinhaa.Ev
