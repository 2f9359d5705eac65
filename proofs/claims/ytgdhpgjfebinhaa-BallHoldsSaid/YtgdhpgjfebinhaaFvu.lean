/- The symbolic machine's ends: what a walk leaves, told by other terms and other numbers of blocks. -/
import Derived.Test.YtgdhpgjfebinhaaFvs
namespace Go.Proofs.Ytgdhpgjfebinhaa.Ev
set_option linter.unusedSimpArgs false
open Go Go.RowKit
set_option linter.unusedVariables false
set_option linter.unusedSectionVars false
variable {P : Program} {ρ ρ' : Env}
variable {ds : List Deferred}

/-- The same block, over another environment and other numbers of blocks. -/
structure SameBlkM (ρ ρ' : Env) (σ τ : Sg) (x y : Blk) : Prop where
  elem : x.elem = y.elem
  opn : x.opn = y.opn
  ro : x.ro = y.ro
  len : x.cells.length = y.cells.length
  den : y.isRec = false → denL ρ σ x.cells = denL ρ' τ y.cells
  rcd : y.isRec = true → RecEq ρ ρ' σ τ x.cells y.cells
  none_ : y.abs = none → x.abs = none
  some_ : ∀ B, y.abs = some B → ∃ A, x.abs = some A ∧ A.sh = B.sh ∧ A.n.den ρ = B.n.den ρ' ∧ A.cols.length = B.cols.length ∧ ∀ j s, cellsV ρ j s A.cols = cellsV ρ' j s B.cols
theorem SameBlkM.shd {σ τ : Sg} {x y : Blk} (h : SameBlkM ρ ρ' σ τ x y) : x.shd = y.shd := by
  unfold Blk.shd
  rw [h.ro]
  cases hy : y.abs with
  | none => rw [h.none_ hy]
  | some B => obtain ⟨A, hA, _⟩ := h.some_ B hy; rw [hA]; rfl
theorem SameBlkM.isRec {σ τ : Sg} {x y : Blk} (h : SameBlkM ρ ρ' σ τ x y) : x.isRec = y.isRec := by
  unfold Blk.isRec
  rw [h.ro, h.opn]
  cases hy : y.abs with
  | none => rw [h.none_ hy]
  | some B => obtain ⟨A, hA, _⟩ := h.some_ B hy; rw [hA]; rfl
theorem SameBlkM.at_ {σ τ : Sg} {x y : Blk} (h : SameBlkM ρ ρ' σ τ x y) {p : Pl} {w : World} (hx : BlkAt P ρ σ x p w) : BlkAt P ρ' τ y p w := by
  refine ⟨fun hy hn => ?_, fun B hB => ?_, fun hrc => (hx.rcd (by rw [h.isRec]; exact hrc)).conv h.elem h.len (h.rcd hrc)⟩
  · obtain ⟨g1, g2, rest, fr, g3, g4, g5, g6⟩ := hx.con (h.none_ hy) (by rw [h.isRec]; exact hn)
    exact ⟨g1, g2, rest, fr, by rw [← h.den hn, ← h.elem]; exact g3, by rw [← h.opn, ← h.ro]; exact g4, by rw [← h.opn, ← h.len, ← h.elem]; exact g5, by rw [← h.ro]; exact g6⟩
  · obtain ⟨A, hA, e1, e2, e3, e4⟩ := h.some_ B hB
    obtain ⟨g1, g2, g3, g4, g5⟩ := hx.row A hA
    refine ⟨by rw [← e2]; exact g1, by rw [← e1]; exact fitC_len2 _ _ _ g2 e3.symm, (fun a ha => by rw [← e2]; exact g3 a ha), (fun hg => ?_), (fun hg => by rw [← e2]; exact g5 hg)⟩
    obtain ⟨c, t, fr, k1, k2, k3⟩ := g4 hg
    refine ⟨c, t, fr, k1, fun j i hj hi => ?_, fun hro => ?_⟩
    · rw [← e1, ← e4]; exact k2 j i (by rw [e2]; exact hj) (by rw [e1]; exact hi)
    · obtain ⟨l1, l2, l3, l4, l5, l6⟩ := k3 (by rw [h.ro]; exact hro)
      exact ⟨by rw [← h.elem]; exact l1, l2, l3, by rw [← h.elem]; exact l4, by rw [← h.elem, ← e1]; exact l5, by rw [← e2]; exact l6⟩
/-- Slots: what is not told is left. -/
def prTM (bm : Nat → Nat) : List SV → List SV → Option (List Pr)
  | [], [] => some []
  | a :: l, b :: r => if b.isAny then prTM bm l r else (match prM bm a b, prTM bm l r with
    | some x, some y => some (x ++ y)
    | _, _ => none)
  | _, _ => none
theorem prTM_ok {bm : Nat → Nat} {σ τ : Sg} {n : Nat} (hb : ∀ b, b < n → τ.pl b = σ.pl (bm b)) : ∀ {T U : List SV} {l : List Pr}, prTM bm T U = some l → insideL n U = true → All ρ ρ' l → U.length = T.length ∧ ∀ t, (U.getD t uS).isAny = false → (T.getD t uS).isAny = false ∧ (T.getD t uS).den ρ σ = (U.getD t uS).den ρ' τ
  | [], [], l, h, hi, hl => ⟨rfl, fun t _ => ⟨rfl, rfl⟩⟩
  | a :: T, b :: U, l, h, hi, hl => by
    simp only [prTM] at h
    simp only [insideL, Bool.and_eq_true] at hi
    split at h
    · rename_i hb'
      obtain ⟨e, f⟩ := prTM_ok hb h hi.2 hl
      refine ⟨by simp [e], fun t ht => ?_⟩
      cases t with
      | zero => simp at ht; rw [hb'] at ht; cases ht
      | succ t => exact f t ht
    · split at h
      · rename_i x y hx hy
        cases h
        obtain ⟨e, f⟩ := prTM_ok hb hy hi.2 hl.right
        refine ⟨by simp [e], fun t ht => ?_⟩
        cases t with
        | zero =>
          refine ⟨?_, prM_ok hb _ _ _ hx hi.1 hl.left⟩
          show a.isAny = false
          cases a <;> first | rfl | (cases b <;> simp [prM] at hx)
        | succ t => exact f t ht
      · cases h
  | [], _ :: _, l, h, hi, hl => by simp [prTM] at h
  | _ :: _, [], l, h, hi, hl => by simp [prTM] at h
def prBM (bm : Nat → Nat) (x y : Blk) : Option (List Pr) := if x.elem = y.elem ∧ x.opn = y.opn ∧ x.ro = y.ro ∧ x.cells.length = y.cells.length then (match (if y.isRec then (if (y.cells.getD 0 uS).isAny then none else prTM bm x.cells y.cells) else prML bm x.cells y.cells), prA x.abs y.abs with
  | some p, some q => some (p ++ q)
  | _, _ => none) else none
theorem prBM_ok {bm : Nat → Nat} {σ τ : Sg} {n : Nat} (hb : ∀ b, b < n → τ.pl b = σ.pl (bm b)) {x y : Blk} {l : List Pr} (h : prBM bm x y = some l) (hi : insideL n y.cells = true) (hl : All ρ ρ' l) : SameBlkM ρ ρ' σ τ x y := by
  unfold prBM at h
  split at h
  · rename_i e
    split at h
    · rename_i p q hp hq
      cases h
      refine ⟨e.1, e.2.1, e.2.2.1, e.2.2.2, (fun hn => by rw [hn] at hp; exact prML_ok hb _ _ _ hp hi hl.left), (fun hn => ?_), fun hy => ?_, fun B hB => ?_⟩
      · rw [hn] at hp
        simp only [if_true] at hp
        split at hp
        · cases hp
        · rename_i h0
          exact ⟨fun _ => by simpa using h0, (prTM_ok hb hp hi hl.left).2⟩
      · rw [hy] at hq
        cases hx : x.abs with
        | none => rfl
        | some A => rw [hx] at hq; simp [prA] at hq
      · rw [hB] at hq
        cases hx : x.abs with
        | none => rw [hx] at hq; simp [prA] at hq
        | some A =>
          rw [hx] at hq
          simp only [prA] at hq
          split at hq
          · rename_i es
            obtain ⟨r, hr, rfl⟩ := Option.map_eq_some_iff.1 hq
            have := prC_ok hr hl.right.right
            exact ⟨A, rfl, es, prN_ok hl.right.left, this.1, this.2⟩
          · cases hq
    · cases h
  · cases h
/-- All blocks that are told, each as the one of the walk that it stands for. -/
def prHM (bm : Nat → Nat) (H1 : Hp) : Nat → Hp → Option (List Pr)
  | _, [] => some []
  | k, none :: r => prHM bm H1 (k + 1) r
  | k, some y :: r => (match getB H1 (bm k) with
    | some x => (match prBM bm x y, prHM bm H1 (k + 1) r with
      | some p, some q => some (p ++ q)
      | _, _ => none)
    | none => none)
theorem prHM_ok {bm : Nat → Nat} {H1 : Hp} : ∀ {K : Hp} {k : Nat} {l : List Pr}, prHM bm H1 k K = some l → All ρ ρ' l → ∀ (b : Nat) (y : Blk), K[b]? = some (some y) → ∃ x p, H1[bm (k + b)]? = some (some x) ∧ prBM bm x y = some p ∧ All ρ ρ' p
  | [], k, l, h, hl, b, y, hb => by simp at hb
  | none :: r, k, l, h, hl, b, y, hb => by
    simp only [prHM] at h
    cases b with
    | zero => simp at hb
    | succ b =>
      have := prHM_ok h hl b y (by simpa using hb)
      rwa [show k + 1 + b = k + (b + 1) by omega] at this
  | some z :: r, k, l, h, hl, b, y, hb => by
    simp only [prHM] at h
    split at h
    · rename_i x hx
      split at h
      · rename_i p q hp hq
        cases h
        cases b with
        | zero => simp at hb; subst hb; exact ⟨x, p, getB_some hx, hp, hl.left⟩
        | succ b =>
          have := prHM_ok hq hl.right b y (by simpa using hb)
          rwa [show k + 1 + b = k + (b + 1) by omega] at this
      · cases h
    · cases h

def nodupN : List Nat → Bool
  | [] => true
  | a :: l => !l.contains a && nodupN l
theorem nodupN_get : ∀ {l : List Nat}, nodupN l = true → ∀ i j : Nat, i < j → j < l.length → l.getD i 0 ≠ l.getD j 0
  | [], _, i, j, _, hj => by simp at hj
  | a :: l, h, i, j, hij, hj => by
    simp only [nodupN, Bool.and_eq_true, Bool.not_eq_true'] at h
    cases j with
    | zero => omega
    | succ j =>
      cases i with
      | zero =>
        simp only [List.getD_cons_zero, List.getD_cons_succ]
        intro e
        have hm : l.getD j 0 ∈ l := by
          simp at hj
          rw [List.getD_eq_getElem?_getD, List.getElem?_eq_getElem hj]
          exact List.getElem_mem hj
        rw [← e] at hm
        have := h.1
        rw [List.contains_eq_mem] at this
        simp [hm] at this
      | succ i =>
        simp only [List.getD_cons_succ]
        exact nodupN_get h.2 i j (by omega) (by simpa using hj)
def renB (n0 : Nat) (ren : List Nat) (b : Nat) : Nat := if Nat.blt b n0 then b else ren.getD (b - n0) 0
theorem renB_old {n0 b : Nat} (ren : List Nat) (h : b < n0) : renB n0 ren b = b := by unfold renB; rw [if_pos (Nat.blt_eq.mpr h)]
theorem renB_new {n0 b : Nat} (ren : List Nat) (h : n0 ≤ b) : renB n0 ren b = ren.getD (b - n0) 0 := by
  unfold renB; rw [if_neg (fun h' => by have := Nat.blt_eq.mp h'; omega)]
/-- That the slots T1 and the blocks H1 may be told as Tt and Ht. -/
def convChk (z : Sz) (x : X3) (H0 : Hp) (W : List Nat) (T1 : List SV) (H1 : Hp) (W1 : List Nat) (Tt : List SV) (Ht : Hp) (ren : List Nat) : Bool :=
  Nat.ble H0.length Ht.length && (Nat.ble H0.length H1.length && (Nat.beq ren.length (Ht.length - H0.length) && (ren.all (fun b => Nat.ble H0.length b && Nat.blt b H1.length) && (nodupN ren &&
  (W1.all (fun b => Nat.ble H0.length b || W.contains b) && (fitsH Ht.length Tt Ht && ((List.range H0.length).all (fun b => W.contains b || sameO Ht[b]? H0[b]?) &&
  (match prTM (renB H0.length ren) T1 Tt, prHM (renB H0.length ren) H1 0 Ht with
    | some l1, some l2 => (l1 ++ l2).all (prSub z x)
    | _, _ => false))))))))
/-- So it is: the places of the told blocks are those of the walk's. -/
theorem conv_ok {V : Vs} {z : Sz} (hz : z.le V.sz) {x : X3} {H0 : Hp} {W : List Nat} {T1 : List SV} {H1 : Hp} {W1 : List Nat} {Tt : List SV} {Ht : Hp} {ren : List Nat} (h : convChk z x H0 W T1 H1 W1 Tt Ht ren = true)
    {ρ0 : Env} {σ0 σ1 : Sg} {w0 w1 : World} {a : Act} (hp : Post P (envV V) σ0 σ1 H0 H1 (W ++ W1) w0 w1) (hT : TRel ds (envV V) σ1 H1.length T1 a) :
    ∃ σ2, Post P (envV (V.put z x)) σ0 σ2 H0 Ht W w0 w1 ∧ TRel ds (envV (V.put z x)) σ2 Ht.length Tt a := by
  simp only [convChk, Bool.and_eq_true] at h
  obtain ⟨h1, h1', h2, h3, h4, h5, h6, h7, h8⟩ := h
  have h1 := Nat.le_of_ble_eq_true h1
  have h1' := Nat.le_of_ble_eq_true h1'
  have h2 := Nat.eq_of_beq_eq_true h2
  split at h8
  case h_2 => cases h8
  rename_i l1 l2 q1 q2
  have hA := prSub_ok hz h8
  obtain ⟨f1, f2⟩ := fitsH_ok h6
  have h3' : ∀ b, H0.length ≤ b → b < Ht.length → H0.length ≤ renB H0.length ren b ∧ renB H0.length ren b < H1.length := by
    intro b hb hlt
    rw [renB_new ren hb]
    have hl : b - H0.length < ren.length := by omega
    have hm : ren.getD (b - H0.length) 0 ∈ ren := by
      rw [List.getD_eq_getElem?_getD, List.getElem?_eq_getElem hl]; exact List.getElem_mem hl
    have := List.all_eq_true.1 h3 _ hm
    simp only [Bool.and_eq_true] at this
    exact ⟨Nat.le_of_ble_eq_true this.1, Nat.blt_eq.mp this.2⟩
  have hinj : ∀ b b', b < Ht.length → b' < Ht.length → renB H0.length ren b = renB H0.length ren b' → b = b' := by
    intro b b' hb hb' he
    rcases Nat.lt_or_ge b H0.length with g | g <;> rcases Nat.lt_or_ge b' H0.length with g' | g'
    · rwa [renB_old ren g, renB_old ren g'] at he
    · have := (h3' b' g' hb').1
      rw [renB_old ren g] at he; omega
    · have := (h3' b g hb).1
      rw [renB_old ren g'] at he; omega
    · rw [renB_new ren g, renB_new ren g'] at he
      rcases Nat.lt_trichotomy b b' with hlt | heq | hgt
      · exact absurd he (nodupN_get h4 _ _ (by omega) (by omega))
      · exact heq
      · exact absurd he.symm (nodupN_get h4 _ _ (by omega) (by omega))
  have hWW : ∀ b ∈ W ++ W1, b < H0.length → b ∈ W := by
    intro b hb hlt
    rcases List.mem_append.1 hb with hb | hb
    · exact hb
    · have := List.all_eq_true.1 h5 b hb
      simp only [Bool.or_eq_true] at this
      rcases this with h | h
      · have := Nat.le_of_ble_eq_true h; omega
      · simpa using h
  let σ2 : Sg := ⟨fun b => σ1.blk (renB H0.length ren b), fun b => σ1.cap (renB H0.length ren b), fun b => σ1.off (renB H0.length ren b), fun b => σ1.gh (renB H0.length ren b)⟩
  have hpl : ∀ b, b < Ht.length → σ2.pl b = σ1.pl (renB H0.length ren b) := fun b _ => rfl
  have hold : ∀ b, b < H0.length → σ2.pl b = σ1.pl b := fun b hb => by rw [hpl b (by omega), renB_old ren hb]
  have hsb : ∀ (b : Nat) (y : Blk), Ht[b]? = some (some y) → ∃ x', H1[renB H0.length ren b]? = some (some x') ∧ SameBlkM (envV V) (envV (V.put z x)) σ1 σ2 x' y := by
    intro b y hb
    obtain ⟨x', p, hx', hp', hA'⟩ := prHM_ok q2 hA.right b y hb
    rw [Nat.zero_add] at hx'
    exact ⟨x', hx', prBM_ok hpl hp' (f2 b y hb) hA'⟩
  have hlt : ∀ {b : Nat} {y : Blk}, Ht[b]? = some (some y) → b < Ht.length := fun hb => (List.getElem?_eq_some_iff.1 hb).1
  obtain ⟨e, f⟩ := prTM_ok hpl q1 f1 hA.left
  refine ⟨σ2, ⟨fun b hb => ?_, h1, ⟨fun b y hb => ?_, fun b b' y y' hb hb' hs hg hg' he => ?_⟩, fun b k1 k2 hg => ?_, hp.os, hp.tape, hp.out, hp.size, hp.kd, fun k hk hW => hp.frame k hk fun b hb hl hg => hW b (hWW b hb hl) hl hg, fun b hb hn => ?_⟩, ⟨fun t ht => ?_, fun v hv => insideL_mem f1 hv, by rw [hT.size, e], hT.defers⟩⟩
  · have := hold b hb
    have q := hp.ext b hb
    simp only [Sg.pl, Pl.mk.injEq] at this
    exact ⟨this.1.trans q.1, this.2.1.trans q.2.1, this.2.2.1.trans q.2.2.1, this.2.2.2.trans q.2.2.2⟩
  · obtain ⟨x', hx', hs⟩ := hsb b y hb
    exact ⟨f2 b y hb, hs.at_ (hp.rel.blk _ x' hx').2⟩
  · obtain ⟨x', hx', hs1⟩ := hsb b y hb
    obtain ⟨x2, hx2, hs2⟩ := hsb b' y' hb'
    exact hinj b b' (hlt hb) (hlt hb') (hp.rel.inj _ _ x' x2 hx' hx2 (by rw [hs1.shd, hs2.shd]; exact hs) hg hg' he)
  · obtain ⟨k3, k4⟩ := h3' b k1 k2
    exact (hp.new _ k3 k4 hg).imp id fun ⟨c, hc, h, hcg, hce⟩ => ⟨c, hWW c hc h, h, hcg, hce⟩
  · have := List.all_eq_true.1 h7 b (List.mem_range.2 hb)
    simp only [Bool.or_eq_true] at this
    rcases this with h | h
    · exact absurd (by simpa using h) hn
    · exact sameO_eq h
  · obtain ⟨g1, g2⟩ := f t ht
    rw [hT.val t g1, g2]

/-- Rows that are ready for a loop: one's own go by a new name, and no elements become a row. -/
inductive Absb where
  | mv (b : Nat)
  | gh (t : Nat) (e : TypeId) (sh : List CK)
  | row (t : Nat) (e : TypeId) (sh : List CK)
  deriving Inhabited
/-- A slice of cells, all of its own: where it lies, how many elements, how many places (0: those of the block). -/
def ownS : SV → Option (Nat × Nat × Option Nat)
  | .slice (some a) n c => if a.off = 0 ∧ a.spot = none then some (a.block, n, some c) else none
  | .vec b n => some (b, n, none)
  | _ => none
def reRow (v0 : SV) (h n : Nat) (v : SV) : SV := if v.same v0 then .asl h (.lit n) else v
/-- Its cells as a row. -/
def rowB (P : Program) (b n : Nat) (c : Option Nat) (e : TypeId) (sh : List CK) (H : Hp) : Option Blk := (getC H b).bind fun y =>
  if y.ro = false ∧ y.elem = e ∧ P.cellsOf e = sh.length ∧ 0 < sh.length ∧ n * sh.length ≤ y.cells.length ∧ (match c with | some c => !y.opn && decide (y.cells.length = c * sh.length) | none => y.opn) = true then
    (rowOfL {} sh 0 n (y.cells.take (n * sh.length)) (zeroC sh)).map fun l => ⟨[], e, false, true, some ⟨.lit n, sh, l⟩⟩
  else none
def reAsl (b h : Nat) (v : SV) : SV := match v with
  | .asl c n => if c = b then .asl h n else .asl c n
  | v => v
def absb1 (P : Program) (x : Absb) (T : List SV) (H : Hp) : Option (List SV × Hp × List Nat) := match x with
  | .mv b => (match getB H b with
    | some y => if y.ro = false ∧ y.abs.isSome = true then some (T.map (reAsl b H.length), H.set b none ++ [some y], [b]) else none
    | none => none)
  | .gh t e sh => (match T[t]? with
    | some (.slice base 0 0) => some (T.set t (.asl H.length (.lit 0)), H ++ [some ⟨[], e, false, true, some ⟨.lit 0, sh, zeroC sh⟩⟩], [])
    | _ => none)
  | .row t e sh => (T[t]?).bind fun v => (ownS v).bind fun q => (rowB P q.1 q.2.1 q.2.2 e sh H).map fun y => (T.map (reRow v H.length q.2.1), H.set q.1 none ++ [some y], [q.1])
def absb (P : Program) : List Absb → List SV → Hp → Option (List SV × Hp × List Nat)
  | [], T, H => some (T, H, [])
  | x :: l, T, H => match absb1 P x T H with
    | some (T1, H1, W1) => (match absb P l T1 H1 with
      | some (T2, H2, W2) => some (T2, H2, W1 ++ W2)
      | none => none)
    | none => none
theorem noFacts {ρ : Env} : Facts.Holds P ρ {} :=
  ⟨(fun _ h => by cases h), (fun _ h => by cases h), (fun _ h => by cases h), (fun _ h => by cases h), (fun _ h => by cases h), (fun _ h => by cases h), (fun _ h => by cases h), (fun _ h => by cases h), ⟨(fun _ h => by cases h), (fun _ h => by cases h), (fun _ h => by cases h), (fun _ h => by cases h)⟩, (fun _ h => by cases h)⟩
theorem rowB_ok {σ : Sg} {H : Hp} {w : World} (hr : HRel P ρ σ H w) {b n : Nat} {c : Option Nat} {e : TypeId} {sh : List CK} {y : Blk} (h : rowB P b n c e sh H = some y) :
    ∃ cap, (∀ k, c = some k → cap = k) ∧ (c = none → cap = σ.cap b) ∧ σ.gh b = none ∧ σ.off b = 0 ∧ Post P ρ σ (σ.snocP H.length ⟨σ.blk b, cap, 0, none⟩) H (H.set b none ++ [some y]) [b] w w := by
  unfold rowB at h
  obtain ⟨z, hz, h0⟩ := Option.bind_eq_some_iff.1 h
  clear h
  rw [Option.ite_none_right_eq_some] at h0
  · obtain ⟨⟨hro, rfl, hcs, hpos, hle, hopn⟩, h0⟩ := h0
    obtain ⟨l, hl, hy⟩ := Option.map_eq_some_iff.1 h0
    clear h0
    subst hy
    obtain ⟨hzi, rest, hrow, h1, h2⟩ := hr.con hz hro
    obtain ⟨hb, hab, hrc⟩ := getC_some hz
    obtain ⟨hg, hoff, _⟩ := (hr.blk b z hb).2.con hab hrc
    obtain ⟨g1, _, g3⟩ := rowOfL_ok (P := P) (ρ := ρ) noFacts σ n 0 _ _ l hl (by simp; omega) (zeroC_fit sh)
    have hrv : rowsV ρ ⟨.lit n, sh, l⟩ n = denL ρ σ (z.cells.take (n * sh.length)) := by
      unfold rowsV
      rw [← g3]; simp
    have hsplit : denL ρ σ z.cells ++ rest = rowsV ρ ⟨.lit n, sh, l⟩ n ++ (denL ρ σ (z.cells.drop (n * sh.length)) ++ rest) := by
      rw [hrv, ← List.append_assoc, ← denL_append, List.take_append_drop]
    have hlen : ∃ cap, (∀ k, c = some k → cap = k) ∧ (c = none → cap = σ.cap b) ∧ z.cells.length + rest.length = cap * P.cellsOf z.elem := by
      cases c with
      | some k =>
        simp only [Bool.and_eq_true, Bool.not_eq_true', decide_eq_true_eq] at hopn
        refine ⟨k, fun _ h => Option.some.inj h, (fun h => by cases h), ?_⟩
        rw [h1 hopn.1, hcs, hopn.2]; simp
      | none => exact ⟨σ.cap b, (fun _ h => by cases h), fun _ => rfl, h2 hopn⟩
    obtain ⟨cap, c1, c2, c3⟩ := hlen
    refine ⟨cap, c1, c2, hg, hoff, ?_⟩
    have hncap : n ≤ cap := by
      have : n * sh.length ≤ cap * sh.length := by rw [hcs] at c3; omega
      exact Nat.le_of_mul_le_mul_right this hpos
    refine Post.moveP (w' := w) hr hb rfl hg.symm (fun h => by rw [hrc] at h; cases h) (by simp [Blk.shd, hab]) rfl (BlkAt.ofRow rfl ?_) rfl rfl rfl rfl fun _ _ _ => rfl
    refine rowAt_of (P := P) (A := ⟨.lit n, sh, l⟩) (K := n) (rest := denL ρ σ (z.cells.drop (n * sh.length)) ++ rest) (by simp [NE.den]) (by simp [NE.den]) g1 (by rw [← hsplit]; exact hrow) ?_ hcs.symm hncap
    rw [hrv]
    simp only [List.length_append, denL_length, List.length_take, List.length_drop]
    rw [Nat.min_eq_left hle]
    omega
theorem absb1_ok {x : Absb} {T T' : List SV} {H H' : Hp} {W : List Nat} (h : absb1 P x T H = some (T', H', W)) {σ : Sg} {w : World} {a : Act} (hr : HRel P ρ σ H w) (hT : TRel ds ρ σ H.length T a) :
    ∃ σ', Post P ρ σ σ' H H' W w w ∧ TRel ds ρ σ' H'.length T' a := by
  cases x with
  | mv b =>
    simp only [absb1] at h
    split at h
    · rename_i y hy
      split at h
      · rename_i hc
        cases h
        have hb := getB_some hy
        have hlt : b < H.length := (List.getElem?_eq_some_iff.1 hb).1
        obtain ⟨hi, hat⟩ := hr.blk b y hb
        have ha := σ.snocP_agree H.length (σ.pl b)
        have hp := Post.move (w' := w) hr hb (fun h => h) (by simp [Blk.shd, hc.1]) (y := y) hi (hat.to (denL_agree ha _ hi) fun _ => rfl) rfl rfl rfl rfl fun _ _ _ => rfl
        refine ⟨_, hp, ?_⟩
        have hm := hT.mono (m := H.length + 1) ha (Nat.le_succ _)
        have key : ∀ v : SV, v.inside H.length = true → (reAsl b H.length v).den ρ (σ.snocP H.length (σ.pl b)) = v.den ρ (σ.snocP H.length (σ.pl b)) ∧ (reAsl b H.length v).inside (H.length + 1) = true ∧ ((reAsl b H.length v).isAny = v.isAny) := by
          intro v hv
          unfold reAsl
          split
          · rename_i c n
            split
            · rename_i e
              subst e
              have h1 : (σ.snocP H.length (σ.pl c)).pl H.length = (σ.snocP H.length (σ.pl c)).pl c := by rw [Sg.snocP_pl, ha.pl hlt]
              have b1 : (σ.snocP H.length (σ.pl c)).blk H.length = (σ.snocP H.length (σ.pl c)).blk c := congrArg Pl.blk h1
              have b2 : (σ.snocP H.length (σ.pl c)).cap H.length = (σ.snocP H.length (σ.pl c)).cap c := congrArg Pl.cap h1
              have b3 : (σ.snocP H.length (σ.pl c)).off H.length = (σ.snocP H.length (σ.pl c)).off c := congrArg Pl.off h1
              have b4 : (σ.snocP H.length (σ.pl c)).gh H.length = (σ.snocP H.length (σ.pl c)).gh c := congrArg Pl.gh h1
              refine ⟨?_, by simp [SV.inside], rfl⟩
              simp only [SV.den, b1, b2, b3, b4]
            · exact ⟨rfl, SV.inside_mono (Nat.le_succ _) _ hv, rfl⟩
          · exact ⟨rfl, SV.inside_mono (Nat.le_succ _) _ hv, rfl⟩
        refine ⟨fun t ht => ?_, fun v hv => ?_, by rw [hm.size]; simp, hm.defers⟩
        · rw [List.getD_eq_getElem?_getD, List.getElem?_map] at ht ⊢
          cases hq : T[t]? with
          | none =>
            have e0 : T.getD t uS = uS := by rw [List.getD_eq_getElem?_getD, hq]; rfl
            have := hm.val t (by rw [e0]; rfl)
            rw [this, e0]; rfl
          | some v =>
            have e0 : T.getD t uS = v := by rw [List.getD_eq_getElem?_getD, hq]; rfl
            have hv := hT.ins v (List.mem_of_getElem? hq)
            obtain ⟨k1, _, k3⟩ := key v hv
            rw [hq] at ht
            simp only [Option.map_some, Option.getD_some] at ht ⊢
            rw [k3] at ht
            rw [k1, ← e0]
            exact hm.val t (by rw [e0]; exact ht)
        · obtain ⟨u, hu, rfl⟩ := List.mem_map.1 hv
          have := (key u (hT.ins u hu)).2.1
          simpa using this
      · cases h
    · cases h
  | gh t e sh =>
    simp only [absb1] at h
    split at h
    · rename_i base ht0
      cases h
      have hp := Post.add (w' := w) hr ⟨[], e, false, true, some ⟨.lit 0, sh, zeroC sh⟩⟩ ⟨0, 0, 0, some (base.map σ.addr)⟩ rfl (fun h => by cases h)
        (BlkAt.ofRows rfl rfl fun A hA => by
          simp only [Option.some.injEq] at hA; subst hA
          exact ⟨by simp [NE.den], zeroC_fit sh, (fun _ _ => by simp [NE.den]), (fun h => by cases h), (fun h => by cases h)⟩) rfl rfl rfl (Nat.le_refl _) fun _ _ => rfl
      refine ⟨_, hp, ?_⟩
      have ha := σ.snocP_agree H.length ⟨0, 0, 0, some (base.map σ.addr)⟩
      have hm := hT.mono (m := H.length + 1) ha (Nat.le_succ _)
      have hlt : t < T.length := (List.getElem?_eq_some_iff.1 ht0).1
      have e0 : T.getD t uS = .slice base 0 0 := by rw [List.getD_eq_getElem?_getD, ht0]; rfl
      refine ⟨fun s hs => ?_, fun v hv => ?_, by rw [hm.size]; simp, hm.defers⟩
      · by_cases hst : s = t
        · subst hst
          rw [List.getD_eq_getElem?_getD, List.getElem?_set_self hlt]
          have := hT.val s (by rw [e0]; rfl)
          rw [this, e0]
          simp [SV.den, Sg.snocP]
        · rw [List.getD_eq_getElem?_getD, List.getElem?_set_ne (Ne.symm hst), ← List.getD_eq_getElem?_getD] at hs ⊢
          exact hm.val s hs
      · rcases List.mem_or_eq_of_mem_set hv with hv | rfl
        · have := hm.ins v hv
          simpa using this
        · simp [SV.inside]
    · cases h
  | row t e sh =>
    simp only [absb1] at h
    obtain ⟨v0, hv0, h'⟩ := Option.bind_eq_some_iff.1 h
    clear h
    obtain ⟨⟨b, n, c⟩, hq, h⟩ := Option.bind_eq_some_iff.1 h'
    clear h'
    obtain ⟨y, hy, h'⟩ := Option.map_eq_some_iff.1 h
    clear h
    cases h'
    obtain ⟨cap, c1, c2, hg, hoff, hp⟩ := rowB_ok hr hy
    refine ⟨_, hp, ?_⟩
    have ha := σ.snocP_agree H.length ⟨σ.blk b, cap, 0, none⟩
    have hm := hT.mono (m := H.length + 1) ha (Nat.le_succ _)
    have hin0 := hT.ins v0 (List.mem_of_getElem? hv0)
    have hd0 : v0.den ρ (σ.snocP H.length ⟨σ.blk b, cap, 0, none⟩) = (SV.asl H.length (.lit n)).den ρ (σ.snocP H.length ⟨σ.blk b, cap, 0, none⟩) ∧ v0.isAny = false := by
      have e1 : (SV.asl H.length (.lit n)).den ρ (σ.snocP H.length ⟨σ.blk b, cap, 0, none⟩) = .slice (some ⟨σ.blk b, 0, none⟩) n cap := by simp [SV.den, Sg.snocP, NE.den]
      rw [e1, SV.den_agree ha _ hin0]
      unfold ownS at hq
      split at hq
      · rename_i a n' c'
        split at hq
        · rename_i hao
          cases hq
          have := c1 _ rfl
          subst this
          refine ⟨?_, rfl⟩
          obtain ⟨ab, ao, asp⟩ := a
          obtain ⟨rfl, rfl⟩ := hao
          simp [SV.den, Sg.addr]
        · cases hq
      · cases hq
        have := c2 rfl
        subst this
        exact ⟨by simp [SV.den], rfl⟩
      · cases hq
    have key : ∀ v : SV, v.inside H.length = true → (reRow v0 H.length n v).den ρ (σ.snocP H.length ⟨σ.blk b, cap, 0, none⟩) = v.den ρ (σ.snocP H.length ⟨σ.blk b, cap, 0, none⟩) ∧ (reRow v0 H.length n v).inside (H.length + 1) = true ∧ ((reRow v0 H.length n v).isAny = v.isAny) := by
      intro v hv
      unfold reRow
      split
      · rename_i hs
        have := SV.same_eq _ _ hs
        subst this
        exact ⟨hd0.1.symm, by simp [SV.inside], by rw [hd0.2]; rfl⟩
      · exact ⟨rfl, SV.inside_mono (Nat.le_succ _) _ hv, rfl⟩
    refine ⟨fun t ht => ?_, fun v hv => ?_, by rw [hm.size]; simp, hm.defers⟩
    · rw [List.getD_eq_getElem?_getD, List.getElem?_map] at ht ⊢
      cases hq : T[t]? with
      | none =>
        have e0 : T.getD t uS = uS := by rw [List.getD_eq_getElem?_getD, hq]; rfl
        have := hm.val t (by rw [e0]; rfl)
        rw [this, e0]; rfl
      | some v =>
        have e0 : T.getD t uS = v := by rw [List.getD_eq_getElem?_getD, hq]; rfl
        have hv := hT.ins v (List.mem_of_getElem? hq)
        obtain ⟨k1, _, k3⟩ := key v hv
        rw [hq] at ht
        simp only [Option.map_some, Option.getD_some] at ht ⊢
        rw [k3] at ht
        rw [k1, ← e0]
        exact hm.val t (by rw [e0]; exact ht)
    · obtain ⟨u, hu, rfl⟩ := List.mem_map.1 hv
      have := (key u (hT.ins u hu)).2.1
      simpa using this
theorem absb_ok : ∀ {l : List Absb} {T T' : List SV} {H H' : Hp} {W : List Nat}, absb P l T H = some (T', H', W) → ∀ {σ : Sg} {w : World} {a : Act}, HRel P ρ σ H w → TRel ds ρ σ H.length T a →
    ∃ σ', Post P ρ σ σ' H H' W w w ∧ TRel ds ρ σ' H'.length T' a
  | [], T, T', H, H', W, h, σ, w, a, hr, hT => by
    simp only [absb] at h; cases h
    exact ⟨σ, Post.refl hr, hT⟩
  | x :: l, T, T', H, H', W, h, σ, w, a, hr, hT => by
    simp only [absb] at h
    split at h
    · rename_i T1 H1 W1 h1
      split at h
      · rename_i T2 H2 W2 h2
        cases h
        obtain ⟨σ1, p1, t1⟩ := absb1_ok h1 hr hT
        obtain ⟨σ2, p2, t2⟩ := absb_ok h2 p1.rel t1
        exact ⟨σ2, p1.trans p2, t2⟩
      · cases h
    · cases h

/-- A walk, seen from the blocks at an earlier place. -/
def From (P : Program) (ρ ρ' : Env) (H0 : Hp) (W : List Nat) (c : Code) (T : List SV) (H : Hp) (e : Ex) (T' : List SV) (H' : Hp) : Prop :=
  ∀ (ro : Option Nat) (m B : Nat) (ds : List Deferred) (σ0 σ : Sg) (w0 w : World) (a : Act) (Q : Exit → Act → World → Prop), Post P ρ σ0 σ H0 H W w0 w → TRel ds ρ σ H.length T a → Marks ro B ds w →
    (∀ ds' σ' a' w', Post P ρ' σ0 σ' H0 H' W w0 w' → TRel ds' ρ' σ' H'.length T' a' → Marks ro B ds' w' → Q e.out a' w') → c.wpIn (Rn ro) m P Q a w
theorem from_ok {V : Vs} {z : Sz} (hz : z.le V.sz) {x : X3} {H0 : Hp} {W : List Nat} {c : Code} {T : List SV} {H : Hp} {e : Ex} {T1 : List SV} {H1 : Hp} {W1 : List Nat} {Tt : List SV} {Ht : Hp} {ren : List Nat}
    (hL : Leads P (envV V) c T H (e, T1, H1, W1)) (h : convChk z x H0 W T1 H1 W1 Tt Ht ren = true) : From P (envV V) (envV (V.put z x)) H0 W c T H e Tt Ht := by
  intro ro m B ds σ0 σ w0 w a Q hp hT hM hQ
  refine hL ro m B ds σ a w _ hT hp.rel hM fun ds1 σ1 a1 w1 hp1 hT1 hM1 => ?_
  obtain ⟨σ2, hp2, hT2⟩ := conv_ok hz h (ρ0 := envV V) (hp.trans hp1) hT1
  exact hQ ds1 σ2 a1 w1 hp2 hT2 hM1
/-- Rounds of a loop. -/
def FromR (P : Program) (ρ ρ' : Env) (H0 : Hp) (W : List Nat) (n : Nat) (c : Code) (T : List SV) (H : Hp) (e : Ex) (T' : List SV) (H' : Hp) : Prop :=
  ∀ (ro : Option Nat) (m B : Nat) (ds : List Deferred) (σ0 σ : Sg) (w0 w : World) (a : Act) (Q : Exit → Act → World → Prop), Post P ρ σ0 σ H0 H W w0 w → TRel ds ρ σ H.length T a → Marks ro B ds w →
    (∀ ds' σ' a' w', Post P ρ' σ0 σ' H0 H' W w0 w' → TRel ds' ρ' σ' H'.length T' a' → Marks ro B ds' w' → Q e.out a' w') → Code.roundsIn (Rn ro) m P c Q n a w
theorem FromR.out {H0 : Hp} {W : List Nat} {n : Nat} {c : Code} {T : List SV} {H : Hp} {e : Ex} {T' : List SV} {H' : Hp} (he : e ≠ .normal) (h : From P ρ ρ' H0 W c T H e T' H') : FromR P ρ ρ' H0 W (n + 1) c T H e T' H' := by
  intro ro m B ds σ0 σ w0 w a Q hp hT hM hQ
  rw [roundsIn_succ]
  refine h ro m B ds σ0 σ w0 w a _ hp hT hM fun ds' σ' a' w' hp' hT' hM' => ?_
  have := hQ ds' σ' a' w' hp' hT' hM'
  cases e with
  | normal => exact absurd rfl he
  | exit id => exact this
  | ret => exact this
theorem FromR.next {ρ1 : Env} {H0 : Hp} {W : List Nat} {n : Nat} {c : Code} {T : List SV} {H : Hp} {e : Ex} {T' : List SV} {H' : Hp} (h : From P ρ ρ1 H0 W c T H .normal T H) (h' : FromR P ρ1 ρ' H0 W n c T H e T' H') : FromR P ρ ρ' H0 W (n + 1) c T H e T' H' := by
  intro ro m B ds σ0 σ w0 w a Q hp hT hM hQ
  rw [roundsIn_succ]
  exact h ro m B ds σ0 σ w0 w a _ hp hT hM fun ds1 σ1 a1 w1 hp1 hT1 hM1 => h' ro m B ds1 σ0 σ1 w0 w1 a1 Q hp1 hT1 hM1 hQ
end Go.Proofs.Ytgdhpgjfebinhaa.Ev
